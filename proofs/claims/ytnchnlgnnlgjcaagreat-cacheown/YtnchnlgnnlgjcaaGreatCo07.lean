import Derived.Test.YtnchnlgnnlgjcaaGreatCo06
import Derived.Test.YtnchnlgnnlgjcaaGreatCo03
set_option linter.unusedVariables false
namespace Go.Proofs.YtnchnlgnnlgjcaaGreat
open Go.RowKit
attribute [local go_sem ↓] Go.wp_at_zero Go.wp_at_succ
theorem Tryz.infoPk:(Tryz.prog.info? 180).map (fun i=>(i.zero,i.size,i.bytes))=some (some (.agg #[.int .i32 0,.int .u32 0,.slice none 0 0,.slice none 0 0]),4,56):=by kernel_rfl
theorem Tryz.infoGp:(Tryz.prog.info? 177).map (fun i=>(i.zero,i.size,i.bytes))=some (some (.agg #[.int .i32 0,.int .u32 0,.slice none 0 0]),3,32):=by kernel_rfl
theorem packOne_any (z sc:Int) (a:Option Addr) (cp b:Nat) (l:List Int) (N:Nat) (w:World) (ha:Lst .i64 w a l) (hb:Pk.Ok b) (hl:l.length<=256) (hc:Pk.Cds b l) (hN:Pk.size b l.length=N) :
 Calls Tryz.prog 154 #[.agg #[.int .i32 z,.int .u32 sc,.slice a l.length cp],.int .i64 b] w fun e w'=>∃ g,e=.returned (.agg #[.int .i32 z,.int .u32 sc,.slice none 0 0,.slice (some ⟨g,0,none⟩) N N])/\w.heap.size<=g/\Lst .u64 w' (some ⟨g,0,none⟩) (Pk.pack b l)/\Below w.heap.size w w':=by
 have HA:Hid (Lst .i64 w a l):=ha
 have HB:Hid (Pk.Ok b):=hb
 have HC:Hid (Pk.Cds b l):=hc
 have HN:Hid (Pk.size b l.length=N):=hN
 clear ha hb hc hN
 go_enter Tryz.func154,Tryz.ntmps154
 go_wp2_with fail
 refine (pack_ok _ _ b l HB.out hl _ (HA.out.keep (two_boxes _ _ _)) HC.out).mono ?_
 rintro e v ⟨g,rfl,hg,hL,hbv⟩
 rw [HN.out]
 have q:=boxes_cells hbv
 have c0:=q.1 0 _ rfl
 have c1:=q.1 1 _ rfl
 have y0:=q.2 0 _ rfl
 have y1:=q.2 1 _ rfl
 have y2:=q.2 2 _ rfl
 have y3:=q.2 3 _ rfl
 have r1:v.rowIs (w.heap.size+1) 180 4 (fun i=>if i=0 then .int .i32 0 else if i=1 then .int .u32 0 else .slice none 0 0):=by
  have:=World.rowIs_alloc (w.alloc (.cells #[.int .i32 z,.int .u32 sc,.slice a l.length cp] 177)) #[.int .i32 0,.int .u32 0,.slice none 0 0,.slice none 0 0] 180 (fun i=>if i=0 then .int .i32 0 else if i=1 then .int .u32 0 else .slice none 0 0) (fun i hi=>by match i,hi with | 0,_=>rfl | 1,_=>rfl | 2,_=>rfl | 3,_=>rfl)
  rw [show (w.alloc (.cells #[.int .i32 z,.int .u32 sc,.slice a l.length cp] 177)).heap.size=w.heap.size+1 by simp] at this
  exact this.of_block (hbv.block _ (by simp))
 have f0:=r1.frozen 0
 have f1:=r1.frozen 1
 have f2:=r1.frozen 2
 have f3:=r1.frozen 3
 have hg2:w.heap.size+2<=g:=by simpa using hg
 have HL:Hid (Lst .u64 v (some ⟨g,0,none⟩) (Pk.pack b l)):=hL
 have BV:Hid (Below w.heap.size w v):=below_then (two_boxes _ _ _) hbv
 clear q hg hL hbv r1
 go_wp2
 refine bodyPost_ret (v:=.agg #[.int .i32 z,.int .u32 sc,.slice none 0 0,.slice (some ⟨g,0,none⟩) N N]) (by simp [results,Tryz.results154,go_sem,y0,y1,y2,y3]) rfl ⟨g,rfl,by omega,?_,?_⟩
 ·exact (((HL.out.set_otherP (fun x e=>by cases e;show ¬ g=w.heap.size+1;omega) _).set_otherP (fun x e=>by cases e;show ¬ g=w.heap.size+1;omega) _).set_otherP (fun x e=>by cases e;show ¬ g=w.heap.size+1;omega) _).set_otherP (fun x e=>by cases e;show ¬ g=w.heap.size+1;omega) _
 ·exact (((BV.out.setCell (by simp) _).setCell (by simp) _).setCell (by simp) _).setCell (by simp) _
end Go.Proofs.YtnchnlgnnlgjcaaGreat
namespace Go.Proofs.YtnchnlgnnlgjcaaGreat
open Go.RowKit
attribute [local go_sem ↓] Go.wp_at_zero Go.wp_at_succ
theorem box_cells {w v:World} {X:Array Value} {s:TypeId} (hb:Below (w.alloc (.cells X s)).heap.size (w.alloc (.cells X s)) v):∀ i x,X[i]?=some x->v.cell? ⟨w.heap.size,i,none⟩=some x:=fun i x hx=>by
 rw [hb.cell (p:=⟨w.heap.size,i,none⟩) (by simp),cell_of_row _ _ _ _ _ _ (heap_alloc_new w _)]
 exact hx
def HdAt (u:World) (g:Nat) (h0 h1 h2 h3 h4 h5 h6:Int):Prop:=u.cell? ⟨g,0,none⟩=some (.int .i64 h0)/\u.cell? ⟨g,1,none⟩=some (.int .i64 h1)/\u.cell? ⟨g,2,none⟩=some (.int .i64 h2)/\u.cell? ⟨g,3,none⟩=some (.int .i64 h3)/\u.cell? ⟨g,4,none⟩=some (.int .i64 h4)/\u.cell? ⟨g,5,none⟩=some (.int .i64 h5)/\u.cell? ⟨g,6,none⟩=some (.int .i64 h6)
theorem hd_box {w v:World} {h0 h1 h2 h3 h4 h5 h6:Int} {s:TypeId} (hb:Below (w.alloc (.cells #[.int .i64 h0,.int .i64 h1,.int .i64 h2,.int .i64 h3,.int .i64 h4,.int .i64 h5,.int .i64 h6] s)).heap.size (w.alloc (.cells #[.int .i64 h0,.int .i64 h1,.int .i64 h2,.int .i64 h3,.int .i64 h4,.int .i64 h5,.int .i64 h6] s)) v):HdAt v w.heap.size h0 h1 h2 h3 h4 h5 h6 :=
 ⟨box_cells hb 0 _ rfl,box_cells hb 1 _ rfl,box_cells hb 2 _ rfl,box_cells hb 3 _ rfl,box_cells hb 4 _ rfl,box_cells hb 5 _ rfl,box_cells hb 6 _ rfl⟩
theorem HdAt.keep {u v:World} {g:Nat} {h0 h1 h2 h3 h4 h5 h6:Int} (h:HdAt u g h0 h1 h2 h3 h4 h5 h6) (hb:Below u.heap.size u v):HdAt v g h0 h1 h2 h3 h4 h5 h6:=by
 obtain ⟨a,b,c,d,e,f,k⟩:=h
 have hlt:=World.block_lt_of_cell? u _ a
 refine ⟨?_,?_,?_,?_,?_,?_,?_⟩
 ·rw [hb.cell (p:=⟨g,0,none⟩) hlt];exact a
 ·rw [hb.cell (p:=⟨g,1,none⟩) hlt];exact b
 ·rw [hb.cell (p:=⟨g,2,none⟩) hlt];exact c
 ·rw [hb.cell (p:=⟨g,3,none⟩) hlt];exact d
 ·rw [hb.cell (p:=⟨g,4,none⟩) hlt];exact e
 ·rw [hb.cell (p:=⟨g,5,none⟩) hlt];exact f
 ·rw [hb.cell (p:=⟨g,6,none⟩) hlt];exact k
end Go.Proofs.YtnchnlgnnlgjcaaGreat
namespace Go.Proofs.YtnchnlgnnlgjcaaGreat
open Go.RowKit
set_option maxHeartbeats 800000 in
theorem of_ok (a:Option Addr) (cp b s:Nat) (l:List Int) (w:World) (ha:Lst .i32 w a l) (hx:Ls.In32 l) (hst:Gp.St b s) (h0:0<l.length) (hl:l.length<=256) (z sc:Int) (ez:Gp.low l=z) (es:Gp.scale s l=sc) :
 Calls Tryz.prog 142 #[.slice a l.length cp,.int .i64 b] w fun e w'=>∃ g,e=.returned (.tuple #[.agg #[.int .i32 z,.int .u32 sc,.slice (some ⟨g,0,none⟩) l.length l.length],.int .i64 0])/\w.heap.size<=g /\
  Lst .i64 w' (some ⟨g,0,none⟩) (Gp.codes z sc l)/\Below w.heap.size w w':=by
 have HE:Hid (Gp.many l.length (b:Int)=0):=Gp.many_ok hst h0 hl
 have HN:Hid (l.length<=maxLen):=by show l.length<=maxLen;unfold maxLen;omega
 have bs:=hst.bd
 have bd:=Gp.spread_bd hx
 have zb:=Gp.lowN_in hx l.length
 have yb:=Gp.highN_in hx l.length
 have sb:=Gp.scale_bd (s:=(s:Int)) hx (by omega)
 obtain ⟨y,ey⟩:∃ y,Gp.high l=y:=⟨_,rfl⟩
 have EZ:Hid (Gp.low l=z):=ez
 have EY:Hid (Gp.high l=y):=ey
 have ES:Hid (Gp.up (y - z) s=sc):=by show _=_;rw [<-ey,<-ez];exact es
 rw [ez,ey] at bd
 rw [es] at sb
 have zb:-2147483648<=z/\z<=2147483647:=by rw [<-ez];exact zb
 have yb:-2147483648<=y/\y<=2147483647:=by rw [<-ey];exact yb
 have HA:Hid (Lst .i32 w a l):=ha
 have HX:Hid (Ls.In32 l):=hx
 have HS:Hid (Gp.St b s):=hst
 clear ha hx hst ez ey es
 have hmk:=run_make_row' (P:=Tryz.prog) 70 3 (.int .i64 0) 8 Tryz.underlying70 Tryz.infoIntG rfl .i64 .i64 l.length (by omega) (by omega)
 go_enter Tryz.func142,Tryz.ntmps142
 go_wp2_with (first
  | (go_at_call 155;refine (countG_any _ _ 0 HE.out HN.out _).mono ?_;rintro r w' ⟨rfl,rfl⟩)
  | (go_at_call 156;refine (min_any _ _ l _ (HA.out.keep (box_below _ _)) HN.out h0 z EZ.out).mono ?_;rintro r w' ⟨rfl,rfl⟩)
  | (go_at_call 159;refine (max_any _ _ l _ (HA.out.keep (box_below _ _)) HN.out h0 y EY.out).mono ?_;rintro r w' ⟨rfl,rfl⟩)
  | (go_at_call 158;refine (apart_any _ _ yb.1 yb.2 zb.1 zb.2 _).mono ?_;rintro r w' ⟨rfl,rfl⟩)
  | (go_at_call 157;refine (scaleOf_any _ _ _ HS.out bd.1 bd.2 sc ES.out _).mono ?_;rintro r w' ⟨rfl,rfl⟩))
 clear hmk
 go_loopw [33] (fun i wr=>∃ k:Nat,k<=l.length/\i=.int .i64 k/\wr.rowIs (w.heap.size+1) 3 l.length (partG .i64 (fun j=>Gp.code z sc (Ls.nth l j)) k)/\Below (w.heap.size+1) (w.alloc (.cells #[.int .i32 0,.int .u32 0,.slice none 0 0] 177)) wr) (fun i _=>l.length - (intOf i).toNat)
 case atStart =>
  refine ⟨0,Nat.zero_le _,rfl,?_,(Below.refl _ _).alloc (by simp) _⟩
  have:=World.rowIs_made (w.alloc (.cells #[.int .i32 0,.int .u32 0,.slice none 0 0] 177)) (.int .i64 0) l.length 3
  rw [show (w.alloc (.cells #[.int .i32 0,.int .u32 0,.slice none 0 0] 177)).heap.size=w.heap.size+1 by simp] at this
  exact this.congr (fun j hj=>by simp [partG])
 case round =>
  obtain ⟨k,hk,rfl,hrow,hbel⟩:=hrel
  have hb0:Below w.heap.size w wr:=(box_below w _).trans (hbel.mono (by omega))
  by_cases hlt:k<l.length
  ·obtain ⟨b1,o1,rfl,hc1⟩:=(HA.out.keep hb0).get hlt
   have hck:=hc1 k hlt
   have hxk:=HX.out k
   have HR:Hid (wr.rowIs (w.heap.size+1) 3 l.length (partG .i64 (fun j=>Gp.code z sc (Ls.nth l j)) k)):=hrow
   have HB:Hid (Below (w.heap.size+1) (w.alloc (.cells #[.int .i32 0,.int .u32 0,.slice none 0 0] 177)) wr):=hbel
   clear hc1 hrow hbel hb0
   have hrat:Calls Tryz.prog 160 #[.int .i64 (Ls.nth l k - z),.int .i64 sc] wr fun e w'=>e=.returned (.int .i64 (Gp.code z sc (Ls.nth l k)))/\∃ n,w'=wr.drewN n:=by
    by_cases hp:0<sc
    ·rw [Gp.code_yes hp]
     exact ratio_any _ _ (by omega) (by omega) hp (by omega) _
    ·rw [Gp.code_no hp]
     refine (ratio_none _ _ (by omega) _).mono ?_
     rintro e w' ⟨rfl,rfl⟩
     exact ⟨rfl,0,rfl⟩
   have HQ:Hid (Calls Tryz.prog 160 #[.int .i64 (Ls.nth l k - z),.int .i64 sc] wr fun e w'=>e=.returned (.int .i64 (Gp.code z sc (Ls.nth l k)))/\∃ n,w'=wr.drewN n):=hrat
   clear hrat
   go_wp2_with (go_at_call 158;refine (apart_any _ _ hxk.1 hxk.2 zb.1 zb.2 _).mono ?_;rintro r w' ⟨rfl,hw⟩;cases hw.symm)
   refine (HQ.out).mono ?_
   rintro e w' ⟨rfl,n,rfl⟩
   have R1:Hid ((wr.drewN n).rowIs (w.heap.size+1) 3 l.length (partG .i64 (fun j=>Gp.code z sc (Ls.nth l j)) k)):=HR.out.of_block rfl
   have B1:Hid (Below (w.heap.size+1) (w.alloc (.cells #[.int .i32 0,.int .u32 0,.slice none 0 0] 177)) (wr.drewN n)):=below_drewN HB.out n
   have hcg:=R1.out.cell hlt
   have hfg:=R1.out.frozen k
   clear HQ
   go_wp2
   go_roundw
   case rel=>exact ⟨k+1,by omega,by go_num,(R1.out.set k _).congr (fun j hj=>partG_set _ _ k j),B1.out.setCell (by simp) _⟩
   case measure=>simp [intOf];omega
  ·have e:k=l.length:=by omega
   subst e
   have r0:wr.rowIs w.heap.size 177 3 (fun i=>if i=0 then .int .i32 0 else if i=1 then .int .u32 0 else .slice none 0 0) :=
    (World.rowIs_alloc w #[.int .i32 0,.int .u32 0,.slice none 0 0] 177 _ (fun i hi=>by match i,hi with | 0,_=>rfl | 1,_=>rfl | 2,_=>rfl)).of_block (hbel.block _ (by omega))
   have c0:=r0.cell (show 0<3 by decide)
   have c1:=r0.cell (show 1<3 by decide)
   have c2:=r0.cell (show 2<3 by decide)
   have f0:=r0.frozen 0
   have f1:=r0.frozen 1
   have f2:=r0.frozen 2
   have hcells:Hid (wr.rowIs (w.heap.size+1) 3 l.length (partG .i64 (fun j=>Gp.code z sc (Ls.nth l j)) l.length)/\Below w.heap.size w wr):=⟨hrow,hb0⟩
   clear hrow hb0 hbel r0
   go_wp2
   refine bodyPost_ret (v:=.tuple #[.agg #[.int .i32 z,.int .u32 sc,.slice (some ⟨w.heap.size+1,0,none⟩) l.length l.length],.int .i64 0]) (by simp [results,Tryz.results142,go_sem,c0,c1,c2]) rfl ⟨w.heap.size+1,rfl,by omega,?_,?_⟩
   ·obtain ⟨hrow,hb0⟩:=hcells.out
    refine lst_of_row (f:=partG .i64 (fun j=>Gp.code z sc (Ls.nth l j)) l.length) (t:=3) ?_ (fun i hi=>?_)
    ·rw [Gp.codes_length]
     exact ((hrow.setOther (by simp) _).setOther (by simp) _).setOther (by simp) _
    ·rw [Gp.codes_length] at hi
     rw [partG_lt hi,Gp.nth_codes hi]
   ·exact (((hcells.out.2).setCell (by simp) _).setCell (by simp) _).setCell (by simp) _
end Go.Proofs.YtnchnlgnnlgjcaaGreat
namespace Go.Proofs.YtnchnlgnnlgjcaaGreat
open Go.RowKit
attribute [local go_sem ↓] Go.wp_at_zero Go.wp_at_succ
def TRow (w:World) (g:Nat) (t:TypeId) (N:Nat) (ls:List (List Int)) (k B:Nat):Prop :=
 ∃ f,w.rowIs g t N f/\∀ i,i<k->∃ b,f i=.slice (some ⟨b,0,none⟩) (Tb.row ls i).length (Tb.row ls i).length/\g<b/\b<B/\w.rowIs b 21 (Tb.row ls i).length (fun j=>.int .i32 (Ls.nth (Tb.row ls i) j))
theorem TRow.keep {w w':World} {g:Nat} {t:TypeId} {N:Nat} {ls:List (List Int)} {k B:Nat} (h:TRow w g t N ls k B) (hb:Below w.heap.size w w'):TRow w' g t N ls k B:=by
 obtain ⟨f,hr,hc⟩:=h
 refine ⟨f,row_keep hr hb,fun i hi=>?_⟩
 obtain ⟨b,h0,h1,h2,h3⟩:=hc i hi
 exact ⟨b,h0,h1,h2,row_keep h3 hb⟩
theorem TRow.mono {w:World} {g:Nat} {t:TypeId} {N:Nat} {ls:List (List Int)} {k B B':Nat} (h:TRow w g t N ls k B) (hB:B<=B'):TRow w g t N ls k B':=by
 obtain ⟨f,hr,hc⟩:=h
 refine ⟨f,hr,fun i hi=>?_⟩
 obtain ⟨b,h0,h1,h2,h3⟩:=hc i hi
 exact ⟨b,h0,h1,by omega,h3⟩
theorem TRow.drew {w:World} {g:Nat} {t:TypeId} {N:Nat} {ls:List (List Int)} {k B:Nat} (h:TRow w g t N ls k B):TRow w.drew g t N ls k B:=h.keep ((Below.refl _ _).drew)
theorem TRow.lt {w:World} {g:Nat} {t:TypeId} {N:Nat} {ls:List (List Int)} {k B:Nat} (h:TRow w g t N ls k B):g<w.heap.size:=by
 obtain ⟨f,hr,_⟩:=h
 exact hr.lt
theorem TRow.room {w:World} {g:Nat} {t:TypeId} {N:Nat} {ls:List (List Int)} {k B:Nat} (h:TRow w g t N ls k B):∃ f,w.rowIs g t N f:=by
 obtain ⟨f,hr,_⟩:=h
 exact ⟨f,hr⟩
theorem TRow.other {w:World} {g:Nat} {t:TypeId} {N:Nat} {ls:List (List Int)} {k B:Nat} (h:TRow w g t N ls k B) {R o:Nat} (hg:g<R) (hB:B<=R) (v:Value):TRow (w.setCell ⟨R,o,none⟩ v) g t N ls k B:=by
 obtain ⟨f,hr,hc⟩:=h
 refine ⟨f,hr.setOther (by show g ≠ R;omega) _,fun i hi=>?_⟩
 obtain ⟨b,h0,h1,h2,h3⟩:=hc i hi
 exact ⟨b,h0,h1,h2,h3.setOther (by show b ≠ R;omega) _⟩
theorem TRow.top {w:World} {g:Nat} {t:TypeId} {N:Nat} {ls:List (List Int)} {k B:Nat} (h:TRow w g t N ls k B) (hk:k<N) (v:Value):TRow (w.setCell ⟨g,k,none⟩ v) g t N ls k B/\(w.setCell ⟨g,k,none⟩ v).cell? ⟨g,k,none⟩=some v:=by
 obtain ⟨f,hr,hc⟩:=h
 have hs:=hr.set k v
 refine ⟨⟨_,hs,fun i hi=>?_⟩,by rw [hs.cell hk,if_pos rfl]⟩
 obtain ⟨b,h0,h1,h2,h3⟩:=hc i hi
 exact ⟨b,by rw [if_neg (by omega)];exact h0,h1,h2,h3.setOther (by show b ≠ g;omega) _⟩
theorem TRow.close {w:World} {g:Nat} {t:TypeId} {N:Nat} {ls:List (List Int)} {k B:Nat} (h:TRow w g t N ls k B) (hk:k<N) {R n:Nat} (hc:w.cell? ⟨g,k,none⟩=some (.slice (some ⟨R,0,none⟩) n n)) (hg:g<R) (hB:B<=R) (hn:(Tb.row ls k).length=n) {f:Nat->Value} (hr:w.rowIs R 21 n f) (hf:∀ j,j<n->f j=.int .i32 (Ls.nth (Tb.row ls k) j)):TRow w g t N ls (k+1) (R+1):=by
 obtain ⟨f',hr',hc'⟩:=h
 refine ⟨f',hr',fun i hi=>?_⟩
 by_cases e:i=k
 ·subst e
  refine ⟨R,?_,hg,by omega,?_⟩
  ·rw [hr'.cell hk] at hc
   rw [hn]
   exact Option.some.inj hc
  ·rw [hn]
   exact hr.congr hf
 ·obtain ⟨b,h0,h1,h2,h3⟩:=hc' i (by omega)
  exact ⟨b,h0,h1,by omega,h3⟩
theorem TRow.tbl {w:World} {g:Nat} {t:TypeId} {N:Nat} {ls:List (List Int)} {B:Nat} (h:TRow w g t N ls ls.length B) (hN:N=ls.length) (hm:∀ i,i<ls.length->(Tb.row ls i).length<=maxLen):Tbl w (some ⟨g,0,none⟩) ls:=by
 obtain ⟨f,hr,hc⟩:=h
 intro i hi
 obtain ⟨b,h0,h1,h2,h3⟩:=hc i hi
 refine ⟨g,0,some ⟨b,0,none⟩,(Tb.row ls i).length,rfl,?_,lst_of_row h3 (fun j hj=>rfl),hm i hi⟩
 rw [Nat.zero_add,hr.cell (by omega),h0]
theorem Tryz.infoRow32:(Tryz.prog.info? 74).map (fun i=>(i.zero,i.size,i.bytes))=some (some (.slice none 0 0),1,24):=by kernel_rfl
def Pg.cols (d:Nat) (ls:List (List Int)):List (List Int):=(List.range d).map (Pg.col ls)
theorem Pg.cols_length (d:Nat) (ls:List (List Int)):(Pg.cols d ls).length=d:=by simp [Pg.cols]
theorem Pg.row_cols {d i:Nat} {ls:List (List Int)} (h:i<d):Tb.row (Pg.cols d ls) i=Pg.col ls i:=Tb.row_map_range _ h
set_option maxRecDepth 100000 in
set_option maxHeartbeats 1600000 in
theorem turned_any (a:Option Addr) (c d:Nat) (ls:List (List Int)) (w:World) (ha:Tbl w a ls) (hl:ls.length<=256) (hd:d<=256) (hr:∀ k,k<ls.length->(Tb.row ls k).length=d) :
 Calls Tryz.prog 125 #[.slice a ls.length c,.int .i64 d] w fun e w'=>∃ g,e=.returned (.slice (some ⟨g,0,none⟩) d d)/\w.heap.size<=g/\Tbl w' (some ⟨g,0,none⟩) (Pg.cols d ls)/\Below w.heap.size w w':=by
 have HA:Hid (Tbl w a ls):=ha
 have HL:Hid (∀ k,k<ls.length->(Tb.row ls k).length=d):=hr
 clear ha hr
 have hmk:=run_make_row' (P:=Tryz.prog) 42 74 (.slice none 0 0) 24 Tryz.underlying42 Tryz.infoRow32 rfl .i64 .i64 d (by omega) (by omega)
 have hmr:=run_make_row' (P:=Tryz.prog) 74 21 (.int .i32 0) 4 Tryz.underlying74 Tryz.infoInt32 rfl .i64 .i64 ls.length (by omega) (by omega)
 go_enter Tryz.func125,Tryz.ntmps125
 go_wp2
 clear hmk
 go_loopw [13] (fun i wr=>∃ k:Nat,k<=d/\i=.int .i64 k/\TRow wr w.heap.size 74 d (Pg.cols d ls) k wr.heap.size/\Below w.heap.size w wr) (fun i _=>d - (intOf i).toNat)
 case atStart=>exact ⟨0,Nat.zero_le _,rfl,⟨_,World.rowIs_made w (.slice none 0 0) d 74,fun i hi=>by omega⟩,(Below.refl _ _).alloc (Nat.le_refl _) _⟩
 case round =>
  obtain ⟨k,hk,rfl,hrow,hbel⟩:=hrel
  by_cases hlt:k<d
  ·obtain ⟨S,eS⟩:∃ S,wr.heap.size=S:=⟨_,rfl⟩
   have hgS:w.heap.size<S:=by rw [<-eS];exact hrow.lt
   obtain ⟨f,hr⟩:=hrow.room
   have r0:=hr.cell hlt
   have s0:=hr.frozen k
   rw [eS] at hrow
   have hmr2:=hmr wr
   rw [eS] at hmr2
   obtain ⟨T1,C1⟩:=hrow.top hlt (.slice (some ⟨S,0,none⟩) ls.length ls.length)
   have eS2:(wr.setCell ⟨w.heap.size,k,none⟩ (.slice (some ⟨S,0,none⟩) ls.length ls.length)).heap.size=S:=by rw [<-eS];simp [World.setCell]
   have C2:((wr.setCell ⟨w.heap.size,k,none⟩ (.slice (some ⟨S,0,none⟩) ls.length ls.length)).alloc (.cells (madeCells #[.int .i32 0] ls.length) 21)).cell? ⟨w.heap.size,k,none⟩=some (.slice (some ⟨S,0,none⟩) ls.length ls.length):=by
    rw [(box_below _ _).cell (p:=⟨w.heap.size,k,none⟩) (by rw [eS2];exact hgS)]
    exact C1
   have R1:((wr.setCell ⟨w.heap.size,k,none⟩ (.slice (some ⟨S,0,none⟩) ls.length ls.length)).alloc (.cells (madeCells #[.int .i32 0] ls.length) 21)).rowIs S 21 ls.length (fun _=>.int .i32 0):=by
    have:=World.rowIs_made (wr.setCell ⟨w.heap.size,k,none⟩ (.slice (some ⟨S,0,none⟩) ls.length ls.length)) (.int .i32 0) ls.length 21
    rw [eS2] at this
    exact this
   have B1:Below w.heap.size w ((wr.setCell ⟨w.heap.size,k,none⟩ (.slice (some ⟨S,0,none⟩) ls.length ls.length)).alloc (.cells (madeCells #[.int .i32 0] ls.length) 21)):=(hbel.setCell (by simp) _).alloc (by rw [eS2];omega) _
   have ALL:Hid (TRow ((wr.setCell ⟨w.heap.size,k,none⟩ (.slice (some ⟨S,0,none⟩) ls.length ls.length)).alloc (.cells (madeCells #[.int .i32 0] ls.length) 21)) w.heap.size 74 d (Pg.cols d ls) k S/\((wr.setCell ⟨w.heap.size,k,none⟩ (.slice (some ⟨S,0,none⟩) ls.length ls.length)).alloc (.cells (madeCells #[.int .i32 0] ls.length) 21)).cell? ⟨w.heap.size,k,none⟩=some (.slice (some ⟨S,0,none⟩) ls.length ls.length)/\((wr.setCell ⟨w.heap.size,k,none⟩ (.slice (some ⟨S,0,none⟩) ls.length ls.length)).alloc (.cells (madeCells #[.int .i32 0] ls.length) 21)).rowIs S 21 ls.length (fun _=>.int .i32 0)/\Below w.heap.size w ((wr.setCell ⟨w.heap.size,k,none⟩ (.slice (some ⟨S,0,none⟩) ls.length ls.length)).alloc (.cells (madeCells #[.int .i32 0] ls.length) 21))):=⟨T1.keep (box_below _ _),C2,R1,B1⟩
   clear eS2 C2
   clear T1 C1 R1 B1 hrow hbel hr hmr
   go_wp2
   clear hmr2 r0 s0
   go_loopw [24] (fun i wr=>∃ j:Nat,j<=ls.length/\i=.int .i64 j/\TRow wr w.heap.size 74 d (Pg.cols d ls) k S/\wr.cell? ⟨w.heap.size,k,none⟩=some (.slice (some ⟨S,0,none⟩) ls.length ls.length)/\wr.rowIs S 21 ls.length (part (fun q=>Ls.nth (Tb.row ls q) k) j)/\Below w.heap.size w wr) (fun i _=>ls.length - (intOf i).toNat)
   case atStart=>exact ⟨0,Nat.zero_le _,rfl,ALL.out.1,ALL.out.2.1,ALL.out.2.2.1.congr (fun j hj=>by simp [part]),ALL.out.2.2.2⟩
   case round =>
    clear ALL eS
    obtain ⟨j,hj,rfl,htop,hcl,hrow,hbel⟩:=hrel
    by_cases hjl:j<ls.length
    ·obtain ⟨b1,o1,rfl,hc1⟩:=(HA.out.keep hbel).get hjl
     obtain ⟨A,C,hck,hLk,_⟩:=hc1 j hjl
     have hlen:=HL.out j hjl
     obtain ⟨b2,o2,rfl,hc2⟩:=hLk.get (show k<(Tb.row ls j).length by rw [hlen];exact hlt)
     have hckk:=hc2 k (by rw [hlen];exact hlt)
     rw [hlen] at hck
     have hcg:=hrow.cell hjl
     have hfg:=hrow.frozen j
     have HR:Hid (wr.rowIs S 21 ls.length (part (fun q=>Ls.nth (Tb.row ls q) k) j)):=hrow
     have HB:Hid (Below w.heap.size w wr):=hbel
     have HT:Hid (TRow wr w.heap.size 74 d (Pg.cols d ls) k S):=htop
     have HC:Hid (wr.cell? ⟨w.heap.size,k,none⟩=some (.slice (some ⟨S,0,none⟩) ls.length ls.length)):=hcl
     clear hc1 hc2 hLk hlen hrow hbel htop
     have e0:(0:Int)<=(j:Int):=by omega
     have e1:(j:Int)<(ls.length:Int):=by omega
     have e2:(0:Int)<=(k:Int):=by omega
     have e3:(k:Int)<(d:Int):=by omega
     go_wp2
     go_region
     all_goals go_wp2
     all_goals go_roundw
     case rel =>
      refine ⟨j+1,by omega,by go_num,(HT.out.other (by omega) (Nat.le_refl _) _).drew,?_,(HR.out.set j _).drew.congr (fun q hq=>part_set _ j q),(HB.out.setCell (by show w.heap.size<=S;omega) _).drew⟩
      show (wr.setCell ⟨S,j,none⟩ _).cell? ⟨w.heap.size,k,none⟩=_
      rw [World.cell?_of_block (w:=wr) (Go.Deep.blk_setCell_other _ _ _ _ (by show w.heap.size ≠ S;omega))]
      exact HC.out
     case measure=>simp [intOf];omega
    ·have ej:j=ls.length:=by omega
     subst ej
     have TT:Hid (TRow wr w.heap.size 74 d (Pg.cols d ls) (k+1) wr.heap.size):=(htop.close hlt hcl (by omega) (Nat.le_refl _) (by rw [Pg.row_cols hlt,Pg.col_length]) hrow (fun q hq=>by rw [part_lt hq,Pg.row_cols hlt,Pg.nth_col hq])).mono (by have:=hrow.lt;omega)
     have HB:Hid (Below w.heap.size w wr):=hbel
     clear htop hcl hrow hbel
     go_wp2
     go_roundw
     case rel=>exact ⟨k+1,by omega,by go_num,TT.out,HB.out⟩
     case measure=>simp [intOf];omega
  ·have e:k=d:=by omega
   subst e
   have T:Hid (Tbl wr (some ⟨w.heap.size,0,none⟩) (Pg.cols k ls)):=by
    refine TRow.tbl (N:=k) (t:=74) (B:=wr.heap.size) (by rw [Pg.cols_length];exact hrow) (Pg.cols_length _ _).symm (fun i hi=>?_)
    rw [Pg.cols_length] at hi
    rw [Pg.row_cols hi,Pg.col_length]
    unfold maxLen
    omega
   have HB:Hid (Below w.heap.size w wr):=hbel
   clear hrow hbel hmr
   go_wp2
   go_ret
   exact ⟨w.heap.size,rfl,Nat.le_refl _,T.out,HB.out⟩
set_option maxHeartbeats 1600000 in
theorem groupAll_any (a:Option Addr) (c b s n:Nat) (ls:List (List Int)) (w:World) (ha:Tbl w a ls) (hl:ls.length<=256) (hst:Gp.St b s) (hx:∀ k,Ls.In32 (Tb.row ls k)) (hr:∀ k,k<ls.length->(Tb.row ls k).length=n) (h1:1<=n) (h2:n<=256) :
 Calls Tryz.prog 124 #[.slice a ls.length c,.int .i64 b] w fun e w'=>∃ g,e=.returned (.slice (some ⟨g,0,none⟩) ls.length ls.length)/\w.heap.size<=g/\Gps w' (some ⟨g,0,none⟩) (Pg.qv s ls)/\Below w.heap.size w w':=by
 have HA:Hid (Tbl w a ls):=ha
 have HL:Hid (∀ k,k<ls.length->(Tb.row ls k).length=n):=hr
 have HX:Hid (∀ k,Ls.In32 (Tb.row ls k)):=hx
 have ST:Hid (Gp.St b s):=hst
 clear ha hr hx hst
 have hmk:=run_make_rows (P:=Tryz.prog) 189 177 (.agg #[.int .i32 0,.int .u32 0,.slice none 0 0]) #[.int .i32 0,.int .u32 0,.slice none 0 0] 3 32 rfl Tryz.underlying189 Tryz.infoGp .i64 .i64 ls.length (by omega) (by omega)
 go_enter Tryz.func124,Tryz.ntmps124
 go_wp2
 clear hmk
 go_loopw [13] (fun i wr=>∃ k:Nat,k<=ls.length/\i=.int .i64 k/\GRow wr w.heap.size 177 (ls.length*3) (Pg.qv s ls) k/\Below w.heap.size w wr) (fun i _=>ls.length - (intOf i).toNat)
 case atStart=>exact ⟨0,Nat.zero_le _,rfl,GRow.made w _ _ _ _,(Below.refl _ _).alloc (Nat.le_refl _) _⟩
 case round =>
  obtain ⟨k,hk,rfl,hrow,hbel⟩:=hrel
  have HR:Hid (GRow wr w.heap.size 177 (ls.length*3) (Pg.qv s ls) k):=hrow
  have HW:Hid (Below w.heap.size w wr):=hbel
  have hlt0:=hrow.lt
  clear hrow hbel
  by_cases hlt:k<ls.length
  ·obtain ⟨b1,o1,rfl,hc1⟩:=(HA.out.keep HW.out).get hlt
   obtain ⟨A,C,hck,hLk,_⟩:=hc1 k hlt
   have LK:Hid (Lst .i32 wr A (Tb.row ls k)):=hLk
   have hlen:=HL.out k hlt
   have NK:Hid ((Tb.row ls k).length=n):=hlen
   obtain ⟨z,ez⟩:∃ z,Gp.low (Tb.row ls k)=z:=⟨_,rfl⟩
   obtain ⟨sc,es⟩:∃ z,Gp.scale s (Tb.row ls k)=z:=⟨_,rfl⟩
   have EG:Hid (Pg.nth (Pg.qv s ls) k=(z,sc,Gp.codes z sc (Tb.row ls k))):=by show _=_;rw [Pg.nth_qv hlt];unfold Pg.grp;rw [ez,es]
   have EZ:Hid (Gp.low (Tb.row ls k)=z):=ez
   have ES:Hid (Gp.scale s (Tb.row ls k)=sc):=es
   clear hc1 hLk hlen ez es
   go_wp2_with fail
   refine (of_ok _ _ b s (Tb.row ls k) _ LK.out (HX.out k) ST.out (by rw [NK.out];omega) (by rw [NK.out];omega) z sc EZ.out ES.out).mono ?_
   rintro e v ⟨g,rfl,hg,hL,hbv⟩
   have BV:Hid (Below w.heap.size w v):=below_then HW.out hbv
   have RV:Hid (GRow v w.heap.size 177 (ls.length*3) (Pg.qv s ls) k):=HR.out.keep hbv
   have LV:Hid (Lst .i64 v (some ⟨g,0,none⟩) (Gp.codes z sc (Tb.row ls k))):=hL
   have hg0:w.heap.size<g:=by omega
   obtain ⟨f,hr⟩:=RV.out.room
   have r0:=hr.cell (show k*3<ls.length*3 by omega)
   have r1:=hr.cell (show k*3+1<ls.length*3 by omega)
   have r2:=hr.cell (show k*3+2<ls.length*3 by omega)
   have s0:=hr.frozen (k*3)
   have s1:=hr.frozen (k*3+1)
   have s2:=hr.frozen (k*3+2)
   clear hg hL hbv hr hck
   go_wp2
   go_roundw
   case rel =>
    refine ⟨k+1,by omega,by go_num,RV.out.step (by rw [EG.out];rfl) (by rw [EG.out];rfl) (by rw [EG.out];exact Gp.codes_length _ _ _) (by rw [EG.out];exact LV.out) (fun x e=>by cases e;exact hg0),?_⟩
    exact ((BV.out.setCell (by simp) _).setCell (by simp) _).setCell (by simp) _
   case measure=>simp [intOf];omega
  ·have e:k=ls.length:=by omega
   subst e
   go_wp2
   go_ret
   exact ⟨w.heap.size,rfl,Nat.le_refl _,GRow.gps (t:=177) (N:=ls.length*3) (by rw [Pg.qv_length];exact HR.out) (by rw [Pg.qv_length]),HW.out⟩
end Go.Proofs.YtnchnlgnnlgjcaaGreat
namespace Go.Proofs.YtnchnlgnnlgjcaaGreat
open Go.RowKit
attribute [local go_sem ↓] Go.wp_at_zero Go.wp_at_succ
namespace Pg
theorem rightsN_none {s:Int} {l:List (Int × Int × List Int)} {k:Nat} (h:∀ i,i<k->Gp.right s (gs (nth l i)) (gc (nth l i))=0):rightsN s l k=0:=by
 induction k with
 | zero=>rfl
 | succ k ih=>rw [rightsN_ok (ih fun i hi=>h i (by omega))];exact h k (by omega)
theorem top_pow {b:Int} (h:b=2\/b=4\/b=8):((2 ^ b.toNat - 1:Nat):Int)=top b:=by rcases h with rfl | rfl | rfl <;> rfl
theorem page_newE {h:List Int} {ks vs:List (Int × Int × List Int)} (hp:Page h ks vs):newE h ks vs=0:=by
 obtain ⟨_,hr,lk,lv,fk,fv,rk,rv⟩:=hp
 obtain ⟨a,b,c,d,e,f,_⟩:=rightH_all hr
 have e0:top (Ls.nth h 0)=((2 ^ kb h - 1:Nat):Int):=(top_pow a).symm
 have e1:top (Ls.nth h 1)=((2 ^ vb h - 1:Nat):Int):=(top_pow b).symm
 have sk:shapeB ks (Ls.nth h 3) (Ls.nth h 2)=true:=by
  unfold shapeB
  refine decide_eq_true ⟨fun i hi=>?_,?_⟩
  ·have:=(fk i hi).1;unfold tk at this;omega
  ·unfold dm at lk;omega
 have sv:shapeB vs (Ls.nth h 2) (Ls.nth h 3)=true:=by
  unfold shapeB
  refine decide_eq_true ⟨fun i hi=>?_,?_⟩
  ·have:=(fv i hi).1;unfold dm at this;omega
  ·unfold tk at lv;omega
 rw [newE_vals hr sk sv (by rw [e0];exact rightsN_none rk),e1]
 exact rightsN_none rv
theorem fit_ing {b n:Nat} {l:List (Int × Int × List Int)} (h:AllFit b n l) (hn:n<=maxLen):InG l:=fun i hi=>by
 obtain ⟨h1,_,h2,h3,h4,h5⟩:=h i hi
 exact ⟨h2,h3,h4,h5,by rw [h1];exact hn⟩
theorem qv_cols (s:Int) (d:Nat) (ls:List (List Int)):qv s (cols d ls)=qk s d ls:=by
 apply ext_nth (by rw [qv_length,qk_length,cols_length])
 intro i hi
 rw [qv_length] at hi
 rw [nth_qv hi]
 rw [cols_length] at hi
 rw [nth_qk hi,row_cols hi]
end Pg
theorem groupAll_anym (a:Option Addr) (m c b s n:Nat) (ls:List (List Int)) (w:World) (hm:m=ls.length) (ha:Tbl w a ls) (hl:ls.length<=256) (hst:Gp.St b s) (hx:∀ k,Ls.In32 (Tb.row ls k)) (hr:∀ k,k<ls.length->(Tb.row ls k).length=n) (h1:1<=n) (h2:n<=256) :
 Calls Tryz.prog 124 #[.slice a m c,.int .i64 b] w fun e w'=>∃ g,e=.returned (.slice (some ⟨g,0,none⟩) m m)/\w.heap.size<=g/\Gps w' (some ⟨g,0,none⟩) (Pg.qv s ls)/\Below w.heap.size w w':=by
 subst hm
 exact groupAll_any a c b s n ls w ha hl hst hx hr h1 h2
end Go.Proofs.YtnchnlgnnlgjcaaGreat
