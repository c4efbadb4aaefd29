import Derived.Test.YtnchnlgnnlgjcaaGreatCa05
import Derived.Test.YtnchnlgnnlgjcaaGreatCa01
import Derived.Laws.LoneSync
set_option linter.unusedVariables false
namespace Go.Proofs.YtnchnlgnnlgjcaaGreat
open Go.RowKit
attribute [local go_sem ↓] Go.wp_at_zero Go.wp_at_succ
def TRow (w:World) (g:Nat) (t:TypeId) (N:Nat) (ls:List (List Int)) (k B:Nat):Prop :=
 ∃ f,w.rowIs g t N f/\∀ i,i<k->∃ b,f i=.slice (some ⟨b,0,none⟩) (Tb.row ls i).length (Tb.row ls i).length/\g<b/\b<B/\w.rowIs b 21 (Tb.row ls i).length (fun j=>.int .i32 (Ls.nth (Tb.row ls i) j))
theorem TRow.keep {w w':World} {g:Nat} {t:TypeId} {N:Nat} {ls:List (List Int)} {k B:Nat} (h:TRow w g t N ls k B) (hb:Below w.heap.size w w'):TRow w' g t N ls k B:=by
 obtain ⟨f,hr,hc⟩:=h
 refine ⟨f,row_keep hr hb,fun i hi=>?_⟩
 obtain ⟨b,h0,h1,h2,h3⟩:=hc i hi
 exact ⟨b,h0,h1,h2,row_keep h3 hb⟩
theorem TRow.mono {w:World} {g:Nat} {t:TypeId} {N:Nat} {ls:List (List Int)} {k B B':Nat} (h:TRow w g t N ls k B) (hB:B<=B'):TRow w g t N ls k B':=by
 obtain ⟨f,hr,hc⟩:=h
 refine ⟨f,hr,fun i hi=>?_⟩
 obtain ⟨b,h0,h1,h2,h3⟩:=hc i hi
 exact ⟨b,h0,h1,by omega,h3⟩
theorem TRow.drew {w:World} {g:Nat} {t:TypeId} {N:Nat} {ls:List (List Int)} {k B:Nat} (h:TRow w g t N ls k B):TRow w.drew g t N ls k B:=h.keep ((Below.refl _ _).drew)
theorem TRow.lt {w:World} {g:Nat} {t:TypeId} {N:Nat} {ls:List (List Int)} {k B:Nat} (h:TRow w g t N ls k B):g<w.heap.size:=by
 obtain ⟨f,hr,_⟩:=h
 exact hr.lt
theorem TRow.room {w:World} {g:Nat} {t:TypeId} {N:Nat} {ls:List (List Int)} {k B:Nat} (h:TRow w g t N ls k B):∃ f,w.rowIs g t N f:=by
 obtain ⟨f,hr,_⟩:=h
 exact ⟨f,hr⟩
theorem TRow.other {w:World} {g:Nat} {t:TypeId} {N:Nat} {ls:List (List Int)} {k B:Nat} (h:TRow w g t N ls k B) {R o:Nat} (hg:g<R) (hB:B<=R) (v:Value):TRow (w.setCell ⟨R,o,none⟩ v) g t N ls k B:=by
 obtain ⟨f,hr,hc⟩:=h
 refine ⟨f,hr.setOther (by show g ≠ R;omega) _,fun i hi=>?_⟩
 obtain ⟨b,h0,h1,h2,h3⟩:=hc i hi
 exact ⟨b,h0,h1,h2,h3.setOther (by show b ≠ R;omega) _⟩
theorem TRow.top {w:World} {g:Nat} {t:TypeId} {N:Nat} {ls:List (List Int)} {k B:Nat} (h:TRow w g t N ls k B) (hk:k<N) (v:Value):TRow (w.setCell ⟨g,k,none⟩ v) g t N ls k B/\(w.setCell ⟨g,k,none⟩ v).cell? ⟨g,k,none⟩=some v:=by
 obtain ⟨f,hr,hc⟩:=h
 have hs:=hr.set k v
 refine ⟨⟨_,hs,fun i hi=>?_⟩,by rw [hs.cell hk,if_pos rfl]⟩
 obtain ⟨b,h0,h1,h2,h3⟩:=hc i hi
 exact ⟨b,by rw [if_neg (by omega)];exact h0,h1,h2,h3.setOther (by show b ≠ g;omega) _⟩
theorem TRow.close {w:World} {g:Nat} {t:TypeId} {N:Nat} {ls:List (List Int)} {k B:Nat} (h:TRow w g t N ls k B) (hk:k<N) {R n:Nat} (hc:w.cell? ⟨g,k,none⟩=some (.slice (some ⟨R,0,none⟩) n n)) (hg:g<R) (hB:B<=R) (hn:(Tb.row ls k).length=n) {f:Nat->Value} (hr:w.rowIs R 21 n f) (hf:∀ j,j<n->f j=.int .i32 (Ls.nth (Tb.row ls k) j)):TRow w g t N ls (k+1) (R+1):=by
 obtain ⟨f',hr',hc'⟩:=h
 refine ⟨f',hr',fun i hi=>?_⟩
 by_cases e:i=k
 ·subst e
  refine ⟨R,?_,hg,by omega,?_⟩
  ·rw [hr'.cell hk] at hc
   rw [hn]
   exact Option.some.inj hc
  ·rw [hn]
   exact hr.congr hf
 ·obtain ⟨b,h0,h1,h2,h3⟩:=hc' i (by omega)
  exact ⟨b,h0,h1,by omega,h3⟩
theorem TRow.tbl {w:World} {g:Nat} {t:TypeId} {N:Nat} {ls:List (List Int)} {B:Nat} (h:TRow w g t N ls ls.length B) (hN:N=ls.length) (hm:∀ i,i<ls.length->(Tb.row ls i).length<=maxLen):Tbl w (some ⟨g,0,none⟩) ls:=by
 obtain ⟨f,hr,hc⟩:=h
 intro i hi
 obtain ⟨b,h0,h1,h2,h3⟩:=hc i hi
 refine ⟨g,0,some ⟨b,0,none⟩,(Tb.row ls i).length,rfl,?_,lst_of_row h3 (fun j hj=>rfl),hm i hi⟩
 rw [Nat.zero_add,hr.cell (by omega),h0]
theorem Tryz.infoRow32:(Tryz.prog.info? 74).map (fun i=>(i.zero,i.size,i.bytes))=some (some (.slice none 0 0),1,24):=by kernel_rfl
def Pg.cols (d:Nat) (ls:List (List Int)):List (List Int):=(List.range d).map (Pg.col ls)
theorem Pg.cols_length (d:Nat) (ls:List (List Int)):(Pg.cols d ls).length=d:=by simp [Pg.cols]
theorem Pg.row_cols {d i:Nat} {ls:List (List Int)} (h:i<d):Tb.row (Pg.cols d ls) i=Pg.col ls i:=Tb.row_map_range _ h
set_option maxRecDepth 100000 in
set_option maxHeartbeats 1600000 in
theorem turned_any (a:Option Addr) (c d:Nat) (ls:List (List Int)) (w:World) (ha:Tbl w a ls) (hl:ls.length<=256) (hd:d<=256) (hr:∀ k,k<ls.length->(Tb.row ls k).length=d) :
 Calls Tryz.prog 125 #[.slice a ls.length c,.int .i64 d] w fun e w'=>∃ g,e=.returned (.slice (some ⟨g,0,none⟩) d d)/\w.heap.size<=g/\Tbl w' (some ⟨g,0,none⟩) (Pg.cols d ls)/\Below w.heap.size w w':=by
 have HA:Hid (Tbl w a ls):=ha
 have HL:Hid (∀ k,k<ls.length->(Tb.row ls k).length=d):=hr
 clear ha hr
 have hmk:=run_make_row' (P:=Tryz.prog) 42 74 (.slice none 0 0) 24 Tryz.underlying42 Tryz.infoRow32 rfl .i64 .i64 d (by omega) (by omega)
 have hmr:=run_make_row' (P:=Tryz.prog) 74 21 (.int .i32 0) 4 Tryz.underlying74 Tryz.infoInt32 rfl .i64 .i64 ls.length (by omega) (by omega)
 go_enter Tryz.func125,Tryz.ntmps125
 go_wp2
 clear hmk
 go_loopw [13] (fun i wr=>∃ k:Nat,k<=d/\i=.int .i64 k/\TRow wr w.heap.size 74 d (Pg.cols d ls) k wr.heap.size/\Below w.heap.size w wr) (fun i _=>d - (intOf i).toNat)
 case atStart=>exact ⟨0,Nat.zero_le _,rfl,⟨_,World.rowIs_made w (.slice none 0 0) d 74,fun i hi=>by omega⟩,(Below.refl _ _).alloc (Nat.le_refl _) _⟩
 case round =>
  obtain ⟨k,hk,rfl,hrow,hbel⟩:=hrel
  by_cases hlt:k<d
  ·obtain ⟨S,eS⟩:∃ S,wr.heap.size=S:=⟨_,rfl⟩
   have hgS:w.heap.size<S:=by rw [<-eS];exact hrow.lt
   obtain ⟨f,hr⟩:=hrow.room
   have r0:=hr.cell hlt
   have s0:=hr.frozen k
   rw [eS] at hrow
   have hmr2:=hmr wr
   rw [eS] at hmr2
   obtain ⟨T1,C1⟩:=hrow.top hlt (.slice (some ⟨S,0,none⟩) ls.length ls.length)
   have eS2:(wr.setCell ⟨w.heap.size,k,none⟩ (.slice (some ⟨S,0,none⟩) ls.length ls.length)).heap.size=S:=by rw [<-eS];simp [World.setCell]
   have C2:((wr.setCell ⟨w.heap.size,k,none⟩ (.slice (some ⟨S,0,none⟩) ls.length ls.length)).alloc (.cells (madeCells #[.int .i32 0] ls.length) 21)).cell? ⟨w.heap.size,k,none⟩=some (.slice (some ⟨S,0,none⟩) ls.length ls.length):=by
    rw [(box_below _ _).cell (p:=⟨w.heap.size,k,none⟩) (by rw [eS2];exact hgS)]
    exact C1
   have R1:((wr.setCell ⟨w.heap.size,k,none⟩ (.slice (some ⟨S,0,none⟩) ls.length ls.length)).alloc (.cells (madeCells #[.int .i32 0] ls.length) 21)).rowIs S 21 ls.length (fun _=>.int .i32 0):=by
    have:=World.rowIs_made (wr.setCell ⟨w.heap.size,k,none⟩ (.slice (some ⟨S,0,none⟩) ls.length ls.length)) (.int .i32 0) ls.length 21
    rw [eS2] at this
    exact this
   have B1:Below w.heap.size w ((wr.setCell ⟨w.heap.size,k,none⟩ (.slice (some ⟨S,0,none⟩) ls.length ls.length)).alloc (.cells (madeCells #[.int .i32 0] ls.length) 21)):=(hbel.setCell (by simp) _).alloc (by rw [eS2];omega) _
   have ALL:Hid (TRow ((wr.setCell ⟨w.heap.size,k,none⟩ (.slice (some ⟨S,0,none⟩) ls.length ls.length)).alloc (.cells (madeCells #[.int .i32 0] ls.length) 21)) w.heap.size 74 d (Pg.cols d ls) k S/\((wr.setCell ⟨w.heap.size,k,none⟩ (.slice (some ⟨S,0,none⟩) ls.length ls.length)).alloc (.cells (madeCells #[.int .i32 0] ls.length) 21)).cell? ⟨w.heap.size,k,none⟩=some (.slice (some ⟨S,0,none⟩) ls.length ls.length)/\((wr.setCell ⟨w.heap.size,k,none⟩ (.slice (some ⟨S,0,none⟩) ls.length ls.length)).alloc (.cells (madeCells #[.int .i32 0] ls.length) 21)).rowIs S 21 ls.length (fun _=>.int .i32 0)/\Below w.heap.size w ((wr.setCell ⟨w.heap.size,k,none⟩ (.slice (some ⟨S,0,none⟩) ls.length ls.length)).alloc (.cells (madeCells #[.int .i32 0] ls.length) 21))):=⟨T1.keep (box_below _ _),C2,R1,B1⟩
   clear eS2 C2
   clear T1 C1 R1 B1 hrow hbel hr hmr
   go_wp2
   clear hmr2 r0 s0
   go_loopw [24] (fun i wr=>∃ j:Nat,j<=ls.length/\i=.int .i64 j/\TRow wr w.heap.size 74 d (Pg.cols d ls) k S/\wr.cell? ⟨w.heap.size,k,none⟩=some (.slice (some ⟨S,0,none⟩) ls.length ls.length)/\wr.rowIs S 21 ls.length (part (fun q=>Ls.nth (Tb.row ls q) k) j)/\Below w.heap.size w wr) (fun i _=>ls.length - (intOf i).toNat)
   case atStart=>exact ⟨0,Nat.zero_le _,rfl,ALL.out.1,ALL.out.2.1,ALL.out.2.2.1.congr (fun j hj=>by simp [part]),ALL.out.2.2.2⟩
   case round =>
    clear ALL eS
    obtain ⟨j,hj,rfl,htop,hcl,hrow,hbel⟩:=hrel
    by_cases hjl:j<ls.length
    ·obtain ⟨b1,o1,rfl,hc1⟩:=(HA.out.keep hbel).get hjl
     obtain ⟨A,C,hck,hLk,_⟩:=hc1 j hjl
     have hlen:=HL.out j hjl
     obtain ⟨b2,o2,rfl,hc2⟩:=hLk.get (show k<(Tb.row ls j).length by rw [hlen];exact hlt)
     have hckk:=hc2 k (by rw [hlen];exact hlt)
     rw [hlen] at hck
     have hcg:=hrow.cell hjl
     have hfg:=hrow.frozen j
     have HR:Hid (wr.rowIs S 21 ls.length (part (fun q=>Ls.nth (Tb.row ls q) k) j)):=hrow
     have HB:Hid (Below w.heap.size w wr):=hbel
     have HT:Hid (TRow wr w.heap.size 74 d (Pg.cols d ls) k S):=htop
     have HC:Hid (wr.cell? ⟨w.heap.size,k,none⟩=some (.slice (some ⟨S,0,none⟩) ls.length ls.length)):=hcl
     clear hc1 hc2 hLk hlen hrow hbel htop
     have e0:(0:Int)<=(j:Int):=by omega
     have e1:(j:Int)<(ls.length:Int):=by omega
     have e2:(0:Int)<=(k:Int):=by omega
     have e3:(k:Int)<(d:Int):=by omega
     go_wp2
     go_region
     all_goals go_wp2
     all_goals go_roundw
     case rel =>
      refine ⟨j+1,by omega,by go_num,(HT.out.other (by omega) (Nat.le_refl _) _).drew,?_,(HR.out.set j _).drew.congr (fun q hq=>part_set _ j q),(HB.out.setCell (by show w.heap.size<=S;omega) _).drew⟩
      show (wr.setCell ⟨S,j,none⟩ _).cell? ⟨w.heap.size,k,none⟩=_
      rw [World.cell?_of_block (w:=wr) (Go.Deep.blk_setCell_other _ _ _ _ (by show w.heap.size ≠ S;omega))]
      exact HC.out
     case measure=>simp [intOf];omega
    ·have ej:j=ls.length:=by omega
     subst ej
     have TT:Hid (TRow wr w.heap.size 74 d (Pg.cols d ls) (k+1) wr.heap.size):=(htop.close hlt hcl (by omega) (Nat.le_refl _) (by rw [Pg.row_cols hlt,Pg.col_length]) hrow (fun q hq=>by rw [part_lt hq,Pg.row_cols hlt,Pg.nth_col hq])).mono (by have:=hrow.lt;omega)
     have HB:Hid (Below w.heap.size w wr):=hbel
     clear htop hcl hrow hbel
     go_wp2
     go_roundw
     case rel=>exact ⟨k+1,by omega,by go_num,TT.out,HB.out⟩
     case measure=>simp [intOf];omega
  ·have e:k=d:=by omega
   subst e
   have T:Hid (Tbl wr (some ⟨w.heap.size,0,none⟩) (Pg.cols k ls)):=by
    refine TRow.tbl (N:=k) (t:=74) (B:=wr.heap.size) (by rw [Pg.cols_length];exact hrow) (Pg.cols_length _ _).symm (fun i hi=>?_)
    rw [Pg.cols_length] at hi
    rw [Pg.row_cols hi,Pg.col_length]
    unfold maxLen
    omega
   have HB:Hid (Below w.heap.size w wr):=hbel
   clear hrow hbel hmr
   go_wp2
   go_ret
   exact ⟨w.heap.size,rfl,Nat.le_refl _,T.out,HB.out⟩
set_option maxHeartbeats 1600000 in
theorem groupAll_any (a:Option Addr) (c b s n:Nat) (ls:List (List Int)) (w:World) (ha:Tbl w a ls) (hl:ls.length<=256) (hst:Gp.St b s) (hx:∀ k,Ls.In32 (Tb.row ls k)) (hr:∀ k,k<ls.length->(Tb.row ls k).length=n) (h1:1<=n) (h2:n<=256) :
 Calls Tryz.prog 124 #[.slice a ls.length c,.int .i64 b] w fun e w'=>∃ g,e=.returned (.slice (some ⟨g,0,none⟩) ls.length ls.length)/\w.heap.size<=g/\Gps w' (some ⟨g,0,none⟩) (Pg.qv s ls)/\Below w.heap.size w w':=by
 have HA:Hid (Tbl w a ls):=ha
 have HL:Hid (∀ k,k<ls.length->(Tb.row ls k).length=n):=hr
 have HX:Hid (∀ k,Ls.In32 (Tb.row ls k)):=hx
 have ST:Hid (Gp.St b s):=hst
 clear ha hr hx hst
 have hmk:=run_make_rows (P:=Tryz.prog) 189 177 (.agg #[.int .i32 0,.int .u32 0,.slice none 0 0]) #[.int .i32 0,.int .u32 0,.slice none 0 0] 3 32 rfl Tryz.underlying189 Tryz.infoGp .i64 .i64 ls.length (by omega) (by omega)
 go_enter Tryz.func124,Tryz.ntmps124
 go_wp2
 clear hmk
 go_loopw [13] (fun i wr=>∃ k:Nat,k<=ls.length/\i=.int .i64 k/\GRow wr w.heap.size 177 (ls.length*3) (Pg.qv s ls) k/\Below w.heap.size w wr) (fun i _=>ls.length - (intOf i).toNat)
 case atStart=>exact ⟨0,Nat.zero_le _,rfl,GRow.made w _ _ _ _,(Below.refl _ _).alloc (Nat.le_refl _) _⟩
 case round =>
  obtain ⟨k,hk,rfl,hrow,hbel⟩:=hrel
  have HR:Hid (GRow wr w.heap.size 177 (ls.length*3) (Pg.qv s ls) k):=hrow
  have HW:Hid (Below w.heap.size w wr):=hbel
  have hlt0:=hrow.lt
  clear hrow hbel
  by_cases hlt:k<ls.length
  ·obtain ⟨b1,o1,rfl,hc1⟩:=(HA.out.keep HW.out).get hlt
   obtain ⟨A,C,hck,hLk,_⟩:=hc1 k hlt
   have LK:Hid (Lst .i32 wr A (Tb.row ls k)):=hLk
   have hlen:=HL.out k hlt
   have NK:Hid ((Tb.row ls k).length=n):=hlen
   obtain ⟨z,ez⟩:∃ z,Gp.low (Tb.row ls k)=z:=⟨_,rfl⟩
   obtain ⟨sc,es⟩:∃ z,Gp.scale s (Tb.row ls k)=z:=⟨_,rfl⟩
   have EG:Hid (Pg.nth (Pg.qv s ls) k=(z,sc,Gp.codes z sc (Tb.row ls k))):=by show _=_;rw [Pg.nth_qv hlt];unfold Pg.grp;rw [ez,es]
   have EZ:Hid (Gp.low (Tb.row ls k)=z):=ez
   have ES:Hid (Gp.scale s (Tb.row ls k)=sc):=es
   clear hc1 hLk hlen ez es
   go_wp2_with fail
   refine (of_ok _ _ b s (Tb.row ls k) _ LK.out (HX.out k) ST.out (by rw [NK.out];omega) (by rw [NK.out];omega) z sc EZ.out ES.out).mono ?_
   rintro e v ⟨g,rfl,hg,hL,hbv⟩
   have BV:Hid (Below w.heap.size w v):=below_then HW.out hbv
   have RV:Hid (GRow v w.heap.size 177 (ls.length*3) (Pg.qv s ls) k):=HR.out.keep hbv
   have LV:Hid (Lst .i64 v (some ⟨g,0,none⟩) (Gp.codes z sc (Tb.row ls k))):=hL
   have hg0:w.heap.size<g:=by omega
   obtain ⟨f,hr⟩:=RV.out.room
   have r0:=hr.cell (show k*3<ls.length*3 by omega)
   have r1:=hr.cell (show k*3+1<ls.length*3 by omega)
   have r2:=hr.cell (show k*3+2<ls.length*3 by omega)
   have s0:=hr.frozen (k*3)
   have s1:=hr.frozen (k*3+1)
   have s2:=hr.frozen (k*3+2)
   clear hg hL hbv hr hck
   go_wp2
   go_roundw
   case rel =>
    refine ⟨k+1,by omega,by go_num,RV.out.step (by rw [EG.out];rfl) (by rw [EG.out];rfl) (by rw [EG.out];exact Gp.codes_length _ _ _) (by rw [EG.out];exact LV.out) (fun x e=>by cases e;exact hg0),?_⟩
    exact ((BV.out.setCell (by simp) _).setCell (by simp) _).setCell (by simp) _
   case measure=>simp [intOf];omega
  ·have e:k=ls.length:=by omega
   subst e
   go_wp2
   go_ret
   exact ⟨w.heap.size,rfl,Nat.le_refl _,GRow.gps (t:=177) (N:=ls.length*3) (by rw [Pg.qv_length];exact HR.out) (by rw [Pg.qv_length]),HW.out⟩
end Go.Proofs.YtnchnlgnnlgjcaaGreat
namespace Go.Proofs.YtnchnlgnnlgjcaaGreat
open Go.RowKit
attribute [local go_sem ↓] Go.wp_at_zero Go.wp_at_succ
namespace Pg
theorem rightsN_none {s:Int} {l:List (Int × Int × List Int)} {k:Nat} (h:∀ i,i<k->Gp.right s (gs (nth l i)) (gc (nth l i))=0):rightsN s l k=0:=by
 induction k with
 | zero=>rfl
 | succ k ih=>rw [rightsN_ok (ih fun i hi=>h i (by omega))];exact h k (by omega)
theorem top_pow {b:Int} (h:b=2\/b=4\/b=8):((2 ^ b.toNat - 1:Nat):Int)=top b:=by rcases h with rfl | rfl | rfl <;> rfl
theorem page_newE {h:List Int} {ks vs:List (Int × Int × List Int)} (hp:Page h ks vs):newE h ks vs=0:=by
 obtain ⟨_,hr,lk,lv,fk,fv,rk,rv⟩:=hp
 obtain ⟨a,b,c,d,e,f,_⟩:=rightH_all hr
 have e0:top (Ls.nth h 0)=((2 ^ kb h - 1:Nat):Int):=(top_pow a).symm
 have e1:top (Ls.nth h 1)=((2 ^ vb h - 1:Nat):Int):=(top_pow b).symm
 have sk:shapeB ks (Ls.nth h 3) (Ls.nth h 2)=true:=by
  unfold shapeB
  refine decide_eq_true ⟨fun i hi=>?_,?_⟩
  ·have:=(fk i hi).1;unfold tk at this;omega
  ·unfold dm at lk;omega
 have sv:shapeB vs (Ls.nth h 2) (Ls.nth h 3)=true:=by
  unfold shapeB
  refine decide_eq_true ⟨fun i hi=>?_,?_⟩
  ·have:=(fv i hi).1;unfold dm at this;omega
  ·unfold tk at lv;omega
 rw [newE_vals hr sk sv (by rw [e0];exact rightsN_none rk),e1]
 exact rightsN_none rv
theorem fit_ing {b n:Nat} {l:List (Int × Int × List Int)} (h:AllFit b n l) (hn:n<=maxLen):InG l:=fun i hi=>by
 obtain ⟨h1,_,h2,h3,h4,h5⟩:=h i hi
 exact ⟨h2,h3,h4,h5,by rw [h1];exact hn⟩
theorem qv_cols (s:Int) (d:Nat) (ls:List (List Int)):qv s (cols d ls)=qk s d ls:=by
 apply ext_nth (by rw [qv_length,qk_length,cols_length])
 intro i hi
 rw [qv_length] at hi
 rw [nth_qv hi]
 rw [cols_length] at hi
 rw [nth_qk hi,row_cols hi]
end Pg
theorem groupAll_anym (a:Option Addr) (m c b s n:Nat) (ls:List (List Int)) (w:World) (hm:m=ls.length) (ha:Tbl w a ls) (hl:ls.length<=256) (hst:Gp.St b s) (hx:∀ k,Ls.In32 (Tb.row ls k)) (hr:∀ k,k<ls.length->(Tb.row ls k).length=n) (h1:1<=n) (h2:n<=256) :
 Calls Tryz.prog 124 #[.slice a m c,.int .i64 b] w fun e w'=>∃ g,e=.returned (.slice (some ⟨g,0,none⟩) m m)/\w.heap.size<=g/\Gps w' (some ⟨g,0,none⟩) (Pg.qv s ls)/\Below w.heap.size w w':=by
 subst hm
 exact groupAll_any a c b s n ls w ha hl hst hx hr h1 h2
end Go.Proofs.YtnchnlgnnlgjcaaGreat
namespace Go.Proofs.YtnchnlgnnlgjcaaGreat
open Go.RowKit
def PgM (w:World) (q:Nat) (m:Int):Prop:=m=(q:Int)/\∃ f,w.rowIs q 176 9 f
theorem PgM.lt {w:World} {q:Nat} {m:Int} (h:PgM w q m):q<w.heap.size:=by
 obtain ⟨_,f,hr⟩:=h
 exact hr.lt
theorem PgM.of_block {w w':World} {q:Nat} {m:Int} (h:PgM w q m) (hb:w'.heap[q]?=w.heap[q]?):PgM w' q m:=by
 obtain ⟨e,f,hr⟩:=h
 exact ⟨e,f,hr.of_block hb⟩
theorem PgM.keep {w w':World} {q:Nat} {m:Int} (h:PgM w q m) (hb:Below w.heap.size w w'):PgM w' q m:=h.of_block (hb.block q h.lt)
theorem PageAt.mark {w:World} {p m0 m1 n d:Nat} {h4 h5 h6:Int} {ks vs:List (Int × Int × List Int)} (h:PageAt w p m0 m1 n d h4 h5 h6 ks vs):PgM w p (p:Int):=by
 obtain ⟨g1,g2,hr,_⟩:=h
 exact ⟨rfl,_,hr⟩
def But2 (g b:Nat) (w w':World):Prop:=Below (min g b) w w'/\∀ j,j<w.heap.size->¬ j=g->¬ j=b->w'.heap[j]?=w.heap[j]?
theorem But2.refl (g b:Nat) (w:World):But2 g b w w:=⟨Below.refl _ _,fun _ _ _ _=>rfl⟩
theorem But2.size {g b:Nat} {w w':World} (h:But2 g b w w'):w.heap.size<=w'.heap.size:=h.1.size
theorem But2.trans {g b:Nat} {w v u:World} (h:But2 g b w v) (k:But2 g b v u):But2 g b w u :=
 ⟨h.1.trans k.1,fun j hj h1 h2=>by rw [k.2 j (Nat.lt_of_lt_of_le hj h.size) h1 h2,h.2 j hj h1 h2]⟩
theorem But2.of_below {g b:Nat} {w v:World} (h:Below w.heap.size w v) (hg:min g b<=w.heap.size):But2 g b w v:=⟨h.mono hg,fun j hj _ _=>h.block j hj⟩
theorem But2.setG {g b:Nat} {w v:World} (h:But2 g b w v) (o:Nat) (y:Value):But2 g b w (v.setCell ⟨g,o,none⟩ y) :=
 ⟨h.1.setCell (p:=⟨g,o,none⟩) (Nat.min_le_left _ _) y,fun j hj h1 h2=>by rw [Below.heap_setCell _ _ _ _ (show j ≠ g from h1),h.2 j hj h1 h2]⟩
theorem But2.setB {g b:Nat} {w v:World} (h:But2 g b w v) (o:Nat) (y:Value):But2 g b w (v.setCell ⟨b,o,none⟩ y) :=
 ⟨h.1.setCell (p:=⟨b,o,none⟩) (Nat.min_le_right _ _) y,fun j hj h1 h2=>by rw [Below.heap_setCell _ _ _ _ (show j ≠ b from h2),h.2 j hj h1 h2]⟩
def Off (g b:Nat) (a:Option Addr):Prop:=∀ x,a=some x->¬ x.block=g/\¬ x.block=b
theorem But2.lst {g b:Nat} {w v:World} (h:But2 g b w v) {k:IntKind} {a:Option Addr} {l:List Int} (hl:Lst k w a l) (hp:Off g b a):Lst k v a l:=fun i hi=>by
 obtain ⟨c,o,e,hc⟩:=hl i hi
 refine ⟨c,o,e,?_⟩
 have:=hp _ e
 rw [World.cell?_of_block (w:=w) (h.2 c (World.block_lt_of_cell? w _ hc) this.1 this.2)]
 exact hc
def poc (b n:Nat) (f:Int) (i:Nat):Value:=if i=0 then .slice (some ⟨b,0,none⟩) n n else .int .i64 f
def slc (P:Nat->Value) (R:List Int) (j:Nat):Value:=if j % 2=0 then P (j / 2) else .int .i64 (Ls.nth R (j / 2))
theorem slc_page (P:Nat->Value) (R:List Int) (k:Nat):slc P R (k*2)=P k:=by unfold slc;rw [if_pos (by omega),show k*2 / 2=k by omega]
theorem slc_refs (P:Nat->Value) (R:List Int) (k:Nat):slc P R (k*2+1)=.int .i64 (Ls.nth R k):=by unfold slc;rw [if_neg (by omega),show (k*2+1) / 2=k by omega]
def PoolAt (w:World) (g b n:Nat) (R M:List Int):Prop :=
 ∃ P,w.rowIs g 99 2 (poc b n (Po.cnt R))/\w.rowIs b 133 (n*2) (slc P R)/\¬ b=g/\R.length=n/\M.length=n/\n<=16384/\(∀ i,0<=Ls.nth R i) /\
   ∀ i,i<n->0<Ls.nth R i->∃ q,P i=.pointer (some ⟨q,0,none⟩)/\¬ q=g/\¬ q=b/\PgM w q (Ls.nth M i)
theorem PoolAt.lt {w:World} {g b n:Nat} {R M:List Int} (h:PoolAt w g b n R M):g<w.heap.size/\b<w.heap.size:=by
 obtain ⟨P,h1,h2,_⟩:=h
 exact ⟨h1.lt,h2.lt⟩
theorem PoolAt.nums {w:World} {g b n:Nat} {R M:List Int} (h:PoolAt w g b n R M):¬ b=g/\R.length=n/\M.length=n/\n<=16384/\∀ i,0<=Ls.nth R i:=by
 obtain ⟨P,_,_,h1,h2,h3,h4,h5,_⟩:=h
 exact ⟨h1,h2,h3,h4,h5⟩
theorem PoolAt.keep {w w':World} {g b n:Nat} {R M:List Int} (h:PoolAt w g b n R M) (hb:Below w.heap.size w w'):PoolAt w' g b n R M:=by
 obtain ⟨P,h1,h2,h3,h4,h5,h6,h7,h8⟩:=h
 refine ⟨P,h1.of_block (hb.block g h1.lt),h2.of_block (hb.block b h2.lt),h3,h4,h5,h6,h7,fun i hi hr=>?_⟩
 obtain ⟨q,e,n1,n2,hq⟩:=h8 i hi hr
 exact ⟨q,e,n1,n2,hq.keep hb⟩
theorem PoolAt.cells {w:World} {g b n:Nat} {R M:List Int} (h:PoolAt w g b n R M) :
 w.cell? ⟨g,0,none⟩=some (.slice (some ⟨b,0,none⟩) n n)/\w.cell? ⟨g,1,none⟩=some (.int .i64 (Po.cnt R))/\w.frozen? ⟨g,1,none⟩=false:=by
 obtain ⟨P,h1,_⟩:=h
 exact ⟨by rw [h1.cell (show 0<2 by decide)];rfl,by rw [h1.cell (show 1<2 by decide)];rfl,h1.frozen 1⟩
theorem PoolAt.slot {w:World} {g b n:Nat} {R M:List Int} (h:PoolAt w g b n R M) {k:Nat} (hk:k<n) :
 (∃ v,w.cell? ⟨b,k*2,none⟩=some v)/\w.cell? ⟨b,k*2+1,none⟩=some (.int .i64 (Ls.nth R k))/\w.frozen? ⟨b,k*2,none⟩=false/\w.frozen? ⟨b,k*2+1,none⟩=false:=by
 obtain ⟨P,_,h2,_⟩:=h
 exact ⟨⟨_,h2.cell (by omega)⟩,by rw [h2.cell (by omega),slc_refs],h2.frozen _,h2.frozen _⟩
theorem PoolAt.page {w:World} {g b n:Nat} {R M:List Int} (h:PoolAt w g b n R M) {k:Nat} (hk:k<n) (hr:0<Ls.nth R k) :
 ∃ q,w.cell? ⟨b,k*2,none⟩=some (.pointer (some ⟨q,0,none⟩))/\¬ q=g/\¬ q=b/\PgM w q (Ls.nth M k):=by
 obtain ⟨P,_,h2,_,_,_,_,_,h8⟩:=h
 obtain ⟨q,e,n1,n2,hq⟩:=h8 k hk hr
 exact ⟨q,by rw [h2.cell (by omega),slc_page,e],n1,n2,hq⟩
theorem poc_set (b n:Nat) (f f':Int) (j:Nat) (hj:j<2):(if j=1 then .int .i64 f' else poc b n f j)=poc b n f' j:=by
 match j,hj with
 | 0,_=>rfl
 | 1,_=>rfl
theorem PoolAt.count {w:World} {g b n:Nat} {R M:List Int} (h:PoolAt w g b n R M) {k:Nat} (hk:k<n) {x:Int} (h0:0<Ls.nth R k) (hx:0<x) :
 PoolAt (w.setCell ⟨b,k*2+1,none⟩ (.int .i64 x)) g b n (R.set k x) M:=by
 obtain ⟨P,h1,h2,h3,h4,h5,h6,h7,h8⟩:=h
 have hkR:k<R.length:=by omega
 have hc:Po.cnt (R.set k x)=Po.cnt R:=by have:=Po.cnt_set hkR x;rw [if_neg (by omega),if_neg (by omega)] at this;omega
 refine ⟨P,?_,(h2.set (k*2+1) _).congr ?_,h3,by simp [h4],h5,h6,?_,?_⟩
 ·rw [hc];exact h1.of_block (Below.heap_setCell _ _ _ _ (show g ≠ b from fun e=>h3 e.symm))
 ·intro j hj
  unfold slc
  by_cases e:j=k*2+1
  ·subst e;rw [if_pos rfl,if_neg (by omega),show (k*2+1) / 2=k by omega,Po.nth_set hkR,if_pos rfl]
  ·rw [if_neg e]
   by_cases e2:j % 2=0
   ·rw [if_pos e2,if_pos e2]
   ·rw [if_neg e2,if_neg e2,Po.nth_set hkR,if_neg (by omega)]
 ·intro i;rw [Po.nth_set hkR];split
  ·omega
  ·exact h7 i
 ·intro i hi hr
  have hr':0<Ls.nth R i:=by
   rw [Po.nth_set hkR] at hr
   by_cases e:i=k
   ·rw [e];exact h0
   ·rw [if_neg e] at hr;exact hr
  obtain ⟨q,e,n1,n2,hq⟩:=h8 i hi hr'
  exact ⟨q,e,n1,n2,hq.of_block (Below.heap_setCell _ _ _ _ n2)⟩
theorem PoolAt.put {w:World} {g b n:Nat} {R M:List Int} (h:PoolAt w g b n R M) {k:Nat} (hk:k<n) (h0:Ls.nth R k=0) {q:Nat} {m:Int} (hq:PgM w q m) (q1:¬ q=g) (q2:¬ q=b) {c:Int} (ec:c=(Po.cnt R:Int) - 1) :
 PoolAt (((w.setCell ⟨b,k*2,none⟩ (.pointer (some ⟨q,0,none⟩))).setCell ⟨b,k*2+1,none⟩ (.int .i64 1)).setCell ⟨g,1,none⟩ (.int .i64 c)) g b n (R.set k 1) (M.set k m):=by
 obtain ⟨P,h1,h2,h3,h4,h5,h6,h7,h8⟩:=h
 have hkR:k<R.length:=by omega
 have hkM:k<M.length:=by omega
 have hc:(Po.cnt (R.set k 1):Int)=c:=by have:=Po.cnt_set hkR 1;rw [if_pos h0,if_neg (by decide)] at this;omega
 have step:∀ j,¬ j=g->¬ j=b->(((w.setCell ⟨b,k*2,none⟩ (.pointer (some ⟨q,0,none⟩))).setCell ⟨b,k*2+1,none⟩ (.int .i64 1)).setCell ⟨g,1,none⟩ (.int .i64 c)).heap[j]?=w.heap[j]?:=fun j n1 n2=>by
  rw [Below.heap_setCell _ _ _ _ (show j ≠ g from n1),Below.heap_setCell _ _ _ _ (show j ≠ b from n2),Below.heap_setCell _ _ _ _ (show j ≠ b from n2)]
 have hg:((w.setCell ⟨b,k*2,none⟩ (.pointer (some ⟨q,0,none⟩))).setCell ⟨b,k*2+1,none⟩ (.int .i64 1)).rowIs g 99 2 (poc b n (Po.cnt R)) :=
  h1.of_block (by rw [Below.heap_setCell _ _ _ _ (show g ≠ b from fun e=>h3 e.symm),Below.heap_setCell _ _ _ _ (show g ≠ b from fun e=>h3 e.symm)])
 refine ⟨fun i=>if i=k then .pointer (some ⟨q,0,none⟩) else P i,?_,?_,h3,by simp [h4],by simp [h5],h6,?_,?_⟩
 ·refine (hg.set 1 (.int .i64 c)).congr fun j hj=>?_
  rw [poc_set _ _ _ _ _ hj,hc]
 ·refine (((h2.set (k*2) _).set (k*2+1) _).congr ?_).of_block (Below.heap_setCell _ _ _ _ (show b ≠ g from h3))
  intro j hj
  unfold slc
  by_cases e:j=k*2+1
  ·subst e;rw [if_pos rfl,if_neg (by omega),show (k*2+1) / 2=k by omega,Po.nth_set hkR,if_pos rfl]
  ·rw [if_neg e]
   by_cases e2:j=k*2
   ·subst e2;rw [if_pos rfl,if_pos (by omega)];exact (if_pos (by omega)).symm
   ·rw [if_neg e2]
    by_cases e3:j % 2=0
    ·rw [if_pos e3,if_pos e3];exact (if_neg (by omega)).symm
    ·rw [if_neg e3,if_neg e3,Po.nth_set hkR,if_neg (by omega)]
 ·intro i;rw [Po.nth_set hkR];split
  ·omega
  ·exact h7 i
 ·intro i hi hr
  rw [Po.nth_set hkR] at hr
  rw [Po.nth_set hkM]
  by_cases e:i=k
  ·rw [if_pos e]
   exact ⟨q,if_pos e,q1,q2,hq.of_block (step q q1 q2)⟩
  ·rw [if_neg e] at hr
   rw [if_neg e]
   obtain ⟨p,e1,n1,n2,hp⟩:=h8 i hi hr
   exact ⟨p,(if_neg e).trans e1,n1,n2,hp.of_block (step p n1 n2)⟩
theorem PoolAt.gone {w:World} {g b n:Nat} {R M:List Int} (h:PoolAt w g b n R M) {k:Nat} (hk:k<n) (h0:Ls.nth R k=1) {c:Int} (ec:c=(Po.cnt R:Int)+1) :
 PoolAt (((w.setCell ⟨b,k*2+1,none⟩ (.int .i64 0)).setCell ⟨b,k*2,none⟩ (.pointer none)).setCell ⟨g,1,none⟩ (.int .i64 c)) g b n (R.set k 0) M:=by
 obtain ⟨P,h1,h2,h3,h4,h5,h6,h7,h8⟩:=h
 have hkR:k<R.length:=by omega
 have hc:(Po.cnt (R.set k 0):Int)=c:=by have:=Po.cnt_set hkR 0;rw [if_neg (by omega),if_pos rfl] at this;omega
 have step:∀ j,¬ j=g->¬ j=b->(((w.setCell ⟨b,k*2+1,none⟩ (.int .i64 0)).setCell ⟨b,k*2,none⟩ (.pointer none)).setCell ⟨g,1,none⟩ (.int .i64 c)).heap[j]?=w.heap[j]?:=fun j n1 n2=>by
  rw [Below.heap_setCell _ _ _ _ (show j ≠ g from n1),Below.heap_setCell _ _ _ _ (show j ≠ b from n2),Below.heap_setCell _ _ _ _ (show j ≠ b from n2)]
 have hg:((w.setCell ⟨b,k*2+1,none⟩ (.int .i64 0)).setCell ⟨b,k*2,none⟩ (.pointer none)).rowIs g 99 2 (poc b n (Po.cnt R)) :=
  h1.of_block (by rw [Below.heap_setCell _ _ _ _ (show g ≠ b from fun e=>h3 e.symm),Below.heap_setCell _ _ _ _ (show g ≠ b from fun e=>h3 e.symm)])
 refine ⟨fun i=>if i=k then .pointer none else P i,?_,?_,h3,by simp [h4],h5,h6,?_,?_⟩
 ·refine (hg.set 1 (.int .i64 c)).congr fun j hj=>?_
  rw [poc_set _ _ _ _ _ hj,hc]
 ·refine (((h2.set (k*2+1) _).set (k*2) _).congr ?_).of_block (Below.heap_setCell _ _ _ _ (show b ≠ g from h3))
  intro j hj
  unfold slc
  by_cases e2:j=k*2
  ·subst e2;rw [if_pos rfl,if_pos (by omega)];exact (if_pos (by omega)).symm
  ·rw [if_neg e2]
   by_cases e:j=k*2+1
   ·subst e;rw [if_pos rfl,if_neg (by omega),show (k*2+1) / 2=k by omega,Po.nth_set hkR,if_pos rfl]
   ·rw [if_neg e]
    by_cases e3:j % 2=0
    ·rw [if_pos e3,if_pos e3];exact (if_neg (by omega)).symm
    ·rw [if_neg e3,if_neg e3,Po.nth_set hkR,if_neg (by omega)]
 ·intro i;rw [Po.nth_set hkR];split
  ·omega
  ·exact h7 i
 ·intro i hi hr
  rw [Po.nth_set hkR] at hr
  by_cases e:i=k
  ·rw [if_pos e] at hr;omega
  ·rw [if_neg e] at hr
   obtain ⟨p,e1,n1,n2,hp⟩:=h8 i hi hr
   exact ⟨p,(if_neg e).trans e1,n1,n2,hp.of_block (step p n1 n2)⟩
theorem PoolAt.made {w:World} {g b n:Nat} {zs:Array Value} (hz:zs=#[.pointer none,.int .i64 0]) (h1:w.rowIs g 99 2 (poc b n n)) (h2:w.rowIs b 133 (n*2) (fun j=>zs[j % zs.size]!)) (h3:¬ b=g) (hn:n<=16384):PoolAt w g b n (Po.zeros n) (Po.zeros n):=by
 subst hz
 refine ⟨fun _=>.pointer none,by rw [Po.cnt_zeros];exact h1,h2.congr ?_,h3,Po.zeros_length n,Po.zeros_length n,hn,fun i=>by rw [Po.nth_zeros];omega,fun i hi hr=>by rw [Po.nth_zeros] at hr;omega⟩
 intro j hj
 unfold slc
 show #[Value.pointer none,.int .i64 0][j % 2]! = _
 have:j % 2=0\/j % 2=1:=by omega
 rcases this with e | e
 ·rw [e];rfl
 ·rw [e,Po.nth_zeros];rfl
end Go.Proofs.YtnchnlgnnlgjcaaGreat
