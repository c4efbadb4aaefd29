import Derived.Test.YtnchnlgnnlgjcaaGreatCo03
import Derived.Test.YtnchnlgnnlgjcaaGreatCo02
import Derived.Deep.RegionHeld3
import Derived.Deep.AppendLies
import Derived.Deep.DrawnRows
set_option linter.unusedVariables false
namespace Go.Proofs.YtnchnlgnnlgjcaaGreat
open Go.RowKit
attribute [local go_sem ↓] Go.wp_at_zero Go.wp_at_succ
def gcell (z sc:Int) (v:Value) (i:Nat):Value:=if i=0 then .int .i32 z else if i=1 then .int .u32 sc else v
theorem gcell_set (z sc:Int) (v v':Value) (j:Nat) (hj:j<3):(if j=2 then v' else gcell z sc v j)=gcell z sc v' j:=by
 unfold gcell
 match j,hj with
 | 0,_=>rfl
 | 1,_=>rfl
 | 2,_=>rfl
theorem gcell_alloc (w:World) (z sc:Int) (v:Value) (t:TypeId):(w.alloc (.cells #[.int .i32 z,.int .u32 sc,v] t)).rowIs w.heap.size t 3 (gcell z sc v) :=
 World.rowIs_alloc w #[.int .i32 z,.int .u32 sc,v] t _ (fun i hi=>by match i,hi with | 0,_=>rfl | 1,_=>rfl | 2,_=>rfl)
theorem own_at {w w':World} {base:Nat} {t:TypeId} {v:Value} {n:Nat} {xs:List Value} (h:w.ownsRow base t 1 v n xs) (hb:∀ g,v.ownBlock=some g->w'.heap[g]?=w.heap[g]?):w'.ownsRow base t 1 v n xs:=by
 refine ⟨h.1,?_⟩
 rcases h.2 with h0 | ⟨g,cap,cur,e,h1,h2,h3⟩
 ·exact Or.inl h0
 ·refine Or.inr ⟨g,cap,cur,e,h1,?_,h3⟩
  subst e
  rw [hb g rfl]
  exact h2
theorem own_slice {w:World} {base:Nat} {t:TypeId} {v:Value} {n:Nat} {xs:List Value} (h:w.ownsRow base t 1 v n xs):∃ a c,v=.slice a n c:=by
 rcases h.2 with ⟨e,hn⟩ | ⟨g,cap,cur,e,_⟩
 ·exact ⟨none,0,by rw [e,hn]⟩
 ·exact ⟨_,_,e⟩
theorem own_set {w:World} {base:Nat} {t:TypeId} {v:Value} {n:Nat} {xs:List Value} (h:w.ownsRow base t 1 v n xs) {p:Addr} (hp:p.block<base) (y:Value):(w.setCell p y).ownsRow base t 1 v n xs :=
 own_at h fun g hg=>Go.Deep.blk_setCell_other _ _ _ _ (by have:=(h.lt g hg).1;omega)
set_option maxRecDepth 100000 in
set_option maxHeartbeats 1600000 in
theorem refOf_new (a:Option Addr) (cp b s:Nat) (l:List Int) (w:World) (ha:Lst .i32 w a l) (hx:Ls.In32 l) (hst:Gp.St b s) (h0:0<l.length) (hl:l.length<=256) (z sc:Int) (ez:Gp.low l=z) (es:Gp.scale s l=sc) :
 Calls Tryz.prog 131 #[.slice a l.length cp,.int .i64 b] w fun e w'=>∃ a' c',e=.returned (.agg #[.int .i32 z,.int .u32 sc,.slice a' l.length c']) /\
  Lst .i64 w' a' (Gp.codes z sc l)/\Below w.heap.size w w'/\∀ x,a'=some x->w.heap.size<=x.block:=by
 obtain ⟨i0,hi0,hi1,hi2,hi3⟩:=info_parts Tryz.infoIntG
 have bs:=hst.bd
 have bd:=Gp.spread_bd hx
 have sb:=Gp.scale_bd (s:=(s:Int)) hx (by omega)
 have HX:Hid (Ls.In32 l):=hx
 have HS:Hid (Gp.St b s):=hst
 have EZ:Hid (Gp.low l=z):=ez
 have ES:Hid (Gp.scale s l=sc):=es
 have zb:-2147483648<=z/\z<=2147483647:=by rw [<-ez];exact Gp.lowN_in hx l.length
 rw [es] at sb
 clear hx hst es
 obtain ⟨b1,o1,rfl,hc1⟩:=ha.get h0
 have HC:Hid (∀ j,j<l.length->w.cell? ⟨b1,o1+j,none⟩=some (.int .i32 (Ls.nth l j))):=hc1
 have hc0:w.cell? ⟨b1,o1,none⟩=some (.int .i32 (Ls.nth l 0)):=by have:=hc1 0 h0;rwa [Nat.add_zero] at this
 have hx0:=HX.out 0
 have hlt1:b1<w.heap.size:=World.block_lt_of_cell? w _ hc0
 clear hc1 ha ez
 go_enter Tryz.func131,Tryz.ntmps131
 go_wp2
 go_quiet (fail)
 go_wp2
 clear hc0
 go_loop [5,6,7] (fun lo hi i=>∃ k:Nat,k<=l.length/\i=.int .i64 k/\lo=.int .i64 (Gp.lowN l k)/\hi=.int .i64 (Gp.highN l k)) (fun _ _ i=>l.length - (intOf i).toNat)
 case atStart=>exact ⟨0,Nat.zero_le _,rfl,rfl,rfl⟩
 case round =>
  obtain ⟨k,hk,rfl,rfl,rfl⟩:=hrel
  by_cases hlt:k<l.length
  ·have hck:=HC.out k hlt
   have hxk:=HX.out k
   by_cases c1:Ls.nth l k<Gp.lowN l k
   ·by_cases c2:Gp.highN l k<Ls.nth l k
    ·go_wp2
     go_round
     case rel=>exact ⟨k+1,by omega,by go_num,by simp only [Gp.lowN];rw [Gp.lo2_yes c1],by simp only [Gp.highN];rw [Gp.hi2_yes c2]⟩
     case measure=>simp [intOf];omega
    ·go_wp2
     go_round
     case rel=>exact ⟨k+1,by omega,by go_num,by simp only [Gp.lowN];rw [Gp.lo2_yes c1],by simp only [Gp.highN];rw [Gp.hi2_no (by omega)]⟩
     case measure=>simp [intOf];omega
   ·by_cases c2:Gp.highN l k<Ls.nth l k
    ·go_wp2
     go_round
     case rel=>exact ⟨k+1,by omega,by go_num,by simp only [Gp.lowN];rw [Gp.lo2_no (by omega)],by simp only [Gp.highN];rw [Gp.hi2_yes c2]⟩
     case measure=>simp [intOf];omega
    ·go_wp2
     go_round
     case rel=>exact ⟨k+1,by omega,by go_num,by simp only [Gp.lowN];rw [Gp.lo2_no (by omega)],by simp only [Gp.highN];rw [Gp.hi2_no (by omega)]⟩
     case measure=>simp [intOf];omega
  ·have e:k=l.length:=by omega
   subst e
   have el:Gp.lowN l l.length=z:=EZ.out
   obtain ⟨y,ey⟩:∃ y,Gp.highN l l.length=y:=⟨_,rfl⟩
   have yb:-2147483648<=y/\y<=2147483647:=by rw [<-ey];exact Gp.highN_in HX.out l.length
   have bd':0<=y - z/\y - z<=4294967295:=by rw [<-ey,<-el];exact bd
   have EU:Hid (Gp.up (y - z) s=sc):=by show _=_;rw [<-ey,<-el];exact ES.out
   clear bd
   rw [el,ey]
   clear el ey
   obtain ⟨q,eq⟩:∃ q,(y - z) / s=q:=⟨_,rfl⟩
   have q0:0<=q:=by rw [<-eq];exact Int.ediv_nonneg bd'.1 (by omega)
   have q1:0<=q*s:=Int.mul_nonneg q0 (by omega)
   have q2:q*s<=y - z:=by rw [<-eq];exact Int.ediv_mul_le _ (by omega)
   have q3:q<=q*s:=by have:=Int.mul_le_mul_of_nonneg_left (show (1:Int)<=s by omega) q0;omega
   have hbr:(q*s<y - z/\q+1=sc)\/(¬ q*s<y - z/\q=sc):=by
    by_cases c:q*s<y - z
    ·left;refine ⟨c,?_⟩;rw [<-EU.out,Gp.up_yes (by rw [eq];exact c),eq]
    ·right;refine ⟨c,?_⟩;rw [<-EU.out,Gp.up_no (by rw [eq];exact c),eq]
   rcases hbr with ⟨cb,eb⟩ | ⟨cb,eb⟩
   rotate_left
   have eb':=eb.symm
   clear eb
   subst eb'
   have gb:decide (sc*s<y - z)=false:=decide_eq_false cb
   rotate_left
   have gb:decide (q*s<y - z)=true:=decide_eq_true cb
   all_goals
    go_wp2_with (go_at_call 146;refine (steps_any _ _ HS.out _).mono ?_;rintro r w' ⟨rfl,hw⟩;cases hw.symm;clear hw)
    go_loopw [10] (fun i wr=>∃ (k:Nat) (v:Value),k<=l.length/\i=.int .i64 k/\wr.rowIs (w.heap.size+1) 170 3 (gcell z sc v)/\wr.ownsRow (w.heap.size+2) 3 1 v k ((Ls.gen k fun j=>Gp.code z sc (Ls.nth l j)).map (Value.int .i64))/\Below (w.heap.size+1) (w.alloc (.cells #[.int .i32 0,.int .u32 0,.slice none 0 0] 170)) wr) (fun i _=>l.length - (intOf i).toNat)
    case atStart =>
     refine ⟨0,.slice none 0 0,Nat.zero_le _,rfl,?_,World.ownsRow_nil _ _ _ _,(below_drewN (Below.refl _ _) nq).alloc (by simp) _⟩
     have:=gcell_alloc ((w.alloc (.cells #[.int .i32 0,.int .u32 0,.slice none 0 0] 170)).drewN nq) z sc (.slice none 0 0) 170
     simpa using this
    case round =>
     obtain ⟨k,v,hk,rfl,hrow,hown,hbel⟩:=hrel
     obtain ⟨va,vc,rfl⟩:=own_slice hown
     have hb0:Below w.heap.size w wr:=(box_below w _).trans (hbel.mono (by omega))
     have hsz:w.heap.size+2<=wr.heap.size:=hrow.lt
     by_cases hlt:k<l.length
     ·have hck:wr.cell? ⟨b1,o1+k,none⟩=some (.int .i32 (Ls.nth l k)):=by rw [hb0.cell (p:=⟨b1,o1+k,none⟩) hlt1];exact HC.out k hlt
      have hxk:=HX.out k
      have d0:wr.cell? ⟨w.heap.size+1,0,none⟩=some (.int .i32 z):=hrow.cell (show 0<3 by decide)
      have d1:wr.cell? ⟨w.heap.size+1,1,none⟩=some (.int .u32 sc):=hrow.cell (show 1<3 by decide)
      have d2:wr.cell? ⟨w.heap.size+1,2,none⟩=some (.slice va k vc):=hrow.cell (show 2<3 by decide)
      have hrat:∃ y:Int,y=Gp.code z sc (Ls.nth l k):=⟨_,rfl⟩
      obtain ⟨cd,ecd⟩:=hrat
      have HCD:Hid (cd=Gp.code z sc (Ls.nth l k)):=ecd
      have HR:Hid (wr.rowIs (w.heap.size+1) 170 3 (gcell z sc (.slice va k vc))):=hrow
      have HO:Hid (wr.ownsRow (w.heap.size+2) 3 1 (.slice va k vc) k ((Ls.gen k fun j=>Gp.code z sc (Ls.nth l j)).map (Value.int .i64))):=hown
      have HB:Hid (Below (w.heap.size+1) (w.alloc (.cells #[.int .i32 0,.int .u32 0,.slice none 0 0] 170)) wr):=hbel
      clear hrow hown hbel hb0
      by_cases hp:0<sc
      rotate_left
      ·have hcd0:Hid (cd=0):=by show _=_;rw [ecd,Gp.code_no hp]
       have hp':sc=0:=by omega
       have g5:decide (0<sc)=false:=decide_eq_false hp
       clear ecd hp hp'
       go_wp2_with (at_builtin;refine wpList_append_lies _ rfl _ _ _ rfl (w.heap.size+2) 3 i0 _ 1 8 Tryz.underlying70 hi0 hi1 hi2 hi3 rfl (by omega) _ k _ (by rfl) (HO.out.alloc _) ⟨wr.heap.size,0,none⟩ 1 1 [.int .i64 0] (by rfl) (by rfl) (World.news_of_block (cs:=#[.int .i64 0]) (t:=3) (fr:=(0,0)) (heap_alloc_new wr _)) (by simp [Value.oneCell']) (by omega) (by unfold maxLen;omega) (by omega) (by simp;omega) (wr.heap.size+1) (by simp) ?_;intro gg cap w1 hown1 hgrow hat hlt1;have R1:Hid (w1.rowIs (w.heap.size+1) 170 3 (gcell z sc (.slice va k vc))):=(HR.out.alloc _).of_block (hgrow.block _ (by simp;omega) (fun e=>by have:=(HO.out.lt _ e.symm).1;omega));have B1:Hid (Below (w.heap.size+1) (w.alloc (.cells #[.int .i32 0,.int .u32 0,.slice none 0 0] 170)) w1):=(HB.out.alloc (by omega) _).grown hgrow (by simp;omega) (fun j hj=>by have:=(HO.out.lt j hj).1;omega);have O1:Hid (w1.ownsRow (w.heap.size+2) 3 1 (.slice (some ⟨gg,0,none⟩) (k+1) cap) (k+1) ((Ls.gen k fun j=>Gp.code z sc (Ls.nth l j)).map (Value.int .i64) ++ [.int .i64 0])):=hown1;have c0:w1.cell? ⟨w.heap.size+1,0,none⟩=some (.int .i32 z):=R1.out.cell (show 0<3 by decide);have c1:w1.cell? ⟨w.heap.size+1,1,none⟩=some (.int .u32 sc):=R1.out.cell (show 1<3 by decide);have c2:w1.cell? ⟨w.heap.size+1,2,none⟩=some (.slice va k vc):=R1.out.cell (show 2<3 by decide);have f2:=R1.out.frozen 2;clear hown1 hgrow hat)
       go_roundw
       case rel=>exact ⟨k+1,_,by omega,by go_num,(R1.out.set 2 _).congr (fun j hj=>gcell_set z sc _ _ j hj),own_set (gen_snoc O1.out (by rw [<-HCD.out,hcd0.out])) (by simp) _,B1.out.setCell (by simp) _⟩
       case measure=>simp [intOf];omega
      ·have HP:Hid (Fx.rnd (Ls.nth l k - z) sc=cd):=by show _=_;rw [ecd,Gp.code_yes hp]
       clear ecd
       go_wp2_with (first
        | (go_at_call 147;refine (refRatio_any _ _ (by omega) (by omega) hp (by omega) _).mono ?_;rintro r w' ⟨rfl,hw⟩;cases hw.symm;clear hw;rw [HP.out])
        | (at_builtin;refine wpList_append_lies _ rfl _ _ _ rfl (w.heap.size+2) 3 i0 _ 1 8 Tryz.underlying70 hi0 hi1 hi2 hi3 rfl (by omega) _ k _ (by rfl) (HO.out.alloc _) ⟨wr.heap.size,0,none⟩ 1 1 [.int .i64 cd] (by rfl) (by rfl) (World.news_of_block (cs:=#[.int .i64 cd]) (t:=3) (fr:=(0,0)) (heap_alloc_new wr _)) (by simp [Value.oneCell']) (by omega) (by unfold maxLen;omega) (by omega) (by simp;omega) (wr.heap.size+1) (by simp) ?_;intro gg cap w1 hown1 hgrow hat hlt1;have R1:Hid (w1.rowIs (w.heap.size+1) 170 3 (gcell z sc (.slice va k vc))):=(HR.out.alloc _).of_block (hgrow.block _ (by simp;omega) (fun e=>by have:=(HO.out.lt _ e.symm).1;omega));have B1:Hid (Below (w.heap.size+1) (w.alloc (.cells #[.int .i32 0,.int .u32 0,.slice none 0 0] 170)) w1):=(HB.out.alloc (by omega) _).grown hgrow (by simp;omega) (fun j hj=>by have:=(HO.out.lt j hj).1;omega);have O1:Hid (w1.ownsRow (w.heap.size+2) 3 1 (.slice (some ⟨gg,0,none⟩) (k+1) cap) (k+1) ((Ls.gen k fun j=>Gp.code z sc (Ls.nth l j)).map (Value.int .i64) ++ [.int .i64 cd])):=hown1;have c0:w1.cell? ⟨w.heap.size+1,0,none⟩=some (.int .i32 z):=R1.out.cell (show 0<3 by decide);have c1:w1.cell? ⟨w.heap.size+1,1,none⟩=some (.int .u32 sc):=R1.out.cell (show 1<3 by decide);have c2:w1.cell? ⟨w.heap.size+1,2,none⟩=some (.slice va k vc):=R1.out.cell (show 2<3 by decide);have f2:=R1.out.frozen 2;clear hown1 hgrow hat))
       go_roundw
       case rel=>exact ⟨k+1,_,by omega,by go_num,(R1.out.set 2 _).congr (fun j hj=>gcell_set z sc _ _ j hj),own_set (gen_snoc O1.out (HCD.out)) (by simp) _,B1.out.setCell (by simp) _⟩
       case measure=>simp [intOf];omega
     ·have e:k=l.length:=by omega
      subst e
      have d0:wr.cell? ⟨w.heap.size+1,0,none⟩=some (.int .i32 z):=hrow.cell (show 0<3 by decide)
      have d1:wr.cell? ⟨w.heap.size+1,1,none⟩=some (.int .u32 sc):=hrow.cell (show 1<3 by decide)
      have d2:wr.cell? ⟨w.heap.size+1,2,none⟩=some (.slice va l.length vc):=hrow.cell (show 2<3 by decide)
      have r0:wr.rowIs w.heap.size 170 3 (gcell 0 0 (.slice none 0 0)):=(gcell_alloc w 0 0 (.slice none 0 0) 170).of_block (hbel.block _ (by omega))
      have c0:=r0.cell (show 0<3 by decide)
      have c1:=r0.cell (show 1<3 by decide)
      have c2:=r0.cell (show 2<3 by decide)
      have f0:=r0.frozen 0
      have f1:=r0.frozen 1
      have f2:=r0.frozen 2
      have HO:Hid (wr.ownsRow (w.heap.size+2) 3 1 (.slice va l.length vc) l.length ((Ls.gen l.length fun j=>Gp.code z sc (Ls.nth l j)).map (Value.int .i64))/\Below w.heap.size w wr):=⟨hown,hb0⟩
      clear hrow hown hbel hb0 r0
      go_wp2
      refine bodyPost_ret (v:=.agg #[.int .i32 z,.int .u32 sc,.slice va l.length vc]) (by simp [results,Tryz.results131,go_sem,c0,c1,c2]) rfl ⟨va,vc,rfl,?_,?_,?_⟩
      ·have hm:l.length=(Gp.codes z sc l).length:=(Gp.codes_length _ _ _).symm
       obtain ⟨a',c',h1,h2⟩:=lst_of_ownm (l:=Gp.codes z sc l) (own_set (own_set (own_set HO.out.1 (p:=⟨w.heap.size,0,none⟩) (by simp) _) (p:=⟨w.heap.size,1,none⟩) (by simp) _) (p:=⟨w.heap.size,2,none⟩) (by simp) _) hm
       cases h1
       exact h2
      ·exact ((HO.out.2.setCell (by simp) _).setCell (by simp) _).setCell (by simp) _
      ·intro x ex
       rcases HO.out.1.2 with ⟨e1,_⟩ | ⟨g,cap,cur,e1,hbg,_⟩
       ·injection e1 with q1 _ _;rw [q1] at ex;cases ex
       ·cases e1
        cases ex
        show w.heap.size<=g
        omega
end Go.Proofs.YtnchnlgnnlgjcaaGreat
namespace Go.Proofs.YtnchnlgnnlgjcaaGreat
open Go.RowKit
def GpAt (w:World) (b o i:Nat) (g:Int × Int × List Int) (a:Option Addr) (c:Nat):Prop :=
 w.cell? ⟨b,o+i*3,none⟩=some (.int .i32 (Pg.gz g))/\w.cell? ⟨b,o+i*3+1,none⟩=some (.int .u32 (Pg.gs g))/\w.cell? ⟨b,o+i*3+2,none⟩=some (.slice a (Pg.gc g).length c)/\Lst .i64 w a (Pg.gc g)
def Gps (w:World) (a:Option Addr) (l:List (Int × Int × List Int)):Prop :=
 ∀ i,i<l.length->∃ b o a' c',a=some ⟨b,o,none⟩/\GpAt w b o i (Pg.nth l i) a' c'
theorem GpAt.keep {w w':World} {b o i:Nat} {g:Int × Int × List Int} {a:Option Addr} {c:Nat} (h:GpAt w b o i g a c) (hb:Below w.heap.size w w'):GpAt w' b o i g a c:=by
 obtain ⟨h0,h1,h2,h3⟩:=h
 refine ⟨?_,?_,?_,h3.keep hb⟩
 ·rw [hb.cell (p:=⟨b,o+i*3,none⟩) (World.block_lt_of_cell? w _ h0)];exact h0
 ·rw [hb.cell (p:=⟨b,o+i*3+1,none⟩) (World.block_lt_of_cell? w _ h1)];exact h1
 ·rw [hb.cell (p:=⟨b,o+i*3+2,none⟩) (World.block_lt_of_cell? w _ h2)];exact h2
theorem Gps.keep {w w':World} {a:Option Addr} {l:List (Int × Int × List Int)} (h:Gps w a l) (hb:Below w.heap.size w w'):Gps w' a l:=fun i hi=>by
 obtain ⟨b,o,a',c',e,h'⟩:=h i hi
 exact ⟨b,o,a',c',e,h'.keep hb⟩
theorem Gps.get {w:World} {a:Option Addr} {l:List (Int × Int × List Int)} (h:Gps w a l) {i:Nat} (hi:i<l.length) :
 ∃ b o,a=some ⟨b,o,none⟩/\∀ j,j<l.length->∃ a' c',GpAt w b o j (Pg.nth l j) a' c':=by
 obtain ⟨b,o,_,_,rfl,_⟩:=h i hi
 refine ⟨b,o,rfl,fun j hj=>?_⟩
 obtain ⟨b',o',a',c',e,hc⟩:=h j hj
 simp at e
 obtain ⟨rfl,rfl⟩:=e
 exact ⟨a',c',hc⟩
theorem GpAt.lt {w:World} {b o i:Nat} {g:Int × Int × List Int} {a:Option Addr} {c:Nat} (h:GpAt w b o i g a c):b<w.heap.size:=World.block_lt_of_cell? w _ h.1
def InG (l:List (Int × Int × List Int)):Prop:=∀ i,i<l.length->-2147483648<=Pg.gz (Pg.nth l i)/\Pg.gz (Pg.nth l i)<=2147483647/\0<=Pg.gs (Pg.nth l i)/\Pg.gs (Pg.nth l i)<=4294967295/\(Pg.gc (Pg.nth l i)).length<=maxLen
def gflat (l:List (Int × Int × List Int)) (A:Nat->Option Addr) (C:Nat->Nat):Nat->List Value
 | 0=>[]
 | n+1=>gflat l A C n ++ [.int .i32 (Pg.gz (Pg.nth l n)),.int .u32 (Pg.gs (Pg.nth l n)),.slice (A n) (Pg.gc (Pg.nth l n)).length (C n)]
theorem gflat_length (l:List (Int × Int × List Int)) (A:Nat->Option Addr) (C:Nat->Nat) (n:Nat):(gflat l A C n).length=n*3:=by
 induction n with
 | zero=>rfl
 | succ n ih=>simp only [gflat];rw [List.length_append,ih];simp;omega
theorem gflat_at (l:List (Int × Int × List Int)) (A:Nat->Option Addr) (C:Nat->Nat) (n i:Nat) (hi:i<n) :
 (gflat l A C n)[i*3]?=some (.int .i32 (Pg.gz (Pg.nth l i)))/\(gflat l A C n)[i*3+1]?=some (.int .u32 (Pg.gs (Pg.nth l i)))/\(gflat l A C n)[i*3+2]?=some (.slice (A i) (Pg.gc (Pg.nth l i)).length (C i)):=by
 induction n with
 | zero=>omega
 | succ n ih =>
   simp only [gflat]
   have hl:=gflat_length l A C n
   by_cases e:i=n
   ·subst e
    rw [List.getElem?_append_right (by omega),List.getElem?_append_right (by omega),List.getElem?_append_right (by omega),hl]
    rw [show i*3 - i*3=0 by omega,show i*3+1 - i*3=1 by omega,show i*3+2 - i*3=2 by omega]
    exact ⟨rfl,rfl,rfl⟩
   ·rw [List.getElem?_append_left (by omega),List.getElem?_append_left (by omega),List.getElem?_append_left (by omega)]
    exact ih (by omega)
theorem gflat_congr {l m:List (Int × Int × List Int)} {A B:Nat->Option Addr} {C D:Nat->Nat} (n:Nat) (h:∀ i,i<n->Pg.nth l i=Pg.nth m i/\A i=B i/\C i=D i):gflat l A C n=gflat m B D n:=by
 induction n with
 | zero=>rfl
 | succ n ih =>
   simp only [gflat]
   obtain ⟨e1,e2,e3⟩:=h n (by omega)
   rw [ih (fun i hi=>h i (by omega)),e1,e2,e3]
end Go.Proofs.YtnchnlgnnlgjcaaGreat
namespace Go.Proofs.YtnchnlgnnlgjcaaGreat
open Go.RowKit
attribute [local go_sem ↓] Go.wp_at_zero Go.wp_at_succ
theorem bitsB_any (b:Int) (q:Bool) (hq:Gp.okB b=q) (w:World) :
 Calls Tryz.prog 81 #[.int .i64 b] w fun e w'=>e=.returned (.bool q)/\w'=w:=by
 rcases ok_or b with h | ⟨n,rfl,h⟩
 ·have e:q=false:=by rw [<-hq];unfold Gp.okB;simp [h.1,h.2.1,h.2.2]
  subst e
  exact bits_no b h w
 ·have e:q=true:=by rw [<-hq];rcases h with rfl | rfl | rfl <;> rfl
  subst e
  exact bits_yes n h w
theorem Pg.rightH_eq (h0 h1 h2 h3 h4 h5 h6:Int):Pg.rightH [h0,h1,h2,h3,h4,h5,h6]=(Gp.okB h0 && Gp.okB h1 && decide (1<=h2) && decide (h2<=16) && decide (1<=h3) && decide (h3<=16) && decide (0<=h4) && decide (h4<=3) && decide (0<=h5) && decide (h5<=3) && decide (0<=h6) && decide (h6<=1023)):=rfl
def Pg.shapeB (l:List (Int × Int × List Int)) (n each:Int):Bool:=decide ((∀ i,i<l.length->((Pg.gc (Pg.nth l i)).length:Int)=each)/\(l.length:Int)=n)
end Go.Proofs.YtnchnlgnnlgjcaaGreat
namespace Go.Proofs.YtnchnlgnnlgjcaaGreat
open Go.RowKit
attribute [local go_sem ↓] Go.wp_at_zero Go.wp_at_succ
theorem Tryz.infoRG:(Tryz.prog.info? 170).map (fun i=>(i.zero,i.size,i.bytes))=some (some (.agg #[.int .i32 0,.int .u32 0,.slice none 0 0]),3,32):=by kernel_rfl
theorem GpAt.cells {w:World} {b o i:Nat} {g:Int × Int × List Int} {a:Option Addr} {c:Nat} (h:GpAt w b o i g a c):w.cell? ⟨b,o+i*3,none⟩=some (.int .i32 (Pg.gz g))/\w.cell? ⟨b,o+i*3+1,none⟩=some (.int .u32 (Pg.gs g))/\w.cell? ⟨b,o+i*3+2,none⟩=some (.slice a (Pg.gc g).length c):=⟨h.1,h.2.1,h.2.2.1⟩
end Go.Proofs.YtnchnlgnnlgjcaaGreat
namespace Go.Proofs.YtnchnlgnnlgjcaaGreat
open Go.RowKit
attribute [local go_sem ↓] Go.wp_at_zero Go.wp_at_succ
namespace Pg
def rightsN (s:Int) (l:List (Int × Int × List Int)):Nat->Int
 | 0=>0
 | k+1=>if rightsN s l k=0 then Gp.right s (gs (nth l k)) (gc (nth l k)) else rightsN s l k
theorem rightsN_ok {s:Int} {l:List (Int × Int × List Int)} {k:Nat} (h:rightsN s l k=0):rightsN s l (k+1)=Gp.right s (gs (nth l k)) (gc (nth l k)):=by simp only [rightsN];rw [if_pos h]
theorem rightsN_bad {s:Int} {l:List (Int × Int × List Int)} {k:Nat} (h:¬ rightsN s l k=0):rightsN s l (k+1)=rightsN s l k:=by simp only [rightsN];rw [if_neg h]
theorem rightsN_stop {s:Int} {l:List (Int × Int × List Int)} {k n:Nat} (h:¬ rightsN s l k=0) (hn:k<=n):rightsN s l n=rightsN s l k:=by
 obtain ⟨d,rfl⟩:=Nat.exists_eq_add_of_le hn
 clear hn
 induction d with
 | zero=>rfl
 | succ d ih=>rw [<-Nat.add_assoc,rightsN_bad (by rw [ih];exact h),ih]
theorem rightsN_all {s:Int} {l:List (Int × Int × List Int)} {k:Nat} (h:rightsN s l k=0) (i:Nat) (hi:i<k):Gp.right s (gs (nth l i)) (gc (nth l i))=0:=by
 induction k with
 | zero=>omega
 | succ k ih =>
   by_cases c:rightsN s l k=0
   ·by_cases e:i=k
    ·subst e;rw [rightsN_ok c] at h;exact h
    ·exact ih c (by omega)
   ·rw [rightsN_bad c] at h;exact absurd h c
def top (b:Int):Int:=if b=2 then 3 else if b=4 then 15 else 255
theorem top_st {b s:Nat} (h:Gp.St b s):top (b:Int)=s:=by rcases h with ⟨rfl,rfl⟩ | ⟨rfl,rfl⟩ | ⟨rfl,rfl⟩ <;> rfl
theorem okB_st {b:Int} (h:Gp.okB b=true):∃ n s:Nat,b=(n:Int)/\Gp.St n s:=by
 rcases okB_or h with rfl | rfl | rfl
 ·exact ⟨2,3,rfl,Or.inl ⟨rfl,rfl⟩⟩
 ·exact ⟨4,15,rfl,Or.inr (Or.inl ⟨rfl,rfl⟩)⟩
 ·exact ⟨8,255,rfl,Or.inr (Or.inr ⟨rfl,rfl⟩)⟩
theorem st_pow {b s:Nat} (h:Gp.St b s):2 ^ b - 1=s:=by rcases h with ⟨rfl,rfl⟩ | ⟨rfl,rfl⟩ | ⟨rfl,rfl⟩ <;> rfl
def newE (h:List Int) (ks vs:List (Int × Int × List Int)):Int :=
 if rightH h=false then 11 else if shapeB ks (Ls.nth h 3) (Ls.nth h 2)=false then 25 else if shapeB vs (Ls.nth h 2) (Ls.nth h 3)=false then 25 else
 if ¬ rightsN (top (Ls.nth h 0)) ks ks.length=0 then rightsN (top (Ls.nth h 0)) ks ks.length else rightsN (top (Ls.nth h 1)) vs vs.length
theorem shapeB_all {l:List (Int × Int × List Int)} {n each:Int} (h:shapeB l n each=true):(∀ i,i<l.length->((gc (nth l i)).length:Int)=each)/\(l.length:Int)=n:=by
 unfold shapeB at h
 simp only [decide_eq_true_eq] at h
 exact h
theorem newE_zero {h:List Int} {ks vs:List (Int × Int × List Int)} (e:newE h ks vs=0):rightH h=true/\shapeB ks (Ls.nth h 3) (Ls.nth h 2)=true/\shapeB vs (Ls.nth h 2) (Ls.nth h 3)=true /\
 rightsN (top (Ls.nth h 0)) ks ks.length=0/\rightsN (top (Ls.nth h 1)) vs vs.length=0:=by
 unfold newE at e
 split at e
 ·cases e
 ·rename_i h1
  split at e
  ·cases e
  ·rename_i h2
   split at e
   ·cases e
   ·rename_i h3
    split at e
    ·rename_i h4;exact absurd e h4
    ·rename_i h4
     exact ⟨by simpa using h1,by simpa using h2,by simpa using h3,by simpa using h4,e⟩
theorem right_fits {b s n:Nat} {g:Int × Int × List Int} (hst:Gp.St b s) (hn:(gc g).length=n) (h0:-2147483648<=gz g) (h1:gz g<=2147483647) (h2:0<=gs g) (h3:gs g<=4294967295) (hr:Gp.right s (gs g) (gc g)=0):Fits b n g:=by
 refine ⟨hn,?_,h0,h1,h2,h3⟩
 intro i
 have hf:=Gp.fits_all (Gp.right_zero hr).2.2
 have hp:=st_pow hst
 have hpos:0<2 ^ b:=Nat.two_pow_pos b
 by_cases hi:i<(gc g).length
 ·have:=hf i hi
  omega
 ·rw [Ls.nth_past (by omega)]
  exact ⟨Int.le_refl _,hpos⟩
theorem newE_page {h:List Int} {ks vs:List (Int × Int × List Int)} (h7:h.length=7) (ik:InG ks) (iv:InG vs) (e:newE h ks vs=0):Page h ks vs:=by
 obtain ⟨hr,sk,sv,rk,rv⟩:=newE_zero e
 obtain ⟨a,b,c,d,f,g,_⟩:=rightH_all hr
 obtain ⟨k1,k2⟩:=shapeB_all sk
 obtain ⟨v1,v2⟩:=shapeB_all sv
 have ok0:Gp.okB (Ls.nth h 0)=true:=by unfold Gp.okB;rcases a with a | a | a <;> simp [a]
 have ok1:Gp.okB (Ls.nth h 1)=true:=by unfold Gp.okB;rcases b with a | a | a <;> simp [a]
 obtain ⟨b0,s0,e0,st0⟩:=okB_st ok0
 obtain ⟨b1,s1,e1,st1⟩:=okB_st ok1
 have hb0:kb h=b0:=by unfold kb;omega
 have hb1:vb h=b1:=by unfold vb;omega
 have t0:top (Ls.nth h 0)=s0:=by rw [e0];exact top_st st0
 have t1:top (Ls.nth h 1)=s1:=by rw [e1];exact top_st st1
 rw [t0] at rk
 rw [t1] at rv
 refine ⟨h7,hr,by unfold dm;omega,by unfold tk;omega,fun i hi=>?_,fun i hi=>?_,fun i hi=>?_,fun i hi=>?_⟩
 ·obtain ⟨q0,q1,q2,q3,_⟩:=ik i hi
  rw [hb0]
  exact right_fits st0 (by have:=k1 i hi;unfold tk;omega) q0 q1 q2 q3 (rightsN_all rk i hi)
 ·obtain ⟨q0,q1,q2,q3,_⟩:=iv i hi
  rw [hb1]
  exact right_fits st1 (by have:=v1 i hi;unfold dm;omega) q0 q1 q2 q3 (rightsN_all rv i hi)
 ·rw [hb0,st_pow st0];exact rightsN_all rk i hi
 ·rw [hb1,st_pow st1];exact rightsN_all rv i hi
theorem newE_vals {h:List Int} {ks vs:List (Int × Int × List Int)} (hr:rightH h=true) (h1:shapeB ks (Ls.nth h 3) (Ls.nth h 2)=true) (h2:shapeB vs (Ls.nth h 2) (Ls.nth h 3)=true) (h3:rightsN (top (Ls.nth h 0)) ks ks.length=0):newE h ks vs=rightsN (top (Ls.nth h 1)) vs vs.length:=by
 unfold newE
 rw [if_neg (by rw [hr];simp),if_neg (by rw [h1];simp),if_neg (by rw [h2];simp),if_neg (by rw [h3];simp)]
end Pg
theorem boxes_cells {w v:World} {X Y:Array Value} {s t:TypeId} (hb:Below ((w.alloc (.cells X s)).alloc (.cells Y t)).heap.size ((w.alloc (.cells X s)).alloc (.cells Y t)) v) :
 (∀ i x,X[i]?=some x->v.cell? ⟨w.heap.size,i,none⟩=some x)/\(∀ i y,Y[i]?=some y->v.cell? ⟨w.heap.size+1,i,none⟩=some y):=by
 refine ⟨fun i x hx=>?_,fun i y hy=>?_⟩
 ·rw [hb.cell (p:=⟨w.heap.size,i,none⟩) (by simp;omega),(box_below (w.alloc (.cells X s)) (.cells Y t)).cell (p:=⟨w.heap.size,i,none⟩) (by simp),cell_of_row _ _ _ _ _ _ (heap_alloc_new w _)]
  exact hx
 ·have:=cell_of_row _ _ i _ _ _ (heap_alloc_new (w.alloc (.cells X s)) (.cells Y t))
  rw [show (w.alloc (.cells X s)).heap.size=w.heap.size+1 by simp] at this
  rw [hb.cell (p:=⟨w.heap.size+1,i,none⟩) (by simp),this]
  exact hy
end Go.Proofs.YtnchnlgnnlgjcaaGreat
namespace Go.Proofs.YtnchnlgnnlgjcaaGreat
open Go.RowKit
theorem div_cast {v:Int} (h0:0<=v) (s:Nat):v / 2 ^ s=((v.toNat / 2 ^ s:Nat):Int):=by
 rw [Int.natCast_ediv,Int.natCast_pow]
 congr 1
 omega
theorem and_low {x:Int} {b m q n:Nat} (hb:b<=8) (hm:2 ^ b - 1=m) (hx:x % 18446744073709551616=((n % 18446744073709551616:Nat):Int)) (hq:n % 2 ^ b=q):bits .and .i64 x m=q:=by
 have p8:2 ^ b<=256:=Pk.two_le (t:=8) hb
 have p0:=Nat.two_pow_pos b
 have hq8:q<2 ^ b:=by rw [<-hq];exact Nat.mod_lt _ p0
 have e1:(BitVec.ofInt 64 x).toNat=n % 18446744073709551616:=by
  rw [BitVec.toNat_ofInt]
  show (x % 18446744073709551616).toNat=_
  rw [hx]
  rfl
 have e2:(BitVec.ofInt 64 (m:Int)).toNat=2 ^ b - 1:=by
  rw [BitVec.toNat_ofInt,hm]
  show ((m:Int) % 18446744073709551616).toNat=_
  omega
 show IntKind.i64.wrap ((BitVec.ofInt 64 x &&& BitVec.ofInt 64 (m:Int)).toNat:Int)=_
 rw [BitVec.toNat_and,e1,e2,Nat.and_two_pow_sub_one_eq_mod,<-Pk.two_64,Nat.mod_mod_of_dvd _ (Nat.pow_dvd_pow 2 (show b<=64 by omega)),hq,IntKind.wrap_i64]
 omega
theorem wrap_low (n:Nat):wrap64 (n:Int) % 18446744073709551616=((n % 18446744073709551616:Nat):Int):=by
 unfold wrap64
 omega
theorem and_mask {v:Int} {s b m q:Nat} (h0:0<=v) (hb:b<=8) (hm:2 ^ b - 1=m) (hq:v.toNat / 2 ^ s % 2 ^ b=q):bits .and .i64 (wrap64 (v / 2 ^ s)) m=q:=by
 have e:=div_cast h0 s
 obtain ⟨n,en⟩:∃ n,v.toNat / 2 ^ s=n:=⟨_,rfl⟩
 rw [en] at hq e
 rw [e]
 exact and_low hb hm (wrap_low n) hq
theorem lane_ok (a:Option Addr) (c i b:Nat) (ws:List Int) (h:Pk.Ok b) (hi:i<=9223372036854775807) (hf:Pk.word b i<ws.length) (w:World) (ha:Lst .u64 w a ws) (hw:Pk.Wds ws) :
 Calls Tryz.prog 144 #[.slice a ws.length c,.int .i64 i,.int .i64 b] w fun e w'=>e=.returned (.int .i64 (Pk.lane b ws i:Nat))/\∃ n,w'=w.drewN n:=by
 have H:Hid (Pk.Ok b):=h
 have hs:=Pk.shift_le i h
 have hb:=ok_le h
 obtain ⟨b1,o1,rfl,hc1⟩:=ha.get hf
 have hc:=hc1 _ hf
 have hv:=hw (Pk.word b i)
 obtain ⟨q,eq⟩:∃ q,Pk.lane b ws i=q:=⟨_,rfl⟩
 rw [eq]
 unfold Pk.lane at eq
 clear h ha hw hc1
 obtain ⟨t,et⟩:∃ t,Pk.word b i=t:=⟨_,rfl⟩
 have ET:Hid (Pk.word b i=t):=et
 obtain ⟨s,es⟩:∃ s,Pk.shift b i=s:=⟨_,rfl⟩
 have ES:Hid (Pk.shift b i=s):=es
 obtain ⟨m,em⟩:∃ m,2 ^ b - 1=m:=⟨_,rfl⟩
 have EM:Hid (2 ^ b - 1=m):=em
 rw [et] at hf hc hv eq
 rw [es] at hs eq
 obtain ⟨v,ev⟩:∃ v,Ls.nth ws t=v:=⟨_,rfl⟩
 rw [ev] at hc hv eq
 have EQ:Hid (v.toNat / 2 ^ s % 2 ^ b=q):=eq
 clear et es em ev eq
 go_enter Tryz.func144,Tryz.ntmps144
 go_wp2_with (first
  | (go_at_call 81;refine (bits_yes _ H.out _).mono ?_;rintro e w' ⟨rfl,rfl⟩)
  | (go_at_call 162;refine (place_any _ _ t s H.out (by omega) ET.out ES.out _).mono ?_;rintro e w' ⟨rfl,n,rfl⟩))
 go_quiet ((go_at_call 163;exact (mask_any _ m H.out EM.out _).mono fun _ _ ⟨he,hw⟩=>⟨he,_,hw⟩))
 go_wp2
 go_ret
 exact ⟨ret_num (and_mask hv.1 hb.2 EM.out EQ.out),_,World.drewN_drewN _ _ _⟩
end Go.Proofs.YtnchnlgnnlgjcaaGreat
namespace Go.Proofs.YtnchnlgnnlgjcaaGreat
open Go.RowKit
theorem Tryz.infoU64:(Tryz.prog.info? 183).map (fun i=>(i.zero,i.size,i.bytes))=some (some (.int .u64 0),1,8):=by kernel_rfl
theorem or_top {a c s:Nat} (ha:a<2 ^ s) (h:a+c*2 ^ s<18446744073709551616):bits .or .u64 (a:Int) ((c*2 ^ s:Nat):Int)=((a+c*2 ^ s:Nat):Int):=by
 have e:=Nat.two_pow_add_eq_or_of_lt ha c
 have e1:(BitVec.ofInt 64 (a:Int)).toNat=a:=by
  rw [BitVec.toNat_ofInt]
  show ((a:Int) % 18446744073709551616).toNat=_
  omega
 have e2:(BitVec.ofInt 64 ((c*2 ^ s:Nat):Int)).toNat=c*2 ^ s:=by
  obtain ⟨x,ex⟩:∃ x,c*2 ^ s=x:=⟨_,rfl⟩
  rw [ex] at h
  rw [BitVec.toNat_ofInt,ex]
  show ((x:Int) % 18446744073709551616).toNat=_
  omega
 show IntKind.u64.wrap ((BitVec.ofInt 64 (a:Int) ||| BitVec.ofInt 64 ((c*2 ^ s:Nat):Int)).toNat:Int)=_
 rw [BitVec.toNat_or,e1,e2,Nat.or_comm,Nat.mul_comm,<-e,Nat.mul_comm,Nat.add_comm,IntKind.wrap_u64]
 omega
theorem u64_same {n:Int} (h1:0<=n) (h2:n<18446744073709551616):IntKind.u64.wrap n=n:=by rw [IntKind.wrap_u64];omega
def upTo (b:Nat) (l:List Int) (k t:Nat):Value:=.int .u64 (Pk.acc b l t k:Nat)
theorem upTo_set {b:Nat} {l:List Int} {k t A X:Nat} (ht:Pk.word b k=t) (hA:Pk.acc b l t k=A) (hX:(Ls.nth l k).toNat*2 ^ Pk.shift b k=X) (j:Nat) :
 (if j=t then Value.int .u64 ((A+X:Nat):Int) else upTo b l k j)=upTo b l (k+1) j:=by
 unfold upTo
 by_cases e:j=t
 ·subst e
  rw [if_pos rfl,Pk.acc_here ht,hA,hX]
 ·rw [if_neg e,Pk.acc_else (by omega)]
theorem pack_ok (a:Option Addr) (c b:Nat) (l:List Int) (h:Pk.Ok b) (hl:l.length<=256) (w:World) (ha:Lst .i64 w a l) (hc:Pk.Cds b l) :
 Calls Tryz.prog 169 #[.slice a l.length c,.int .i64 b] w fun e w'=>∃ g,e=.returned (.tuple #[.slice (some ⟨g,0,none⟩) (Pk.size b l.length) (Pk.size b l.length),.int .i64 0])/\w.heap.size<=g /\
  Lst .u64 w' (some ⟨g,0,none⟩) (Pk.pack b l)/\Below w.heap.size w w':=by
 have H:Hid (Pk.Ok b):=h
 have HA:Hid (Lst .i64 w a l):=ha
 have HC:Hid (Pk.Cds b l):=hc
 have p0:=Nat.two_pow_pos b
 have hb:=ok_le h
 have hz:=Pk.size_le h hl
 obtain ⟨z,ez⟩:∃ z,Pk.size b l.length=z:=⟨_,rfl⟩
 have EZ:Hid (Pk.size b l.length=z):=ez
 rw [ez] at hz
 rw [ez]
 obtain ⟨m,em⟩:∃ m,2 ^ b - 1=m:=⟨_,rfl⟩
 have EM:Hid (2 ^ b - 1=m):=em
 have EP:Hid (2 ^ b=m+1):=by show _=_;omega
 have hmk:=run_make_row' (P:=Tryz.prog) 178 183 (.int .u64 0) 8 Tryz.underlying178 Tryz.infoU64 rfl .i64 .i64 z (by omega) (by omega)
 clear h ha hc em p0 ez
 go_enter Tryz.func169,Tryz.ntmps169
 go_wp2_with (first
  | (go_at_call 81;refine (bits_yes _ H.out _).mono ?_;rintro e w' ⟨rfl,hww⟩;cases hww.symm;clear hww)
  | (go_at_call 173;refine (countable_yes _ (by omega) (by omega) _).mono ?_;rintro e w' ⟨rfl,hww⟩;cases hww.symm;clear hww))
 go_loop [22] (fun i=>∃ k:Nat,k<=l.length/\i=.int .i64 k) (fun i=>l.length - (intOf i).toNat)
 case atStart=>exact ⟨0,Nat.zero_le _,rfl⟩
 case round =>
  obtain ⟨k,hk,rfl⟩:=hrel
  by_cases hlt:k<l.length
  ·obtain ⟨b1,o1,rfl,hc1⟩:=HA.out.get hlt
   have hck1:=hc1 k hlt
   clear hc1 hmk
   have hcd:=HC.out k
   rw [EP.out] at hcd
   go_wp2_with (go_at_call 163;refine (mask_any _ m H.out EM.out _).mono ?_;rintro e w' ⟨rfl,hww⟩;cases hww.symm;clear hww)
   go_round
   case rel=>exact ⟨k+1,by omega,by go_num⟩
   case measure=>simp [intOf];omega
  ·have e:k=l.length:=by omega
   subst e
   clear hk hlt
   go_wp2_with (go_at_call 174;refine (words_yes _ _ H.out hl _).mono ?_;rintro e w' ⟨rfl,hww⟩;cases hww.symm;clear hww;rw [EZ.out])
   clear hmk
   go_loopw [42] (fun i wr=>∃ k:Nat,k<=l.length/\i=.int .i64 k/\wr.rowIs w.heap.size 183 z (upTo b l k)/\Below w.heap.size w wr) (fun i _=>l.length - (intOf i).toNat)
   case atStart=>exact ⟨0,Nat.zero_le _,rfl,(World.rowIs_made w (.int .u64 0) z 183).congr (fun j hj=>rfl),(Below.refl _ _).alloc (Nat.le_refl _) _⟩
   case round =>
    obtain ⟨k,hk,rfl,hrow,hbel⟩:=hrel
    by_cases hlt:k<l.length
    ·obtain ⟨b1,o1,rfl,hc1⟩:=(HA.out.keep hbel).get hlt
     have hck1:=hc1 k hlt
     have hcd:=HC.out k
     have hs:=Pk.shift_le k H.out
     have hts:=Pk.word_size H.out hlt
     have hlo:=(Pk.acc_low (Pk.word b k) k H.out HC.out).2.1 rfl
     have hup:=Pk.on_top hlo hcd.2
     have h64:2 ^ (Pk.shift b k+b)<=18446744073709551616:=by rw [<-Pk.two_64];exact Pk.two_le hs
     obtain ⟨t,et⟩:∃ t,Pk.word b k=t:=⟨_,rfl⟩
     have ET:Hid (Pk.word b k=t):=et
     obtain ⟨s,es⟩:∃ s,Pk.shift b k=s:=⟨_,rfl⟩
     have ES:Hid (Pk.shift b k=s):=es
     rw [et] at hlo hup hts
     rw [es] at hlo hup hs h64
     rw [EZ.out] at hts
     have hcg0:=hrow.cell hts
     have hfg:=hrow.frozen t
     have hor:=or_top hlo (Nat.lt_of_lt_of_le hup h64)
     obtain ⟨C,eC⟩:∃ C,(Ls.nth l k).toNat=C:=⟨_,rfl⟩
     have eC2:Ls.nth l k=(C:Int):=by omega
     obtain ⟨A,eA⟩:∃ A,Pk.acc b l t k=A:=⟨_,rfl⟩
     have EA:Hid (Pk.acc b l t k=A):=eA
     have hcg:wr.cell? ⟨w.heap.size,t,none⟩=some (.int .u64 (A:Int)):=by rw [hcg0];unfold upTo;rw [eA]
     rw [eC] at hor hup
     rw [eA] at hor hup
     have hmul:(C:Int)*2 ^ s=((C*2 ^ s:Nat):Int):=by rw [Int.natCast_mul,Int.natCast_pow];rfl
     obtain ⟨X,eX⟩:∃ X,C*2 ^ s=X:=⟨_,rfl⟩
     have EX:Hid ((Ls.nth l k).toNat*2 ^ Pk.shift b k=X):=by show _=_;rw [eC,es,eX]
     rw [eX] at hor hup hmul
     rw [eC2] at hck1
     have hAX:A+X<18446744073709551616:=by omega
     have hX:X<18446744073709551616:=by omega
     have hC:C<18446744073709551616:=by
      have hp:C<2 ^ b:=by rw [<-eC];exact hcd.2
      have hp8:2 ^ b<=2 ^ 8:=Pk.two_le hb.2
      omega
     have q1:=u64_same (n:=(C:Int)) (by omega) (by omega)
     have q2:IntKind.u64.wrap ((C:Int)*2 ^ s)=(X:Int):=by rw [hmul];exact u64_same (by omega) (by omega)
     have HR:Hid (wr.rowIs w.heap.size 183 z (upTo b l k)):=hrow
     have HB:Hid (Below w.heap.size w wr):=hbel
     clear hc1 hrow hbel et es eC eC2 eA eX hcd hlo hup h64 hcg0 hmul
     have e0:(0:Int)<=(t:Int):=by omega
     have e1:(t:Int)<(z:Int):=by omega
     go_wp2_with (go_at_call 162;refine (place_any _ _ t s H.out (by omega) ET.out ES.out _).mono ?_;rintro e w' ⟨rfl,n,hww⟩;cases hww.symm;clear hww)
     go_region
     all_goals go_wp2
     all_goals go_roundw
     case rel=>exact ⟨k+1,by omega,by go_num,(HR.out.set t _).drew.congr (fun j hj=>upTo_set ET.out EA.out EX.out j),(below_drewN HB.out (n+1)).setCell (by simp) _⟩
     case measure=>simp [intOf];omega
    ·go_wp2
     go_ret2
     have e:k=l.length:=by omega
     subst e
     refine ⟨w.heap.size,rfl,Nat.le_refl _,?_,hbel⟩
     refine lst_of_row (f:=upTo b l l.length) (t:=183) (by rw [Pk.pack_length,EZ.out];exact hrow) (fun i hi=>?_)
     rw [Pk.pack_length] at hi
     rw [Pk.nth_pack hi]
     rfl
end Go.Proofs.YtnchnlgnnlgjcaaGreat
