import Derived.Test.YtnchnlgnnlgjcaaGreatCo06
import Derived.Lib.AtoiAll
import Derived.Lib.ItoaMem
import Derived.Lib.CutLaws
import Derived.Lib.Strings
set_option linter.unusedVariables false
namespace Go.Proofs.YtnchnlgnnlgjcaaGreat
open Go.RowKit
attribute [local go_sem ↓] Go.wp_at_zero Go.wp_at_succ
def GpsB (B:Nat) (w:World) (a:Option Addr) (l:List (Int × Int × List Int)):Prop :=
 ∀ i,i<l.length->∃ b o a' c',a=some ⟨b,o,none⟩/\GpAt w b o i (Pg.nth l i) a' c'/\B<=b/\∀ x,a'=some x->B<=x.block
theorem gpsB_final {w F:World} {base P n B:Nat} {t:TypeId} {x:Option Addr} {e:Nat} {l:List (Int × Int × List Int)} {A:Nat->Option Addr} {C:Nat->Nat} (h:w.ownsRow base t 3 (.slice x n e) n (gflat l A C n)) (hn:n=l.length)
 (hl:∀ i,i<l.length->Lst .i64 w (A i) (Pg.gc (Pg.nth l i))/\∀ y,A i=some y->¬ y.block=P) (hp:P<base) (hs:∀ g,¬ g=P->F.heap[g]?=w.heap[g]?) (hB:B<=base)
 (hA:∀ i,i<l.length->∀ y,A i=some y->B<=y.block):GpsB B F x l:=by
 have hF:=own3_at (w':=F) h fun g hg=>hs g (by have:=(h.lt g hg).1;omega)
 rcases hF.2 with ⟨e,h0⟩ | ⟨g,cap,cur,e,hb,hg,h1,h2,h3,h4⟩
 ·exact fun i hi=>by omega
 ·cases e
  intro i hi
  have hc:∀ j,j<n*3->F.cell? ⟨g,j,none⟩=(gflat l A C n)[j]?:=fun j hj=>by
   rw [cell_of_row F g j cur t (0,0) hg,<-h4,List.getElem?_take,if_pos hj]
   simp
  obtain ⟨q0,q1,q2⟩:=gflat_at l A C n i (by omega)
  obtain ⟨l1,l2⟩:=hl i hi
  refine ⟨g,0,A i,C i,rfl,⟨?_,?_,?_,fun j hj=>?_⟩,by omega,hA i hi⟩
  ·rw [Nat.zero_add,hc _ (by omega)];exact q0
  ·rw [Nat.zero_add,hc _ (by omega)];exact q1
  ·rw [Nat.zero_add,hc _ (by omega)];exact q2
  ·obtain ⟨b,o,eb,hcc⟩:=l1 j hj
   refine ⟨b,o,eb,?_⟩
   rw [World.cell?_of_block (hs b (l2 ⟨b,o,none⟩ eb))]
   exact hcc
set_option maxRecDepth 100000 in
set_option maxHeartbeats 3200000 in
theorem refQuantizeB_any (m0 m1 n0 d0 s0 s1:Nat) (h4 h5 h6:Int) (a1 a2:Option Addr) (c1 c2:Nat) (ks vs:List (List Int)) (w:World) (st0:Gp.St m0 s0) (st1:Gp.St m1 s1)
 (hk:Tbl w a1 ks) (hv:Tbl w a2 vs) (ik:∀ k,Ls.In32 (Tb.row ks k)) (iv:∀ k,Ls.In32 (Tb.row vs k)) (lk:ks.length=n0) (lv:vs.length=n0) (b1:1<=n0) (b2:n0<=16) (b3:1<=d0) (b4:d0<=16)
 (rk:∀ k,k<ks.length->(Tb.row ks k).length=d0) (rv:∀ k,k<vs.length->(Tb.row vs k).length=d0) :
 Calls Tryz.prog 112 #[.agg #[.int .i64 (m0:Int),.int .i64 (m1:Int),.int .i64 (n0:Int),.int .i64 (d0:Int),.int .i64 h4,.int .i64 h5,.int .i64 h6],.slice a1 ks.length c1,.slice a2 vs.length c2] w fun e w'=>∃ x7 e7 x8 e8,e=.returned (.agg #[.int .i64 (m0:Int),.int .i64 (m1:Int),.int .i64 (n0:Int),.int .i64 (d0:Int),.int .i64 h4,.int .i64 h5,.int .i64 h6,.slice x7 d0 e7,.slice x8 n0 e8])/\GpsB w.heap.size w' x7 (Pg.qk s0 d0 ks)/\GpsB w.heap.size w' x8 (Pg.qv s1 vs)/\Below w.heap.size w w':=by
 obtain ⟨i0,hi0,hi1,hi2,hi3⟩:=info_parts Tryz.infoInt32
 obtain ⟨j0,hj0,hj1,hj2,hj3⟩:=info_parts Tryz.infoRG
 have HK:Hid (Tbl w a1 ks):=hk
 have HV:Hid (Tbl w a2 vs):=hv
 have IK:Hid (∀ k,Ls.In32 (Tb.row ks k)):=ik
 have IV:Hid (∀ k,Ls.In32 (Tb.row vs k)):=iv
 have RK:Hid (∀ k,k<ks.length->(Tb.row ks k).length=d0):=rk
 have RV:Hid (∀ k,k<vs.length->(Tb.row vs k).length=d0):=rv
 have LK:Hid (ks.length=n0):=lk
 have LV:Hid (vs.length=n0):=lv
 have lk1:ks.length<=16:=by omega
 have lk0:0<ks.length:=by omega
 have lv1:vs.length<=16:=by omega
 have ST0:Hid (Gp.St m0 s0):=st0
 have ST1:Hid (Gp.St m1 s1):=st1
 clear hk hv ik iv rk rv lk lv st0 st1
 go_enter Tryz.func112,Tryz.ntmps112
 go_wp2
 go_loopw [8] (fun i wr=>∃ (k:Nat) (v7:Value) (A:Nat->Option Addr) (C:Nat->Nat),k<=d0/\i=.int .i64 k/\wr.rowIs (w.heap.size+2) 139 9 (pcell #[.int .i64 (m0:Int),.int .i64 (m1:Int),.int .i64 (n0:Int),.int .i64 (d0:Int),.int .i64 h4,.int .i64 h5,.int .i64 h6] v7 (.slice none 0 0))/\wr.ownsRow (w.heap.size+3) 170 3 v7 k (gflat (Pg.qk s0 d0 ks) A C k)/\(∀ j,j<k->Lst .i64 wr (A j) (Pg.gc (Pg.nth (Pg.qk s0 d0 ks) j))/\∀ x,A j=some x->some x.block ≠ v7.ownBlock/\x.block<wr.heap.size/\w.heap.size+3<=x.block)/\Below (w.heap.size+2) ((w.alloc (.cells #[.int .i64 (m0:Int),.int .i64 (m1:Int),.int .i64 (n0:Int),.int .i64 (d0:Int),.int .i64 h4,.int .i64 h5,.int .i64 h6] 136)).alloc (.cells #[.int .i64 0,.int .i64 0,.int .i64 0,.int .i64 0,.int .i64 0,.int .i64 0,.int .i64 0,.slice none 0 0,.slice none 0 0] 139)) wr) (fun i _=>d0 - (intOf i).toNat)
 case atStart =>
  refine ⟨0,.slice none 0 0,fun _=>none,fun _=>0,Nat.zero_le _,rfl,?_,World.ownsRow_nil _ _ _ _,fun j hj=>by omega,(Below.refl _ _).alloc (by simp) _⟩
  have:=World.rowIs_alloc ((w.alloc (.cells #[.int .i64 (m0:Int),.int .i64 (m1:Int),.int .i64 (n0:Int),.int .i64 (d0:Int),.int .i64 h4,.int .i64 h5,.int .i64 h6] 136)).alloc (.cells #[.int .i64 0,.int .i64 0,.int .i64 0,.int .i64 0,.int .i64 0,.int .i64 0,.int .i64 0,.slice none 0 0,.slice none 0 0] 139)) #[.int .i64 (m0:Int),.int .i64 (m1:Int),.int .i64 (n0:Int),.int .i64 (d0:Int),.int .i64 h4,.int .i64 h5,.int .i64 h6,.slice none 0 0,.slice none 0 0] 139 (pcell #[.int .i64 (m0:Int),.int .i64 (m1:Int),.int .i64 (n0:Int),.int .i64 (d0:Int),.int .i64 h4,.int .i64 h5,.int .i64 h6] (.slice none 0 0) (.slice none 0 0)) (fun i hi=>by match i,hi with | 0,_=>rfl | 1,_=>rfl | 2,_=>rfl | 3,_=>rfl | 4,_=>rfl | 5,_=>rfl | 6,_=>rfl | 7,_=>rfl | 8,_=>rfl)
  rw [show ((w.alloc (.cells #[.int .i64 (m0:Int),.int .i64 (m1:Int),.int .i64 (n0:Int),.int .i64 (d0:Int),.int .i64 h4,.int .i64 h5,.int .i64 h6] 136)).alloc (.cells #[.int .i64 0,.int .i64 0,.int .i64 0,.int .i64 0,.int .i64 0,.int .i64 0,.int .i64 0,.slice none 0 0,.slice none 0 0] 139)).heap.size=w.heap.size+2 by simp] at this
  exact this
 case round =>
  obtain ⟨k,v7,A,C,hkd,rfl,hrow,hown,hlst,hbel⟩:=hrel
  obtain ⟨u2,hu2⟩:∃ u2:World,u2=wr:=⟨wr,rfl⟩
  subst hu2
  obtain ⟨x7,e7,rfl⟩:=Pg.own3 hown
  have HR:Hid (u2.rowIs (w.heap.size+2) 139 9 (pcell #[.int .i64 (m0:Int),.int .i64 (m1:Int),.int .i64 (n0:Int),.int .i64 (d0:Int),.int .i64 h4,.int .i64 h5,.int .i64 h6] (.slice x7 k e7) (.slice none 0 0))):=hrow
  have HO:Hid (u2.ownsRow (w.heap.size+3) 170 3 (.slice x7 k e7) k (gflat (Pg.qk s0 d0 ks) A C k)):=hown
  have HL:Hid (∀ j,j<k->Lst .i64 u2 (A j) (Pg.gc (Pg.nth (Pg.qk s0 d0 ks) j))/\∀ x,A j=some x->some x.block ≠ (Value.slice x7 k e7).ownBlock/\x.block<u2.heap.size/\w.heap.size+3<=x.block):=hlst
  have HB:Hid (Below (w.heap.size+2) ((w.alloc (.cells #[.int .i64 (m0:Int),.int .i64 (m1:Int),.int .i64 (n0:Int),.int .i64 (d0:Int),.int .i64 h4,.int .i64 h5,.int .i64 h6] 136)).alloc (.cells #[.int .i64 0,.int .i64 0,.int .i64 0,.int .i64 0,.int .i64 0,.int .i64 0,.int .i64 0,.slice none 0 0,.slice none 0 0] 139)) u2):=hbel
  have hsz:w.heap.size+3<=u2.heap.size:=hrow.lt
  have B0:Hid (Below w.heap.size w u2):=(two_boxes w _ _).trans (hbel.mono (by omega))
  have bx:∀ (w':World),Below u2.heap.size u2 w'->w'.cell? ⟨w.heap.size,0,none⟩=some (.int .i64 (m0:Int))/\w'.cell? ⟨w.heap.size,3,none⟩=some (.int .i64 (d0:Int)):=fun w' hb=>by
   have q:=boxes_cells (w:=w) (X:=#[.int .i64 (m0:Int),.int .i64 (m1:Int),.int .i64 (n0:Int),.int .i64 (d0:Int),.int .i64 h4,.int .i64 h5,.int .i64 h6]) (Y:=#[.int .i64 0,.int .i64 0,.int .i64 0,.int .i64 0,.int .i64 0,.int .i64 0,.int .i64 0,.slice none 0 0,.slice none 0 0]) (s:=136) (t:=139) (v:=((w.alloc (.cells #[.int .i64 (m0:Int),.int .i64 (m1:Int),.int .i64 (n0:Int),.int .i64 (d0:Int),.int .i64 h4,.int .i64 h5,.int .i64 h6] 136)).alloc (.cells #[.int .i64 0,.int .i64 0,.int .i64 0,.int .i64 0,.int .i64 0,.int .i64 0,.int .i64 0,.slice none 0 0,.slice none 0 0] 139))) (Below.refl _ _)
   have hc:=hb
   refine ⟨?_,?_⟩
   ·rw [hc.cell (p:=⟨w.heap.size,0,none⟩) (show w.heap.size<u2.heap.size by omega),HB.out.cell (p:=⟨w.heap.size,0,none⟩) (show w.heap.size<w.heap.size+2 by omega)];exact q.1 0 _ rfl
   ·rw [hc.cell (p:=⟨w.heap.size,3,none⟩) (show w.heap.size<u2.heap.size by omega),HB.out.cell (p:=⟨w.heap.size,3,none⟩) (show w.heap.size<w.heap.size+2 by omega)];exact q.1 3 _ rfl
  have HBX:Hid (∀ (w':World),Below u2.heap.size u2 w'->w'.cell? ⟨w.heap.size,0,none⟩=some (.int .i64 (m0:Int))/\w'.cell? ⟨w.heap.size,3,none⟩=some (.int .i64 (d0:Int))):=bx
  have d3:=(HBX.out u2 (Below.refl _ _)).2
  clear hrow hown hlst hbel bx
  by_cases hlt:k<d0
  ·go_wp2
   clear d3
   go_loopw [9,10] (fun v i wr=>∃ j:Nat,j<=ks.length/\i=.int .i64 j/\wr.ownsRow u2.heap.size 21 1 v j ((Ls.gen j fun q=>Ls.nth (Tb.row ks q) k).map (Value.int .i32))/\Below u2.heap.size u2 wr) (fun _ i _=>ks.length - (intOf i).toNat)
   case atStart=>exact ⟨0,Nat.zero_le _,rfl,World.ownsRow_nil _ _ _ _,Below.refl _ _⟩
   case round =>
    obtain ⟨j,hj,rfl,hown,hbel⟩:=hrel
    obtain ⟨va,vc,rfl⟩:=own_slice hown
    have HC:Hid (wr.ownsRow u2.heap.size 21 1 (.slice va j vc) j ((Ls.gen j fun q=>Ls.nth (Tb.row ks q) k).map (Value.int .i32))):=hown
    have HW:Hid (Below u2.heap.size u2 wr):=hbel
    have hsw:=hbel.size
    clear hown hbel
    by_cases hjl:j<ks.length
    ·obtain ⟨bt,ot,rfl,hct⟩:=(HK.out.keep (below_then B0.out HW.out)).get hjl
     obtain ⟨X,Y,g0,gL,_⟩:=hct j hjl
     have hrw:=RK.out j hjl
     obtain ⟨bb,oo,rfl,hcc⟩:=gL.get (show k<(Tb.row ks j).length by omega)
     have hck:=hcc k (by omega)
     have e1:(k:Int)<((Tb.row ks j).length:Int):=by omega
     have hk2:k<(Tb.row ks j).length:=by omega
     clear hct gL hcc hrw
     go_wp2_with (at_builtin;refine wpList_append_lies _ rfl _ _ _ rfl u2.heap.size 21 i0 _ 1 4 Tryz.underlying74 hi0 hi1 hi2 hi3 rfl (by omega) _ j _ (by rfl) (HC.out.alloc _) ⟨wr.heap.size,0,none⟩ 1 1 [.int .i32 (Ls.nth (Tb.row ks j) k)] (by rfl) (by rfl) (World.news_of_block (cs:=#[.int .i32 (Ls.nth (Tb.row ks j) k)]) (t:=21) (fr:=(0,0)) (heap_alloc_new wr _)) (by simp [Value.oneCell']) (by omega) (by unfold maxLen;omega) (by omega) (by simp;omega) (wr.heap.size+1) (by simp) ?_;intro gg cap w1 hown1 hgrow hat hlt1;have B1:Hid (Below u2.heap.size u2 w1):=(HW.out.alloc (by omega) _).grown hgrow (by simp;omega) (fun j hj=>(HC.out.lt j hj).1);have O1:Hid (w1.ownsRow u2.heap.size 21 1 (.slice (some ⟨gg,0,none⟩) (j+1) cap) (j+1) ((Ls.gen j fun q=>Ls.nth (Tb.row ks q) k).map (Value.int .i32) ++ [.int .i32 (Ls.nth (Tb.row ks j) k)])):=hown1;clear hown1 hgrow hat)
     go_roundw
     case rel=>exact ⟨j+1,by omega,by go_num,gen_snoc O1.out rfl,B1.out⟩
     case measure=>simp [intOf];omega
    ·have e:j=ks.length:=by omega
     subst e
     obtain ⟨cl,ecl⟩:∃ cl,Pg.col ks k=cl:=⟨_,rfl⟩
     have ECL:Hid (Pg.col ks k=cl):=ecl
     have CLL:Hid (cl.length=ks.length):=by show _=_;rw [<-ecl,Pg.col_length]
     obtain ⟨a3,c3,h3',hLc⟩:=lst_of_ownm (l:=cl) (n:=ks.length) (by rw [<-ecl];exact HC.out) CLL.out.symm
     cases h3'
     have LC:Hid (Lst .i32 wr va cl):=hLc
     have IC:Hid (Ls.In32 cl):=by rw [<-ecl];exact Pg.col_in IK.out k
     obtain ⟨z,ez⟩:∃ z,Gp.low cl=z:=⟨_,rfl⟩
     obtain ⟨sc,es⟩:∃ sc,Gp.scale (s0:Int) cl=sc:=⟨_,rfl⟩
     have EZ:Hid (Gp.low cl=z):=ez
     have ES:Hid (Gp.scale (s0:Int) cl=sc):=es
     have EQK:Hid (Pg.nth (Pg.qk s0 d0 ks) k=(z,sc,Gp.codes z sc cl)):=by
      show _=_
      rw [Pg.nth_qk hlt,ecl]
      unfold Pg.grp
      rw [ez,es]
     have CDL:Hid ((Gp.codes z sc cl).length=ks.length):=by show _=_;rw [Gp.codes_length,CLL.out]
     have R0:Hid (wr.rowIs (w.heap.size+2) 139 9 (pcell #[.int .i64 (m0:Int),.int .i64 (m1:Int),.int .i64 (n0:Int),.int .i64 (d0:Int),.int .i64 h4,.int .i64 h5,.int .i64 h6] (.slice x7 k e7) (.slice none 0 0))):=HR.out.of_block (HW.out.block _ HR.out.lt)
     have c7:wr.cell? ⟨w.heap.size+1+1,7,none⟩=some (.slice x7 k e7):=R0.out.cell (show 7<9 by decide)
     have y0:wr.cell? ⟨w.heap.size,0,none⟩=some (.int .i64 (m0:Int)):=(HBX.out wr HW.out).1
     have O0:Hid (wr.ownsRow (w.heap.size+3) 170 3 (.slice x7 k e7) k (gflat (Pg.qk s0 d0 ks) A C k)):=own3_below HO.out HW.out
     have L0:Hid (∀ j,j<k->Lst .i64 wr (A j) (Pg.gc (Pg.nth (Pg.qk s0 d0 ks) j))/\∀ x,A j=some x->some x.block ≠ (Value.slice x7 k e7).ownBlock/\x.block<wr.heap.size/\w.heap.size+3<=x.block):=fun j hj=>⟨(HL.out j hj).1.keep HW.out,fun x ex=>⟨((HL.out j hj).2 x ex).1,by have:=((HL.out j hj).2 x ex).2.1;have:=HW.out.size;omega,((HL.out j hj).2 x ex).2.2⟩⟩
     have BB:Hid (Below (w.heap.size+2) ((w.alloc (.cells #[.int .i64 (m0:Int),.int .i64 (m1:Int),.int .i64 (n0:Int),.int .i64 (d0:Int),.int .i64 h4,.int .i64 h5,.int .i64 h6] 136)).alloc (.cells #[.int .i64 0,.int .i64 0,.int .i64 0,.int .i64 0,.int .i64 0,.int .i64 0,.int .i64 0,.slice none 0 0,.slice none 0 0] 139)) wr):=HB.out.trans (HW.out.mono (by omega))
     clear ecl hLc ez es
     go_wp2
     go_region_law (first
      | (refine step_append_lies _ (by rfl) _ _ _ (by rfl) (w.heap.size+3) 170 j0 _ 3 32 Tryz.underlying137 hj0 hj1 hj2 hj3 rfl (by omega) _ k _ (by rfl) (O9.out.alloc _) ⟨v1.heap.size,0,none⟩ 1 1 [.int .i32 z,.int .u32 sc,.slice a9 ks.length c9] (by rfl) (by rfl) (World.news_of_block (cs:=#[.int .i32 z,.int .u32 sc,.slice a9 ks.length c9]) (t:=170) (fr:=(0,0)) (heap_alloc_new v1 _)) (by simp [Value.oneCell']) (by omega) (by unfold maxLen;omega) (by omega) (by first | (simp;done) | (simp;omega)) (v1.heap.size+1) (by simp) ?_;intro gg cap w1 hown1 hgrow hat hlt1;have R1:Hid (w1.rowIs (w.heap.size+2) 139 9 (pcell #[.int .i64 (m0:Int),.int .i64 (m1:Int),.int .i64 (n0:Int),.int .i64 (d0:Int),.int .i64 h4,.int .i64 h5,.int .i64 h6] (.slice x7 k e7) (.slice none 0 0))):=((R0.out.of_block (B9.out.block _ R0.out.lt)).alloc _).of_block (hgrow.block _ (by first | (simp;done) | (simp;omega)) (fun e=>by have:=(O9.out.lt _ e.symm).1;omega));have O1:Hid (w1.ownsRow (w.heap.size+3) 170 3 (.slice (some ⟨gg,0,none⟩) (k+1) cap) (k+1) (gflat (Pg.qk s0 d0 ks) A C k ++ [.int .i32 z,.int .u32 sc,.slice a9 ks.length c9])):=hown1;have HAT:Hid ((Value.slice x7 k e7).ownBlock=some gg\/gg=v1.heap.size+1):=hat;have HLT:Hid (gg<w1.heap.size):=hlt1;have G1:Hid ((v1.alloc (.cells #[.int .i32 z,.int .u32 sc,.slice a9 ks.length c9] 170)).grownBy w1 (Value.slice x7 k e7).ownBlock):=hgrow;have c71:w1.cell? ⟨w.heap.size+1+1,7,none⟩=some (.slice x7 k e7):=R1.out.cell (show 7<9 by decide);have f71:w1.frozen? ⟨w.heap.size+1+1,7,none⟩=false:=R1.out.frozen 7;clear hown1 hgrow hat)
      | (go_simp;go_at_call 131;refine (refOf_anym _ _ _ m0 s0 cl _ CLL.out.symm (LC.out.keep ((Below.refl wr.heap.size wr).drew)) IC.out ST0.out lk0 (by omega) z sc EZ.out ES.out).mono ?_;rintro e v1 ⟨a9,c9,rfl,hL9,hb9,hn9⟩;have N9:Hid (∀ x,a9=some x->wr.heap.size<=x.block):=hn9;clear hn9;have B9:Hid (Below wr.heap.size wr v1):=((Below.refl wr.heap.size wr).drew).trans hb9;have L9:Hid (Lst .i64 v1 a9 (Gp.codes z sc cl)):=hL9;have c79:v1.cell? ⟨w.heap.size+1+1,7,none⟩=some (.slice x7 k e7):=(B9.out.cell (p:=⟨w.heap.size+1+1,7,none⟩) (World.block_lt_of_cell? wr _ c7)).trans c7;have l79:w.heap.size+1+1<v1.heap.size:=World.block_lt_of_cell? v1 _ c79;have O9:Hid (v1.ownsRow (w.heap.size+3) 170 3 (.slice x7 k e7) k (gflat (Pg.qk s0 d0 ks) A C k)):=own3_below O0.out B9.out;clear hL9 hb9))
     all_goals
      go_wp2
      go_roundw
      case rel =>
       have hs1:=B9.out.size
       have hs2:=G1.out.size
       rw [show (v1.alloc (.cells #[.int .i32 z,.int .u32 sc,.slice a9 ks.length c9] 170)).heap.size=v1.heap.size+1 by simp] at hs2
       have nz:0<(Gp.codes z sc cl).length:=by rw [CDL.out];exact lk0
       have bA:∀ x,a9=some x->x.block<v1.heap.size/\some x.block ≠ (Value.slice x7 k e7).ownBlock/\w.heap.size+3<=x.block:=fun x ex=>by
        obtain ⟨bb,oo,eb,hcb⟩:=L9.out 0 nz
        rw [ex] at eb
        cases eb
        have g1:bb<v1.heap.size:=World.block_lt_of_cell? v1 _ hcb
        have g2:wr.heap.size<=bb:=N9.out _ ex
        have g3:w.heap.size+3<=wr.heap.size:=by have:=HW.out.size;omega
        exact ⟨g1,fun e=>by have h9:bb<wr.heap.size:=(O0.out.lt _ e.symm).2;omega,by show w.heap.size+3<=bb;omega⟩
       refine ⟨k+1,.slice (some ⟨gg,0,none⟩) (k+1) cap,fun j=>if j=k then a9 else A j,fun j=>if j=k then c9 else C j,by omega,by go_num,(R1.out.set 7 _).congr (fun j hj=>pcell_set7 _ _ _ _ j),own3_set (by rw [gflat_snoc EQK.out CDL.out];exact O1.out) (by show w.heap.size+1+1<w.heap.size+3;omega) _,fun j hj=>?_,?_⟩
       ·by_cases e:j=k
        ·subst e
         dsimp only
         rw [if_pos rfl,EQK.out]
         refine ⟨((L9.out.keep (box_below _ _)).grown G1.out (fun x ex=>(bA x ex).2.1)).set_otherP (fun x ex=>by have:=(bA x ex).2.2;show ¬ x.block=w.heap.size+1+1;omega) _,fun x ex=>?_⟩
         obtain ⟨q1,q2,q3⟩:=bA x ex
         refine ⟨?_,by rw [Go.Deep.nblk_setCell];omega,q3⟩
         intro e
         have e':x.block=gg:=by injection e
         rcases HAT.out with h | h
         ·exact q2 (by rw [h,e'])
         ·omega
        ·dsimp only
         rw [if_neg e]
         obtain ⟨l1,l2⟩:=L0.out j (by omega)
         refine ⟨(((l1.keep B9.out).keep (box_below _ _)).grown G1.out (fun x ex=>(l2 x ex).1)).set_otherP (fun x ex=>by have:=(l2 x ex).2.2;show ¬ x.block=w.heap.size+1+1;omega) _,fun x ex=>?_⟩
         obtain ⟨q1,q2,q3⟩:=l2 x ex
         refine ⟨?_,by rw [Go.Deep.nblk_setCell];omega,q3⟩
         intro e
         have e':x.block=gg:=by injection e
         rcases HAT.out with h | h
         ·exact q1 (by rw [h,e'])
         ·omega
       ·refine Below.setCell ?_ (by show w.heap.size+2<=w.heap.size+1+1;omega) _
        exact ((BB.out.trans (B9.out.mono (by have:=HW.out.size;omega))).alloc (by omega) _).grown G1.out (by simp;omega) (fun j hj=>by have:=(O9.out.lt j hj).1;omega)
      case measure=>simp [intOf];omega
  ·have ek:d0=k:=by omega
   subst ek
   clear hlt hkd
   go_wp2
   clear d3
   go_loopw [11] (fun i wr=>∃ (j:Nat) (v8:Value) (A8:Nat->Option Addr) (C8:Nat->Nat),j<=vs.length/\i=.int .i64 j/\wr.rowIs (w.heap.size+2) 139 9 (pcell #[.int .i64 (m0:Int),.int .i64 (m1:Int),.int .i64 (n0:Int),.int .i64 (d0:Int),.int .i64 h4,.int .i64 h5,.int .i64 h6] (.slice x7 d0 e7) v8)/\wr.ownsRow u2.heap.size 170 3 v8 j (gflat (Pg.qv s1 vs) A8 C8 j)/\(∀ q,q<j->Lst .i64 wr (A8 q) (Pg.gc (Pg.nth (Pg.qv s1 vs) q))/\∀ x,A8 q=some x->some x.block ≠ v8.ownBlock/\x.block<wr.heap.size/\u2.heap.size<=x.block)/\Below (w.heap.size+2) ((w.alloc (.cells #[.int .i64 (m0:Int),.int .i64 (m1:Int),.int .i64 (n0:Int),.int .i64 (d0:Int),.int .i64 h4,.int .i64 h5,.int .i64 h6] 136)).alloc (.cells #[.int .i64 0,.int .i64 0,.int .i64 0,.int .i64 0,.int .i64 0,.int .i64 0,.int .i64 0,.slice none 0 0,.slice none 0 0] 139)) wr/\Keeps u2 wr (w.heap.size+1+1)) (fun i _=>vs.length - (intOf i).toNat)
   case atStart=>exact ⟨0,.slice none 0 0,fun _=>none,fun _=>0,Nat.zero_le _,rfl,HR.out,World.ownsRow_nil _ _ _ _,fun j hj=>by omega,HB.out,Keeps.refl _ _⟩
   case round =>
    obtain ⟨j,v8,A8,C8,hj,rfl,hrow8,hown8,hlst8,hbel8,hkeep8⟩:=hrel
    obtain ⟨x8,e8,rfl⟩:=Pg.own3 hown8
    have R0:Hid (wr.rowIs (w.heap.size+2) 139 9 (pcell #[.int .i64 (m0:Int),.int .i64 (m1:Int),.int .i64 (n0:Int),.int .i64 (d0:Int),.int .i64 h4,.int .i64 h5,.int .i64 h6] (.slice x7 d0 e7) (.slice x8 j e8))):=hrow8
    have O0:Hid (wr.ownsRow u2.heap.size 170 3 (.slice x8 j e8) j (gflat (Pg.qv s1 vs) A8 C8 j)):=hown8
    have L0:Hid (∀ q,q<j->Lst .i64 wr (A8 q) (Pg.gc (Pg.nth (Pg.qv s1 vs) q))/\∀ x,A8 q=some x->some x.block ≠ (Value.slice x8 j e8).ownBlock/\x.block<wr.heap.size/\u2.heap.size<=x.block):=hlst8
    have BB:Hid (Below (w.heap.size+2) ((w.alloc (.cells #[.int .i64 (m0:Int),.int .i64 (m1:Int),.int .i64 (n0:Int),.int .i64 (d0:Int),.int .i64 h4,.int .i64 h5,.int .i64 h6] 136)).alloc (.cells #[.int .i64 0,.int .i64 0,.int .i64 0,.int .i64 0,.int .i64 0,.int .i64 0,.int .i64 0,.slice none 0 0,.slice none 0 0] 139)) wr):=hbel8
    have KP:Hid (Keeps u2 wr (w.heap.size+1+1)):=hkeep8
    have hsw:u2.heap.size<=wr.heap.size:=hkeep8.1
    have B00:Hid (Below w.heap.size w wr):=(two_boxes w _ _).trans (hbel8.mono (by omega))
    have q0:=boxes_cells (w:=w) (X:=#[.int .i64 (m0:Int),.int .i64 (m1:Int),.int .i64 (n0:Int),.int .i64 (d0:Int),.int .i64 h4,.int .i64 h5,.int .i64 h6]) (Y:=#[.int .i64 0,.int .i64 0,.int .i64 0,.int .i64 0,.int .i64 0,.int .i64 0,.int .i64 0,.slice none 0 0,.slice none 0 0]) (s:=136) (t:=139) (v:=((w.alloc (.cells #[.int .i64 (m0:Int),.int .i64 (m1:Int),.int .i64 (n0:Int),.int .i64 (d0:Int),.int .i64 h4,.int .i64 h5,.int .i64 h6] 136)).alloc (.cells #[.int .i64 0,.int .i64 0,.int .i64 0,.int .i64 0,.int .i64 0,.int .i64 0,.int .i64 0,.slice none 0 0,.slice none 0 0] 139))) (Below.refl _ _)
    have y1:wr.cell? ⟨w.heap.size,1,none⟩=some (.int .i64 (m1:Int)):=by rw [hbel8.cell (p:=⟨w.heap.size,1,none⟩) (show w.heap.size<w.heap.size+2 by omega)];exact q0.1 1 _ rfl
    have c8:wr.cell? ⟨w.heap.size+1+1,8,none⟩=some (.slice x8 j e8):=hrow8.cell (show 8<9 by decide)
    clear hrow8 hown8 hlst8 hkeep8 q0
    by_cases hjl:j<vs.length
    ·obtain ⟨bt,ot,rfl,hct⟩:=(HV.out.keep B00.out).get hjl
     obtain ⟨X,Y,g0,gL,_⟩:=hct j hjl
     have hrw:=RV.out j hjl
     obtain ⟨z,ez⟩:∃ z,Gp.low (Tb.row vs j)=z:=⟨_,rfl⟩
     obtain ⟨sc,es⟩:∃ sc,Gp.scale (s1:Int) (Tb.row vs j)=sc:=⟨_,rfl⟩
     have EZ:Hid (Gp.low (Tb.row vs j)=z):=ez
     have ES:Hid (Gp.scale (s1:Int) (Tb.row vs j)=sc):=es
     have EQK:Hid (Pg.nth (Pg.qv s1 vs) j=(z,sc,Gp.codes z sc (Tb.row vs j))):=by
      show _=_
      rw [Pg.nth_qv hjl]
      unfold Pg.grp
      rw [ez,es]
     have RW:Hid ((Tb.row vs j).length=d0):=hrw
     have CDL:Hid ((Gp.codes z sc (Tb.row vs j)).length=(Tb.row vs j).length):=Gp.codes_length _ _ _
     have LC:Hid (Lst .i32 wr X (Tb.row vs j)):=gL
     have hz1:0<(Tb.row vs j).length:=by omega
     have hz2:(Tb.row vs j).length<=256:=by omega
     clear hct gL hrw ez es hbel8
     have e1:(0:Int)<=(j:Int):=by omega
     have e2:(j:Int)<(vs.length:Int):=by omega
     go_wp2
     go_region_law (first
      | (refine step_append_lies _ (by rfl) _ _ _ (by rfl) u2.heap.size 170 j0 _ 3 32 Tryz.underlying137 hj0 hj1 hj2 hj3 rfl (by omega) _ j _ (by rfl) (O9.out.alloc _) ⟨v1.heap.size,0,none⟩ 1 1 [.int .i32 z,.int .u32 sc,.slice a9 (Tb.row vs j).length c9] (by rfl) (by rfl) (World.news_of_block (cs:=#[.int .i32 z,.int .u32 sc,.slice a9 (Tb.row vs j).length c9]) (t:=170) (fr:=(0,0)) (heap_alloc_new v1 _)) (by simp [Value.oneCell']) (by omega) (by unfold maxLen;omega) (by omega) (by have:=HS9.out;first | (simp;done) | (simp;omega)) (v1.heap.size+1) (by simp) ?_;intro gg cap w1 hown1 hgrow hat hlt1;have R1:Hid (w1.rowIs (w.heap.size+2) 139 9 (pcell #[.int .i64 (m0:Int),.int .i64 (m1:Int),.int .i64 (n0:Int),.int .i64 (d0:Int),.int .i64 h4,.int .i64 h5,.int .i64 h6] (.slice x7 d0 e7) (.slice x8 j e8))):=((R0.out.of_block (B9.out.block _ R0.out.lt)).alloc _).of_block (hgrow.block _ (by first | (simp;done) | (simp;omega)) (fun e=>by have:=(O9.out.lt _ e.symm).1;omega));have O1:Hid (w1.ownsRow u2.heap.size 170 3 (.slice (some ⟨gg,0,none⟩) (j+1) cap) (j+1) (gflat (Pg.qv s1 vs) A8 C8 j ++ [.int .i32 z,.int .u32 sc,.slice a9 (Tb.row vs j).length c9])):=hown1;have HAT:Hid ((Value.slice x8 j e8).ownBlock=some gg\/gg=v1.heap.size+1):=hat;have HLT:Hid (gg<w1.heap.size):=hlt1;have G1:Hid ((v1.alloc (.cells #[.int .i32 z,.int .u32 sc,.slice a9 (Tb.row vs j).length c9] 170)).grownBy w1 (Value.slice x8 j e8).ownBlock):=hgrow;have c81:w1.cell? ⟨w.heap.size+1+1,8,none⟩=some (.slice x8 j e8):=R1.out.cell (show 8<9 by decide);have f81:w1.frozen? ⟨w.heap.size+1+1,8,none⟩=false:=R1.out.frozen 8;clear hown1 hgrow hat)
      | (go_simp;go_at_call 131;refine (refOf_anym _ _ _ m1 s1 (Tb.row vs j) _ rfl (LC.out.keep ((Below.refl wr.heap.size wr).drew)) (IV.out j) ST1.out hz1 hz2 z sc EZ.out ES.out).mono ?_;rintro e v1 ⟨a9,c9,rfl,hL9,hb9,hn9⟩;have N9:Hid (∀ x,a9=some x->wr.heap.size<=x.block):=hn9;clear hn9;have B9:Hid (Below wr.heap.size wr v1):=((Below.refl wr.heap.size wr).drew).trans hb9;have HS9:Hid (u2.heap.size<=v1.heap.size):=Nat.le_trans hsw B9.out.size;have L9:Hid (Lst .i64 v1 a9 (Gp.codes z sc (Tb.row vs j))):=hL9;have c89:v1.cell? ⟨w.heap.size+1+1,8,none⟩=some (.slice x8 j e8):=(B9.out.cell (p:=⟨w.heap.size+1+1,8,none⟩) (World.block_lt_of_cell? wr _ c8)).trans c8;have l89:w.heap.size+1+1<v1.heap.size:=World.block_lt_of_cell? v1 _ c89;have O9:Hid (v1.ownsRow u2.heap.size 170 3 (.slice x8 j e8) j (gflat (Pg.qv s1 vs) A8 C8 j)):=own3_below O0.out B9.out;clear hL9 hb9))
     all_goals
      go_wp2
      go_roundw
      case rel =>
       have hs1:=B9.out.size
       have hs2:=G1.out.size
       rw [show (v1.alloc (.cells #[.int .i32 z,.int .u32 sc,.slice a9 (Tb.row vs j).length c9] 170)).heap.size=v1.heap.size+1 by simp] at hs2
       have nz:0<(Gp.codes z sc (Tb.row vs j)).length:=by rw [CDL.out];exact hz1
       have bA:∀ x,a9=some x->x.block<v1.heap.size/\some x.block ≠ (Value.slice x8 j e8).ownBlock/\u2.heap.size<=x.block:=fun x ex=>by
        obtain ⟨bb,oo,eb,hcb⟩:=L9.out 0 nz
        rw [ex] at eb
        cases eb
        have g1:bb<v1.heap.size:=World.block_lt_of_cell? v1 _ hcb
        have g2:wr.heap.size<=bb:=N9.out _ ex
        exact ⟨g1,fun e=>by have h9:bb<wr.heap.size:=(O0.out.lt _ e.symm).2;omega,by show u2.heap.size<=bb;omega⟩
       refine ⟨j+1,.slice (some ⟨gg,0,none⟩) (j+1) cap,fun q=>if q=j then a9 else A8 q,fun q=>if q=j then c9 else C8 q,by omega,by go_num,(R1.out.set 8 _).congr (fun q hq=>pcell_set8 _ _ _ _ q),own3_set (by rw [gflat_snoc EQK.out CDL.out];exact O1.out) (by show w.heap.size+1+1<u2.heap.size;omega) _,fun q hq=>?_,?_,?_⟩
       ·by_cases e:q=j
        ·subst e
         dsimp only
         rw [if_pos rfl,EQK.out]
         refine ⟨((L9.out.keep (box_below _ _)).grown G1.out (fun x ex=>(bA x ex).2.1)).set_otherP (fun x ex=>by have:=(bA x ex).2.2;show ¬ x.block=w.heap.size+1+1;omega) _,fun x ex=>?_⟩
         obtain ⟨q1,q2,q3⟩:=bA x ex
         refine ⟨?_,by rw [Go.Deep.nblk_setCell];omega,q3⟩
         intro e
         have e':x.block=gg:=by injection e
         rcases HAT.out with h | h
         ·exact q2 (by rw [h,e'])
         ·omega
        ·dsimp only
         rw [if_neg e]
         obtain ⟨l1,l2⟩:=L0.out q (by omega)
         refine ⟨(((l1.keep B9.out).keep (box_below _ _)).grown G1.out (fun x ex=>(l2 x ex).1)).set_otherP (fun x ex=>by have:=(l2 x ex).2.2;show ¬ x.block=w.heap.size+1+1;omega) _,fun x ex=>?_⟩
         obtain ⟨q1,q2,q3⟩:=l2 x ex
         refine ⟨?_,by rw [Go.Deep.nblk_setCell];omega,q3⟩
         intro e
         have e':x.block=gg:=by injection e
         rcases HAT.out with h | h
         ·exact q1 (by rw [h,e'])
         ·omega
       ·refine Below.setCell ?_ (by show w.heap.size+2<=w.heap.size+1+1;omega) _
        exact ((BB.out.trans (B9.out.mono (by omega))).alloc (by omega) _).grown G1.out (by simp;omega) (fun j hj=>by have:=(O9.out.lt j hj).1;omega)
       ·exact Keeps.set (((KP.out.below B9.out).below (box_below _ _)).grown G1.out (fun g hg=>(O9.out.lt g hg).1)) 8 _
      case measure=>simp [intOf];omega
    ·have ej:j=vs.length:=by omega
     subst ej
     have ZZ:wr.rowIs (w.heap.size+1) 139 9 (fun i=>if i<7 then .int .i64 0 else .slice none 0 0):=by
      have q:=World.rowIs_alloc (w.alloc (.cells #[.int .i64 (m0:Int),.int .i64 (m1:Int),.int .i64 (n0:Int),.int .i64 (d0:Int),.int .i64 h4,.int .i64 h5,.int .i64 h6] 136)) #[.int .i64 0,.int .i64 0,.int .i64 0,.int .i64 0,.int .i64 0,.int .i64 0,.int .i64 0,.slice none 0 0,.slice none 0 0] 139 (fun i=>if i<7 then .int .i64 0 else .slice none 0 0) (fun i hi=>by match i,hi with | 0,_=>rfl | 1,_=>rfl | 2,_=>rfl | 3,_=>rfl | 4,_=>rfl | 5,_=>rfl | 6,_=>rfl | 7,_=>rfl | 8,_=>rfl)
      rw [show (w.alloc (.cells #[.int .i64 (m0:Int),.int .i64 (m1:Int),.int .i64 (n0:Int),.int .i64 (d0:Int),.int .i64 h4,.int .i64 h5,.int .i64 h6] 136)).heap.size=w.heap.size+1 by simp] at q
      exact q.of_block (BB.out.block _ (by omega))
     have p0:wr.cell? ⟨w.heap.size+1+1,0,none⟩=some (.int .i64 (m0:Int)):=R0.out.cell (show 0<9 by decide)
     have p1:wr.cell? ⟨w.heap.size+1+1,1,none⟩=some (.int .i64 (m1:Int)):=R0.out.cell (show 1<9 by decide)
     have p2:wr.cell? ⟨w.heap.size+1+1,2,none⟩=some (.int .i64 (n0:Int)):=R0.out.cell (show 2<9 by decide)
     have p3:wr.cell? ⟨w.heap.size+1+1,3,none⟩=some (.int .i64 (d0:Int)):=R0.out.cell (show 3<9 by decide)
     have p4:wr.cell? ⟨w.heap.size+1+1,4,none⟩=some (.int .i64 h4):=R0.out.cell (show 4<9 by decide)
     have p5:wr.cell? ⟨w.heap.size+1+1,5,none⟩=some (.int .i64 h5):=R0.out.cell (show 5<9 by decide)
     have p6:wr.cell? ⟨w.heap.size+1+1,6,none⟩=some (.int .i64 h6):=R0.out.cell (show 6<9 by decide)
     have p7:wr.cell? ⟨w.heap.size+1+1,7,none⟩=some (.slice x7 d0 e7):=R0.out.cell (show 7<9 by decide)
     have p8:wr.cell? ⟨w.heap.size+1+1,8,none⟩=some (.slice x8 vs.length e8):=R0.out.cell (show 8<9 by decide)
     have z0:wr.cell? ⟨w.heap.size+1,0,none⟩=some (.int .i64 0):=ZZ.cell (show 0<9 by decide)
     have f0:wr.frozen? ⟨w.heap.size+1,0,none⟩=false:=ZZ.frozen 0
     have z1:wr.cell? ⟨w.heap.size+1,1,none⟩=some (.int .i64 0):=ZZ.cell (show 1<9 by decide)
     have f1:wr.frozen? ⟨w.heap.size+1,1,none⟩=false:=ZZ.frozen 1
     have z2:wr.cell? ⟨w.heap.size+1,2,none⟩=some (.int .i64 0):=ZZ.cell (show 2<9 by decide)
     have f2:wr.frozen? ⟨w.heap.size+1,2,none⟩=false:=ZZ.frozen 2
     have z3:wr.cell? ⟨w.heap.size+1,3,none⟩=some (.int .i64 0):=ZZ.cell (show 3<9 by decide)
     have f3:wr.frozen? ⟨w.heap.size+1,3,none⟩=false:=ZZ.frozen 3
     have z4:wr.cell? ⟨w.heap.size+1,4,none⟩=some (.int .i64 0):=ZZ.cell (show 4<9 by decide)
     have f4:wr.frozen? ⟨w.heap.size+1,4,none⟩=false:=ZZ.frozen 4
     have z5:wr.cell? ⟨w.heap.size+1,5,none⟩=some (.int .i64 0):=ZZ.cell (show 5<9 by decide)
     have f5:wr.frozen? ⟨w.heap.size+1,5,none⟩=false:=ZZ.frozen 5
     have z6:wr.cell? ⟨w.heap.size+1,6,none⟩=some (.int .i64 0):=ZZ.cell (show 6<9 by decide)
     have f6:wr.frozen? ⟨w.heap.size+1,6,none⟩=false:=ZZ.frozen 6
     have z7:wr.cell? ⟨w.heap.size+1,7,none⟩=some (.slice none 0 0):=ZZ.cell (show 7<9 by decide)
     have f7:wr.frozen? ⟨w.heap.size+1,7,none⟩=false:=ZZ.frozen 7
     have z8:wr.cell? ⟨w.heap.size+1,8,none⟩=some (.slice none 0 0):=ZZ.cell (show 8<9 by decide)
     have f8:wr.frozen? ⟨w.heap.size+1,8,none⟩=false:=ZZ.frozen 8
     clear ZZ hbel8 c8 y1
     go_wp2
     refine bodyPost_ret (v:=.agg #[.int .i64 (m0:Int),.int .i64 (m1:Int),.int .i64 (n0:Int),.int .i64 (d0:Int),.int .i64 h4,.int .i64 h5,.int .i64 h6,.slice x7 d0 e7,.slice x8 vs.length e8]) (by simp [results,Tryz.results112,go_sem,z0,z1,z2,z3,z4,z5,z6,z7,z8]) rfl ⟨x7,e7,x8,e8,?_,?_,?_,?_⟩
     ·rw [LV.out]
     ·refine gpsB_final (w:=wr) (P:=w.heap.size+1) (own3_at HO.out fun g hg=>KP.out.2 g (HO.out.lt g hg).2 (by have:=(HO.out.lt g hg).1;omega)) (Pg.qk_length _ _ _).symm (fun i hi=>?_) (by omega) (fun g hg=>by repeat rw [Go.Deep.blk_setCell_other _ _ _ g (by exact hg)]) (by omega) (fun i hi y ey=>?_)
      ·rw [Pg.qk_length] at hi
       obtain ⟨l1,l2⟩:=HL.out i hi
       exact ⟨KP.out.lst l1 (fun x ex=>by have:=(l2 x ex).2.2;omega),fun x ex=>by have:=(l2 x ex).2.2;omega⟩
      ·rw [Pg.qk_length] at hi
       have:=((HL.out i hi).2 y ey).2.2;omega
     ·refine gpsB_final (w:=wr) (P:=w.heap.size+1) O0.out (Pg.qv_length _ _).symm (fun i hi=>?_) (by omega) (fun g hg=>by repeat rw [Go.Deep.blk_setCell_other _ _ _ g (by exact hg)]) (by omega) (fun i hi y ey=>?_)
      ·rw [Pg.qv_length] at hi
       obtain ⟨l1,l2⟩:=L0.out i hi
       exact ⟨l1,fun x ex=>by have:=(l2 x ex).2.2;omega⟩
      ·rw [Pg.qv_length] at hi
       have:=((L0.out i hi).2 y ey).2.2;omega
     ·exact ((((((((B00.out.setCell (by simp) _).setCell (by simp) _).setCell (by simp) _).setCell (by simp) _).setCell (by simp) _).setCell (by simp) _).setCell (by simp) _).setCell (by simp) _).setCell (by simp) _
end Go.Proofs.YtnchnlgnnlgjcaaGreat
namespace Go.Proofs.YtnchnlgnnlgjcaaGreat
namespace Tr
def bl (s:ByteArray):List UInt8:=s.data.toList
def Dig (c:UInt8):Prop:=48<=c.toNat/\c.toNat<=57
instance (c:UInt8):Decidable (Dig c):=by unfold Dig;infer_instance
def dg (c:UInt8):Nat:=c.toNat - 48
def st (a:Nat) (c:UInt8):Nat:=a*10+dg c
def val (a:Nat) (l:List UInt8):Nat:=l.foldl st a
theorem occ_one {l:List UInt8} {i:Nat} {c:UInt8} (h:l[i]?=some c):l=l.take i ++ c :: l.drop (i+1):=by
 obtain ⟨hi,rfl⟩:=List.getElem?_eq_some_iff.1 h
 simp
end Tr
end Go.Proofs.YtnchnlgnnlgjcaaGreat
