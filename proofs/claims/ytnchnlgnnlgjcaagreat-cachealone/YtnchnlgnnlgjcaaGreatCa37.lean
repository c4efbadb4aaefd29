import Derived.Test.YtnchnlgnnlgjcaaGreatCa34
import Derived.Test.YtnchnlgnnlgjcaaGreatCa35
import Derived.Test.YtnchnlgnnlgjcaaGreatCa36
import Derived.Test.YtnchnlgnnlgjcaaGreatCa29
import Derived.Test.YtnchnlgnnlgjcaaGreatCa25
import Derived.Test.YtnchnlgnnlgjcaaGreatCa18
import Derived.Test.YtnchnlgnnlgjcaaGreatCa27
import Derived.SizedLaws
set_option linter.unusedVariables false
set_option linter.unusedSimpArgs false
namespace Go.Proofs.YtnchnlgnnlgjcaaGreat
open Go.RowKit
namespace Cc
theorem nt_rep {α:Type} (n i:Nat):Ca.nt (List.replicate n ([]:List α)) i=[]:=by
 unfold Ca.nt
 rw [List.getD_eq_getElem?_getD,List.getElem?_replicate]
 split <;> rfl
set_option maxRecDepth 100000 in
set_option maxHeartbeats 6400000 in
theorem step_clear {X:Nat->Option Obj} (B P n H D G W k j:Nat) (cx ly N:Int) (ls:List (Int × Int)) (p1 p2:Option Addr) (d1 d2:Nat) (ks vs:List (List Int)) (w0 w:World) (h:PlP X B w0 w P n H D G W ls k j) (sh:ShOk H D G W ls) (hj:j<=80)
 (hks:SlQ (fun x=>x<B) 1 eRow w p1 ks) (hvs:SlQ (fun x=>x<B) 1 eRow w p2 vs) (i1:∀ k,Ls.In32 (Ca.nt ks k)) (i2:∀ k,Ls.In32 (Ca.nt vs k)) (kl:ks.length<=10) (vl:vs.length<=10) (km:∀ k,(Ca.nt ks k).length<=35184372087808) (vm:∀ k,(Ca.nt vs k).length<=35184372087808) :
 Calls Tryz.prog 14 #[.pointer (some ⟨P,0,none⟩),.agg #[.int .i64 5,.int .i64 cx,.int .i64 ly,.int .i64 N,.slice p1 ks.length d1,.slice p2 vs.length d2]] w fun e w'=>e=.returned (.bool true)/\∃ k',PlP X B w0 w' P n H D G W ls k' (j+1):=by
 have h0:=Ca.hid h
 obtain ⟨g,b,R,M,al,cl,va,vr,C,T,L,t,q,zs,col,hC,hB,hD,hF,hG,hw,hBs⟩:=h
 have hk0:0<k:=hG.2.2.2.2.2.1
 have hk5:k<=5:=hG.2.2.2.2.2.2
 obtain ⟨a,hmx⟩:∃ a:Nat,max cx 0 % (k:Int)=a:=⟨(max cx 0 % (k:Int)).toNat,by have:=Int.emod_nonneg (max cx 0) (show (k:Int) ≠ 0 by omega);omega⟩
 have ha:a<k:=by have:=Int.emod_lt_of_pos (max cx 0) (show (0:Int)<k by omega);omega
 obtain ⟨u,hu⟩:∃ u,(w.alloc (.cells #[.int .i64 5,.int .i64 cx,.int .i64 ly,.int .i64 N,.slice p1 ks.length d1,.slice p2 vs.length d2] 44)).drew=u:=⟨_,rfl⟩
 have UB:Hid (Below w.heap.size w u):=by rw [<-hu];exact (Rt.box_below _ _).drew
 have UO:Hid (u.heap[w.heap.size]?=some (.cells #[.int .i64 5,.int .i64 cx,.int .i64 ly,.int .i64 N,.slice p1 ks.length d1,.slice p2 vs.length d2] 44)):=by rw [<-hu];exact heap_alloc_new w _
 have CU:=Ca.hid (hC.keep UB.out)
 have BU:=Ca.hid (hB.keep UB.out)
 have DU:=Ca.hid (hD.keep UB.out)
 have FU:=Ca.hid (hF.keep UB.out.size)
 have GD:=Ca.hid hG
 have HW:=Ca.hid (hw.trans (UB.out.mono hBs))
 have HBu:B<=u.heap.size:=by have:=UB.out.size;omega
 have KS:Hid (SlQ (fun x=>x<B) 1 eRow u p1 ks):=hks.carry carry_row (fun x _ hx=>⟨hx,UB.out.block x (by omega)⟩) UB.out.size
 have VS:Hid (SlQ (fun x=>x<B) 1 eRow u p2 vs):=hvs.carry carry_row (fun x _ hx=>⟨hx,UB.out.block x (by omega)⟩) UB.out.size
 have I1:=Ca.hid i1
 have I2:=Ca.hid i2
 have KM:=Ca.hid km
 have VM:=Ca.hid vm
 have SH:=Ca.hid sh
 have hRn:R.length=n:=(PoolAt.nums hC.1).2.1
 obtain ⟨⟨hP,-⟩,⟨hva,-⟩,-⟩:=hB
 obtain ⟨ga,ca,Fa,e,-,hra,hca,fa⟩:=row_of_own hva hk0
 subst e
 have fa':Fa a=.pointer (some ⟨C a,0,none⟩):=by have:=fa a ha;unfold cptrs at this;simpa [ha] using this
 have zau:u.cell? ⟨ga,a,none⟩=some (.pointer (some ⟨C a,0,none⟩)):=(UB.out.cell (p:=⟨ga,a,none⟩) hra.lt).trans (by rw [hra.cell (by omega),fa'])
 have ka0:(0:Int)<=(a:Int):=by omega
 have ka1:(a:Int)<(k:Int):=by omega
 clear hra hca fa fa'
 have p6:w.cell? ⟨P,6,none⟩=some (.slice (some ⟨ga,0,none⟩) k ca):=hP.cell (show 6<8 by decide)
 have plt:P<w.heap.size:=hP.lt
 have t0:u.cell? ⟨w.heap.size,0,none⟩=some (.int .i64 5):=cell_of_row _ _ _ _ _ _ UO.out
 have t2:u.cell? ⟨w.heap.size,2,none⟩=some (.int .i64 ly):=cell_of_row _ _ _ _ _ _ UO.out
 have t3:u.cell? ⟨w.heap.size,3,none⟩=some (.int .i64 N):=cell_of_row _ _ _ _ _ _ UO.out
 have t1:u.cell? ⟨w.heap.size,1,none⟩=some (.int .i64 cx):=cell_of_row _ _ _ _ _ _ UO.out
 have t4:u.cell? ⟨w.heap.size,4,none⟩=some (.slice p1 ks.length d1):=cell_of_row _ _ _ _ _ _ UO.out
 have t5:u.cell? ⟨w.heap.size,5,none⟩=some (.slice p2 vs.length d2):=cell_of_row _ _ _ _ _ _ UO.out
 have p6u:u.cell? ⟨P,6,none⟩=some (.slice (some ⟨ga,0,none⟩) k ca):=(UB.out.cell (p:=⟨P,6,none⟩) plt).trans p6
 have hkz:((k:Int) == 0)=false:=by simp;omega
 have hkn:¬ (k:Int)=0:=by omega
 clear hC hD hF hG hw hks hvs i1 i2 km vm sh hva hP
 go_enter Tryz.func14,Tryz.ntmps14
 go_wp2
 go_region
 rw [hmx]
 clear hu
 go_upto_region 19 with (go_at_call 25;refine (clear_c (C a) (a+1) g b n H D G W ls R M (L a) (t a) (q a) (tkD (T a) H) (qD G W (T a) H) col _ CU.out.1 (CU.out.2.2 a ha).1 SH.out (by have:=GD.out.2.2.1 a ha;omega) (GD.out.2.1 a ha) (GD.out.occs ha) (fun x hx=>GD.out.bound x hx) FU.out.1 (by omega) (by rw [CU.out.2.1.1];decide) (by rw [CU.out.2.1.2];decide)).mono ?_;rintro e w2 ⟨rfl,y1,y2,y3⟩;have PP:=Ca.hid y1;have PC:=Ca.hid y2;have PG:=Ca.hid y3;clear y1 y2 y3)
 have C2:Hid (Core13 w2 g b n H D G W ls _ M k C (upd T a (List.replicate ls.length [])) _ _ _ col):=CU.out.call ha hk5 PG.out PP.out (t':=0) (q':=0) (T':=List.replicate ls.length []) (PC.out.congr fun r hr=>⟨rfl,by unfold tkD;rw [nt_rep],by unfold qD;rw [nt_rep];unfold gn;simp⟩) ⟨by simp,SH.out.nums.2.2.2.1,fun i hi=>by rw [nt_rep];unfold lv;simp⟩ (fun i j hj=>by rw [nt_rep] at hj;exact absurd hj (Nat.not_lt_zero _)) (fun _ _ _ _ _ _ _=>rfl)
 have B2:=Ca.hid (BU.out.call CU.out.1 CU.out.2.1.1 CU.out.2.1.2 (by omega) PG.out)
 have D2:=Ca.hid (DU.out.call CU.out.2.1.1 CU.out.2.1.2 PG.out)
 obtain ⟨sG,sG2,sW,sl,sl2,-⟩:=SH.out.nums
 obtain ⟨⟨hP2,-⟩,-,⟨hvr2,cvr⟩,-⟩:=id B2.out
 obtain ⟨gr,cr,Fr',rfl,-,hrr,hcr,fr⟩:=row_of_own hvr2 hk0
 have cgr:=cvr gr rfl
 have tgr:=ty_own hvr2 (q:=gr) rfl
 obtain ⟨az,cz,ez,-⟩:=D2.out a ha
 have fr':Fr' a=.slice az ls.length cz:=by have:=fr a ha;simpa [ha,ez] using this
 have c72:w2.cell? ⟨P,7,none⟩=some (.slice (some ⟨gr,0,none⟩) k cr):=hP2.cell (show 7<8 by decide)
 have zr:w2.cell? ⟨gr,a,none⟩=some (.slice az ls.length cz):=by rw [hrr.cell (by omega),fr']
 have zf:w2.frozen? ⟨gr,a,none⟩=false:=hrr.frozen a
 have l0:(0:Int)<=(ls.length:Int):=by omega
 have l4:(ls.length:Int)<=4:=by omega
 clear fr fr' ez hrr hcr hP2 hvr2 cvr PP PC CU BU DU
 have hmk:=run_make_rows (P:=Tryz.prog) 59 60 (.slice none 0 0) #[.slice none 0 0] 1 24 rfl Tryz.underlying59 (by kernel_rfl) .i64 .i64 ls.length (by omega) (by omega)
 obtain ⟨V,eV⟩:∃ V,w2.alloc (.cells (madeCells #[.slice none 0 0] (ls.length*1)) 60)=V:=⟨_,rfl⟩
 have BV:Hid (Below w2.heap.size w2 V):=by rw [<-eV];exact Rt.box_below _ _
 have c7v:V.cell? ⟨P,7,none⟩=some (.slice (some ⟨gr,0,none⟩) k cr):=(BV.out.cell (p:=⟨P,7,none⟩) (World.block_lt_of_cell? w2 _ c72)).trans c72
 have zrv:V.cell? ⟨gr,a,none⟩=some (.slice az ls.length cz):=(BV.out.cell (p:=⟨gr,a,none⟩) (World.block_lt_of_cell? w2 _ zr)).trans zr
 have zfv:V.frozen? ⟨gr,a,none⟩=false:=by
  have h1:=BV.out.block gr (World.block_lt_of_cell? w2 _ zr)
  unfold World.frozen? at zf ⊢
  rw [h1]
  exact zf
 have RV:Hid (V.rowIs w2.heap.size 60 (ls.length*1) (fun j=>#[Value.slice none 0 0][j % #[Value.slice none 0 0].size]!)):=by rw [<-eV];exact row_made _ _ _ _
 rw [Nat.mul_one] at eV RV
 simp only [Nat.mul_one] at hmk
 go_region
 go_wp2
 go_ret
 clear hmk c7v zrv zfv c72 zr zf
 have hsV:=BV.out.size
 have hs2:=PG.out.size
 have F2:Hid (Fresh13 B w2 col):=⟨PG.out.2.2.2,FU.out.2⟩
 have C7:=Ca.hid (C2.out.keep BV.out)
 have B7:=Ca.hid (B2.out.keep BV.out)
 have D7:=Ca.hid (D2.out.keep BV.out)
 have F7:=Ca.hid (F2.out.keep BV.out.size)
 have DN7:Hid (SlQ (fun x=>col x=0) 1 eToks V (some ⟨w2.heap.size,0,none⟩) (List.replicate ls.length [])):=fun i hi=>by
  have hi2:i<ls.length:=by simpa using hi
  have hr:=RV.out.cell (i:=i) (by omega)
  rw [List.getElem_replicate]
  refine ⟨w2.heap.size,0,rfl,RV.out.lt,F2.out.1 _ (Nat.le_refl _),none,0,?_,Nat.le_refl _,Nat.zero_le _,fun _=>rfl,fun i hi=>absurd hi (Nat.not_lt_zero _)⟩
  show V.cell? ⟨w2.heap.size,0+(i*1+0),none⟩=_
  rw [show 0+(i*1+0)=i by omega,hr]
  simp [Nat.mod_one]
 obtain ⟨W8,eW8⟩:∃ W8,V.setCell ⟨gr,a,none⟩ (.slice (some ⟨w2.heap.size,0,none⟩) ls.length ls.length)=W8:=⟨_,rfl⟩
 rw [eW8]
 have st8:∀ x,¬ x=gr->W8.heap[x]?=V.heap[x]?:=fun x hx=>by rw [<-eW8];exact Below.heap_setCell _ _ _ _ (show x ≠ gr from hx)
 have sz8:W8.heap.size=V.heap.size:=by rw [<-eW8];simp [World.setCell]
 have tgr7:=ty_own B7.out.2.2.1.1 (q:=gr) rfl
 have C8:=Ca.hid (C7.out.off (w':=W8) hk5 cgr tgr7 ⟨by decide,by decide,by decide⟩ (by rw [sz8];exact Nat.le_refl _) (fun x _ hx=>st8 x hx))
 have B8:Hid (Box13 X B W8 P g H D G W ls al cl (.slice (some ⟨ga,0,none⟩) k ca) (.slice (some ⟨gr,0,none⟩) k cr) k C (upd zs a (.slice (some ⟨w2.heap.size,0,none⟩) ls.length ls.length)) col):=by rw [<-eW8];exact B7.out.setDoc ha
 have D8:=Ca.hid (D7.out.setDoc (w':=W8) (a:=a) (cv:=ls.length) cgr (by rw [sz8];exact Nat.le_refl _) (fun x _ hx=>st8 x hx) DN7.out)
 have F8:=Ca.hid (F7.out.keep (w':=W8) (by rw [sz8];exact Nat.le_refl _))
 have hgrB:B<=gr:=by
  rcases Nat.lt_or_ge gr B with h | h
  ·have:=FU.out.2 gr h;omega
  ·exact h
 have HW2:Hid (Below B w0 w2):=HW.out.trans ⟨PG.out.1.1,PG.out.1.2.1,PG.out.1.2.2.1,hs2,fun x hx=>PG.out.1.block (by omega) (fun e=>by have h1:=FU.out.2 x hx;rw [e,C8.out.2.1.1] at h1;exact absurd h1 (by decide)) (fun e=>by have h1:=FU.out.2 x hx;rw [e,C8.out.2.1.2] at h1;exact absurd h1 (by decide)) (fun e=>by have e:col x=a+1:=e;rw [FU.out.2 x hx] at e;omega)⟩
 have HW8:Hid (Below B w0 W8):=by rw [<-eW8];exact (HW2.out.trans (BV.out.mono (by omega))).setCell (p:=⟨gr,a,none⟩) hgrB _
 have PL8:PlP X B w0 W8 P n H D G W ls k (j+1):=⟨g,b,_,M,al,cl,_,_,C,_,_,_,_,_,col,C8.out,B8.out,D8.out,F8.out,GD.out.clear hRn ha,HW8.out,by omega⟩
 exact ⟨rfl,k,PL8.keep (Below.refl _ _).drew⟩
end Cc
end Go.Proofs.YtnchnlgnnlgjcaaGreat
namespace Go.Proofs.YtnchnlgnnlgjcaaGreat
open Go.RowKit
namespace Cc
set_option maxRecDepth 100000 in
set_option maxHeartbeats 6400000 in
theorem step_none {X:Nat->Option Obj} (B P n H D G W k j:Nat) (kd cx ly N:Int) (ls:List (Int × Int)) (p1 p2:Option Addr) (d1 d2:Nat) (ks vs:List (List Int)) (w0 w:World) (h:PlP X B w0 w P n H D G W ls k j) (sh:ShOk H D G W ls) (hj:j<=80)
 (hks:SlQ (fun x=>x<B) 1 eRow w p1 ks) (hvs:SlQ (fun x=>x<B) 1 eRow w p2 vs) (i1:∀ k,Ls.In32 (Ca.nt ks k)) (i2:∀ k,Ls.In32 (Ca.nt vs k)) (kl:ks.length<=10) (vl:vs.length<=10) (km:∀ k,(Ca.nt ks k).length<=35184372087808) (vm:∀ k,(Ca.nt vs k).length<=35184372087808) (n1:¬ kd=1) (n2:¬ kd=2) (n3:¬ kd=3) (n4:¬ kd=4) (n5:¬ kd=5) :
 Calls Tryz.prog 14 #[.pointer (some ⟨P,0,none⟩),.agg #[.int .i64 kd,.int .i64 cx,.int .i64 ly,.int .i64 N,.slice p1 ks.length d1,.slice p2 vs.length d2]] w fun e w'=>e=.returned (.bool true)/\∃ k',PlP X B w0 w' P n H D G W ls k' (j+1):=by
 have h0:=Ca.hid h
 obtain ⟨g,b,R,M,al,cl,va,vr,C,T,L,t,q,zs,col,hC,hB,hD,hF,hG,hw,hBs⟩:=h
 have hk0:0<k:=hG.2.2.2.2.2.1
 have hk5:k<=5:=hG.2.2.2.2.2.2
 obtain ⟨a,hmx⟩:∃ a:Nat,max cx 0 % (k:Int)=a:=⟨(max cx 0 % (k:Int)).toNat,by have:=Int.emod_nonneg (max cx 0) (show (k:Int) ≠ 0 by omega);omega⟩
 have ha:a<k:=by have:=Int.emod_lt_of_pos (max cx 0) (show (0:Int)<k by omega);omega
 obtain ⟨u,hu⟩:∃ u,(w.alloc (.cells #[.int .i64 kd,.int .i64 cx,.int .i64 ly,.int .i64 N,.slice p1 ks.length d1,.slice p2 vs.length d2] 44)).drew=u:=⟨_,rfl⟩
 have UB:Hid (Below w.heap.size w u):=by rw [<-hu];exact (Rt.box_below _ _).drew
 have UO:Hid (u.heap[w.heap.size]?=some (.cells #[.int .i64 kd,.int .i64 cx,.int .i64 ly,.int .i64 N,.slice p1 ks.length d1,.slice p2 vs.length d2] 44)):=by rw [<-hu];exact heap_alloc_new w _
 have CU:=Ca.hid (hC.keep UB.out)
 have BU:=Ca.hid (hB.keep UB.out)
 have DU:=Ca.hid (hD.keep UB.out)
 have FU:=Ca.hid (hF.keep UB.out.size)
 have GD:=Ca.hid hG
 have HW:=Ca.hid (hw.trans (UB.out.mono hBs))
 have HBu:B<=u.heap.size:=by have:=UB.out.size;omega
 have KS:Hid (SlQ (fun x=>x<B) 1 eRow u p1 ks):=hks.carry carry_row (fun x _ hx=>⟨hx,UB.out.block x (by omega)⟩) UB.out.size
 have VS:Hid (SlQ (fun x=>x<B) 1 eRow u p2 vs):=hvs.carry carry_row (fun x _ hx=>⟨hx,UB.out.block x (by omega)⟩) UB.out.size
 have I1:=Ca.hid i1
 have I2:=Ca.hid i2
 have KM:=Ca.hid km
 have VM:=Ca.hid vm
 have SH:=Ca.hid sh
 obtain ⟨⟨hP,-⟩,⟨hva,-⟩,-⟩:=hB
 obtain ⟨ga,ca,Fa,e,-⟩:=row_of_own hva hk0
 subst e
 have p6:w.cell? ⟨P,6,none⟩=some (.slice (some ⟨ga,0,none⟩) k ca):=hP.cell (show 6<8 by decide)
 have plt:P<w.heap.size:=hP.lt
 have t0:u.cell? ⟨w.heap.size,0,none⟩=some (.int .i64 kd):=cell_of_row _ _ _ _ _ _ UO.out
 have t2:u.cell? ⟨w.heap.size,2,none⟩=some (.int .i64 ly):=cell_of_row _ _ _ _ _ _ UO.out
 have t3:u.cell? ⟨w.heap.size,3,none⟩=some (.int .i64 N):=cell_of_row _ _ _ _ _ _ UO.out
 have t1:u.cell? ⟨w.heap.size,1,none⟩=some (.int .i64 cx):=cell_of_row _ _ _ _ _ _ UO.out
 have t4:u.cell? ⟨w.heap.size,4,none⟩=some (.slice p1 ks.length d1):=cell_of_row _ _ _ _ _ _ UO.out
 have t5:u.cell? ⟨w.heap.size,5,none⟩=some (.slice p2 vs.length d2):=cell_of_row _ _ _ _ _ _ UO.out
 have p6u:u.cell? ⟨P,6,none⟩=some (.slice (some ⟨ga,0,none⟩) k ca):=(UB.out.cell (p:=⟨P,6,none⟩) plt).trans p6
 have hkz:((k:Int) == 0)=false:=by simp;omega
 have hkn:¬ (k:Int)=0:=by omega
 clear hC hD hF hG hw hks hvs i1 i2 km vm sh hva hP
 go_enter Tryz.func14,Tryz.ntmps14
 go_wp2
 go_region
 rw [hmx]
 clear hu
 go_wp2
 go_ret
 exact ⟨rfl,k,(h0.out.keep UB.out).more⟩
end Cc
end Go.Proofs.YtnchnlgnnlgjcaaGreat
namespace Go.Proofs.YtnchnlgnnlgjcaaGreat
open Go.RowKit
namespace Cc
theorem step_fork {X:Nat->Option Obj} (B P n H D G W k j:Nat) (cx ly N:Int) (ls:List (Int × Int)) (p1 p2:Option Addr) (d1 d2:Nat) (ks vs:List (List Int)) (w0 w:World) (h:PlP X B w0 w P n H D G W ls k j) (sh:ShOk H D G W ls) (hj:j<=80)
 (hks:SlQ (fun x=>x<B) 1 eRow w p1 ks) (hvs:SlQ (fun x=>x<B) 1 eRow w p2 vs) (i1:∀ k,Ls.In32 (Ca.nt ks k)) (i2:∀ k,Ls.In32 (Ca.nt vs k)) (kl:ks.length<=10) (vl:vs.length<=10) (km:∀ k,(Ca.nt ks k).length<=35184372087808) (vm:∀ k,(Ca.nt vs k).length<=35184372087808) :
 Calls Tryz.prog 14 #[.pointer (some ⟨P,0,none⟩),.agg #[.int .i64 4,.int .i64 cx,.int .i64 ly,.int .i64 N,.slice p1 ks.length d1,.slice p2 vs.length d2]] w fun e w'=>e=.returned (.bool true)/\∃ k',PlP X B w0 w' P n H D G W ls k' (j+1):=by
 by_cases hk:5<=k
 ·exact step_full B P n H D G W k j cx ly N ls p1 p2 d1 d2 ks vs w0 w h sh hj hks hvs i1 i2 kl vl km vm hk
 ·obtain ⟨g,b,R,M,al,cl,va,vr,C,T,L,t,q,zs,col,hC,hB,hD,hF,hG,hw,hBs⟩:=h
  have hk0:0<k:=hG.2.2.2.2.2.1
  have h0:=Int.emod_nonneg (max cx 0) (show (k:Int) ≠ 0 by omega)
  obtain ⟨a,ea⟩:=Int.eq_ofNat_of_zero_le h0
  by_cases hq:q a=0
  ·exact forks_ok B P n H D G W k j cx ly N ls p1 p2 d1 d2 ks vs w0 w g b R M al cl va vr C T L t q zs col hC hB hD hF hG hw hBs a ea hq sh hj hks hvs i1 i2 kl vl km vm (by omega)
  ·exact forks_open B P n H D G W k j cx ly N ls p1 p2 d1 d2 ks vs w0 w g b R M al cl va vr C T L t q zs col hC hB hD hF hG hw hBs a ea hq sh hj hks hvs i1 i2 kl vl km vm (by omega)
theorem step_any {X:Nat->Option Obj} (B P n H D G W k j:Nat) (kd cx ly N:Int) (ls:List (Int × Int)) (p1 p2:Option Addr) (d1 d2:Nat) (ks vs:List (List Int)) (w0 w:World) (h:PlP X B w0 w P n H D G W ls k j) (sh:ShOk H D G W ls) (hj:j<=80)
 (hks:SlQ (fun x=>x<B) 1 eRow w p1 ks) (hvs:SlQ (fun x=>x<B) 1 eRow w p2 vs) (i1:∀ k,Ls.In32 (Ca.nt ks k)) (i2:∀ k,Ls.In32 (Ca.nt vs k)) (kl:ks.length<=10) (vl:vs.length<=10) (km:∀ k,(Ca.nt ks k).length<=35184372087808) (vm:∀ k,(Ca.nt vs k).length<=35184372087808) :
 Calls Tryz.prog 14 #[.pointer (some ⟨P,0,none⟩),.agg #[.int .i64 kd,.int .i64 cx,.int .i64 ly,.int .i64 N,.slice p1 ks.length d1,.slice p2 vs.length d2]] w fun e w'=>e=.returned (.bool true)/\∃ k',PlP X B w0 w' P n H D G W ls k' (j+1):=by
 by_cases n1:kd=1
 ·subst n1;exact step_put B P n H D G W k j cx ly N ls p1 p2 d1 d2 ks vs w0 w h sh hj hks hvs i1 i2 kl vl km vm
 by_cases n2:kd=2
 ·subst n2;exact step_next B P n H D G W k j cx ly N ls p1 p2 d1 d2 ks vs w0 w h sh hj hks hvs i1 i2 kl vl km vm
 by_cases n3:kd=3
 ·subst n3;exact step_cut B P n H D G W k j cx ly N ls p1 p2 d1 d2 ks vs w0 w h sh hj hks hvs i1 i2 kl vl km vm
 by_cases n4:kd=4
 ·subst n4;exact step_fork B P n H D G W k j cx ly N ls p1 p2 d1 d2 ks vs w0 w h sh hj hks hvs i1 i2 kl vl km vm
 by_cases n5:kd=5
 ·subst n5;exact step_clear B P n H D G W k j cx ly N ls p1 p2 d1 d2 ks vs w0 w h sh hj hks hvs i1 i2 kl vl km vm
 exact step_none B P n H D G W k j kd cx ly N ls p1 p2 d1 d2 ks vs w0 w h sh hj hks hvs i1 i2 kl vl km vm n1 n2 n3 n4 n5
end Cc
end Go.Proofs.YtnchnlgnnlgjcaaGreat
namespace Go.Proofs.YtnchnlgnnlgjcaaGreat
open Go.RowKit
namespace Cc
theorem own_of_boxed {w:World} {b B:Nat} {t:TypeId} {v:Value} (h:Boxed w b t v) (hB:B<=b):w.ownsRow B t 1 (.slice (some ⟨b,0,none⟩) 1 1) 1 [v] :=
 ⟨rfl,.inr ⟨b,1,#[v],rfl,hB,h,Nat.le_refl _,by decide,rfl,rfl⟩⟩
theorem nt_rep0 {α:Type} (n i:Nat):Ca.nt (List.replicate n ([]:List α)) i=[]:=by
 unfold Ca.nt
 rw [List.getD_eq_getElem?_getD,List.getElem?_replicate]
 split <;> rfl
theorem Begun.plp {w v:World} {P g b C vb vr z n H D G W:Nat} {a3:Option Addr} {c3:Nat} {ls:List (Int × Int)} {col:Nat->Nat} (h:Begun w v P g b C vb vr z a3 c3 n H D G W ls col) (h0:0<ls.length) :
 PlP nox w.heap.size w v P n H D G W ls 1 0:=by
 obtain ⟨h1,h2,h3,h4,h5,h6,h7,⟨c1,c2,c3',c4⟩,h9,h10,h11⟩:=h
 have fl:∀ m,Bk.flat (fun _=>([]:List Int)) m=[]:=fun m=>Bk.flat_nil m
 refine ⟨g,b,Po.zeros n,Po.zeros n,a3,c3,_,_,fun _=>C,fun _=>List.replicate ls.length [],fun _ _=>[],fun _=>0,fun _=>0,fun _=>.slice (some ⟨z,0,none⟩) ls.length ls.length,col,⟨h6,⟨c3',c4⟩,fun i hi=>?_⟩,⟨h1,⟨own_of_boxed h2.1 h10,fun x hx=>by cases hx;exact h2.2⟩,⟨own_of_boxed h3.1 h11,fun x hx=>by cases hx;exact h3.2⟩,h5.nox⟩,fun i hi=>⟨_,_,rfl,fun s hs=>?_⟩,⟨c1,c2⟩,⟨fun x hx=>?_,fun i hi x hx=>?_,fun i hi=>?_,fun i hi x hx=>?_,fun i hi=>Nat.le_refl _,by decide,by decide⟩,h9,h9.size⟩
 ·obtain rfl:i=0:=by omega
  refine ⟨h7.congr fun r hr=>⟨rfl,?_,?_⟩,⟨by simp,h0,fun i hi=>?_⟩,fun i j hj=>?_⟩
  ·unfold tkD;rw [nt_rep0]
  ·unfold qD;rw [nt_rep0];unfold gn;simp
  ·rw [nt_rep0];show _=lv 0 0 i;unfold lv;rw [if_neg (Nat.not_lt_zero _)];rfl
  ·exact absurd hj (by rw [nt_rep0];simp)
 ·have hi2:s<ls.length:=by simpa using hs
  have hr:=h4.1.cell (i:=s) hi2
  rw [List.getElem_replicate]
  refine ⟨z,0,rfl,h4.1.lt,h4.2,none,0,?_,Nat.le_refl _,Nat.zero_le _,fun _=>rfl,fun i hi=>absurd hi (Nat.not_lt_zero _)⟩
  show v.cell? ⟨z,0+(s*1+0),none⟩=_
  rw [show 0+(s*1+0)=s by omega,hr]
  rfl
 ·rw [Po.nth_zeros]
  show (0:Int)=((Bk.tot (fun _ _=>[]) (ls.length*H) (x:Int) 0+Bk.occ (x:Int) (Bk.flat (fun _=>[]) (ls.length*H)):Nat):Int)
  rw [fl]
  rfl
 ·rw [fl] at hx;cases hx
 ·unfold Bk.len;rw [fl];exact Nat.zero_le _
 ·rw [fl];exact Nat.zero_le _
end Cc
end Go.Proofs.YtnchnlgnnlgjcaaGreat
namespace Go.Proofs.YtnchnlgnnlgjcaaGreat
open Go.RowKit
namespace Cc
theorem PlP.below {Y:Nat->Option Obj} {B:Nat} {w0 w:World} {P n H D G W k j:Nat} {ls:List (Int × Int)} (h:PlP Y B w0 w P n H D G W ls k j):Below B w0 w:=by
 obtain ⟨g,b,R,M,al,cl,va,vr,C,T,L,t,q,zs,col,h1,h2,h3,h4,h5,h6,h7⟩:=h
 exact h6
end Cc
end Go.Proofs.YtnchnlgnnlgjcaaGreat
namespace Go.Proofs.YtnchnlgnnlgjcaaGreat
open Go.ChangeShapes Go.WideShapes Go.RowKit
namespace Cc
def FitAt (w:World) (p:Addr):Prop:=∀ y n c,w.cell? p=some (.slice (some y) n c)->∀ r,r<n->∀ A L C,w.cell? (y.add r)=some (.slice A L C)->L<=35184372087808
def IsFit (w:World) (a:Option Addr) (len:Nat):Prop:=∀ x,a=some x->∀ i,i<len->FitAt w (x.add (i*6+4))/\FitAt w (x.add (i*6+5))
theorem weights_all {H:Type} {P:Program} {e:TypeId} {d:DataW H} {n:Nat}:∀ {ds:List (DataW H)},d ∈ ds->n ∈ d.weights P e->n ∈ DataW.weightsAll P e ds
 | [],h,_=>by cases h
 | x :: r,h,hn=>by
   unfold DataW.weightsAll
   rw [List.mem_append]
   rcases List.mem_cons.1 h with e | e
   ·subst e;exact .inl hn
   ·exact .inr (weights_all e hn)
theorem six_of {α:Type}:∀ {l:List α},l.length=6->∃ a b c d e f,l=[a,b,c,d,e,f]
 | [a,b,c,d,e,f],_=>⟨a,b,c,d,e,f,rfl⟩
theorem row_fit {H:Type} {enc:TypeId × Value->H} {w:World} {fuel:Nat} {A:Option Addr} {L C:Nat} {x:DataW H × List MemPlace}
 (h:DataW.trod enc Tryz.prog w 0 (fun _=>true) true fuel 74 [.slice A L C]=some x) (hw:∀ n ∈ x.1.weights Tryz.prog 74,n<=reachBytes):L<=35184372087808:=by
 rcases Go.Deep.open_slice Tryz.underlying74 h with ⟨h0,_⟩ | ⟨y,l,c,m,n,D,Pl,hcs,hb,hl,hm,hmm,hx,hall⟩
 ·simp only [List.cons.injEq,and_true] at h0
  cases h0
  omega
 ·simp only [List.cons.injEq,and_true] at hcs
  cases hcs
  have b4:Tryz.prog.bytesOf 21=4:=by kernel_rfl
  have:=hw ((((List.range L).map D).length+((List.range (m - L)).map fun j=>D (L+j)).length)*Tryz.prog.bytesOf 21) (by rw [hx];simp [DataW.weights,Tryz.underlying74])
  rw [b4] at this
  simp only [List.length_map,List.length_range] at this
  unfold reachBytes at this
  omega
theorem tab_fit {H:Type} {enc:TypeId × Value->H} {w:World} {fuel:Nat} {y:Addr} {k c:Nat} {x:DataW H × List MemPlace}
 (h:DataW.trod enc Tryz.prog w 0 (fun _=>true) true fuel 42 [.slice (some y) k c]=some x) (hw:∀ n ∈ x.1.weights Tryz.prog 42,n<=reachBytes) :
 ∀ r,r<k->∀ A L C,w.cell? (y.add r)=some (.slice A L C)->L<=35184372087808:=by
 intro r hr A L C hcell
 rcases Go.Deep.open_slice1 Tryz.underlying42 (by kernel_rfl) h with ⟨h0,_⟩ | ⟨y',l,c',m,n,V,D,Pl,hcs,hb,hl,hm,hmm,hx,hall⟩
 ·simp at h0
 ·simp only [List.cons.injEq,and_true] at hcs
  cases hcs
  have hlm:k<=m:=by rw [hmm];split <;> omega
  obtain ⟨h1,h2⟩:=hall r (by omega)
  have hV:=Option.some.inj (h1.symm.trans hcell)
  rw [hV] at h2
  refine row_fit h2 fun z hz=>hw z ?_
  rw [hx]
  have:z ∈ DataW.weightsAll Tryz.prog 74 ((List.range k).map D):=weights_all (d:=D r) (List.mem_map.2 ⟨r,List.mem_range.2 hr,rfl⟩) hz
  simp [DataW.weights,Tryz.underlying42,this]
theorem ops_fit {H:Type} {enc:TypeId × Value->H} {w:World} {fuel:Nat} {a:Option Addr} {len cap:Nat} {x:DataW H × List MemPlace}
 (h:DataW.trod enc Tryz.prog w 0 (fun _=>true) true fuel 27 [.slice a len cap]=some x) (hw:∀ n ∈ x.1.weights Tryz.prog 27,n<=reachBytes):IsFit w a len:=by
 intro y0' ea i hi
 subst ea
 rcases Go.Deep.open_slice Tryz.underlying27 h with ⟨h0,_⟩ | ⟨y,l,c,m,n,D,Pl,hcs,hb,hl,hm,hmm,hx,hall⟩
 ·simp at h0
 ·simp only [List.cons.injEq,and_true] at hcs
  cases hcs
  have hlm:len<=m:=by rw [hmm];split <;> omega
  obtain ⟨cs,h1,h2⟩:=hall i (by omega)
  have ce:Tryz.prog.cellsOf 44=6:=by kernel_rfl
  have ct:Tryz.prog.cellsOf 42=1:=by kernel_rfl
  rw [ce] at h1
  obtain ⟨_,hlen,hcell⟩:=World.cells?_some h1
  obtain ⟨xs,k,hk,hxy,_,hxl,hf⟩:=DataW.trod_struct Tryz.underlying44 h2
  have hD:D i=.agg (xs.map (·.1)):=by have:=congrArg Prod.fst hxy;simpa using this
  have sub:∀ z,z ∈ (D i).weights Tryz.prog 44->z<=reachBytes:=fun z hz=>hw z (by
   rw [hx]
   have:z ∈ DataW.weightsAll Tryz.prog 44 ((List.range len).map D):=weights_all (d:=D i) (List.mem_map.2 ⟨i,List.mem_range.2 hi,rfl⟩) hz
   simp [DataW.weights,Tryz.underlying27,this])
  obtain ⟨y0,y1,y2,y3,y4,y5,rfl⟩:=six_of (show xs.length=6 from hxl)
  obtain ⟨v0,v1,v2,v3,v4,v5,rfl⟩:=six_of hlen
  ·have g4:=hf 4 _ rfl
   have g5:=hf 5 _ rfl
   simp [ct] at g4 g5
   have e4:=hcell 4 (by omega)
   have e5:=hcell 5 (by omega)
   rw [Go.Deep.add_add] at e4 e5
   have e4:w.cell? (y0'.add (i*6+4))=some v4:=by simpa using e4
   have e5:w.cell? (y0'.add (i*6+5))=some v5:=by simpa using e5
   have w4:∀ z ∈ y4.1.weights Tryz.prog 42,z<=reachBytes:=fun z hz=>sub z (by
    rw [hD]
    have:=DataW.weights_mem_each (P:=Tryz.prog) (ts:=[3,3,3,3,42,42]) (ds:=[y0,y1,y2,y3,y4,y5].map (·.1)) (j:=4) rfl rfl z hz
    simpa [DataW.weights,Tryz.underlying44] using this)
   have w5:∀ z ∈ y5.1.weights Tryz.prog 42,z<=reachBytes:=fun z hz=>sub z (by
    rw [hD]
    have:=DataW.weights_mem_each (P:=Tryz.prog) (ts:=[3,3,3,3,42,42]) (ds:=[y0,y1,y2,y3,y4,y5].map (·.1)) (j:=5) rfl rfl z hz
    simpa [DataW.weights,Tryz.underlying44] using this)
   refine ⟨fun y' n' c' hc=>?_,fun y' n' c' hc=>?_⟩
   ·rw [e4] at hc
    cases hc
    exact tab_fit g4 w4
   ·rw [e5] at hc
    cases hc
    exact tab_fit g5 w5
theorem case_fit {H:Type} {enc:TypeId × Value->H} {w:World} {fuel:Nat} {c0 c1 c2 c3 c4 c5:Value} {a:Option Addr} {len cap:Nat} {x:DataW H × List MemPlace}
 (h:DataW.trod enc Tryz.prog w 0 (fun _=>true) true fuel 29 [c0,c1,c2,c3,c4,c5,.slice a len cap]=some x) (hw:∀ n ∈ x.1.weights Tryz.prog 29,n<=reachBytes):IsFit w a len:=by
 obtain ⟨xs,k,hk,hxy,_,hxl,hf⟩:=DataW.trod_struct Tryz.underlying29 h
 have ct:Tryz.prog.cellsOf 27=1:=by kernel_rfl
 match xs,hxl with
 | [y0,y1,y2],_ =>
   have g2:=hf 2 _ rfl
   simp [ct] at g2
   refine ops_fit g2 fun z hz=>hw z ?_
   rw [hxy]
   have:=DataW.weights_mem_each (P:=Tryz.prog) (ts:=[3,26,27]) (ds:=[y0,y1,y2].map (·.1)) (j:=2) rfl rfl z hz
   simpa [DataW.weights,Tryz.underlying29] using this
theorem ops_short {B n:Nat} {w:World} {a:Option Addr} {K:Nat->Rec} (h:Ops B w a n K) (hf:IsFit w a n):∀ i,i<n->(∀ k,(Ca.nt (K i).2.2.2.2.2.2.1 k).length<=35184372087808)/\∀ k,(Ca.nt (K i).2.2.2.2.2.2.2 k).length<=35184372087808:=by
 intro i hi
 obtain ⟨b,o,e,hb,⟨-,-,-,-,c4,c5⟩,s4,s5,-⟩:=h i hi
 obtain ⟨f4,f5⟩:=hf _ e i hi
 have key:∀ (p:Addr) (A:Option Addr) (c:Nat) (l:List (List Int)),w.cell? p=some (.slice A l.length c)->SlQ (fun q=>q<B) 1 eRow w A l->FitAt w p->∀ k,(Ca.nt l k).length<=35184372087808:=fun p A c l hp hs hf k=>by
  by_cases hk:k<l.length
  ·obtain ⟨b',o',eA,_,_,A',C',hc,_⟩:=hs k hk
   rw [eA] at hp
   have:=hf _ _ _ hp k hk A' l[k].length C' (by
    have hc:w.cell? ⟨b',o'+(k*1+0),none⟩=some (.slice A' l[k].length C'):=hc
    have e:(⟨b',o',none⟩:Addr).add k=⟨b',o'+(k*1+0),none⟩:=by simp [Addr.add]
    rw [e];exact hc)
   rw [Ca.nt_at hk];exact this
  ·unfold Ca.nt
   rw [List.getD_eq_getElem?_getD,List.getElem?_eq_none (by omega)]
   simp
 have key2:∀ (z:Nat) (A:Option Addr) (c:Nat) (l:List (List Int)),w.cell? ⟨b,o+i*6+z,none⟩=some (.slice A l.length c)->SlQ (fun q=>q<B) 1 eRow w A l->FitAt w ((⟨b,o,none⟩:Addr).add (i*6+z))->∀ k,(Ca.nt l k).length<=35184372087808:=fun z A c l h1 h2 h3=>by
  have e:(⟨b,o,none⟩:Addr).add (i*6+z)=⟨b,o+i*6+z,none⟩:=by simp [Addr.add,Nat.add_assoc]
  rw [e] at h3
  exact key _ _ _ _ h1 h2 h3
 exact ⟨key2 4 _ _ _ c4 s4 f4,key2 5 _ _ _ c5 s5 f5⟩
end Cc
end Go.Proofs.YtnchnlgnnlgjcaaGreat
