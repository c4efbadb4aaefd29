import Derived.Test.YtnchnlgnnlgjcaaGreatCo29
import Derived.Test.YtnchnlgnnlgjcaaGreatCo30
import Derived.Test.YtnchnlgnnlgjcaaGreatCo31
import Derived.Test.YtnchnlgnnlgjcaaGreatCo32
import Derived.Test.YtnchnlgnnlgjcaaGreatCo33
import Derived.Test.YtnchnlgnnlgjcaaGreatCo17
import Derived.Test.YtnchnlgnnlgjcaaGreatCo22
set_option linter.unusedVariables false
set_option linter.unusedSimpArgs false
namespace Go.Proofs.YtnchnlgnnlgjcaaGreat
open Go.RowKit
namespace Cc
theorem puts_any {X:Nat->Option Obj} (B P g b n H D G W k j a:Nat) (ly:Int) (ls:List (Int × Int)) (R M:List Int) (al:Option Addr) (cl:Nat) (va vr:Value) (C:Nat->Nat) (T:Nat->List (List Tok)) (L:Nat->Nat->List Int) (t q:Nat->Nat) (zs:Nat->Value) (col:Nat->Nat)
 (x0 x1 x2 x3:Int) (p1 p2:Option Addr) (d1 d2:Nat) (ks vs:List (List Int)) (w0 w:World) (hC:Core13 w g b n H D G W ls R M k C T L t q col) (hB:Box13 X B w P g H D G W ls al cl va vr k C zs col) (hD:Doc13 w ls.length k T zs col) (hF:Fresh13 B w col) (hG:Good13 n (ls.length*H) k j R L t) (hw:Below B w0 w) (hBs:B<=w.heap.size)
 (sh:ShOk H D G W ls) (ha:a<k) (hj:j<=80) (hks:SlQ (fun x=>x<B) 1 eRow w p1 ks) (hvs:SlQ (fun x=>x<B) 1 eRow w p2 vs) (i1:∀ k,Ls.In32 (Ca.nt ks k)) (i2:∀ k,Ls.In32 (Ca.nt vs k)) (kl:ks.length<=10) (vl:vs.length<=10) (km:∀ k,(Ca.nt ks k).length<=35184372087808) (vm:∀ k,(Ca.nt vs k).length<=35184372087808) :
 Calls Tryz.prog 39 #[.pointer (some ⟨P,0,none⟩),.int .i64 (a:Int),.int .i64 ly,.agg #[.int .i64 x0,.int .i64 x1,.int .i64 x2,.int .i64 x3,.slice p1 ks.length d1,.slice p2 vs.length d2]] w fun e w'=>e=.returned (.bool true)/\PlP X B w0 w' P n H D G W ls k (j+1):=by
 by_cases c1:ly=(q a:Int)
 ·subst c1
  cases f1:Ca.fit H D ks with
  | false=>exact puts_shapeB B P g b n H D G W k j a ls R M al cl va vr C T L t q zs col x0 x1 x2 x3 p1 p2 d1 d2 ks vs w0 w hC hB hD hF hG hw hBs sh ha hj hks hvs i1 i2 kl vl km vm f1
  | true =>
    cases f2:Ca.fit H D vs with
    | false=>exact puts_shapeC B P g b n H D G W k j a ls R M al cl va vr C T L t q zs col x0 x1 x2 x3 p1 p2 d1 d2 ks vs w0 w hC hB hD hF hG hw hBs sh ha hj hks hvs i1 i2 kl vl km vm f1 f2
    | true =>
      by_cases c2:gn G W (t a)<gn G W (t a+1)/\Po.cnt R<H
      ·exact puts_full B P g b n H D G W k j a ls R M al cl va vr C T L t q zs col x0 x1 x2 x3 p1 p2 d1 d2 ks vs w0 w hC hB hD hF hG hw hBs sh ha hj hks hvs i1 i2 kl vl km vm f1 f2 c2.1 _ rfl c2.2
      ·exact puts_ok B P g b n H D G W k j a ls R M al cl va vr C T L t q zs col x0 x1 x2 x3 p1 p2 d1 d2 ks vs w0 w hC hB hD hF hG hw hBs sh ha hj hks hvs i1 i2 kl vl km vm f1 f2 _ rfl (fun h=>by omega)
 ·exact puts_open B P g b n H D G W k j a ly ls R M al cl va vr C T L t q zs col x0 x1 x2 x3 p1 p2 d1 d2 ks vs w0 w hC hB hD hF hG hw hBs sh ha hj hks hvs i1 i2 kl vl km vm c1
theorem cuts_any {X:Nat->Option Obj} (B P g b n H D G W k j a:Nat) (N:Int) (ls:List (Int × Int)) (R M:List Int) (al:Option Addr) (cl:Nat) (va vr:Value) (C:Nat->Nat) (T:Nat->List (List Tok)) (L:Nat->Nat->List Int) (t q:Nat->Nat) (zs:Nat->Value) (col:Nat->Nat)
 (w0 w:World) (hC:Core13 w g b n H D G W ls R M k C T L t q col) (hB:Box13 X B w P g H D G W ls al cl va vr k C zs col) (hD:Doc13 w ls.length k T zs col) (hF:Fresh13 B w col) (hG:Good13 n (ls.length*H) k j R L t) (hw:Below B w0 w) (hBs:B<=w.heap.size)
 (sh:ShOk H D G W ls) (ha:a<k) (hj:j<=80) :
 Calls Tryz.prog 41 #[.pointer (some ⟨P,0,none⟩),.int .i64 (a:Int),.int .i64 N] w fun e w'=>e=.returned (.bool true)/\PlP X B w0 w' P n H D G W ls k (j+1):=by
 have st:PlP X B w0 w P n H D G W ls k j:=⟨g,b,R,M,al,cl,va,vr,C,T,L,t,q,zs,col,hC,hB,hD,hF,hG,hw,hBs⟩
 by_cases c0:q a=0
 ·by_cases c1:N<0\/(t a:Int)<N\/¬ gn G W N.toNat=gn G W (t a)
  ·exact (cuts_range B P g b n H D G W k j a N ls R M al cl va vr C T L t q zs col w hC hB hD hG sh ha hj c0 c1).mono fun _ _ h=>⟨h.1,(st.keep h.2).more⟩
  ·have n0:0<=N:=by omega
   obtain ⟨m,rfl⟩:=Int.eq_ofNat_of_zero_le n0
   exact cuts_ok B P g b n H D G W k j a (m:Int) ls R M al cl va vr C T L t q zs col w hC hB hD hG sh ha hj c0 m rfl (by omega) (by
    have h:¬ ¬ gn G W ((m:Int).toNat)=gn G W (t a):=fun h=>c1 (.inr (.inr h))
    have h:=Classical.not_not.1 h
    simpa using h) w0 hF hw hBs
 ·exact (cuts_open B P g b n H D G W k j a N ls R M al cl va vr C T L t q zs col w hC hB hD hG sh ha hj c0).mono fun _ _ h=>⟨h.1,(st.keep h.2).more⟩
end Cc
end Go.Proofs.YtnchnlgnnlgjcaaGreat
namespace Go.Proofs.YtnchnlgnnlgjcaaGreat
open Go.RowKit
namespace Cc
set_option maxRecDepth 100000 in
set_option maxHeartbeats 6400000 in
theorem step_put {X:Nat->Option Obj} (B P n H D G W k j:Nat) (cx ly N:Int) (ls:List (Int × Int)) (p1 p2:Option Addr) (d1 d2:Nat) (ks vs:List (List Int)) (w0 w:World) (h:PlP X B w0 w P n H D G W ls k j) (sh:ShOk H D G W ls) (hj:j<=80)
 (hks:SlQ (fun x=>x<B) 1 eRow w p1 ks) (hvs:SlQ (fun x=>x<B) 1 eRow w p2 vs) (i1:∀ k,Ls.In32 (Ca.nt ks k)) (i2:∀ k,Ls.In32 (Ca.nt vs k)) (kl:ks.length<=10) (vl:vs.length<=10) (km:∀ k,(Ca.nt ks k).length<=35184372087808) (vm:∀ k,(Ca.nt vs k).length<=35184372087808) :
 Calls Tryz.prog 14 #[.pointer (some ⟨P,0,none⟩),.agg #[.int .i64 1,.int .i64 cx,.int .i64 ly,.int .i64 N,.slice p1 ks.length d1,.slice p2 vs.length d2]] w fun e w'=>e=.returned (.bool true)/\∃ k',PlP X B w0 w' P n H D G W ls k' (j+1):=by
 have h0:=Ca.hid h
 obtain ⟨g,b,R,M,al,cl,va,vr,C,T,L,t,q,zs,col,hC,hB,hD,hF,hG,hw,hBs⟩:=h
 have hk0:0<k:=hG.2.2.2.2.2.1
 have hk5:k<=5:=hG.2.2.2.2.2.2
 obtain ⟨a,hmx⟩:∃ a:Nat,max cx 0 % (k:Int)=a:=⟨(max cx 0 % (k:Int)).toNat,by have:=Int.emod_nonneg (max cx 0) (show (k:Int) ≠ 0 by omega);omega⟩
 have ha:a<k:=by have:=Int.emod_lt_of_pos (max cx 0) (show (0:Int)<k by omega);omega
 obtain ⟨u,hu⟩:∃ u,(w.alloc (.cells #[.int .i64 1,.int .i64 cx,.int .i64 ly,.int .i64 N,.slice p1 ks.length d1,.slice p2 vs.length d2] 44)).drew=u:=⟨_,rfl⟩
 have UB:Hid (Below w.heap.size w u):=by rw [<-hu];exact (Rt.box_below _ _).drew
 have UO:Hid (u.heap[w.heap.size]?=some (.cells #[.int .i64 1,.int .i64 cx,.int .i64 ly,.int .i64 N,.slice p1 ks.length d1,.slice p2 vs.length d2] 44)):=by rw [<-hu];exact heap_alloc_new w _
 have CU:=Ca.hid (hC.keep UB.out)
 have BU:=Ca.hid (hB.keep UB.out)
 have DU:=Ca.hid (hD.keep UB.out)
 have FU:=Ca.hid (hF.keep UB.out.size)
 have GD:=Ca.hid hG
 have HW:=Ca.hid (hw.trans (UB.out.mono hBs))
 have HBu:B<=u.heap.size:=by have:=UB.out.size;omega
 have KS:Hid (SlQ (fun x=>x<B) 1 eRow u p1 ks):=hks.carry carry_row (fun x _ hx=>⟨hx,UB.out.block x (by omega)⟩) UB.out.size
 have VS:Hid (SlQ (fun x=>x<B) 1 eRow u p2 vs):=hvs.carry carry_row (fun x _ hx=>⟨hx,UB.out.block x (by omega)⟩) UB.out.size
 have I1:=Ca.hid i1
 have I2:=Ca.hid i2
 have KM:=Ca.hid km
 have VM:=Ca.hid vm
 have SH:=Ca.hid sh
 obtain ⟨⟨hP,-⟩,⟨hva,-⟩,-⟩:=hB
 obtain ⟨ga,ca,Fa,e,-⟩:=row_of_own hva hk0
 subst e
 have p6:w.cell? ⟨P,6,none⟩=some (.slice (some ⟨ga,0,none⟩) k ca):=hP.cell (show 6<8 by decide)
 have plt:P<w.heap.size:=hP.lt
 have t0:u.cell? ⟨w.heap.size,0,none⟩=some (.int .i64 1):=cell_of_row _ _ _ _ _ _ UO.out
 have t2:u.cell? ⟨w.heap.size,2,none⟩=some (.int .i64 ly):=cell_of_row _ _ _ _ _ _ UO.out
 have t3:u.cell? ⟨w.heap.size,3,none⟩=some (.int .i64 N):=cell_of_row _ _ _ _ _ _ UO.out
 have t1:u.cell? ⟨w.heap.size,1,none⟩=some (.int .i64 cx):=cell_of_row _ _ _ _ _ _ UO.out
 have t4:u.cell? ⟨w.heap.size,4,none⟩=some (.slice p1 ks.length d1):=cell_of_row _ _ _ _ _ _ UO.out
 have t5:u.cell? ⟨w.heap.size,5,none⟩=some (.slice p2 vs.length d2):=cell_of_row _ _ _ _ _ _ UO.out
 have p6u:u.cell? ⟨P,6,none⟩=some (.slice (some ⟨ga,0,none⟩) k ca):=(UB.out.cell (p:=⟨P,6,none⟩) plt).trans p6
 have hkz:((k:Int) == 0)=false:=by simp;omega
 have hkn:¬ (k:Int)=0:=by omega
 clear hC hD hF hG hw hks hvs i1 i2 km vm sh hva hP
 go_enter Tryz.func14,Tryz.ntmps14
 go_wp2
 go_region
 rw [hmx]
 clear hu
 go_wp2_with (go_at_call 39;refine (puts_any B P g b n H D G W k j a ly ls R M al cl _ vr C T L t q zs col 1 cx ly N p1 p2 d1 d2 ks vs w0 u CU.out BU.out DU.out FU.out GD.out HW.out HBu SH.out ha hj KS.out VS.out I1.out I2.out kl vl KM.out VM.out).mono ?_;rintro e w2 ⟨rfl,hp⟩;have HP2:=Ca.hid hp;clear hp)
 go_ret
 exact ⟨rfl,k,HP2.out⟩
end Cc
end Go.Proofs.YtnchnlgnnlgjcaaGreat
namespace Go.Proofs.YtnchnlgnnlgjcaaGreat
open Go.RowKit
namespace Cc
set_option maxRecDepth 100000 in
set_option maxHeartbeats 6400000 in
theorem step_next {X:Nat->Option Obj} (B P n H D G W k j:Nat) (cx ly N:Int) (ls:List (Int × Int)) (p1 p2:Option Addr) (d1 d2:Nat) (ks vs:List (List Int)) (w0 w:World) (h:PlP X B w0 w P n H D G W ls k j) (sh:ShOk H D G W ls) (hj:j<=80)
 (hks:SlQ (fun x=>x<B) 1 eRow w p1 ks) (hvs:SlQ (fun x=>x<B) 1 eRow w p2 vs) (i1:∀ k,Ls.In32 (Ca.nt ks k)) (i2:∀ k,Ls.In32 (Ca.nt vs k)) (kl:ks.length<=10) (vl:vs.length<=10) (km:∀ k,(Ca.nt ks k).length<=35184372087808) (vm:∀ k,(Ca.nt vs k).length<=35184372087808) :
 Calls Tryz.prog 14 #[.pointer (some ⟨P,0,none⟩),.agg #[.int .i64 2,.int .i64 cx,.int .i64 ly,.int .i64 N,.slice p1 ks.length d1,.slice p2 vs.length d2]] w fun e w'=>e=.returned (.bool true)/\∃ k',PlP X B w0 w' P n H D G W ls k' (j+1):=by
 have h0:=Ca.hid h
 obtain ⟨g,b,R,M,al,cl,va,vr,C,T,L,t,q,zs,col,hC,hB,hD,hF,hG,hw,hBs⟩:=h
 have hk0:0<k:=hG.2.2.2.2.2.1
 have hk5:k<=5:=hG.2.2.2.2.2.2
 obtain ⟨a,hmx⟩:∃ a:Nat,max cx 0 % (k:Int)=a:=⟨(max cx 0 % (k:Int)).toNat,by have:=Int.emod_nonneg (max cx 0) (show (k:Int) ≠ 0 by omega);omega⟩
 have ha:a<k:=by have:=Int.emod_lt_of_pos (max cx 0) (show (0:Int)<k by omega);omega
 obtain ⟨u,hu⟩:∃ u,(w.alloc (.cells #[.int .i64 2,.int .i64 cx,.int .i64 ly,.int .i64 N,.slice p1 ks.length d1,.slice p2 vs.length d2] 44)).drew=u:=⟨_,rfl⟩
 have UB:Hid (Below w.heap.size w u):=by rw [<-hu];exact (Rt.box_below _ _).drew
 have UO:Hid (u.heap[w.heap.size]?=some (.cells #[.int .i64 2,.int .i64 cx,.int .i64 ly,.int .i64 N,.slice p1 ks.length d1,.slice p2 vs.length d2] 44)):=by rw [<-hu];exact heap_alloc_new w _
 have CU:=Ca.hid (hC.keep UB.out)
 have BU:=Ca.hid (hB.keep UB.out)
 have DU:=Ca.hid (hD.keep UB.out)
 have FU:=Ca.hid (hF.keep UB.out.size)
 have GD:=Ca.hid hG
 have HW:=Ca.hid (hw.trans (UB.out.mono hBs))
 have HBu:B<=u.heap.size:=by have:=UB.out.size;omega
 have KS:Hid (SlQ (fun x=>x<B) 1 eRow u p1 ks):=hks.carry carry_row (fun x _ hx=>⟨hx,UB.out.block x (by omega)⟩) UB.out.size
 have VS:Hid (SlQ (fun x=>x<B) 1 eRow u p2 vs):=hvs.carry carry_row (fun x _ hx=>⟨hx,UB.out.block x (by omega)⟩) UB.out.size
 have I1:=Ca.hid i1
 have I2:=Ca.hid i2
 have KM:=Ca.hid km
 have VM:=Ca.hid vm
 have SH:=Ca.hid sh
 have LY:=Ca.hid (hC.2.2 a ha).2.1
 obtain ⟨⟨hP,-⟩,⟨hva,-⟩,⟨hvr,-⟩,-⟩:=hB
 obtain ⟨gr,cr,Fr',er,-,hrr,hcr,fr⟩:=row_of_own hvr hk0
 subst er
 obtain ⟨az,cz,ez,sz⟩:=hD a ha
 rw [<-LY.out.1] at ez
 have fr':Fr' a=.slice az (T a).length cz:=by have:=fr a ha;simpa [ha,ez] using this
 have SZ:Hid (SlQ (fun x=>col x=0) 1 eToks u az (T a)):=sz.keep carry_toks UB.out
 have c7u:u.cell? ⟨P,7,none⟩=some (.slice (some ⟨gr,0,none⟩) k cr):=(UB.out.cell (p:=⟨P,7,none⟩) hP.lt).trans (hP.cell (show 7<8 by decide))
 have zru:u.cell? ⟨gr,a,none⟩=some (.slice az (T a).length cz):=(UB.out.cell (p:=⟨gr,a,none⟩) hrr.lt).trans (by rw [hrr.cell (by omega),fr'])
 have ka0:(0:Int)<=(a:Int):=by omega
 have ka1:(a:Int)<(k:Int):=by omega
 obtain ⟨sG,sG2,sW,sl,sl2,-⟩:=sh.nums
 clear hvr hrr hcr fr fr' ez sz
 obtain ⟨ga,ca,Fa,e,-⟩:=row_of_own hva hk0
 subst e
 have p6:w.cell? ⟨P,6,none⟩=some (.slice (some ⟨ga,0,none⟩) k ca):=hP.cell (show 6<8 by decide)
 have plt:P<w.heap.size:=hP.lt
 have t0:u.cell? ⟨w.heap.size,0,none⟩=some (.int .i64 2):=cell_of_row _ _ _ _ _ _ UO.out
 have t2:u.cell? ⟨w.heap.size,2,none⟩=some (.int .i64 ly):=cell_of_row _ _ _ _ _ _ UO.out
 have t3:u.cell? ⟨w.heap.size,3,none⟩=some (.int .i64 N):=cell_of_row _ _ _ _ _ _ UO.out
 have t1:u.cell? ⟨w.heap.size,1,none⟩=some (.int .i64 cx):=cell_of_row _ _ _ _ _ _ UO.out
 have t4:u.cell? ⟨w.heap.size,4,none⟩=some (.slice p1 ks.length d1):=cell_of_row _ _ _ _ _ _ UO.out
 have t5:u.cell? ⟨w.heap.size,5,none⟩=some (.slice p2 vs.length d2):=cell_of_row _ _ _ _ _ _ UO.out
 have p6u:u.cell? ⟨P,6,none⟩=some (.slice (some ⟨ga,0,none⟩) k ca):=(UB.out.cell (p:=⟨P,6,none⟩) plt).trans p6
 have KQ:Hid (∀ v,Below u.heap.size u v->(v.cell? ⟨P,7,none⟩=some (.slice (some ⟨gr,0,none⟩) k cr)/\v.cell? ⟨gr,a,none⟩=some (.slice az (T a).length cz))/\(v.cell? ⟨w.heap.size,0,none⟩=some (.int .i64 2)/\v.cell? ⟨w.heap.size,1,none⟩=some (.int .i64 cx)/\v.cell? ⟨w.heap.size,2,none⟩=some (.int .i64 ly)/\v.cell? ⟨w.heap.size,3,none⟩=some (.int .i64 N)/\v.cell? ⟨w.heap.size,4,none⟩=some (.slice p1 ks.length d1)/\v.cell? ⟨w.heap.size,5,none⟩=some (.slice p2 vs.length d2))):=fun v hv=>by
  have mv:∀ x o y,u.cell? ⟨x,o,none⟩=some y->v.cell? ⟨x,o,none⟩=some y:=fun x o y h1=>(hv.cell (p:=⟨x,o,none⟩) (World.block_lt_of_cell? u _ h1)).trans h1
  exact ⟨⟨mv _ _ _ c7u,mv _ _ _ zru⟩,mv _ _ _ t0,mv _ _ _ t1,mv _ _ _ t2,mv _ _ _ t3,mv _ _ _ t4,mv _ _ _ t5⟩
 have hkz:((k:Int) == 0)=false:=by simp;omega
 have hkn:¬ (k:Int)=0:=by omega
 clear hC hD hF hG hw hks hvs i1 i2 km vm sh hva hP
 go_enter Tryz.func14,Tryz.ntmps14
 go_wp2
 go_region
 rw [hmx]
 clear hu
 go_upto_region 6 with fail
 have YD:Hid (Below u.heap.size u u.drew):=(Below.refl _ _).drew
 have SZD:Hid (SlQ (fun x=>col x=0) 1 eToks u.drew az (T a)):=SZ.out.keep carry_toks YD.out
 have hT0:0<(T a).length:=by rw [LY.out.1];omega
 have hT1:(T a).length<=10:=by rw [LY.out.1];omega
 have CD:=Ca.hid (CU.out.keep YD.out)
 have BD:=Ca.hid (BU.out.keep YD.out)
 have DD:=Ca.hid (DU.out.keep YD.out)
 have FD:=Ca.hid (FU.out.keep YD.out.size)
 have WD:=Ca.hid (HW.out.trans (YD.out.mono HBu))
 have SD:B<=u.drew.heap.size:=by have:=YD.out.size;omega
 have KD:Hid (SlQ (fun x=>x<B) 1 eRow u.drew p1 ks):=KS.out.carry carry_row (fun x hx0 hx=>⟨hx,YD.out.block x hx0⟩) YD.out.size
 have VD:Hid (SlQ (fun x=>x<B) 1 eRow u.drew p2 vs):=VS.out.carry carry_row (fun x hx0 hx=>⟨hx,YD.out.block x hx0⟩) YD.out.size
 go_region_with
  (first
    | (go_at_call 40;refine (next_any (α:=Tok) az cz (T a) u.drew SZD.out hT0 hT1).mono ?_;rintro e w' ⟨rfl,hww⟩;cases hww.symm;clear hww;rw [LY.out.nxt])
    | (go_at_call 39;refine (puts_any B P g b n H D G W k j a ((q a:Nat):Int) ls R M al cl _ _ C T L t q zs col 2 cx ly N p1 p2 d1 d2 ks vs w0 u.drew CD.out BD.out DD.out FD.out GD.out WD.out SD SH.out ha hj KD.out VD.out I1.out I2.out kl vl KM.out VM.out).mono ?_;rintro e w2 ⟨rfl,hp⟩;have HP2:=Ca.hid hp;clear hp))
 all_goals go_wp2_with fail
 all_goals go_ret
 all_goals exact ⟨rfl,k,HP2.out⟩
end Cc
end Go.Proofs.YtnchnlgnnlgjcaaGreat
namespace Go.Proofs.YtnchnlgnnlgjcaaGreat
open Go.RowKit
namespace Cc
set_option maxRecDepth 100000 in
set_option maxHeartbeats 6400000 in
theorem step_cut {X:Nat->Option Obj} (B P n H D G W k j:Nat) (cx ly N:Int) (ls:List (Int × Int)) (p1 p2:Option Addr) (d1 d2:Nat) (ks vs:List (List Int)) (w0 w:World) (h:PlP X B w0 w P n H D G W ls k j) (sh:ShOk H D G W ls) (hj:j<=80)
 (hks:SlQ (fun x=>x<B) 1 eRow w p1 ks) (hvs:SlQ (fun x=>x<B) 1 eRow w p2 vs) (i1:∀ k,Ls.In32 (Ca.nt ks k)) (i2:∀ k,Ls.In32 (Ca.nt vs k)) (kl:ks.length<=10) (vl:vs.length<=10) (km:∀ k,(Ca.nt ks k).length<=35184372087808) (vm:∀ k,(Ca.nt vs k).length<=35184372087808) :
 Calls Tryz.prog 14 #[.pointer (some ⟨P,0,none⟩),.agg #[.int .i64 3,.int .i64 cx,.int .i64 ly,.int .i64 N,.slice p1 ks.length d1,.slice p2 vs.length d2]] w fun e w'=>e=.returned (.bool true)/\∃ k',PlP X B w0 w' P n H D G W ls k' (j+1):=by
 have h0:=Ca.hid h
 obtain ⟨g,b,R,M,al,cl,va,vr,C,T,L,t,q,zs,col,hC,hB,hD,hF,hG,hw,hBs⟩:=h
 have hk0:0<k:=hG.2.2.2.2.2.1
 have hk5:k<=5:=hG.2.2.2.2.2.2
 obtain ⟨a,hmx⟩:∃ a:Nat,max cx 0 % (k:Int)=a:=⟨(max cx 0 % (k:Int)).toNat,by have:=Int.emod_nonneg (max cx 0) (show (k:Int) ≠ 0 by omega);omega⟩
 have ha:a<k:=by have:=Int.emod_lt_of_pos (max cx 0) (show (0:Int)<k by omega);omega
 obtain ⟨u,hu⟩:∃ u,(w.alloc (.cells #[.int .i64 3,.int .i64 cx,.int .i64 ly,.int .i64 N,.slice p1 ks.length d1,.slice p2 vs.length d2] 44)).drew=u:=⟨_,rfl⟩
 have UB:Hid (Below w.heap.size w u):=by rw [<-hu];exact (Rt.box_below _ _).drew
 have UO:Hid (u.heap[w.heap.size]?=some (.cells #[.int .i64 3,.int .i64 cx,.int .i64 ly,.int .i64 N,.slice p1 ks.length d1,.slice p2 vs.length d2] 44)):=by rw [<-hu];exact heap_alloc_new w _
 have CU:=Ca.hid (hC.keep UB.out)
 have BU:=Ca.hid (hB.keep UB.out)
 have DU:=Ca.hid (hD.keep UB.out)
 have FU:=Ca.hid (hF.keep UB.out.size)
 have GD:=Ca.hid hG
 have HW:=Ca.hid (hw.trans (UB.out.mono hBs))
 have HBu:B<=u.heap.size:=by have:=UB.out.size;omega
 have KS:Hid (SlQ (fun x=>x<B) 1 eRow u p1 ks):=hks.carry carry_row (fun x _ hx=>⟨hx,UB.out.block x (by omega)⟩) UB.out.size
 have VS:Hid (SlQ (fun x=>x<B) 1 eRow u p2 vs):=hvs.carry carry_row (fun x _ hx=>⟨hx,UB.out.block x (by omega)⟩) UB.out.size
 have I1:=Ca.hid i1
 have I2:=Ca.hid i2
 have KM:=Ca.hid km
 have VM:=Ca.hid vm
 have SH:=Ca.hid sh
 obtain ⟨⟨hP,-⟩,⟨hva,-⟩,-⟩:=hB
 obtain ⟨ga,ca,Fa,e,-⟩:=row_of_own hva hk0
 subst e
 have p6:w.cell? ⟨P,6,none⟩=some (.slice (some ⟨ga,0,none⟩) k ca):=hP.cell (show 6<8 by decide)
 have plt:P<w.heap.size:=hP.lt
 have t0:u.cell? ⟨w.heap.size,0,none⟩=some (.int .i64 3):=cell_of_row _ _ _ _ _ _ UO.out
 have t2:u.cell? ⟨w.heap.size,2,none⟩=some (.int .i64 ly):=cell_of_row _ _ _ _ _ _ UO.out
 have t3:u.cell? ⟨w.heap.size,3,none⟩=some (.int .i64 N):=cell_of_row _ _ _ _ _ _ UO.out
 have t1:u.cell? ⟨w.heap.size,1,none⟩=some (.int .i64 cx):=cell_of_row _ _ _ _ _ _ UO.out
 have t4:u.cell? ⟨w.heap.size,4,none⟩=some (.slice p1 ks.length d1):=cell_of_row _ _ _ _ _ _ UO.out
 have t5:u.cell? ⟨w.heap.size,5,none⟩=some (.slice p2 vs.length d2):=cell_of_row _ _ _ _ _ _ UO.out
 have p6u:u.cell? ⟨P,6,none⟩=some (.slice (some ⟨ga,0,none⟩) k ca):=(UB.out.cell (p:=⟨P,6,none⟩) plt).trans p6
 have hkz:((k:Int) == 0)=false:=by simp;omega
 have hkn:¬ (k:Int)=0:=by omega
 clear hC hD hF hG hw hks hvs i1 i2 km vm sh hva hP
 go_enter Tryz.func14,Tryz.ntmps14
 go_wp2
 go_region
 rw [hmx]
 clear hu
 go_wp2_with (go_at_call 41;refine (cuts_any B P g b n H D G W k j a N ls R M al cl _ vr C T L t q zs col w0 u CU.out BU.out DU.out FU.out GD.out HW.out HBu SH.out ha hj).mono ?_;rintro e w2 ⟨rfl,hp⟩;have HP2:=Ca.hid hp;clear hp)
 go_ret
 exact ⟨rfl,k,HP2.out⟩
end Cc
end Go.Proofs.YtnchnlgnnlgjcaaGreat
namespace Go.Proofs.YtnchnlgnnlgjcaaGreat
open Go.RowKit
namespace Cc
set_option maxRecDepth 100000 in
set_option maxHeartbeats 6400000 in
theorem step_full {X:Nat->Option Obj} (B P n H D G W k j:Nat) (cx ly N:Int) (ls:List (Int × Int)) (p1 p2:Option Addr) (d1 d2:Nat) (ks vs:List (List Int)) (w0 w:World) (h:PlP X B w0 w P n H D G W ls k j) (sh:ShOk H D G W ls) (hj:j<=80)
 (hks:SlQ (fun x=>x<B) 1 eRow w p1 ks) (hvs:SlQ (fun x=>x<B) 1 eRow w p2 vs) (i1:∀ k,Ls.In32 (Ca.nt ks k)) (i2:∀ k,Ls.In32 (Ca.nt vs k)) (kl:ks.length<=10) (vl:vs.length<=10) (km:∀ k,(Ca.nt ks k).length<=35184372087808) (vm:∀ k,(Ca.nt vs k).length<=35184372087808) (hk:5<=k) :
 Calls Tryz.prog 14 #[.pointer (some ⟨P,0,none⟩),.agg #[.int .i64 4,.int .i64 cx,.int .i64 ly,.int .i64 N,.slice p1 ks.length d1,.slice p2 vs.length d2]] w fun e w'=>e=.returned (.bool true)/\∃ k',PlP X B w0 w' P n H D G W ls k' (j+1):=by
 have h0:=Ca.hid h
 obtain ⟨g,b,R,M,al,cl,va,vr,C,T,L,t,q,zs,col,hC,hB,hD,hF,hG,hw,hBs⟩:=h
 have hk0:0<k:=hG.2.2.2.2.2.1
 have hk5:k<=5:=hG.2.2.2.2.2.2
 obtain ⟨a,hmx⟩:∃ a:Nat,max cx 0 % (k:Int)=a:=⟨(max cx 0 % (k:Int)).toNat,by have:=Int.emod_nonneg (max cx 0) (show (k:Int) ≠ 0 by omega);omega⟩
 have ha:a<k:=by have:=Int.emod_lt_of_pos (max cx 0) (show (0:Int)<k by omega);omega
 obtain ⟨u,hu⟩:∃ u,(w.alloc (.cells #[.int .i64 4,.int .i64 cx,.int .i64 ly,.int .i64 N,.slice p1 ks.length d1,.slice p2 vs.length d2] 44)).drew=u:=⟨_,rfl⟩
 have UB:Hid (Below w.heap.size w u):=by rw [<-hu];exact (Rt.box_below _ _).drew
 have UO:Hid (u.heap[w.heap.size]?=some (.cells #[.int .i64 4,.int .i64 cx,.int .i64 ly,.int .i64 N,.slice p1 ks.length d1,.slice p2 vs.length d2] 44)):=by rw [<-hu];exact heap_alloc_new w _
 have CU:=Ca.hid (hC.keep UB.out)
 have BU:=Ca.hid (hB.keep UB.out)
 have DU:=Ca.hid (hD.keep UB.out)
 have FU:=Ca.hid (hF.keep UB.out.size)
 have GD:=Ca.hid hG
 have HW:=Ca.hid (hw.trans (UB.out.mono hBs))
 have HBu:B<=u.heap.size:=by have:=UB.out.size;omega
 have KS:Hid (SlQ (fun x=>x<B) 1 eRow u p1 ks):=hks.carry carry_row (fun x _ hx=>⟨hx,UB.out.block x (by omega)⟩) UB.out.size
 have VS:Hid (SlQ (fun x=>x<B) 1 eRow u p2 vs):=hvs.carry carry_row (fun x _ hx=>⟨hx,UB.out.block x (by omega)⟩) UB.out.size
 have I1:=Ca.hid i1
 have I2:=Ca.hid i2
 have KM:=Ca.hid km
 have VM:=Ca.hid vm
 have SH:=Ca.hid sh
 obtain ⟨⟨hP,-⟩,⟨hva,-⟩,-⟩:=hB
 obtain ⟨ga,ca,Fa,e,-⟩:=row_of_own hva hk0
 subst e
 have p6:w.cell? ⟨P,6,none⟩=some (.slice (some ⟨ga,0,none⟩) k ca):=hP.cell (show 6<8 by decide)
 have plt:P<w.heap.size:=hP.lt
 have t0:u.cell? ⟨w.heap.size,0,none⟩=some (.int .i64 4):=cell_of_row _ _ _ _ _ _ UO.out
 have t2:u.cell? ⟨w.heap.size,2,none⟩=some (.int .i64 ly):=cell_of_row _ _ _ _ _ _ UO.out
 have t3:u.cell? ⟨w.heap.size,3,none⟩=some (.int .i64 N):=cell_of_row _ _ _ _ _ _ UO.out
 have t1:u.cell? ⟨w.heap.size,1,none⟩=some (.int .i64 cx):=cell_of_row _ _ _ _ _ _ UO.out
 have t4:u.cell? ⟨w.heap.size,4,none⟩=some (.slice p1 ks.length d1):=cell_of_row _ _ _ _ _ _ UO.out
 have t5:u.cell? ⟨w.heap.size,5,none⟩=some (.slice p2 vs.length d2):=cell_of_row _ _ _ _ _ _ UO.out
 have p6u:u.cell? ⟨P,6,none⟩=some (.slice (some ⟨ga,0,none⟩) k ca):=(UB.out.cell (p:=⟨P,6,none⟩) plt).trans p6
 have hkz:((k:Int) == 0)=false:=by simp;omega
 have hkn:¬ (k:Int)=0:=by omega
 clear hC hD hF hG hw hks hvs i1 i2 km vm sh hva hP
 have hk5':(5:Int)<=(k:Int):=by omega
 go_enter Tryz.func14,Tryz.ntmps14
 go_wp2
 go_region
 rw [hmx]
 clear hu
 go_wp2
 go_ret
 exact ⟨rfl,k,(h0.out.keep UB.out).more⟩
end Cc
end Go.Proofs.YtnchnlgnnlgjcaaGreat
namespace Go.Proofs.YtnchnlgnnlgjcaaGreat
open Go.RowKit
namespace Cc
theorem fork_open_c (C g H D G W:Nat) (ls:List (Int × Int)) (t k:Nat) (w:World) (h:Bd w C g H D G W ls t k) (hk:k<ls.length) (hl:ls.length<=4) (hk0:¬ k=0) :
 Calls Tryz.prog 42 #[.pointer (some ⟨C,0,none⟩)] w fun e w'=>e=.returned (.tuple #[.pointer none,.int .i64 24])/\Below w.heap.size w w':=by
 have OP:=Ca.hid (open_c C g H D G W ls t k true w h hk hl (decide_eq_true hk0))
 clear h
 go_enter Tryz.func42,Tryz.ntmps42
 go_wp2_with (go_at_call 73;refine OP.out.mono ?_;rintro e w1 ⟨rfl,hb⟩;have B1:=Ca.hid hb;clear hb)
 go_ret2
 exact ⟨rfl,B1.out⟩
end Cc
end Go.Proofs.YtnchnlgnnlgjcaaGreat
namespace Go.Proofs.YtnchnlgnnlgjcaaGreat
open Go.RowKit
namespace Cc
set_option maxRecDepth 100000 in
set_option maxHeartbeats 6400000 in
theorem forks_open {X:Nat->Option Obj} (B P n H D G W k j:Nat) (cx ly N:Int) (ls:List (Int × Int)) (p1 p2:Option Addr) (d1 d2:Nat) (ks vs:List (List Int)) (w0 w:World) (g b:Nat) (R M:List Int) (al:Option Addr) (cl:Nat) (va vr:Value) (C:Nat->Nat) (T:Nat->List (List Tok)) (L:Nat->Nat->List Int) (t q:Nat->Nat) (zs:Nat->Value) (col:Nat->Nat) (hC:Core13 w g b n H D G W ls R M k C T L t q col) (hB:Box13 X B w P g H D G W ls al cl va vr k C zs col) (hD:Doc13 w ls.length k T zs col) (hF:Fresh13 B w col) (hG:Good13 n (ls.length*H) k j R L t) (hw:Below B w0 w) (hBs:B<=w.heap.size) (a:Nat) (hmx:max cx 0 % (k:Int)=a) (hq:¬ q a=0) (sh:ShOk H D G W ls) (hj:j<=80)
 (hks:SlQ (fun x=>x<B) 1 eRow w p1 ks) (hvs:SlQ (fun x=>x<B) 1 eRow w p2 vs) (i1:∀ k,Ls.In32 (Ca.nt ks k)) (i2:∀ k,Ls.In32 (Ca.nt vs k)) (kl:ks.length<=10) (vl:vs.length<=10) (km:∀ k,(Ca.nt ks k).length<=35184372087808) (vm:∀ k,(Ca.nt vs k).length<=35184372087808) (hk:k<5) :
 Calls Tryz.prog 14 #[.pointer (some ⟨P,0,none⟩),.agg #[.int .i64 4,.int .i64 cx,.int .i64 ly,.int .i64 N,.slice p1 ks.length d1,.slice p2 vs.length d2]] w fun e w'=>e=.returned (.bool true)/\∃ k',PlP X B w0 w' P n H D G W ls k' (j+1):=by
 have hk0:0<k:=hG.2.2.2.2.2.1
 have hk5:k<=5:=hG.2.2.2.2.2.2
 have ha:a<k:=by have:=Int.emod_lt_of_pos (max cx 0) (show (0:Int)<k by omega);omega
 obtain ⟨u,hu⟩:∃ u,(w.alloc (.cells #[.int .i64 4,.int .i64 cx,.int .i64 ly,.int .i64 N,.slice p1 ks.length d1,.slice p2 vs.length d2] 44)).drew=u:=⟨_,rfl⟩
 have UB:Hid (Below w.heap.size w u):=by rw [<-hu];exact (Rt.box_below _ _).drew
 have UO:Hid (u.heap[w.heap.size]?=some (.cells #[.int .i64 4,.int .i64 cx,.int .i64 ly,.int .i64 N,.slice p1 ks.length d1,.slice p2 vs.length d2] 44)):=by rw [<-hu];exact heap_alloc_new w _
 have CU:=Ca.hid (hC.keep UB.out)
 have BU:=Ca.hid (hB.keep UB.out)
 have DU:=Ca.hid (hD.keep UB.out)
 have FU:=Ca.hid (hF.keep UB.out.size)
 have GD:=Ca.hid hG
 have HW:=Ca.hid (hw.trans (UB.out.mono hBs))
 have HBu:B<=u.heap.size:=by have:=UB.out.size;omega
 have KS:Hid (SlQ (fun x=>x<B) 1 eRow u p1 ks):=hks.carry carry_row (fun x _ hx=>⟨hx,UB.out.block x (by omega)⟩) UB.out.size
 have VS:Hid (SlQ (fun x=>x<B) 1 eRow u p2 vs):=hvs.carry carry_row (fun x _ hx=>⟨hx,UB.out.block x (by omega)⟩) UB.out.size
 have I1:=Ca.hid i1
 have I2:=Ca.hid i2
 have KM:=Ca.hid km
 have VM:=Ca.hid vm
 have SH:=Ca.hid sh
 have h0:Hid (PlP X B w0 w P n H D G W ls k j):=⟨g,b,R,M,al,cl,va,vr,C,T,L,t,q,zs,col,hC,hB,hD,hF,hG,hw,hBs⟩
 have LY:=Ca.hid (hC.2.2 a ha).2.1
 obtain ⟨⟨hP,-⟩,⟨hva,-⟩,⟨hvr,-⟩,-⟩:=hB
 obtain ⟨gr,cr,Fr',er,-,hrr,hcr,fr⟩:=row_of_own hvr hk0
 subst er
 obtain ⟨az,cz,ez,sz⟩:=hD a ha
 rw [<-LY.out.1] at ez
 have fr':Fr' a=.slice az (T a).length cz:=by have:=fr a ha;simpa [ha,ez] using this
 have SZ:Hid (SlQ (fun x=>col x=0) 1 eToks u az (T a)):=sz.keep carry_toks UB.out
 have c7u:u.cell? ⟨P,7,none⟩=some (.slice (some ⟨gr,0,none⟩) k cr):=(UB.out.cell (p:=⟨P,7,none⟩) hP.lt).trans (hP.cell (show 7<8 by decide))
 have zru:u.cell? ⟨gr,a,none⟩=some (.slice az (T a).length cz):=(UB.out.cell (p:=⟨gr,a,none⟩) hrr.lt).trans (by rw [hrr.cell (by omega),fr'])
 have ka0:(0:Int)<=(a:Int):=by omega
 have ka1:(a:Int)<(k:Int):=by omega
 obtain ⟨sG,sG2,sW,sl,sl2,-⟩:=sh.nums
 clear hvr hrr hcr fr fr' ez sz
 obtain ⟨ga,ca,Fa,e,-,hra,hca,fa⟩:=row_of_own hva hk0
 subst e
 have fa':Fa a=.pointer (some ⟨C a,0,none⟩):=by have:=fa a ha;unfold cptrs at this;simpa [ha] using this
 have zau:u.cell? ⟨ga,a,none⟩=some (.pointer (some ⟨C a,0,none⟩)):=(UB.out.cell (p:=⟨ga,a,none⟩) hra.lt).trans (by rw [hra.cell (by omega),fa'])
 clear hra hca fa fa'
 have p6:w.cell? ⟨P,6,none⟩=some (.slice (some ⟨ga,0,none⟩) k ca):=hP.cell (show 6<8 by decide)
 have plt:P<w.heap.size:=hP.lt
 have t0:u.cell? ⟨w.heap.size,0,none⟩=some (.int .i64 4):=cell_of_row _ _ _ _ _ _ UO.out
 have t2:u.cell? ⟨w.heap.size,2,none⟩=some (.int .i64 ly):=cell_of_row _ _ _ _ _ _ UO.out
 have t3:u.cell? ⟨w.heap.size,3,none⟩=some (.int .i64 N):=cell_of_row _ _ _ _ _ _ UO.out
 have t1:u.cell? ⟨w.heap.size,1,none⟩=some (.int .i64 cx):=cell_of_row _ _ _ _ _ _ UO.out
 have t4:u.cell? ⟨w.heap.size,4,none⟩=some (.slice p1 ks.length d1):=cell_of_row _ _ _ _ _ _ UO.out
 have t5:u.cell? ⟨w.heap.size,5,none⟩=some (.slice p2 vs.length d2):=cell_of_row _ _ _ _ _ _ UO.out
 have p6u:u.cell? ⟨P,6,none⟩=some (.slice (some ⟨ga,0,none⟩) k ca):=(UB.out.cell (p:=⟨P,6,none⟩) plt).trans p6
 have hkz:((k:Int) == 0)=false:=by simp;omega
 have hkn:¬ (k:Int)=0:=by omega
 clear hC hD hF hG hw hks hvs i1 i2 km vm sh hva hP
 have hkl:¬ (5:Int)<=(k:Int):=by omega
 have hqb:(((q a:Nat):Int) != 0)=true:=by simp;omega
 have hqn:¬ ((q a:Nat):Int)=0:=by omega
 have hT0:0<(T a).length:=by rw [LY.out.1];omega
 have hT1:(T a).length<=10:=by rw [LY.out.1];omega
 go_enter Tryz.func14,Tryz.ntmps14
 go_wp2
 go_region
 rw [hmx]
 clear hu
 go_upto_region 13 with (go_at_call 42;refine (fork_open_c (C a) g H D G W ls (t a) (q a) _ (CU.out.2.2 a ha).1.bd LY.out.2.1 sl2 hq).mono ?_;rintro e w2 ⟨rfl,hb⟩;have B2:=Ca.hid hb;clear hb)
 have c72:w2.cell? ⟨P,7,none⟩=some (.slice (some ⟨gr,0,none⟩) k cr):=(B2.out.cell (p:=⟨P,7,none⟩) (World.block_lt_of_cell? u _ c7u)).trans c7u
 have zr2:w2.cell? ⟨gr,a,none⟩=some (.slice az (T a).length cz):=(B2.out.cell (p:=⟨gr,a,none⟩) (World.block_lt_of_cell? u _ zru)).trans zru
 have SZ2:=Ca.hid (SZ.out.keep carry_toks B2.out)
 have U2:Hid (Below w.heap.size w w2):=UB.out.trans (B2.out.mono UB.out.size)
 go_wp2_with (go_at_call 40;refine (next_any (α:=Tok) az cz (T a) _ SZ2.out hT0 hT1).mono ?_;rintro e w' ⟨rfl,hww⟩;cases hww.symm;clear hww;rw [LY.out.nxt])
 go_ret
 exact ⟨rfl,k,(h0.out.keep U2.out).more⟩
end Cc
end Go.Proofs.YtnchnlgnnlgjcaaGreat
namespace Go.Proofs.YtnchnlgnnlgjcaaGreat
open Go.RowKit
namespace Cc
theorem Core13.offs {w w':World} {g b n H D G W k:Nat} {ls:List (Int × Int)} {R M:List Int} {C:Nat->Nat} {T:Nat->List (List Tok)} {L:Nat->Nat->List Int} {t q col:Nat->Nat} (X:Nat->Prop) (h:Core13 w g b n H D G W ls R M k C T L t q col) (hk:k<=5)
 (hX:∀ x,X x->col x=1000/\∃ ty,Ty w x ty/\¬ ty=99/\¬ ty=133/\¬ ty=176) (hs:w.heap.size<=w'.heap.size) (hw:∀ x,x<w.heap.size->¬ X x->w'.heap[x]?=w.heap[x]?):Core13 w' g b n H D G W ls R M k C T L t q col :=
 ⟨h.1.stand fun x hx=>by
  have nz:¬ X x:=fun e=>by
   obtain ⟨-,ty,ht,n1,n2,n3⟩:=hX x e
   rcases hx with e | e | e
   ·exact e.ne ht (fun q=>n1 q.symm) rfl
   ·exact e.ne ht (fun q=>n2 q.symm) rfl
   ·exact e.ne ht (fun q=>n3 q.symm) rfl
  exact hw x (by rcases hx with e | e | e <;> exact e.lt) nz,h.2.1,fun i hi=>⟨(h.2.2 i hi).1.carry (fun x hx e=>⟨rfl,hw x hx fun z=>by have:=(hX x z).1;omega⟩) hs (fun _ _ _ _=>rfl),(h.2.2 i hi).2⟩⟩
def two3 (x y:Nat) (col:Nat->Nat) (q:Nat):Nat:=if q=x\/q=y then 1000 else col q
theorem two3_in {x y q:Nat} {col:Nat->Nat} (h:q=x\/q=y):two3 x y col q=1000:=if_pos h
theorem two3_out {x y q:Nat} {col:Nat->Nat} (h:¬ (q=x\/q=y)):two3 x y col q=col q:=if_neg h
theorem snoc_map {β α:Type} (f:β->α) (zs ys:Nat->β) (k:Nat) (v:α) (h1:∀ i,i<k->f (ys i)=f (zs i)) (h2:f (ys k)=v):((List.range k).map fun i=>f (zs i)) ++ [v]=(List.range (k+1)).map fun i=>f (ys i):=by
 rw [List.range_succ,List.map_append]
 congr 1
 ·exact List.map_congr_left fun i hi=>(h1 i (List.mem_range.1 hi)).symm
 ·simp [h2]
theorem copied_slq {B n:Nat} {Q Q':Nat->Prop} {w:World} {v:Value} {M:List (List Tok)} {xs:List Value} (h:AccQ Q B 1 60 (eFresh B) w v n M xs) (hn:n=M.length) (hB:∀ q,B<=q->Q' q) (hQ:∀ q,Q q->Q' q) :
 ∃ a c,v=.slice a n c/\SlQ Q' 1 eToks w a M:=by
 obtain ⟨o1,e1,e2,h4⟩:=h
 obtain ⟨a,c,e,hs,-⟩:=slq_of_own (E:=eToks) (Q:=Q') (l:=M) o1 hn (fun q hq=>hB q (o1.lt q hq).1) fun i hi c hc=>fresh_toks (carry_fresh B _ _ w w c c _ (fun q _ hq=>⟨hQ q hq.1,rfl⟩) (Nat.le_refl _) (fun _ _ _ h=>h) (h4 i hi c fun j hj=>hc j hj))
 exact ⟨a,c,e,hs⟩
theorem grown_one3 {w W w1:World} {v:Value} {H:Nat} (h:W.grownBy w1 v.ownBlock) (hW:Below w.heap.size w W) (hv:v.ownBlock=some H):(∀ q,q<w.heap.size->¬ q=H->w1.heap[q]?=w.heap[q]?)/\w.heap.size<=w1.heap.size/\∀ B,B<=H->B<=w.heap.size->Below B w w1:=by
 have far:∀ q,q<w.heap.size->¬ q=H->w1.heap[q]?=w.heap[q]?:=fun q hq hn=>by
  rw [h.block q (by have:=hW.size;omega) (fun e=>hn (by rw [hv] at e;cases e;rfl)),hW.block q hq]
 exact ⟨far,Nat.le_trans hW.size h.size,fun B hB hs=>⟨h.os.trans hW.os,h.tape.trans hW.tape,h.output.trans hW.output,Nat.le_trans hW.size h.size,fun q hq=>far q (by omega) (by omega)⟩⟩
theorem infoCaches:(Tryz.prog.info? 55).map (fun i=>(i.zero,i.size,i.bytes))=some (some (.pointer none),1,8):=by kernel_rfl
theorem infoLays:(Tryz.prog.info? 59).map (fun i=>(i.zero,i.size,i.bytes))=some (some (.slice none 0 0),1,24):=by kernel_rfl
theorem fork_mid {X:Nat->Option Obj} {B P n H D G W k j g b cl a C2:Nat} {va vr:Value} {ls:List (Int × Int)} {R M R':List Int} {al:Option Addr} {C:Nat->Nat} {T:Nat->List (List Tok)} {L:Nat->Nat->List Int} {t q:Nat->Nat} {zs:Nat->Value} {col col':Nat->Nat} {w0 u w2:World}
 (hC:Core13 u g b n H D G W ls R M k C T L t q col) (hB:Box13 X B u P g H D G W ls al cl va vr k C zs col) (hD:Doc13 u ls.length k T zs col) (hF:Fresh13 B u col) (hw:Below B w0 u) (hBs:B<=u.heap.size) (ha:a<k) (hk:k<5)
 (hp:PoolAt w2 g b n R' M) (h2:CaAt w2 col' (k+1) g C2 H D G W ls M (L a) (cn ls.length (t a) (q a)) (tkD (T a) H) (qD G W (T a) H)) (hb:ButQ g b (fun _=>False) u w2) (c1:∀ x,x<u.heap.size->col' x=col x) (c2:∀ x,u.heap.size<=x->col' x=0\/col' x=k+1) (c3:∀ x,w2.heap.size<=x->col' x=0) :
 Core13 w2 g b n H D G W ls R' M (k+1) (upd C k C2) (upd T k (T a)) (upd L k (L a)) (upd t k (t a)) (upd q k (q a)) col'/\Box13 X B w2 P g H D G W ls al cl va vr k C zs col'/\Doc13 w2 ls.length k (upd T k (T a)) zs col'/\Fresh13 B w2 col'/\Below B w0 w2/\B<=w2.heap.size:=by
 have cg:=hC.2.1.1
 have cb:=hC.2.1.2
 have hch:Chg (k+1) g b u w2 col col':=⟨⟨hb.1,hb.2.1,hb.2.2.1,hb.size,fun x h0 e1 e2 e3=>hb.block h0 e1 e2 id⟩,c1,c2,c3⟩
 have lg:=hC.1.lt.1
 have lb:=hC.1.lt.2
 have D2:=hD.call cg cb hch
 have s2:=hb.size
 refine ⟨⟨hp,⟨(c1 g lg).trans cg,(c1 b lb).trans cb⟩,fun i hi=>?_⟩,hB.call hC.1 cg cb (by omega) hch,fun i hi=>?_,⟨c3,fun x hx=>(c1 x (by omega)).trans (hF.2 x hx)⟩,hw.trans ⟨hb.1,hb.2.1,hb.2.2.1,s2,fun x hx=>hb.block (by omega) (fun e=>by have h1:=hF.2 x hx;rw [e,cg] at h1;exact absurd h1 (by decide)) (fun e=>by have h1:=hF.2 x hx;rw [e,cb] at h1;exact absurd h1 (by decide)) id⟩,by omega⟩
 ·by_cases e:i=k
  ·subst e
   rw [upd_at,upd_at,upd_at,upd_at,upd_at]
   exact ⟨h2,(hC.2.2 a ha).2⟩
  ·rw [upd_off _ _ e,upd_off _ _ e,upd_off _ _ e,upd_off _ _ e,upd_off _ _ e]
   obtain ⟨h1,h3⟩:=hC.2.2 i (by omega)
   exact ⟨h1.other hch (by omega) (by omega) ⟨by omega,by omega⟩ ⟨by omega,by omega⟩ (fun _ _ _ _=>rfl),h3⟩
 ·rw [upd_off _ _ (by omega)]
  exact D2 i hi
theorem fork_end {X:Nat->Option Obj} {B P n H D G W k j g b cl ga ca gr cr ga' ca' gr' cr' lc:Nat} {la:Option Addr} {ls:List (Int × Int)} {R M:List Int} {al:Option Addr} {C C1:Nat->Nat} {T:Nat->List (List Tok)} {L:Nat->Nat->List Int} {t q:Nat->Nat} {zs:Nat->Value} {col:Nat->Nat} {w0 w2 w3 w4 w5:World}
 (hC:Core13 w2 g b n H D G W ls R M (k+1) C T L t q col) (hB:Box13 X B w2 P g H D G W ls al cl (.slice (some ⟨ga,0,none⟩) k ca) (.slice (some ⟨gr,0,none⟩) k cr) k C1 zs col) (e1:∀ i,i<k->C1 i=C i)
 (hD:Doc13 w2 ls.length k T zs col) (hF:Fresh13 B w2 col) (hG:Good13 n (ls.length*H) (k+1) (j+1) R L t) (hw:Below B w0 w2) (hBs:B<=w2.heap.size) (hk:k<5)
 (j3:∀ x,x<w2.heap.size->¬ x=ga->w3.heap[x]?=w2.heap[x]?) (s3:w2.heap.size<=w3.heap.size) (b3:Below B w2 w3)
 (a3:w3.ownsRow B 55 1 (.slice (some ⟨ga',0,none⟩) (k+1) ca') (k+1) (cptrs C1 k ++ [.pointer (some ⟨C k,0,none⟩)])) (t3:ga=ga'\/w2.heap.size<=ga')
 (b4:Below w3.heap.size w3 w4) (l4:SlQ (fun x=>(col x=0/\x<w2.heap.size)\/w3.heap.size<=x) 1 eToks w4 la (T k))
 (j5:∀ x,x<w4.heap.size->¬ x=gr->w5.heap[x]?=w4.heap[x]?) (s5:w4.heap.size<=w5.heap.size) (b5:Below B w4 w5)
 (a5:w5.ownsRow B 59 1 (.slice (some ⟨gr',0,none⟩) (k+1) cr') (k+1) ((List.range k).map zs ++ [.slice la ls.length lc])) (t5:gr=gr'\/w4.heap.size<=gr') :
 PlP X B w0 ((w5.setCell ⟨P,6,none⟩ (.slice (some ⟨ga',0,none⟩) (k+1) ca')).setCell ⟨P,7,none⟩ (.slice (some ⟨gr',0,none⟩) (k+1) cr')) P n H D G W ls (k+1) (j+1):=by
 obtain ⟨⟨hP,cP⟩,⟨hva,cva⟩,⟨hvr,cvr⟩,hps⟩:=hB
 have cga:=cva ga rfl
 have cgr:=cvr gr rfl
 have tP:=ty_row hP
 have tga:=ty_own hva (q:=ga) rfl
 have tgr:=ty_own hvr (q:=gr) rfl
 have n1:¬ P=ga:=tP.ne tga (by decide)
 have n2:¬ P=gr:=tP.ne tgr (by decide)
 have n3:¬ gr=ga:=tgr.ne tga (by decide)
 have s4:=b4.size
 have lP:=tP.lt
 have lga:=tga.lt
 have lgr:=tgr.lt
 have tgr4:Ty w4 gr 59:=(tgr.of_block (j3 gr lgr n3)).of_block (b4.block gr (by omega))
 have tP5:Ty w5 P 50:=((tP.of_block (j3 P lP n1)).of_block (b4.block P (by omega))).of_block (j5 P (by omega) n2)
 have ta3:=ty_own a3 (q:=ga') rfl
 have ta4:Ty w4 ga' 55:=ta3.of_block (b4.block ga' ta3.lt)
 have ta5:Ty w5 ga' 55:=ta4.of_block (j5 ga' ta4.lt (ta4.ne tgr4 (by decide)))
 have tr5:=ty_own a5 (q:=gr') rfl
 obtain ⟨wz,ez⟩:∃ wz,(w5.setCell ⟨P,6,none⟩ (.slice (some ⟨ga',0,none⟩) (k+1) ca')).setCell ⟨P,7,none⟩ (.slice (some ⟨gr',0,none⟩) (k+1) cr')=wz:=⟨_,rfl⟩
 have sz:wz.heap.size=w5.heap.size:=by rw [<-ez];simp
 have fz:∀ x,¬ x=P->wz.heap[x]?=w5.heap[x]?:=fun x hx=>by rw [<-ez,Below.heap_setCell _ _ _ _ (show x ≠ P from hx),Below.heap_setCell _ _ _ _ (show x ≠ P from hx)]
 have far4:∀ x,x<w4.heap.size->¬ x=gr->¬ x=P->wz.heap[x]?=w4.heap[x]?:=fun x hx h1 h2=>(fz x h2).trans (j5 x hx h1)
 have far:∀ x,x<w2.heap.size->¬ (x=ga\/x=gr\/x=P)->wz.heap[x]?=w2.heap[x]?:=fun x hx hn=>by
  rw [far4 x (by omega) (fun e=>hn (.inr (.inl e))) (fun e=>hn (.inr (.inr e))),b4.block x (by omega),j3 x hx (fun e=>hn (.inl e))]
 have hX:∀ x,(x=ga\/x=gr\/x=P)->col x=1000:=fun x hx=>by rcases hx with e | e | e <;> rw [e] <;> assumption
 have cc:∀ x,x<w2.heap.size->two3 ga' gr' col x=col x:=fun x hx=>by
  by_cases e:x=ga'\/x=gr'
  ·rw [two3_in e]
   rcases e with e | e
   ·rcases t3 with f | f
    ·rw [e,<-f,cga]
    ·omega
   ·rcases t5 with f | f
    ·rw [e,<-f,cgr]
    ·omega
  ·exact two3_out e
 have C5:Core13 wz g b n H D G W ls R M (k+1) C T L t q (two3 ga' gr' col):=(hC.recol cc).offs (fun x=>x=ga\/x=gr\/x=P) (by omega) (fun x hx=>⟨(by rw [cc x (by rcases hx with e | e | e <;> omega)];exact hX x hx),by
  rcases hx with e | e | e <;> rw [e]
  ·exact ⟨_,tga,by decide,by decide,by decide⟩
  ·exact ⟨_,tgr,by decide,by decide,by decide⟩
  ·exact ⟨_,tP,by decide,by decide,by decide⟩⟩) (by omega) far
 have rP:wz.rowIs P 50 8 (plb g H D G W (.slice al ls.length cl) (.slice (some ⟨ga',0,none⟩) (k+1) ca') (.slice (some ⟨gr',0,none⟩) (k+1) cr')):=by
  rw [<-ez]
  have r5:=((hP.of_block (j3 P lP n1)).of_block (b4.block P (by omega))).of_block (j5 P (by omega) n2)
  refine ((r5.set 6 _).set 7 _).congr fun i hi=>?_
  have:i=0\/i=1\/i=2\/i=3\/i=4\/i=5\/i=6\/i=7:=by omega
  rcases this with e | e | e | e | e | e | e | e <;> subst e <;> simp [plb]
 have rA:wz.ownsRow B 55 1 (.slice (some ⟨ga',0,none⟩) (k+1) ca') (k+1) (cptrs C (k+1)):=by
  have e:cptrs C1 k ++ [.pointer (some ⟨C k,0,none⟩)]=cptrs C (k+1):=snoc_map (fun x=>Value.pointer (some ⟨x,0,none⟩)) C1 C k _ (fun i hi=>by rw [e1 i hi]) rfl
  rw [<-e]
  refine Ca.own_at a3 fun x hx=>?_
  cases hx
  rw [fz ga' (ta5.ne tP5 (by decide)),j5 ga' ta4.lt (ta4.ne tgr4 (by decide)),b4.block ga' ta3.lt]
 have rR:wz.ownsRow B 59 1 (.slice (some ⟨gr',0,none⟩) (k+1) cr') (k+1) ((List.range (k+1)).map (upd zs k (.slice la ls.length lc))):=by
  have e:((List.range k).map zs) ++ [.slice la ls.length lc]=(List.range (k+1)).map (upd zs k (.slice la ls.length lc)):=snoc_map (fun x=>x) zs (upd zs k (.slice la ls.length lc)) k _ (fun i hi=>upd_off _ _ (by omega)) (upd_at _ _ _)
  rw [<-e]
  refine Ca.own_at a5 fun x hx=>?_
  cases hx
  exact fz gr' (tr5.ne tP5 (by decide))
 have D5:Doc13 wz ls.length (k+1) T (upd zs k (.slice la ls.length lc)) (two3 ga' gr' col):=fun i hi=>by
  by_cases e:i=k
  ·subst e
   rw [upd_at]
   refine ⟨la,lc,rfl,l4.carry carry_toks (fun x hx hq=>?_) (by omega)⟩
   rcases hq with ⟨h0,h2⟩ | h3
   ·refine ⟨(cc x h2).trans h0,far4 x hx (fun e=>by rw [e,cgr] at h0;omega) (fun e=>by rw [e,cP] at h0;omega)⟩
   ·have l3:=ta3.lt
    have ng:¬ x=gr':=fun e=>by rcases t5 with f | f <;> omega
    refine ⟨?_,far4 x hx (by omega) (by omega)⟩
    show two3 ga' gr' col x=0
    rw [two3_out (by rintro (e | e);omega;exact ng e)]
    exact hF.1 x (by omega)
  ·rw [upd_off _ _ e]
   obtain ⟨a,c,e2,hs⟩:=hD i (by omega)
   exact ⟨a,c,e2,hs.carry carry_toks (fun x hx h0=>⟨(cc x hx).trans h0,far x hx fun e=>by have:=hX x e;omega⟩) (by omega)⟩
 have hPB:B<=P:=by
  rcases Nat.lt_or_ge P B with h | h
  ·have:=hF.2 P h;omega
  ·exact h
 have F5:Fresh13 B wz (two3 ga' gr' col):=by
  have:=(a3.lt ga' rfl).1
  have:=(a5.lt gr' rfl).1
  have:=ta5.lt
  have:=tr5.lt
  exact ⟨fun x hx=>by rw [two3_out (by omega)];exact hF.1 x (by omega),fun x hx=>by rw [two3_out (by omega)];exact hF.2 x hx⟩
 have HW:Below B w0 wz:=by
  rw [<-ez]
  exact ((((hw.trans b3).trans (b4.mono (by omega))).trans b5).setCell (p:=⟨P,6,none⟩) hPB _).setCell (p:=⟨P,7,none⟩) hPB _
 rw [ez]
 exact ⟨g,b,R,M,al,cl,_,_,C,T,L,t,q,_,_,C5,⟨⟨rP,(cc P lP).trans cP⟩,⟨rA,fun x hx=>by cases hx;exact two3_in (.inl rfl)⟩,⟨rR,fun x hx=>by cases hx;exact two3_in (.inr rfl)⟩,hps.carry (fun x hx h0=>⟨cc x hx,far x hx fun e=>by have:=hX x e;omega⟩) (by omega)⟩,D5,F5,hG,HW,by omega⟩
end Cc
end Go.Proofs.YtnchnlgnnlgjcaaGreat
