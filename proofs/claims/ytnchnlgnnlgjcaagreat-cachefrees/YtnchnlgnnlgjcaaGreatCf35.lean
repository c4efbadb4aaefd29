import Derived.Test.YtnchnlgnnlgjcaaGreatCf29
import Derived.Test.YtnchnlgnnlgjcaaGreatCf30
import Derived.Test.YtnchnlgnnlgjcaaGreatCf31
import Derived.Test.YtnchnlgnnlgjcaaGreatCf33
import Derived.Test.YtnchnlgnnlgjcaaGreatCf34
set_option linter.unusedVariables false
set_option linter.unusedSimpArgs false
namespace Go.Proofs.YtnchnlgnnlgjcaaGreat
open Go.RowKit
namespace Cc
theorem puts_any {X:Nat -> Option Obj} (B P g b n H D G W k j a:Nat) (ly:Int) (ls:List (Int × Int)) (R M:List Int) (al:Option Addr) (cl:Nat) (va vr:Value) (C:Nat -> Nat) (T:Nat -> List (List Tok)) (L:Nat -> Nat -> List Int) (t q:Nat -> Nat) (zs:Nat -> Value) (col:Nat -> Nat)
 (x0 x1 x2 x3:Int) (p1 p2:Option Addr) (d1 d2:Nat) (ks vs:List (List Int)) (w0 w:World) (hC:Core13 w g b n H D G W ls R M k C T L t q col) (hB:Box13 X B w P g H D G W ls al cl va vr k C zs col) (hD:Doc13 w ls.length k T zs col) (hF:Fresh13 B w col) (hG:Good13 n (ls.length * H) k j R L t) (hw:Below B w0 w) (hBs:B <= w.heap.size)
 (sh:ShOk H D G W ls) (ha:a < k) (hj:j <= 80) (hks:SlQ (fun x=>x < B) 1 eRow w p1 ks) (hvs:SlQ (fun x=>x < B) 1 eRow w p2 vs) (i1:∀ k,Ls.In32 (Ca.nt ks k)) (i2:∀ k,Ls.In32 (Ca.nt vs k)) (kl:ks.length <= 10) (vl:vs.length <= 10) (km:∀ k,(Ca.nt ks k).length <= 35184372087808) (vm:∀ k,(Ca.nt vs k).length <= 35184372087808) :
 Calls Tryz.prog 39 #[.pointer (some ⟨P,0,none⟩),.int .i64 (a:Int),.int .i64 ly,.agg #[.int .i64 x0,.int .i64 x1,.int .i64 x2,.int .i64 x3,.slice p1 ks.length d1,.slice p2 vs.length d2]] w fun e w'=>e = .returned (.bool true) /\ PlP X B w0 w' P n H D G W ls k (j + 1):=by
 by_cases c1:ly = (q a:Int)
 ·subst c1
  cases f1:Ca.fit H D ks with
  | false=>exact puts_shapeB B P g b n H D G W k j a ls R M al cl va vr C T L t q zs col x0 x1 x2 x3 p1 p2 d1 d2 ks vs w0 w hC hB hD hF hG hw hBs sh ha hj hks hvs i1 i2 kl vl km vm f1
  | true =>
    cases f2:Ca.fit H D vs with
    | false=>exact puts_shapeC B P g b n H D G W k j a ls R M al cl va vr C T L t q zs col x0 x1 x2 x3 p1 p2 d1 d2 ks vs w0 w hC hB hD hF hG hw hBs sh ha hj hks hvs i1 i2 kl vl km vm f1 f2
    | true =>
      by_cases c2:gn G W (t a) < gn G W (t a + 1) /\ Po.cnt R < H
      ·exact puts_full B P g b n H D G W k j a ls R M al cl va vr C T L t q zs col x0 x1 x2 x3 p1 p2 d1 d2 ks vs w0 w hC hB hD hF hG hw hBs sh ha hj hks hvs i1 i2 kl vl km vm f1 f2 c2.1 _ rfl c2.2
      ·exact puts_ok B P g b n H D G W k j a ls R M al cl va vr C T L t q zs col x0 x1 x2 x3 p1 p2 d1 d2 ks vs w0 w hC hB hD hF hG hw hBs sh ha hj hks hvs i1 i2 kl vl km vm f1 f2 _ rfl (fun h=>by omega)
 ·exact puts_open B P g b n H D G W k j a ly ls R M al cl va vr C T L t q zs col x0 x1 x2 x3 p1 p2 d1 d2 ks vs w0 w hC hB hD hF hG hw hBs sh ha hj hks hvs i1 i2 kl vl km vm c1
theorem cuts_any {X:Nat -> Option Obj} (B P g b n H D G W k j a:Nat) (N:Int) (ls:List (Int × Int)) (R M:List Int) (al:Option Addr) (cl:Nat) (va vr:Value) (C:Nat -> Nat) (T:Nat -> List (List Tok)) (L:Nat -> Nat -> List Int) (t q:Nat -> Nat) (zs:Nat -> Value) (col:Nat -> Nat)
 (w0 w:World) (hC:Core13 w g b n H D G W ls R M k C T L t q col) (hB:Box13 X B w P g H D G W ls al cl va vr k C zs col) (hD:Doc13 w ls.length k T zs col) (hF:Fresh13 B w col) (hG:Good13 n (ls.length * H) k j R L t) (hw:Below B w0 w) (hBs:B <= w.heap.size)
 (sh:ShOk H D G W ls) (ha:a < k) (hj:j <= 80) :
 Calls Tryz.prog 41 #[.pointer (some ⟨P,0,none⟩),.int .i64 (a:Int),.int .i64 N] w fun e w'=>e = .returned (.bool true) /\ PlP X B w0 w' P n H D G W ls k (j + 1):=by
 have st:PlP X B w0 w P n H D G W ls k j:=⟨g,b,R,M,al,cl,va,vr,C,T,L,t,q,zs,col,hC,hB,hD,hF,hG,hw,hBs⟩
 by_cases c0:q a = 0
 ·by_cases c1:N < 0 \/ (t a:Int) < N \/ ¬ gn G W N.toNat = gn G W (t a)
  ·exact (cuts_range B P g b n H D G W k j a N ls R M al cl va vr C T L t q zs col w hC hB hD hG sh ha hj c0 c1).mono fun _ _ h=>⟨h.1,(st.keep h.2).more⟩
  ·have n0:0 <= N:=by omega
   obtain ⟨m,rfl⟩:=Int.eq_ofNat_of_zero_le n0
   exact cuts_ok B P g b n H D G W k j a (m:Int) ls R M al cl va vr C T L t q zs col w hC hB hD hG sh ha hj c0 m rfl (by omega) (by
    have h:¬ ¬ gn G W ((m:Int).toNat) = gn G W (t a):=fun h=>c1 (.inr (.inr h))
    have h:=Classical.not_not.1 h
    simpa using h) w0 hF hw hBs
 ·exact (cuts_open B P g b n H D G W k j a N ls R M al cl va vr C T L t q zs col w hC hB hD hG sh ha hj c0).mono fun _ _ h=>⟨h.1,(st.keep h.2).more⟩
end Cc
end Go.Proofs.YtnchnlgnnlgjcaaGreat
namespace Go.Proofs.YtnchnlgnnlgjcaaGreat
open Go.RowKit
namespace Cc
set_option maxRecDepth 100000 in
set_option maxHeartbeats 6400000 in
theorem step_put {X:Nat -> Option Obj} (B P n H D G W k j:Nat) (cx ly N:Int) (ls:List (Int × Int)) (p1 p2:Option Addr) (d1 d2:Nat) (ks vs:List (List Int)) (w0 w:World) (h:PlP X B w0 w P n H D G W ls k j) (sh:ShOk H D G W ls) (hj:j <= 80)
 (hks:SlQ (fun x=>x < B) 1 eRow w p1 ks) (hvs:SlQ (fun x=>x < B) 1 eRow w p2 vs) (i1:∀ k,Ls.In32 (Ca.nt ks k)) (i2:∀ k,Ls.In32 (Ca.nt vs k)) (kl:ks.length <= 10) (vl:vs.length <= 10) (km:∀ k,(Ca.nt ks k).length <= 35184372087808) (vm:∀ k,(Ca.nt vs k).length <= 35184372087808) :
 Calls Tryz.prog 14 #[.pointer (some ⟨P,0,none⟩),.agg #[.int .i64 1,.int .i64 cx,.int .i64 ly,.int .i64 N,.slice p1 ks.length d1,.slice p2 vs.length d2]] w fun e w'=>e = .returned (.bool true) /\ ∃ k',PlP X B w0 w' P n H D G W ls k' (j + 1):=by
 have h0:=Ca.hid h
 obtain ⟨g,b,R,M,al,cl,va,vr,C,T,L,t,q,zs,col,hC,hB,hD,hF,hG,hw,hBs⟩:=h
 have hk0:0 < k:=hG.2.2.2.2.2.1
 have hk5:k <= 5:=hG.2.2.2.2.2.2
 obtain ⟨a,hmx⟩:∃ a:Nat,max cx 0 % (k:Int) = a:=⟨(max cx 0 % (k:Int)).toNat,by have:=Int.emod_nonneg (max cx 0) (show (k:Int) ≠ 0 by omega);omega⟩
 have ha:a < k:=by have:=Int.emod_lt_of_pos (max cx 0) (show (0:Int) < k by omega);omega
 obtain ⟨u,hu⟩:∃ u,(w.alloc (.cells #[.int .i64 1,.int .i64 cx,.int .i64 ly,.int .i64 N,.slice p1 ks.length d1,.slice p2 vs.length d2] 44)).drew = u:=⟨_,rfl⟩
 have UB:Hid (Below w.heap.size w u):=by rw [<- hu];exact (Rt.box_below _ _).drew
 have UO:Hid (u.heap[w.heap.size]? = some (.cells #[.int .i64 1,.int .i64 cx,.int .i64 ly,.int .i64 N,.slice p1 ks.length d1,.slice p2 vs.length d2] 44)):=by rw [<- hu];exact heap_alloc_new w _
 have CU:=Ca.hid (hC.keep UB.out)
 have BU:=Ca.hid (hB.keep UB.out)
 have DU:=Ca.hid (hD.keep UB.out)
 have FU:=Ca.hid (hF.keep UB.out.size)
 have GD:=Ca.hid hG
 have HW:=Ca.hid (hw.trans (UB.out.mono hBs))
 have HBu:B <= u.heap.size:=by have:=UB.out.size;omega
 have KS:Hid (SlQ (fun x=>x < B) 1 eRow u p1 ks):=hks.carry carry_row (fun x _ hx=>⟨hx,UB.out.block x (by omega)⟩) UB.out.size
 have VS:Hid (SlQ (fun x=>x < B) 1 eRow u p2 vs):=hvs.carry carry_row (fun x _ hx=>⟨hx,UB.out.block x (by omega)⟩) UB.out.size
 have I1:=Ca.hid i1
 have I2:=Ca.hid i2
 have KM:=Ca.hid km
 have VM:=Ca.hid vm
 have SH:=Ca.hid sh
 obtain ⟨⟨hP,-⟩,⟨hva,-⟩,-⟩:=hB
 obtain ⟨ga,ca,Fa,e,-⟩:=row_of_own hva hk0
 subst e
 have p6:w.cell? ⟨P,6,none⟩ = some (.slice (some ⟨ga,0,none⟩) k ca):=hP.cell (show 6 < 8 by decide)
 have plt:P < w.heap.size:=hP.lt
 have t0:u.cell? ⟨w.heap.size,0,none⟩ = some (.int .i64 1):=cell_of_row _ _ _ _ _ _ UO.out
 have t2:u.cell? ⟨w.heap.size,2,none⟩ = some (.int .i64 ly):=cell_of_row _ _ _ _ _ _ UO.out
 have t3:u.cell? ⟨w.heap.size,3,none⟩ = some (.int .i64 N):=cell_of_row _ _ _ _ _ _ UO.out
 have t1:u.cell? ⟨w.heap.size,1,none⟩ = some (.int .i64 cx):=cell_of_row _ _ _ _ _ _ UO.out
 have t4:u.cell? ⟨w.heap.size,4,none⟩ = some (.slice p1 ks.length d1):=cell_of_row _ _ _ _ _ _ UO.out
 have t5:u.cell? ⟨w.heap.size,5,none⟩ = some (.slice p2 vs.length d2):=cell_of_row _ _ _ _ _ _ UO.out
 have p6u:u.cell? ⟨P,6,none⟩ = some (.slice (some ⟨ga,0,none⟩) k ca):=(UB.out.cell (p:=⟨P,6,none⟩) plt).trans p6
 have hkz:((k:Int) == 0) = false:=by simp;omega
 have hkn:¬ (k:Int) = 0:=by omega
 clear hC hD hF hG hw hks hvs i1 i2 km vm sh hva hP
 go_enter Tryz.func14,Tryz.ntmps14
 go_wp2
 go_region
 rw [hmx]
 clear hu
 go_wp2_with (go_at_call 39;refine (puts_any B P g b n H D G W k j a ly ls R M al cl _ vr C T L t q zs col 1 cx ly N p1 p2 d1 d2 ks vs w0 u CU.out BU.out DU.out FU.out GD.out HW.out HBu SH.out ha hj KS.out VS.out I1.out I2.out kl vl KM.out VM.out).mono ?_;rintro e w2 ⟨rfl,hp⟩;have HP2:=Ca.hid hp;clear hp)
 go_ret
 exact ⟨rfl,k,HP2.out⟩
end Cc
end Go.Proofs.YtnchnlgnnlgjcaaGreat
namespace Go.Proofs.YtnchnlgnnlgjcaaGreat
open Go.RowKit
namespace Cc
set_option maxRecDepth 100000 in
set_option maxHeartbeats 6400000 in
theorem step_next {X:Nat -> Option Obj} (B P n H D G W k j:Nat) (cx ly N:Int) (ls:List (Int × Int)) (p1 p2:Option Addr) (d1 d2:Nat) (ks vs:List (List Int)) (w0 w:World) (h:PlP X B w0 w P n H D G W ls k j) (sh:ShOk H D G W ls) (hj:j <= 80)
 (hks:SlQ (fun x=>x < B) 1 eRow w p1 ks) (hvs:SlQ (fun x=>x < B) 1 eRow w p2 vs) (i1:∀ k,Ls.In32 (Ca.nt ks k)) (i2:∀ k,Ls.In32 (Ca.nt vs k)) (kl:ks.length <= 10) (vl:vs.length <= 10) (km:∀ k,(Ca.nt ks k).length <= 35184372087808) (vm:∀ k,(Ca.nt vs k).length <= 35184372087808) :
 Calls Tryz.prog 14 #[.pointer (some ⟨P,0,none⟩),.agg #[.int .i64 2,.int .i64 cx,.int .i64 ly,.int .i64 N,.slice p1 ks.length d1,.slice p2 vs.length d2]] w fun e w'=>e = .returned (.bool true) /\ ∃ k',PlP X B w0 w' P n H D G W ls k' (j + 1):=by
 have h0:=Ca.hid h
 obtain ⟨g,b,R,M,al,cl,va,vr,C,T,L,t,q,zs,col,hC,hB,hD,hF,hG,hw,hBs⟩:=h
 have hk0:0 < k:=hG.2.2.2.2.2.1
 have hk5:k <= 5:=hG.2.2.2.2.2.2
 obtain ⟨a,hmx⟩:∃ a:Nat,max cx 0 % (k:Int) = a:=⟨(max cx 0 % (k:Int)).toNat,by have:=Int.emod_nonneg (max cx 0) (show (k:Int) ≠ 0 by omega);omega⟩
 have ha:a < k:=by have:=Int.emod_lt_of_pos (max cx 0) (show (0:Int) < k by omega);omega
 obtain ⟨u,hu⟩:∃ u,(w.alloc (.cells #[.int .i64 2,.int .i64 cx,.int .i64 ly,.int .i64 N,.slice p1 ks.length d1,.slice p2 vs.length d2] 44)).drew = u:=⟨_,rfl⟩
 have UB:Hid (Below w.heap.size w u):=by rw [<- hu];exact (Rt.box_below _ _).drew
 have UO:Hid (u.heap[w.heap.size]? = some (.cells #[.int .i64 2,.int .i64 cx,.int .i64 ly,.int .i64 N,.slice p1 ks.length d1,.slice p2 vs.length d2] 44)):=by rw [<- hu];exact heap_alloc_new w _
 have CU:=Ca.hid (hC.keep UB.out)
 have BU:=Ca.hid (hB.keep UB.out)
 have DU:=Ca.hid (hD.keep UB.out)
 have FU:=Ca.hid (hF.keep UB.out.size)
 have GD:=Ca.hid hG
 have HW:=Ca.hid (hw.trans (UB.out.mono hBs))
 have HBu:B <= u.heap.size:=by have:=UB.out.size;omega
 have KS:Hid (SlQ (fun x=>x < B) 1 eRow u p1 ks):=hks.carry carry_row (fun x _ hx=>⟨hx,UB.out.block x (by omega)⟩) UB.out.size
 have VS:Hid (SlQ (fun x=>x < B) 1 eRow u p2 vs):=hvs.carry carry_row (fun x _ hx=>⟨hx,UB.out.block x (by omega)⟩) UB.out.size
 have I1:=Ca.hid i1
 have I2:=Ca.hid i2
 have KM:=Ca.hid km
 have VM:=Ca.hid vm
 have SH:=Ca.hid sh
 have LY:=Ca.hid (hC.2.2 a ha).2.1
 obtain ⟨⟨hP,-⟩,⟨hva,-⟩,⟨hvr,-⟩,-⟩:=hB
 obtain ⟨gr,cr,Fr',er,-,hrr,hcr,fr⟩:=row_of_own hvr hk0
 subst er
 obtain ⟨az,cz,ez,sz⟩:=hD a ha
 rw [<- LY.out.1] at ez
 have fr':Fr' a = .slice az (T a).length cz:=by have:=fr a ha;simpa [ha,ez] using this
 have SZ:Hid (SlQ (fun x=>col x = 0) 1 eToks u az (T a)):=sz.keep carry_toks UB.out
 have c7u:u.cell? ⟨P,7,none⟩ = some (.slice (some ⟨gr,0,none⟩) k cr):=(UB.out.cell (p:=⟨P,7,none⟩) hP.lt).trans (hP.cell (show 7 < 8 by decide))
 have zru:u.cell? ⟨gr,a,none⟩ = some (.slice az (T a).length cz):=(UB.out.cell (p:=⟨gr,a,none⟩) hrr.lt).trans (by rw [hrr.cell (by omega),fr'])
 have ka0:(0:Int) <= (a:Int):=by omega
 have ka1:(a:Int) < (k:Int):=by omega
 obtain ⟨sG,sG2,sW,sl,sl2,-⟩:=sh.nums
 clear hvr hrr hcr fr fr' ez sz
 obtain ⟨ga,ca,Fa,e,-⟩:=row_of_own hva hk0
 subst e
 have p6:w.cell? ⟨P,6,none⟩ = some (.slice (some ⟨ga,0,none⟩) k ca):=hP.cell (show 6 < 8 by decide)
 have plt:P < w.heap.size:=hP.lt
 have t0:u.cell? ⟨w.heap.size,0,none⟩ = some (.int .i64 2):=cell_of_row _ _ _ _ _ _ UO.out
 have t2:u.cell? ⟨w.heap.size,2,none⟩ = some (.int .i64 ly):=cell_of_row _ _ _ _ _ _ UO.out
 have t3:u.cell? ⟨w.heap.size,3,none⟩ = some (.int .i64 N):=cell_of_row _ _ _ _ _ _ UO.out
 have t1:u.cell? ⟨w.heap.size,1,none⟩ = some (.int .i64 cx):=cell_of_row _ _ _ _ _ _ UO.out
 have t4:u.cell? ⟨w.heap.size,4,none⟩ = some (.slice p1 ks.length d1):=cell_of_row _ _ _ _ _ _ UO.out
 have t5:u.cell? ⟨w.heap.size,5,none⟩ = some (.slice p2 vs.length d2):=cell_of_row _ _ _ _ _ _ UO.out
 have p6u:u.cell? ⟨P,6,none⟩ = some (.slice (some ⟨ga,0,none⟩) k ca):=(UB.out.cell (p:=⟨P,6,none⟩) plt).trans p6
 have KQ:Hid (∀ v,Below u.heap.size u v -> (v.cell? ⟨P,7,none⟩ = some (.slice (some ⟨gr,0,none⟩) k cr) /\ v.cell? ⟨gr,a,none⟩ = some (.slice az (T a).length cz)) /\ (v.cell? ⟨w.heap.size,0,none⟩ = some (.int .i64 2) /\ v.cell? ⟨w.heap.size,1,none⟩ = some (.int .i64 cx) /\ v.cell? ⟨w.heap.size,2,none⟩ = some (.int .i64 ly) /\ v.cell? ⟨w.heap.size,3,none⟩ = some (.int .i64 N) /\ v.cell? ⟨w.heap.size,4,none⟩ = some (.slice p1 ks.length d1) /\ v.cell? ⟨w.heap.size,5,none⟩ = some (.slice p2 vs.length d2))):=fun v hv=>by
  have mv:∀ x o y,u.cell? ⟨x,o,none⟩ = some y -> v.cell? ⟨x,o,none⟩ = some y:=fun x o y h1=>(hv.cell (p:=⟨x,o,none⟩) (World.block_lt_of_cell? u _ h1)).trans h1
  exact ⟨⟨mv _ _ _ c7u,mv _ _ _ zru⟩,mv _ _ _ t0,mv _ _ _ t1,mv _ _ _ t2,mv _ _ _ t3,mv _ _ _ t4,mv _ _ _ t5⟩
 have hkz:((k:Int) == 0) = false:=by simp;omega
 have hkn:¬ (k:Int) = 0:=by omega
 clear hC hD hF hG hw hks hvs i1 i2 km vm sh hva hP
 go_enter Tryz.func14,Tryz.ntmps14
 go_wp2
 go_region
 rw [hmx]
 clear hu
 go_upto_region 6 with fail
 have YD:Hid (Below u.heap.size u u.drew):=(Below.refl _ _).drew
 have SZD:Hid (SlQ (fun x=>col x = 0) 1 eToks u.drew az (T a)):=SZ.out.keep carry_toks YD.out
 have hT0:0 < (T a).length:=by rw [LY.out.1];omega
 have hT1:(T a).length <= 10:=by rw [LY.out.1];omega
 have CD:=Ca.hid (CU.out.keep YD.out)
 have BD:=Ca.hid (BU.out.keep YD.out)
 have DD:=Ca.hid (DU.out.keep YD.out)
 have FD:=Ca.hid (FU.out.keep YD.out.size)
 have WD:=Ca.hid (HW.out.trans (YD.out.mono HBu))
 have SD:B <= u.drew.heap.size:=by have:=YD.out.size;omega
 have KD:Hid (SlQ (fun x=>x < B) 1 eRow u.drew p1 ks):=KS.out.carry carry_row (fun x hx0 hx=>⟨hx,YD.out.block x hx0⟩) YD.out.size
 have VD:Hid (SlQ (fun x=>x < B) 1 eRow u.drew p2 vs):=VS.out.carry carry_row (fun x hx0 hx=>⟨hx,YD.out.block x hx0⟩) YD.out.size
 go_region_with
  (first
    | (go_at_call 40;refine (next_any (α:=Tok) az cz (T a) u.drew SZD.out hT0 hT1).mono ?_;rintro e w' ⟨rfl,hww⟩;cases hww.symm;clear hww;rw [LY.out.nxt])
    | (go_at_call 39;refine (puts_any B P g b n H D G W k j a ((q a:Nat):Int) ls R M al cl _ _ C T L t q zs col 2 cx ly N p1 p2 d1 d2 ks vs w0 u.drew CD.out BD.out DD.out FD.out GD.out WD.out SD SH.out ha hj KD.out VD.out I1.out I2.out kl vl KM.out VM.out).mono ?_;rintro e w2 ⟨rfl,hp⟩;have HP2:=Ca.hid hp;clear hp))
 all_goals go_wp2_with fail
 all_goals go_ret
 all_goals exact ⟨rfl,k,HP2.out⟩
end Cc
end Go.Proofs.YtnchnlgnnlgjcaaGreat
namespace Go.Proofs.YtnchnlgnnlgjcaaGreat
open Go.RowKit
namespace Cc
set_option maxRecDepth 100000 in
set_option maxHeartbeats 6400000 in
theorem step_cut {X:Nat -> Option Obj} (B P n H D G W k j:Nat) (cx ly N:Int) (ls:List (Int × Int)) (p1 p2:Option Addr) (d1 d2:Nat) (ks vs:List (List Int)) (w0 w:World) (h:PlP X B w0 w P n H D G W ls k j) (sh:ShOk H D G W ls) (hj:j <= 80)
 (hks:SlQ (fun x=>x < B) 1 eRow w p1 ks) (hvs:SlQ (fun x=>x < B) 1 eRow w p2 vs) (i1:∀ k,Ls.In32 (Ca.nt ks k)) (i2:∀ k,Ls.In32 (Ca.nt vs k)) (kl:ks.length <= 10) (vl:vs.length <= 10) (km:∀ k,(Ca.nt ks k).length <= 35184372087808) (vm:∀ k,(Ca.nt vs k).length <= 35184372087808) :
 Calls Tryz.prog 14 #[.pointer (some ⟨P,0,none⟩),.agg #[.int .i64 3,.int .i64 cx,.int .i64 ly,.int .i64 N,.slice p1 ks.length d1,.slice p2 vs.length d2]] w fun e w'=>e = .returned (.bool true) /\ ∃ k',PlP X B w0 w' P n H D G W ls k' (j + 1):=by
 have h0:=Ca.hid h
 obtain ⟨g,b,R,M,al,cl,va,vr,C,T,L,t,q,zs,col,hC,hB,hD,hF,hG,hw,hBs⟩:=h
 have hk0:0 < k:=hG.2.2.2.2.2.1
 have hk5:k <= 5:=hG.2.2.2.2.2.2
 obtain ⟨a,hmx⟩:∃ a:Nat,max cx 0 % (k:Int) = a:=⟨(max cx 0 % (k:Int)).toNat,by have:=Int.emod_nonneg (max cx 0) (show (k:Int) ≠ 0 by omega);omega⟩
 have ha:a < k:=by have:=Int.emod_lt_of_pos (max cx 0) (show (0:Int) < k by omega);omega
 obtain ⟨u,hu⟩:∃ u,(w.alloc (.cells #[.int .i64 3,.int .i64 cx,.int .i64 ly,.int .i64 N,.slice p1 ks.length d1,.slice p2 vs.length d2] 44)).drew = u:=⟨_,rfl⟩
 have UB:Hid (Below w.heap.size w u):=by rw [<- hu];exact (Rt.box_below _ _).drew
 have UO:Hid (u.heap[w.heap.size]? = some (.cells #[.int .i64 3,.int .i64 cx,.int .i64 ly,.int .i64 N,.slice p1 ks.length d1,.slice p2 vs.length d2] 44)):=by rw [<- hu];exact heap_alloc_new w _
 have CU:=Ca.hid (hC.keep UB.out)
 have BU:=Ca.hid (hB.keep UB.out)
 have DU:=Ca.hid (hD.keep UB.out)
 have FU:=Ca.hid (hF.keep UB.out.size)
 have GD:=Ca.hid hG
 have HW:=Ca.hid (hw.trans (UB.out.mono hBs))
 have HBu:B <= u.heap.size:=by have:=UB.out.size;omega
 have KS:Hid (SlQ (fun x=>x < B) 1 eRow u p1 ks):=hks.carry carry_row (fun x _ hx=>⟨hx,UB.out.block x (by omega)⟩) UB.out.size
 have VS:Hid (SlQ (fun x=>x < B) 1 eRow u p2 vs):=hvs.carry carry_row (fun x _ hx=>⟨hx,UB.out.block x (by omega)⟩) UB.out.size
 have I1:=Ca.hid i1
 have I2:=Ca.hid i2
 have KM:=Ca.hid km
 have VM:=Ca.hid vm
 have SH:=Ca.hid sh
 obtain ⟨⟨hP,-⟩,⟨hva,-⟩,-⟩:=hB
 obtain ⟨ga,ca,Fa,e,-⟩:=row_of_own hva hk0
 subst e
 have p6:w.cell? ⟨P,6,none⟩ = some (.slice (some ⟨ga,0,none⟩) k ca):=hP.cell (show 6 < 8 by decide)
 have plt:P < w.heap.size:=hP.lt
 have t0:u.cell? ⟨w.heap.size,0,none⟩ = some (.int .i64 3):=cell_of_row _ _ _ _ _ _ UO.out
 have t2:u.cell? ⟨w.heap.size,2,none⟩ = some (.int .i64 ly):=cell_of_row _ _ _ _ _ _ UO.out
 have t3:u.cell? ⟨w.heap.size,3,none⟩ = some (.int .i64 N):=cell_of_row _ _ _ _ _ _ UO.out
 have t1:u.cell? ⟨w.heap.size,1,none⟩ = some (.int .i64 cx):=cell_of_row _ _ _ _ _ _ UO.out
 have t4:u.cell? ⟨w.heap.size,4,none⟩ = some (.slice p1 ks.length d1):=cell_of_row _ _ _ _ _ _ UO.out
 have t5:u.cell? ⟨w.heap.size,5,none⟩ = some (.slice p2 vs.length d2):=cell_of_row _ _ _ _ _ _ UO.out
 have p6u:u.cell? ⟨P,6,none⟩ = some (.slice (some ⟨ga,0,none⟩) k ca):=(UB.out.cell (p:=⟨P,6,none⟩) plt).trans p6
 have hkz:((k:Int) == 0) = false:=by simp;omega
 have hkn:¬ (k:Int) = 0:=by omega
 clear hC hD hF hG hw hks hvs i1 i2 km vm sh hva hP
 go_enter Tryz.func14,Tryz.ntmps14
 go_wp2
 go_region
 rw [hmx]
 clear hu
 go_wp2_with (go_at_call 41;refine (cuts_any B P g b n H D G W k j a N ls R M al cl _ vr C T L t q zs col w0 u CU.out BU.out DU.out FU.out GD.out HW.out HBu SH.out ha hj).mono ?_;rintro e w2 ⟨rfl,hp⟩;have HP2:=Ca.hid hp;clear hp)
 go_ret
 exact ⟨rfl,k,HP2.out⟩
end Cc
end Go.Proofs.YtnchnlgnnlgjcaaGreat
namespace Go.Proofs.YtnchnlgnnlgjcaaGreat
open Go.RowKit
namespace Cc
set_option maxRecDepth 100000 in
set_option maxHeartbeats 6400000 in
theorem step_full {X:Nat -> Option Obj} (B P n H D G W k j:Nat) (cx ly N:Int) (ls:List (Int × Int)) (p1 p2:Option Addr) (d1 d2:Nat) (ks vs:List (List Int)) (w0 w:World) (h:PlP X B w0 w P n H D G W ls k j) (sh:ShOk H D G W ls) (hj:j <= 80)
 (hks:SlQ (fun x=>x < B) 1 eRow w p1 ks) (hvs:SlQ (fun x=>x < B) 1 eRow w p2 vs) (i1:∀ k,Ls.In32 (Ca.nt ks k)) (i2:∀ k,Ls.In32 (Ca.nt vs k)) (kl:ks.length <= 10) (vl:vs.length <= 10) (km:∀ k,(Ca.nt ks k).length <= 35184372087808) (vm:∀ k,(Ca.nt vs k).length <= 35184372087808) (hk:5 <= k) :
 Calls Tryz.prog 14 #[.pointer (some ⟨P,0,none⟩),.agg #[.int .i64 4,.int .i64 cx,.int .i64 ly,.int .i64 N,.slice p1 ks.length d1,.slice p2 vs.length d2]] w fun e w'=>e = .returned (.bool true) /\ ∃ k',PlP X B w0 w' P n H D G W ls k' (j + 1):=by
 have h0:=Ca.hid h
 obtain ⟨g,b,R,M,al,cl,va,vr,C,T,L,t,q,zs,col,hC,hB,hD,hF,hG,hw,hBs⟩:=h
 have hk0:0 < k:=hG.2.2.2.2.2.1
 have hk5:k <= 5:=hG.2.2.2.2.2.2
 obtain ⟨a,hmx⟩:∃ a:Nat,max cx 0 % (k:Int) = a:=⟨(max cx 0 % (k:Int)).toNat,by have:=Int.emod_nonneg (max cx 0) (show (k:Int) ≠ 0 by omega);omega⟩
 have ha:a < k:=by have:=Int.emod_lt_of_pos (max cx 0) (show (0:Int) < k by omega);omega
 obtain ⟨u,hu⟩:∃ u,(w.alloc (.cells #[.int .i64 4,.int .i64 cx,.int .i64 ly,.int .i64 N,.slice p1 ks.length d1,.slice p2 vs.length d2] 44)).drew = u:=⟨_,rfl⟩
 have UB:Hid (Below w.heap.size w u):=by rw [<- hu];exact (Rt.box_below _ _).drew
 have UO:Hid (u.heap[w.heap.size]? = some (.cells #[.int .i64 4,.int .i64 cx,.int .i64 ly,.int .i64 N,.slice p1 ks.length d1,.slice p2 vs.length d2] 44)):=by rw [<- hu];exact heap_alloc_new w _
 have CU:=Ca.hid (hC.keep UB.out)
 have BU:=Ca.hid (hB.keep UB.out)
 have DU:=Ca.hid (hD.keep UB.out)
 have FU:=Ca.hid (hF.keep UB.out.size)
 have GD:=Ca.hid hG
 have HW:=Ca.hid (hw.trans (UB.out.mono hBs))
 have HBu:B <= u.heap.size:=by have:=UB.out.size;omega
 have KS:Hid (SlQ (fun x=>x < B) 1 eRow u p1 ks):=hks.carry carry_row (fun x _ hx=>⟨hx,UB.out.block x (by omega)⟩) UB.out.size
 have VS:Hid (SlQ (fun x=>x < B) 1 eRow u p2 vs):=hvs.carry carry_row (fun x _ hx=>⟨hx,UB.out.block x (by omega)⟩) UB.out.size
 have I1:=Ca.hid i1
 have I2:=Ca.hid i2
 have KM:=Ca.hid km
 have VM:=Ca.hid vm
 have SH:=Ca.hid sh
 obtain ⟨⟨hP,-⟩,⟨hva,-⟩,-⟩:=hB
 obtain ⟨ga,ca,Fa,e,-⟩:=row_of_own hva hk0
 subst e
 have p6:w.cell? ⟨P,6,none⟩ = some (.slice (some ⟨ga,0,none⟩) k ca):=hP.cell (show 6 < 8 by decide)
 have plt:P < w.heap.size:=hP.lt
 have t0:u.cell? ⟨w.heap.size,0,none⟩ = some (.int .i64 4):=cell_of_row _ _ _ _ _ _ UO.out
 have t2:u.cell? ⟨w.heap.size,2,none⟩ = some (.int .i64 ly):=cell_of_row _ _ _ _ _ _ UO.out
 have t3:u.cell? ⟨w.heap.size,3,none⟩ = some (.int .i64 N):=cell_of_row _ _ _ _ _ _ UO.out
 have t1:u.cell? ⟨w.heap.size,1,none⟩ = some (.int .i64 cx):=cell_of_row _ _ _ _ _ _ UO.out
 have t4:u.cell? ⟨w.heap.size,4,none⟩ = some (.slice p1 ks.length d1):=cell_of_row _ _ _ _ _ _ UO.out
 have t5:u.cell? ⟨w.heap.size,5,none⟩ = some (.slice p2 vs.length d2):=cell_of_row _ _ _ _ _ _ UO.out
 have p6u:u.cell? ⟨P,6,none⟩ = some (.slice (some ⟨ga,0,none⟩) k ca):=(UB.out.cell (p:=⟨P,6,none⟩) plt).trans p6
 have hkz:((k:Int) == 0) = false:=by simp;omega
 have hkn:¬ (k:Int) = 0:=by omega
 clear hC hD hF hG hw hks hvs i1 i2 km vm sh hva hP
 have hk5':(5:Int) <= (k:Int):=by omega
 go_enter Tryz.func14,Tryz.ntmps14
 go_wp2
 go_region
 rw [hmx]
 clear hu
 go_wp2
 go_ret
 exact ⟨rfl,k,(h0.out.keep UB.out).more⟩
end Cc
end Go.Proofs.YtnchnlgnnlgjcaaGreat
