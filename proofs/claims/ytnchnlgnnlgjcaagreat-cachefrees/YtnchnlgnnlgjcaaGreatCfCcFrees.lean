import Derived.Test.YtnchnlgnnlgjcaaGreatCf38
set_option linter.unusedVariables false
set_option linter.unusedSimpArgs false
namespace Go.Proofs.YtnchnlgnnlgjcaaGreat
open Go.RowKit
namespace Cc
open Rt (box_below)
set_option maxRecDepth 100000 in
set_option maxHeartbeats 6400000 in
theorem frees_any (n H D G W:Int) (al:Option Addr) (cl:Nat) (ls:List (Int × Int)) (ao:Option Addr) (len co:Nat) (K:Nat -> Rec) (w:World) (hO:Ops w.heap.size w ao len K) (hl:len <= maxLen) (hP:PsB w.heap.size w al ls) (hls:ls.length <= maxLen) (hK:∀ i,i < len -> (∀ k,(Ca.nt (K i).2.2.2.2.2.2.1 k).length <= 35184372087808) /\ ∀ k,(Ca.nt (K i).2.2.2.2.2.2.2 k).length <= 35184372087808) :
 Calls Tryz.prog 5 #[.agg #[.int .i64 n,.int .i64 H,.int .i64 D,.int .i64 G,.int .i64 W,.slice al ls.length cl,.slice ao len co]] w fun e w'=>e = .returned (.bool true) /\ Below w.heap.size w w':=by
 have B0:=Ca.hid (box_below w (.cells #[.int .i64 n,.int .i64 H,.int .i64 D,.int .i64 G,.int .i64 W,.slice al ls.length cl,.slice ao len co] 29))
 have HO:=Ca.hid hO
 have HK:=Ca.hid hK
 have HP:=Ca.hid hP
 have s00:(w.alloc (.cells #[.int .i64 n,.int .i64 H,.int .i64 D,.int .i64 G,.int .i64 W,.slice al ls.length cl,.slice ao len co] 29)).heap.size = w.heap.size + 1:=by simp
 obtain ⟨w0,hw0⟩:∃ w0,w.alloc (.cells #[.int .i64 n,.int .i64 H,.int .i64 D,.int .i64 G,.int .i64 W,.slice al ls.length cl,.slice ao len co] 29) = w0:=⟨_,rfl⟩
 rw [hw0] at s00 B0
 have k0:Hid (∀ v,Below (w.heap.size + 1) w0 v -> v.heap[w.heap.size]? = some (.cells #[.int .i64 n,.int .i64 H,.int .i64 D,.int .i64 G,.int .i64 W,.slice al ls.length cl,.slice ao len co] 29)):=fun v hv=>by
  rw [hv.block _ (Nat.lt_succ_self _),<- hw0];exact heap_alloc_new w _
 have z00:=k0.out w0 (Below.refl _ _)
 have x0:w0.cell? ⟨w.heap.size,0,none⟩ = some (.int .i64 n):=cell_of_row _ _ _ _ _ _ z00
 have x1:w0.cell? ⟨w.heap.size,1,none⟩ = some (.int .i64 H):=cell_of_row _ _ _ _ _ _ z00
 have x2:w0.cell? ⟨w.heap.size,2,none⟩ = some (.int .i64 D):=cell_of_row _ _ _ _ _ _ z00
 have x3:w0.cell? ⟨w.heap.size,3,none⟩ = some (.int .i64 G):=cell_of_row _ _ _ _ _ _ z00
 have x4:w0.cell? ⟨w.heap.size,4,none⟩ = some (.int .i64 W):=cell_of_row _ _ _ _ _ _ z00
 have x5:w0.cell? ⟨w.heap.size,5,none⟩ = some (.slice al ls.length cl):=cell_of_row _ _ _ _ _ _ z00
 have x6:w0.cell? ⟨w.heap.size,6,none⟩ = some (.slice ao len co):=cell_of_row _ _ _ _ _ _ z00
 clear z00
 obtain ⟨qs,eqs⟩:∃ qs,smallB K len ls.length n = qs:=⟨_,rfl⟩
 have SM:=Ca.hid (small_any w.heap.size n H D G W al cl ls.length ao len co K qs w0 (HO.out.keep B0.out) B0.out.size hl eqs)
 clear hO hP hK
 cases qs with
 | false =>
   go_enter Tryz.func5,Tryz.ntmps5
   go_wp2_with (first
    | (go_at_call 8;refine SM.out.mono ?_;rintro e w1 ⟨rfl,hb⟩;have B1:=Ca.hid (B0.out.trans (hb.mono B0.out.size));clear hb)
    | (go_at_call 9;refine (caAwake_any _).mono ?_;rintro e w2 ⟨rfl,hb⟩;have B2:=Ca.hid (B1.out.trans (hb.mono B1.out.size));clear hb))
   go_ret
   exact ⟨rfl,B2.out⟩
 | true =>
   obtain ⟨sm1,sm2,sm3,sm4,sm5⟩:=smallB_true eqs
   have SM1:=Ca.hid sm1
   clear sm1 eqs
   obtain ⟨qr,eqr⟩:∃ qr,decide (1 <= H /\ H <= 4 /\ 1 <= D /\ D <= 16 /\ Tn.Tr.right G W ls = 0) = qr:=⟨_,rfl⟩
   have QR:=Ca.hid eqr
   clear eqr
   cases qr with
   | false =>
     go_enter Tryz.func5,Tryz.ntmps5
     go_wp2_with (first
      | (go_at_call 8;refine SM.out.mono ?_;rintro e w1 ⟨rfl,hb⟩;have B1:=Ca.hid hb;have z0:=k0.out _ (hb.mono (by omega));have y1:w1.cell? ⟨w.heap.size,1,none⟩ = some (.int .i64 H):=cell_of_row _ _ _ _ _ _ z0;have y2:w1.cell? ⟨w.heap.size,2,none⟩ = some (.int .i64 D):=cell_of_row _ _ _ _ _ _ z0;have y3:w1.cell? ⟨w.heap.size,3,none⟩ = some (.int .i64 G):=cell_of_row _ _ _ _ _ _ z0;have y4:w1.cell? ⟨w.heap.size,4,none⟩ = some (.int .i64 W):=cell_of_row _ _ _ _ _ _ z0;have y5:w1.cell? ⟨w.heap.size,5,none⟩ = some (.slice al ls.length cl):=cell_of_row _ _ _ _ _ _ z0;have B1w:=Ca.hid (B0.out.trans (hb.mono B0.out.size));clear hb z0)
      | (go_at_call 12;refine (Tn.refShape_any _ _ _ _ al cl ls _ (HP.out.keep B1w.out).1 (by omega)).mono ?_;rintro e w2 ⟨a3,c3,rfl,hps,hb,-⟩;have P3:=Ca.hid hps;have B2:=Ca.hid (B1w.out.trans (hb.mono B1w.out.size));clear hps hb)
      | (go_at_call 11;refine (Tn.refRight13_any _ _ _ _ a3 c3 ls false _ P3.out (by unfold maxLen;omega) QR.out).mono ?_;rintro e w3 ⟨rfl,hb⟩;have B3:=Ca.hid (B2.out.trans (hb.mono B2.out.size));clear hb)
      | (go_at_call 9;refine (caAwake_any _).mono ?_;rintro e w4 ⟨rfl,hb⟩;have B4:=Ca.hid (B3.out.trans (hb.mono B3.out.size));clear hb))
     go_ret
     exact ⟨rfl,B4.out⟩
   | true =>
     have rr:=of_decide_eq_true QR.out
     obtain ⟨r1,r2,r3,r4,r5⟩:=rr
     obtain ⟨g1,g2,g3,g4,g5,g6,g7⟩:=Tn.Tr.right_zero r5
     obtain ⟨n,rfl⟩:=Int.eq_ofNat_of_zero_le sm3
     obtain ⟨H,rfl⟩:=Int.eq_ofNat_of_zero_le (by omega:0 <= H)
     obtain ⟨D,rfl⟩:=Int.eq_ofNat_of_zero_le (by omega:0 <= D)
     obtain ⟨G,rfl⟩:=Int.eq_ofNat_of_zero_le (by omega:0 <= G)
     obtain ⟨W,rfl⟩:=Int.eq_ofNat_of_zero_le (by omega:0 <= W)
     have SH:Hid (ShOk H D G W ls):=⟨by omega,by omega,by omega,by omega,r5⟩
     have g1':1 <= G:=by omega
     have g2':G <= 16:=by omega
     have g4':W <= 64:=by omega
     have h1':1 <= H:=by omega
     have h2':H <= 4:=by omega
     have h3':1 <= D:=by omega
     have h4':D <= 16:=by omega
     clear r5 g7 g1 g2 g3 g4 r1 r2 r3 r4
     go_enter Tryz.func5,Tryz.ntmps5
     go_wp2_with (first
      | (go_at_call 8;refine SM.out.mono ?_;rintro e w1 ⟨rfl,hb⟩;have B1:=Ca.hid hb;have z0:=k0.out _ (hb.mono (by omega));have y1:w1.cell? ⟨w.heap.size,1,none⟩ = some (.int .i64 (H:Int)):=cell_of_row _ _ _ _ _ _ z0;have y2:w1.cell? ⟨w.heap.size,2,none⟩ = some (.int .i64 (D:Int)):=cell_of_row _ _ _ _ _ _ z0;have y3:w1.cell? ⟨w.heap.size,3,none⟩ = some (.int .i64 (G:Int)):=cell_of_row _ _ _ _ _ _ z0;have y4:w1.cell? ⟨w.heap.size,4,none⟩ = some (.int .i64 (W:Int)):=cell_of_row _ _ _ _ _ _ z0;have y5:w1.cell? ⟨w.heap.size,5,none⟩ = some (.slice al ls.length cl):=cell_of_row _ _ _ _ _ _ z0;have B1w:=Ca.hid (B0.out.trans (hb.mono B0.out.size));have hs1:=hb.size;clear hb z0)
      | (go_at_call 12;refine (Tn.refShape_any _ _ _ _ al cl ls _ (HP.out.keep B1w.out).1 (by omega)).mono ?_;rintro e w2 ⟨a3,c3,rfl,hps,hb,-⟩;have P3:=Ca.hid hps;have B2:=Ca.hid (B1.out.trans (hb.mono (by omega)));have B2w:=Ca.hid (B1w.out.trans (hb.mono B1w.out.size));have hs2:=hb.size;clear hps hb)
      | (go_at_call 11;refine (Tn.refRight13_any _ _ _ _ a3 c3 ls true _ P3.out (by unfold maxLen;omega) QR.out).mono ?_;rintro e w3 ⟨rfl,hb⟩;clear y1 y2 y3 y4 y5;have z0:=k0.out _ ((B2.out.trans (hb.mono (by omega))).mono (by omega));have y0:w3.cell? ⟨w.heap.size,0,none⟩ = some (.int .i64 (n:Int)):=cell_of_row _ _ _ _ _ _ z0;have y1:w3.cell? ⟨w.heap.size,1,none⟩ = some (.int .i64 (H:Int)):=cell_of_row _ _ _ _ _ _ z0;have y2:w3.cell? ⟨w.heap.size,2,none⟩ = some (.int .i64 (D:Int)):=cell_of_row _ _ _ _ _ _ z0;have y3:w3.cell? ⟨w.heap.size,3,none⟩ = some (.int .i64 (G:Int)):=cell_of_row _ _ _ _ _ _ z0;have y4:w3.cell? ⟨w.heap.size,4,none⟩ = some (.int .i64 (W:Int)):=cell_of_row _ _ _ _ _ _ z0;have y5:w3.cell? ⟨w.heap.size,5,none⟩ = some (.slice al ls.length cl):=cell_of_row _ _ _ _ _ _ z0;have y6:w3.cell? ⟨w.heap.size,6,none⟩ = some (.slice ao len co):=cell_of_row _ _ _ _ _ _ z0;have Z3:=Ca.hid z0;have B3:=Ca.hid (B2w.out.trans (hb.mono B2w.out.size));have hs3:=hb.size;clear hb z0)
      | (go_at_call 10;refine (begun_ok n H D G W al cl ls ao len co _ (by omega) (HP.out.keep B3.out).1 SH.out).mono ?_;rintro e w4 ⟨P,g0,b0,C0,vb,vr0,z,a4,c4,col0,rfl,hb⟩;have PL0:=Ca.hid (hb.plp (by omega));have y66:w4.cell? ⟨w.heap.size,6,none⟩ = some (.slice ao len co):=cell_of_row _ _ _ _ _ _ ((PL0.out.below.block _ (by omega)).trans Z3.out);clear hb))
     clear y0 y1 y2 y3 y4 y5 y6 x0 x1 x2 x3 x4 x5 x6
     go_loopw [26] (fun i wq=>∃ (j k:Nat),j <= len /\ i = .int .i64 j /\ Hid (PlP nox w3.heap.size w3 wq P n H D G W ls k j)) (fun i _=>len - (intOf i).toNat)
     case atStart=>exact ⟨0,1,Nat.zero_le _,rfl,PL0.out⟩
     case round =>
      obtain ⟨j,k,hj,rfl,AJ⟩:=hrel
      have BWr:Hid (Below w.heap.size w wr):=B3.out.trans (AJ.out.below.mono B3.out.size)
      have hw3:w.heap.size <= w3.heap.size:=B3.out.size
      by_cases hlt:j < len
      ·obtain ⟨ob,oo,rfl,hob,h6⟩:=(HO.out.keep BWr.out).get hlt
       obtain ⟨⟨q0,q1,q2,q3,q4,q5⟩,s1,s2,i1,i2⟩:=h6 j hlt
       obtain ⟨_,_,-,-,h60⟩:=HO.out.get hlt
       have s10:=(h60 j hlt).2.1
       have s20:=(h60 j hlt).2.2.1
       obtain ⟨lk1,lk2⟩:=SM1.out j hlt
       obtain ⟨z0,ez0⟩:∃ z,(K j).1 = z:=⟨_,rfl⟩
       obtain ⟨z1,ez1⟩:∃ z,(K j).2.1 = z:=⟨_,rfl⟩
       obtain ⟨z2,ez2⟩:∃ z,(K j).2.2.1 = z:=⟨_,rfl⟩
       obtain ⟨z3,ez3⟩:∃ z,(K j).2.2.2.1 = z:=⟨_,rfl⟩
       obtain ⟨ks,eks⟩:∃ z,(K j).2.2.2.2.2.2.1 = z:=⟨_,rfl⟩
       obtain ⟨vs,evs⟩:∃ z,(K j).2.2.2.2.2.2.2 = z:=⟨_,rfl⟩
       obtain ⟨⟨p1,d1⟩,ep1⟩:∃ z,(K j).2.2.2.2.1 = z:=⟨_,rfl⟩
       obtain ⟨⟨p2,d2⟩,ep2⟩:∃ z,(K j).2.2.2.2.2.1 = z:=⟨_,rfl⟩
       rw [ez0] at q0
       rw [ez1] at q1
       rw [ez2] at q2
       rw [ez3] at q3
       rw [eks,ep1] at q4
       rw [evs,ep2] at q5
       rw [eks,ep1] at s1 s10
       rw [evs,ep2] at s2 s20
       have S10:=Ca.hid s10
       have S20:=Ca.hid s20
       rw [eks] at i1 lk1
       rw [evs] at i2 lk2
       have S1:=Ca.hid s1
       have S2:=Ca.hid s2
       have I1:=Ca.hid i1
       have I2:=Ca.hid i2
       have hob2:ob < wr.heap.size:=by have:=BWr.out.size;omega
       have e0:(0:Int) <= (j:Int):=by omega
       have e1:(j:Int) < (len:Int):=by omega
       obtain ⟨km,vm⟩:=HK.out j hlt
       rw [eks] at km
       rw [evs] at vm
       have KM:=Ca.hid km
       have VM:=Ca.hid vm
       clear km vm ez0 ez1 ez2 ez3 eks evs ep1 ep2 h6 h60 s1 s2 s10 s20 i1 i2
       go_upto_region 9 with fail
       obtain ⟨W1,hW1⟩:∃ W1,wr.alloc (.cells #[.int .i64 z0,.int .i64 z1,.int .i64 z2,.int .i64 z3,.slice p1 ks.length d1,.slice p2 vs.length d2] 44) = W1:=⟨_,rfl⟩
       have BW1:Hid (Below wr.heap.size wr W1):=by rw [<- hW1];exact box_below _ _
       have OB:Hid (W1.heap[wr.heap.size]? = some (.cells #[.int .i64 z0,.int .i64 z1,.int .i64 z2,.int .i64 z3,.slice p1 ks.length d1,.slice p2 vs.length d2] 44)):=by rw [<- hW1];exact heap_alloc_new wr _
       rw [hW1]
       clear hW1 q0 q1 q2 q3 q4 q5
       have A1:=Ca.hid (AJ.out.keep BW1.out)
       have BWw:Hid (Below w.heap.size w W1):=BWr.out.trans (BW1.out.mono BWr.out.size)
       have U1:Hid (SlQ (fun q=>q < w3.heap.size) 1 eRow W1 p1 ks):=keep_lt BWw.out hw3 S10.out
       have U2:Hid (SlQ (fun q=>q < w3.heap.size) 1 eRow W1 p2 vs):=keep_lt BWw.out hw3 S20.out
       have oc0:W1.cell? ⟨wr.heap.size,0,none⟩ = some (.int .i64 z0):=cell_of_row _ _ _ _ _ _ OB.out
       have oc1:W1.cell? ⟨wr.heap.size,1,none⟩ = some (.int .i64 z1):=cell_of_row _ _ _ _ _ _ OB.out
       have oc2:W1.cell? ⟨wr.heap.size,2,none⟩ = some (.int .i64 z2):=cell_of_row _ _ _ _ _ _ OB.out
       have oc3:W1.cell? ⟨wr.heap.size,3,none⟩ = some (.int .i64 z3):=cell_of_row _ _ _ _ _ _ OB.out
       have oc4:W1.cell? ⟨wr.heap.size,4,none⟩ = some (.slice p1 ks.length d1):=cell_of_row _ _ _ _ _ _ OB.out
       have oc5:W1.cell? ⟨wr.heap.size,5,none⟩ = some (.slice p2 vs.length d2):=cell_of_row _ _ _ _ _ _ OB.out
       go_wp2_with (first
        | (go_at_call 14;refine (step_any w3.heap.size P n H D G W k j z0 z1 z2 z3 ls p1 p2 d1 d2 ks vs w3 W1 A1.out SH.out (by omega) U1.out U2.out I1.out I2.out lk1 lk2 KM.out VM.out).mono ?_;rintro e w5 ⟨rfl,k5,a5⟩;have A5:=Ca.hid a5;clear a5))
       go_roundw
       case rel=>exact ⟨j + 1,k5,by omega,by go_num,A5.out⟩
       case measure=>simp [intOf];omega
      ·have ej:j = len:=by omega
       subst ej
       have hj80:j <= 80:=by omega
       obtain ⟨hk0,hk5,g,b,ga,ca,C,fr0⟩:=AJ.out.fr hj80
       have FR0:=Ca.hid fr0
       have p6:=fr0.cells.2.1
       have hks:(k:Int) <= 5:=by omega
       clear fr0
       go_wp2
       go_loopw [40] (fun i wq=>∃ (s m:Nat),s <= k /\ i = .int .i64 s /\ m <= 2 * s /\ Hid (FrP w3.heap.size w3 wq P g b n H D G W ls k ga ca C s m (fun _ _=>True))) (fun i _=>k - (intOf i).toNat)
       case atStart=>exact ⟨0,0,Nat.zero_le _,rfl,Nat.le_refl _,FR0.out⟩
       case round =>
        obtain ⟨s,m,hs,rfl,hm,FS⟩:=hrel
        by_cases hlt2:s < k
        ·have zs:=FS.out.cells.2.2 s hlt2
         have s0:(0:Int) <= (s:Int):=by omega
         have s1:(s:Int) < (k:Int):=by omega
         go_wp2_with (first
          | (go_at_call 25;refine (fr_clear w3.heap.size P g b n H D G W k ga ca s m ls C _ w3 _ FS.out SH.out hlt2 (by omega)).mono ?_;rintro e v1 ⟨rfl,h1⟩;have F1:=Ca.hid h1;clear h1)
          | (go_at_call 26;refine (fr_tokens w3.heap.size P g b n H D G W k ga ca s (m + 1) ls C w3 _ F1.out SH.out hlt2).mono ?_;rintro e v2 ⟨rfl,h2⟩;have F2:=Ca.hid (F1.out.keep h2);clear h2)
          | (go_at_call 21;refine (fr_next w3.heap.size P g b n H D G W k ga ca s (m + 1) ls C w3 _ F2.out SH.out hlt2).mono ?_;rintro e v3 ⟨rfl,h3⟩;have F3:=Ca.hid (F2.out.keep h3);clear h3)
          | (go_at_call 27;refine (fr_slots w3.heap.size P g b n H D G W k ga ca s (m + 1) ls C _ w3 _ F3.out SH.out hlt2).mono ?_;rintro e v4 ⟨⟨sa,sc,rfl⟩,h4⟩;have F4:=Ca.hid (F3.out.keep h4);clear h4)
          | (go_at_call 28;refine (fr_cut w3.heap.size P g b n H D G W k ga ca s (m + 1) ls C w3 _ F4.out SH.out hlt2).mono ?_;rintro e v5 ⟨rfl,h5⟩;have F5:=Ca.hid h5;clear h5))
         go_roundw
         case rel=>exact ⟨s + 1,m + 1 + 1,by omega,by go_num,by omega,F5.out⟩
         case measure=>simp [intOf];omega
        ·have es:s = k:=by omega
         subst es
         have BWs:Hid (Below w.heap.size w wr):=B3.out.trans (FS.out.below.mono B3.out.size)
         have pc0:=FS.out.cells.1
         have y0:wr.cell? ⟨w.heap.size,0,none⟩ = some (.int .i64 (n:Int)):=cell_of_row _ _ _ _ _ _ ((FS.out.below.block _ (by omega)).trans Z3.out)
         go_upto_region 19 with fail
         have cF:=Tn.reg_of (u:=wr) fun v hv=>fr_free w3.heap.size P g b n H D G W s ga ca m ls C _ w3 v (FS.out.keep hv)
         have cA:=Tn.reg_of (u:=wr) fun v hv=>caAwake_any v
         have pk0:=cell_regrown pc0
         have pk1:=cell_regrown y0
         refine wp_region_quiet_below (by kernel_rfl) (by kernel_rfl) ?_
         repeat (go_big_quiet_step (first | (with_reducible exact cF _ _) | (with_reducible exact cA _ _)))
         refine wpQuiet_nil ?_
         intro W2 hw'
         have BQ:Hid (Below wr.heap.size wr W2):=by obtain ⟨⟨dq,osq⟩,hw''⟩:=hw';rw [hw''];exact below_regrown wr dq osq
         clear hw' cF cA pk0 pk1
         go_wp2
         go_ret
         exact ⟨by simp,BWs.out.trans (BQ.out.mono BWs.out.size)⟩
end Cc
end Go.Proofs.YtnchnlgnnlgjcaaGreat
