import Derived.Test.YtnchnlgnnlgjcaaGreatCa37
import Derived.Test.YtnchnlgnnlgjcaaGreatCa38
set_option linter.unusedVariables false
set_option linter.unusedSimpArgs false
namespace Go.Proofs.YtnchnlgnnlgjcaaGreat
open Go.RowKit
namespace Cc
open Rt (box_below)
set_option maxRecDepth 100000 in
set_option maxHeartbeats 6400000 in
theorem alone_any (n H D G W:Int) (al:Option Addr) (cl:Nat) (ls:List (Int × Int)) (ao:Option Addr) (len co:Nat) (K:Nat->Rec) (w:World) (hO:Ops w.heap.size w ao len K) (hl:len<=maxLen) (hP:PsB w.heap.size w al ls) (hls:ls.length<=maxLen) (hK:∀ i,i<len->(∀ k,(Ca.nt (K i).2.2.2.2.2.2.1 k).length<=35184372087808)/\∀ k,(Ca.nt (K i).2.2.2.2.2.2.2 k).length<=35184372087808) :
 Calls Tryz.prog 4 #[.agg #[.int .i64 n,.int .i64 H,.int .i64 D,.int .i64 G,.int .i64 W,.slice al ls.length cl,.slice ao len co]] w fun e w'=>e=.returned (.bool true)/\Below w.heap.size w w':=by
 have B0:=Ca.hid (box_below w (.cells #[.int .i64 n,.int .i64 H,.int .i64 D,.int .i64 G,.int .i64 W,.slice al ls.length cl,.slice ao len co] 29))
 have HO:=Ca.hid hO
 have HK:=Ca.hid hK
 have HP:=Ca.hid hP
 have s00:(w.alloc (.cells #[.int .i64 n,.int .i64 H,.int .i64 D,.int .i64 G,.int .i64 W,.slice al ls.length cl,.slice ao len co] 29)).heap.size=w.heap.size+1:=by simp
 obtain ⟨w0,hw0⟩:∃ w0,w.alloc (.cells #[.int .i64 n,.int .i64 H,.int .i64 D,.int .i64 G,.int .i64 W,.slice al ls.length cl,.slice ao len co] 29)=w0:=⟨_,rfl⟩
 rw [hw0] at s00 B0
 have k0:Hid (∀ v,Below (w.heap.size+1) w0 v->v.heap[w.heap.size]?=some (.cells #[.int .i64 n,.int .i64 H,.int .i64 D,.int .i64 G,.int .i64 W,.slice al ls.length cl,.slice ao len co] 29)):=fun v hv=>by
  rw [hv.block _ (Nat.lt_succ_self _),<-hw0];exact heap_alloc_new w _
 have z00:=k0.out w0 (Below.refl _ _)
 have x0:w0.cell? ⟨w.heap.size,0,none⟩=some (.int .i64 n):=cell_of_row _ _ _ _ _ _ z00
 have x1:w0.cell? ⟨w.heap.size,1,none⟩=some (.int .i64 H):=cell_of_row _ _ _ _ _ _ z00
 have x2:w0.cell? ⟨w.heap.size,2,none⟩=some (.int .i64 D):=cell_of_row _ _ _ _ _ _ z00
 have x3:w0.cell? ⟨w.heap.size,3,none⟩=some (.int .i64 G):=cell_of_row _ _ _ _ _ _ z00
 have x4:w0.cell? ⟨w.heap.size,4,none⟩=some (.int .i64 W):=cell_of_row _ _ _ _ _ _ z00
 have x5:w0.cell? ⟨w.heap.size,5,none⟩=some (.slice al ls.length cl):=cell_of_row _ _ _ _ _ _ z00
 have x6:w0.cell? ⟨w.heap.size,6,none⟩=some (.slice ao len co):=cell_of_row _ _ _ _ _ _ z00
 clear z00
 obtain ⟨qs,eqs⟩:∃ qs,smallB K len ls.length n=qs:=⟨_,rfl⟩
 have SM:=Ca.hid (small_any w.heap.size n H D G W al cl ls.length ao len co K qs w0 (HO.out.keep B0.out) B0.out.size hl eqs)
 clear hO hP hK
 cases qs with
 | false =>
   go_enter Tryz.func4,Tryz.ntmps4
   go_wp2_with (first
    | (go_at_call 8;refine SM.out.mono ?_;rintro e w1 ⟨rfl,hb⟩;have B1:=Ca.hid (B0.out.trans (hb.mono B0.out.size));clear hb)
    | (go_at_call 9;refine (caAwake_any _).mono ?_;rintro e w2 ⟨rfl,hb⟩;have B2:=Ca.hid (B1.out.trans (hb.mono B1.out.size));clear hb))
   go_ret
   exact ⟨rfl,B2.out⟩
 | true =>
   obtain ⟨sm1,sm2,sm3,sm4,sm5⟩:=smallB_true eqs
   have SM1:=Ca.hid sm1
   clear sm1 eqs
   obtain ⟨qr,eqr⟩:∃ qr,decide (1<=H/\H<=4/\1<=D/\D<=16/\Tn.Tr.right G W ls=0)=qr:=⟨_,rfl⟩
   have QR:=Ca.hid eqr
   clear eqr
   cases qr with
   | false =>
     go_enter Tryz.func4,Tryz.ntmps4
     go_wp2_with (first
      | (go_at_call 8;refine SM.out.mono ?_;rintro e w1 ⟨rfl,hb⟩;have B1:=Ca.hid hb;have z0:=k0.out _ (hb.mono (by omega));have y1:w1.cell? ⟨w.heap.size,1,none⟩=some (.int .i64 H):=cell_of_row _ _ _ _ _ _ z0;have y2:w1.cell? ⟨w.heap.size,2,none⟩=some (.int .i64 D):=cell_of_row _ _ _ _ _ _ z0;have y3:w1.cell? ⟨w.heap.size,3,none⟩=some (.int .i64 G):=cell_of_row _ _ _ _ _ _ z0;have y4:w1.cell? ⟨w.heap.size,4,none⟩=some (.int .i64 W):=cell_of_row _ _ _ _ _ _ z0;have y5:w1.cell? ⟨w.heap.size,5,none⟩=some (.slice al ls.length cl):=cell_of_row _ _ _ _ _ _ z0;have B1w:=Ca.hid (B0.out.trans (hb.mono B0.out.size));clear hb z0)
      | (go_at_call 12;refine (Tn.refShape_any _ _ _ _ al cl ls _ (HP.out.keep B1w.out).1 (by omega)).mono ?_;rintro e w2 ⟨a3,c3,rfl,hps,hb,-⟩;have P3:=Ca.hid hps;have B2:=Ca.hid (B1w.out.trans (hb.mono B1w.out.size));clear hps hb)
      | (go_at_call 11;refine (Tn.refRight13_any _ _ _ _ a3 c3 ls false _ P3.out (by unfold maxLen;omega) QR.out).mono ?_;rintro e w3 ⟨rfl,hb⟩;have B3:=Ca.hid (B2.out.trans (hb.mono B2.out.size));clear hb)
      | (go_at_call 9;refine (caAwake_any _).mono ?_;rintro e w4 ⟨rfl,hb⟩;have B4:=Ca.hid (B3.out.trans (hb.mono B3.out.size));clear hb))
     go_ret
     exact ⟨rfl,B4.out⟩
   | true =>
     have rr:=of_decide_eq_true QR.out
     obtain ⟨r1,r2,r3,r4,r5⟩:=rr
     obtain ⟨g1,g2,g3,g4,g5,g6,g7⟩:=Tn.Tr.right_zero r5
     obtain ⟨n,rfl⟩:=Int.eq_ofNat_of_zero_le sm3
     obtain ⟨H,rfl⟩:=Int.eq_ofNat_of_zero_le (by omega:0<=H)
     obtain ⟨D,rfl⟩:=Int.eq_ofNat_of_zero_le (by omega:0<=D)
     obtain ⟨G,rfl⟩:=Int.eq_ofNat_of_zero_le (by omega:0<=G)
     obtain ⟨W,rfl⟩:=Int.eq_ofNat_of_zero_le (by omega:0<=W)
     have SH:Hid (ShOk H D G W ls):=⟨by omega,by omega,by omega,by omega,r5⟩
     have g1':1<=G:=by omega
     have g2':G<=16:=by omega
     have g4':W<=64:=by omega
     have h1':1<=H:=by omega
     have h2':H<=4:=by omega
     have h3':1<=D:=by omega
     have h4':D<=16:=by omega
     clear r5 g7 g1 g2 g3 g4 r1 r2 r3 r4
     go_enter Tryz.func4,Tryz.ntmps4
     go_wp2_with (first
      | (go_at_call 8;refine SM.out.mono ?_;rintro e w1 ⟨rfl,hb⟩;have B1:=Ca.hid hb;have z0:=k0.out _ (hb.mono (by omega));have y1:w1.cell? ⟨w.heap.size,1,none⟩=some (.int .i64 (H:Int)):=cell_of_row _ _ _ _ _ _ z0;have y2:w1.cell? ⟨w.heap.size,2,none⟩=some (.int .i64 (D:Int)):=cell_of_row _ _ _ _ _ _ z0;have y3:w1.cell? ⟨w.heap.size,3,none⟩=some (.int .i64 (G:Int)):=cell_of_row _ _ _ _ _ _ z0;have y4:w1.cell? ⟨w.heap.size,4,none⟩=some (.int .i64 (W:Int)):=cell_of_row _ _ _ _ _ _ z0;have y5:w1.cell? ⟨w.heap.size,5,none⟩=some (.slice al ls.length cl):=cell_of_row _ _ _ _ _ _ z0;have B1w:=Ca.hid (B0.out.trans (hb.mono B0.out.size));have hs1:=hb.size;clear hb z0)
      | (go_at_call 12;refine (Tn.refShape_any _ _ _ _ al cl ls _ (HP.out.keep B1w.out).1 (by omega)).mono ?_;rintro e w2 ⟨a3,c3,rfl,hps,hb,-⟩;have P3:=Ca.hid hps;have B2:=Ca.hid (B1.out.trans (hb.mono (by omega)));have B2w:=Ca.hid (B1w.out.trans (hb.mono B1w.out.size));have hs2:=hb.size;clear hps hb)
      | (go_at_call 11;refine (Tn.refRight13_any _ _ _ _ a3 c3 ls true _ P3.out (by unfold maxLen;omega) QR.out).mono ?_;rintro e w3 ⟨rfl,hb⟩;clear y1 y2 y3 y4 y5;have z0:=k0.out _ ((B2.out.trans (hb.mono (by omega))).mono (by omega));have y0:w3.cell? ⟨w.heap.size,0,none⟩=some (.int .i64 (n:Int)):=cell_of_row _ _ _ _ _ _ z0;have y1:w3.cell? ⟨w.heap.size,1,none⟩=some (.int .i64 (H:Int)):=cell_of_row _ _ _ _ _ _ z0;have y2:w3.cell? ⟨w.heap.size,2,none⟩=some (.int .i64 (D:Int)):=cell_of_row _ _ _ _ _ _ z0;have y3:w3.cell? ⟨w.heap.size,3,none⟩=some (.int .i64 (G:Int)):=cell_of_row _ _ _ _ _ _ z0;have y4:w3.cell? ⟨w.heap.size,4,none⟩=some (.int .i64 (W:Int)):=cell_of_row _ _ _ _ _ _ z0;have y5:w3.cell? ⟨w.heap.size,5,none⟩=some (.slice al ls.length cl):=cell_of_row _ _ _ _ _ _ z0;have y6:w3.cell? ⟨w.heap.size,6,none⟩=some (.slice ao len co):=cell_of_row _ _ _ _ _ _ z0;have Z3:=Ca.hid z0;have B3:=Ca.hid (B2w.out.trans (hb.mono B2w.out.size));have hs3:=hb.size;clear hb z0)
      | (go_at_call 10;refine (begun_ok n H D G W al cl ls ao len co _ (by omega) (HP.out.keep B3.out).1 SH.out).mono ?_;rintro e w4 ⟨P,g0,b0,C0,vb,vr0,z,a4,c4,col0,rfl,hb⟩;have PL0:=Ca.hid (hb.plp (by omega));clear hb)
      | (go_at_call 17;refine (newPool_ok 2000 (by omega) w4).mono ?_;rintro e w5 ⟨g2,b2,rfl,hp2,hg2,hb2,hb⟩;have PX:=Ca.hid (PL0.out.withX hb hg2 hb2 hp2.lt.1 hp2.lt.2);have P2:=Ca.hid hp2;have y66:w5.cell? ⟨w.heap.size,6,none⟩=some (.slice ao len co):=cell_of_row _ _ _ _ _ _ ((PX.out.below.block _ (by omega)).trans Z3.out);clear hb hp2 hg2 hb2))
     clear y0 y1 y2 y3 y4 y5 y6 x0 x1 x2 x3 x4 x5 x6
     go_loopw [51] (fun i wq=>∃ (j k:Nat),j<=len/\i=.int .i64 j/\Hid (PlP (xob w5 g2 b2) w3.heap.size w3 wq P n H D G W ls k j)) (fun i _=>len - (intOf i).toNat)
     case atStart=>exact ⟨0,1,Nat.zero_le _,rfl,PX.out⟩
     case round =>
      obtain ⟨j,k,hj,rfl,AJ⟩:=hrel
      have BWr:Hid (Below w.heap.size w wr):=B3.out.trans (AJ.out.below.mono B3.out.size)
      have hw3:w.heap.size<=w3.heap.size:=B3.out.size
      by_cases hlt:j<len
      ·obtain ⟨ob,oo,rfl,hob,h6⟩:=(HO.out.keep BWr.out).get hlt
       obtain ⟨⟨q0,q1,q2,q3,q4,q5⟩,s1,s2,i1,i2⟩:=h6 j hlt
       obtain ⟨_,_,-,-,h60⟩:=HO.out.get hlt
       have s10:=(h60 j hlt).2.1
       have s20:=(h60 j hlt).2.2.1
       obtain ⟨lk1,lk2⟩:=SM1.out j hlt
       obtain ⟨z0,ez0⟩:∃ z,(K j).1=z:=⟨_,rfl⟩
       obtain ⟨z1,ez1⟩:∃ z,(K j).2.1=z:=⟨_,rfl⟩
       obtain ⟨z2,ez2⟩:∃ z,(K j).2.2.1=z:=⟨_,rfl⟩
       obtain ⟨z3,ez3⟩:∃ z,(K j).2.2.2.1=z:=⟨_,rfl⟩
       obtain ⟨ks,eks⟩:∃ z,(K j).2.2.2.2.2.2.1=z:=⟨_,rfl⟩
       obtain ⟨vs,evs⟩:∃ z,(K j).2.2.2.2.2.2.2=z:=⟨_,rfl⟩
       obtain ⟨⟨p1,d1⟩,ep1⟩:∃ z,(K j).2.2.2.2.1=z:=⟨_,rfl⟩
       obtain ⟨⟨p2,d2⟩,ep2⟩:∃ z,(K j).2.2.2.2.2.1=z:=⟨_,rfl⟩
       rw [ez0] at q0
       rw [ez1] at q1
       rw [ez2] at q2
       rw [ez3] at q3
       rw [eks,ep1] at q4
       rw [evs,ep2] at q5
       rw [eks,ep1] at s1 s10
       rw [evs,ep2] at s2 s20
       have S10:=Ca.hid s10
       have S20:=Ca.hid s20
       rw [eks] at i1 lk1
       rw [evs] at i2 lk2
       have S1:=Ca.hid s1
       have S2:=Ca.hid s2
       have I1:=Ca.hid i1
       have I2:=Ca.hid i2
       have hob2:ob<wr.heap.size:=by have:=BWr.out.size;omega
       have e0:(0:Int)<=(j:Int):=by omega
       have e1:(j:Int)<(len:Int):=by omega
       obtain ⟨km,vm⟩:=HK.out j hlt
       rw [eks] at km
       rw [evs] at vm
       have KM:=Ca.hid km
       have VM:=Ca.hid vm
       clear km vm ez0 ez1 ez2 ez3 eks evs ep1 ep2 h6 h60 s1 s2 s10 s20 i1 i2
       go_upto_region 10 with fail
       obtain ⟨W1,hW1⟩:∃ W1,wr.alloc (.cells #[.int .i64 z0,.int .i64 z1,.int .i64 z2,.int .i64 z3,.slice p1 ks.length d1,.slice p2 vs.length d2] 44)=W1:=⟨_,rfl⟩
       have BW1:Hid (Below wr.heap.size wr W1):=by rw [<-hW1];exact box_below _ _
       have OB:Hid (W1.heap[wr.heap.size]?=some (.cells #[.int .i64 z0,.int .i64 z1,.int .i64 z2,.int .i64 z3,.slice p1 ks.length d1,.slice p2 vs.length d2] 44)):=by rw [<-hW1];exact heap_alloc_new wr _
       rw [hW1]
       clear hW1 q0 q1 q2 q3 q4 q5
       have A1:=Ca.hid (AJ.out.keep BW1.out)
       have BWw:Hid (Below w.heap.size w W1):=BWr.out.trans (BW1.out.mono BWr.out.size)
       have U1:Hid (SlQ (fun q=>q<w3.heap.size) 1 eRow W1 p1 ks):=keep_lt BWw.out hw3 S10.out
       have U2:Hid (SlQ (fun q=>q<w3.heap.size) 1 eRow W1 p2 vs):=keep_lt BWw.out hw3 S20.out
       have oc0:W1.cell? ⟨wr.heap.size,0,none⟩=some (.int .i64 z0):=cell_of_row _ _ _ _ _ _ OB.out
       have oc1:W1.cell? ⟨wr.heap.size,1,none⟩=some (.int .i64 z1):=cell_of_row _ _ _ _ _ _ OB.out
       have oc2:W1.cell? ⟨wr.heap.size,2,none⟩=some (.int .i64 z2):=cell_of_row _ _ _ _ _ _ OB.out
       have oc3:W1.cell? ⟨wr.heap.size,3,none⟩=some (.int .i64 z3):=cell_of_row _ _ _ _ _ _ OB.out
       have oc4:W1.cell? ⟨wr.heap.size,4,none⟩=some (.slice p1 ks.length d1):=cell_of_row _ _ _ _ _ _ OB.out
       have oc5:W1.cell? ⟨wr.heap.size,5,none⟩=some (.slice p2 vs.length d2):=cell_of_row _ _ _ _ _ _ OB.out
       go_wp2_with (first
        | (go_at_call 14;refine (step_any w3.heap.size P n H D G W k j z0 z1 z2 z3 ls p1 p2 d1 d2 ks vs w3 W1 A1.out SH.out (by omega) U1.out U2.out I1.out I2.out lk1 lk2 KM.out VM.out).mono ?_;rintro e w9 ⟨rfl,k5,a5⟩;have A5:=Ca.hid a5;clear a5))
       go_roundw
       case rel=>exact ⟨j+1,k5,by omega,by go_num,A5.out⟩
       case measure=>simp [intOf];omega
      ·have ej:j=len:=by omega
       subst ej
       have hj80:j<=80:=by omega
       obtain ⟨g,b,R,M,al',cl',ga,ca,gr,cr,C,T,L,t,q,zs,col,hS,hZ,hG⟩:=al_start AJ.out P2.out
       have hk0:0<k:=hG.2.2.2.2.2.1
       have hk5:k<=5:=hG.2.2.2.2.2.2
       have GD:=Ca.hid hG
       have RO:=Ca.hid (fun s (hs:s<k)=>hG.rows hs)
       have HC:Hid (∀ s,s<k->Lay (T s) ls.length (t s) (q s)/\OkD H D (T s)/\t s<=j):=fun s hs=>⟨(hS.1.2.2 s hs).2.1,(hS.1.2.2 s hs).2.2,hG.2.2.2.2.1 s hs⟩
       have LENS:Hid (∀ s,s<k->Bk.len (L s) (ls.length*H)<=4*j):=hG.2.2.1
       have sl:1<=ls.length:=SH.out.nums.2.2.2.1
       have sl2:ls.length<=4:=SH.out.nums.2.2.2.2.1
       have SA:=Ca.hid hS
       have ZA:=Ca.hid hZ
       have p6:=hS.cells.1
       have hks:(k:Int)<=5:=by omega
       have hw3':w.heap.size<w3.heap.size:=by
        have:=Z3.out
        exact (Array.getElem?_eq_some_iff.1 this).1
       have CB:Hid (∀ (v:World) (cc:Nat->Nat),S2 w3.heap.size w3 v P g b n H D G W k al' cl' ls R M (.slice (some ⟨ga,0,none⟩) k ca) (.slice (some ⟨gr,0,none⟩) k cr) C T L t q zs g2 b2 cc->v.heap[w.heap.size]?=some (.cells #[.int .i64 (n:Int),.int .i64 (H:Int),.int .i64 (D:Int),.int .i64 (G:Int),.int .i64 (W:Int),.slice al ls.length cl,.slice ao j co] 29)/\Below w.heap.size w v):=fun v cc hv=>⟨(hv.2.2.2.2.2.1.block _ hw3').trans Z3.out,B3.out.trans (hv.2.2.2.2.2.1.mono B3.out.size)⟩
       clear hS hZ hG
       go_wp2
       clear p6
       go_loopw [65] (fun i wq=>∃ (s:Nat) (c9:Nat->Nat),s<=k/\i=.int .i64 s/\Hid (S2 w3.heap.size w3 wq P g b n H D G W k al' cl' ls R M (.slice (some ⟨ga,0,none⟩) k ca) (.slice (some ⟨gr,0,none⟩) k cr) C T L t q zs g2 b2 c9)/\Hid (PZ wq g2 b2)) (fun i _=>k - (intOf i).toNat)
       case atStart=>exact ⟨0,col,Nat.zero_le _,rfl,SA.out,ZA.out⟩
       case round =>
        obtain ⟨s,c9,hs,rfl,S9,Z9⟩:=hrel
        by_cases hlt1:s<k
        ·obtain ⟨-,-,zc⟩:=S9.out.cells
         obtain ⟨zc1,zr1⟩:=zc s hlt1
         have s0:(0:Int)<=(s:Int):=by omega
         have s1:(s:Int)<(k:Int):=by omega
         obtain ⟨hLay,hOk,htj⟩:=HC.out s hlt1
         obtain ⟨az,cz,ez,-⟩:=S9.out.2.2.1 s hlt1
         rw [<-hLay.1] at ez
         have EZ:=Ca.hid ez
         have LT:=Ca.hid hLay.1
         have LY:=Ca.hid hLay
         have OKD:=Ca.hid hOk
         have hT0:0<(T s).length:=by rw [LT.out];omega
         have hT1:(T s).length<=10:=by rw [LT.out];omega
         obtain ⟨ta,eta⟩:∃ x,t s=x:=⟨_,rfl⟩
         have ET:=Ca.hid eta
         obtain ⟨qs,eqs⟩:∃ x,q s=x:=⟨_,rfl⟩
         have EQS:=Ca.hid eqs
         rw [eta] at htj
         have hq:=hLay.2.1
         rw [eqs] at hq
         have LV:Hid (∀ y,y<ls.length->(Ca.nt (T s) y).length=lv ta qs y):=fun y hy=>by rw [<-eta,<-eqs];exact hLay.2.2 y hy
         obtain ⟨CBv,BWv⟩:=CB.out wr c9 S9.out
         have y1:wr.cell? ⟨w.heap.size,1,none⟩=some (.int .i64 (H:Int)):=cell_of_row _ _ _ _ _ _ CBv
         have y2:wr.cell? ⟨w.heap.size,2,none⟩=some (.int .i64 (D:Int)):=cell_of_row _ _ _ _ _ _ CBv
         have y3:wr.cell? ⟨w.heap.size,3,none⟩=some (.int .i64 (G:Int)):=cell_of_row _ _ _ _ _ _ CBv
         have y4:wr.cell? ⟨w.heap.size,4,none⟩=some (.int .i64 (W:Int)):=cell_of_row _ _ _ _ _ _ CBv
         have y5:wr.cell? ⟨w.heap.size,5,none⟩=some (.slice al ls.length cl):=cell_of_row _ _ _ _ _ _ CBv
         clear zc ez hLay hOk eta eqs CBv zr1
         go_wp2_with (first
          | (go_at_call 18;refine (al_new g2 b2 H D G W al cl ls c9 wr Z9.out (HP.out.keep BWv).1 SH.out S9.out.2.2.2.1.1).mono ?_;rintro e u1 ⟨C2,c1,rfl,hn2,hch⟩;have N1:=Ca.hid hn2;have S1:=Ca.hid (S9.out.away GD.out hch);obtain ⟨-,p7,zc⟩:=S1.out.cells;have zr:=(zc s hlt1).2;rw [EZ.out] at zr;clear zc hn2 hch)
          | (go_at_call 19;refine (tokens_any (α:=Tok) az cz (T s) u1 (S1.out.doc hlt1 EZ.out) hT0 hT1).mono ?_;rintro e w' ⟨rfl,hww⟩;cases hww.symm;clear hww;rw [LY.out.toks,ET.out]))
         clear y1 y2 y3 y4 y5 p7 zr zc1
         have N1q:Hid (N2 u1 g2 b2 C2 H D G W ls (tk2 (T s) 0 0) 0 0 (0*ls.length) c1):=by
          have:=N1.out
          rw [<-LT.out,<-tk2_zero] at this
          rw [Nat.zero_mul]
          exact this
         go_loopw [91] (fun i wq=>∃ (r:Nat) (c9:Nat->Nat),r<=ta/\i=.int .i64 r/\Hid (S2 w3.heap.size w3 wq P g b n H D G W k al' cl' ls R M (.slice (some ⟨ga,0,none⟩) k ca) (.slice (some ⟨gr,0,none⟩) k cr) C T L t q zs g2 b2 c9)/\Hid (N2 wq g2 b2 C2 H D G W ls (tk2 (T s) r 0) r 0 (r*ls.length) c9)) (fun i _=>ta - (intOf i).toNat)
         case atStart=>exact ⟨0,c1,Nat.zero_le _,rfl,S1.out,N1q.out⟩
         case round =>
          obtain ⟨r,c8,hr,rfl,S8,N8⟩:=hrel
          have S8q:=S8
          have N8q:=N8
          obtain ⟨-,p7,zc⟩:=S8.out.cells
          have zr:=(zc s hlt1).2
          rw [EZ.out] at zr
          by_cases hlt2:r<ta
          ·clear zc
           go_wp2
           clear p7 zr
           have N8r:Hid (N2 wr g2 b2 C2 H D G W ls (tk2 (T s) r 0) (if 0=ls.length then r+1 else r) (if 0=ls.length then 0 else 0) (r*ls.length+0) c8):=by
            rw [if_neg (by omega),if_neg (by omega),Nat.add_zero]
            exact N8q.out
           go_loopw [102] (fun i wq=>∃ (y:Nat) (c9:Nat->Nat),y<=ls.length/\i=.int .i64 y/\Hid (S2 w3.heap.size w3 wq P g b n H D G W k al' cl' ls R M (.slice (some ⟨ga,0,none⟩) k ca) (.slice (some ⟨gr,0,none⟩) k cr) C T L t q zs g2 b2 c9)/\Hid (N2 wq g2 b2 C2 H D G W ls (tk2 (T s) r y) (if y=ls.length then r+1 else r) (if y=ls.length then 0 else y) (r*ls.length+y) c9)) (fun i _=>ls.length - (intOf i).toNat)
           case atStart=>exact ⟨0,c8,Nat.zero_le _,rfl,S8q.out,N8r.out⟩
           case round =>
            obtain ⟨y,c7,hy,rfl,S7,N7⟩:=hrel
            by_cases hlt3:y<ls.length
            ·have hyT:y<(T s).length:=by rw [LT.out];exact hlt3
             obtain ⟨bz,oz,eaz,-,-,hcs⟩:=(S7.out.doc hlt1 EZ.out).cells (by omega)
             obtain ⟨A0,C0,hck,hAC,hAm,hAn,hAS⟩:=hcs y hyT
             have hlen:=LV.out y hlt3
             have hle:=lv_le ta qs y
             have hrl:r<(Ca.nt (T s) y).length:=by omega
             have TP:=Ca.hid (tk2_put (T:=T s) (i:=r) hyT hrl)
             have okt:=OKD.out y r hrl
             obtain ⟨bA,oA,A1,C1,A2,C2',eA0,hk1,hk2,hs1,hs2⟩:=tok_cells hAS hrl
             obtain ⟨tok,etok⟩:∃ tok,(Ca.nt (T s) y)[r]=tok:=⟨_,rfl⟩
             rw [etok] at hk1 hk2 hs1 hs2 okt TP
             obtain ⟨ll,ell⟩:∃ ll,(Ca.nt (T s) y).length=ll:=⟨_,rfl⟩
             rw [ell] at hck hrl
             subst eA0
             have HS1:=Ca.hid hs1
             have HS2:=Ca.hid hs2
             have OKT:=Ca.hid okt
             have hrn:r*ls.length<=80*4:=Nat.mul_le_mul (by omega) sl2
             have N7r:Hid (N2 wr g2 b2 C2 H D G W ls (tk2 (T s) r y) r y (r*ls.length+y) c7):=by
              have:=N7.out
              rw [if_neg (by omega),if_neg (by omega)] at this
              exact this
             have e0:(0:Int)<=(y:Int):=by omega
             have e1:(y:Int)<((T s).length:Int):=by omega
             have e2:(0:Int)<=(r:Int):=by omega
             have e3:(r:Int)<(ll:Int):=by omega
             rw [eaz]
             clear hcs hAC hAm hAn hAS hlen hle etok ell hs1 hs2 okt
             go_upto_region 25 with fail
             go_region_with (go_at_call 20;refine (al_put g2 b2 C2 H D G W r y (r*ls.length+y) ls (tk2 (T s) r y) c7 A1 A2 C1 C2' tok _ (N7r.out.keep ((Below.refl _ _).drew)) SH.out (by omega) (by omega) (S7.out.keep ((Below.refl _ _).drew)).2.2.2.1.1 S7.out.2.2.2.2.1.1 S7.out.2.2.2.2.1.2.1 HS1.out HS2.out OKT.out).mono ?_;rintro e u2 ⟨rfl,c6,hn2,hch⟩;have N6:=Ca.hid hn2;have S6:=Ca.hid ((S7.out.keep ((Below.refl _ _).drew)).away GD.out hch);clear hn2 hch)
             all_goals go_wp2
             all_goals go_roundw
             all_goals first
              | (refine ⟨y+1,c6,by omega,by go_num,S6.out,?_⟩;have:=N6.out;rw [TP.out] at this;exact this)
              | (simp [intOf];omega)
            ·have ey:y=ls.length:=by omega
             subst ey
             have nlt:¬ ((ls.length:Int)<((T s).length:Int)):=by rw [LT.out];omega
             have N7r:Hid (N2 wr g2 b2 C2 H D G W ls (tk2 (T s) (r+1) 0) (r+1) 0 ((r+1)*ls.length) c7):=by
              have:=N7.out
              rw [if_pos rfl,if_pos rfl] at this
              have e:=tk2_next (T s) r
              rw [LT.out] at e
              rw [e] at this
              rw [Nat.add_mul,Nat.one_mul]
              exact this
             go_wp2
             go_roundw
             case rel=>exact ⟨r+1,c7,by omega,by go_num,S7.out,N7r.out⟩
             case measure=>simp [intOf];omega
          ·have er:r=ta:=by omega
           subst er
           obtain ⟨W9,hW9⟩:∃ W9,W9=wr:=⟨_,rfl⟩
           subst hW9
           obtain ⟨R2,M2,L2,hp2,hc2,⟨hLay2,hOk2⟩,hG2,-⟩:=N8.out
           have RO2:=Ca.hid (hG2.rows (a:=0) (by decide))
           have KC:=Ca.hid (fun (v:World) (hv:Below W9.heap.size W9 v)=>(⟨(S8.out.keep hv).1.1,(S8.out.1.2.2 s hlt1).1.below hv,hp2.keep hv,hc2.below hv⟩:PoolAt v g b n R M/\CaAt v c8 (s+1) g (C s) H D G W ls M (L s) (cn ls.length (t s) (q s)) (tkD (T s) H) (qD G W (T s) H)/\PoolAt v g2 b2 2000 R2 M2/\CaAt v c8 500 g2 C2 H D G W ls M2 L2 (cn ls.length r 0) (tkD (tk2 (T s) r 0) H) (qD G W (tk2 (T s) r 0) H)))
           rw [ET.out,EQS.out] at KC
           have SV:=Ca.hid (fun (v:World) (hv:Below W9.heap.size W9 v)=>S8.out.keep hv)
           have NV:=Ca.hid (fun (v:World) (hv:Below W9.heap.size W9 v)=>N8.out.keep hv)
           have CB9:Hid (∀ v,Below W9.heap.size W9 v->v.cell? ⟨w.heap.size,1,none⟩=some (.int .i64 (H:Int))):=fun v hv=>cell_of_row _ _ _ _ _ _ (CB.out v c8 (SV.out v hv)).1
           clear zc hp2 hc2 hLay2 hOk2 hG2
           go_wp2
           clear p7 zr
           go_loopw [131] (fun i wq=>∃ y:Nat,y<=ls.length/\i=.int .i64 y/\Hid (Below W9.heap.size W9 wq)) (fun i _=>ls.length - (intOf i).toNat)
           case atStart=>exact ⟨0,Nat.zero_le _,rfl,Below.refl _ _⟩
           case round =>
            obtain ⟨y,hy,rfl,B1⟩:=hrel
            have B1q:=B1
            have hs1:=B1.out.size
            have x1:=CB9.out wr B1.out
            by_cases hlt3:y<ls.length
            ·have e1:(y:Int)<((T s).length:Int):=by rw [LT.out];omega
             go_wp2
             clear x1
             go_loopw [137] (fun i wq=>∃ h:Nat,h<=H/\i=.int .i64 h/\Hid (Below W9.heap.size W9 wq)) (fun i _=>H - (intOf i).toNat)
             case atStart=>exact ⟨0,Nat.zero_le _,rfl,B1q.out⟩
             case round =>
              obtain ⟨h,hh,rfl,B2⟩:=hrel
              have hs2:=B2.out.size
              by_cases hlt4:h<H
              ·by_cases hq0:qs=0
               ·obtain ⟨x,ex⟩:∃ x,y*H+h=x:=⟨_,rfl⟩
                have EX:=Ca.hid ex
                have hdv:=(up_row y h H hlt4).1
                rw [ex] at hdv
                obtain ⟨l,el⟩:∃ l,Ca.nt (T s) y=l:=⟨_,rfl⟩
                have hlay:Lay (T s) ls.length r 0:=by
                 have:=LY.out
                 rw [ET.out,EQS.out,hq0] at this
                 exact this
                have hln:=hlay.2.2 y hlt3
                have hlv:=lv_le r 0 y
                rw [el] at hln
                obtain ⟨q0,eq0⟩:∃ q0,gn G W l.length=q0:=⟨_,rfl⟩
                have hl1:l.length<=1000:=by omega
                have K1:Hid (tkD (T s) H x=l/\qD G W (T s) H x=q0):=⟨by unfold tkD;rw [hdv,el],by unfold qD;rw [hdv,el,eq0]⟩
                have K2:Hid (tkD (tk2 (T s) r 0) H x=l/\qD G W (tk2 (T s) r 0) H x=q0):=⟨by unfold tkD;rw [hdv,tk2_all hlay,el],by unfold qD;rw [hdv,tk2_all hlay,el,eq0]⟩
                have hT:=OKD.out y
                rw [el] at hT
                have TL:=Ca.hid hT
                have hqG:q0*G<=l.length:=by rw [<-eq0];exact gn_mul g1'
                have hq1:q0<=1000:=by have:=Nat.le_mul_of_pos_right q0 (show 0<G by omega);omega
                have DK:=Ca.hid (rows_deep (KC.out wr B2.out).2.1 SH.out hlt3 hlt4 ex K1.out.2)
                rw [K1.out.1] at DK
                have VR:=Ca.hid (vk_rows hlt4 TL.out h4' DK.out)
                have VL:Hid (l.length=(vk ls G D y h l q0).length/\l.length=(vv ls G D y h l q0).length):=⟨(vk_len hqG).1.symm,(vk_len hqG).2.symm⟩
                have QZ:Hid (qs=0):=hq0
                have j0:(0:Int)<=(y:Int):=by omega
                have j1:(0:Int)<=(h:Int):=by omega
                clear ex hdv el eq0 hT hlay hq0 hln hlv
                go_wp2_with (first
                 | (go_at_call 21;refine (next_c (C s) g H D G W ls r qs wr (KC.out wr B2.out).2.1.bd hq sl2).mono ?_;rintro e v1 ⟨rfl,qn,hww⟩;have B3:Hid (Below W9.heap.size W9 v1):=(by rw [hww];exact Rt.below_drewN B2.out _);have hs3:=B3.out.size;clear hww;rw [QZ.out])
                 | (go_at_call 22;(with_reducible refine (view_m (C s) (s+1) g b n H D G W y h x q0 ls R M (L s) r qs (tkD (T s) H) (qD G W (T s) H) c8 l v1 (KC.out v1 B3.out).1 (KC.out v1 B3.out).2.1 SH.out hlt3 hlt4 EX.out K1.out.2 K1.out.1 hl1 TL.out (RO.out s hlt1)).mono ?_);rintro e v2 ⟨e1,e2,xs,ys,rfl,htw,hb⟩;obtain ⟨a1,d1,rfl,t1,-,-⟩:=htw.tbl;obtain ⟨a2,d2,rfl,t2,-,-⟩:=htw.swap.tbl;have T1:=Ca.hid t1;have T2:=Ca.hid t2;have B4:Hid (Below W9.heap.size W9 v2):=B3.out.trans (hb.mono hs3);have hs4:=B4.out.size;clear htw hb t1 t2)
                 | (go_at_call 22;(with_reducible refine (view_m C2 500 g2 b2 2000 H D G W y h x q0 ls R2 M2 L2 r 0 (tkD (tk2 (T s) r 0) H) (qD G W (tk2 (T s) r 0) H) c8 l v2 (KC.out v2 B4.out).2.2.1 (KC.out v2 B4.out).2.2.2 SH.out hlt3 hlt4 EX.out K2.out.2 K2.out.1 hl1 TL.out RO2.out).mono ?_);rintro e v3 ⟨e1,e2,xs',ys',rfl,htw,hb⟩;obtain ⟨a3,d3,rfl,t1,-,-⟩:=htw.tbl;obtain ⟨a4,d4,rfl,t2,-,-⟩:=htw.swap.tbl;have T3:=Ca.hid t1;have T4:=Ca.hid t2;have T1b:=Ca.hid (T1.out.keep hb);have T2b:=Ca.hid (T2.out.keep hb);have B5:Hid (Below W9.heap.size W9 v3):=B4.out.trans (hb.mono hs4);have hs5:=B5.out.size;clear htw hb t1 t2)
                 | (go_at_call 23;(with_reducible refine (sameT_anym a1 a3 d1 d3 l.length l.length (vk ls G D y h l q0) v3 VL.out.1 VL.out.1 T1b.out T3.out (by have:=VL.out.1;omega) VR.out.1).mono ?_);rintro e v4 ⟨rfl,hb⟩;have T2c:=Ca.hid (T2b.out.keep hb);have T4c:=Ca.hid (T4.out.keep hb);have B6:Hid (Below W9.heap.size W9 v4):=B5.out.trans (hb.mono hs5);have hs6:=B6.out.size;clear hb)
                 | (go_at_call 23;(with_reducible refine (sameT_anym a2 a4 d2 d4 l.length l.length (vv ls G D y h l q0) v4 VL.out.2 VL.out.2 T2c.out T4c.out (by have:=VL.out.2;omega) VR.out.2).mono ?_);rintro e v5 ⟨rfl,hb⟩;have B7:Hid (Below W9.heap.size W9 v5):=B6.out.trans (hb.mono hs6);have hs7:=B7.out.size;clear hb)
                 | (go_at_call 24;(with_reducible refine (pages_m (C s) (s+1) g b n H D G W y h x q0 ls R M (L s) r qs (tkD (T s) H) (qD G W (T s) H) c8 v5 (KC.out v5 B7.out).1 (KC.out v5 B7.out).2.1 SH.out hlt3 hlt4 EX.out K1.out.2 hq1 (RO.out s hlt1)).mono ?_);rintro e v6 ⟨a5,d5,rfl,hb⟩;have B8:Hid (Below W9.heap.size W9 v6):=B7.out.trans (hb.mono hs7);have hs8:=B8.out.size;clear hb)
                 | (go_at_call 24;(with_reducible refine (pages_m C2 500 g2 b2 2000 H D G W y h x q0 ls R2 M2 L2 r 0 (tkD (tk2 (T s) r 0) H) (qD G W (tk2 (T s) r 0) H) c8 v6 (KC.out v6 B8.out).2.2.1 (KC.out v6 B8.out).2.2.2 SH.out hlt3 hlt4 EX.out K2.out.2 hq1 RO2.out).mono ?_);rintro e v7 ⟨a6,d6,rfl,hb⟩;have B9:Hid (Below W9.heap.size W9 v7):=B8.out.trans (hb.mono hs8);clear hb))
                go_roundw
                case rel=>exact ⟨h+1,by omega,by go_num,B9.out⟩
                case measure=>simp [intOf];omega
               ·have nq:((qs:Int) != 0)=true:=bne_iff_ne.2 (by omega)
                go_wp2_with (go_at_call 21;refine (next_c (C s) g H D G W ls r qs wr (KC.out wr B2.out).2.1.bd hq sl2).mono ?_;rintro e v1 ⟨rfl,qn,hww⟩;have B3:Hid (Below W9.heap.size W9 v1):=(by rw [hww];exact Rt.below_drewN B2.out _);clear hww)
                go_roundw
                case rel=>exact ⟨h+1,by omega,by go_num,B3.out⟩
                case measure=>simp [intOf];omega
              ·have eh:h=H:=by omega
               subst eh
               go_wp2
               go_roundw
               case rel=>exact ⟨y+1,by omega,by go_num,B2.out⟩
               case measure=>simp [intOf];omega
            ·have ey:y=ls.length:=by omega
             subst ey
             clear x1
             have nlt:¬ ((ls.length:Int)<((T s).length:Int)):=by rw [LT.out];omega
             have S5:=Ca.hid (SV.out wr B1.out)
             have N5:=Ca.hid (NV.out wr B1.out)
             have hq5:Hid (∀ x,x<ls.length*H->qD G W (tk2 (T s) r 0) H x<=(L s x).length):=fun x hx=>by
              rw [rows_in (KC.out wr B1.out).2.1 x hx]
              exact gn_mono (tk2_len (T s) r (x / H))
             have hL5:Bk.len (L s) (ls.length*H)<=1000:=by have:=LENS.out s hlt1;omega
             go_wp2_with (go_at_call 25;refine (al_clear g2 b2 C2 H D G W r 0 (r*ls.length) ls (tk2 (T s) r 0) (L s) c8 wr N5.out SH.out S5.out.2.2.2.1.1 S5.out.2.2.2.2.1.1 S5.out.2.2.2.2.1.2.1 hq5.out hL5).mono ?_;rintro e u4 ⟨rfl,hz,hch⟩;have Z4:=Ca.hid hz;have S4:=Ca.hid (S5.out.away GD.out hch);clear hz hch)
             go_roundw
             case rel=>exact ⟨s+1,c8,by omega,by go_num,S4.out,Z4.out⟩
             case measure=>simp [intOf];omega
        ·have es:s=k:=by omega
         subst es
         have BWs:=Ca.hid (CB.out wr c9 S9.out).2
         go_wp2_with (go_at_call 9;refine (caAwake_any _).mono ?_;rintro e w8 ⟨rfl,hb⟩;have B8:=Ca.hid (BWs.out.trans (hb.mono BWs.out.size));clear hb)
         go_ret
         exact ⟨by simp,B8.out⟩
end Cc
end Go.Proofs.YtnchnlgnnlgjcaaGreat
