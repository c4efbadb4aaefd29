import Derived.Test.YtnchnlgnnlgjcaaGreatCo36
import Derived.Test.YtnchnlgnnlgjcaaGreatCo37
import Derived.Test.YtnchnlgnnlgjcaaGreatCo38
set_option linter.unusedVariables false
set_option linter.unusedSimpArgs false
namespace Go.Proofs.YtnchnlgnnlgjcaaGreat
open Go.RowKit
namespace Cc
open Rt (box_below)
theorem is_plq {X:Nat->Option Obj} (B P n H D G W k j a:Nat) (ls:List (Int × Int)) (w0 w:World) (h:PlP X B w0 w P n H D G W ls k j) (sh:ShOk H D G W ls) (ha:a<k) (hj:j<=200) :
 Calls Tryz.prog 16 #[.pointer (some ⟨P,0,none⟩),.int .i64 (a:Int)] w fun e w'=>e=.returned (.bool true)/\Below w.heap.size w w':=by
 obtain ⟨g,b,R,M,al,cl,va,vr,C,T,L,t,q,zs,col,hC,hB,hD,hF,hG,hw,hBs⟩:=h
 exact is_any B P g b n H D G W k j a ls R M al cl va vr C T L t q zs col w hC hB hD hG sh ha hj
theorem four_places {w:World} {nb nl H:Nat} {t:TypeId} (h:w.heap[nb]?=some (.cells #[.int .i64 (-1),.int .i64 0,.int .i64 (nl:Int),.int .i64 0,.int .i64 0,.int .i64 (-1),.int .i64 0,.int .i64 (H:Int)] t (0,0))) {m:Nat} (hm:m<4) :
 ∃ x y:Int,w.cell? ⟨nb,m*2,none⟩=some (.int .i64 x)/\w.cell? ⟨nb,m*2+1,none⟩=some (.int .i64 y)/\¬ (0<=x/\x<(nl:Int)/\0<=y/\y<(H:Int)):=by
 match m,hm with
 | 0,_=>exact ⟨-1,0,by rw [cells_at h];rfl,by rw [cells_at h];rfl,by omega⟩
 | 1,_=>exact ⟨nl,0,by rw [cells_at h];rfl,by rw [cells_at h];rfl,by omega⟩
 | 2,_=>exact ⟨0,-1,by rw [cells_at h];rfl,by rw [cells_at h];rfl,by omega⟩
 | 3,_=>exact ⟨0,H,by rw [cells_at h];rfl,by rw [cells_at h];rfl,by omega⟩
set_option maxRecDepth 100000 in
set_option maxHeartbeats 6400000 in
theorem own_any (n H D G W:Int) (al:Option Addr) (cl:Nat) (ls:List (Int × Int)) (ao:Option Addr) (len co:Nat) (K:Nat->Rec) (w:World) (hO:Ops w.heap.size w ao len K) (hl:len<=maxLen) (hP:PsB w.heap.size w al ls) (hls:ls.length<=maxLen) (hK:∀ i,i<len->(∀ k,(Ca.nt (K i).2.2.2.2.2.2.1 k).length<=35184372087808)/\∀ k,(Ca.nt (K i).2.2.2.2.2.2.2 k).length<=35184372087808) :
 Calls Tryz.prog 6 #[.agg #[.int .i64 n,.int .i64 H,.int .i64 D,.int .i64 G,.int .i64 W,.slice al ls.length cl,.slice ao len co]] w fun e w'=>e=.returned (.bool true)/\Below w.heap.size w w':=by
 have B0:=Ca.hid (box_below w (.cells #[.int .i64 n,.int .i64 H,.int .i64 D,.int .i64 G,.int .i64 W,.slice al ls.length cl,.slice ao len co] 29))
 have HO:=Ca.hid hO
 have HK:=Ca.hid hK
 have HP:=Ca.hid hP
 have s00:(w.alloc (.cells #[.int .i64 n,.int .i64 H,.int .i64 D,.int .i64 G,.int .i64 W,.slice al ls.length cl,.slice ao len co] 29)).heap.size=w.heap.size+1:=by simp
 obtain ⟨w0,hw0⟩:∃ w0,w.alloc (.cells #[.int .i64 n,.int .i64 H,.int .i64 D,.int .i64 G,.int .i64 W,.slice al ls.length cl,.slice ao len co] 29)=w0:=⟨_,rfl⟩
 rw [hw0] at s00 B0
 have k0:Hid (∀ v,Below (w.heap.size+1) w0 v->v.heap[w.heap.size]?=some (.cells #[.int .i64 n,.int .i64 H,.int .i64 D,.int .i64 G,.int .i64 W,.slice al ls.length cl,.slice ao len co] 29)):=fun v hv=>by
  rw [hv.block _ (Nat.lt_succ_self _),<-hw0];exact heap_alloc_new w _
 have z00:=k0.out w0 (Below.refl _ _)
 have x0:w0.cell? ⟨w.heap.size,0,none⟩=some (.int .i64 n):=cell_of_row _ _ _ _ _ _ z00
 have x1:w0.cell? ⟨w.heap.size,1,none⟩=some (.int .i64 H):=cell_of_row _ _ _ _ _ _ z00
 have x2:w0.cell? ⟨w.heap.size,2,none⟩=some (.int .i64 D):=cell_of_row _ _ _ _ _ _ z00
 have x3:w0.cell? ⟨w.heap.size,3,none⟩=some (.int .i64 G):=cell_of_row _ _ _ _ _ _ z00
 have x4:w0.cell? ⟨w.heap.size,4,none⟩=some (.int .i64 W):=cell_of_row _ _ _ _ _ _ z00
 have x5:w0.cell? ⟨w.heap.size,5,none⟩=some (.slice al ls.length cl):=cell_of_row _ _ _ _ _ _ z00
 have x6:w0.cell? ⟨w.heap.size,6,none⟩=some (.slice ao len co):=cell_of_row _ _ _ _ _ _ z00
 clear z00
 obtain ⟨qs,eqs⟩:∃ qs,smallB K len ls.length n=qs:=⟨_,rfl⟩
 have SM:=Ca.hid (small_any w.heap.size n H D G W al cl ls.length ao len co K qs w0 (HO.out.keep B0.out) B0.out.size hl eqs)
 clear hO hP hK
 cases qs with
 | false =>
   go_enter Tryz.func6,Tryz.ntmps6
   go_wp2_with (first
    | (go_at_call 8;refine SM.out.mono ?_;rintro e w1 ⟨rfl,hb⟩;have B1:=Ca.hid (B0.out.trans (hb.mono B0.out.size));clear hb)
    | (go_at_call 9;refine (caAwake_any _).mono ?_;rintro e w2 ⟨rfl,hb⟩;have B2:=Ca.hid (B1.out.trans (hb.mono B1.out.size));clear hb))
   go_ret
   exact ⟨rfl,B2.out⟩
 | true =>
   obtain ⟨sm1,sm2,sm3,sm4,sm5⟩:=smallB_true eqs
   have SM1:=Ca.hid sm1
   clear sm1 eqs
   obtain ⟨qr,eqr⟩:∃ qr,decide (1<=H/\H<=4/\1<=D/\D<=16/\Tn.Tr.right G W ls=0)=qr:=⟨_,rfl⟩
   have QR:=Ca.hid eqr
   clear eqr
   cases qr with
   | false =>
     go_enter Tryz.func6,Tryz.ntmps6
     go_wp2_with (first
      | (go_at_call 8;refine SM.out.mono ?_;rintro e w1 ⟨rfl,hb⟩;have B1:=Ca.hid hb;have z0:=k0.out _ (hb.mono (by omega));have y1:w1.cell? ⟨w.heap.size,1,none⟩=some (.int .i64 H):=cell_of_row _ _ _ _ _ _ z0;have y2:w1.cell? ⟨w.heap.size,2,none⟩=some (.int .i64 D):=cell_of_row _ _ _ _ _ _ z0;have y3:w1.cell? ⟨w.heap.size,3,none⟩=some (.int .i64 G):=cell_of_row _ _ _ _ _ _ z0;have y4:w1.cell? ⟨w.heap.size,4,none⟩=some (.int .i64 W):=cell_of_row _ _ _ _ _ _ z0;have y5:w1.cell? ⟨w.heap.size,5,none⟩=some (.slice al ls.length cl):=cell_of_row _ _ _ _ _ _ z0;have B1w:=Ca.hid (B0.out.trans (hb.mono B0.out.size));clear hb z0)
      | (go_at_call 12;refine (Tn.refShape_any _ _ _ _ al cl ls _ (HP.out.keep B1w.out).1 (by omega)).mono ?_;rintro e w2 ⟨a3,c3,rfl,hps,hb,-⟩;have P3:=Ca.hid hps;have B2:=Ca.hid (B1w.out.trans (hb.mono B1w.out.size));clear hps hb)
      | (go_at_call 11;refine (Tn.refRight13_any _ _ _ _ a3 c3 ls false _ P3.out (by unfold maxLen;omega) QR.out).mono ?_;rintro e w3 ⟨rfl,hb⟩;have B3:=Ca.hid (B2.out.trans (hb.mono B2.out.size));clear hb)
      | (go_at_call 9;refine (caAwake_any _).mono ?_;rintro e w4 ⟨rfl,hb⟩;have B4:=Ca.hid (B3.out.trans (hb.mono B3.out.size));clear hb))
     go_ret
     exact ⟨rfl,B4.out⟩
   | true =>
     have rr:=of_decide_eq_true QR.out
     obtain ⟨r1,r2,r3,r4,r5⟩:=rr
     obtain ⟨g1,g2,g3,g4,g5,g6,g7⟩:=Tn.Tr.right_zero r5
     obtain ⟨n,rfl⟩:=Int.eq_ofNat_of_zero_le sm3
     obtain ⟨H,rfl⟩:=Int.eq_ofNat_of_zero_le (by omega:0<=H)
     obtain ⟨D,rfl⟩:=Int.eq_ofNat_of_zero_le (by omega:0<=D)
     obtain ⟨G,rfl⟩:=Int.eq_ofNat_of_zero_le (by omega:0<=G)
     obtain ⟨W,rfl⟩:=Int.eq_ofNat_of_zero_le (by omega:0<=W)
     have SH:Hid (ShOk H D G W ls):=⟨by omega,by omega,by omega,by omega,r5⟩
     have g1':1<=G:=by omega
     have g2':G<=16:=by omega
     have g4':W<=64:=by omega
     have h1':1<=H:=by omega
     have h2':H<=4:=by omega
     have h3':1<=D:=by omega
     have h4':D<=16:=by omega
     clear r5 g7 g1 g2 g3 g4 r1 r2 r3 r4
     go_enter Tryz.func6,Tryz.ntmps6
     go_wp2_with (first
      | (go_at_call 8;refine SM.out.mono ?_;rintro e w1 ⟨rfl,hb⟩;have B1:=Ca.hid hb;have z0:=k0.out _ (hb.mono (by omega));have y1:w1.cell? ⟨w.heap.size,1,none⟩=some (.int .i64 (H:Int)):=cell_of_row _ _ _ _ _ _ z0;have y2:w1.cell? ⟨w.heap.size,2,none⟩=some (.int .i64 (D:Int)):=cell_of_row _ _ _ _ _ _ z0;have y3:w1.cell? ⟨w.heap.size,3,none⟩=some (.int .i64 (G:Int)):=cell_of_row _ _ _ _ _ _ z0;have y4:w1.cell? ⟨w.heap.size,4,none⟩=some (.int .i64 (W:Int)):=cell_of_row _ _ _ _ _ _ z0;have y5:w1.cell? ⟨w.heap.size,5,none⟩=some (.slice al ls.length cl):=cell_of_row _ _ _ _ _ _ z0;have B1w:=Ca.hid (B0.out.trans (hb.mono B0.out.size));have hs1:=hb.size;clear hb z0)
      | (go_at_call 12;refine (Tn.refShape_any _ _ _ _ al cl ls _ (HP.out.keep B1w.out).1 (by omega)).mono ?_;rintro e w2 ⟨a3,c3,rfl,hps,hb,-⟩;have P3:=Ca.hid hps;have B2:=Ca.hid (B1.out.trans (hb.mono (by omega)));have B2w:=Ca.hid (B1w.out.trans (hb.mono B1w.out.size));have hs2:=hb.size;clear hps hb)
      | (go_at_call 11;refine (Tn.refRight13_any _ _ _ _ a3 c3 ls true _ P3.out (by unfold maxLen;omega) QR.out).mono ?_;rintro e w3 ⟨rfl,hb⟩;clear y1 y2 y3 y4 y5;have z0:=k0.out _ ((B2.out.trans (hb.mono (by omega))).mono (by omega));have y0:w3.cell? ⟨w.heap.size,0,none⟩=some (.int .i64 (n:Int)):=cell_of_row _ _ _ _ _ _ z0;have y1:w3.cell? ⟨w.heap.size,1,none⟩=some (.int .i64 (H:Int)):=cell_of_row _ _ _ _ _ _ z0;have y2:w3.cell? ⟨w.heap.size,2,none⟩=some (.int .i64 (D:Int)):=cell_of_row _ _ _ _ _ _ z0;have y3:w3.cell? ⟨w.heap.size,3,none⟩=some (.int .i64 (G:Int)):=cell_of_row _ _ _ _ _ _ z0;have y4:w3.cell? ⟨w.heap.size,4,none⟩=some (.int .i64 (W:Int)):=cell_of_row _ _ _ _ _ _ z0;have y5:w3.cell? ⟨w.heap.size,5,none⟩=some (.slice al ls.length cl):=cell_of_row _ _ _ _ _ _ z0;have y6:w3.cell? ⟨w.heap.size,6,none⟩=some (.slice ao len co):=cell_of_row _ _ _ _ _ _ z0;have Z3:=Ca.hid z0;have B3:=Ca.hid (B2w.out.trans (hb.mono B2w.out.size));have hs3:=hb.size;clear hb z0)
      | (go_at_call 10;refine (begun_ok n H D G W al cl ls ao len co _ (by omega) (HP.out.keep B3.out).1 SH.out).mono ?_;rintro e w4 ⟨P,g0,b0,C0,vb,vr0,z,a4,c4,col0,rfl,hb⟩;have PL0:=Ca.hid (hb.plp (by omega));have y66:w4.cell? ⟨w.heap.size,6,none⟩=some (.slice ao len co):=cell_of_row _ _ _ _ _ _ ((PL0.out.below.block _ (by omega)).trans Z3.out);clear hb))
     clear y0 y1 y2 y3 y4 y5 y6 x0 x1 x2 x3 x4 x5 x6
     go_loopw [44] (fun i wq=>∃ (j k:Nat),j<=len/\i=.int .i64 j/\Hid (PlP nox w3.heap.size w3 wq P n H D G W ls k j)) (fun i _=>len - (intOf i).toNat)
     case atStart=>exact ⟨0,1,Nat.zero_le _,rfl,PL0.out⟩
     case round =>
      obtain ⟨j,k,hj,rfl,AJ⟩:=hrel
      have BWr:Hid (Below w.heap.size w wr):=B3.out.trans (AJ.out.below.mono B3.out.size)
      have hw3:w.heap.size<=w3.heap.size:=B3.out.size
      by_cases hlt:j<len
      ·obtain ⟨ob,oo,rfl,hob,h6⟩:=(HO.out.keep BWr.out).get hlt
       obtain ⟨⟨q0,q1,q2,q3,q4,q5⟩,s1,s2,i1,i2⟩:=h6 j hlt
       obtain ⟨_,_,-,-,h60⟩:=HO.out.get hlt
       have s10:=(h60 j hlt).2.1
       have s20:=(h60 j hlt).2.2.1
       obtain ⟨lk1,lk2⟩:=SM1.out j hlt
       obtain ⟨z0,ez0⟩:∃ z,(K j).1=z:=⟨_,rfl⟩
       obtain ⟨z1,ez1⟩:∃ z,(K j).2.1=z:=⟨_,rfl⟩
       obtain ⟨z2,ez2⟩:∃ z,(K j).2.2.1=z:=⟨_,rfl⟩
       obtain ⟨z3,ez3⟩:∃ z,(K j).2.2.2.1=z:=⟨_,rfl⟩
       obtain ⟨ks,eks⟩:∃ z,(K j).2.2.2.2.2.2.1=z:=⟨_,rfl⟩
       obtain ⟨vs,evs⟩:∃ z,(K j).2.2.2.2.2.2.2=z:=⟨_,rfl⟩
       obtain ⟨⟨p1,d1⟩,ep1⟩:∃ z,(K j).2.2.2.2.1=z:=⟨_,rfl⟩
       obtain ⟨⟨p2,d2⟩,ep2⟩:∃ z,(K j).2.2.2.2.2.1=z:=⟨_,rfl⟩
       rw [ez0] at q0
       rw [ez1] at q1
       rw [ez2] at q2
       rw [ez3] at q3
       rw [eks,ep1] at q4
       rw [evs,ep2] at q5
       rw [eks,ep1] at s1 s10
       rw [evs,ep2] at s2 s20
       have S10:=Ca.hid s10
       have S20:=Ca.hid s20
       rw [eks] at i1 lk1
       rw [evs] at i2 lk2
       have S1:=Ca.hid s1
       have S2:=Ca.hid s2
       have I1:=Ca.hid i1
       have I2:=Ca.hid i2
       have hob2:ob<wr.heap.size:=by have:=BWr.out.size;omega
       have e0:(0:Int)<=(j:Int):=by omega
       have e1:(j:Int)<(len:Int):=by omega
       obtain ⟨km,vm⟩:=HK.out j hlt
       rw [eks] at km
       rw [evs] at vm
       have KM:=Ca.hid km
       have VM:=Ca.hid vm
       clear km vm ez0 ez1 ez2 ez3 eks evs ep1 ep2 h6 h60 s1 s2 s10 s20 i1 i2
       go_upto_region 9 with fail
       obtain ⟨W1,hW1⟩:∃ W1,wr.alloc (.cells #[.int .i64 z0,.int .i64 z1,.int .i64 z2,.int .i64 z3,.slice p1 ks.length d1,.slice p2 vs.length d2] 44)=W1:=⟨_,rfl⟩
       have BW1:Hid (Below wr.heap.size wr W1):=by rw [<-hW1];exact box_below _ _
       have OB:Hid (W1.heap[wr.heap.size]?=some (.cells #[.int .i64 z0,.int .i64 z1,.int .i64 z2,.int .i64 z3,.slice p1 ks.length d1,.slice p2 vs.length d2] 44)):=by rw [<-hW1];exact heap_alloc_new wr _
       rw [hW1]
       clear hW1 q0 q1 q2 q3 q4 q5
       have A1:=Ca.hid (AJ.out.keep BW1.out)
       have BWw:Hid (Below w.heap.size w W1):=BWr.out.trans (BW1.out.mono BWr.out.size)
       have U1:Hid (SlQ (fun q=>q<w3.heap.size) 1 eRow W1 p1 ks):=keep_lt BWw.out hw3 S10.out
       have U2:Hid (SlQ (fun q=>q<w3.heap.size) 1 eRow W1 p2 vs):=keep_lt BWw.out hw3 S20.out
       have oc0:W1.cell? ⟨wr.heap.size,0,none⟩=some (.int .i64 z0):=cell_of_row _ _ _ _ _ _ OB.out
       have oc1:W1.cell? ⟨wr.heap.size,1,none⟩=some (.int .i64 z1):=cell_of_row _ _ _ _ _ _ OB.out
       have oc2:W1.cell? ⟨wr.heap.size,2,none⟩=some (.int .i64 z2):=cell_of_row _ _ _ _ _ _ OB.out
       have oc3:W1.cell? ⟨wr.heap.size,3,none⟩=some (.int .i64 z3):=cell_of_row _ _ _ _ _ _ OB.out
       have oc4:W1.cell? ⟨wr.heap.size,4,none⟩=some (.slice p1 ks.length d1):=cell_of_row _ _ _ _ _ _ OB.out
       have oc5:W1.cell? ⟨wr.heap.size,5,none⟩=some (.slice p2 vs.length d2):=cell_of_row _ _ _ _ _ _ OB.out
       go_wp2_with (first
        | (go_at_call 14;refine (step_any w3.heap.size P n H D G W k j z0 z1 z2 z3 ls p1 p2 d1 d2 ks vs w3 W1 A1.out SH.out (by omega) U1.out U2.out I1.out I2.out lk1 lk2 KM.out VM.out).mono ?_;rintro e w5 ⟨rfl,k5,a5⟩;have A5:=Ca.hid a5;clear a5))
       go_roundw
       case rel=>exact ⟨j+1,k5,by omega,by go_num,A5.out⟩
       case measure=>simp [intOf];omega
      ·have ej:j=len:=by omega
       subst ej
       have hj80:j<=80:=by omega
       obtain ⟨W0,hW0⟩:∃ W0,W0=wr:=⟨_,rfl⟩
       subst hW0
       obtain ⟨g,b,R,M,al',cl',va,vr,C,T,L,t,q,zs,col,hC,hB,hD,hF,hG,hw,hBs⟩:=AJ.out
       have hk0:0<k:=hG.2.2.2.2.2.1
       have hk5:k<=5:=hG.2.2.2.2.2.2
       have htj:t 0<=j:=hG.2.2.2.2.1 0 hk0
       have hC1:=hC.2.2 0 hk0
       obtain ⟨⟨hP,-⟩,⟨hva,-⟩,⟨hvr,-⟩,-⟩:=hB
       obtain ⟨ga,ca,Fa,rfl,-,hra,hca,fa⟩:=row_of_own hva hk0
       obtain ⟨gr,cr,Fr',rfl,-,hrr,hcr,fr⟩:=row_of_own hvr hk0
       have fa':Fa 0=.pointer (some ⟨C 0,0,none⟩):=by have:=fa 0 hk0;unfold cptrs at this;simpa [hk0] using this
       have fr':Fr' 0=zs 0:=by have:=fr 0 hk0;simpa [hk0] using this
       obtain ⟨az,cz,ez,-⟩:=hD 0 hk0
       rw [ez] at fr'
       have y1:W0.cell? ⟨w.heap.size,1,none⟩=some (.int .i64 (H:Int)):=cell_of_row _ _ _ _ _ _ ((AJ.out.below.block _ (by omega)).trans Z3.out)
       have wlt:w.heap.size<W0.heap.size:=World.block_lt_of_cell? W0 _ y1
       have KQ:Hid (∀ v,Below W0.heap.size W0 v->v.cell? ⟨P,6,none⟩=some (.slice (some ⟨ga,0,none⟩) k ca)/\v.cell? ⟨P,7,none⟩=some (.slice (some ⟨gr,0,none⟩) k cr)/\v.cell? ⟨ga,0,none⟩=some (.pointer (some ⟨C 0,0,none⟩))/\v.cell? ⟨gr,0,none⟩=some (.slice az ls.length cz)/\v.cell? ⟨w.heap.size,1,none⟩=some (.int .i64 (H:Int))):=fun v hv =>
        ⟨(hv.cell (p:=⟨P,6,none⟩) hP.lt).trans (hP.cell (show 6<8 by decide)),(hv.cell (p:=⟨P,7,none⟩) hP.lt).trans (hP.cell (show 7<8 by decide)),by rw [hv.cell (p:=⟨ga,0,none⟩) hra.lt,hra.cell (by omega),fa'],by rw [hv.cell (p:=⟨gr,0,none⟩) hrr.lt,hrr.cell (by omega),fr'],(hv.cell (p:=⟨w.heap.size,1,none⟩) wlt).trans y1⟩
       have KC:=Ca.hid (fun (v:World) (hv:Below W0.heap.size W0 v)=>(⟨hC1.1.below hv,hC.1.keep hv⟩:CaAt v col (0+1) g (C 0) H D G W ls M (L 0) (cn ls.length (t 0) (q 0)) (tkD (T 0) H) (qD G W (T 0) H)/\PoolAt v g b n R M))
       have RO:=Ca.hid (hG.rows hk0)
       have LY:=Ca.hid hC1.2.1
       have OKD:=Ca.hid hC1.2.2
       have TKL:Hid (∀ r,r<ls.length*H->(tkD (T 0) H r).length<=1000/\∀ i (h:i<(tkD (T 0) H r).length),TokOk H D (tkD (T 0) H r)[i]):=fun r hr=>by
        have h1:r / H<ls.length:=Nat.div_lt_of_lt_mul (by rw [Nat.mul_comm];exact hr)
        have h2:=LY.out.2.2 _ h1
        have h3:=lv_le (t 0) (q 0) (r / H)
        exact ⟨by unfold tkD;omega,OKD.out (r / H)⟩
       have sl:1<=ls.length:=SH.out.nums.2.2.2.1
       have sl2:ls.length<=4:=SH.out.nums.2.2.2.2.1
       obtain ⟨p6,p7,pa0,pr0,y1⟩:=KQ.out W0 (Below.refl _ _)
       have hks:(k:Int)<=5:=by omega
       have hk0':(0:Int)<(k:Int):=by omega
       clear hC hD hF hG hw hP hra hrr hca hcr fa fr fa' fr' ez hC1 LY OKD
       go_wp2
       clear p6 p7 pa0 pr0 y1
       go_loopw [66] (fun i wq=>∃ s:Nat,s<=ls.length/\i=.int .i64 s/\Hid (Below W0.heap.size W0 wq)) (fun i _=>ls.length - (intOf i).toNat)
       case atStart=>exact ⟨0,Nat.zero_le _,rfl,Below.refl _ _⟩
       case round =>
        obtain ⟨s,hs,rfl,B1⟩:=hrel
        have B1q:=B1
        obtain ⟨-,-,-,-,y1⟩:=KQ.out wr B1.out
        by_cases hlt1:s<ls.length
        ·go_wp2
         clear y1
         go_loopw [72] (fun i wq=>∃ h:Nat,h<=H/\i=.int .i64 h/\Hid (Below W0.heap.size W0 wq)) (fun i _=>H - (intOf i).toNat)
         case atStart=>exact ⟨0,Nat.zero_le _,rfl,B1q.out⟩
         case round =>
          obtain ⟨h,hh,rfl,B2⟩:=hrel
          by_cases hlt2:h<H
          ·obtain ⟨r,er⟩:∃ r,s*H+h=r:=⟨_,rfl⟩
           have ER:=Ca.hid er
           have hr:r<ls.length*H:=by
            have h1:(s+1)*H<=ls.length*H:=Nat.mul_le_mul_right H (by omega)
            rw [Nat.add_mul] at h1
            omega
           obtain ⟨q0,eq0⟩:∃ q0,qD G W (T 0) H r=q0:=⟨_,rfl⟩
           have EQ:=Ca.hid eq0
           obtain ⟨tl,hT⟩:=TKL.out r hr
           obtain ⟨l,el⟩:∃ l,tkD (T 0) H r=l:=⟨_,rfl⟩
           have EL:=Ca.hid el
           have HT:=Ca.hid hT
           have DK:=rows_deep (KC.out wr B2.out).1 SH.out hlt1 hlt2 er eq0
           have VR:=Ca.hid (vk_rows hlt2 hT h4' DK)
           have hs2:=B2.out.size
           clear er eq0 el hT DK
           go_wp2_with (first
            | (go_at_call 22;refine (view_u (C 0) (0+1) g b n H D G W s h r q0 ls R M (L 0) (t 0) (q 0) (tkD (T 0) H) (qD G W (T 0) H) col wr (KC.out wr B2.out).2 (KC.out wr B2.out).1 SH.out hlt1 hlt2 ER.out EQ.out tl HT.out RO.out).mono ?_;rintro e u1 ⟨v1,v2,xs1,ys1,rfl,htw,hb⟩;obtain ⟨a1,c1,rfl⟩:=Ca.own_slice htw.own;obtain ⟨a2,c2,rfl⟩:=Ca.own_slice htw.swap.own;have R1:=Ca.hid ((htw.rows (fun x hx=>by have:=VR.out.1 x hx;omega)).mono hs2);have R2:=Ca.hid ((htw.swap.rows (fun x hx=>by have:=VR.out.2 x hx;omega)).mono hs2);have B3:Hid (Below W0.heap.size W0 u1):=B2.out.trans (hb.mono hs2);have hs3:=B3.out.size;clear htw hb)
            | (go_at_call 30;refine (plain_u (C 0) (0+1) g H D G W s h r q0 ls M (L 0) (t 0) (q 0) (tkD (T 0) H) (qD G W (T 0) H) col u1 (KC.out u1 B3.out).1 SH.out hlt1 hlt2 ER.out EQ.out HT.out).mono ?_;rintro e u2 ⟨S,v3,v4,xs3,ys3,rfl,hS,ac3,ac4,-,-,-,hb⟩;obtain ⟨a5,c5,rfl⟩:=Ca.own_slice ac3.1;obtain ⟨a6,c6,rfl⟩:=Ca.own_slice ac4.1;have R3:=Ca.hid (rows_of_acc (B:=W0.heap.size) ac3 (fun q hq=>Nat.le_trans hs3 (hS q hq).1) hs3 (fun x hx=>by rw [rows_ks hlt2 (tok_drop HT.out) hx];omega));have R4:=Ca.hid (rows_of_acc (B:=W0.heap.size) ac4 (fun q hq=>Nat.le_trans hs3 (hS q hq).1) hs3 (fun x hx=>by rw [rows_vs hlt2 (tok_drop HT.out) hx];omega));have R1b:=Ca.hid (R1.out.keep hb);have R2b:=Ca.hid (R2.out.keep hb);have B4:Hid (Below W0.heap.size W0 u2):=B3.out.trans (hb.mono hs3);have hs4:=B4.out.size;clear hS ac3 ac4 hb))
           have lk:(Ca.ksOf ((tkD (T 0) H r).drop (q0*G)) h).length<=100000:=by unfold Ca.ksOf;rw [List.length_map,List.length_drop];omega
           have lv':(Ca.vsOf ((tkD (T 0) H r).drop (q0*G)) h).length<=100000:=by unfold Ca.vsOf;rw [List.length_map,List.length_drop];omega
           have FF:=Ca.hid (f4_made R1b.out R2b.out R3.out R4.out (by omega) (by omega) lk lv' hs4)
           have B5:Hid (Below W0.heap.size W0 (u2.alloc (.cells #[.slice a1 (tkD (T 0) H r).length c1,.slice a2 (tkD (T 0) H r).length c2,.slice a5 (Ca.ksOf ((tkD (T 0) H r).drop (q0*G)) h).length c5,.slice a6 (Ca.vsOf ((tkD (T 0) H r).drop (q0*G)) h).length c6] 42))):=B4.out.trans ((box_below _ _).mono hs4)
           obtain ⟨u3,hu3⟩:∃ u3,u2.alloc (.cells #[.slice a1 (tkD (T 0) H r).length c1,.slice a2 (tkD (T 0) H r).length c2,.slice a5 (Ca.ksOf ((tkD (T 0) H r).drop (q0*G)) h).length c5,.slice a6 (Ca.vsOf ((tkD (T 0) H r).drop (q0*G)) h).length c6] 42)=u3:=⟨_,rfl⟩
           try rw [hu3]
           rw [hu3] at FF B5
           obtain ⟨bb,ebb⟩:∃ bb,u2.heap.size=bb:=⟨_,rfl⟩
           try rw [ebb]
           rw [ebb] at FF
           obtain ⟨vec,evec⟩:∃ vec,vec4 (.slice a1 (tkD (T 0) H r).length c1) (.slice a2 (tkD (T 0) H r).length c2) (.slice a5 (Ca.ksOf ((tkD (T 0) H r).drop (q0*G)) h).length c5) (.slice a6 (Ca.vsOf ((tkD (T 0) H r).drop (q0*G)) h).length c6)=vec:=⟨_,rfl⟩
           obtain ⟨ns,ens⟩:∃ ns,num4 (tkD (T 0) H r).length (tkD (T 0) H r).length (Ca.ksOf ((tkD (T 0) H r).drop (q0*G)) h).length (Ca.vsOf ((tkD (T 0) H r).drop (q0*G)) h).length=ns:=⟨_,rfl⟩
           obtain ⟨xss,exss⟩:∃ xss,xss4 xs1 ys1 xs3 ys3=xss:=⟨_,rfl⟩
           rw [evec,ens,exss] at FF
           clear hu3 ebb evec ens exss R1 R2 R3 R4 R1b R2b lk lv'
           go_loopw [95] (fun i wq=>∃ m:Nat,m<=4/\i=.int .i64 m/\Hid (F4 W0.heap.size wq bb vec ns xss)/\Hid (Below W0.heap.size W0 wq)) (fun i _=>4 - (intOf i).toNat)
           case atStart=>exact ⟨0,Nat.zero_le _,rfl,FF.out,B5.out⟩
           case round =>
            obtain ⟨m,hm,rfl,F6,B6⟩:=hrel
            have F6q:=F6
            have B6q:=B6
            by_cases hlt3:m<4
            ·obtain ⟨hn1,hr1⟩:=F6.out.2 m hlt3
             obtain ⟨ra,rc,erv⟩:=Ca.own_slice hr1.1
             obtain ⟨nn,enn⟩:∃ nn,ns m=nn:=⟨_,rfl⟩
             rw [enn] at erv hn1
             have NN:=Ca.hid enn
             have ERV:=Ca.hid erv
             have zc:wr.cell? ⟨bb,m,none⟩=some (.slice ra nn rc):=by rw [F6.out.1.1.cell hlt3,erv]
             have i0:(0:Int)<=(m:Int):=by omega
             have i1:(m:Int)<4:=by omega
             clear hr1 enn erv
             go_wp2
             clear zc
             go_loopw [101] (fun i wq=>∃ y:Nat,y<=nn/\i=.int .i64 y/\Hid (F4 W0.heap.size wq bb vec ns xss)/\Hid (Below W0.heap.size W0 wq)) (fun i _=>nn - (intOf i).toNat)
             case atStart=>exact ⟨0,Nat.zero_le _,rfl,F6q.out,B6q.out⟩
             case round =>
              obtain ⟨y,hy,rfl,F7,B7⟩:=hrel
              have F7q:=F7
              have B7q:=B7
              by_cases hlt4:y<nn
              ·obtain ⟨-,hr1⟩:=F7.out.2 m hlt3
               rw [ERV.out,NN.out] at hr1
               obtain ⟨rg,rcap,RF,erg,-,hrow,hcp,hfx⟩:=row_of_own hr1.1 (by omega)
               cases erg
               have fu:=hfx y hlt4
               obtain ⟨u,eu⟩:∃ u,RF y=u:=⟨_,rfl⟩
               rw [eu] at fu
               obtain ⟨ua,ul,uc,rfl,hul,-⟩:=hr1.2 y u fu.symm
               have UU:Hid (∀ v,F4 W0.heap.size v bb vec ns xss->LooseU W0.heap.size v (.slice ua ul uc)):=fun v hv=>(hv.2 m hlt3).2.2 y _ fu.symm
               have zr:wr.cell? ⟨rg,y,none⟩=some (.slice ua ul uc):=by rw [hrow.cell (by omega),eu]
               have j0:(0:Int)<=(y:Int):=by omega
               have j1:(y:Int)<(nn:Int):=by omega
               clear fu eu hfx hcp hrow hr1
               go_wp2
               clear zr
               go_loopw [107] (fun i wq=>∃ x:Nat,x<=ul/\i=.int .i64 x/\Hid (F4 W0.heap.size wq bb vec ns xss)/\Hid (Below W0.heap.size W0 wq)) (fun i _=>ul - (intOf i).toNat)
               case atStart=>exact ⟨0,Nat.zero_le _,rfl,F7q.out,B7q.out⟩
               case round =>
                obtain ⟨x,hx,rfl,F8,B8⟩:=hrel
                by_cases hlt5:x<ul
                ·obtain ⟨ua',ul',uc',eu',-,hrw⟩:=UU.out wr F8.out
                 cases eu'
                 obtain ⟨ub,uo,un,uf,rfl,yb,hur,hun,huf⟩:=hrw (by omega)
                 obtain ⟨vv,evv⟩:=huf x hlt5
                 have hc1:wr.cell? ⟨ub,uo+x,none⟩=some (.int .i32 vv):=by rw [hur.cell (by omega),evv]
                 have hc2:wr.frozen? ⟨ub,uo+x,none⟩=false:=hur.frozen _
                 have TY:=Ca.hid (ty_row hur)
                 have YB:=Ca.hid yb
                 have e2:(0:Int)<=(x:Int):=by omega
                 have e3:(x:Int)<(ul:Int):=by omega
                 clear hur hun huf evv yb hrw
                 go_wp2
                 go_roundw
                 case rel=>exact ⟨x+1,by omega,by go_num,F8.out.set TY.out _ _,B8.out.setCell (p:=⟨ub,uo+x,none⟩) YB.out _⟩
                 case measure=>simp [intOf];omega
                ·have ex:x=ul:=by omega
                 subst ex
                 go_wp2
                 go_roundw
                 case rel=>exact ⟨y+1,by omega,by go_num,F8.out,B8.out⟩
                 case measure=>simp [intOf];omega
              ·have ey:y=nn:=by omega
               subst ey
               go_wp2
               go_roundw
               case rel=>exact ⟨m+1,by omega,by go_num,F7.out,B7.out⟩
               case measure=>simp [intOf];omega
            ·have em:m=4:=by omega
             subst em
             go_wp2
             go_roundw
             case rel=>exact ⟨h+1,by omega,by go_num,B6.out⟩
             case measure=>simp [intOf];omega
          ·have eh:h=H:=by omega
           subst eh
           go_wp2
           go_roundw
           case rel=>exact ⟨s+1,by omega,by go_num,B2.out⟩
           case measure=>simp [intOf];omega
        ·have es:s=ls.length:=by omega
         subst es
         have hs1:=B1.out.size
         clear y1
         go_upto_region 37 with (go_at_call 31;refine (shape_u (C 0) g H D G W ls M (L 0) _ _ _ (0+1) col wr (KC.out wr B1.out).1 (by omega) (by omega)).mono ?_;rintro e u1 ⟨a8,c8,rfl,hg8,hu8,hp8,hb⟩;have BU8:=Ca.hid (bitsU_of (B:=W0.heap.size) hu8 hp8 (by omega));have B2:Hid (Below W0.heap.size W0 u1):=B1.out.trans (hb.mono hs1);have hs2:=B2.out.size;have ha8:a8<u1.heap.size:=(by obtain ⟨cs8,e8⟩:=hu8;exact (Array.getElem?_eq_some_iff.1 e8).1);clear hg8 hu8 hp8 hb)
         obtain ⟨u4,hu4⟩:∃ u4,u1.alloc (.cells #[.int .i64 (H:Int),.int .i64 (D:Int),.int .i64 (G:Int),.int .i64 (W:Int),.slice (some ⟨a8,0,none⟩) ls.length c8] 26)=u4:=⟨_,rfl⟩
         have B9:Hid (Below W0.heap.size W0 u4):=by rw [<-hu4];exact B2.out.trans ((box_below _ _).mono hs2)
         have BU9:Hid (BitsU W0.heap.size u4 a8 ls.length):=by rw [<-hu4];exact BU8.out.keep (box_below _ _)
         have SB9:Hid (u4.heap[u1.heap.size]?=some (.cells #[.int .i64 (H:Int),.int .i64 (D:Int),.int .i64 (G:Int),.int .i64 (W:Int),.slice (some ⟨a8,0,none⟩) ls.length c8] 26)):=by rw [<-hu4];exact heap_alloc_new u1 _
         try rw [hu4]
         obtain ⟨sb,esb⟩:∃ sb,u1.heap.size=sb:=⟨_,rfl⟩
         rw [esb] at SB9 ha8
         try rw [esb]
         have zs4:u4.cell? ⟨sb,4,none⟩=some (.slice (some ⟨a8,0,none⟩) ls.length c8):=cell_of_row _ _ _ _ _ _ SB9.out
         clear hu4 esb BU8
         go_wp2
         clear zs4
         go_loopw [127] (fun i wq=>∃ s:Nat,s<=ls.length/\i=.int .i64 s/\Hid (BitsU W0.heap.size wq a8 ls.length)/\Hid (wq.heap[sb]?=some (.cells #[.int .i64 (H:Int),.int .i64 (D:Int),.int .i64 (G:Int),.int .i64 (W:Int),.slice (some ⟨a8,0,none⟩) ls.length c8] 26))/\Hid (Below W0.heap.size W0 wq)) (fun i _=>ls.length - (intOf i).toNat)
         case atStart=>exact ⟨0,Nat.zero_le _,rfl,BU9.out,SB9.out,B9.out⟩
         case round =>
          obtain ⟨s,hs,rfl,BU,SB1,BL⟩:=hrel
          by_cases hlt6:s<ls.length
          ·obtain ⟨hB8,bn,bf,hbr,hbn,hbf⟩:=BU.out
           obtain ⟨vv,evv⟩:=hbf s hlt6
           have zs4:wr.cell? ⟨sb,4,none⟩=some (.slice (some ⟨a8,0,none⟩) ls.length c8):=cell_of_row _ _ _ _ _ _ SB1.out
           have hc1:wr.cell? ⟨a8,s*2,none⟩=some (.int .i64 vv):=by rw [hbr.cell (by omega),evv]
           have hc2:wr.frozen? ⟨a8,s*2,none⟩=false:=hbr.frozen _
           have e2:(0:Int)<=(s:Int):=by omega
           have e3:(s:Int)<(ls.length:Int):=by omega
           clear hbr hbn hbf evv
           go_wp2
           go_roundw
           case rel=>exact ⟨s+1,by omega,by go_num,BU.out.set _ _,(Below.heap_setCell _ _ _ _ (show sb ≠ a8 by omega)).trans SB1.out,BL.out.setCell (p:=⟨a8,s*2,none⟩) hB8 _⟩
           case measure=>simp [intOf];omega
          ·have es:s=ls.length:=by omega
           subst es
           obtain ⟨-,p7,-,pr0,y1⟩:=KQ.out wr BL.out
           go_upto_region 42 with fail
           go_region
           obtain ⟨u5,hu5⟩:∃ u5,(wr.alloc (.cells #[.int .i64 (-1),.int .i64 0,.int .i64 (ls.length:Int),.int .i64 0,.int .i64 0,.int .i64 (-1),.int .i64 0,.int .i64 (H:Int)] 78)).drew=u5:=⟨_,rfl⟩
           have hsl:=BL.out.size
           have B10:Hid (Below W0.heap.size W0 u5):=by rw [<-hu5];exact (BL.out.trans ((box_below _ _).mono hsl)).drew
           have NB5:Hid (u5.heap[wr.heap.size]?=some (.cells #[.int .i64 (-1),.int .i64 0,.int .i64 (ls.length:Int),.int .i64 0,.int .i64 0,.int .i64 (-1),.int .i64 0,.int .i64 (H:Int)] 78)):=by rw [<-hu5];exact heap_alloc_new wr _
           try rw [hu5]
           obtain ⟨nb,enb⟩:∃ nb,wr.heap.size=nb:=⟨_,rfl⟩
           rw [enb] at NB5
           try rw [enb]
           clear hu5 enb p7 pr0 y1
           go_wp2
           go_loopw [153] (fun i wq=>∃ m:Nat,m<=4/\i=.int .i64 m/\Hid (wq.heap[nb]?=some (.cells #[.int .i64 (-1),.int .i64 0,.int .i64 (ls.length:Int),.int .i64 0,.int .i64 0,.int .i64 (-1),.int .i64 0,.int .i64 (H:Int)] 78))/\Hid (Below W0.heap.size W0 wq)) (fun i _=>4 - (intOf i).toNat)
           case atStart=>exact ⟨0,Nat.zero_le _,rfl,NB5.out,B10.out⟩
           case round =>
            obtain ⟨m,hm,rfl,NB6,B11⟩:=hrel
            have hs11:=B11.out.size
            by_cases hlt7:m<4
            ·obtain ⟨x,y,zx,zy,hno⟩:=four_places NB6.out hlt7
             have HNO:=Ca.hid hno
             have i0:(0:Int)<=(m:Int):=by omega
             have i1:(m:Int)<4:=by omega
             have nlt:=World.block_lt_of_cell? wr _ zx
             go_upto_region 45 with fail
             obtain ⟨u6,hu6⟩:∃ u6,wr.alloc (.cells #[.int .i64 x,.int .i64 y] 78)=u6:=⟨_,rfl⟩
             have B12:Hid (Below W0.heap.size W0 u6):=by rw [<-hu6];exact B11.out.trans ((box_below _ _).mono hs11)
             have XB6:Hid (u6.heap[wr.heap.size]?=some (.cells #[.int .i64 x,.int .i64 y] 78)):=by rw [<-hu6];exact heap_alloc_new wr _
             have NB7:Hid (u6.heap[nb]?=some (.cells #[.int .i64 (-1),.int .i64 0,.int .i64 (ls.length:Int),.int .i64 0,.int .i64 0,.int .i64 (-1),.int .i64 0,.int .i64 (H:Int)] 78)):=by rw [<-hu6];exact ((box_below wr _).block nb nlt).trans NB6.out
             try rw [hu6]
             obtain ⟨xb,exb⟩:∃ xb,wr.heap.size=xb:=⟨_,rfl⟩
             rw [exb] at XB6
             try rw [exb]
             have XL:=(Array.getElem?_eq_some_iff.1 XB6.out).1
             have hs12:=B12.out.size
             have XC:Hid (∀ v,Below u6.heap.size u6 v->v.cell? ⟨xb,0,none⟩=some (.int .i64 x)/\v.cell? ⟨xb,1,none⟩=some (.int .i64 y)/\v.heap[nb]?=some (.cells #[.int .i64 (-1),.int .i64 0,.int .i64 (ls.length:Int),.int .i64 0,.int .i64 0,.int .i64 (-1),.int .i64 0,.int .i64 (H:Int)] 78)/\Below W0.heap.size W0 v):=fun v hv=>by
              have h1:=(hv.block _ XL).trans XB6.out
              exact ⟨cell_of_row _ _ _ _ _ _ h1,cell_of_row _ _ _ _ _ _ h1,(hv.block _ (Array.getElem?_eq_some_iff.1 NB7.out).1).trans NB7.out,B12.out.trans (hv.mono hs12)⟩
             obtain ⟨q0,q1,-,-⟩:=XC.out u6 (Below.refl _ _)
             have hH4:H<=4:=h2'
             clear hu6 exb zx zy hno
             go_wp2_with (first
              | (go_at_call 22;refine (view_no_c (C 0) g H D G W ls (t 0) (q 0) x y u6 (KC.out u6 B12.out).1.bd sl2 hH4 HNO.out).mono ?_;rintro e v7 ⟨rfl,hb⟩;have B7:=Ca.hid hb;clear q0 q1;obtain ⟨q0,q1,-,b7⟩:=XC.out v7 hb;have BB7:=Ca.hid b7;clear hb b7)
              | (go_at_call 30;refine (plain_no_c (C 0) g H D G W ls (t 0) (q 0) x y v7 (KC.out v7 BB7.out).1.bd sl2 hH4 HNO.out).mono ?_;rintro e v8 ⟨rfl,hb⟩;have B8:=Ca.hid (B7.out.trans (hb.mono B7.out.size));clear q0 q1;obtain ⟨q0,q1,n8,b8⟩:=XC.out v8 B8.out;have N8:=Ca.hid n8;have BB8:=Ca.hid b8;clear hb b8 n8)
              | (go_at_call 24;refine (pages_no_c (C 0) g H D G W ls (t 0) (q 0) x y v8 (KC.out v8 BB8.out).1.bd sl2 hH4 HNO.out).mono ?_;rintro e w' ⟨rfl,hww⟩;cases hww.symm;clear hww))
             go_roundw
             case rel=>exact ⟨m+1,by omega,by go_num,N8.out,BB8.out⟩
             case measure=>simp [intOf];omega
            ·have em:m=4:=by omega
             subst em
             have AW:=Ca.hid (AJ.out.keep B11.out)
             have BWs:Hid (Below w.heap.size w wr):=B3.out.trans (AW.out.below.mono B3.out.size)
             go_wp2_with (first
              | (go_at_call 16;refine (is_plq w3.heap.size P n H D G W k j 0 ls w3 wr AW.out SH.out hk0 (by omega)).mono ?_;rintro e v8 ⟨rfl,hb⟩;have BV:=Ca.hid (BWs.out.trans (hb.mono BWs.out.size));clear hb)
              | (go_at_call 9;refine (caAwake_any _).mono ?_;rintro e v9 ⟨rfl,hb⟩;have BV9:=Ca.hid (BV.out.trans (hb.mono BV.out.size));clear hb))
             go_ret
             exact ⟨by simp,BV9.out⟩
end Cc
end Go.Proofs.YtnchnlgnnlgjcaaGreat
