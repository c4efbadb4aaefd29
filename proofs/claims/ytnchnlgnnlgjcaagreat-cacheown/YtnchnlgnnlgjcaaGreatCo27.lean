import Derived.Test.YtnchnlgnnlgjcaaGreatCo26
import Derived.Test.YtnchnlgnnlgjcaaGreatCo25
import Derived.Test.YtnchnlgnnlgjcaaGreatCo14
import Derived.Test.YtnchnlgnnlgjcaaGreatCo17
import Derived.Test.YtnchnlgnnlgjcaaGreatCo23
import Derived.Test.YtnchnlgnnlgjcaaGreatCo21
set_option linter.unusedVariables false
set_option linter.unusedSimpArgs false
namespace Go.Proofs.YtnchnlgnnlgjcaaGreat
open Go.RowKit
namespace Cc
theorem cut_open_c (C g H D G W:Nat) (ls:List (Int × Int)) (t k:Nat) (N:Int) (w:World) (h:Bd w C g H D G W ls t k) (hk:k<ls.length) (hl:ls.length<=4) (hk0:¬ k=0) :
 Calls Tryz.prog 28 #[.pointer (some ⟨C,0,none⟩),.int .i64 N] w fun e w'=>e=.returned (.int .i64 24)/\Below w.heap.size w w':=by
 have OP:=Ca.hid (open_c C g H D G W ls t k true w h hk hl (decide_eq_true hk0))
 clear h
 go_enter Tryz.func28,Tryz.ntmps28
 go_wp2_with (go_at_call 73;refine OP.out.mono ?_;rintro e w1 ⟨rfl,hb⟩;have B1:=Ca.hid hb;clear hb)
 go_ret
 exact ⟨rfl,B1.out⟩
theorem box_plan {w:World} {G W:Int} {v:Value}:((w.alloc (.cells #[.int .i64 G,.int .i64 W,v] 24)).cell? ⟨w.heap.size,0,none⟩=some (.int .i64 G))/\((w.alloc (.cells #[.int .i64 G,.int .i64 W,v] 24)).cell? ⟨w.heap.size,1,none⟩=some (.int .i64 W))/\((w.alloc (.cells #[.int .i64 G,.int .i64 W,v] 24)).cell? ⟨w.heap.size,2,none⟩=some v) :=
 ⟨cell_new w 0 _ _ 0,cell_new w 0 _ _ 1,cell_new w 0 _ _ 2⟩
set_option maxHeartbeats 1600000 in
theorem cut_range_c (C g H D G W:Nat) (ls:List (Int × Int)) (t:Nat) (N:Int) (w:World) (h:Bd w C g H D G W ls t 0) (hk:0<ls.length) (hl:ls.length<=4) (hG:1<=G) (hG2:G<=16) (hW:W<=64) (ht:t<=500) (hN:N<0\/t<N\/gn G W N.toNat<gn G W t) :
 Calls Tryz.prog 28 #[.pointer (some ⟨C,0,none⟩),.int .i64 N] w fun e w'=>e=.returned (.int .i64 11)/\Below w.heap.size w w':=by
 have OP:=Ca.hid (open_c C g H D G W ls t 0 false w h hk hl (decide_eq_false (by omega)))
 have HB:=Ca.hid h
 clear h
 go_enter Tryz.func28,Tryz.ntmps28
 go_upto_region 4 with (go_at_call 73;refine OP.out.mono ?_;rintro e w1 ⟨rfl,hb⟩;have B1:=Ca.hid hb;obtain ⟨al,cl,T,pb,m,pc,ct,cc,-,-,-,x3,x4,x5,-,-,-,hlt,-⟩:=(HB.out.keep hb).cells;clear hb)
 obtain ⟨u,hu⟩:∃ u,w1.alloc (.cells #[.int .i64 (G:Int),.int .i64 (W:Int),.slice al ls.length cl] 24)=u:=⟨_,rfl⟩
 have UB:Hid (Below w1.heap.size w1 u):=by rw [<-hu];exact Rt.box_below _ _
 have bp:=box_plan (w:=w1) (G:=(G:Int)) (W:=(W:Int)) (v:=.slice al ls.length cl)
 rw [hu] at bp
 rw [hu]
 have k0:=cell_regrown bp.1
 have k1:=cell_regrown bp.2.1
 have k2:=cell_regrown bp.2.2
 have HU:Hid (Bd u C g H D G W ls t 0):=(HB.out.keep B1.out).keep UB.out
 have WU:Hid (Below w.heap.size w u):=B1.out.trans (UB.out.mono B1.out.size)
 have cT:=Tn.reg_of (u:=u) fun v hv=>(tokens_c C g H D G W ls t 0 v (HU.out.keep hv) hk hl).mono fun _ _ ⟨h1,n,h2⟩=>⟨h1,by rw [h2];exact Rt.below_drewN (Below.refl _ _) n⟩
 clear x3 x4 x5 bp hu
 by_cases c1:0<=N/\N<=t
 ·have hlt2:gn G W N.toNat<gn G W t:=by
   rcases hN with h | h | h
   ·omega
   ·omega
   ·exact h
  obtain ⟨N',rfl⟩:∃ n:Nat,N=(n:Int):=⟨N.toNat,by omega⟩
  rw [Int.toNat_natCast] at hlt2
  have cW:=Tn.reg_of (u:=u) fun v hv=>(within_c (N':Int) 0 (t:Int) true (by simp;omega) v).mono fun _ _ ⟨h1,h2⟩=>⟨h1,by rw [h2];exact Below.refl _ _⟩
  have G1:Tn.Tr.grp G W (N':Int)=(gn G W N':Int):=grp_gn (by omega)
  have G2:Tn.Tr.grp G W (t:Int)=(gn G W t:Int):=grp_gn (by omega)
  obtain ⟨n1,e1⟩:∃ n,gn G W N'=n:=⟨_,rfl⟩
  obtain ⟨n2,e2⟩:∃ n,gn G W t=n:=⟨_,rfl⟩
  rw [e1] at G1 hlt2
  rw [e2] at G2 hlt2
  have cG1:=Tn.reg_of (u:=u) fun v _=>Tn.groups_any (G:Int) (W:Int) (N':Int) (n1:Int) al ls.length cl (by omega) (by omega) (by omega) (by omega) G1 v
  have cG2:=Tn.reg_of (u:=u) fun v _=>Tn.groups_any (G:Int) (W:Int) (t:Int) (n2:Int) al ls.length cl (by omega) (by omega) (by omega) (by omega) G2 v
  have d1:decide ((n1:Int)<(n2:Int))=true:=decide_eq_true (by omega)
  have d2:decide (n1<n2)=true:=decide_eq_true hlt2
  clear G1 G2 e1 e2 c1 hN
  refine wp_region_quiet_below (by kernel_rfl) (by kernel_rfl) ?_
  repeat (go_big_quiet_step (first | (with_reducible exact cT _ _) | (with_reducible exact cW _ _) | (with_reducible exact cG1 _ _) | (with_reducible exact cG2 _ _)))
  refine wpQuiet_nil ?_
  intro wq hw'
  have BQ:Hid (Below w.heap.size w wq):=by obtain ⟨⟨dq,osq⟩,hw''⟩:=hw';rw [hw''];exact WU.out.trans ((below_regrown u dq osq).mono WU.out.size)
  clear hw'
  go_wp2
  go_ret
  exact ⟨rfl,BQ.out⟩
 ·have cW:=Tn.reg_of (u:=u) fun v hv=>(within_c N 0 (t:Int) false (by rw [Bool.eq_false_iff];intro e;simp at e;omega) v).mono fun _ _ ⟨h1,h2⟩=>⟨h1,by rw [h2];exact Below.refl _ _⟩
  clear c1 hN
  refine wp_region_quiet_below (by kernel_rfl) (by kernel_rfl) ?_
  repeat (go_big_quiet_step (first | (with_reducible exact cT _ _) | (with_reducible exact cW _ _)))
  refine wpQuiet_nil ?_
  intro wq hw'
  have BQ:Hid (Below w.heap.size w wq):=by obtain ⟨⟨dq,osq⟩,hw''⟩:=hw';rw [hw''];exact WU.out.trans ((below_regrown u dq osq).mono WU.out.size)
  clear hw'
  go_wp2
  go_ret
  exact ⟨rfl,BQ.out⟩
def tkt (tk:Nat->List Tok) (N j i:Nat):List Tok:=if i<j then (tk i).take N else tk i
theorem tkt_next (tk:Nat->List Tok) (N j:Nat):(fun i=>if i=j then (tkt tk N j j).take N else tkt tk N j i)=tkt tk N (j+1):=by
 funext i
 unfold tkt
 by_cases e:i=j
 ·rw [if_pos e,if_neg (Nat.lt_irrefl _),if_pos (show i<j+1 by omega),e]
 ·rw [if_neg e]
  by_cases h:i<j
  ·rw [if_pos h,if_pos (show i<j+1 by omega)]
  ·rw [if_neg h,if_neg (show ¬ i<j+1 by omega)]
def cnx (nl t N j:Nat):List Int:=(List.range nl).map fun i=>((if i<j then N else t:Nat):Int)
theorem cnx_zero (nl t N:Nat):cnx nl t N 0=cn nl t 0:=by unfold cnx cn lv;simp
theorem cnx_all (nl t N:Nat):cnx nl t N nl=cn nl N 0:=by
 unfold cnx cn lv
 apply List.map_congr_left
 intro i hi
 rw [List.mem_range] at hi
 rw [if_pos hi,if_neg (Nat.not_lt_zero _)]
theorem cnx_set {nl t N j:Nat} (h:j<nl):(cnx nl t N j).set j (N:Int)=cnx nl t N (j+1):=by
 apply List.ext_getElem
 ·simp [cnx]
 ·intro i h1 h2
  have hi:i<nl:=by simpa [cnx] using h2
  simp only [cnx,List.getElem_set,List.getElem_map,List.getElem_range]
  by_cases e:j=i
  ·rw [if_pos e,if_pos (show i<j+1 by omega)]
  ·rw [if_neg e]
   by_cases h:i<j
   ·rw [if_pos h,if_pos (show i<j+1 by omega)]
   ·rw [if_neg h,if_neg (show ¬ i<j+1 by omega)]
theorem nth_cnx {nl t N j i:Nat} (h:i<nl):(cnx nl t N j)[i]?=some ((if i<j then N else t:Nat):Int):=by simp [cnx,h]
set_option maxRecDepth 100000 in
set_option maxHeartbeats 3200000 in
theorem cut_ok_c (C c g b n H D G W N:Nat) (ls:List (Int × Int)) (R M:List Int) (L:Nat->List Int) (t:Nat) (tk:Nat->List Tok) (q:Nat->Nat) (col:Nat->Nat) (w:World) (hp:PoolAt w g b n R M) (h:CaAt w col c g C H D G W ls M L (cn ls.length t 0) tk q) (sh:ShOk H D G W ls) (ht:t<=500) (hN:N<=t) (hg:gn G W N=gn G W t)
 (hq:∀ r,r<ls.length*H->q r=gn G W t/\(tk r).length=t) (hfr:∀ x,w.heap.size<=x->col x=0) (c0:¬ c=0) :
 Calls Tryz.prog 28 #[.pointer (some ⟨C,0,none⟩),.int .i64 (N:Int)] w fun e w'=>e=.returned (.int .i64 0)/\PoolAt w' g b n R M /\
  CaAt w' col c g C H D G W ls M L (cn ls.length N 0) (fun i=>(tk i).take N) q/\Chg c g b w w' col col:=by
 obtain ⟨sH,sH2,-⟩:=id sh
 obtain ⟨sG,sG2,sW,sl,sl2,-⟩:=sh.nums
 have hk:0<ls.length:=by omega
 have hm:ls.length*H<=16:=Nat.le_trans (Nat.mul_le_mul sl2 sH2) (by decide)
 have OP:=Ca.hid (open_c C g H D G W ls t 0 false w h.bd hk sl2 (decide_eq_false (by omega)))
 have HB:=Ca.hid h.bd
 have HC:=Ca.hid h
 have HP:=Ca.hid hp
 have HQ:=Ca.hid hq
 have HFR:=Ca.hid hfr
 clear h hp hq hfr
 go_enter Tryz.func28,Tryz.ntmps28
 go_upto_region 4 with (go_at_call 73;refine OP.out.mono ?_;rintro e w1 ⟨rfl,hb⟩;have B1:=Ca.hid hb;obtain ⟨al,cl,T,pb,m,pc,ct,cc,-,-,-,x3,x4,x5,-,-,-,hlt,-⟩:=(HB.out.keep hb).cells;clear hb)
 obtain ⟨u,hu⟩:∃ u,w1.alloc (.cells #[.int .i64 (G:Int),.int .i64 (W:Int),.slice al ls.length cl] 24)=u:=⟨_,rfl⟩
 have UB:Hid (Below w1.heap.size w1 u):=by rw [<-hu];exact Rt.box_below _ _
 have bp:=box_plan (w:=w1) (G:=(G:Int)) (W:=(W:Int)) (v:=.slice al ls.length cl)
 have lu:Hid (w1.heap.size<u.heap.size):=by rw [<-hu];show w1.heap.size<_;simp
 rw [hu] at bp
 rw [hu]
 have BP:=Ca.hid bp
 have k0:=cell_regrown bp.1
 have k1:=cell_regrown bp.2.1
 have k2:=cell_regrown bp.2.2
 have HU:Hid (Bd u C g H D G W ls t 0):=(HB.out.keep B1.out).keep UB.out
 have WU:Hid (Below w.heap.size w u):=B1.out.trans (UB.out.mono B1.out.size)
 have cT:=Tn.reg_of (u:=u) fun v hv=>(tokens_c C g H D G W ls t 0 v (HU.out.keep hv) hk sl2).mono fun _ _ ⟨h1,n,h2⟩=>⟨h1,by rw [h2];exact Rt.below_drewN (Below.refl _ _) n⟩
 have cW:=Tn.reg_of (u:=u) fun v hv=>(within_c (N:Int) 0 (t:Int) true (by simp;omega) v).mono fun _ _ ⟨h1,h2⟩=>⟨h1,by rw [h2];exact Below.refl _ _⟩
 have G1:Tn.Tr.grp G W (N:Int)=(gn G W N:Int):=grp_gn (by omega)
 have G2:Tn.Tr.grp G W (t:Int)=(gn G W N:Int):=by rw [hg];exact grp_gn (by omega)
 obtain ⟨n1,e1⟩:∃ n,gn G W N=n:=⟨_,rfl⟩
 have EN:=Ca.hid e1
 have hnG:n1*G<=N:=by rw [<-e1];exact gn_mul sG
 rw [e1] at G1 G2
 have cG1:=Tn.reg_of (u:=u) fun v _=>Tn.groups_any (G:Int) (W:Int) (N:Int) (n1:Int) al ls.length cl (by omega) (by omega) (by omega) (by omega) G1 v
 have cG2:=Tn.reg_of (u:=u) fun v _=>Tn.groups_any (G:Int) (W:Int) (t:Int) (n1:Int) al ls.length cl (by omega) (by omega) (by omega) (by omega) G2 v
 have PLN:Hid (∀ v,Calls Tryz.prog 75 #[.agg #[.int .i64 (G:Int),.int .i64 (W:Int),.slice al ls.length cl],.int .i64 (N:Int)] v fun e w'=>e=.returned (.int .i64 ((N - n1*G:Nat):Int))/\Below v.heap.size v w'):=fun v =>
  Tn.plain_any (G:Int) (W:Int) (N:Int) _ al ls.length cl (by omega) (by omega) (by omega) (by omega) (by
   rw [G1]
   unfold Tn.Tr.near
   rw [if_neg (by omega),if_neg (by omega),<-Int.natCast_mul]
   omega) v
 clear x3 x4 x5 bp hu G1 G2 e1
 go_cut [30] from 16 to 30 (fun v wx=>v=.bool false/\Hid (Below u.heap.size u wx))
 case first =>
  refine wp_region_quiet_below (by kernel_rfl) (by kernel_rfl) ?_
  repeat (go_big_quiet_step (first | (with_reducible exact cT _ _) | (with_reducible exact cW _ _) | (with_reducible exact cG1 _ _) | (with_reducible exact cG2 _ _)))
  refine wpQuiet_nil ?_
  intro wq hw'
  have BQ:Hid (Below u.heap.size u wq):=by obtain ⟨⟨dq,osq⟩,hw''⟩:=hw';rw [hw''];exact below_regrown u dq osq
  clear hw'
  go_wp2_with fail
  go_meet
  first | exact ⟨rfl,BQ.out⟩ | exact ⟨by simp,BQ.out⟩
 case rest =>
  obtain ⟨rfl,BU⟩:=hcut
  have BW:Hid (Below w.heap.size w wc):=WU.out.trans (BU.out.mono WU.out.size)
  obtain ⟨al0,cl0,T,pb,pc,ct,cc,rg,rs,F,hin⟩:=HC.out.in
  obtain ⟨⟨hC,zC⟩,-,-,-,-⟩:=hin
  have x7:wc.cell? ⟨C,7,none⟩=some (.slice (some ⟨pb,0,none⟩) (ls.length*H) pc):=by rw [BW.out.cell (p:=⟨C,7,none⟩) hC.lt];exact hC.cell (show 7<9 by decide)
  have x8:wc.cell? ⟨C,8,none⟩=some (.slice (some ⟨ct,0,none⟩) ls.length cc):=by rw [BW.out.cell (p:=⟨C,8,none⟩) hC.lt];exact hC.cell (show 8<9 by decide)
  have X:=Ca.hid (And.intro x7 x8)
  have ZB:Hid (col w1.heap.size=0/\w1.heap.size<wc.heap.size):=⟨HFR.out _ B1.out.size,Nat.lt_of_lt_of_le lu.out BU.out.size⟩
  have Y:=Ca.hid (And.intro ((BU.out.cell (p:=⟨w1.heap.size,0,none⟩) lu.out).trans BP.out.1) (And.intro ((BU.out.cell (p:=⟨w1.heap.size,1,none⟩) lu.out).trans BP.out.2.1) ((BU.out.cell (p:=⟨w1.heap.size,2,none⟩) lu.out).trans BP.out.2.2)))
  clear hC zC k0 k1 k2 cT cW cG1 cG2 hlt x8
  go_wp2
  clear x7
  go_loopw [36] (fun i wq=>∃ j:Nat,j<=ls.length*H/\i=.int .i64 j/\Hid (wq.cell? ⟨C,7,none⟩=some (.slice (some ⟨pb,0,none⟩) (ls.length*H) pc)/\wq.cell? ⟨C,8,none⟩=some (.slice (some ⟨ct,0,none⟩) ls.length cc))/\w1.heap.size<wq.heap.size/\wq.cell? ⟨w1.heap.size,0,none⟩=some (.int .i64 (G:Int))/\wq.cell? ⟨w1.heap.size,1,none⟩=some (.int .i64 (W:Int))/\wq.cell? ⟨w1.heap.size,2,none⟩=some (.slice al ls.length cl) /\
   Hid (PoolAt wq g b n R M)/\Hid (CaAt wq col c g C H D G W ls M L (cn ls.length t 0) (tkt tk N j) q)/\Hid (Chg c g b w wq col col)) (fun i _=>ls.length*H - (intOf i).toNat)
  case atStart =>
   refine ⟨0,Nat.zero_le _,rfl,X.out,ZB.out.2,Y.out.1,Y.out.2.1,Y.out.2.2,HP.out.keep BW.out,?_,Chg.below BW.out HFR.out⟩
   rw [show tkt tk N 0=tk from funext fun i=>by unfold tkt;rw [if_neg (Nat.not_lt_zero _)]]
   exact HC.out.below BW.out
  case round =>
   obtain ⟨j,hj,rfl,XJ,lbx,y0,y1,y2,PJ,CJ,GJ⟩:=hrel
   obtain ⟨al',cl',T',pb',pc',ct',cc',rg',rs',F',hin⟩:=CJ.out.in
   have HJ:=Ca.hid hin
   obtain ⟨⟨hC,zC⟩,-,-,⟨hct,hcl,zct⟩,⟨hpb,hF,hpc,zp⟩,hdis,hrow⟩:=hin
   have e7:wr.cell? ⟨C,7,none⟩=some (.slice (some ⟨pb',0,none⟩) (ls.length*H) pc'):=hC.cell (show 7<9 by decide)
   rw [XJ.out.1] at e7
   have e8:pb=pb'/\pc=pc':=by injection e7 with e;injection e with e1 _ e2;injection e1 with e1;injection e1 with e1;exact ⟨e1,e2⟩
   obtain ⟨rfl,rfl⟩:=e8
   clear e7
   by_cases hlt:j<ls.length*H
   ·obtain ⟨_,_,_,f,l,hring,hll,htv,crg,crs⟩:=hrow j hlt
    have RW:=Ca.hid hring
    have LT:=Ca.hid (And.intro hll htv)
    have xr:wr.cell? ⟨pb,j,none⟩=some (.pointer (some ⟨rg' j,0,none⟩)):=by rw [hpb.cell (show j<pc by omega),hF j hlt]
    have NC:Hid (C<wr.heap.size/\¬ C=rg' j/\¬ C=rs' j):=⟨hC.lt,fun e=>c0 (by rw [<-crg,<-e];exact zC),fun e=>c0 (by rw [<-crs,<-e];exact zC)⟩
    have NB:Hid (¬ w1.heap.size=rg' j/\¬ w1.heap.size=rs' j):=⟨fun e=>c0 (by rw [<-crg,<-e];exact ZB.out.1),fun e=>c0 (by rw [<-crs,<-e];exact ZB.out.1)⟩
    have Y2:=Ca.hid (And.intro y0 (And.intro y1 y2))
    have tl:tkt tk N j j=tk j:=by unfold tkt;rw [if_neg (Nat.lt_irrefl _)]
    have hqj:q j=n1:=by rw [(HQ.out j hlt).1,<-hg,EN.out]
    have hkl:N - n1*G<=l.length:=by
     rw [tl,(HQ.out j hlt).2,hqj] at hll
     omega
    have TL:=Ca.hid (And.intro tl hqj)
    have e1:(j:Int)<(ls.length:Int)*(H:Int):=by rw [<-Int.natCast_mul];omega
    clear hC hct hpb hF hdis hrow hring hll htv tl hqj
    go_wp2_with (first
     | (go_at_call 75;(with_reducible refine (PLN.out _).mono ?_);rintro e w2 ⟨rfl,hb⟩;have B2:=Ca.hid hb;clear hb)
     | (go_at_call 71;(with_reducible refine (Rt.cut_yes (rg' j) (rs' j) (W+G) f (N - n1*G) l _ (RW.out.keep B2.out) hkl).mono ?_);rintro e w3 ⟨rfl,hri,hbt⟩;have RI:=Ca.hid hri;have BT:Hid (Rt.But (rg' j) (rs' j) wr w3):=(Rt.But.of_below B2.out).trans hbt;clear hri hbt))
    go_roundw
    case rel =>
     have tr:=HJ.out.trim (b:=b) GJ.out.fresh c0 hlt LT.out.1 LT.out.2 BT.out RI.out hkl
     refine ⟨j+1,by omega,by go_num,⟨?_,?_⟩,Nat.lt_of_lt_of_le lbx BT.out.size,?_,?_,?_,?_,?_,GJ.out.trans tr.2⟩
     ·rw [BT.out.cell (a:=⟨C,7,none⟩) NC.out.1 NC.out.2.1 NC.out.2.2];exact XJ.out.1
     ·rw [BT.out.cell (a:=⟨C,8,none⟩) NC.out.1 NC.out.2.1 NC.out.2.2];exact XJ.out.2
     ·rw [BT.out.cell (a:=⟨w1.heap.size,0,none⟩) lbx NB.out.1 NB.out.2];exact Y2.out.1
     ·rw [BT.out.cell (a:=⟨w1.heap.size,1,none⟩) lbx NB.out.1 NB.out.2];exact Y2.out.2.1
     ·rw [BT.out.cell (a:=⟨w1.heap.size,2,none⟩) lbx NB.out.1 NB.out.2];exact Y2.out.2.2
     ·exact PJ.out.stand fun y hy=>BT.out.2 y (by rcases hy with h | h | h <;> exact h.lt) (by rcases hy with h | h | h <;> exact h.ne RW.out.tys.1 (by decide)) (by rcases hy with h | h | h <;> exact h.ne RW.out.tys.2 (by decide))
     ·have:=tr.1
      rw [TL.out.2,show n1*G+(N - n1*G)=N by omega,tkt_next] at this
      exact this
    case measure=>simp [intOf];omega
   ·have ej:j=ls.length*H:=Nat.le_antisymm hj (Nat.le_of_not_lt hlt)
    subst ej
    have x8:=XJ.out.2
    have CE:Hid (CaAt wr col c g C H D G W ls M L (cnx ls.length t N 0) (fun i=>(tk i).take N) q):=by
     rw [cnx_zero]
     exact CJ.out.congr fun r hr=>⟨rfl,by unfold tkt;rw [if_pos hr],rfl⟩
    clear hC hct hpb hF hdis hrow y0 y1 y2 HJ CJ
    go_wp2
    clear x8
    go_loopw [51] (fun i wq=>∃ j:Nat,j<=ls.length/\i=.int .i64 j/\wq.cell? ⟨C,8,none⟩=some (.slice (some ⟨ct,0,none⟩) ls.length cc)/\Hid (PoolAt wq g b n R M)/\Hid (CaAt wq col c g C H D G W ls M L (cnx ls.length t N j) (fun i=>(tk i).take N) q)/\Hid (Chg c g b w wq col col)) (fun i _=>ls.length - (intOf i).toNat)
    case atStart=>exact ⟨0,Nat.zero_le _,rfl,XJ.out.2,PJ.out,CE.out,GJ.out⟩
    case round =>
     obtain ⟨j,hj2,rfl,z8,PK,CK,GK⟩:=hrel
     by_cases hlt2:j<ls.length
     ·obtain ⟨al',cl',T',pb',pc',ct',cc',rg',rs',F',hin⟩:=CK.out.in
      have HJ:=Ca.hid hin
      obtain ⟨⟨hC,zC⟩,-,-,⟨hct,hcl,zct⟩,-⟩:=hin
      have e7:wr.cell? ⟨C,8,none⟩=some (.slice (some ⟨ct',0,none⟩) ls.length cc'):=hC.cell (show 8<9 by decide)
      rw [z8] at e7
      have e8:ct=ct'/\cc=cc':=by injection e7 with e;injection e with e1 _ e2;injection e1 with e1;injection e1 with e1;exact ⟨e1,e2⟩
      obtain ⟨rfl,rfl⟩:=e8
      have TC:Hid (Ty wr ct 3):=ty_own hct rfl
      have xk:wr.cell? ⟨ct,j,none⟩=some (.int .i64 ((if j<j then N else t:Nat):Int)):=by rw [hct.cellAt j (by omega),List.getElem?_map,nth_cnx hlt2];rfl
      have xf:=hct.frozenAt j
      have Z8:=Ca.hid z8
      have CN:Hid (¬ C=ct):=hC |> ty_row |>.ne TC.out (by decide)
      clear hC hct e7
      go_wp2
      go_roundw
      case rel =>
       have fin:=HJ.out.count (b:=b) GK.out.fresh c0 j (N:Int)
       rw [cnx_set hlt2] at fin
       refine ⟨j+1,by omega,by go_num,?_,PK.out.far TC.out (by decide) (by decide) (by decide) _ _,fin.1,GK.out.trans fin.2⟩
       rw [World.cell?_of_block (a:=⟨C,8,none⟩) (Below.heap_setCell _ _ _ _ (show C ≠ ct from CN.out))]
       exact Z8.out
      case measure=>simp [intOf];omega
     ·have ej:j=ls.length:=by omega
      subst ej
      go_wp2
      go_ret
      have:=CK.out
      rw [cnx_all] at this
      exact ⟨rfl,PK.out,this,GK.out⟩
end Cc
end Go.Proofs.YtnchnlgnnlgjcaaGreat
namespace Go.Proofs.YtnchnlgnnlgjcaaGreat
open Go.RowKit
namespace Tn
open _root_.Go.Proofs.YtnchnlgnnlgjcaaGreat.Tn.Tr
def scell (H D g i:Int) (v:Value) (j:Nat):Value:=if j=0 then .int .i64 H else if j=1 then .int .i64 D else if j=2 then .int .i64 g else if j=3 then .int .i64 i else v
theorem scell_set (H D g i:Int) (v v':Value) (j:Nat) (hj:j<5):(if j=4 then v' else scell H D g i v j)=scell H D g i v' j:=by
 match j,hj with
 | 0,_=>rfl
 | 1,_=>rfl
 | 2,_=>rfl
 | 3,_=>rfl
 | 4,_=>rfl
theorem scell_alloc (w:World) (H D g i:Int) (v:Value) (t:TypeId):(w.alloc (.cells #[.int .i64 H,.int .i64 D,.int .i64 g,.int .i64 i,v] t)).rowIs w.heap.size t 5 (scell H D g i v) :=
 World.rowIs_alloc w _ _ _ (fun j hj=>by match j,hj with | 0,_=>rfl | 1,_=>rfl | 2,_=>rfl | 3,_=>rfl | 4,_=>rfl)
set_option maxRecDepth 100000 in
set_option maxHeartbeats 1600000 in
theorem refShape_any (H D g i:Int) (a:Option Addr) (c:Nat) (ls:List (Int × Int)) (w:World) (hp:Ps w a ls) (hl:ls.length<=8796093022207) :
 Calls Tryz.prog 12 #[.agg #[.int .i64 H,.int .i64 D,.int .i64 g,.int .i64 i,.slice a ls.length c]] w fun r w'=>∃ a' c',r=.returned (.agg #[.int .i64 H,.int .i64 D,.int .i64 g,.int .i64 i,.slice a' ls.length c'])/\Ps w' a' ls/\Below w.heap.size w w'/\(∀ x,a'=some x->w.heap.size<=x.block):=by
 obtain ⟨i0,hi0,hi1,hi2,hi3⟩:=info_parts Tryz.infoPair
 have HP:Hid (Ps w a ls):=hp
 clear hp
 go_enter Tryz.func12,Tryz.ntmps12
 go_wp2
 go_loopw [22] (fun k' wr=>∃ (k:Nat) (v:Value),k<=ls.length/\k'=.int .i64 k/\Hid (wr.rowIs (w.heap.size+1+1) 39 5 (scell H D g i v))/\Hid (wr.ownsRow (w.heap.size+3) 78 2 v k (pflat ls k))/\Hid (Below (w.heap.size+2) ((w.alloc (.cells #[.int .i64 H,.int .i64 D,.int .i64 g,.int .i64 i,.slice a ls.length c] 26)).alloc (.cells #[.int .i64 0,.int .i64 0,.int .i64 0,.int .i64 0,.slice none 0 0] 39)) wr)) (fun k' _=>ls.length - (intOf k').toNat)
 case atStart =>
  refine ⟨0,.slice none 0 0,Nat.zero_le _,rfl,?_,World.ownsRow_nil _ _ _ _,(Below.refl _ _).alloc (by simp) _⟩
  have:=scell_alloc ((w.alloc (.cells #[.int .i64 H,.int .i64 D,.int .i64 g,.int .i64 i,.slice a ls.length c] 26)).alloc (.cells #[.int .i64 0,.int .i64 0,.int .i64 0,.int .i64 0,.slice none 0 0] 39)) H D g i (.slice none 0 0) 39
  simpa [Hid] using this
 case round =>
  obtain ⟨k,v,hk,rfl,HR,HO,HB⟩:=hrel
  obtain ⟨va,vc,rfl⟩:=own2_slice HO.out
  have B0:Hid (Below w.heap.size w wr):=((box_over w _).trans ((box_over _ _).mono (by simp))).trans (HB.out.mono (by omega))
  have hsz:w.heap.size+1+1<wr.heap.size:=HR.out.lt
  have d2:wr.cell? ⟨w.heap.size+1+1,4,none⟩=some (.slice va k vc):=HR.out.cell (show 4<5 by decide)
  have f2:wr.frozen? ⟨w.heap.size+1+1,4,none⟩=false:=HR.out.frozen 4
  by_cases hlt:k<ls.length
  ·obtain ⟨b,o,rfl,hc⟩:=HP.out.get (by omega)
   have e0:=(hc k hlt).1
   have e1:=(hc k hlt).2
   have hbl:b<w.heap.size:=World.block_lt_of_cell? w _ e0
   have e0:wr.cell? ⟨b,o+k*2,none⟩=some (.int .i64 (fst ls k)):=by rw [B0.out.cell (p:=⟨b,o+k*2,none⟩) hbl];exact e0
   have e1:wr.cell? ⟨b,o+k*2+1,none⟩=some (.int .i64 (snd ls k)):=by rw [B0.out.cell (p:=⟨b,o+k*2+1,none⟩) hbl];exact e1
   have hbl2:b<wr.heap.size:=by omega
   clear hc
   go_wp2_with (at_builtin;refine wpList_append_lies _ rfl _ _ _ rfl (w.heap.size+3) 78 i0 _ 2 16 Tryz.underlying35 hi0 hi1 hi2 hi3 rfl (by omega) _ k _ (by rfl) ((HO.out.alloc _).alloc _) ⟨wr.heap.size+1,0,none⟩ 1 1 [.int .i64 (fst ls k),.int .i64 (snd ls k)] (by rfl) (by rfl) (World.news_of_block (cs:=#[.int .i64 (fst ls k),.int .i64 (snd ls k)]) (t:=78) (fr:=(0,0)) (by first | exact heap_alloc_new _ _ | (have:=heap_alloc_new (wr.alloc (.cells #[.int .i64 (fst ls k),.int .i64 (snd ls k)] 77)) (.cells #[.int .i64 (fst ls k),.int .i64 (snd ls k)] 78);simpa using this))) (by simp [Value.oneCell']) (by omega) (by unfold maxLen;omega) (by omega) (by simp;omega) (wr.heap.size+1+1) (by simp) ?_;intro gg cap w1 hown1 hgrow hat hlt1;have R1:Hid (w1.rowIs (w.heap.size+1+1) 39 5 (scell H D g i (.slice va k vc))):=((HR.out.alloc _).alloc _).of_block (hgrow.block _ (by simp;omega) (fun e=>by have:=(HO.out.lt _ e.symm).1;omega));have B1:Hid (Below (w.heap.size+2) ((w.alloc (.cells #[.int .i64 H,.int .i64 D,.int .i64 g,.int .i64 i,.slice (some ⟨b,o,none⟩) ls.length c] 26)).alloc (.cells #[.int .i64 0,.int .i64 0,.int .i64 0,.int .i64 0,.slice none 0 0] 39)) w1):=((HB.out.alloc (by omega) _).alloc (by simp;omega) _).grown hgrow (by simp;omega) (fun j hj=>by have:=(HO.out.lt j hj).1;omega);have O1:Hid (w1.ownsRow (w.heap.size+3) 78 2 (.slice (some ⟨gg,0,none⟩) (k+1) cap) (k+1) (pflat ls (k+1))):=hown1;have f2:w1.frozen? ⟨w.heap.size+1+1,4,none⟩=false:=R1.out.frozen 4;have d2:w1.cell? ⟨w.heap.size+1+1,4,none⟩=some (.slice va k vc):=R1.out.cell (show 4<5 by decide);clear hown1 hgrow hat)
   go_roundw
   case rel=>exact ⟨k+1,_,by omega,by go_num,(R1.out.set 4 _).congr (fun j hj=>scell_set H D g i _ _ j hj),own2_set O1.out (by simp) _,B1.out.setCell (by simp) _⟩
   case measure=>simp [intOf];omega
  ·have e:k=ls.length:=by omega
   subst e
   have d0:wr.cell? ⟨w.heap.size+1+1,0,none⟩=some (.int .i64 H):=HR.out.cell (show 0<5 by decide)
   have d1:wr.cell? ⟨w.heap.size+1+1,1,none⟩=some (.int .i64 D):=HR.out.cell (show 1<5 by decide)
   have d3:wr.cell? ⟨w.heap.size+1+1,2,none⟩=some (.int .i64 g):=HR.out.cell (show 2<5 by decide)
   have d4:wr.cell? ⟨w.heap.size+1+1,3,none⟩=some (.int .i64 i):=HR.out.cell (show 3<5 by decide)
   have r0:wr.rowIs (w.heap.size+1) 39 5 (scell 0 0 0 0 (.slice none 0 0)):=by
    have:=scell_alloc (w.alloc (.cells #[.int .i64 H,.int .i64 D,.int .i64 g,.int .i64 i,.slice a ls.length c] 26)) 0 0 0 0 (.slice none 0 0) 39
    have h2:((w.alloc (.cells #[.int .i64 H,.int .i64 D,.int .i64 g,.int .i64 i,.slice a ls.length c] 26)).alloc (.cells #[.int .i64 0,.int .i64 0,.int .i64 0,.int .i64 0,.slice none 0 0] 39)).rowIs (w.heap.size+1) 39 5 (scell 0 0 0 0 (.slice none 0 0)):=by simpa using this
    exact h2.of_block (HB.out.block _ (by omega))
   have c0:=r0.cell (show 0<5 by decide)
   have c1:=r0.cell (show 1<5 by decide)
   have c2:=r0.cell (show 2<5 by decide)
   have c3:=r0.cell (show 3<5 by decide)
   have c4:=r0.cell (show 4<5 by decide)
   have g0:=r0.frozen 0
   have g1:=r0.frozen 1
   have g2:=r0.frozen 2
   have g3:=r0.frozen 3
   have g4:=r0.frozen 4
   clear r0
   go_wp2
   refine bodyPost_ret (v:=.agg #[.int .i64 H,.int .i64 D,.int .i64 g,.int .i64 i,.slice va ls.length vc]) (by simp [results,Tryz.results12,go_sem,c0,c1,c2,c3,c4]) rfl ⟨va,vc,rfl,?_,?_,fun x e=>by have:=(HO.out.lt x.block (by rw [e];rfl)).1;omega⟩
   ·exact (ps_of_own (own2_set (own2_set (own2_set (own2_set (own2_set HO.out (p:=⟨w.heap.size+1,0,none⟩) (by simp) _) (p:=⟨w.heap.size+1,1,none⟩) (by simp) _) (p:=⟨w.heap.size+1,2,none⟩) (by simp) _) (p:=⟨w.heap.size+1,3,none⟩) (by simp) _) (p:=⟨w.heap.size+1,4,none⟩) (by simp) _) rfl).1
   ·exact (((((B0.out.setCell (by simp) _).setCell (by simp) _).setCell (by simp) _).setCell (by simp) _).setCell (by simp) _)
theorem refRight13_any (H D g i:Int) (a:Option Addr) (c:Nat) (ls:List (Int × Int)) (q:Bool) (w:World) (hp:Ps w a ls) (hl:ls.length<=maxLen) (hq:decide (1<=H/\H<=4/\1<=D/\D<=16/\right g i ls=0)=q) :
 Calls Tryz.prog 11 #[.agg #[.int .i64 H,.int .i64 D,.int .i64 g,.int .i64 i,.slice a ls.length c]] w fun e w'=>e=.returned (.bool q)/\Below w.heap.size w w':=by
 have HP:Hid (Ps w a ls):=hp
 have B0:Hid (Below w.heap.size w (w.alloc (.cells #[.int .i64 H,.int .i64 D,.int .i64 g,.int .i64 i,.slice a ls.length c] 39))):=box_over _ _
 clear hp
 by_cases h1:1<=H
 ·by_cases h2:H<=4
  ·by_cases h3:1<=D
   ·by_cases h4:D<=16
    ·obtain ⟨e,he⟩:∃ e,right g i ls=e:=⟨_,rfl⟩
     have HE:Hid (right g i ls=e):=he
     rw [he] at hq
     have d:(e == 0)=q:=by rw [<-hq,Bool.eq_iff_iff];simp [h1,h2,h3,h4]
     have d1:decide (1<=H)=true:=decide_eq_true h1
     have d2:decide (H<=4)=true:=decide_eq_true h2
     have d3:decide (1<=D)=true:=decide_eq_true h3
     have d4:decide (D<=16)=true:=decide_eq_true h4
     clear hq he h1 h2 h3 h4
     go_enter Tryz.func11,Tryz.ntmps11
     go_wp2_with (go_at_call 36;refine (refRight_any g i a c ls e HE.out _ (HP.out.keep B0.out) hl).mono ?_;rintro e' w2 ⟨rfl,hb⟩;have B2:Hid (Below _ _ _):=hb;clear hb)
     go_ret
     first | exact ⟨rfl,B0.out.trans (B2.out.mono B0.out.size)⟩ | exact ⟨ret_bool d,B0.out.trans (B2.out.mono B0.out.size)⟩
    ·have eq:q=false:=by rw [<-hq];exact decide_eq_false (fun e=>h4 e.2.2.2.1)
     have d1:decide (1<=H)=true:=decide_eq_true h1
     have d2:decide (H<=4)=true:=decide_eq_true h2
     have d3:decide (1<=D)=true:=decide_eq_true h3
     have d4:decide (D<=16)=false:=decide_eq_false h4
     subst eq
     clear hq h1 h2 h3 h4
     go_enter Tryz.func11,Tryz.ntmps11
     go_wp2
     go_ret
     exact ⟨rfl,B0.out⟩
   ·have eq:q=false:=by rw [<-hq];exact decide_eq_false (fun e=>h3 e.2.2.1)
    have d1:decide (1<=H)=true:=decide_eq_true h1
    have d2:decide (H<=4)=true:=decide_eq_true h2
    have d3:decide (1<=D)=false:=decide_eq_false h3
    subst eq
    clear hq h1 h2 h3
    go_enter Tryz.func11,Tryz.ntmps11
    go_wp2
    go_ret
    exact ⟨rfl,B0.out⟩
  ·have eq:q=false:=by rw [<-hq];exact decide_eq_false (fun e=>h2 e.2.1)
   have d1:decide (1<=H)=true:=decide_eq_true h1
   have d2:decide (H<=4)=false:=decide_eq_false h2
   subst eq
   clear hq h1 h2
   go_enter Tryz.func11,Tryz.ntmps11
   go_wp2
   go_ret
   exact ⟨rfl,B0.out⟩
 ·have eq:q=false:=by rw [<-hq];exact decide_eq_false (fun e=>h1 e.1)
  have d1:decide (1<=H)=false:=decide_eq_false h1
  subst eq
  clear hq h1
  go_enter Tryz.func11,Tryz.ntmps11
  go_wp2
  go_ret
  exact ⟨rfl,B0.out⟩
end Tn
end Go.Proofs.YtnchnlgnnlgjcaaGreat
namespace Go.Proofs.YtnchnlgnnlgjcaaGreat
open Go.RowKit
namespace Cc
theorem some_any (w:World) :
 Calls Tryz.prog 35 #[] w fun e w'=>∃ a,e=.returned (.agg #[.int .i64 1,.int .i64 1,.int .i64 2,.int .i64 0,.slice (some ⟨a,0,none⟩) 1 1])/\w.heap.size<=a/\Tn.Tr.Ps w' (some ⟨a,0,none⟩) [((2:Int),(2:Int))]/\Below w.heap.size w w':=by
 go_enter Tryz.func35,Tryz.ntmps35
 go_wp2
 have hb:Below w.heap.size w ((w.alloc (.cells #[.int .i64 1,.int .i64 1,.int .i64 2,.int .i64 0,.slice (some ⟨w.heap.size+1,0,none⟩) 1 1] 26)).alloc (.cells #[.int .i64 2,.int .i64 2] 77)):=two_boxes _ _ _
 have r0:((w.alloc (.cells #[.int .i64 1,.int .i64 1,.int .i64 2,.int .i64 0,.slice (some ⟨w.heap.size+1,0,none⟩) 1 1] 26)).alloc (.cells #[.int .i64 2,.int .i64 2] 77)).rowIs w.heap.size 26 5 (Tn.scell 1 1 2 0 (.slice (some ⟨w.heap.size+1,0,none⟩) 1 1)):=(Tn.scell_alloc w 1 1 2 0 _ _).alloc _
 have y0:((w.alloc (.cells #[.int .i64 1,.int .i64 1,.int .i64 2,.int .i64 0,.slice (some ⟨w.heap.size+1,0,none⟩) 1 1] 26)).alloc (.cells #[.int .i64 2,.int .i64 2] 77)).cell? ⟨w.heap.size,0,none⟩=some (.int .i64 1):=r0.cell (show 0<5 by decide)
 have y1:((w.alloc (.cells #[.int .i64 1,.int .i64 1,.int .i64 2,.int .i64 0,.slice (some ⟨w.heap.size+1,0,none⟩) 1 1] 26)).alloc (.cells #[.int .i64 2,.int .i64 2] 77)).cell? ⟨w.heap.size,1,none⟩=some (.int .i64 1):=r0.cell (show 1<5 by decide)
 have y2:((w.alloc (.cells #[.int .i64 1,.int .i64 1,.int .i64 2,.int .i64 0,.slice (some ⟨w.heap.size+1,0,none⟩) 1 1] 26)).alloc (.cells #[.int .i64 2,.int .i64 2] 77)).cell? ⟨w.heap.size,2,none⟩=some (.int .i64 2):=r0.cell (show 2<5 by decide)
 have y3:((w.alloc (.cells #[.int .i64 1,.int .i64 1,.int .i64 2,.int .i64 0,.slice (some ⟨w.heap.size+1,0,none⟩) 1 1] 26)).alloc (.cells #[.int .i64 2,.int .i64 2] 77)).cell? ⟨w.heap.size,3,none⟩=some (.int .i64 0):=r0.cell (show 3<5 by decide)
 have y4:((w.alloc (.cells #[.int .i64 1,.int .i64 1,.int .i64 2,.int .i64 0,.slice (some ⟨w.heap.size+1,0,none⟩) 1 1] 26)).alloc (.cells #[.int .i64 2,.int .i64 2] 77)).cell? ⟨w.heap.size,4,none⟩=some (.slice (some ⟨w.heap.size+1,0,none⟩) 1 1):=r0.cell (show 4<5 by decide)
 have rp:=World.rowIs_alloc (w.alloc (.cells #[.int .i64 1,.int .i64 1,.int .i64 2,.int .i64 0,.slice (some ⟨w.heap.size+1,0,none⟩) 1 1] 26)) #[.int .i64 2,.int .i64 2] 77 (fun _=>.int .i64 2) (fun i hi=>by match i,hi with | 0,_=>rfl | 1,_=>rfl)
 rw [World.size_alloc] at rp
 refine bodyPost_ret (v:=.agg #[.int .i64 1,.int .i64 1,.int .i64 2,.int .i64 0,.slice (some ⟨w.heap.size+1,0,none⟩) 1 1]) (by simp [results,Tryz.results35,go_sem,y0,y1,y2,y3,y4]) rfl ⟨w.heap.size+1,rfl,by omega,fun i hi=>?_,hb⟩
 have hi:i<1:=hi
 obtain rfl:i=0:=by omega
 exact ⟨w.heap.size+1,0,rfl,rp.cell (show 0<2 by decide),rp.cell (show 1<2 by decide)⟩
end Cc
end Go.Proofs.YtnchnlgnnlgjcaaGreat
namespace Go.Proofs.YtnchnlgnnlgjcaaGreat
open Go.RowKit
namespace Cc
def awT (j:Nat):List Tok:=([([[5]],[[-5]]),([[35]],[[-35]]),([[7]],[[-7]])]:List Tok).take j
def aws:List (Int × Int):=[(2,2)]
theorem aws_ok:ShOk 1 1 2 0 aws:=by unfold ShOk;decide
theorem awk:vk aws 2 1 0 0 (awT 3) 1=[[5],[35],[7]]:=by decide
theorem awv:vv aws 2 1 0 0 (awT 3) 1=[[-5],[-35],[-7]]:=by decide
def Aw (w0 w:World) (g b C j:Nat) (col:Nat->Nat):Prop :=
 ∃ R M L,PoolAt w g b 1 R M/\CaAt w col 1 g C 1 1 2 0 aws M L (cn 1 j 0) (fun _=>awT j) (fun _=>j / 2)/\Po.cnt R=1 - j / 2/\(∀ i,i<1->∀ x,x ∈ L i->0<=x/\x<(1:Nat)/\0<Ls.nth R x.toNat)/\Bk.len L 1=j / 2 /\
   (∀ x,w.heap.size<=x->col x=0)/\(∀ x,x<w0.heap.size->col x=0)/\(¬ col g=1/\¬ col g=0)/\(¬ col b=1/\¬ col b=0)/\Below w0.heap.size w0 w
theorem Aw.keep {w0 w w':World} {g b C j:Nat} {col:Nat->Nat} (h:Aw w0 w g b C j col) (hb:Below w.heap.size w w'):Aw w0 w' g b C j col:=by
 obtain ⟨R,M,L,h1,h2,h3,h4,h5,h6,h7,h8,h9,h10⟩:=h
 exact ⟨R,M,L,h1.keep hb,h2.below hb,h3,h4,h5,fun x hx=>h6 x (by have:=hb.size;omega),h7,h8,h9,h10.trans (hb.mono h10.size)⟩
theorem Aw.bd {w0 w:World} {g b C j:Nat} {col:Nat->Nat} (h:Aw w0 w g b C j col):Bd w C g 1 1 2 0 aws j 0:=by
 obtain ⟨R,M,L,h1,h2,_⟩:=h
 exact h2.bd
theorem awT_ok:∀ j,j<=3->(awT j).length=j/\∀ i (hi:i<(awT j).length),TokOk 1 1 (awT j)[i]:=fun j hj=>by
 have h3:∀ t:Tok,t ∈ ([([[5]],[[-5]]),([[35]],[[-35]]),([[7]],[[-7]])]:List Tok)->TokOk 1 1 t:=fun t ht=>by
  have cs:t=([[5]],[[-5]])\/t=([[35]],[[-35]])\/t=([[7]],[[-7]]):=by simpa using ht
  have one:∀ x:Int,-100<=x->x<=100->Ls.In32 [x]:=fun x h1 h2=>Ls.in32_mk fun i hi=>by
   obtain rfl:i=0:=by simpa using hi
   show -2147483648<=x/\x<=2147483647
   omega
  rcases cs with e | e | e <;> subst e
  ·refine ⟨rfl,rfl,fun h hh=>?_⟩
   obtain rfl:h=0:=by omega
   exact ⟨rfl,rfl,one 5 (by decide) (by decide),one (-5) (by decide) (by decide)⟩
  ·refine ⟨rfl,rfl,fun h hh=>?_⟩
   obtain rfl:h=0:=by omega
   exact ⟨rfl,rfl,one 35 (by decide) (by decide),one (-35) (by decide) (by decide)⟩
  ·refine ⟨rfl,rfl,fun h hh=>?_⟩
   obtain rfl:h=0:=by omega
   exact ⟨rfl,rfl,one 7 (by decide) (by decide),one (-7) (by decide) (by decide)⟩
 exact ⟨by unfold awT;rw [List.length_take];simp;omega,fun i hi=>h3 _ (List.mem_of_mem_take (List.getElem_mem hi))⟩
theorem one_row (u:World) (x:Int):SlQ (fun q=>u.heap.size<=q) 1 eRow ((u.alloc (.cells #[.int .i32 x] 21)).alloc (.cells #[.slice (some ⟨u.heap.size,0,none⟩) 1 1] 74)) (some ⟨u.heap.size+1,0,none⟩) [[x]]:=fun i hi=>by
 obtain rfl:i=0:=by simpa using hi
 have e0:((u.alloc (.cells #[.int .i32 x] 21)).alloc (.cells #[.slice (some ⟨u.heap.size,0,none⟩) 1 1] 74)).cell? ⟨u.heap.size,0,none⟩=some (.int .i32 x):=by
  rw [World.cell?_of_block (a:=⟨u.heap.size,0,none⟩) (Below.heap_alloc _ _ _ (by show u.heap.size<_;simp))]
  exact World.cell?_alloc_new u _ _ _
 have e1:((u.alloc (.cells #[.int .i32 x] 21)).alloc (.cells #[.slice (some ⟨u.heap.size,0,none⟩) 1 1] 74)).cell? ⟨u.heap.size+1,0,none⟩=some (.slice (some ⟨u.heap.size,0,none⟩) 1 1):=by
  have:=World.cell?_alloc_new (u.alloc (.cells #[.int .i32 x] 21)) #[.slice (some ⟨u.heap.size,0,none⟩) 1 1] 74 0
  rw [World.size_alloc] at this
  exact this
 refine ⟨u.heap.size+1,0,rfl,by simp,Nat.le_succ _,some ⟨u.heap.size,0,none⟩,1,e1,Nat.le_refl _,(by show 1<=maxLen;decide),(fun e=>nomatch e),fun k hk=>?_⟩
 obtain rfl:k=0:=by simpa using hk
 exact ⟨u.heap.size,0,rfl,by simp;omega,Nat.le_refl _,e0⟩
theorem four_boxes (u:World) (o1 o2 o3 o4:Obj):Below u.heap.size u ((((u.alloc o1).alloc o2).alloc o3).alloc o4) :=
 (((Below.refl _ u).alloc (Nat.le_refl _) o1).alloc (by simp) o2 |>.alloc (by simp;omega) o3).alloc (by simp;omega) o4
theorem four_rows (u:World) (y z:Int):SlQ (fun q=>u.heap.size<=q) 1 eRow ((((u.alloc (.cells #[.int .i32 y] 21)).alloc (.cells #[.slice (some ⟨u.heap.size,0,none⟩) 1 1] 74)).alloc (.cells #[.int .i32 z] 21)).alloc (.cells #[.slice (some ⟨u.heap.size+1+1,0,none⟩) 1 1] 74)) (some ⟨u.heap.size+1,0,none⟩) [[y]] /\
 SlQ (fun q=>u.heap.size<=q) 1 eRow ((((u.alloc (.cells #[.int .i32 y] 21)).alloc (.cells #[.slice (some ⟨u.heap.size,0,none⟩) 1 1] 74)).alloc (.cells #[.int .i32 z] 21)).alloc (.cells #[.slice (some ⟨u.heap.size+1+1,0,none⟩) 1 1] 74)) (some ⟨u.heap.size+1+1+1,0,none⟩) [[z]]:=by
 constructor
 ·exact (one_row u y).keep carry_row (two_boxes _ _ _)
 ·have h:=one_row ((u.alloc (.cells #[.int .i32 y] 21)).alloc (.cells #[.slice (some ⟨u.heap.size,0,none⟩) 1 1] 74)) z
  have e:((u.alloc (.cells #[.int .i32 y] 21)).alloc (.cells #[.slice (some ⟨u.heap.size,0,none⟩) 1 1] 74)).heap.size=u.heap.size+1+1:=by simp
  rw [e] at h
  exact h.carry carry_row (fun q _ hq=>⟨by omega,rfl⟩) (Nat.le_refl _)
theorem Aw.chg {w0 w w':World} {g b C j:Nat} {col col':Nat->Nat} (h:Aw w0 w g b C j col) (x:Chg 1 g b w w' col col'):Below w0.heap.size w0 w':=by
 obtain ⟨R,M,L,_,_,_,_,_,_,h7,h8,h9,h10⟩:=h
 obtain ⟨x1,_⟩:=x
 have s10:=h10.size
 refine ⟨x1.1.trans h10.os,x1.2.1.trans h10.tape,x1.2.2.1.trans h10.output,by have:=x1.size;omega,fun q hq=>?_⟩
 have c0:=h7 q hq
 rw [x1.block (by omega) (fun e=>h8.2 (by rw [<-e];exact c0)) (fun e=>h9.2 (by rw [<-e];exact c0)) (fun e=>by have e:col q=1:=e;omega)]
 exact h10.block q hq
set_option maxHeartbeats 1600000 in
theorem aw_put (w0:World) (g b C j S:Nat) (y z:Int) (a1 a2:Option Addr) (k1 k2:Nat) (col:Nat->Nat) (w:World) (h:Aw w0 w g b C j col) (hj:j<3) (hS:∀ x,S<=x->col x=0)
 (h1:SlQ (fun q=>S<=q) 1 eRow w a1 [[y]]) (h2:SlQ (fun q=>S<=q) 1 eRow w a2 [[z]]) (hy:awT (j+1)=awT j ++ [([[y]],[[z]])]) :
 Calls Tryz.prog 20 #[.pointer (some ⟨C,0,none⟩),.int .i64 0,.slice a1 1 k1,.slice a2 1 k2] w fun e w'=>e=.returned (.int .i64 0)/\∃ col',Aw w0 w' g b C (j+1) col'/\∀ q,q<w.heap.size->col q=0->w'.heap[q]?=w.heap[q]?/\col' q=0:=by
 obtain ⟨R,M,L,hp,hc,h3,h4,h5,h6,h7,h8,h9,h10⟩:=h
 have kd:∀ {a:Option Addr} {l:List (List Int)},SlQ (fun q=>S<=q) 1 eRow w a l->SlQ (fun x=>¬ x=g/\¬ x=b/\¬ col x=1) 1 eRow w a l:=fun hl=>hl.carry carry_row (fun q _ hq=>⟨⟨fun e=>h8.2 (by rw [<-e];exact hS q hq),fun e=>h9.2 (by rw [<-e];exact hS q hq),by rw [hS q hq];decide⟩,rfl⟩) (Nat.le_refl _)
 have ok:=(awT_ok (j+1) (by omega)).2
 have ot:TokOk 1 1 ([[y]],[[z]]):=by
  have l1:=(awT_ok j (by omega)).1
  have:=ok j (by rw [hy];simp;omega)
  simp only [hy] at this
  rw [List.getElem_append_right (by omega)] at this
  simpa [l1] using this
 have dq:∃ q0,decide (gn 2 0 j<gn 2 0 (j+1))=q0:=⟨_,rfl⟩
 obtain ⟨q0,dq⟩:=dq
 have g1:gn 2 0 (j+1)=(j+1) / 2:=rfl
 have g0:gn 2 0 j=j / 2:=rfl
 refine (put_ok_c C 1 g b 1 1 1 2 0 aws R M L j 0 (fun _=>awT j) (fun _=>j / 2) col a1 a2 k1 k2 [[y]] [[z]] q0 w hp hc aws_ok (by decide) (by omega) (fun r hr=>?_) (fun r _=>(awT_ok j (by omega)).2) (kd h1) (kd h2) rfl rfl ot dq (fun e=>?_) h4 h6 (by decide) h8 h9).mono ?_
 ·have hr:r<1:=hr
  obtain rfl:r=0:=by omega
  exact ⟨rfl,(awT_ok j (by omega)).1⟩
 ·rw [e,decide_eq_true_iff,g0,g1] at dq
  omega
 ·rintro e w' ⟨rfl,R',M',L',col',hp',hc',⟨x1,x2,x3,x4⟩,⟨f1,f2,f3,f4,f5,f6,f7,f8⟩⟩
  have lg:=hp.lt
  have hd:dn q0 1+j / 2=(j+1) / 2:=by
   unfold dn
   cases q0 with
   | true=>rw [decide_eq_true_iff,g0,g1] at dq;simp;omega
   | false=>have:=of_decide_eq_false dq;rw [g0,g1] at this;simp;omega
  have s10:=h10.size
  refine ⟨rfl,col',⟨R',M',L',hp',?_,by omega,f5,by have f7:Bk.len L' 1=Bk.len L 1+dn q0 1:=f7;omega,x4,fun x hx=>by rw [x2 x (by omega)];exact h7 x hx,by rw [x2 g lg.1];exact h8,by rw [x2 b lg.2];exact h9,?_⟩,fun q hq h0=>⟨x1.block hq (fun e=>h8.2 (by rw [<-e];exact h0)) (fun e=>h9.2 (by rw [<-e];exact h0)) (fun e=>by have e:col q=1:=e;omega),by rw [x2 q hq];exact h0⟩⟩
  ·have h:CaAt w' col' 1 g C 1 1 2 0 aws M' L' (cn 1 (j+1) 0) (tkj (fun _=>awT j) ([[y]],[[z]]) 1 0 1) (qj (fun _=>j / 2) (gn 2 0 (j+1)) 1 0 1):=hc'
   refine h.congr fun r hr=>?_
   have hr:r<1:=hr
   obtain rfl:r=0:=by omega
   exact ⟨rfl,hy.symm,rfl⟩
  ·refine ⟨x1.1.trans h10.os,x1.2.1.trans h10.tape,x1.2.2.1.trans h10.output,by have:=x1.size;omega,fun q hq=>?_⟩
   have c0:=h7 q hq
   rw [x1.block (by omega) (fun e=>h8.2 (by rw [<-e];exact c0)) (fun e=>h9.2 (by rw [<-e];exact c0)) (fun e=>by have e:col q=1:=e;omega)]
   exact h10.block q hq
end Cc
end Go.Proofs.YtnchnlgnnlgjcaaGreat
