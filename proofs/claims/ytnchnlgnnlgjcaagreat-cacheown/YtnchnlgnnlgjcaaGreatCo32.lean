import Derived.Test.YtnchnlgnnlgjcaaGreatCo31
set_option linter.unusedVariables false
set_option linter.unusedSimpArgs false
namespace Go.Proofs.YtnchnlgnnlgjcaaGreat
open Go.RowKit
namespace Cc
set_option maxRecDepth 100000 in
set_option maxHeartbeats 12800000 in
theorem puts_ok {X:Nat->Option Obj} (B P g b n H D G W k j a:Nat) (ls:List (Int × Int)) (R M:List Int) (al:Option Addr) (cl:Nat) (va vr:Value) (C:Nat->Nat) (T:Nat->List (List Tok)) (L:Nat->Nat->List Int) (t q:Nat->Nat) (zs:Nat->Value) (col:Nat->Nat)
 (x0 x1 x2 x3:Int) (p1 p2:Option Addr) (d1 d2:Nat) (ks vs:List (List Int)) (w0 w:World) (hC:Core13 w g b n H D G W ls R M k C T L t q col) (hB:Box13 X B w P g H D G W ls al cl va vr k C zs col) (hD:Doc13 w ls.length k T zs col) (hF:Fresh13 B w col) (hG:Good13 n (ls.length*H) k j R L t) (hw:Below B w0 w) (hBs:B<=w.heap.size)
 (sh:ShOk H D G W ls) (ha:a<k) (hj:j<=80) (hks:SlQ (fun x=>x<B) 1 eRow w p1 ks) (hvs:SlQ (fun x=>x<B) 1 eRow w p2 vs) (i1:∀ k,Ls.In32 (Ca.nt ks k)) (i2:∀ k,Ls.In32 (Ca.nt vs k)) (kl:ks.length<=10) (vl:vs.length<=10) (km:∀ k,(Ca.nt ks k).length<=35184372087808) (vm:∀ k,(Ca.nt vs k).length<=35184372087808) (hf1:Ca.fit H D ks=true) (hf2:Ca.fit H D vs=true) (cf:Nat) (ecf:Po.cnt R=cf) (hfree:gn G W (t a)<gn G W (t a+1)->H<=cf) :
 Calls Tryz.prog 39 #[.pointer (some ⟨P,0,none⟩),.int .i64 (a:Int),.int .i64 (q a:Int),.agg #[.int .i64 x0,.int .i64 x1,.int .i64 x2,.int .i64 x3,.slice p1 ks.length d1,.slice p2 vs.length d2]] w fun e w'=>e=.returned (.bool true)/\PlP X B w0 w' P n H D G W ls k (j+1):=by
 obtain ⟨sH,sH2,sD,sD2,-⟩:=id sh
 obtain ⟨sG,sG2,sW,sl,sl2,-⟩:=sh.nums
 have hk5:k<=5:=hG.2.2.2.2.2.2
 have htj:t a<=j:=hG.2.2.2.2.1 a ha
 have hC1:=hC.2.2 a ha
 have QL:=hC1.2.1.2.1
 obtain ⟨W1,hW1⟩:∃ W1,w.alloc (.cells #[.int .i64 x0,.int .i64 x1,.int .i64 x2,.int .i64 x3,.slice p1 ks.length d1,.slice p2 vs.length d2] 44)=W1:=⟨_,rfl⟩
 have BW1:Hid (Below w.heap.size w W1):=by rw [<-hW1];exact Rt.box_below _ _
 have OB:Hid (W1.heap[w.heap.size]?=some (.cells #[.int .i64 x0,.int .i64 x1,.int .i64 x2,.int .i64 x3,.slice p1 ks.length d1,.slice p2 vs.length d2] 44)):=by rw [<-hW1];exact heap_alloc_new w _
 have C1:=Ca.hid (hC.keep BW1.out)
 have B1:=Ca.hid (hB.keep BW1.out)
 have D1:=Ca.hid (hD.keep BW1.out)
 have F1:=Ca.hid (hF.keep BW1.out.size)
 have GD:=Ca.hid hG
 have HW:=Ca.hid hw
 have KS:Hid (SlQ (fun x=>x<B) 1 eRow W1 p1 ks):=hks.carry carry_row (fun x _ hx=>⟨hx,BW1.out.block x (by omega)⟩) BW1.out.size
 have VS:Hid (SlQ (fun x=>x<B) 1 eRow W1 p2 vs):=hvs.carry carry_row (fun x _ hx=>⟨hx,BW1.out.block x (by omega)⟩) BW1.out.size
 have I1:=Ca.hid i1
 have I2:=Ca.hid i2
 have KM:=Ca.hid km
 have VM:=Ca.hid vm
 have LY:=Ca.hid hC1.2.1
 have SH:=Ca.hid sh
 obtain ⟨⟨hP,-⟩,⟨hva,-⟩,⟨hvr,-⟩,-⟩:=B1.out
 obtain ⟨ga,ca,Fa,rfl,-,hra,hca,fa⟩:=row_of_own hva (by omega)
 obtain ⟨gr,cr,Fr',rfl,-,hrr,hcr,fr⟩:=row_of_own hvr (by omega)
 have fa':Fa a=.pointer (some ⟨C a,0,none⟩):=by have:=fa a ha;unfold cptrs at this;simpa [ha] using this
 have fr':Fr' a=zs a:=by have:=fr a ha;simpa [ha] using this
 obtain ⟨az,cz,ez,sz⟩:=D1.out a ha
 rw [<-hC1.2.1.1] at ez
 rw [ez] at fr'
 have SZ:=Ca.hid sz
 have c0:W1.cell? ⟨P,0,none⟩=some (.pointer (some ⟨g,0,none⟩)):=hP.cell (show 0<8 by decide)
 have c1:W1.cell? ⟨P,1,none⟩=some (.int .i64 (H:Int)):=hP.cell (show 1<8 by decide)
 have c2:W1.cell? ⟨P,2,none⟩=some (.int .i64 (D:Int)):=hP.cell (show 2<8 by decide)
 have c3:W1.cell? ⟨P,3,none⟩=some (.int .i64 (G:Int)):=hP.cell (show 3<8 by decide)
 have c4:W1.cell? ⟨P,4,none⟩=some (.int .i64 (W:Int)):=hP.cell (show 4<8 by decide)
 have c5:W1.cell? ⟨P,5,none⟩=some (.slice al ls.length cl):=hP.cell (show 5<8 by decide)
 have c6:W1.cell? ⟨P,6,none⟩=some (.slice (some ⟨ga,0,none⟩) k ca):=hP.cell (show 6<8 by decide)
 have c7:W1.cell? ⟨P,7,none⟩=some (.slice (some ⟨gr,0,none⟩) k cr):=hP.cell (show 7<8 by decide)
 have za:W1.cell? ⟨ga,a,none⟩=some (.pointer (some ⟨C a,0,none⟩)):=by rw [hra.cell (by omega),fa']
 have zr:W1.cell? ⟨gr,a,none⟩=some (.slice az (T a).length cz):=by rw [hrr.cell (by omega),fr']
 have o4:W1.cell? ⟨w.heap.size,4,none⟩=some (.slice p1 ks.length d1):=cell_of_row _ _ _ _ _ _ OB.out
 have o5:W1.cell? ⟨w.heap.size,5,none⟩=some (.slice p2 vs.length d2):=cell_of_row _ _ _ _ _ _ OB.out
 have KQ:Hid (∀ v,Below W1.heap.size W1 v->v.cell? ⟨P,0,none⟩=some (.pointer (some ⟨g,0,none⟩))/\v.cell? ⟨P,1,none⟩=some (.int .i64 (H:Int))/\v.cell? ⟨P,2,none⟩=some (.int .i64 (D:Int))/\v.cell? ⟨P,6,none⟩=some (.slice (some ⟨ga,0,none⟩) k ca)/\v.cell? ⟨P,7,none⟩=some (.slice (some ⟨gr,0,none⟩) k cr)/\v.cell? ⟨ga,a,none⟩=some (.pointer (some ⟨C a,0,none⟩)) /\
  v.cell? ⟨w.heap.size,4,none⟩=some (.slice p1 ks.length d1)/\v.cell? ⟨w.heap.size,5,none⟩=some (.slice p2 vs.length d2)):=fun v hv =>
  ⟨(hv.cell (p:=⟨P,0,none⟩) hP.lt).trans c0,(hv.cell (p:=⟨P,1,none⟩) hP.lt).trans c1,(hv.cell (p:=⟨P,2,none⟩) hP.lt).trans c2,(hv.cell (p:=⟨P,6,none⟩) hP.lt).trans c6,(hv.cell (p:=⟨P,7,none⟩) hP.lt).trans c7,(hv.cell (p:=⟨ga,a,none⟩) hra.lt).trans za,(hv.cell (p:=⟨w.heap.size,4,none⟩) (World.block_lt_of_cell? W1 _ o4)).trans o4,(hv.cell (p:=⟨w.heap.size,5,none⟩) (World.block_lt_of_cell? W1 _ o5)).trans o5⟩
 have ka0:(0:Int)<=(a:Int):=by omega
 have ka1:(a:Int)<(k:Int):=by omega
 have plt:P<W1.heap.size:=hP.lt
 clear hC hB hD hF hG hw sh hks hvs i1 i2 km vm hC1 hP hva hvr hra hrr fa fr sz ez hca hcr fa' fr'
 go_enter Tryz.func39,Tryz.ntmps39
 go_upto_region 3 with (go_at_call 19;refine (tokens_any (α:=Tok) az cz (T a) _ SZ.out (by rw [LY.out.1];omega) (by rw [LY.out.1];omega)).mono ?_;rintro e w' ⟨rfl,hww⟩;cases hww.symm;clear hww;rw [LY.out.toks])
 have GG:Hid (Tn.Tr.grp (G:Int) (W:Int) ((t a:Int)+1)=(gn G W (t a+1):Int)/\Tn.Tr.grp (G:Int) (W:Int) (t a:Int)=(gn G W (t a):Int)):=⟨by rw [show (t a:Int)+1=((t a+1:Nat):Int) by omega];exact grp_gn (by omega),grp_gn (by omega)⟩
 obtain ⟨g0,eg0⟩:∃ x,gn G W (t a)=x:=⟨_,rfl⟩
 obtain ⟨g1,eg1⟩:∃ x,gn G W (t a+1)=x:=⟨_,rfl⟩
 have E0:=Ca.hid eg0
 have E1:=Ca.hid eg1
 obtain ⟨ta,eta⟩:∃ x,t a=x:=⟨_,rfl⟩
 have ET:=Ca.hid eta
 have GH:Hid (Tn.Tr.grp (G:Int) (W:Int) ((ta:Int)+1)=(g1:Int)/\Tn.Tr.grp (G:Int) (W:Int) (ta:Int)=(g0:Int)):=by
  have:=GG.out
  rw [E0.out,E1.out,ET.out] at this
  exact this
 have hdd:=hfree
 rw [eg0,eg1] at hdd
 have HDD:=Ca.hid hdd
 clear hfree hdd
 rw [eta] at htj ⊢
 clear eg0 eg1 eta GG
 have cA:=Tn.reg_of (u:=W1) fun v hv=>Tn.refGroups_any (G:Int) (W:Int) ((ta:Int)+1) (g1:Int) al ls.length cl (by omega) (by omega) (by omega) (by omega) (by omega) (by omega) GH.out.1 v
 have cB:=Tn.reg_of (u:=W1) fun v hv=>Tn.refGroups_any (G:Int) (W:Int) (ta:Int) (g0:Int) al ls.length cl (by omega) (by omega) (by omega) (by omega) (by omega) (by omega) GH.out.2 v
 have pk3:=cell_regrown c3
 have pk4:=cell_regrown c4
 have pk5:=cell_regrown c5
 have hwr:IntKind.i64.wrap ((ta:Int)+1)=(ta:Int)+1:=Tn.i64_same9 (by omega) (by omega)
 refine wp_region_quiet_below (by kernel_rfl) (by kernel_rfl) ?_
 repeat (go_big_quiet_step (first | (with_reducible exact cA _ _) | (with_reducible exact cB _ _)))
 refine wpQuiet_nil ?_
 intro W2 hw'
 have BQ:Hid (Below W1.heap.size W1 W2):=by obtain ⟨⟨dq,osq⟩,hw''⟩:=hw';rw [hw''];exact below_regrown W1 dq osq
 clear hw' cA cB pk3 pk4 pk5 hwr c0 c1 c2 c3 c4 c5 c6 c7 za zr o4 o5
 obtain ⟨v0,v1,v2,v6,v7,va0,v4,v5⟩:=KQ.out W2 BQ.out
 have hs12:=BW1.out.size
 have hs22:=BQ.out.size
 have SHA:=Ca.hid (shapedP_any P H D p1 d1 ks W2 v1 v2 ((KS.out.carry (Q':=fun _=>True) carry_row (fun x _ hx=>⟨trivial,BQ.out.block x (by omega)⟩) BQ.out.size).tbl) (by omega) sH2 sD2)
 have SHB:=Ca.hid (shapedP_any P H D p2 d2 vs W2 v1 v2 ((VS.out.carry (Q':=fun _=>True) carry_row (fun x _ hx=>⟨trivial,BQ.out.block x (by omega)⟩) BQ.out.size).tbl) (by omega) sH2 sD2)
 rw [hf1] at SHA
 rw [hf2] at SHB
 have hqq:((q a:Int) != (q a:Int))=false:=by simp
 have C2:=Ca.hid (C1.out.keep BQ.out)
 have B2:=Ca.hid (B1.out.keep BQ.out)
 have D2:=Ca.hid (D1.out.keep BQ.out)
 have F2:=Ca.hid (F1.out.keep BQ.out.size)
 go_upto_region 12 with (first
  | (go_at_call 40;refine (next_any (α:=Tok) az cz (T a) _ (SZ.out.keep carry_toks BQ.out) (by rw [LY.out.1];omega) (by rw [LY.out.1];omega)).mono ?_;rintro e w' ⟨rfl,hww⟩;cases hww.symm;clear hww;rw [LY.out.nxt])
  | (go_at_call 32;(with_reducible refine SHA.out.mono ?_);rintro e w' ⟨rfl,hww⟩;cases hww.symm;clear hww)
  | (go_at_call 32;(with_reducible refine SHB.out.mono ?_);rintro e w' ⟨rfl,hww⟩;cases hww.symm;clear hww))
 obtain ⟨qd,eqd⟩:∃ qd,decide (g0<g1)=qd:=⟨_,rfl⟩
 rw [eqd]
 have QD:=Ca.hid eqd
 clear eqd
 go_cut [87] from 88 to 101 (fun v wx=>v=.bool false/\Hid (Below W2.heap.size W2 wx))
 case first =>
  have cF:=Tn.reg_of (u:=W2) fun v hv=>(free_any g b n cf R M v (C2.out.keep hv).1 ecf).mono fun _ _ ⟨h1,h2⟩=>(⟨h1,by rw [h2];exact Below.refl _ _⟩:_/\Below v.heap.size v _)
  have pk0:=cell_regrown v0
  have pk1:=cell_regrown v1
  cases qd with
  | false =>
    refine wp_region_quiet_below (by kernel_rfl) (by kernel_rfl) ?_
    repeat (go_big_quiet_step (first | (with_reducible exact cF _ _)))
    refine wpQuiet_nil ?_
    intro W3 hw'
    have BQ3:Hid (Below W2.heap.size W2 W3):=by obtain ⟨⟨dq,osq⟩,hw''⟩:=hw';rw [hw''];exact below_regrown W2 dq osq
    clear hw'
    go_wp2_with fail
    go_meet
    exact ⟨rfl,BQ3.out⟩
  | true =>
    have hge:=HDD.out (of_decide_eq_true QD.out)
    have hlt:decide ((cf:Int)<(H:Int))=false:=decide_eq_false (by omega)
    have hlt2:decide (cf<H)=false:=decide_eq_false (by omega)
    refine wp_region_quiet_below (by kernel_rfl) (by kernel_rfl) ?_
    repeat (go_big_quiet_step (first | (with_reducible exact cF _ _)))
    refine wpQuiet_nil ?_
    intro W3 hw'
    have BQ3:Hid (Below W2.heap.size W2 W3):=by obtain ⟨⟨dq,osq⟩,hw''⟩:=hw';rw [hw''];exact below_regrown W2 dq osq
    clear hw'
    go_wp2_with fail
    go_meet
    exact ⟨hlt2 ▸ rfl,BQ3.out⟩
 case rest =>
  obtain ⟨rfl,BX⟩:=hcut
  obtain ⟨W9,hW9⟩:∃ W9,W9=wc:=⟨_,rfl⟩
  subst hW9
  have BX1:Hid (Below W1.heap.size W1 W9):=BQ.out.trans (BX.out.mono BQ.out.size)
  have hsx:=BX.out.size
  go_upto_region 6 with fail
  refine (copiedL_any (Q:=fun x=>col x=0) az cz (T a) W9 (SZ.out.keep carry_toks BX1.out) (by rw [LY.out.1];omega) (fun k hk=>by rw [LY.out.2.2 k (by rw [<-LY.out.1];exact hk)];have:=lv_le (t a) (q a) k;have:=ET.out;omega)).mono ?_
  rintro e w5 ⟨vn,xs0,rfl,aq,hap,hown,hb⟩
  obtain ⟨gv,cv,Fv,rfl,hgv,hrv,hcv,fv⟩:=row_of_own aq.1 (by rw [LY.out.1];omega)
  have AQ:=Ca.hid aq
  have AP:=Ca.hid hap
  have B5:=Ca.hid hb
  have hs5:=hb.size
  clear aq hap hown hb
  go_upto_region 6 with fail
  have hq4:q a<4:=by omega
  have ULY:Hid (q a<(T a).length):=by show _<_;rw [LY.out.1];exact QL
  obtain ⟨ux,uys,ue,uo,uk,ut⟩:=AQ.out.2.2.2 (q a) ULY.out (fun j=>xs0[q a*1+j]?) (fun j _=>rfl)
  obtain ⟨un,eun⟩:∃ x,(T a)[q a].length=x:=⟨_,rfl⟩
  have enx:(Ca.nt (T a) (q a)).length=un:=by rw [Ca.nt_at ULY.out];exact eun
  have UN:=Ca.hid enx
  have hun:un<=100:=by rw [<-enx,LY.out.2.2 _ QL];have:=lv_le (t a) (q a) (q a);have:=ET.out;omega
  have UO:Hid (w5.ownsRow W9.heap.size 63 2 ux un uys):=by
   rw [<-eun]
   exact uo
  have ue':xs0[q a]?=some ux:=by simpa using ue
  have UX:=Ca.hid ue'
  have UT:Hid (∀ i (h:i<(Ca.nt (T a) (q a)).length) (c:Nat->Option Value),(∀ j,j<2->c j=uys[i*2+j]?)->eTok (fun x=>col x=0/\x<W9.heap.size) w5 c (Ca.nt (T a) (q a))[i]):=by
   have key:∀ l:List Tok,l=(T a)[q a]->∀ i (h:i<l.length) (c:Nat->Option Value),(∀ j,j<2->c j=uys[i*2+j]?)->eTok (fun x=>col x=0/\x<W9.heap.size) w5 c l[i]:=fun l hl=>by
    subst hl
    intro i h c hc
    refine carry_tok _ _ w5 w5 c c _ (fun q _ hq=>⟨⟨?_,hq.2⟩,rfl⟩) (Nat.le_refl _) (fun _ _ _ h=>h) (ut i h c hc)
    rcases hq.1.1 with e | e
    ·exact e.1
    ·omega
   exact key _ (Ca.nt_at ULY.out)
  have UL:Hid (uys.length=un*2):=own_len2 UO.out
  have fux:Fv (q a)=ux:=Option.some.inj ((fv (q a) ULY.out).trans ue')
  have ZL0:Hid (w5.cell? ⟨gv,q a,none⟩=some ux):=by show _=_;rw [hrv.cell (by have:=ULY.out;omega),fux]
  have KSB:Hid (∀ v,Below W9.heap.size W9 v->v.cell? ⟨w.heap.size,4,none⟩=some (.slice p1 ks.length d1)/\v.cell? ⟨w.heap.size,5,none⟩=some (.slice p2 vs.length d2)):=fun v hv=>by
   obtain ⟨-,-,-,-,-,-,z4,z5⟩:=KQ.out v (BX1.out.trans (hv.mono BX1.out.size))
   exact ⟨z4,z5⟩
  have KS6:Hid (∀ v,Below w5.heap.size w5 v->v.cell? ⟨w.heap.size,4,none⟩=some (.slice p1 ks.length d1)/\v.cell? ⟨w.heap.size,5,none⟩=some (.slice p2 vs.length d2)):=fun v hv=>KSB.out v (B5.out.trans (hv.mono hs5))
  have K6:Hid (SlQ (fun x=>x<B) 1 eRow w5 p1 ks):=KS.out.carry carry_row (fun x hx hx0=>⟨hx0,(BX1.out.trans (B5.out.mono BX1.out.size)).block x hx⟩) (BX1.out.trans (B5.out.mono BX1.out.size)).size
  have V6:Hid (SlQ (fun x=>x<B) 1 eRow w5 p2 vs):=VS.out.carry carry_row (fun x hx hx0=>⟨hx0,(BX1.out.trans (B5.out.mono BX1.out.size)).block x hx⟩) (BX1.out.trans (B5.out.mono BX1.out.size)).size
  obtain ⟨it0,it1,it2,it3,it4⟩:=info_parts Ca.infoTok
  have b0:(0:Int)<=(q a:Int):=by omega
  have b1:(q a:Int)<((T a).length:Int):=by have:=ULY.out;omega
  have y0:Hid (Below w5.heap.size w5 w5.drew):=(Below.refl _ _).drew
  obtain ⟨ua,uc,rfl⟩:=Ca.own_slice UO.out
  have ZL:Hid (∀ v,Below w5.heap.size w5 v->v.cell? ⟨gv,q a,none⟩=some (.slice ua un uc)):=fun v hv=>(hv.cell (p:=⟨gv,q a,none⟩) hrv.lt).trans ZL0.out
  clear ue ue' uo uk ut eun enx fux fv
  go_cut [] from 46 to 61 (fun wx=>Hid (SlQ (fun x=>col x=0/\x<W9.heap.size\/W9.heap.size<=x) 1 eToks wx (some ⟨gv,0,none⟩) ((T a).set (q a) (Ca.nt (T a) (q a) ++ [(ks,vs)])))/\Hid (Below W9.heap.size W9 wx))
  case first =>
   refine wp_region_held_drew (S:=fun w'=>w'.cell? ⟨w.heap.size,4,none⟩=some (.slice p1 ks.length d1)/\w'.cell? ⟨w.heap.size,5,none⟩=some (.slice p2 vs.length d2)) (by kernel_rfl) (KS6.out _ y0.out) (fun hHeld=>?_)
   refine take_yes 0 46 (v:=?_) rfl rfl (by kernel_rfl) (by kernel_rfl) (by kernel_rfl) (fun _ _ _ h=>h) hHeld (by rfl) (fun w hSw=>?_) ?_
   rotate_left
   ·(try dsimp only at hSw);go_simp;try rfl
   try simp only [Act.put,List.setIfInBounds_toArray,List.set_cons_zero,List.set_cons_succ]
   refine take_yes 1 47 (v:=?_) rfl rfl (by kernel_rfl) (by kernel_rfl) (by kernel_rfl) (fun _ _ _ h=>h) hHeld (by rfl) (fun w hSw=>?_) ?_
   rotate_left
   ·(try dsimp only at hSw);go_simp;try rfl
   try simp only [Act.put,List.setIfInBounds_toArray,List.set_cons_zero,List.set_cons_succ]
   refine take_yes 2 48 (v:=?_) rfl rfl (by kernel_rfl) (by kernel_rfl) (by kernel_rfl) (fun _ _ _ h=>h) hHeld (by rfl) (fun w hSw=>?_) ?_
   rotate_left
   ·(try dsimp only at hSw);go_simp;try rfl
   try simp only [Act.put,List.setIfInBounds_toArray,List.set_cons_zero,List.set_cons_succ]
   refine take_yes 3 49 (v:=?_) rfl rfl (by kernel_rfl) (by kernel_rfl) (by kernel_rfl) (fun _ _ _ h=>h) hHeld (by rfl) (fun w hSw=>?_) ?_
   rotate_left
   ·(try dsimp only at hSw);go_simp;try rfl
   try simp only [Act.put,List.setIfInBounds_toArray,List.set_cons_zero,List.set_cons_succ]
   refine take_yes 4 50 (v:=?_) rfl rfl (by kernel_rfl) (by kernel_rfl) (by kernel_rfl) (fun _ _ _ h=>h) hHeld (by rfl) (fun w hSw=>?_) ?_
   rotate_left
   ·(try dsimp only at hSw);go_simp;try rfl
   try simp only [Act.put,List.setIfInBounds_toArray,List.set_cons_zero,List.set_cons_succ]
   refine take_yes 6 52 (v:=?_) rfl rfl (by kernel_rfl) (by kernel_rfl) (by kernel_rfl) (fun _ _ _ h=>h) hHeld (by rfl) (fun w hSw=>?_) ?_
   rotate_left
   ·(try dsimp only at hSw);go_simp;try rfl
   try simp only [Act.put,List.setIfInBounds_toArray,List.set_cons_zero,List.set_cons_succ]
   refine take_yes 7 53 (v:=?_) rfl rfl (by kernel_rfl) (by kernel_rfl) (by kernel_rfl) (fun _ _ _ h=>h) hHeld (by rfl) (fun w hSw=>?_) ?_
   rotate_left
   ·(try dsimp only at hSw);go_simp;try rfl
   try simp only [Act.put,List.setIfInBounds_toArray,List.set_cons_zero,List.set_cons_succ]
   refine take_yes 9 55 (v:=?_) rfl rfl (by kernel_rfl) (by kernel_rfl) (by kernel_rfl) (fun _ _ _ h=>h) hHeld (by rfl) (fun w hSw=>?_) ?_
   rotate_left
   ·(try dsimp only at hSw);go_simp;try rfl
   try simp only [Act.put,List.setIfInBounds_toArray,List.set_cons_zero,List.set_cons_succ]
   refine take_yes 10 56 (v:=?_) rfl rfl (by kernel_rfl) (by kernel_rfl) (by kernel_rfl) (fun _ _ _ h=>h) hHeld (by rfl) (fun w hSw=>?_) ?_
   rotate_left
   ·(try dsimp only at hSw);go_simp;try rfl
   try simp only [Act.put,List.setIfInBounds_toArray,List.set_cons_zero,List.set_cons_succ]
   refine wpAnyH_ready (rs:=[5,8]) (by kernel_rfl) (by simp) ?_
   refine AllReadyH.cons rfl (fun K hK=>?_) (AllReadyH.cons rfl (fun K hK=>?_) (AllReadyH.nil))
   ·have zl:(w5.drew).cell? ⟨gv,q a,none⟩=some (.slice ua un uc):=ZL.out _ y0.out
    go_simp
    refine hK.out _ _ (KS6.out _ y0.out) (fun hHeld=>?_)
    clear hK K zl
    try simp only [Act.put,List.setIfInBounds_toArray,List.set_cons_zero,List.set_cons_succ]
    refine wpAnyH_ready (rs:=[8]) (by kernel_rfl) (by simp) ?_
    refine AllReadyH.cons rfl (fun K hK=>?_) (AllReadyH.nil)
    go_simp
    refine (lists_any p1 d1 ks _ (K6.out.carry carry_row (fun x hx0 hx=>⟨hx,y0.out.block x hx0⟩) y0.out.size) (by omega) (fun k _=>by have:=KM.out k;omega)).mono ?_
    rintro e w6 ⟨⟨ka,kc,rfl,sk,k1,k2,k3⟩,hb⟩
    have y6:Hid (Below w5.heap.size w5 w6):=y0.out.trans (hb.mono y0.out.size)
    have TK6:Hid (TblZ (fun q=>w5.heap.size<=q) w6 ka kc ks):=⟨sk,k1,k2,k3⟩
    clear hb sk k1 k2 k3
    refine hK.out _ _ (KS6.out _ y6.out) (fun hHeld=>?_)
    clear hK K
    try simp only [Act.put,List.setIfInBounds_toArray,List.set_cons_zero,List.set_cons_succ]
    refine wpAnyH_ready (rs:=[11]) (by kernel_rfl) (by simp) ?_
    refine AllReadyH.cons rfl (fun K hK=>?_) (AllReadyH.nil)
    go_simp
    refine (lists_any p2 d2 vs _ (V6.out.carry carry_row (fun x hx0 hx=>⟨hx,y6.out.block x hx0⟩) y6.out.size) (by omega) (fun k _=>by have:=VM.out k;omega)).mono ?_
    rintro e w7 ⟨⟨va',cv',rfl,sk,k1,k2,k3⟩,hb⟩
    have y7:Hid (Below w5.heap.size w5 w7):=y6.out.trans (hb.mono y6.out.size)
    have TK7:Hid (TblZ (fun q=>w5.heap.size<=q) w7 ka kc ks):=⟨TK6.out.1.keep carry_row hb,TK6.out.2⟩
    have TV7:Hid (TblZ (fun q=>w5.heap.size<=q) w7 va' cv' vs):=⟨sk.carry carry_row (fun q _ h=>⟨Nat.le_trans y6.out.size h,rfl⟩) (Nat.le_refl _),k1,k2,k3⟩
    clear hb sk k1 k2 k3
    refine hK.out _ _ (KS6.out _ y7.out) (fun hHeld=>?_)
    clear hK K
    try simp only [Act.put,List.setIfInBounds_toArray,List.set_cons_zero,List.set_cons_succ]
    refine take_yes 12 58 (v:=?_) rfl rfl (by kernel_rfl) (by kernel_rfl) (by kernel_rfl) (fun _ _ _ h=>h) hHeld (by rfl) (fun w hSw=>?_) ?_
    rotate_left
    ·(try dsimp only at hSw);go_simp;try rfl
    try simp only [Act.put,List.setIfInBounds_toArray,List.set_cons_zero,List.set_cons_succ]
    refine wpAnyH_ready (rs:=[13]) (by kernel_rfl) (by simp) ?_
    refine AllReadyH.cons rfl (fun K hK=>?_) (AllReadyH.nil)
    go_simp
    have y8:Hid (Below w5.heap.size w5 (w7.alloc (.cells #[.slice ka ks.length kc,.slice va' vs.length cv'] 63))):=y7.out.alloc y7.out.size _
    refine hK.out _ _ (KS6.out _ y8.out) (fun hHeld=>?_)
    clear hK K
    try simp only [Act.put,List.setIfInBounds_toArray,List.set_cons_zero,List.set_cons_succ]
    refine wpAnyH_ready (rs:=[14]) (by kernel_rfl) (by simp) ?_
    refine AllReadyH.cons rfl (fun K hK=>?_) (AllReadyH.nil)
    refine step_append_lies _ (by rfl) _ _ _ (by rfl) W9.heap.size 63 it0 _ 2 48 Tryz.underlying60 it1 it2 it3 it4 rfl (by omega) (.slice ua un uc) un uys (by rfl) (Ca.own_at UO.out fun x hx=>y8.out.block x (UO.out.lt x hx).2) ⟨w7.heap.size,0,none⟩ 1 1 [.slice ka ks.length kc,.slice va' vs.length cv'] (by rfl) (by rfl) (World.news_of_block (cs:=#[.slice ka ks.length kc,.slice va' vs.length cv']) (t:=63) (fr:=(0,0)) (heap_alloc_new w7 _)) (by simp [Value.oneCell']) (by omega) (by unfold maxLen;omega) (by omega) (by have:=y8.out.size;omega) (w7.heap.size+1) (by simp) ?_
    intro gg cap8 w8 hown8 hgrow8 hat8 hlt8
    have e8:w8.heap[gv]?=w5.heap[gv]?:=(hgrow8.block gv (by have:=y8.out.size;have:=hrv.lt;omega) (fun e=>(ty_own UO.out e.symm).ne (ty_row hrv) (by decide) rfl)).trans (y8.out.block gv hrv.lt)
    have z8:w8.cell? ⟨gv,q a,none⟩=some (.slice ua un uc):=(World.cell?_of_block (a:=⟨gv,q a,none⟩) e8).trans ZL0.out
    have f8:w8.frozen? ⟨gv,q a,none⟩=false:=(World.frozen?_of_block (a:=⟨gv,q a,none⟩) e8).trans (hrv.frozen (q a))
    have PD:=Ca.hid (put_doc (tok:=(ks,vs)) (u1:=w7) (ob:=(.cells #[.slice ka ks.length kc,.slice va' vs.length cv'] 63)) AQ.out AP.out ULY.out UX.out UN.out UO.out UL.out UT.out y7.out TK7.out TV7.out hgrow8 (by unfold maxLen;omega) hown8 (by rcases hat8 with e | e;exact .inl e;exact .inr (by have:=y7.out.size;omega)) hs5)
    have B8g:=Ca.hid ((B5.out.trans (y8.out.mono hs5)).grown hgrow8 (by have:=y8.out.size;omega) (fun x hx=>(UO.out.lt x hx).1))
    have B8':Hid (Below W9.heap.size W9 (w8.setCell ⟨gv,q a,none⟩ (.slice (some ⟨gg,0,none⟩) (un+1) cap8))):=B8g.out.setCell (p:=⟨gv,q a,none⟩) hgv _
    clear hown8 hgrow8 hat8 hlt8 e8
    refine hK.out _ _ (KSB.out _ B8g.out) (fun hHeld=>?_)
    clear hK K
    try simp only [Act.put,List.setIfInBounds_toArray,List.set_cons_zero,List.set_cons_succ]
    refine wpAnyH_ready (rs:=[15]) (by kernel_rfl) (by simp) ?_
    refine AllReadyH.cons rfl (fun K hK=>?_) AllReadyH.nil
    go_simp
    refine hK.out _ _ (KSB.out _ B8g.out) (fun hHeld=>?_)
    clear hK K
    try simp only [Act.put,List.setIfInBounds_toArray,List.set_cons_zero,List.set_cons_succ]
    refine wpAnyH_ready (rs:=[16]) (by kernel_rfl) (by simp) ?_
    refine AllReadyH.cons rfl (fun K hK=>?_) AllReadyH.nil
    go_simp
    refine hK.out _ _ (KSB.out _ B8'.out) (fun hHeld=>?_)
    clear hK K
    try simp only [Act.put,List.setIfInBounds_toArray,List.set_cons_zero,List.set_cons_succ]
    refine wpAnyH_done (by kernel_rfl) ?_ _
    go_wp2_with fail
    go_meet
    exact ⟨PD.out,B8'.out⟩
   ·go_simp
    refine (lists_any p1 d1 ks _ (K6.out.carry carry_row (fun x hx0 hx=>⟨hx,y0.out.block x hx0⟩) y0.out.size) (by omega) (fun k _=>by have:=KM.out k;omega)).mono ?_
    rintro e w6 ⟨⟨ka,kc,rfl,sk,k1,k2,k3⟩,hb⟩
    have y6:Hid (Below w5.heap.size w5 w6):=y0.out.trans (hb.mono y0.out.size)
    have TK6:Hid (TblZ (fun q=>w5.heap.size<=q) w6 ka kc ks):=⟨sk,k1,k2,k3⟩
    clear hb sk k1 k2 k3
    refine hK.out _ _ (KS6.out _ y6.out) (fun hHeld=>?_)
    clear hK K
    try simp only [Act.put,List.setIfInBounds_toArray,List.set_cons_zero,List.set_cons_succ]
    refine wpAnyH_ready (rs:=[5,11]) (by kernel_rfl) (by simp) ?_
    refine AllReadyH.cons rfl (fun K hK=>?_) (AllReadyH.cons rfl (fun K hK=>?_) (AllReadyH.nil))
    ·have zl:(w6).cell? ⟨gv,q a,none⟩=some (.slice ua un uc):=ZL.out _ y6.out
     go_simp
     refine hK.out _ _ (KS6.out _ y6.out) (fun hHeld=>?_)
     clear hK K zl
     try simp only [Act.put,List.setIfInBounds_toArray,List.set_cons_zero,List.set_cons_succ]
     refine wpAnyH_ready (rs:=[11]) (by kernel_rfl) (by simp) ?_
     refine AllReadyH.cons rfl (fun K hK=>?_) (AllReadyH.nil)
     go_simp
     refine (lists_any p2 d2 vs _ (V6.out.carry carry_row (fun x hx0 hx=>⟨hx,y6.out.block x hx0⟩) y6.out.size) (by omega) (fun k _=>by have:=VM.out k;omega)).mono ?_
     rintro e w7 ⟨⟨va',cv',rfl,sk,k1,k2,k3⟩,hb⟩
     have y7:Hid (Below w5.heap.size w5 w7):=y6.out.trans (hb.mono y6.out.size)
     have TK7:Hid (TblZ (fun q=>w5.heap.size<=q) w7 ka kc ks):=⟨TK6.out.1.keep carry_row hb,TK6.out.2⟩
     have TV7:Hid (TblZ (fun q=>w5.heap.size<=q) w7 va' cv' vs):=⟨sk.carry carry_row (fun q _ h=>⟨Nat.le_trans y6.out.size h,rfl⟩) (Nat.le_refl _),k1,k2,k3⟩
     clear hb sk k1 k2 k3
     refine hK.out _ _ (KS6.out _ y7.out) (fun hHeld=>?_)
     clear hK K
     try simp only [Act.put,List.setIfInBounds_toArray,List.set_cons_zero,List.set_cons_succ]
     refine take_yes 12 58 (v:=?_) rfl rfl (by kernel_rfl) (by kernel_rfl) (by kernel_rfl) (fun _ _ _ h=>h) hHeld (by rfl) (fun w hSw=>?_) ?_
     rotate_left
     ·(try dsimp only at hSw);go_simp;try rfl
     try simp only [Act.put,List.setIfInBounds_toArray,List.set_cons_zero,List.set_cons_succ]
     refine wpAnyH_ready (rs:=[13]) (by kernel_rfl) (by simp) ?_
     refine AllReadyH.cons rfl (fun K hK=>?_) (AllReadyH.nil)
     go_simp
     have y8:Hid (Below w5.heap.size w5 (w7.alloc (.cells #[.slice ka ks.length kc,.slice va' vs.length cv'] 63))):=y7.out.alloc y7.out.size _
     refine hK.out _ _ (KS6.out _ y8.out) (fun hHeld=>?_)
     clear hK K
     try simp only [Act.put,List.setIfInBounds_toArray,List.set_cons_zero,List.set_cons_succ]
     refine wpAnyH_ready (rs:=[14]) (by kernel_rfl) (by simp) ?_
     refine AllReadyH.cons rfl (fun K hK=>?_) (AllReadyH.nil)
     refine step_append_lies _ (by rfl) _ _ _ (by rfl) W9.heap.size 63 it0 _ 2 48 Tryz.underlying60 it1 it2 it3 it4 rfl (by omega) (.slice ua un uc) un uys (by rfl) (Ca.own_at UO.out fun x hx=>y8.out.block x (UO.out.lt x hx).2) ⟨w7.heap.size,0,none⟩ 1 1 [.slice ka ks.length kc,.slice va' vs.length cv'] (by rfl) (by rfl) (World.news_of_block (cs:=#[.slice ka ks.length kc,.slice va' vs.length cv']) (t:=63) (fr:=(0,0)) (heap_alloc_new w7 _)) (by simp [Value.oneCell']) (by omega) (by unfold maxLen;omega) (by omega) (by have:=y8.out.size;omega) (w7.heap.size+1) (by simp) ?_
     intro gg cap8 w8 hown8 hgrow8 hat8 hlt8
     have e8:w8.heap[gv]?=w5.heap[gv]?:=(hgrow8.block gv (by have:=y8.out.size;have:=hrv.lt;omega) (fun e=>(ty_own UO.out e.symm).ne (ty_row hrv) (by decide) rfl)).trans (y8.out.block gv hrv.lt)
     have z8:w8.cell? ⟨gv,q a,none⟩=some (.slice ua un uc):=(World.cell?_of_block (a:=⟨gv,q a,none⟩) e8).trans ZL0.out
     have f8:w8.frozen? ⟨gv,q a,none⟩=false:=(World.frozen?_of_block (a:=⟨gv,q a,none⟩) e8).trans (hrv.frozen (q a))
     have PD:=Ca.hid (put_doc (tok:=(ks,vs)) (u1:=w7) (ob:=(.cells #[.slice ka ks.length kc,.slice va' vs.length cv'] 63)) AQ.out AP.out ULY.out UX.out UN.out UO.out UL.out UT.out y7.out TK7.out TV7.out hgrow8 (by unfold maxLen;omega) hown8 (by rcases hat8 with e | e;exact .inl e;exact .inr (by have:=y7.out.size;omega)) hs5)
     have B8g:=Ca.hid ((B5.out.trans (y8.out.mono hs5)).grown hgrow8 (by have:=y8.out.size;omega) (fun x hx=>(UO.out.lt x hx).1))
     have B8':Hid (Below W9.heap.size W9 (w8.setCell ⟨gv,q a,none⟩ (.slice (some ⟨gg,0,none⟩) (un+1) cap8))):=B8g.out.setCell (p:=⟨gv,q a,none⟩) hgv _
     clear hown8 hgrow8 hat8 hlt8 e8
     refine hK.out _ _ (KSB.out _ B8g.out) (fun hHeld=>?_)
     clear hK K
     try simp only [Act.put,List.setIfInBounds_toArray,List.set_cons_zero,List.set_cons_succ]
     refine wpAnyH_ready (rs:=[15]) (by kernel_rfl) (by simp) ?_
     refine AllReadyH.cons rfl (fun K hK=>?_) AllReadyH.nil
     go_simp
     refine hK.out _ _ (KSB.out _ B8g.out) (fun hHeld=>?_)
     clear hK K
     try simp only [Act.put,List.setIfInBounds_toArray,List.set_cons_zero,List.set_cons_succ]
     refine wpAnyH_ready (rs:=[16]) (by kernel_rfl) (by simp) ?_
     refine AllReadyH.cons rfl (fun K hK=>?_) AllReadyH.nil
     go_simp
     refine hK.out _ _ (KSB.out _ B8'.out) (fun hHeld=>?_)
     clear hK K
     try simp only [Act.put,List.setIfInBounds_toArray,List.set_cons_zero,List.set_cons_succ]
     refine wpAnyH_done (by kernel_rfl) ?_ _
     go_wp2_with fail
     go_meet
     exact ⟨PD.out,B8'.out⟩
    ·go_simp
     refine (lists_any p2 d2 vs _ (V6.out.carry carry_row (fun x hx0 hx=>⟨hx,y6.out.block x hx0⟩) y6.out.size) (by omega) (fun k _=>by have:=VM.out k;omega)).mono ?_
     rintro e w7 ⟨⟨va',cv',rfl,sk,k1,k2,k3⟩,hb⟩
     have y7:Hid (Below w5.heap.size w5 w7):=y6.out.trans (hb.mono y6.out.size)
     have TK7:Hid (TblZ (fun q=>w5.heap.size<=q) w7 ka kc ks):=⟨TK6.out.1.keep carry_row hb,TK6.out.2⟩
     have TV7:Hid (TblZ (fun q=>w5.heap.size<=q) w7 va' cv' vs):=⟨sk.carry carry_row (fun q _ h=>⟨Nat.le_trans y6.out.size h,rfl⟩) (Nat.le_refl _),k1,k2,k3⟩
     clear hb sk k1 k2 k3
     refine hK.out _ _ (KS6.out _ y7.out) (fun hHeld=>?_)
     clear hK K
     try simp only [Act.put,List.setIfInBounds_toArray,List.set_cons_zero,List.set_cons_succ]
     refine take_yes 12 58 (v:=?_) rfl rfl (by kernel_rfl) (by kernel_rfl) (by kernel_rfl) (fun _ _ _ h=>h) hHeld (by rfl) (fun w hSw=>?_) ?_
     rotate_left
     ·(try dsimp only at hSw);go_simp;try rfl
     try simp only [Act.put,List.setIfInBounds_toArray,List.set_cons_zero,List.set_cons_succ]
     refine wpAnyH_ready (rs:=[5,13]) (by kernel_rfl) (by simp) ?_
     refine AllReadyH.cons rfl (fun K hK=>?_) (AllReadyH.cons rfl (fun K hK=>?_) (AllReadyH.nil))
     ·have zl:(w7).cell? ⟨gv,q a,none⟩=some (.slice ua un uc):=ZL.out _ y7.out
      go_simp
      refine hK.out _ _ (KS6.out _ y7.out) (fun hHeld=>?_)
      clear hK K zl
      try simp only [Act.put,List.setIfInBounds_toArray,List.set_cons_zero,List.set_cons_succ]
      refine wpAnyH_ready (rs:=[13]) (by kernel_rfl) (by simp) ?_
      refine AllReadyH.cons rfl (fun K hK=>?_) (AllReadyH.nil)
      go_simp
      have y8:Hid (Below w5.heap.size w5 (w7.alloc (.cells #[.slice ka ks.length kc,.slice va' vs.length cv'] 63))):=y7.out.alloc y7.out.size _
      refine hK.out _ _ (KS6.out _ y8.out) (fun hHeld=>?_)
      clear hK K
      try simp only [Act.put,List.setIfInBounds_toArray,List.set_cons_zero,List.set_cons_succ]
      refine wpAnyH_ready (rs:=[14]) (by kernel_rfl) (by simp) ?_
      refine AllReadyH.cons rfl (fun K hK=>?_) (AllReadyH.nil)
      refine step_append_lies _ (by rfl) _ _ _ (by rfl) W9.heap.size 63 it0 _ 2 48 Tryz.underlying60 it1 it2 it3 it4 rfl (by omega) (.slice ua un uc) un uys (by rfl) (Ca.own_at UO.out fun x hx=>y8.out.block x (UO.out.lt x hx).2) ⟨w7.heap.size,0,none⟩ 1 1 [.slice ka ks.length kc,.slice va' vs.length cv'] (by rfl) (by rfl) (World.news_of_block (cs:=#[.slice ka ks.length kc,.slice va' vs.length cv']) (t:=63) (fr:=(0,0)) (heap_alloc_new w7 _)) (by simp [Value.oneCell']) (by omega) (by unfold maxLen;omega) (by omega) (by have:=y8.out.size;omega) (w7.heap.size+1) (by simp) ?_
      intro gg cap8 w8 hown8 hgrow8 hat8 hlt8
      have e8:w8.heap[gv]?=w5.heap[gv]?:=(hgrow8.block gv (by have:=y8.out.size;have:=hrv.lt;omega) (fun e=>(ty_own UO.out e.symm).ne (ty_row hrv) (by decide) rfl)).trans (y8.out.block gv hrv.lt)
      have z8:w8.cell? ⟨gv,q a,none⟩=some (.slice ua un uc):=(World.cell?_of_block (a:=⟨gv,q a,none⟩) e8).trans ZL0.out
      have f8:w8.frozen? ⟨gv,q a,none⟩=false:=(World.frozen?_of_block (a:=⟨gv,q a,none⟩) e8).trans (hrv.frozen (q a))
      have PD:=Ca.hid (put_doc (tok:=(ks,vs)) (u1:=w7) (ob:=(.cells #[.slice ka ks.length kc,.slice va' vs.length cv'] 63)) AQ.out AP.out ULY.out UX.out UN.out UO.out UL.out UT.out y7.out TK7.out TV7.out hgrow8 (by unfold maxLen;omega) hown8 (by rcases hat8 with e | e;exact .inl e;exact .inr (by have:=y7.out.size;omega)) hs5)
      have B8g:=Ca.hid ((B5.out.trans (y8.out.mono hs5)).grown hgrow8 (by have:=y8.out.size;omega) (fun x hx=>(UO.out.lt x hx).1))
      have B8':Hid (Below W9.heap.size W9 (w8.setCell ⟨gv,q a,none⟩ (.slice (some ⟨gg,0,none⟩) (un+1) cap8))):=B8g.out.setCell (p:=⟨gv,q a,none⟩) hgv _
      clear hown8 hgrow8 hat8 hlt8 e8
      refine hK.out _ _ (KSB.out _ B8g.out) (fun hHeld=>?_)
      clear hK K
      try simp only [Act.put,List.setIfInBounds_toArray,List.set_cons_zero,List.set_cons_succ]
      refine wpAnyH_ready (rs:=[15]) (by kernel_rfl) (by simp) ?_
      refine AllReadyH.cons rfl (fun K hK=>?_) AllReadyH.nil
      go_simp
      refine hK.out _ _ (KSB.out _ B8g.out) (fun hHeld=>?_)
      clear hK K
      try simp only [Act.put,List.setIfInBounds_toArray,List.set_cons_zero,List.set_cons_succ]
      refine wpAnyH_ready (rs:=[16]) (by kernel_rfl) (by simp) ?_
      refine AllReadyH.cons rfl (fun K hK=>?_) AllReadyH.nil
      go_simp
      refine hK.out _ _ (KSB.out _ B8'.out) (fun hHeld=>?_)
      clear hK K
      try simp only [Act.put,List.setIfInBounds_toArray,List.set_cons_zero,List.set_cons_succ]
      refine wpAnyH_done (by kernel_rfl) ?_ _
      go_wp2_with fail
      go_meet
      exact ⟨PD.out,B8'.out⟩
     ·go_simp
      have y8:Hid (Below w5.heap.size w5 (w7.alloc (.cells #[.slice ka ks.length kc,.slice va' vs.length cv'] 63))):=y7.out.alloc y7.out.size _
      refine hK.out _ _ (KS6.out _ y8.out) (fun hHeld=>?_)
      clear hK K
      try simp only [Act.put,List.setIfInBounds_toArray,List.set_cons_zero,List.set_cons_succ]
      refine wpAnyH_ready (rs:=[5]) (by kernel_rfl) (by simp) ?_
      refine AllReadyH.cons rfl (fun K hK=>?_) (AllReadyH.nil)
      have zl:((w7.alloc (.cells #[.slice ka ks.length kc,.slice va' vs.length cv'] 63))).cell? ⟨gv,q a,none⟩=some (.slice ua un uc):=ZL.out _ y8.out
      go_simp
      refine hK.out _ _ (KS6.out _ y8.out) (fun hHeld=>?_)
      clear hK K zl
      try simp only [Act.put,List.setIfInBounds_toArray,List.set_cons_zero,List.set_cons_succ]
      refine wpAnyH_ready (rs:=[14]) (by kernel_rfl) (by simp) ?_
      refine AllReadyH.cons rfl (fun K hK=>?_) (AllReadyH.nil)
      refine step_append_lies _ (by rfl) _ _ _ (by rfl) W9.heap.size 63 it0 _ 2 48 Tryz.underlying60 it1 it2 it3 it4 rfl (by omega) (.slice ua un uc) un uys (by rfl) (Ca.own_at UO.out fun x hx=>y8.out.block x (UO.out.lt x hx).2) ⟨w7.heap.size,0,none⟩ 1 1 [.slice ka ks.length kc,.slice va' vs.length cv'] (by rfl) (by rfl) (World.news_of_block (cs:=#[.slice ka ks.length kc,.slice va' vs.length cv']) (t:=63) (fr:=(0,0)) (heap_alloc_new w7 _)) (by simp [Value.oneCell']) (by omega) (by unfold maxLen;omega) (by omega) (by have:=y8.out.size;omega) (w7.heap.size+1) (by simp) ?_
      intro gg cap8 w8 hown8 hgrow8 hat8 hlt8
      have e8:w8.heap[gv]?=w5.heap[gv]?:=(hgrow8.block gv (by have:=y8.out.size;have:=hrv.lt;omega) (fun e=>(ty_own UO.out e.symm).ne (ty_row hrv) (by decide) rfl)).trans (y8.out.block gv hrv.lt)
      have z8:w8.cell? ⟨gv,q a,none⟩=some (.slice ua un uc):=(World.cell?_of_block (a:=⟨gv,q a,none⟩) e8).trans ZL0.out
      have f8:w8.frozen? ⟨gv,q a,none⟩=false:=(World.frozen?_of_block (a:=⟨gv,q a,none⟩) e8).trans (hrv.frozen (q a))
      have PD:=Ca.hid (put_doc (tok:=(ks,vs)) (u1:=w7) (ob:=(.cells #[.slice ka ks.length kc,.slice va' vs.length cv'] 63)) AQ.out AP.out ULY.out UX.out UN.out UO.out UL.out UT.out y7.out TK7.out TV7.out hgrow8 (by unfold maxLen;omega) hown8 (by rcases hat8 with e | e;exact .inl e;exact .inr (by have:=y7.out.size;omega)) hs5)
      have B8g:=Ca.hid ((B5.out.trans (y8.out.mono hs5)).grown hgrow8 (by have:=y8.out.size;omega) (fun x hx=>(UO.out.lt x hx).1))
      have B8':Hid (Below W9.heap.size W9 (w8.setCell ⟨gv,q a,none⟩ (.slice (some ⟨gg,0,none⟩) (un+1) cap8))):=B8g.out.setCell (p:=⟨gv,q a,none⟩) hgv _
      clear hown8 hgrow8 hat8 hlt8 e8
      refine hK.out _ _ (KSB.out _ B8g.out) (fun hHeld=>?_)
      clear hK K
      try simp only [Act.put,List.setIfInBounds_toArray,List.set_cons_zero,List.set_cons_succ]
      refine wpAnyH_ready (rs:=[15]) (by kernel_rfl) (by simp) ?_
      refine AllReadyH.cons rfl (fun K hK=>?_) AllReadyH.nil
      go_simp
      refine hK.out _ _ (KSB.out _ B8g.out) (fun hHeld=>?_)
      clear hK K
      try simp only [Act.put,List.setIfInBounds_toArray,List.set_cons_zero,List.set_cons_succ]
      refine wpAnyH_ready (rs:=[16]) (by kernel_rfl) (by simp) ?_
      refine AllReadyH.cons rfl (fun K hK=>?_) AllReadyH.nil
      go_simp
      refine hK.out _ _ (KSB.out _ B8'.out) (fun hHeld=>?_)
      clear hK K
      try simp only [Act.put,List.setIfInBounds_toArray,List.set_cons_zero,List.set_cons_succ]
      refine wpAnyH_done (by kernel_rfl) ?_ _
      go_wp2_with fail
      go_meet
      exact ⟨PD.out,B8'.out⟩
  case rest =>
   obtain ⟨DN,BN⟩:=hcut
   have BN1:=Ca.hid (BX1.out.trans (BN.out.mono BX1.out.size))
   have hsn:=BN.out.size
   have BNw:Hid (Below W2.heap.size W2 wc):=BX.out.trans (BN.out.mono hsx)
   have C7:=Ca.hid (C2.out.keep BNw.out)
   have B7:=Ca.hid (B2.out.keep BNw.out)
   have D7:=Ca.hid (D2.out.keep BNw.out)
   have F7:=Ca.hid (F2.out.keep BNw.out.size)
   have HW7:Hid (Below B w0 wc):=HW.out.trans ((BW1.out.trans (BN1.out.mono BW1.out.size)).mono hBs)
   have DN7:Hid (SlQ (fun x=>col x=0) 1 eToks wc (some ⟨gv,0,none⟩) ((T a).set (q a) (Ca.nt (T a) (q a) ++ [(ks,vs)]))):=DN.out.carry carry_toks (fun x _ hx=>⟨by
    rcases hx with e | e
    ·exact e.1
    ·exact F2.out.1 x (by omega),rfl⟩) (Nat.le_refl _)
   obtain ⟨⟨hP7,-⟩,⟨hva7,-⟩,⟨hvr7,cr7⟩,-⟩:=B7.out
   have cgr:=cr7 gr rfl
   have tgr:=ty_own hvr7 (q:=gr) rfl
   obtain ⟨g9,c9,F9,e9,-,hr9,hc9,-⟩:=row_of_own hvr7 (by omega)
   cases e9
   have s7:wc.cell? ⟨gr,a,none⟩=some (F9 a):=hr9.cell (by omega)
   have s8:wc.frozen? ⟨gr,a,none⟩=false:=hr9.frozen a
   obtain ⟨u60,u61,u62,u66,u67,uga,u64,u65⟩:=KQ.out wc BN1.out
   clear KQ
   go_upto_region 14 with fail
   obtain ⟨W8,eW8⟩:∃ W8,wc.setCell ⟨gr,a,none⟩ (.slice (some ⟨gv,0,none⟩) (T a).length cv)=W8:=⟨_,rfl⟩
   rw [eW8]
   have st8:∀ x,¬ x=gr->W8.heap[x]?=wc.heap[x]?:=fun x hx=>by rw [<-eW8];exact Below.heap_setCell _ _ _ _ (show x ≠ gr from hx)
   have sz8:W8.heap.size=wc.heap.size:=by rw [<-eW8];simp [World.setCell]
   have nP:¬ P=gr:=(ty_row hP7).ne tgr (by decide)
   have nga:¬ ga=gr:=(ty_own hva7 (q:=ga) rfl).ne tgr (by decide)
   have toB:Ty wc w.heap.size 44:=⟨_,_,(BN1.out.block _ (Array.getElem?_eq_some_iff.1 OB.out).1).trans OB.out⟩
   have nob:¬ w.heap.size=gr:=toB.ne tgr (by decide)
   have KQ:Hid (∀ v,Below W8.heap.size W8 v->v.cell? ⟨P,0,none⟩=some (.pointer (some ⟨g,0,none⟩))/\v.cell? ⟨P,1,none⟩=some (.int .i64 (H:Int))/\v.cell? ⟨P,2,none⟩=some (.int .i64 (D:Int))/\v.cell? ⟨P,6,none⟩=some (.slice (some ⟨ga,0,none⟩) k ca)/\v.cell? ⟨P,7,none⟩=some (.slice (some ⟨gr,0,none⟩) k cr)/\v.cell? ⟨ga,a,none⟩=some (.pointer (some ⟨C a,0,none⟩)) /\
    v.cell? ⟨w.heap.size,4,none⟩=some (.slice p1 ks.length d1)/\v.cell? ⟨w.heap.size,5,none⟩=some (.slice p2 vs.length d2)):=fun v hv=>by
    have mv:∀ x o y,¬ x=gr->wc.cell? ⟨x,o,none⟩=some y->v.cell? ⟨x,o,none⟩=some y:=fun x o y hx hy=>by
     have h1:W8.cell? ⟨x,o,none⟩=some y:=(World.cell?_of_block (a:=⟨x,o,none⟩) (st8 x hx)).trans hy
     exact (hv.cell (p:=⟨x,o,none⟩) (World.block_lt_of_cell? W8 _ h1)).trans h1
    exact ⟨mv _ _ _ nP u60,mv _ _ _ nP u61,mv _ _ _ nP u62,mv _ _ _ nP u66,mv _ _ _ nP u67,mv _ _ _ nga uga,mv _ _ _ nob u64,mv _ _ _ nob u65⟩
   rw [LY.out.1] at eW8
   have hB8:B<=W8.heap.size:=by have:=BN1.out.size;rw [sz8];omega
   have ngB:∀ x,x<B->¬ x=gr:=fun x hx e=>by rw [<-e,F2.out.2 x hx] at cgr;exact absurd cgr (by decide)
   have KS8:Hid (SlQ (fun x=>x<B) 1 eRow W8 p1 ks):=KS.out.carry carry_row (fun x hx0 hx=>⟨hx,(st8 x (ngB x hx)).trans (BN1.out.block x hx0)⟩) (by rw [sz8];exact BN1.out.size)
   have VS8:Hid (SlQ (fun x=>x<B) 1 eRow W8 p2 vs):=VS.out.carry carry_row (fun x hx0 hx=>⟨hx,(st8 x (ngB x hx)).trans (BN1.out.block x hx0)⟩) (by rw [sz8];exact BN1.out.size)
   have C8:=Ca.hid (C7.out.off (w':=W8) hk5 cgr tgr ⟨by decide,by decide,by decide⟩ (by rw [sz8];exact Nat.le_refl _) (fun x _ hx=>st8 x hx))
   have B8:Hid (Box13 X B W8 P g H D G W ls al cl (.slice (some ⟨ga,0,none⟩) k ca) (.slice (some ⟨gr,0,none⟩) k cr) k C (upd zs a (.slice (some ⟨gv,0,none⟩) ls.length cv)) col):=by rw [<-eW8];exact B7.out.setDoc ha
   have D8:=Ca.hid (D7.out.setDoc (w':=W8) (a:=a) (cv:=cv) cgr (by rw [sz8];exact Nat.le_refl _) (fun x _ hx=>st8 x hx) DN7.out)
   have F8:=Ca.hid (F7.out.keep (w':=W8) (by rw [sz8];exact Nat.le_refl _))
   have hgrB:B<=gr:=by
    rcases Nat.lt_or_ge gr B with h | h
    ·exact absurd rfl (ngB gr h)
    ·exact h
   have HW8:Hid (Below B w0 W8):=by rw [<-eW8];exact HW7.out.setCell (p:=⟨gr,a,none⟩) hgrB _
   have KS:=Ca.hid KS8.out
   have VS:=Ca.hid VS8.out
   have BQ8:=Ca.hid (Below.refl W8.heap.size W8)
   have hg8:=C8.out.1.lt
   clear KS8 VS8 eW8 st8 sz8 C7 B7 D7 F7 HW7 DN7 DN BN BN1 BNw hP7 hva7 hvr7 cr7 tgr hr9 hc9 s7 s8 u60 u61 u62 u66 u67 uga u64 u65 nP nga toB nob ngB cgr hgrB hsn AQ AP B5 hs5 hgv hrv hcv K6 V6 KSB KS6 ZL ZL0 UT UL UX UN UO ULY BX BX1 hsx C2 B2 D2 F2 y0 b0 b1
   have KV:Hid (∀ v,Below W8.heap.size W8 v->v.cell? ⟨w.heap.size,4,none⟩=some (.slice p1 ks.length d1)/\v.cell? ⟨w.heap.size,5,none⟩=some (.slice p2 vs.length d2)):=fun v hv=>by
    obtain ⟨-,-,-,-,-,-,z4,z5⟩:=KQ.out v (BQ8.out.trans (hv.mono BQ8.out.size))
    exact ⟨z4,z5⟩
   have K2:Hid (SlQ (fun x=>x<B) 1 eRow W8 p1 ks):=KS.out.carry carry_row (fun x _ hx=>⟨hx,BQ8.out.block x (by omega)⟩) BQ8.out.size
   have V2:Hid (SlQ (fun x=>x<B) 1 eRow W8 p2 vs):=VS.out.carry carry_row (fun x _ hx=>⟨hx,BQ8.out.block x (by omega)⟩) BQ8.out.size
   go_cut [13,14] from 102 to 107 (fun vk vw wx=>∃ xs ys,Hid (AccQ (fun q=>W8.heap.size<=q) W8.heap.size 1 74 (eOwn W8.heap.size) wx vk ks.length ks xs)/\Hid (AccQ (fun q=>W8.heap.size<=q) W8.heap.size 1 74 (eOwn W8.heap.size) wx vw vs.length vs ys)/\Hid (Below W8.heap.size W8 wx))
   case first =>
    go_region_held3 (fun w'=>w'.cell? ⟨w.heap.size,4,none⟩=some (.slice p1 ks.length d1)/\w'.cell? ⟨w.heap.size,5,none⟩=some (.slice p2 vs.length d2))
     (first
       | assumption
       | exact KV.out _ (Below.refl _ _).drew
       | exact KV.out _ BKV.out
       | exact KV.out _ BVK.out
       | exact KV.out _ BK.out
       | exact KV.out _ BV.out)
     (first
       | (go_at_call_of 82 (p1);(with_reducible refine (lists_own p1 d1 ks W8.drew (K2.out.carry carry_row (fun x _ hx=>⟨hx,rfl⟩) (Nat.le_refl _)) (by omega) (fun k _=>by have:=KM.out k;omega)).mono ?_);rintro e wk ⟨xk,xs,rfl,aq,hb⟩;obtain ⟨ka,kc,rfl⟩:=Ca.own_slice aq.1;have BK:Hid (Below W8.heap.size W8 wk):=(Below.refl _ _).drew.trans hb;have AK1:Hid (AccQ (fun q=>W8.heap.size<=q) W8.heap.size 1 74 (eOwn W8.heap.size) wk (.slice ka ks.length kc) ks.length ks xs):=aq;clear aq hb)
       | (go_at_call_of 82 (p2);(with_reducible refine (lists_own p2 d2 vs wk (V2.out.carry carry_row (fun x hx0 hx=>⟨hx,BK.out.block x (by omega)⟩) BK.out.size) (by omega) (fun k _=>by have:=VM.out k;omega)).mono ?_);rintro e wkv ⟨xv,ys,rfl,aq,hb⟩;obtain ⟨va',vc',rfl⟩:=Ca.own_slice aq.1;have BKV:Hid (Below W8.heap.size W8 wkv):=BK.out.trans (hb.mono BK.out.size);have AK2:=Ca.hid (AK1.out.to (carry_own _) hb);have AV2:=Ca.hid (acc_mono aq BK.out.size);clear aq hb)
       | (go_at_call_of 82 (p2);(with_reducible refine (lists_own p2 d2 vs W8.drew (V2.out.carry carry_row (fun x _ hx=>⟨hx,rfl⟩) (Nat.le_refl _)) (by omega) (fun k _=>by have:=VM.out k;omega)).mono ?_);rintro e wv ⟨xv,ys,rfl,aq,hb⟩;obtain ⟨va',vc',rfl⟩:=Ca.own_slice aq.1;have BV:Hid (Below W8.heap.size W8 wv):=(Below.refl _ _).drew.trans hb;have AV1:Hid (AccQ (fun q=>W8.heap.size<=q) W8.heap.size 1 74 (eOwn W8.heap.size) wv (.slice va' vs.length vc') vs.length vs ys):=aq;clear aq hb)
       | (go_at_call_of 82 (p1);(with_reducible refine (lists_own p1 d1 ks wv (K2.out.carry carry_row (fun x hx0 hx=>⟨hx,BV.out.block x (by omega)⟩) BV.out.size) (by omega) (fun k _=>by have:=KM.out k;omega)).mono ?_);rintro e wvk ⟨xk,xs,rfl,aq,hb⟩;obtain ⟨ka,kc,rfl⟩:=Ca.own_slice aq.1;have BVK:Hid (Below W8.heap.size W8 wvk):=BV.out.trans (hb.mono BV.out.size);have AV2:=Ca.hid (AV1.out.to (carry_own _) hb);have AK2:=Ca.hid (acc_mono aq BV.out.size);clear aq hb))
    all_goals (go_wp2_with fail)
    all_goals go_meet
    all_goals first
     | exact ⟨_,_,AK2.out,AV2.out,BKV.out⟩
     | exact ⟨_,_,AK2.out,AV2.out,BVK.out⟩
   case rest =>
    obtain ⟨xs,ys,AK,AV,BC⟩:=hcut
    obtain ⟨ka,kc,rfl⟩:=Ca.own_slice AK.out.1
    obtain ⟨va',cv',eva,sva,hva1,hva2,hva3⟩:=acc_slq AV.out (Q':=fun q=>W8.heap.size<=q/\q<wc.heap.size) (fun q h1 h2=>⟨h1,h2⟩) (fun q h1 h2=>⟨h1,h2⟩)
    cases eva
    have SV:=Ca.hid sva
    have hsc:=BC.out.size
    have co:∀ x,x<W8.heap.size->re W8.heap.size wc.heap.size 999 col x=col x:=fun x hx=>re_old hx
    have C3:=Ca.hid ((C8.out.recol co).keep BC.out)
    have B3:=Ca.hid ((B8.out.recol co).keep BC.out)
    have D3:=Ca.hid ((D8.out.recol co).keep BC.out)
    have F3:Hid (Fresh13 B wc (re W8.heap.size wc.heap.size 999 col)):=⟨fun x hx=>by rw [re_past hx];exact F8.out.1 x (by omega),fun x hx=>by rw [co x (by omega)];exact F8.out.2 x hx⟩
    have cz:∀ x,W8.heap.size<=x->x<wc.heap.size->re W8.heap.size wc.heap.size 999 col x=999:=fun x h1 h2=>re_new h1 h2
    obtain ⟨co1,eco⟩:∃ c,re W8.heap.size wc.heap.size 999 col=c:=⟨_,rfl⟩
    rw [eco] at C3 B3 D3 F3 cz
    obtain ⟨w60,-,-,w66,-,wga,-,-⟩:=KQ.out wc (BQ8.out.trans (BC.out.mono BQ8.out.size))
    clear co eco sva
    have kz:∀ {x:Option Addr} {l:List (List Int)},SlQ (fun q=>W8.heap.size<=q/\q<wc.heap.size) 1 eRow wc x l->SlQ (fun x=>¬ x=g/\¬ x=b/\¬ co1 x=a+1) 1 eRow wc x l:=fun hl=>hl.carry carry_row (fun q _ hq=>⟨⟨by omega,by omega,by rw [cz q hq.1 hq.2];omega⟩,rfl⟩) (Nat.le_refl _)
    have tk1:Hid (SlQ (fun x=>¬ x=g/\¬ x=b/\¬ co1 x=a+1) 1 eRow wc ka ks):=by
     obtain ⟨_,_,e,h,_⟩:=acc_rows AK.out (Q':=fun q=>W8.heap.size<=q/\q<wc.heap.size) (fun i hi=>by have:=KM.out i;rw [Ca.nt_at hi] at this;unfold maxLen;omega) (fun q h1 h2=>⟨h1,h2⟩) (fun q h1 h2=>⟨h1,h2⟩)
     cases e
     exact kz h
    have tk2:Hid (SlQ (fun x=>¬ x=g/\¬ x=b/\¬ co1 x=a+1) 1 eRow wc va' vs):=by
     obtain ⟨_,_,e,h,_⟩:=acc_rows AV.out (Q':=fun q=>W8.heap.size<=q/\q<wc.heap.size) (fun i hi=>by have:=VM.out i;rw [Ca.nt_at hi] at this;unfold maxLen;omega) (fun q h1 h2=>⟨h1,h2⟩) (fun q h1 h2=>⟨h1,h2⟩)
     cases e
     exact kz h
    have fit:∀ {l:List (List Int)},Ca.fit H D l=true->l.length=H/\∀ i,i<H->(Ca.nt l i).length=D:=fun {l} hf=>by
     obtain ⟨e1,e2⟩:=Ca.fit_iff.1 hf
     exact ⟨e1,fun i hi=>e2 i (by omega)⟩
    have ok:Hid (TokOk H D (ks,vs)):=⟨(fit hf1).1,(fit hf2).1,fun i hi=>⟨(fit hf1).2 i hi,(fit hf2).2 i hi,I1.out i,I2.out i⟩⟩
    have hkl:q a<(T a).length:=by rw [LY.out.1];exact QL
    have OKD:=Ca.hid (C3.out.2.2 a ha).2.2
    clear fit kz
    go_upto_region 16 with (go_at_call 20;refine (put_ok_c (C a) (a+1) g b n H D G W ls R M (L a) (t a) (q a) (tkD (T a) H) (qD G W (T a) H) co1 ka va' kc cv' ks vs qd wc C3.out.1 (C3.out.2.2 a ha).1 SH.out QL (by rw [ET.out];omega) (fun r hr=>by have:=LY.out.2.2 (r / H) (row_lt hr);exact ⟨by unfold qD;rw [this],this⟩) (fun r hr i hi=>OKD.out _ _ hi) tk1.out tk2.out hf1 hf2 ok.out (by rw [E0.out,E1.out];exact QD.out) (fun e=>by rw [ecf];exact HDD.out (of_decide_eq_true (QD.out.trans e))) (GD.out.rows ha) F3.out.1 (by omega) (by rw [C3.out.2.1.1];omega) (by rw [C3.out.2.1.2];omega)).mono ?_;rintro e wp ⟨rfl,R2,M2,L2,co2,y1,y2,y3,y4⟩;have PP:=Ca.hid y1;have PC:=Ca.hid y2;have PG:=Ca.hid y3;have PF:=Ca.hid y4;clear y1 y2 y3 y4)
    have C4:=Ca.hid (C3.out.call ha hk5 PG.out PP.out (by have h:=PC.out;rw [nc_lay] at h;exact h.congr fun r hr=>⟨rfl,tkD_put sH hkl _ r,qD_put sH LY.out _ r⟩) (LY.out.put (ks,vs)) (OKD.out.put hkl ok.out) (fun i hi _ r hr x hx=>by
     have:=GD.out.rows hi r hr x hx
     exact (PF.out.2.2.2.2.2.1 x.toNat (by omega) this.2.2).2))
    have B4:=Ca.hid (B3.out.call C3.out.1 C3.out.2.1.1 C3.out.2.1.2 (by omega) PG.out)
    have D4:=Ca.hid (D3.out.call C3.out.2.1.1 C3.out.2.1.2 PG.out)
    have F4:Hid (Fresh13 B wp co2):=⟨PG.out.2.2.2,fun x hx=>by rw [PG.out.2.1 x (by omega)];exact F3.out.2 x hx⟩
    have far:∀ x,W8.heap.size<=x->x<wc.heap.size->wp.heap[x]?=wc.heap[x]?:=fun x h1 h2=>PG.out.1.block h2 (by omega) (by omega) (fun e=>by have e:co1 x=a+1:=e;rw [cz x h1 h2] at e;omega)
    have A4:=Ca.hid ((acc_bound AK.out).other (u:=wp) (carry_own _) (fun x _ hx=>by rcases hx with e | e;exact far x e.1 e.2;exact far x (AK.out.1.lt x e).1 (AK.out.1.lt x e).2) PG.out.size)
    have S4:Hid (SlQ (fun q=>W8.heap.size<=q/\q<wc.heap.size) 1 (eOwn W8.heap.size) wp va' vs):=SV.out.carry (carry_own _) (fun x _ hx=>⟨hx,far x hx.1 hx.2⟩) PG.out.size
    have hsp:=PG.out.size
    have HW4:Hid (Below B w0 wp):=(HW8.out.trans (BC.out.mono hB8)).trans ⟨PG.out.1.1,PG.out.1.2.1,PG.out.1.2.2.1,hsp,fun x hx=>PG.out.1.block (by omega) (fun e=>by have h1:=F3.out.2 x hx;rw [e,C3.out.2.1.1] at h1;exact absurd h1 (by decide)) (fun e=>by have h1:=F3.out.2 x hx;rw [e,C3.out.2.1.2] at h1;exact absurd h1 (by decide)) (fun e=>by have e:co1 x=a+1:=e;rw [F3.out.2 x hx] at e;omega)⟩
    have czp:∀ x,W8.heap.size<=x->x<wc.heap.size->co2 x=999:=fun x h1 h2=>by rw [PG.out.2.1 x h2];exact cz x h1 h2
    clear far
    obtain ⟨Z,eZ⟩:∃ Z:Nat->Prop,(fun x=>co2 x=999/\(Ty wp x 21\/Ty wp x 74))=Z:=⟨_,rfl⟩
    have WZ:Hid (Waste Z wp co2):=by rw [<-eZ];exact fun x hx=>hx
    have zin:Hid (∀ x,co2 x=999->(Ty wp x 21\/Ty wp x 74)->Z x):=by rw [<-eZ];exact fun x h1 h2=>⟨h1,h2⟩
    clear eZ
    go_upto_region 17 with (at_builtin;refine wpList_append_slq (carry_own W8.heap.size) (full_own _) rfl _ _ 42 rfl W8.heap.size 74 (.slice none 0 0) 24 Tryz.underlying42 Ca.infoRow rfl (by decide) _ ks.length xs (by rfl) A4.out.1 va' vs cv' (by rfl) S4.out hva3 (by unfold maxLen;omega) (by omega) (by omega) ?_;intro vn wq news hnl hne hown hgrow;obtain ⟨na,nc',rfl⟩:=Ca.own_slice hown;have ON:=Ca.hid hown;have RL:Hid (∀ (i:Nat) (u:Value),(xs ++ news)[i]?=some u->Loose (fun x=>co2 x=999/\Ty wq x 21) wq u):=rows_loose A4.out hnl hne (fun i hi=>by have:=KM.out i;rw [Ca.nt_at hi] at this;exact this) (fun i hi=>by have:=VM.out i;rw [Ca.nt_at hi] at this;exact this) (fun q h1 h2 h3=>puts_z hgrow A4.out.1 h2 h3 (czp q h1.1 h1.2)) (fun q h1 h2 h3=>puts_z hgrow A4.out.1 h2 h3 (czp q h1.1 h1.2));have SP:Hid (Spoil Z wp wq):=Spoil.grown hgrow (fun q hq=>zin.out q (by have:=AK.out.1.lt q hq;exact czp q this.1 this.2) (.inr (ty_own A4.out.1 hq)));clear hnl hne hown hgrow)
    have C5:=Ca.hid (C4.out.spoil hk5 SP.out WZ.out)
    have B5:=Ca.hid (B4.out.spoil SP.out WZ.out)
    have D5:=Ca.hid (D4.out.spoil SP.out WZ.out)
    have F5:=Ca.hid (F4.out.keep SP.out.2.1)
    have HW5:Hid (Below B w0 wq):=SP.out.below HW4.out (by omega) (fun x hx z=>by have:=(WZ.out x z).1;rw [F4.out.2 x hx] at this;omega)
    obtain ⟨Y,eY⟩:∃ Y:Nat->Prop,(fun x=>co2 x=999/\Ty wq x 21)=Y:=⟨_,rfl⟩
    have WY:Hid (Waste Y wq co2):=by rw [<-eY];exact fun x hx=>⟨hx.1,.inl hx.2⟩
    have YT:Hid (∀ x,Y x->Ty wq x 21):=by rw [<-eY];exact fun x hx=>hx.2
    rw [eY] at RL
    clear eY
    obtain ⟨N,eN⟩:∃ N,ks.length+vs.length=N:=⟨_,rfl⟩
    have EN:=Ca.hid eN
    have hN20:N<=20:=by omega
    have hNi:((ks.length:Int)+(vs.length:Int))=(N:Int):=by omega
    rw [eN] at ON
    try rw [hNi]
    try rw [eN]
    clear eN hNi
    go_loopw [123] (fun i wx=>∃ r:Nat,r<=N/\i=.int .i64 r/\Hid (Spoil Y wq wx)/\Hid (∀ (i:Nat) (u:Value),(xs ++ news)[i]?=some u->Loose Y wx u)) (fun i _=>N - (intOf i).toNat)
    case atStart=>exact ⟨0,Nat.zero_le _,rfl,Spoil.refl _ _,RL.out⟩
    case round =>
     obtain ⟨r,hr,rfl,SL,RW⟩:=hrel
     by_cases hlt:r<N
     ·obtain ⟨gn',cn',Fn,en,-,hrn,hcn,fn⟩:=row_of_own ON.out (by omega)
      cases en
      have fu:=fn r hlt
      obtain ⟨u,eu⟩:∃ u,Fn r=u:=⟨_,rfl⟩
      rw [eu] at fu
      have hz1:wr.cell? ⟨gn',r,none⟩=some u:=by
       rw [World.cell?_of_block (a:=⟨gn',r,none⟩) (SL.out.2.2 gn' hrn.lt fun y=>(YT.out _ y).ne (ty_row hrn) (by decide) rfl),hrn.cell (by omega),eu]
      have UU:=Ca.hid fu.symm
      obtain ⟨ua,ul,uc,rfl,hul,-⟩:=RW.out r u fu.symm
      have e0:(0:Int)<=(r:Int):=by omega
      have e1:(r:Int)<(N:Int):=by omega
      clear fu fn hrn hcn eu
      go_wp2
      go_loopw [129] (fun i wx=>∃ s:Nat,s<=ul/\i=.int .i64 s/\Hid (Spoil Y wq wx)/\Hid (∀ (i:Nat) (u:Value),(xs ++ news)[i]?=some u->Loose Y wx u)) (fun i _=>ul - (intOf i).toNat)
      case atStart=>exact ⟨0,Nat.zero_le _,rfl,SL.out,RW.out⟩
      case round =>
       obtain ⟨s,hs,rfl,SL2,RW2⟩:=hrel
       by_cases hlt2:s<ul
       ·obtain ⟨ua',ul',uc',eu',-,hrow⟩:=RW2.out r _ UU.out
        cases eu'
        obtain ⟨ub,un,uf,rfl,yb,hur,hun,huf⟩:=hrow (by omega)
        obtain ⟨y,ey⟩:=huf s hlt2
        have hc1:wr.cell? ⟨ub,s,none⟩=some (.int .i32 y):=by rw [hur.cell (by omega),ey]
        have hc2:wr.frozen? ⟨ub,s,none⟩=false:=hur.frozen s
        have e2:(0:Int)<=(s:Int):=by omega
        have e3:(s:Int)<(ul:Int):=by omega
        have YB:=Ca.hid yb
        clear hur hun huf ey yb hrow
        go_wp2
        go_roundw
        case rel=>exact ⟨s+1,by omega,by go_num,SL2.out.set YB.out _ _,fun i u hu=>(RW2.out i u hu).set _ _ _⟩
        case measure=>simp [intOf];omega
       ·have es:s=ul:=by omega
        subst es
        go_wp2
        go_roundw
        case rel=>exact ⟨r+1,by omega,by go_num,SL2.out,RW2.out⟩
        case measure=>simp [intOf];omega
     ·have er:r=N:=by omega
      subst er
      go_wp2
      go_ret
      have HW6:Below B w0 wr:=SL.out.below HW5.out (by have:=SP.out.2.1;omega) (fun x hx z=>by have:=(WY.out x z).1;rw [F5.out.2 x hx] at this;omega)
      exact ⟨rfl,g,b,_,_,al,cl,_,_,C,_,_,_,_,_,co2,C5.out.spoil hk5 SL.out WY.out,B5.out.spoil SL.out WY.out,D5.out.spoil SL.out WY.out,F5.out.keep SL.out.2.1,GD.out.put ha PF.out (by unfold dn;split <;> omega) (by unfold layT;split <;> omega),HW6,by have:=SP.out.2.1;have:=SL.out.2.1;omega⟩
end Cc
end Go.Proofs.YtnchnlgnnlgjcaaGreat
