import Derived.Test.YtnchnlgnnlgjcaaGreatCa29
set_option linter.unusedVariables false
set_option linter.unusedSimpArgs false
namespace Go.Proofs.YtnchnlgnnlgjcaaGreat
open Go.RowKit
namespace Cc
set_option maxRecDepth 100000 in
set_option maxHeartbeats 12800000 in
theorem puts_full {X:Nat->Option Obj} (B P g b n H D G W k j a:Nat) (ls:List (Int × Int)) (R M:List Int) (al:Option Addr) (cl:Nat) (va vr:Value) (C:Nat->Nat) (T:Nat->List (List Tok)) (L:Nat->Nat->List Int) (t q:Nat->Nat) (zs:Nat->Value) (col:Nat->Nat)
 (x0 x1 x2 x3:Int) (p1 p2:Option Addr) (d1 d2:Nat) (ks vs:List (List Int)) (w0 w:World) (hC:Core13 w g b n H D G W ls R M k C T L t q col) (hB:Box13 X B w P g H D G W ls al cl va vr k C zs col) (hD:Doc13 w ls.length k T zs col) (hF:Fresh13 B w col) (hG:Good13 n (ls.length*H) k j R L t) (hw:Below B w0 w) (hBs:B<=w.heap.size)
 (sh:ShOk H D G W ls) (ha:a<k) (hj:j<=80) (hks:SlQ (fun x=>x<B) 1 eRow w p1 ks) (hvs:SlQ (fun x=>x<B) 1 eRow w p2 vs) (i1:∀ k,Ls.In32 (Ca.nt ks k)) (i2:∀ k,Ls.In32 (Ca.nt vs k)) (kl:ks.length<=10) (vl:vs.length<=10) (km:∀ k,(Ca.nt ks k).length<=35184372087808) (vm:∀ k,(Ca.nt vs k).length<=35184372087808) (hf1:Ca.fit H D ks=true) (hf2:Ca.fit H D vs=true) (hdue:gn G W (t a)<gn G W (t a+1)) (cf:Nat) (ecf:Po.cnt R=cf) (hfree:cf<H) :
 Calls Tryz.prog 39 #[.pointer (some ⟨P,0,none⟩),.int .i64 (a:Int),.int .i64 (q a:Int),.agg #[.int .i64 x0,.int .i64 x1,.int .i64 x2,.int .i64 x3,.slice p1 ks.length d1,.slice p2 vs.length d2]] w fun e w'=>e=.returned (.bool true)/\PlP X B w0 w' P n H D G W ls k (j+1):=by
 obtain ⟨sH,sH2,sD,sD2,-⟩:=id sh
 obtain ⟨sG,sG2,sW,sl,sl2,-⟩:=sh.nums
 have hk5:k<=5:=hG.2.2.2.2.2.2
 have htj:t a<=j:=hG.2.2.2.2.1 a ha
 have hC1:=hC.2.2 a ha
 have QL:=hC1.2.1.2.1
 obtain ⟨W1,hW1⟩:∃ W1,w.alloc (.cells #[.int .i64 x0,.int .i64 x1,.int .i64 x2,.int .i64 x3,.slice p1 ks.length d1,.slice p2 vs.length d2] 44)=W1:=⟨_,rfl⟩
 have BW1:Hid (Below w.heap.size w W1):=by rw [<-hW1];exact Rt.box_below _ _
 have OB:Hid (W1.heap[w.heap.size]?=some (.cells #[.int .i64 x0,.int .i64 x1,.int .i64 x2,.int .i64 x3,.slice p1 ks.length d1,.slice p2 vs.length d2] 44)):=by rw [<-hW1];exact heap_alloc_new w _
 have C1:=Ca.hid (hC.keep BW1.out)
 have B1:=Ca.hid (hB.keep BW1.out)
 have D1:=Ca.hid (hD.keep BW1.out)
 have F1:=Ca.hid (hF.keep BW1.out.size)
 have GD:=Ca.hid hG
 have HW:=Ca.hid hw
 have KS:Hid (SlQ (fun x=>x<B) 1 eRow W1 p1 ks):=hks.carry carry_row (fun x _ hx=>⟨hx,BW1.out.block x (by omega)⟩) BW1.out.size
 have VS:Hid (SlQ (fun x=>x<B) 1 eRow W1 p2 vs):=hvs.carry carry_row (fun x _ hx=>⟨hx,BW1.out.block x (by omega)⟩) BW1.out.size
 have I1:=Ca.hid i1
 have I2:=Ca.hid i2
 have KM:=Ca.hid km
 have VM:=Ca.hid vm
 have LY:=Ca.hid hC1.2.1
 have SH:=Ca.hid sh
 obtain ⟨⟨hP,-⟩,⟨hva,-⟩,⟨hvr,-⟩,-⟩:=B1.out
 obtain ⟨ga,ca,Fa,rfl,-,hra,hca,fa⟩:=row_of_own hva (by omega)
 obtain ⟨gr,cr,Fr',rfl,-,hrr,hcr,fr⟩:=row_of_own hvr (by omega)
 have fa':Fa a=.pointer (some ⟨C a,0,none⟩):=by have:=fa a ha;unfold cptrs at this;simpa [ha] using this
 have fr':Fr' a=zs a:=by have:=fr a ha;simpa [ha] using this
 obtain ⟨az,cz,ez,sz⟩:=D1.out a ha
 rw [<-hC1.2.1.1] at ez
 rw [ez] at fr'
 have SZ:=Ca.hid sz
 have c0:W1.cell? ⟨P,0,none⟩=some (.pointer (some ⟨g,0,none⟩)):=hP.cell (show 0<8 by decide)
 have c1:W1.cell? ⟨P,1,none⟩=some (.int .i64 (H:Int)):=hP.cell (show 1<8 by decide)
 have c2:W1.cell? ⟨P,2,none⟩=some (.int .i64 (D:Int)):=hP.cell (show 2<8 by decide)
 have c3:W1.cell? ⟨P,3,none⟩=some (.int .i64 (G:Int)):=hP.cell (show 3<8 by decide)
 have c4:W1.cell? ⟨P,4,none⟩=some (.int .i64 (W:Int)):=hP.cell (show 4<8 by decide)
 have c5:W1.cell? ⟨P,5,none⟩=some (.slice al ls.length cl):=hP.cell (show 5<8 by decide)
 have c6:W1.cell? ⟨P,6,none⟩=some (.slice (some ⟨ga,0,none⟩) k ca):=hP.cell (show 6<8 by decide)
 have c7:W1.cell? ⟨P,7,none⟩=some (.slice (some ⟨gr,0,none⟩) k cr):=hP.cell (show 7<8 by decide)
 have za:W1.cell? ⟨ga,a,none⟩=some (.pointer (some ⟨C a,0,none⟩)):=by rw [hra.cell (by omega),fa']
 have zr:W1.cell? ⟨gr,a,none⟩=some (.slice az (T a).length cz):=by rw [hrr.cell (by omega),fr']
 have o4:W1.cell? ⟨w.heap.size,4,none⟩=some (.slice p1 ks.length d1):=cell_of_row _ _ _ _ _ _ OB.out
 have o5:W1.cell? ⟨w.heap.size,5,none⟩=some (.slice p2 vs.length d2):=cell_of_row _ _ _ _ _ _ OB.out
 have KQ:Hid (∀ v,Below W1.heap.size W1 v->v.cell? ⟨P,0,none⟩=some (.pointer (some ⟨g,0,none⟩))/\v.cell? ⟨P,1,none⟩=some (.int .i64 (H:Int))/\v.cell? ⟨P,2,none⟩=some (.int .i64 (D:Int))/\v.cell? ⟨P,6,none⟩=some (.slice (some ⟨ga,0,none⟩) k ca)/\v.cell? ⟨P,7,none⟩=some (.slice (some ⟨gr,0,none⟩) k cr)/\v.cell? ⟨ga,a,none⟩=some (.pointer (some ⟨C a,0,none⟩)) /\
  v.cell? ⟨w.heap.size,4,none⟩=some (.slice p1 ks.length d1)/\v.cell? ⟨w.heap.size,5,none⟩=some (.slice p2 vs.length d2)):=fun v hv =>
  ⟨(hv.cell (p:=⟨P,0,none⟩) hP.lt).trans c0,(hv.cell (p:=⟨P,1,none⟩) hP.lt).trans c1,(hv.cell (p:=⟨P,2,none⟩) hP.lt).trans c2,(hv.cell (p:=⟨P,6,none⟩) hP.lt).trans c6,(hv.cell (p:=⟨P,7,none⟩) hP.lt).trans c7,(hv.cell (p:=⟨ga,a,none⟩) hra.lt).trans za,(hv.cell (p:=⟨w.heap.size,4,none⟩) (World.block_lt_of_cell? W1 _ o4)).trans o4,(hv.cell (p:=⟨w.heap.size,5,none⟩) (World.block_lt_of_cell? W1 _ o5)).trans o5⟩
 have ka0:(0:Int)<=(a:Int):=by omega
 have ka1:(a:Int)<(k:Int):=by omega
 have plt:P<W1.heap.size:=hP.lt
 clear hC hB hD hF hG hw sh hks hvs i1 i2 km vm hC1 hP hva hvr hra hrr fa fr sz ez hca hcr fa' fr'
 go_enter Tryz.func39,Tryz.ntmps39
 go_upto_region 3 with (go_at_call 19;refine (tokens_any (α:=Tok) az cz (T a) _ SZ.out (by rw [LY.out.1];omega) (by rw [LY.out.1];omega)).mono ?_;rintro e w' ⟨rfl,hww⟩;cases hww.symm;clear hww;rw [LY.out.toks])
 have GG:Hid (Tn.Tr.grp (G:Int) (W:Int) ((t a:Int)+1)=(gn G W (t a+1):Int)/\Tn.Tr.grp (G:Int) (W:Int) (t a:Int)=(gn G W (t a):Int)):=⟨by rw [show (t a:Int)+1=((t a+1:Nat):Int) by omega];exact grp_gn (by omega),grp_gn (by omega)⟩
 obtain ⟨g0,eg0⟩:∃ x,gn G W (t a)=x:=⟨_,rfl⟩
 obtain ⟨g1,eg1⟩:∃ x,gn G W (t a+1)=x:=⟨_,rfl⟩
 have E0:=Ca.hid eg0
 have E1:=Ca.hid eg1
 obtain ⟨ta,eta⟩:∃ x,t a=x:=⟨_,rfl⟩
 have ET:=Ca.hid eta
 have GH:Hid (Tn.Tr.grp (G:Int) (W:Int) ((ta:Int)+1)=(g1:Int)/\Tn.Tr.grp (G:Int) (W:Int) (ta:Int)=(g0:Int)):=by
  have:=GG.out
  rw [E0.out,E1.out,ET.out] at this
  exact this
 have hdd:=hdue
 rw [eg0,eg1] at hdd
 have hdb:decide (g0<g1)=true:=decide_eq_true hdd
 clear hdue
 rw [eta] at htj ⊢
 clear eg0 eg1 eta GG
 have cA:=Tn.reg_of (u:=W1) fun v hv=>Tn.refGroups_any (G:Int) (W:Int) ((ta:Int)+1) (g1:Int) al ls.length cl (by omega) (by omega) (by omega) (by omega) (by omega) (by omega) GH.out.1 v
 have cB:=Tn.reg_of (u:=W1) fun v hv=>Tn.refGroups_any (G:Int) (W:Int) (ta:Int) (g0:Int) al ls.length cl (by omega) (by omega) (by omega) (by omega) (by omega) (by omega) GH.out.2 v
 have pk3:=cell_regrown c3
 have pk4:=cell_regrown c4
 have pk5:=cell_regrown c5
 have hwr:IntKind.i64.wrap ((ta:Int)+1)=(ta:Int)+1:=Tn.i64_same9 (by omega) (by omega)
 refine wp_region_quiet_below (by kernel_rfl) (by kernel_rfl) ?_
 repeat (go_big_quiet_step (first | (with_reducible exact cA _ _) | (with_reducible exact cB _ _)))
 refine wpQuiet_nil ?_
 intro W2 hw'
 have BQ:Hid (Below W1.heap.size W1 W2):=by obtain ⟨⟨dq,osq⟩,hw''⟩:=hw';rw [hw''];exact below_regrown W1 dq osq
 clear hw' cA cB pk3 pk4 pk5 hwr c0 c1 c2 c3 c4 c5 c6 c7 za zr o4 o5
 obtain ⟨v0,v1,v2,v6,v7,va0,v4,v5⟩:=KQ.out W2 BQ.out
 have hs12:=BW1.out.size
 have hs22:=BQ.out.size
 have SHA:=Ca.hid (shapedP_any P H D p1 d1 ks W2 v1 v2 ((KS.out.carry (Q':=fun _=>True) carry_row (fun x _ hx=>⟨trivial,BQ.out.block x (by omega)⟩) BQ.out.size).tbl) (by omega) sH2 sD2)
 have SHB:=Ca.hid (shapedP_any P H D p2 d2 vs W2 v1 v2 ((VS.out.carry (Q':=fun _=>True) carry_row (fun x _ hx=>⟨trivial,BQ.out.block x (by omega)⟩) BQ.out.size).tbl) (by omega) sH2 sD2)
 rw [hf1] at SHA
 rw [hf2] at SHB
 have hqq:((q a:Int) != (q a:Int))=false:=by simp
 have C2:=Ca.hid (C1.out.keep BQ.out)
 have B2:=Ca.hid (B1.out.keep BQ.out)
 have D2:=Ca.hid (D1.out.keep BQ.out)
 have F2:=Ca.hid (F1.out.keep BQ.out.size)
 go_upto_region 12 with (first
  | (go_at_call 40;refine (next_any (α:=Tok) az cz (T a) _ (SZ.out.keep carry_toks BQ.out) (by rw [LY.out.1];omega) (by rw [LY.out.1];omega)).mono ?_;rintro e w' ⟨rfl,hww⟩;cases hww.symm;clear hww;rw [LY.out.nxt])
  | (go_at_call 32;(with_reducible refine SHA.out.mono ?_);rintro e w' ⟨rfl,hww⟩;cases hww.symm;clear hww)
  | (go_at_call 32;(with_reducible refine SHB.out.mono ?_);rintro e w' ⟨rfl,hww⟩;cases hww.symm;clear hww))
 trace_state
 have hlt:(cf:Int)<(H:Int):=by omega
 have cF:=Tn.reg_of (u:=W2) fun v hv=>(free_any g b n cf R M v (C2.out.keep hv).1 ecf).mono fun _ _ ⟨h1,h2⟩=>(⟨h1,by rw [h2];exact Below.refl _ _⟩:_/\Below v.heap.size v _)
 have pk0:=cell_regrown v0
 have pk1:=cell_regrown v1
 refine wp_region_quiet_below (by kernel_rfl) (by kernel_rfl) ?_
 repeat (go_big_quiet_step (first | (with_reducible exact cF _ _)))
 refine wpQuiet_nil ?_
 intro W3 hw'
 have BQ3:Hid (Below W2.heap.size W2 W3):=by obtain ⟨⟨dq,osq⟩,hw''⟩:=hw';rw [hw''];exact below_regrown W2 dq osq
 have BQ4:Hid (Below W1.heap.size W1 W3):=BQ.out.trans (BQ3.out.mono BQ.out.size)
 have hs33:=BQ3.out.size
 clear hw' cF pk0 pk1
 have C6:=Ca.hid (C2.out.keep BQ3.out)
 have B6:=Ca.hid (B2.out.keep BQ3.out)
 have D6:=Ca.hid (D2.out.keep BQ3.out)
 have F6:=Ca.hid (F2.out.keep BQ3.out.size)
 go_upto_region 14 with fail
 trace_state
 have KV:Hid (∀ v,Below W3.heap.size W3 v->v.cell? ⟨w.heap.size,4,none⟩=some (.slice p1 ks.length d1)/\v.cell? ⟨w.heap.size,5,none⟩=some (.slice p2 vs.length d2)):=fun v hv=>by
  obtain ⟨-,-,-,-,-,-,z4,z5⟩:=KQ.out v (BQ4.out.trans (hv.mono BQ4.out.size))
  exact ⟨z4,z5⟩
 have K2:Hid (SlQ (fun x=>x<B) 1 eRow W3 p1 ks):=KS.out.carry carry_row (fun x _ hx=>⟨hx,BQ4.out.block x (by omega)⟩) BQ4.out.size
 have V2:Hid (SlQ (fun x=>x<B) 1 eRow W3 p2 vs):=VS.out.carry carry_row (fun x _ hx=>⟨hx,BQ4.out.block x (by omega)⟩) BQ4.out.size
 go_cut [13,14] from 102 to 107 (fun vk vw wx=>∃ xs ys,Hid (AccQ (fun q=>W3.heap.size<=q) W3.heap.size 1 74 (eOwn W3.heap.size) wx vk ks.length ks xs)/\Hid (AccQ (fun q=>W3.heap.size<=q) W3.heap.size 1 74 (eOwn W3.heap.size) wx vw vs.length vs ys)/\Hid (Below W3.heap.size W3 wx))
 case first =>
  go_region_held3 (fun w'=>w'.cell? ⟨w.heap.size,4,none⟩=some (.slice p1 ks.length d1)/\w'.cell? ⟨w.heap.size,5,none⟩=some (.slice p2 vs.length d2))
   (first
     | assumption
     | exact KV.out _ (Below.refl _ _).drew
     | exact KV.out _ BKV.out
     | exact KV.out _ BVK.out
     | exact KV.out _ BK.out
     | exact KV.out _ BV.out)
   (first
     | (go_at_call_of 82 (p1);(with_reducible refine (lists_own p1 d1 ks W3.drew (K2.out.carry carry_row (fun x _ hx=>⟨hx,rfl⟩) (Nat.le_refl _)) (by omega) (fun k _=>by have:=KM.out k;omega)).mono ?_);rintro e wk ⟨xk,xs,rfl,aq,hb⟩;obtain ⟨ka,kc,rfl⟩:=Ca.own_slice aq.1;have BK:Hid (Below W3.heap.size W3 wk):=(Below.refl _ _).drew.trans hb;have AK1:Hid (AccQ (fun q=>W3.heap.size<=q) W3.heap.size 1 74 (eOwn W3.heap.size) wk (.slice ka ks.length kc) ks.length ks xs):=aq;clear aq hb)
     | (go_at_call_of 82 (p2);(with_reducible refine (lists_own p2 d2 vs wk (V2.out.carry carry_row (fun x hx0 hx=>⟨hx,BK.out.block x (by omega)⟩) BK.out.size) (by omega) (fun k _=>by have:=VM.out k;omega)).mono ?_);rintro e wkv ⟨xv,ys,rfl,aq,hb⟩;obtain ⟨va',vc',rfl⟩:=Ca.own_slice aq.1;have BKV:Hid (Below W3.heap.size W3 wkv):=BK.out.trans (hb.mono BK.out.size);have AK2:=Ca.hid (AK1.out.to (carry_own _) hb);have AV2:=Ca.hid (acc_mono aq BK.out.size);clear aq hb)
     | (go_at_call_of 82 (p2);(with_reducible refine (lists_own p2 d2 vs W3.drew (V2.out.carry carry_row (fun x _ hx=>⟨hx,rfl⟩) (Nat.le_refl _)) (by omega) (fun k _=>by have:=VM.out k;omega)).mono ?_);rintro e wv ⟨xv,ys,rfl,aq,hb⟩;obtain ⟨va',vc',rfl⟩:=Ca.own_slice aq.1;have BV:Hid (Below W3.heap.size W3 wv):=(Below.refl _ _).drew.trans hb;have AV1:Hid (AccQ (fun q=>W3.heap.size<=q) W3.heap.size 1 74 (eOwn W3.heap.size) wv (.slice va' vs.length vc') vs.length vs ys):=aq;clear aq hb)
     | (go_at_call_of 82 (p1);(with_reducible refine (lists_own p1 d1 ks wv (K2.out.carry carry_row (fun x hx0 hx=>⟨hx,BV.out.block x (by omega)⟩) BV.out.size) (by omega) (fun k _=>by have:=KM.out k;omega)).mono ?_);rintro e wvk ⟨xk,xs,rfl,aq,hb⟩;obtain ⟨ka,kc,rfl⟩:=Ca.own_slice aq.1;have BVK:Hid (Below W3.heap.size W3 wvk):=BV.out.trans (hb.mono BV.out.size);have AV2:=Ca.hid (AV1.out.to (carry_own _) hb);have AK2:=Ca.hid (acc_mono aq BV.out.size);clear aq hb))
  all_goals (go_wp2_with fail)
  all_goals go_meet
  all_goals first
   | exact ⟨_,_,AK2.out,AV2.out,BKV.out⟩
   | exact ⟨_,_,AK2.out,AV2.out,BVK.out⟩
 case rest =>
  obtain ⟨xs,ys,AK,AV,BC⟩:=hcut
  obtain ⟨ka,kc,rfl⟩:=Ca.own_slice AK.out.1
  obtain ⟨va',cv',eva,sva,hva1,hva2,hva3⟩:=acc_slq AV.out (Q':=fun q=>W3.heap.size<=q/\q<wc.heap.size) (fun q h1 h2=>⟨h1,h2⟩) (fun q h1 h2=>⟨h1,h2⟩)
  cases eva
  have SV:=Ca.hid sva
  have hsc:=BC.out.size
  have co:∀ x,x<W3.heap.size->re W3.heap.size wc.heap.size 999 col x=col x:=fun x hx=>re_old hx
  have C3:=Ca.hid ((C6.out.recol co).keep BC.out)
  have B3:=Ca.hid ((B6.out.recol co).keep BC.out)
  have D3:=Ca.hid ((D6.out.recol co).keep BC.out)
  have F3:Hid (Fresh13 B wc (re W3.heap.size wc.heap.size 999 col)):=⟨fun x hx=>by rw [re_past hx];exact F6.out.1 x (by omega),fun x hx=>by rw [co x (by omega)];exact F6.out.2 x hx⟩
  have cz:∀ x,W3.heap.size<=x->x<wc.heap.size->re W3.heap.size wc.heap.size 999 col x=999:=fun x h1 h2=>re_new h1 h2
  obtain ⟨co1,eco⟩:∃ c,re W3.heap.size wc.heap.size 999 col=c:=⟨_,rfl⟩
  rw [eco] at C3 B3 D3 F3 cz
  obtain ⟨w60,-,-,w66,-,wga,-,-⟩:=KQ.out wc (BQ4.out.trans (BC.out.mono BQ4.out.size))
  clear co eco sva C1 B1 D1 F1 C2 B2 D2 F2 C6 B6 D6 F6 v0 v1 v2 v6 v7 va0 v4 v5
  have tk1:Tbl wc ka ks:=by
   obtain ⟨_,_,e,h,_⟩:=acc_rows AK.out (Q':=fun _=>True) (fun i hi=>by have:=KM.out i;rw [Ca.nt_at hi] at this;unfold maxLen;omega) (fun _ _ _=>trivial) (fun _ _ _=>trivial)
   cases e
   exact h.tbl
  have tk2:Tbl wc va' vs:=by
   obtain ⟨_,_,e,h,_⟩:=acc_rows AV.out (Q':=fun _=>True) (fun i hi=>by have:=VM.out i;rw [Ca.nt_at hi] at this;unfold maxLen;omega) (fun _ _ _=>trivial) (fun _ _ _=>trivial)
   cases e
   exact h.tbl
  go_upto_region 16 with (go_at_call 20;refine (put_full_c (C a) g b n H D G W ls R M (t a) (q a) ka va' kc cv' ks vs wc C3.out.1 (C3.out.2.2 a ha).1.bd QL sl2 sH2 sD2 sG sG2 sW (by rw [ET.out];omega) tk1 tk2 (by omega) (by omega) hf1 hf2 (by rw [E0.out,E1.out];exact hdd) (by rw [ecf];omega)).mono ?_;rintro e wp ⟨rfl,hb⟩;have BP:=Ca.hid hb;clear hb)
  have C4:=Ca.hid (C3.out.keep BP.out)
  have B4:=Ca.hid (B3.out.keep BP.out)
  have D4:=Ca.hid (D3.out.keep BP.out)
  have F4:=Ca.hid (F3.out.keep BP.out.size)
  have A4:=Ca.hid ((acc_bound AK.out).to (carry_own _) BP.out)
  have S4:Hid (SlQ (fun q=>W3.heap.size<=q/\q<wc.heap.size) 1 (eOwn W3.heap.size) wp va' vs):=SV.out.carry (carry_own _) (fun q hq h=>⟨h,BP.out.block q hq⟩) BP.out.size
  have hsp:=BP.out.size
  have HW4:Hid (Below B w0 wp):=HW.out.trans ((BW1.out.trans (BQ4.out.mono BW1.out.size)).trans ((BC.out.trans (BP.out.mono hsc)).mono (by omega)) |>.mono hBs)
  obtain ⟨Z,eZ⟩:∃ Z:Nat->Prop,(fun x=>co1 x=999/\(Ty wp x 21\/Ty wp x 74))=Z:=⟨_,rfl⟩
  have WZ:Hid (Waste Z wp co1):=by rw [<-eZ];exact fun x hx=>hx
  have zin:Hid (∀ x,co1 x=999->(Ty wp x 21\/Ty wp x 74)->Z x):=by rw [<-eZ];exact fun x h1 h2=>⟨h1,h2⟩
  clear eZ
  go_upto_region 17 with (at_builtin;refine wpList_append_slq (carry_own W3.heap.size) (full_own _) rfl _ _ 42 rfl W3.heap.size 74 (.slice none 0 0) 24 Tryz.underlying42 Ca.infoRow rfl (by decide) _ ks.length xs (by rfl) A4.out.1 va' vs cv' (by rfl) S4.out hva3 (by unfold maxLen;omega) (by omega) (by omega) ?_;intro vn wq news hnl hne hown hgrow;obtain ⟨na,nc',rfl⟩:=Ca.own_slice hown;have ON:=Ca.hid hown;have RL:Hid (∀ (i:Nat) (u:Value),(xs ++ news)[i]?=some u->Loose (fun x=>co1 x=999/\Ty wq x 21) wq u):=rows_loose A4.out hnl hne (fun i hi=>by have:=KM.out i;rw [Ca.nt_at hi] at this;exact this) (fun i hi=>by have:=VM.out i;rw [Ca.nt_at hi] at this;exact this) (fun q h1 h2 h3=>puts_z hgrow A4.out.1 h2 h3 (cz q h1.1 h1.2)) (fun q h1 h2 h3=>puts_z hgrow A4.out.1 h2 h3 (cz q h1.1 h1.2));have SP:Hid (Spoil Z wp wq):=Spoil.grown hgrow (fun q hq=>zin.out q (by have:=AK.out.1.lt q hq;exact cz q this.1 this.2) (.inr (ty_own A4.out.1 hq)));clear hnl hne hown hgrow)
  have C5:=Ca.hid (C4.out.spoil hk5 SP.out WZ.out)
  have B5:=Ca.hid (B4.out.spoil SP.out WZ.out)
  have D5:=Ca.hid (D4.out.spoil SP.out WZ.out)
  have F5:=Ca.hid (F4.out.keep SP.out.2.1)
  have HW5:Hid (Below B w0 wq):=SP.out.below HW4.out (by omega) (fun x hx z=>by have:=(WZ.out x z).1;rw [F4.out.2 x hx] at this;omega)
  obtain ⟨Y,eY⟩:∃ Y:Nat->Prop,(fun x=>co1 x=999/\Ty wq x 21)=Y:=⟨_,rfl⟩
  have WY:Hid (Waste Y wq co1):=by rw [<-eY];exact fun x hx=>⟨hx.1,.inl hx.2⟩
  have YT:Hid (∀ x,Y x->Ty wq x 21):=by rw [<-eY];exact fun x hx=>hx.2
  rw [eY] at RL
  clear eY
  obtain ⟨N,eN⟩:∃ N,ks.length+vs.length=N:=⟨_,rfl⟩
  have EN:=Ca.hid eN
  have hN20:N<=20:=by omega
  have hNi:((ks.length:Int)+(vs.length:Int))=(N:Int):=by omega
  rw [eN] at ON
  try rw [hNi]
  try rw [eN]
  clear eN hNi
  go_loopw [123] (fun i wx=>∃ r:Nat,r<=N/\i=.int .i64 r/\Hid (Spoil Y wq wx)/\Hid (∀ (i:Nat) (u:Value),(xs ++ news)[i]?=some u->Loose Y wx u)) (fun i _=>N - (intOf i).toNat)
  case atStart=>exact ⟨0,Nat.zero_le _,rfl,Spoil.refl _ _,RL.out⟩
  case round =>
   obtain ⟨r,hr,rfl,SL,RW⟩:=hrel
   by_cases hlt:r<N
   ·obtain ⟨gn',cn',Fn,en,-,hrn,hcn,fn⟩:=row_of_own ON.out (by omega)
    cases en
    have fu:=fn r hlt
    obtain ⟨u,eu⟩:∃ u,Fn r=u:=⟨_,rfl⟩
    rw [eu] at fu
    have hz1:wr.cell? ⟨gn',r,none⟩=some u:=by
     rw [World.cell?_of_block (a:=⟨gn',r,none⟩) (SL.out.2.2 gn' hrn.lt fun y=>(YT.out _ y).ne (ty_row hrn) (by decide) rfl),hrn.cell (by omega),eu]
    have UU:=Ca.hid fu.symm
    obtain ⟨ua,ul,uc,rfl,hul,-⟩:=RW.out r u fu.symm
    have e0:(0:Int)<=(r:Int):=by omega
    have e1:(r:Int)<(N:Int):=by omega
    clear fu fn hrn hcn eu
    go_wp2
    go_loopw [129] (fun i wx=>∃ s:Nat,s<=ul/\i=.int .i64 s/\Hid (Spoil Y wq wx)/\Hid (∀ (i:Nat) (u:Value),(xs ++ news)[i]?=some u->Loose Y wx u)) (fun i _=>ul - (intOf i).toNat)
    case atStart=>exact ⟨0,Nat.zero_le _,rfl,SL.out,RW.out⟩
    case round =>
     obtain ⟨s,hs,rfl,SL2,RW2⟩:=hrel
     by_cases hlt2:s<ul
     ·obtain ⟨ua',ul',uc',eu',-,hrow⟩:=RW2.out r _ UU.out
      cases eu'
      obtain ⟨ub,un,uf,rfl,yb,hur,hun,huf⟩:=hrow (by omega)
      obtain ⟨y,ey⟩:=huf s hlt2
      have hc1:wr.cell? ⟨ub,s,none⟩=some (.int .i32 y):=by rw [hur.cell (by omega),ey]
      have hc2:wr.frozen? ⟨ub,s,none⟩=false:=hur.frozen s
      have e2:(0:Int)<=(s:Int):=by omega
      have e3:(s:Int)<(ul:Int):=by omega
      have YB:=Ca.hid yb
      clear hur hun huf ey yb hrow
      go_wp2
      go_roundw
      case rel=>exact ⟨s+1,by omega,by go_num,SL2.out.set YB.out _ _,fun i u hu=>(RW2.out i u hu).set _ _ _⟩
      case measure=>simp [intOf];omega
     ·have es:s=ul:=by omega
      subst es
      go_wp2
      go_roundw
      case rel=>exact ⟨r+1,by omega,by go_num,SL2.out,RW2.out⟩
      case measure=>simp [intOf];omega
   ·have er:r=N:=by omega
    subst er
    go_wp2
    go_ret
    have HW6:Below B w0 wr:=SL.out.below HW5.out (by have:=SP.out.2.1;omega) (fun x hx z=>by have:=(WY.out x z).1;rw [F5.out.2 x hx] at this;omega)
    exact ⟨rfl,g,b,_,_,al,cl,_,_,C,_,_,_,_,_,co1,C5.out.spoil hk5 SL.out WY.out,B5.out.spoil SL.out WY.out,D5.out.spoil SL.out WY.out,F5.out.keep SL.out.2.1,GD.out.mono (Nat.le_succ j),HW6,by have:=SP.out.2.1;have:=SL.out.2.1;omega⟩
end Cc
end Go.Proofs.YtnchnlgnnlgjcaaGreat
namespace Go.Proofs.YtnchnlgnnlgjcaaGreat
open Go.RowKit
namespace Cc
def TblZ (Q:Nat->Prop) (w:World) (a:Option Addr) (c:Nat) (ks:List (List Int)):Prop:=SlQ Q 1 eRow w a ks/\ks.length<=c/\c<=maxLen/\(a=none->c=0)
theorem own_len2 {w:World} {B n:Nat} {t:TypeId} {v:Value} {xs:List Value} (h:w.ownsRow B t 2 v n xs):xs.length=n*2:=by
 obtain ⟨h1,h2⟩:=h
 exact h1
set_option maxHeartbeats 1600000 in
theorem put_doc {B0 nl ly n vb cap gg cap':Nat} {Q:Nat->Prop} {u u1 u2:World} {M:List (List Tok)} {xs ys:List Value} {ux:Value} {tok:Tok} {a1 a2:Option Addr} {c1 c2:Nat} {ob:Obj}
 (hA:AccQ (fun q=>Q q/\q<B0\/B0<=q) B0 1 60 (eFresh B0) u (.slice (some ⟨vb,0,none⟩) nl cap) nl M xs) (hap:Ca.Apart xs) (hly:ly<nl) (hx:xs[ly]?=some ux)
 (hn:(Ca.nt M ly).length=n) (hrow:u.ownsRow B0 63 2 ux n ys) (hyl:ys.length=n*2) (htk:∀ i (h:i<(Ca.nt M ly).length) (c:Nat->Option Value),(∀ j,j<2->c j=ys[i*2+j]?)->eTok (fun q=>Q q/\q<B0) u c (Ca.nt M ly)[i])
 (hb:Below u.heap.size u u1) (hk:TblZ (fun q=>u.heap.size<=q) u1 a1 c1 tok.1) (hv:TblZ (fun q=>u.heap.size<=q) u1 a2 c2 tok.2) (hg:(u1.alloc ob).grownBy u2 ux.ownBlock) (hm:n+1<=maxLen)
 (ho:u2.ownsRow B0 63 2 (.slice (some ⟨gg,0,none⟩) (n+1) cap') (n+1) (ys ++ [.slice a1 tok.1.length c1,.slice a2 tok.2.length c2])) (hat:ux.ownBlock=some gg\/u.heap.size<=gg) (hB0:B0<=u.heap.size) :
 SlQ (fun q=>Q q/\q<B0\/B0<=q) 1 eToks (u2.setCell ⟨vb,ly,none⟩ (.slice (some ⟨gg,0,none⟩) (n+1) cap')) (some ⟨vb,0,none⟩) (M.set ly (Ca.nt M ly ++ [tok])):=by
 obtain ⟨o1,e1,e2,h4⟩:=hA
 have s1:=hb.size
 have s2:=hg.size
 have s2':u1.heap.size+1<=u2.heap.size:=by simpa using s2
 obtain ⟨g',cap2,F,e,hgB,hr,hcap,hF⟩:=row_of_own o1 (by omega)
 cases e
 have tv:=ty_row hr
 have tx:∀ q,ux.ownBlock=some q->Ty u q 63:=fun q e=>ty_own hrow e
 have lx:∀ q,ux.ownBlock=some q->B0<=q/\q<u.heap.size:=fun q e=>hrow.lt q e
 have far2:∀ q,q<u.heap.size->¬ ux.ownBlock=some q->u2.heap[q]?=u.heap[q]?:=fun q hq hn=>by
  rw [hg.block q (by simp;omega) (fun e=>hn e.symm),(Rt.box_below u1 ob).block q (by omega)]
  exact hb.block q hq
 have farn:∀ q,u.heap.size<=q->q<u1.heap.size->u2.heap[q]?=u1.heap[q]?:=fun q h1 h2=>by
  rw [hg.block q (by simp;omega) (fun e=>by have:=(lx q e.symm).2;omega)]
  exact (Rt.box_below u1 ob).block q h2
 obtain ⟨nv,env⟩:∃ nv,Value.slice (some ⟨gg,0,none⟩) (n+1) cap'=nv:=⟨_,rfl⟩
 obtain ⟨u3,eu3⟩:∃ u3,u2.setCell ⟨vb,ly,none⟩ nv=u3:=⟨_,rfl⟩
 rw [env,eu3]
 have s3:u3.heap.size=u2.heap.size:=by rw [<-eu3];simp [World.setCell]
 have st:∀ q,¬ q=vb->u3.heap[q]?=u2.heap[q]?:=fun q hq=>by rw [<-eu3];exact Below.heap_setCell _ _ _ _ (show q ≠ vb from hq)
 have nxv:¬ ux.ownBlock=some vb:=fun e=>(tx vb e).ne tv (by decide) rfl
 have hr2:u2.rowIs vb 60 cap F:=hr.of_block (far2 vb hr.lt nxv)
 have hr3:=hr2.set ly nv
 rw [eu3] at hr3
 have tgg:Ty u2 gg 63:=ty_own ho rfl
 have ngv:¬ gg=vb:=tgg.ne (ty_row hr2) (by decide)
 have old:∀ q,q<B0->u3.heap[q]?=u.heap[q]?:=fun q hq=>by
  rw [st q (by omega)]
  exact far2 q (by omega) (fun e=>by have:=(lx q e).1;omega)
 refine fun i hi=>?_
 have hi2:i<M.length:=by simpa using hi
 have hi3:i<nl:=by omega
 have ec:u3.cell? ⟨vb,0+(i*1+0),none⟩=some (if i=ly then nv else F i):=by
  rw [show 0+(i*1+0)=i by omega]
  exact hr3.cell (by omega)
 refine ⟨vb,0,rfl,hr3.lt,.inr hgB,?_⟩
 by_cases hil:i=ly
 ·subst hil
  have eM:(M.set i (Ca.nt M i ++ [tok]))[i]=Ca.nt M i ++ [tok]:=by simp
  rw [eM]
  rw [if_pos rfl] at ec
  have ho3:u3.ownsRow B0 63 2 nv (n+1) (ys ++ [.slice a1 tok.1.length c1,.slice a2 tok.2.length c2]):=by
   rw [<-env]
   exact Ca.own_at ho fun q hq=>st q (by cases hq;exact ngv)
  have kz:∀ {a:Option Addr} {c:Nat} {l:List (List Int)},TblZ (fun q=>u.heap.size<=q) u1 a c l->l.length<=c/\l.length<=maxLen/\(a=none->c=0)/\SlQ (fun q=>Q q/\q<B0\/B0<=q) 1 eRow u3 a l:=fun {a} {c} {l} h=>⟨h.2.1,by have:=h.2.1;have:=h.2.2.1;omega,h.2.2.2,h.1.carry carry_row (fun q hq hl=>⟨.inr (by omega),by
   rw [st q (fun e=>by have:=hr.lt;omega)]
   exact farn q hl hq⟩) (by omega)⟩
  obtain ⟨a,c,en,hs,q1,q2,q3⟩:=slq_of_own (E:=eTok) (Q:=fun q=>Q q/\q<B0\/B0<=q) (l:=Ca.nt M i ++ [tok]) ho3 (by rw [List.length_append,hn];rfl) (fun q hq=>.inr ((ho3.lt q hq).1)) fun j hj c hc=>by
   by_cases hjn:j<(Ca.nt M i).length
   ·rw [List.getElem_append_left hjn]
    refine carry_tok _ _ u u3 c c _ (fun q _ hq=>⟨.inl hq,old q hq.2⟩) (by omega) (fun _ _ _ h=>h) (htk j hjn c fun s hs=>?_)
    rw [hc s hs,List.getElem?_append_left (by rw [hyl,<-hn];omega)]
   ·have ej:j=(Ca.nt M i).length:=by rw [List.length_append] at hj;simp at hj;omega
    subst ej
    rw [List.getElem_append_right (Nat.le_refl _)]
    simp only [Nat.sub_self,List.getElem_cons_zero]
    have k1:=kz hk
    have k2:=kz hv
    have g0:c 0=some (.slice a1 tok.1.length c1):=by
     rw [hc 0 (by decide),List.getElem?_append_right (by rw [hyl,hn];omega)]
     rw [show (Ca.nt M i).length*2+0 - ys.length=0 by rw [hyl,hn];omega];rfl
    have g1:c 1=some (.slice a2 tok.2.length c2):=by
     rw [hc 1 (by decide),List.getElem?_append_right (by rw [hyl,hn];omega)]
     rw [show (Ca.nt M i).length*2+1 - ys.length=1 by rw [hyl,hn];omega];rfl
    exact ⟨⟨a1,c1,g0,k1⟩,a2,c2,g1,k2⟩
  have el:(Ca.nt M i ++ [tok]).length=n+1:=by rw [List.length_append,hn];rfl
  exact ⟨a,c,by rw [el,<-en];exact ec,by rw [el];exact q1,by rw [el];exact hm,q3,hs⟩
 ·have eM:(M.set ly (Ca.nt M ly ++ [tok]))[i]=M[i]:=by rw [List.getElem_set_ne (fun e=>hil e.symm)]
  rw [eM]
  rw [if_neg hil] at ec
  have fi:=hF i hi3
  obtain ⟨ui,ysi,q0,q1,q2,q3⟩:=h4 i hi2 (fun j=>xs[i*1+j]?) fun j _=>rfl
  have q0:xs[i]?=some ui:=by have:=q0;simpa using this
  have eF:F i=ui:=Option.some.inj (fi.trans q0)
  rw [eF] at ec
  have keep:∀ q,ui.ownBlock=some q->u3.heap[q]?=u.heap[q]?:=fun q hq=>by
   have l:=(q1.lt q hq).2
   have t:=ty_own q1 hq
   rw [st q (t.ne tv (by decide))]
   exact far2 q l fun e=>hil (hap i ly ui ux q q0 hx hq e)
  refine fresh_toks (B:=B0) ⟨ui,ysi,ec,Ca.own_at q1 keep,fun q hq=>.inr (q1.lt q hq).1,fun j hj c hc=>?_⟩
  exact carry_tok _ _ u u3 c c _ (fun q _ hq=>⟨⟨hq.1.1,hq.2⟩,old q hq.2⟩) (by omega) (fun _ _ _ h=>h) (q3 j hj c hc)
theorem Core13.off {w w':World} {g b n H D G W k X:Nat} {ls:List (Int × Int)} {R M:List Int} {C:Nat->Nat} {T:Nat->List (List Tok)} {L:Nat->Nat->List Int} {t q col:Nat->Nat} {ty:TypeId} (h:Core13 w g b n H D G W ls R M k C T L t q col) (hk:k<=5) (hX:col X=1000) (ht:Ty w X ty) (n1:¬ ty=99/\¬ ty=133/\¬ ty=176) (hs:w.heap.size<=w'.heap.size) (hw:∀ x,x<w.heap.size->¬ x=X->w'.heap[x]?=w.heap[x]?):Core13 w' g b n H D G W ls R M k C T L t q col :=
 ⟨h.1.stand fun x hx=>by
  have nz:¬ x=X:=by
   rcases hx with e | e | e
   ·exact e.ne ht (fun q=>n1.1 q.symm)
   ·exact e.ne ht (fun q=>n1.2.1 q.symm)
   ·exact e.ne ht (fun q=>n1.2.2 q.symm)
  exact hw x (by rcases hx with e | e | e <;> exact e.lt) nz,h.2.1,fun i hi=>⟨(h.2.2 i hi).1.carry (fun x hx e=>⟨rfl,hw x hx fun z=>by rw [z,hX] at e;omega⟩) hs (fun _ _ _ _=>rfl),(h.2.2 i hi).2⟩⟩
theorem map_upd {α β:Type} (f:β->α) (zs:Nat->β) (k a:Nat) (v:β) (ha:a<k):((List.range k).map fun i=>f (upd zs a v i))=((List.range k).map fun i=>f (zs i)).set a (f v):=by
 apply List.ext_getElem?
 intro i
 rw [List.getElem?_set]
 by_cases e:a=i
 ·subst e
  simp [ha,upd]
 ·rw [if_neg e]
  by_cases hi:i<k
  ·have e':¬ i=a:=fun q=>e q.symm
   simp [hi,upd,e']
  ·simp [hi]
theorem Box13.setDoc {X:Nat->Option Obj} {B P g H D G W cl k a gr cr:Nat} {w:World} {ls:List (Int × Int)} {al:Option Addr} {va v:Value} {C:Nat->Nat} {zs:Nat->Value} {col:Nat->Nat} (h:Box13 X B w P g H D G W ls al cl va (.slice (some ⟨gr,0,none⟩) k cr) k C zs col) (ha:a<k):Box13 X B (w.setCell ⟨gr,a,none⟩ v) P g H D G W ls al cl va (.slice (some ⟨gr,0,none⟩) k cr) k C (upd zs a v) col:=by
 obtain ⟨⟨h1,h2⟩,⟨h3,h4⟩,⟨h5,h6⟩,h7⟩:=h
 have cr':=h6 gr rfl
 have tg:=ty_own h5 (q:=gr) rfl
 have st:∀ x,¬ x=gr->(w.setCell ⟨gr,a,none⟩ v).heap[x]?=w.heap[x]?:=fun x hx=>Below.heap_setCell _ _ _ _ (show x ≠ gr from hx)
 refine ⟨⟨h1.of_block (st P ((ty_row h1).ne tg (by decide))),h2⟩,⟨Ca.own_at h3 fun x hx=>st x ((ty_own h3 hx).ne tg (by decide)),h4⟩,⟨?_,h6⟩,h7.carry (fun x hx h0=>⟨rfl,st x fun e=>by rw [e,cr'] at h0;omega⟩) (by simp [World.setCell])⟩
 have:=(h5.stored a v).1
 rw [show (List.range k).map (upd zs a v)=((List.range k).map zs).set a v from map_upd (fun x=>x) zs k a v ha]
 exact this
theorem Doc13.setDoc {w w':World} {nl k a gv cv X:Nat} {T:Nat->List (List Tok)} {Tn:List (List Tok)} {zs:Nat->Value} {col:Nat->Nat} (h:Doc13 w nl k T zs col) (hX:col X=1000) (hs:w.heap.size<=w'.heap.size) (hw:∀ x,x<w.heap.size->¬ x=X->w'.heap[x]?=w.heap[x]?) (hn:SlQ (fun x=>col x=0) 1 eToks w (some ⟨gv,0,none⟩) Tn):Doc13 w' nl k (upd T a Tn) (upd zs a (.slice (some ⟨gv,0,none⟩) nl cv)) col:=fun i hi=>by
 have cy:∀ {x:Option Addr} {l:List (List Tok)},SlQ (fun x=>col x=0) 1 eToks w x l->SlQ (fun x=>col x=0) 1 eToks w' x l:=fun hq=>hq.carry carry_toks (fun x hx h0=>⟨h0,hw x hx fun e=>by rw [e,hX] at h0;omega⟩) hs
 by_cases e:i=a
 ·subst e
  rw [upd_at,upd_at]
  exact ⟨_,_,rfl,cy hn⟩
 ·rw [upd_off _ _ e,upd_off _ _ e]
  obtain ⟨x,c,e1,e2⟩:=h i hi
  exact ⟨x,c,e1,cy e2⟩
end Cc
end Go.Proofs.YtnchnlgnnlgjcaaGreat
