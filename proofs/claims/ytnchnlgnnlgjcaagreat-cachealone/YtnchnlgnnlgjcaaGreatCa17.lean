import Derived.Test.YtnchnlgnnlgjcaaGreatCa16
set_option linter.unusedVariables false
set_option linter.unusedSimpArgs false
namespace Go.Proofs.YtnchnlgnnlgjcaaGreat
open Go.RowKit Go.Shelf
attribute [local go_sem] Oper.semAt_some
namespace Cc
open Rt (Kp kp_put all_stops nth tv key val tvc tv_alloc keeps_alloc row_own boxed_ownFrom ty_box box_below RingAt)
theorem infoRow:(Tryz.prog.info? 74).map (fun i=>(i.zero,i.size,i.bytes))=some (some (.slice none 0 0),1,24):=Ca.infoRow
set_option maxRecDepth 100000 in
set_option maxHeartbeats 6400000 in
theorem plain_c (C c g H D G W ly hd r q0:Nat) (ls:List (Int × Int)) (M:List Int) (L:Nat->List Int) (t k:Nat) (tk:Nat->List Tok) (q:Nat->Nat) (col:Nat->Nat) (w:World) (h:CaAt w col c g C H D G W ls M L (cn ls.length t k) tk q) (sh:ShOk H D G W ls)
 (hly:ly<ls.length) (hhd:hd<H) (hr:ly*H+hd=r) (hq0:q r=q0) (hT:∀ i (h:i<(tk r).length),TokOk H D (tk r)[i]) :
 Calls Tryz.prog 30 #[.pointer (some ⟨C,0,none⟩),.int .i64 (ly:Int),.int .i64 (hd:Int)] w fun e w'=>∃ (S:Nat->Prop) (v1 v2:Value) (xs ys:List Value),e=.returned (.tuple #[v1,v2])/\(∀ q,S q->w.heap.size<=q/\Ty w' q 21) /\
  AccQ S w.heap.size 1 74 eRow w' v1 (Ca.ksOf ((tk r).drop (q0*G)) hd).length (Ca.ksOf ((tk r).drop (q0*G)) hd) xs/\AccQ S w.heap.size 1 74 eRow w' v2 (Ca.vsOf ((tk r).drop (q0*G)) hd).length (Ca.vsOf ((tk r).drop (q0*G)) hd) ys/\(∀ q,v1.ownBlock=some q->¬ v2.ownBlock=some q)/\(Ca.ksOf ((tk r).drop (q0*G)) hd=[]->v1=.slice none 0 0)/\(Ca.vsOf ((tk r).drop (q0*G)) hd=[]->v2=.slice none 0 0)/\Below w.heap.size w w':=by
 obtain ⟨sH,sH2,sD,sD2,-⟩:=id sh
 obtain ⟨-,-,-,sl,sl2,-⟩:=sh.nums
 have HB:=Ca.hid h.bd
 have rlt:r<ls.length*H:=by
  have h1:(ly+1)*H<=ls.length*H:=Nat.mul_le_mul_right H (by omega)
  rw [Nat.add_mul] at h1
  omega
 obtain ⟨al,cl,T,pb,pc,ct,cc,rg,rs,F,⟨hC,zC⟩,-,-,-,⟨hpb,hF,hpc,zp⟩,-,hrow⟩:=h.in
 obtain ⟨hlen,-,-,f,l,hri,hll,htv,crg,crs⟩:=hrow r rlt
 rw [hq0] at hll htv
 have hmod:r % H=hd:=by rw [<-hr];exact (up_row ly hd H hhd).2
 rw [hmod] at htv
 have TV:=Ca.hid htv
 have LL:=Ca.hid hll
 have HR:=Ca.hid hri
 have glt:=hri.lt
 obtain ⟨n0,n1,n2⟩:=hri.nums
 have HC:=Ca.hid hC
 have HPB:=Ca.hid hpb
 have hp0:w.cell? ⟨pb,r,none⟩=some (.pointer (some ⟨rg r,0,none⟩)):=by rw [hpb.cell (by omega:r<pc),hF r rlt]
 have HP0:=Ca.hid hp0
 have hCl:C<w.heap.size:=hC.lt
 have hpl:pb<w.heap.size:=hpb.lt
 obtain ⟨m,em⟩:∃ m,ls.length*H=m:=⟨_,rfl⟩
 have EM:=Ca.hid em
 have hm:m<=16:=by rw [<-em];exact Nat.le_trans (Nat.mul_le_mul sl2 sH2) (by decide)
 have hc7:w.cell? ⟨C,7,none⟩=some (.slice (some ⟨pb,0,none⟩) m pc):=by rw [<-em];exact hC.cell (show 7<9 by decide)
 rw [em] at rlt hpc
 have KS:Hid (∀ v:World,Below w.heap.size w v->v.cell? ⟨C,7,none⟩=some (.slice (some ⟨pb,0,none⟩) m pc)/\v.cell? ⟨pb,r,none⟩=some (.pointer (some ⟨rg r,0,none⟩))):=fun v hv=>⟨by rw [hv.cell (p:=⟨C,7,none⟩) hCl];exact hc7,by rw [hv.cell (p:=⟨pb,r,none⟩) hpl];exact hp0⟩
 have B0:Hid (Below w.heap.size w ((w.alloc (.cells #[.slice none 0 0] 42)).alloc (.cells #[.slice none 0 0] 42))):=two_boxes _ _ _
 have HS:=Ca.hid (has_c C g H D G W ls t k (ly:Int) (hd:Int) true _ (HB.out.keep B0.out) sl2 sH2 (decide_eq_true (by omega)))
 have RO:=Ca.hid (fun (v:World) (hv:Below w.heap.size w v)=>row_c C g H D G W ls t k ly hd r v (HB.out.keep hv) hr (by omega) (by omega) (by omega))
 have e1:(0:Int)<=(r:Int):=by omega
 have e2:(r:Int)<(m:Int):=by omega
 clear h hC hpb hF hri hrow htv hll hlen hp0 hc7 em zC zp
 refine (callsIn_wide (n:=6)).1 ?_
 refine callsIn_of_wp_marks Tryz.func30 rfl trivial ?_ rfl
 simp only [Tryz.ntmps30,List.size_toArray,List.length_cons,List.length_nil,Nat.reduceAdd,Nat.reduceSub,Array.replicate_succ,Array.replicate_zero,List.push_toArray,List.append_toArray,List.nil_append,List.cons_append]
 refine wpIn_wide.2 ?_
 go_upto_region 3 with (go_at_call 67;refine HS.out.mono ?_;rintro e w' ⟨rfl,hww⟩;cases hww.symm;clear hww)
 go_region_held3 (fun w'=>w'.cell? ⟨C,7,none⟩=some (.slice (some ⟨pb,0,none⟩) m pc)/\w'.cell? ⟨pb,r,none⟩=some (.pointer (some ⟨rg r,0,none⟩)))
  (first
    | assumption
    | exact KS.out _ B0.out
    | exact KS.out _ (B0.out.drew)
    | exact KS.out _ (B0.out.drew.alloc (by simp;omega) _))
  (first
    | (go_at_call 59;(with_reducible refine (RO.out _ (B0.out.drew)).mono ?_);rintro e w' ⟨rfl,hww⟩;cases hww.symm;clear hww)
    | (go_at_call 77;(with_reducible refine (Rt.all_any (rg r) _).mono ?_);rintro e w' ⟨rfl,hww⟩;cases hww.symm;clear hww))
 go_wp2_with fail
 obtain ⟨W0,hW0⟩:∃ W0,(((w.alloc (.cells #[.slice none 0 0] 42)).alloc (.cells #[.slice none 0 0] 42)).alloc (.cells #[.pointer (some ⟨rg r,0,none⟩)] 107)).drew=W0:=⟨_,rfl⟩
 have hsz:W0.heap.size=w.heap.size+3:=by rw [<-hW0];simp
 have hB0:Below w.heap.size w W0:=by rw [<-hW0];exact (B0.out.alloc (by simp;omega) _).drew
 have b1:Boxed W0 w.heap.size 42 (.slice none 0 0):=by rw [<-hW0];exact ((Boxed.new w _ _).alloc _).alloc _
 have b2:Boxed W0 (w.heap.size+1) 42 (.slice none 0 0):=by
  have:=(Boxed.new (w.alloc (.cells #[.slice none 0 0] 42)) 42 (.slice none 0 0)).alloc (.cells #[.pointer (some ⟨rg r,0,none⟩)] 107)
  rw [World.size_alloc] at this
  rw [<-hW0]
  exact this
 have b3:Boxed W0 (w.heap.size+1+1) 107 (.pointer (some ⟨rg r,0,none⟩)):=by
  have:=Boxed.new ((w.alloc (.cells #[.slice none 0 0] 42)).alloc (.cells #[.slice none 0 0] 42)) 107 (.pointer (some ⟨rg r,0,none⟩))
  rw [World.size_alloc,World.size_alloc] at this
  rw [<-hW0]
  exact this
 have pl0:PlJ w W0 w.heap.size (w.heap.size+1) [] []:=⟨fun _=>False,.slice none 0 0,.slice none 0 0,[],[],fun q h=>h.elim,b1,b2,acc_nil _ _ _ _ _ _,acc_nil _ _ _ _ _ _,fun q e=>absurd (show (none:Option Nat)=some q from e) (by simp),fun _=>rfl,fun _=>rfl⟩
 obtain ⟨N,eN⟩:∃ N,l.length=N:=⟨_,rfl⟩
 have EN:=Ca.hid eN
 have hN:N<=1024:=by omega
 have hln:((tk r).drop (q0*G)).length=N:=by rw [List.length_drop,<-LL.out,<-eN];omega
 have hk1:(Ca.ksOf ((tk r).drop (q0*G)) hd).length=N:=(List.length_map _).trans hln
 have hv1:(Ca.vsOf ((tk r).drop (q0*G)) hd).length=N:=(List.length_map _).trans hln
 rw [hW0]
 clear hW0
 refine (wpIn_wide (n:=6)).1 ?_
 refine range_at2 (m:=6) (by omega) (gf:=110) (lb:=#[.pointer (some ⟨w.heap.size+1+1,0,none⟩)]) rfl (enters_of Tryz.func110 (by kernel_rfl) rfl)
  (all_stops 5 (by omega) (w.heap.size+1+1) (rg r) (rs r) (W+G) f l W0 (by omega) b3.cell (HR.out.keep hB0)) (fun h k=>h.trans k) (kp_put (by omega) (by omega) (by omega)) (Below.refl _ _) (fun _=>rfl)
  (fun k W=>PlJ w W w.heap.size (w.heap.size+1) ((Ca.ksOf ((tk r).drop (q0*G)) hd).take k) ((Ca.vsOf ((tk r).drop (q0*G)) hd).take k)/\Boxed W (w.heap.size+1+1) 107 (.pointer (some ⟨rg r,0,none⟩))/\Below w.heap.size w W)
  (fun _ _ _=>False)
  (OwnFrom.and (plj_ownFrom _ _) (OwnFrom.and (boxed_ownFrom _ _ _ _) (ownFrom_below (Nat.le_refl _) (by omega))))
  (fun _ _ _ _ _ hs _ _=>hs)
  ⟨pl0,b3,hB0⟩
  (fun k ak W=>∃ B x,nth l k=x/\ak={ tmps:=#[.pointer (some ⟨C,0,none⟩),.int .i64 (ly:Int),.int .i64 (hd:Int),undef,undef,undef,.pointer (some ⟨w.heap.size,0,none⟩),.pointer (some ⟨w.heap.size+1,0,none⟩),undef,.pointer (some ⟨B,0,none⟩),.pointer (some ⟨C,0,none⟩),.int .i64 (ly:Int),.int .i64 (hd:Int),.bool true,.bool false,.pointer (some ⟨C,0,none⟩),.pointer (some ⟨C,0,none⟩),.pointer (some ⟨C,7,none⟩),.slice (some ⟨pb,0,none⟩) m pc,.pointer (some ⟨C,0,none⟩),.int .i64 (ly:Int),.int .i64 (hd:Int),.int .i64 (r:Int),.pointer (some ⟨pb,r,none⟩),.pointer (some ⟨rg r,0,none⟩),.func (.func 110) #[] #[.pointer (some ⟨w.heap.size+1+1,0,none⟩)],.int .i64 k,tv x,undef,undef,undef,undef,undef,undef,undef,undef,undef,undef,undef,undef,undef,undef],defers:=[] }/\W.rowIs B 111 2 (tvc x)/\PlJ w W w.heap.size (w.heap.size+1) ((Ca.ksOf ((tk r).drop (q0*G)) hd).take k) ((Ca.vsOf ((tk r).drop (q0*G)) hd).take k)/\Boxed W (w.heap.size+1+1) 107 (.pointer (some ⟨rg r,0,none⟩))/\Below w.heap.size w W)
  ?own ?assign ?body ?done ?stop
 case own =>
  rintro ak k A A' row ⟨B,x,e1,e2,h0,h1,h2,h3⟩ hgr hr
  exact ⟨B,x,e1,e2,row_own h0 hgr hr,plj_ownFrom (fun k=>(Ca.ksOf ((tk r).drop (q0*G)) hd).take k) (fun k=>(Ca.vsOf ((tk r).drop (q0*G)) hd).take k) k A A' row h1 hgr hr,boxed_ownFrom _ _ _ _ k A A' row h2 hgr hr,ownFrom_below (Nat.le_refl _) (by omega) k A A' row h3 hgr hr⟩
 case assign =>
  rintro lp k W K hk ⟨hj,hpp,hB⟩ hK
  obtain ⟨x,ex⟩:∃ x,nth l k=x:=⟨_,rfl⟩
  have EX:Hid (nth l k=x):=ex
  have hK2:=hK
  rw [ex]
  clear ex hK
  obtain ⟨⟨xa,xn,xc⟩,⟨ya,yn,yc⟩⟩:=x
  simp only [tv,key,val]
  gi_wp2
  have hbx:=box_below W (.cells #[.slice xa xn xc,.slice ya yn yc] 111)
  refine hK2 _ _ ((keeps_alloc W _).from _) ⟨?_,?_,?_⟩ ⟨W.heap.size,((xa,xn,xc),(ya,yn,yc)),EX.out,rfl,tv_alloc W ((xa,xn,xc),(ya,yn,yc)),hj.keep hbx,hpp.alloc _,hB.trans (hbx.mono hB.size)⟩
  ·exact hbx.block _ (ty_box hpp).lt
  ·exact hbx.block _ (Nat.lt_of_lt_of_le glt.1 hB.size)
  ·exact hbx.block _ (Nat.lt_of_lt_of_le glt.2 hB.size)
 case body =>
  rintro lp k ak Wb hk ⟨B,x,ex,rfl,hbx,hj,hpp,hB⟩
  obtain ⟨i1,hi10,hi11,hi12,hi13⟩:=info_parts infoRow
  obtain ⟨⟨xa,xn,xc⟩,⟨ya,yn,yc⟩⟩:=x
  have hk0:k<N:=by rw [<-eN];exact hk
  have hkr:q0*G+k<(tk r).length:=by rw [<-LL.out,eN];omega
  have tv0:=TV.out k hkr
  rw [ex] at tv0
  obtain ⟨⟨f1,f2,f3,f4,f5⟩,⟨g1,g2,g3,g4,g5⟩⟩:=tv0
  have tok:=(hT _ hkr).2.2 hd hhd
  obtain ⟨kk,ekk⟩:∃ z,Ca.nt (tk r)[q0*G+k].1 hd=z:=⟨_,rfl⟩
  obtain ⟨vv,evv⟩:∃ z,Ca.nt (tk r)[q0*G+k].2 hd=z:=⟨_,rfl⟩
  rw [ekk] at f1 f2 f3 f4 tok
  rw [evv] at g1 g2 g3 g4 tok
  simp only at f1 f2 f3 f4 f5 g1 g2 g3 g4 g5
  subst f1 g1
  have hks:(Ca.ksOf ((tk r).drop (q0*G)) hd).take (k+1)=(Ca.ksOf ((tk r).drop (q0*G)) hd).take k ++ [kk]:=by
   have h2:=Ca.take_map_succ (fun t:Tok=>Ca.nt t.1 hd) ((tk r).drop (q0*G)) (k:=k) (by omega)
   rw [<-ekk]
   simpa [Ca.ksOf,List.getElem_drop] using h2
  have hvs:(Ca.vsOf ((tk r).drop (q0*G)) hd).take (k+1)=(Ca.vsOf ((tk r).drop (q0*G)) hd).take k ++ [vv]:=by
   have h2:=Ca.take_map_succ (fun t:Tok=>Ca.nt t.2 hd) ((tk r).drop (q0*G)) (k:=k) (by omega)
   rw [<-evv]
   simpa [Ca.vsOf,List.getElem_drop] using h2
  have HKS:=Ca.hid hks
  have HVS:=Ca.hid hvs
  have kl0:0<kk.length:=by omega
  have vl0:0<vv.length:=by omega
  have kl1:kk.length<=1000:=by omega
  have vl1:vv.length<=1000:=by omega
  have KA:Hid (SlQ (fun q=>col q=0) 1 (eNum .i32) w xa kk):=f2
  have VA:Hid (SlQ (fun q=>col q=0) 1 (eNum .i32) w ya vv):=g2
  have lk:((Ca.ksOf ((tk r).drop (q0*G)) hd).take k).length=k:=by rw [List.length_take,hk1];omega
  have lv:((Ca.vsOf ((tk r).drop (q0*G)) hd).take k).length=k:=by rw [List.length_take,hv1];omega
  obtain ⟨S,v1,v2,xs,ys,hS,hb1,hb2,h1,h2,hdis,hn1,hn2⟩:=hj
  rw [lk] at h1
  have ST:Hid ((∀ q,S q->w.heap.size<=q/\Ty Wb q 21)/\Boxed Wb w.heap.size 42 v1/\Boxed Wb (w.heap.size+1) 42 v2/\AccQ S w.heap.size 1 74 eRow Wb v1 k ((Ca.ksOf ((tk r).drop (q0*G)) hd).take k) xs/\AccQ S w.heap.size 1 74 eRow Wb v2 ((Ca.vsOf ((tk r).drop (q0*G)) hd).take k).length ((Ca.vsOf ((tk r).drop (q0*G)) hd).take k) ys/\(∀ q,v1.ownBlock=some q->¬ v2.ownBlock=some q)/\((Ca.vsOf ((tk r).drop (q0*G)) hd).take k=[]->v2=.slice none 0 0)):=⟨hS,hb1,hb2,h1,h2,hdis,hn2⟩
  have hsB:=hB.size
  have HB1:=Ca.hid hB
  have BX:=Ca.hid hbx
  have c1:=hb1.cell
  have z0:Wb.cell? ⟨B,0,none⟩=some (.slice xa kk.length xc):=hbx.cell (show 0<2 by decide)
  have lt1:=hb1.lt
  have hmx:Tryz.prog.follows .mixedOrders=true:=by kernel_rfl
  clear ex hbx f2 f3 f4 f5 g2 g3 g4 g5 tok hS hb1 hb2 h1 h2 hdis hn1 hn2 hks hvs
  simp only [tv,key,val]
  gi_wp2
  refine Code.wpIn_mono (Q:=fun e a u=>∃ x31 x32 x33:Value,e=.normal/\a={ tmps:=#[.pointer (some ⟨C,0,none⟩),.int .i64 (ly:Int),.int .i64 (hd:Int),undef,undef,undef,.pointer (some ⟨w.heap.size,0,none⟩),.pointer (some ⟨w.heap.size+1,0,none⟩),undef,.pointer (some ⟨B,0,none⟩),.pointer (some ⟨C,0,none⟩),.int .i64 (ly:Int),.int .i64 (hd:Int),.bool true,.bool false,.pointer (some ⟨C,0,none⟩),.pointer (some ⟨C,0,none⟩),.pointer (some ⟨C,7,none⟩),.slice (some ⟨pb,0,none⟩) m pc,.pointer (some ⟨C,0,none⟩),.int .i64 (ly:Int),.int .i64 (hd:Int),.int .i64 (r:Int),.pointer (some ⟨pb,r,none⟩),.pointer (some ⟨rg r,0,none⟩),.func (.func 110) #[] #[.pointer (some ⟨w.heap.size+1+1,0,none⟩)],.int .i64 k,.agg #[.slice xa kk.length xc,.slice ya vv.length yc],v1,.pointer (some ⟨B,0,none⟩),.slice xa kk.length xc,x31,x32,x33,undef,undef,undef,undef,undef,undef,undef,undef],defers:=[] }/\PlJ w u w.heap.size (w.heap.size+1) ((Ca.ksOf ((tk r).drop (q0*G)) hd).take k ++ [kk]) ((Ca.vsOf ((tk r).drop (q0*G)) hd).take k)/\Leaves w.heap.size Wb u/\Below w.heap.size w u) ?_ ?_
  rotate_left
  ·refine wpIn_region_any (by assumption) ?_
   change wpAnyIn _ _ _ _ _ _ _ _ _ (World.drew _)
   refine wpAnyIn_ready (rs:=[0,1]) (by kernel_rfl) (by simp) (AllReadyIn.cons rfl (fun K hK=>?_) (AllReadyIn.cons rfl (fun K hK=>?_) AllReadyIn.nil))
   ·(go_simp;refine hK _ _ ?_;clear hK K)
    refine wpAnyIn_ready (rs:=[1]) (by kernel_rfl) (by simp) (AllReadyIn.cons rfl (fun K hK=>?_) AllReadyIn.nil)
    (go_simp;refine hK _ _ ?_;clear hK K)
    refine wpAnyIn_ready (rs:=[2]) (by kernel_rfl) (by simp) (AllReadyIn.cons rfl (fun K hK=>?_) AllReadyIn.nil)
    (go_simp;refine hK _ _ ?_;clear hK K)
    refine wpAnyIn_ready (rs:=[3]) (by kernel_rfl) (by simp) (AllReadyIn.cons rfl (fun K hK=>?_) AllReadyIn.nil)
    (go_simp;gi_wp2_with (refine ⟨trivial,?_⟩;gi_at_call 61;refine (CallsIn.inRound lp (callsIn_wide.2 (clone32_own xa xc kk _ (KA.out.keep (carry_num _) (HB1.out.drew)) kl0 kl1))).mono ?_;rintro e W2 ⟨a',c',rfl,j1,j2,j3⟩;obtain ⟨gg,cap,W3,hrun,k2,k3,k4,k5,k6,k7,k8⟩:=PlJ.app ST.out.1 ST.out.2.1 ST.out.2.2.1 ST.out.2.2.2.1 lk ST.out.2.2.2.2.1 ST.out.2.2.2.2.2.1 ST.out.2.2.2.2.2.2 (by omega) HB1.out (by omega) j1 j2 kl0 (by unfold maxLen;omega) (((Below.refl _ _).drew).trans j3) (by omega);have P6:=Ca.hid k6;have L6:=Ca.hid k7;have B6:=Ca.hid k8;clear j1 j2 j3 k6 k7 k8);first | (refine hK _ _ ?_;clear hK K) | skip)
    refine wpAnyIn_ready (rs:=[4]) (by kernel_rfl) (by simp) (AllReadyIn.cons rfl (fun K hK=>?_) AllReadyIn.nil)
    (go_simp;refine hK _ _ ?_;clear hK K)
    refine wpAnyIn_ready (rs:=[5]) (by kernel_rfl) (by simp) (AllReadyIn.cons rfl (fun K hK=>?_) AllReadyIn.nil)
    (refine stepIn_append (by rfl) _ _ _ (by rfl) _ _ _ (by rfl) (by rfl) hrun ?_;refine hK _ _ ?_;clear hK K)
    refine wpAnyIn_ready (rs:=[6]) (by kernel_rfl) (by simp) (AllReadyIn.cons rfl (fun K hK=>?_) AllReadyIn.nil)
    (go_simp;refine hK _ _ ?_;clear hK K)
    refine wpAnyIn_done (by kernel_rfl) ?_ _
    exact ⟨_,_,_,rfl,rfl,P6.out,L6.out,B6.out⟩
   ·(go_simp;refine hK _ _ ?_;clear hK K)
    refine wpAnyIn_ready (rs:=[0,2]) (by kernel_rfl) (by simp) (AllReadyIn.cons rfl (fun K hK=>?_) (AllReadyIn.cons rfl (fun K hK=>?_) AllReadyIn.nil))
    ·(go_simp;refine hK _ _ ?_;clear hK K)
     refine wpAnyIn_ready (rs:=[2]) (by kernel_rfl) (by simp) (AllReadyIn.cons rfl (fun K hK=>?_) AllReadyIn.nil)
     (go_simp;refine hK _ _ ?_;clear hK K)
     refine wpAnyIn_ready (rs:=[3]) (by kernel_rfl) (by simp) (AllReadyIn.cons rfl (fun K hK=>?_) AllReadyIn.nil)
     (go_simp;gi_wp2_with (refine ⟨trivial,?_⟩;gi_at_call 61;refine (CallsIn.inRound lp (callsIn_wide.2 (clone32_own xa xc kk _ (KA.out.keep (carry_num _) (HB1.out.drew)) kl0 kl1))).mono ?_;rintro e W2 ⟨a',c',rfl,j1,j2,j3⟩;obtain ⟨gg,cap,W3,hrun,k2,k3,k4,k5,k6,k7,k8⟩:=PlJ.app ST.out.1 ST.out.2.1 ST.out.2.2.1 ST.out.2.2.2.1 lk ST.out.2.2.2.2.1 ST.out.2.2.2.2.2.1 ST.out.2.2.2.2.2.2 (by omega) HB1.out (by omega) j1 j2 kl0 (by unfold maxLen;omega) (((Below.refl _ _).drew).trans j3) (by omega);have P6:=Ca.hid k6;have L6:=Ca.hid k7;have B6:=Ca.hid k8;clear j1 j2 j3 k6 k7 k8);first | (refine hK _ _ ?_;clear hK K) | skip)
     refine wpAnyIn_ready (rs:=[4]) (by kernel_rfl) (by simp) (AllReadyIn.cons rfl (fun K hK=>?_) AllReadyIn.nil)
     (go_simp;refine hK _ _ ?_;clear hK K)
     refine wpAnyIn_ready (rs:=[5]) (by kernel_rfl) (by simp) (AllReadyIn.cons rfl (fun K hK=>?_) AllReadyIn.nil)
     (refine stepIn_append (by rfl) _ _ _ (by rfl) _ _ _ (by rfl) (by rfl) hrun ?_;refine hK _ _ ?_;clear hK K)
     refine wpAnyIn_ready (rs:=[6]) (by kernel_rfl) (by simp) (AllReadyIn.cons rfl (fun K hK=>?_) AllReadyIn.nil)
     (go_simp;refine hK _ _ ?_;clear hK K)
     refine wpAnyIn_done (by kernel_rfl) ?_ _
     exact ⟨_,_,_,rfl,rfl,P6.out,L6.out,B6.out⟩
    ·(go_simp;refine hK _ _ ?_;clear hK K)
     refine wpAnyIn_ready (rs:=[0,3]) (by kernel_rfl) (by simp) (AllReadyIn.cons rfl (fun K hK=>?_) (AllReadyIn.cons rfl (fun K hK=>?_) AllReadyIn.nil))
     ·(go_simp;refine hK _ _ ?_;clear hK K)
      refine wpAnyIn_ready (rs:=[3]) (by kernel_rfl) (by simp) (AllReadyIn.cons rfl (fun K hK=>?_) AllReadyIn.nil)
      (go_simp;gi_wp2_with (refine ⟨trivial,?_⟩;gi_at_call 61;refine (CallsIn.inRound lp (callsIn_wide.2 (clone32_own xa xc kk _ (KA.out.keep (carry_num _) (HB1.out.drew)) kl0 kl1))).mono ?_;rintro e W2 ⟨a',c',rfl,j1,j2,j3⟩;obtain ⟨gg,cap,W3,hrun,k2,k3,k4,k5,k6,k7,k8⟩:=PlJ.app ST.out.1 ST.out.2.1 ST.out.2.2.1 ST.out.2.2.2.1 lk ST.out.2.2.2.2.1 ST.out.2.2.2.2.2.1 ST.out.2.2.2.2.2.2 (by omega) HB1.out (by omega) j1 j2 kl0 (by unfold maxLen;omega) (((Below.refl _ _).drew).trans j3) (by omega);have P6:=Ca.hid k6;have L6:=Ca.hid k7;have B6:=Ca.hid k8;clear j1 j2 j3 k6 k7 k8);first | (refine hK _ _ ?_;clear hK K) | skip)
      refine wpAnyIn_ready (rs:=[4]) (by kernel_rfl) (by simp) (AllReadyIn.cons rfl (fun K hK=>?_) AllReadyIn.nil)
      (go_simp;refine hK _ _ ?_;clear hK K)
      refine wpAnyIn_ready (rs:=[5]) (by kernel_rfl) (by simp) (AllReadyIn.cons rfl (fun K hK=>?_) AllReadyIn.nil)
      (refine stepIn_append (by rfl) _ _ _ (by rfl) _ _ _ (by rfl) (by rfl) hrun ?_;refine hK _ _ ?_;clear hK K)
      refine wpAnyIn_ready (rs:=[6]) (by kernel_rfl) (by simp) (AllReadyIn.cons rfl (fun K hK=>?_) AllReadyIn.nil)
      (go_simp;refine hK _ _ ?_;clear hK K)
      refine wpAnyIn_done (by kernel_rfl) ?_ _
      exact ⟨_,_,_,rfl,rfl,P6.out,L6.out,B6.out⟩
     ·(go_simp;gi_wp2_with (refine ⟨trivial,?_⟩;gi_at_call 61;refine (CallsIn.inRound lp (callsIn_wide.2 (clone32_own xa xc kk _ (KA.out.keep (carry_num _) (HB1.out.drew)) kl0 kl1))).mono ?_;rintro e W2 ⟨a',c',rfl,j1,j2,j3⟩;obtain ⟨gg,cap,W3,hrun,k2,k3,k4,k5,k6,k7,k8⟩:=PlJ.app ST.out.1 ST.out.2.1 ST.out.2.2.1 ST.out.2.2.2.1 lk ST.out.2.2.2.2.1 ST.out.2.2.2.2.2.1 ST.out.2.2.2.2.2.2 (by omega) HB1.out (by omega) j1 j2 kl0 (by unfold maxLen;omega) (((Below.refl _ _).drew).trans j3) (by omega);have P6:=Ca.hid k6;have L6:=Ca.hid k7;have B6:=Ca.hid k8;clear j1 j2 j3 k6 k7 k8);first | (refine hK _ _ ?_;clear hK K) | skip)
      refine wpAnyIn_ready (rs:=[0,4]) (by kernel_rfl) (by simp) (AllReadyIn.cons rfl (fun K hK=>?_) (AllReadyIn.cons rfl (fun K hK=>?_) AllReadyIn.nil))
      ·(go_simp;refine hK _ _ ?_;clear hK K)
       refine wpAnyIn_ready (rs:=[4]) (by kernel_rfl) (by simp) (AllReadyIn.cons rfl (fun K hK=>?_) AllReadyIn.nil)
       (go_simp;refine hK _ _ ?_;clear hK K)
       refine wpAnyIn_ready (rs:=[5]) (by kernel_rfl) (by simp) (AllReadyIn.cons rfl (fun K hK=>?_) AllReadyIn.nil)
       (refine stepIn_append (by rfl) _ _ _ (by rfl) _ _ _ (by rfl) (by rfl) hrun ?_;refine hK _ _ ?_;clear hK K)
       refine wpAnyIn_ready (rs:=[6]) (by kernel_rfl) (by simp) (AllReadyIn.cons rfl (fun K hK=>?_) AllReadyIn.nil)
       (go_simp;refine hK _ _ ?_;clear hK K)
       refine wpAnyIn_done (by kernel_rfl) ?_ _
       exact ⟨_,_,_,rfl,rfl,P6.out,L6.out,B6.out⟩
      ·(go_simp;refine hK _ _ ?_;clear hK K)
       refine wpAnyIn_ready (rs:=[0]) (by kernel_rfl) (by simp) (AllReadyIn.cons rfl (fun K hK=>?_) AllReadyIn.nil)
       (go_simp;refine hK _ _ ?_;clear hK K)
       refine wpAnyIn_ready (rs:=[5]) (by kernel_rfl) (by simp) (AllReadyIn.cons rfl (fun K hK=>?_) AllReadyIn.nil)
       (refine stepIn_append (by rfl) _ _ _ (by rfl) _ _ _ (by rfl) (by rfl) hrun ?_;refine hK _ _ ?_;clear hK K)
       refine wpAnyIn_ready (rs:=[6]) (by kernel_rfl) (by simp) (AllReadyIn.cons rfl (fun K hK=>?_) AllReadyIn.nil)
       (go_simp;refine hK _ _ ?_;clear hK K)
       refine wpAnyIn_done (by kernel_rfl) ?_ _
       exact ⟨_,_,_,rfl,rfl,P6.out,L6.out,B6.out⟩
  rintro e a u ⟨x31,x32,x33,rfl,rfl,P6,L6,B6⟩
  obtain ⟨S',v1',v2',xs',ys',hS',hb1',hb2',h1',h2',hdis',hn1',hn2'⟩:=P6
  rw [lv] at h2'
  have SU:Hid ((∀ q,S' q->w.heap.size<=q/\Ty u q 21)/\Boxed u (w.heap.size+1) 42 v2'/\Boxed u w.heap.size 42 v1'/\AccQ S' w.heap.size 1 74 eRow u v2' k ((Ca.vsOf ((tk r).drop (q0*G)) hd).take k) ys'/\AccQ S' w.heap.size 1 74 eRow u v1' ((Ca.ksOf ((tk r).drop (q0*G)) hd).take k ++ [kk]).length ((Ca.ksOf ((tk r).drop (q0*G)) hd).take k ++ [kk]) xs'/\(∀ q,v2'.ownBlock=some q->¬ v1'.ownBlock=some q)/\((Ca.ksOf ((tk r).drop (q0*G)) hd).take k ++ [kk]=[]->v1'=.slice none 0 0)):=⟨hS',hb2',hb1',h2',h1',fun q e f=>hdis' q f e,hn1'⟩
  have eB:u.heap[B]?=Wb.heap[B]?:=L6.ty (ty_box ST.out.2.1) (ty_row BX.out) (by decide) (by decide)
  have eP:u.heap[w.heap.size+1+1]?=Wb.heap[w.heap.size+1+1]?:=L6.ty (ty_box ST.out.2.1) (ty_box hpp) (by decide) (by decide)
  have z1:u.cell? ⟨B,1,none⟩=some (.slice ya vv.length yc):=(World.cell?_of_block (a:=⟨B,1,none⟩) eB).trans (BX.out.cell (show 1<2 by decide))
  have c2:=hb2'.cell
  have hpp':Boxed u (w.heap.size+1+1) 107 (.pointer (some ⟨rg r,0,none⟩)):=eP.trans hpp
  have HB2:=Ca.hid B6
  have K6:=Ca.hid ((L6.keeps (ty_box ST.out.2.1)).from W0.heap.size)
  have hsu:=B6.size
  clear hS' hb1' hb2' h1' h2' hdis' hn1' hn2' eB eP c1 z0 L6 B6
  gi_wp2
  refine Code.wpIn_mono (Q:=fun e a v=>∃ x37 x38 x39:Value,e=.normal/\a={ tmps:=#[.pointer (some ⟨C,0,none⟩),.int .i64 (ly:Int),.int .i64 (hd:Int),undef,undef,undef,.pointer (some ⟨w.heap.size,0,none⟩),.pointer (some ⟨w.heap.size+1,0,none⟩),undef,.pointer (some ⟨B,0,none⟩),.pointer (some ⟨C,0,none⟩),.int .i64 (ly:Int),.int .i64 (hd:Int),.bool true,.bool false,.pointer (some ⟨C,0,none⟩),.pointer (some ⟨C,0,none⟩),.pointer (some ⟨C,7,none⟩),.slice (some ⟨pb,0,none⟩) m pc,.pointer (some ⟨C,0,none⟩),.int .i64 (ly:Int),.int .i64 (hd:Int),.int .i64 (r:Int),.pointer (some ⟨pb,r,none⟩),.pointer (some ⟨rg r,0,none⟩),.func (.func 110) #[] #[.pointer (some ⟨w.heap.size+1+1,0,none⟩)],.int .i64 k,.agg #[.slice xa kk.length xc,.slice ya vv.length yc],v1,.pointer (some ⟨B,0,none⟩),.slice xa kk.length xc,x31,x32,x33,v2',.pointer (some ⟨B,1,none⟩),.slice ya vv.length yc,x37,x38,x39,undef,undef],defers:=[] }/\PlJ w v (w.heap.size+1) w.heap.size ((Ca.vsOf ((tk r).drop (q0*G)) hd).take k ++ [vv]) ((Ca.ksOf ((tk r).drop (q0*G)) hd).take k ++ [kk])/\Leaves (w.heap.size+1) u v/\Below w.heap.size w v) ?_ ?_
  rotate_left
  ·refine wpIn_region_any (by assumption) ?_
   change wpAnyIn _ _ _ _ _ _ _ _ _ (World.drew _)
   refine wpAnyIn_ready (rs:=[0,1]) (by kernel_rfl) (by simp) (AllReadyIn.cons rfl (fun K hK=>?_) (AllReadyIn.cons rfl (fun K hK=>?_) AllReadyIn.nil))
   ·(go_simp;refine hK _ _ ?_;clear hK K)
    refine wpAnyIn_ready (rs:=[1]) (by kernel_rfl) (by simp) (AllReadyIn.cons rfl (fun K hK=>?_) AllReadyIn.nil)
    (go_simp;refine hK _ _ ?_;clear hK K)
    refine wpAnyIn_ready (rs:=[2]) (by kernel_rfl) (by simp) (AllReadyIn.cons rfl (fun K hK=>?_) AllReadyIn.nil)
    (go_simp;refine hK _ _ ?_;clear hK K)
    refine wpAnyIn_ready (rs:=[3]) (by kernel_rfl) (by simp) (AllReadyIn.cons rfl (fun K hK=>?_) AllReadyIn.nil)
    (go_simp;gi_wp2_with (refine ⟨trivial,?_⟩;gi_at_call 61;refine (CallsIn.inRound lp (callsIn_wide.2 (clone32_own ya yc vv _ (VA.out.keep (carry_num _) (HB2.out.drew)) vl0 vl1))).mono ?_;rintro e W2 ⟨a',c',rfl,j1,j2,j3⟩;obtain ⟨gg,cap,W3,hrun,k2,k3,k4,k5,k6,k7,k8⟩:=PlJ.app SU.out.1 SU.out.2.1 SU.out.2.2.1 SU.out.2.2.2.1 lv SU.out.2.2.2.2.1 SU.out.2.2.2.2.2.1 SU.out.2.2.2.2.2.2 (by omega) HB2.out (by omega) j1 j2 vl0 (by unfold maxLen;omega) (((Below.refl _ _).drew).trans j3) (by omega);have P6:=Ca.hid k6;have L6:=Ca.hid k7;have B6:=Ca.hid k8;clear j1 j2 j3 k6 k7 k8);first | (refine hK _ _ ?_;clear hK K) | skip)
    refine wpAnyIn_ready (rs:=[4]) (by kernel_rfl) (by simp) (AllReadyIn.cons rfl (fun K hK=>?_) AllReadyIn.nil)
    (go_simp;refine hK _ _ ?_;clear hK K)
    refine wpAnyIn_ready (rs:=[5]) (by kernel_rfl) (by simp) (AllReadyIn.cons rfl (fun K hK=>?_) AllReadyIn.nil)
    (refine stepIn_append (by rfl) _ _ _ (by rfl) _ _ _ (by rfl) (by rfl) hrun ?_;refine hK _ _ ?_;clear hK K)
    refine wpAnyIn_ready (rs:=[6]) (by kernel_rfl) (by simp) (AllReadyIn.cons rfl (fun K hK=>?_) AllReadyIn.nil)
    (go_simp;refine hK _ _ ?_;clear hK K)
    refine wpAnyIn_done (by kernel_rfl) ?_ _
    exact ⟨_,_,_,rfl,rfl,P6.out,L6.out,B6.out⟩
   ·(go_simp;refine hK _ _ ?_;clear hK K)
    refine wpAnyIn_ready (rs:=[0,2]) (by kernel_rfl) (by simp) (AllReadyIn.cons rfl (fun K hK=>?_) (AllReadyIn.cons rfl (fun K hK=>?_) AllReadyIn.nil))
    ·(go_simp;refine hK _ _ ?_;clear hK K)
     refine wpAnyIn_ready (rs:=[2]) (by kernel_rfl) (by simp) (AllReadyIn.cons rfl (fun K hK=>?_) AllReadyIn.nil)
     (go_simp;refine hK _ _ ?_;clear hK K)
     refine wpAnyIn_ready (rs:=[3]) (by kernel_rfl) (by simp) (AllReadyIn.cons rfl (fun K hK=>?_) AllReadyIn.nil)
     (go_simp;gi_wp2_with (refine ⟨trivial,?_⟩;gi_at_call 61;refine (CallsIn.inRound lp (callsIn_wide.2 (clone32_own ya yc vv _ (VA.out.keep (carry_num _) (HB2.out.drew)) vl0 vl1))).mono ?_;rintro e W2 ⟨a',c',rfl,j1,j2,j3⟩;obtain ⟨gg,cap,W3,hrun,k2,k3,k4,k5,k6,k7,k8⟩:=PlJ.app SU.out.1 SU.out.2.1 SU.out.2.2.1 SU.out.2.2.2.1 lv SU.out.2.2.2.2.1 SU.out.2.2.2.2.2.1 SU.out.2.2.2.2.2.2 (by omega) HB2.out (by omega) j1 j2 vl0 (by unfold maxLen;omega) (((Below.refl _ _).drew).trans j3) (by omega);have P6:=Ca.hid k6;have L6:=Ca.hid k7;have B6:=Ca.hid k8;clear j1 j2 j3 k6 k7 k8);first | (refine hK _ _ ?_;clear hK K) | skip)
     refine wpAnyIn_ready (rs:=[4]) (by kernel_rfl) (by simp) (AllReadyIn.cons rfl (fun K hK=>?_) AllReadyIn.nil)
     (go_simp;refine hK _ _ ?_;clear hK K)
     refine wpAnyIn_ready (rs:=[5]) (by kernel_rfl) (by simp) (AllReadyIn.cons rfl (fun K hK=>?_) AllReadyIn.nil)
     (refine stepIn_append (by rfl) _ _ _ (by rfl) _ _ _ (by rfl) (by rfl) hrun ?_;refine hK _ _ ?_;clear hK K)
     refine wpAnyIn_ready (rs:=[6]) (by kernel_rfl) (by simp) (AllReadyIn.cons rfl (fun K hK=>?_) AllReadyIn.nil)
     (go_simp;refine hK _ _ ?_;clear hK K)
     refine wpAnyIn_done (by kernel_rfl) ?_ _
     exact ⟨_,_,_,rfl,rfl,P6.out,L6.out,B6.out⟩
    ·(go_simp;refine hK _ _ ?_;clear hK K)
     refine wpAnyIn_ready (rs:=[0,3]) (by kernel_rfl) (by simp) (AllReadyIn.cons rfl (fun K hK=>?_) (AllReadyIn.cons rfl (fun K hK=>?_) AllReadyIn.nil))
     ·(go_simp;refine hK _ _ ?_;clear hK K)
      refine wpAnyIn_ready (rs:=[3]) (by kernel_rfl) (by simp) (AllReadyIn.cons rfl (fun K hK=>?_) AllReadyIn.nil)
      (go_simp;gi_wp2_with (refine ⟨trivial,?_⟩;gi_at_call 61;refine (CallsIn.inRound lp (callsIn_wide.2 (clone32_own ya yc vv _ (VA.out.keep (carry_num _) (HB2.out.drew)) vl0 vl1))).mono ?_;rintro e W2 ⟨a',c',rfl,j1,j2,j3⟩;obtain ⟨gg,cap,W3,hrun,k2,k3,k4,k5,k6,k7,k8⟩:=PlJ.app SU.out.1 SU.out.2.1 SU.out.2.2.1 SU.out.2.2.2.1 lv SU.out.2.2.2.2.1 SU.out.2.2.2.2.2.1 SU.out.2.2.2.2.2.2 (by omega) HB2.out (by omega) j1 j2 vl0 (by unfold maxLen;omega) (((Below.refl _ _).drew).trans j3) (by omega);have P6:=Ca.hid k6;have L6:=Ca.hid k7;have B6:=Ca.hid k8;clear j1 j2 j3 k6 k7 k8);first | (refine hK _ _ ?_;clear hK K) | skip)
      refine wpAnyIn_ready (rs:=[4]) (by kernel_rfl) (by simp) (AllReadyIn.cons rfl (fun K hK=>?_) AllReadyIn.nil)
      (go_simp;refine hK _ _ ?_;clear hK K)
      refine wpAnyIn_ready (rs:=[5]) (by kernel_rfl) (by simp) (AllReadyIn.cons rfl (fun K hK=>?_) AllReadyIn.nil)
      (refine stepIn_append (by rfl) _ _ _ (by rfl) _ _ _ (by rfl) (by rfl) hrun ?_;refine hK _ _ ?_;clear hK K)
      refine wpAnyIn_ready (rs:=[6]) (by kernel_rfl) (by simp) (AllReadyIn.cons rfl (fun K hK=>?_) AllReadyIn.nil)
      (go_simp;refine hK _ _ ?_;clear hK K)
      refine wpAnyIn_done (by kernel_rfl) ?_ _
      exact ⟨_,_,_,rfl,rfl,P6.out,L6.out,B6.out⟩
     ·(go_simp;gi_wp2_with (refine ⟨trivial,?_⟩;gi_at_call 61;refine (CallsIn.inRound lp (callsIn_wide.2 (clone32_own ya yc vv _ (VA.out.keep (carry_num _) (HB2.out.drew)) vl0 vl1))).mono ?_;rintro e W2 ⟨a',c',rfl,j1,j2,j3⟩;obtain ⟨gg,cap,W3,hrun,k2,k3,k4,k5,k6,k7,k8⟩:=PlJ.app SU.out.1 SU.out.2.1 SU.out.2.2.1 SU.out.2.2.2.1 lv SU.out.2.2.2.2.1 SU.out.2.2.2.2.2.1 SU.out.2.2.2.2.2.2 (by omega) HB2.out (by omega) j1 j2 vl0 (by unfold maxLen;omega) (((Below.refl _ _).drew).trans j3) (by omega);have P6:=Ca.hid k6;have L6:=Ca.hid k7;have B6:=Ca.hid k8;clear j1 j2 j3 k6 k7 k8);first | (refine hK _ _ ?_;clear hK K) | skip)
      refine wpAnyIn_ready (rs:=[0,4]) (by kernel_rfl) (by simp) (AllReadyIn.cons rfl (fun K hK=>?_) (AllReadyIn.cons rfl (fun K hK=>?_) AllReadyIn.nil))
      ·(go_simp;refine hK _ _ ?_;clear hK K)
       refine wpAnyIn_ready (rs:=[4]) (by kernel_rfl) (by simp) (AllReadyIn.cons rfl (fun K hK=>?_) AllReadyIn.nil)
       (go_simp;refine hK _ _ ?_;clear hK K)
       refine wpAnyIn_ready (rs:=[5]) (by kernel_rfl) (by simp) (AllReadyIn.cons rfl (fun K hK=>?_) AllReadyIn.nil)
       (refine stepIn_append (by rfl) _ _ _ (by rfl) _ _ _ (by rfl) (by rfl) hrun ?_;refine hK _ _ ?_;clear hK K)
       refine wpAnyIn_ready (rs:=[6]) (by kernel_rfl) (by simp) (AllReadyIn.cons rfl (fun K hK=>?_) AllReadyIn.nil)
       (go_simp;refine hK _ _ ?_;clear hK K)
       refine wpAnyIn_done (by kernel_rfl) ?_ _
       exact ⟨_,_,_,rfl,rfl,P6.out,L6.out,B6.out⟩
      ·(go_simp;refine hK _ _ ?_;clear hK K)
       refine wpAnyIn_ready (rs:=[0]) (by kernel_rfl) (by simp) (AllReadyIn.cons rfl (fun K hK=>?_) AllReadyIn.nil)
       (go_simp;refine hK _ _ ?_;clear hK K)
       refine wpAnyIn_ready (rs:=[5]) (by kernel_rfl) (by simp) (AllReadyIn.cons rfl (fun K hK=>?_) AllReadyIn.nil)
       (refine stepIn_append (by rfl) _ _ _ (by rfl) _ _ _ (by rfl) (by rfl) hrun ?_;refine hK _ _ ?_;clear hK K)
       refine wpAnyIn_ready (rs:=[6]) (by kernel_rfl) (by simp) (AllReadyIn.cons rfl (fun K hK=>?_) AllReadyIn.nil)
       (go_simp;refine hK _ _ ?_;clear hK K)
       refine wpAnyIn_done (by kernel_rfl) ?_ _
       exact ⟨_,_,_,rfl,rfl,P6.out,L6.out,B6.out⟩
  rintro e a v ⟨x37,x38,x39,rfl,rfl,P7,L7,B7⟩
  have hpp'':Boxed v (w.heap.size+1+1) 107 (.pointer (some ⟨rg r,0,none⟩)):=(L7.ty (ty_box SU.out.2.1) (ty_box hpp') (by decide) (by decide)).trans hpp'
  gi_wp2
  refine ⟨K6.out.trans ((L7.keeps (ty_box SU.out.2.1)).from _),.inl ⟨rfl,⟨hpp''.trans hpp.symm,(B7.block _ glt.1).trans (HB1.out.block _ glt.1).symm,(B7.block _ glt.2).trans (HB1.out.block _ glt.2).symm⟩,?_,hpp'',B7⟩⟩
  rw [HKS.out,HVS.out]
  exact P7.swap
 case done =>
  rintro Dd Wd hD ⟨hj,hpp,hB⟩ hK
  rw [eN,List.take_of_length_le (by rw [hk1];exact Nat.le_refl _),List.take_of_length_le (by rw [hv1];exact Nat.le_refl _)] at hj
  obtain ⟨S,v1,v2,xs,ys,hS,hb1,hb2,h1,h2,hdis,hn1,hn2⟩:=hj
  obtain ⟨va1,vc1,rfl⟩:=Ca.own_slice h1.1
  obtain ⟨va2,vc2,rfl⟩:=Ca.own_slice h2.1
  have y1:=hb1.cell
  have y2:=hb2.cell
  have z1:=hb1.frozen
  have z2:=hb2.frozen
  go_upto_region 7 with fail
  go_region
  go_wp2
  have d1:¬ Dd=w.heap.size:=fun e=>by rw [e,hb1] at hK;cases hK
  have d2:¬ Dd=w.heap.size+1:=fun e=>by rw [e,hb2] at hK;cases hK
  obtain ⟨Wx,eX⟩:∃ Wx,((Wd.setCell ⟨w.heap.size,0,none⟩ (.slice va1 N vc1)).setCell ⟨w.heap.size+1,0,none⟩ (.slice va2 N vc2)).drew=Wx:=⟨_,rfl⟩
  have hK':Wx.heap[Dd]?=some (Obj.deferred (some [])):=by
   rw [<-eX]
   show (((Wd.setCell ⟨w.heap.size,0,none⟩ (.slice va1 N vc1)).setCell ⟨w.heap.size+1,0,none⟩ (.slice va2 N vc2))).heap[Dd]?=_
   rw [Below.heap_setCell _ _ _ _ (show Dd ≠ w.heap.size+1 from d2),Below.heap_setCell _ _ _ _ (show Dd ≠ w.heap.size from d1)]
   exact hK
  rw [eX]
  refine ⟨by simp,.inl ⟨_,_,rfl,run_takeDeferred hK',?_⟩⟩
  have hWx:Below w.heap.size w Wx:=by
   rw [<-eX]
   exact ((hB.setCell (p:=⟨w.heap.size,0,none⟩) (Nat.le_refl _) _).setCell (p:=⟨w.heap.size+1,0,none⟩) (Nat.le_succ _) _).drew
  have hq:=belowK_b (w:=w) (Nat.le_refl _) Wx Dd _ (.deferred none) (by omega) hK' rfl rfl
  have szx:Wd.heap.size<=Wx.heap.size:=by rw [<-eX];simp [World.setCell]
  obtain ⟨Wy,eY⟩:∃ Wy,Wx.putObj Dd (Obj.deferred none)=Wy:=⟨_,rfl⟩
  rw [eY] at hq ⊢
  have szy:Wd.heap.size<=Wy.heap.size:=by
   rw [<-eY]
   refine Nat.le_trans szx ?_
   simp [World.putObj]
  have oth:∀ q,¬ q=Dd->Wy.heap[q]?=Wx.heap[q]?:=fun q hn=>by rw [<-eY];exact World.putObj_heap_other (by omega)
  have farx:∀ q,¬ q=w.heap.size->¬ q=w.heap.size+1->Wx.heap[q]?=Wd.heap[q]?:=fun q n1 n2=>by
   rw [<-eX]
   show (((Wd.setCell ⟨w.heap.size,0,none⟩ (.slice va1 N vc1)).setCell ⟨w.heap.size+1,0,none⟩ (.slice va2 N vc2))).heap[q]?=_
   rw [Below.heap_setCell _ _ _ _ (show q ≠ w.heap.size+1 from n2),Below.heap_setCell _ _ _ _ (show q ≠ w.heap.size from n1)]
  have far:∀ q t,Ty Wd q t->¬ t=42->Wy.heap[q]?=Wd.heap[q]?:=fun q t ht hn=>by
   have nD:¬ q=Dd:=fun e=>by obtain ⟨cs,fz,q3⟩:=ht;rw [e,hK] at q3;cases q3
   rw [oth q nD]
   exact farx q (ht.ne (ty_box hb1) hn) (ht.ne (ty_box hb2) hn)
  have bx1:Boxed Wx w.heap.size 42 (.slice va1 N vc1):=by
   have h1:Boxed (Wd.setCell ⟨w.heap.size,0,none⟩ (.slice va1 N vc1)) w.heap.size 42 (.slice va1 N vc1):=Boxed.set _ hb1
   have h2:((Wd.setCell ⟨w.heap.size,0,none⟩ (.slice va1 N vc1)).setCell ⟨w.heap.size+1,0,none⟩ (.slice va2 N vc2)).heap[w.heap.size]?=(Wd.setCell ⟨w.heap.size,0,none⟩ (.slice va1 N vc1)).heap[w.heap.size]?:=Below.heap_setCell _ _ _ _ (show w.heap.size ≠ w.heap.size+1 by omega)
   rw [<-eX]
   exact h2.trans h1
  have bx2:Boxed Wx (w.heap.size+1) 42 (.slice va2 N vc2):=by
   have h2:(Wd.setCell ⟨w.heap.size,0,none⟩ (.slice va1 N vc1)).heap[w.heap.size+1]?=Wd.heap[w.heap.size+1]?:=Below.heap_setCell _ _ _ _ (show w.heap.size+1 ≠ w.heap.size by omega)
   have h3:Boxed (Wd.setCell ⟨w.heap.size,0,none⟩ (.slice va1 N vc1)) (w.heap.size+1) 42 (.slice va2 (Ca.vsOf ((tk r).drop (q0*G)) hd).length vc2):=h2.trans hb2
   rw [<-eX]
   exact Boxed.set _ h3
  have c1:Wy.cell? ⟨w.heap.size,0,none⟩=some (.slice va1 N vc1):=(World.cell?_of_block (a:=⟨w.heap.size,0,none⟩) (oth _ (fun e=>d1 e.symm))).trans bx1.cell
  have c2:Wy.cell? ⟨w.heap.size+1,0,none⟩=some (.slice va2 N vc2):=(World.cell?_of_block (a:=⟨w.heap.size+1,0,none⟩) (oth _ (fun e=>d2 e.symm))).trans bx2.cell
  refine ⟨.tuple #[.slice va1 N vc1,.slice va2 N vc2],by simp [results,Tryz.results30,go_sem,c1,c2],S,.slice va1 N vc1,.slice va2 N vc2,xs,ys,rfl,fun q e=>⟨(hS q e).1,(hS q e).2.of_block (far q _ (hS q e).2 (by decide))⟩,?_,?_,?_,?_,?_,hWx.trans hq⟩
  ·have:=h1.other (u:=Wy) carry_row (fun q _ e=>by rcases e with e | e;exact far q _ (hS q e).2 (by decide);exact far q _ (ty_own h1.1 e) (by decide)) szy
   rw [hk1] at this ⊢
   exact this
  ·have:=h2.other (u:=Wy) carry_row (fun q _ e=>by rcases e with e | e;exact far q _ (hS q e).2 (by decide);exact far q _ (ty_own h2.1 e) (by decide)) szy
   rw [hv1] at this ⊢
   exact this
  ·rw [hk1,hv1] at hdis;exact hdis
  ·rw [hk1] at hn1;exact hn1
  ·rw [hv1] at hn2;exact hn2
 case stop =>
  rintro D c k W _ _ h _
  exact h.elim
end Cc
end Go.Proofs.YtnchnlgnnlgjcaaGreat
