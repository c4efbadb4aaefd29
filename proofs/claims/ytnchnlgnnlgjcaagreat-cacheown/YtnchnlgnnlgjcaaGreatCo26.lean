import Derived.Test.YtnchnlgnnlgjcaaGreatCo25
import Derived.Test.YtnchnlgnnlgjcaaGreatCo23
import Derived.Test.YtnchnlgnnlgjcaaGreatCo17
set_option linter.unusedVariables false
set_option linter.unusedSimpArgs false
namespace Go.Proofs.YtnchnlgnnlgjcaaGreat
open Go.RowKit
namespace Cc
theorem put_open_c (C g H D G W:Nat) (ls:List (Int × Int)) (t k:Nat) (ly:Int) (v1 v2:Value) (w:World) (h:Bd w C g H D G W ls t k) (hk:k<ls.length) (hl:ls.length<=4) (ht:t<=500) (hly:¬ ly=k) :
 Calls Tryz.prog 20 #[.pointer (some ⟨C,0,none⟩),.int .i64 ly,v1,v2] w fun e w'=>e=.returned (.int .i64 24)/\Below w.heap.size w w':=by
 have HB:Hid (Bd w C g H D G W ls t k):=h
 have ht1024:((t:Int) == 1024)=false:=by simp;omega
 have hn:(ly != (k:Int))=true:=by simpa using hly
 clear h hly
 go_enter Tryz.func20,Tryz.ntmps20
 go_wp2_with (first
  | (go_at_call 26;refine (tokens_c C g H D G W ls t k _ HB.out hk hl).mono ?_;rintro e w1 ⟨rfl,hx⟩;have B1:Hid (Below w.heap.size w w1):=(by obtain ⟨nq,rfl⟩:=hx;exact Rt.below_drewN (Below.refl _ _) _);clear hx)
  | (go_at_call 21;refine (next_c C g H D G W ls t k _ (HB.out.keep B1.out) hk hl).mono ?_;rintro e w2 ⟨rfl,hx⟩;have B2:Hid (Below w.heap.size w w2):=(by obtain ⟨nq,rfl⟩:=hx;exact Rt.below_drewN B1.out _);clear hx))
 go_ret
 exact ⟨rfl,B2.out⟩
theorem put_shape_c (C g H D G W:Nat) (ls:List (Int × Int)) (t k:Nat) (a1 a2:Option Addr) (k1 k2:Nat) (ks vs:List (List Int)) (w:World) (h:Bd w C g H D G W ls t k) (hk:k<ls.length) (hl:ls.length<=4) (hH:H<=4) (hD:D<=16) (ht:t<=500)
 (hks:Tbl w a1 ks) (hvs:Tbl w a2 vs) (kl:ks.length<=1000) (vl:vs.length<=1000) (hf:(Ca.fit H D ks && Ca.fit H D vs)=false) :
 Calls Tryz.prog 20 #[.pointer (some ⟨C,0,none⟩),.int .i64 (k:Int),.slice a1 ks.length k1,.slice a2 vs.length k2] w fun e w'=>e=.returned (.int .i64 25)/\Below w.heap.size w w':=by
 have HB:Hid (Bd w C g H D G W ls t k):=h
 have ht1024:((t:Int) == 1024)=false:=by simp;omega
 have KT:Hid (Tbl w a1 ks):=hks
 have VT:Hid (Tbl w a2 vs):=hvs
 clear h hks hvs
 obtain ⟨q1,e1⟩:∃ q,Ca.fit H D ks=q:=⟨_,rfl⟩
 obtain ⟨q2,e2⟩:∃ q,Ca.fit H D vs=q:=⟨_,rfl⟩
 rw [e1,e2] at hf
 have E1:=Ca.hid e1
 have E2:=Ca.hid e2
 clear e1 e2
 cases q1 with
 | false =>
   clear hf
   go_enter Tryz.func20,Tryz.ntmps20
   go_wp2_with (first
    | (go_at_call 26;refine (tokens_c C g H D G W ls t k _ HB.out hk hl).mono ?_;rintro e w1 ⟨rfl,hx⟩;have B1:Hid (Below w.heap.size w w1):=(by obtain ⟨nq,rfl⟩:=hx;exact Rt.below_drewN (Below.refl _ _) _);clear hx)
    | (go_at_call 21;refine (next_c C g H D G W ls t k _ (HB.out.keep B1.out) hk hl).mono ?_;rintro e w2 ⟨rfl,hx⟩;have B2:Hid (Below w.heap.size w w2):=(by obtain ⟨nq,rfl⟩:=hx;exact Rt.below_drewN B1.out _);clear hx)
    | (go_at_call_of 57 (a1);refine (fits_c C g H D G W ls t k a1 k1 ks _ (HB.out.keep B2.out) (KT.out.keep B2.out) (by omega) hH hD).mono ?_;rintro e w' ⟨rfl,hww⟩;cases hww.symm;clear hww;rw [E1.out]))
   go_ret
   exact ⟨rfl,B2.out⟩
 | true =>
   have e:q2=false:=by simpa using hf
   subst e
   clear hf
   go_enter Tryz.func20,Tryz.ntmps20
   go_wp2_with (first
    | (go_at_call 26;refine (tokens_c C g H D G W ls t k _ HB.out hk hl).mono ?_;rintro e w1 ⟨rfl,hx⟩;have B1:Hid (Below w.heap.size w w1):=(by obtain ⟨nq,rfl⟩:=hx;exact Rt.below_drewN (Below.refl _ _) _);clear hx)
    | (go_at_call 21;refine (next_c C g H D G W ls t k _ (HB.out.keep B1.out) hk hl).mono ?_;rintro e w2 ⟨rfl,hx⟩;have B2:Hid (Below w.heap.size w w2):=(by obtain ⟨nq,rfl⟩:=hx;exact Rt.below_drewN B1.out _);clear hx)
    | (go_at_call_of 57 (k1);refine (fits_c C g H D G W ls t k a1 k1 ks _ (HB.out.keep B2.out) (KT.out.keep B2.out) (by omega) hH hD).mono ?_;rintro e w' ⟨rfl,hww⟩;cases hww.symm;clear hww;rw [E1.out])
    | (go_at_call_of 57 (k2);refine (fits_c C g H D G W ls t k a2 k2 vs _ (HB.out.keep B2.out) (VT.out.keep B2.out) (by omega) hH hD).mono ?_;rintro e w' ⟨rfl,hww⟩;cases hww.symm;clear hww;rw [E2.out]))
   go_ret
   exact ⟨rfl,B2.out⟩
set_option maxHeartbeats 800000 in
theorem put_full_c (C g b n H D G W:Nat) (ls:List (Int × Int)) (R M:List Int) (t k:Nat) (a1 a2:Option Addr) (k1 k2:Nat) (ks vs:List (List Int)) (w:World) (hp:PoolAt w g b n R M) (h:Bd w C g H D G W ls t k) (hk:k<ls.length) (hl:ls.length<=4) (hH:H<=4) (hD:D<=16) (hG:1<=G) (hG2:G<=16) (hW:W<=64) (ht:t<=500)
 (hks:Tbl w a1 ks) (hvs:Tbl w a2 vs) (kl:ks.length<=1000) (vl:vs.length<=1000) (f1:Ca.fit H D ks=true) (f2:Ca.fit H D vs=true) (hdue:gn G W t<gn G W (t+1)) (hfree:Po.cnt R<H) :
 Calls Tryz.prog 20 #[.pointer (some ⟨C,0,none⟩),.int .i64 (k:Int),.slice a1 ks.length k1,.slice a2 vs.length k2] w fun e w'=>e=.returned (.int .i64 23)/\Below w.heap.size w w':=by
 have HB:Hid (Bd w C g H D G W ls t k):=h
 have HP:Hid (PoolAt w g b n R M):=hp
 have ht1024:((t:Int) == 1024)=false:=by simp;omega
 have KT:Hid (Tbl w a1 ks):=hks
 have VT:Hid (Tbl w a2 vs):=hvs
 have E1:=Ca.hid f1
 have E2:=Ca.hid f2
 have DU:Hid (decide (gn G W t<gn G W (t+1))=true):=decide_eq_true hdue
 obtain ⟨cf,ecf⟩:∃ cf,Po.cnt R=cf:=⟨_,rfl⟩
 have ECF:=Ca.hid ecf
 have hlt:decide ((cf:Int)<(H:Int))=true:=decide_eq_true (by omega)
 have hlt2:decide (cf<H)=true:=decide_eq_true (by omega)
 have hlt3:cf<H:=by omega
 clear hp h hks hvs f1 f2 hdue hfree ecf
 go_enter Tryz.func20,Tryz.ntmps20
 go_upto_region 7 with (first
  | (go_at_call 26;refine (tokens_c C g H D G W ls t k _ HB.out hk hl).mono ?_;rintro e w1 ⟨rfl,hx⟩;have B1:Hid (Below w.heap.size w w1):=(by obtain ⟨nq,rfl⟩:=hx;exact Rt.below_drewN (Below.refl _ _) _);clear hx)
  | (go_at_call 21;refine (next_c C g H D G W ls t k _ (HB.out.keep B1.out) hk hl).mono ?_;rintro e w2 ⟨rfl,hx⟩;have B2:Hid (Below w.heap.size w w2):=(by obtain ⟨nq,rfl⟩:=hx;exact Rt.below_drewN B1.out _);clear hx)
  | (go_at_call_of 57 (k1);refine (fits_c C g H D G W ls t k a1 k1 ks _ (HB.out.keep B2.out) (KT.out.keep B2.out) (by omega) hH hD).mono ?_;rintro e w' ⟨rfl,hww⟩;cases hww.symm;clear hww;rw [E1.out])
  | (go_at_call_of 57 (k2);refine (fits_c C g H D G W ls t k a2 k2 vs _ (HB.out.keep B2.out) (VT.out.keep B2.out) (by omega) hH hD).mono ?_;rintro e w' ⟨rfl,hww⟩;cases hww.symm;clear hww;rw [E2.out]))
 obtain ⟨al,cl,T,pb,m,pc,ct,cc,x0,x1,-,-,-,-,-,-,-,-,-⟩:=(HB.out.keep B2.out).cells
 have k0:=cell_regrown x0
 have k1:=cell_regrown x1
 have cD:=Tn.reg_of (u:=w2) fun v hv=>due_c C g H D G W ls t k true v ((HB.out.keep B2.out).keep hv) hk hl hG hG2 hW (by omega) DU.out
 have cF:=Tn.reg_of (u:=w2) fun v hv=>(free_any g b n cf R M v ((HP.out.keep B2.out).keep hv) ECF.out).mono fun _ _ ⟨h1,h2⟩=>⟨h1,by rw [h2];exact Below.refl _ _⟩
 clear x0 x1
 refine wp_region_quiet_below (by kernel_rfl) (by kernel_rfl) ?_
 repeat (go_big_quiet_step (first | (with_reducible exact cD _ _) | (with_reducible exact cF _ _)))
 refine wpQuiet_nil ?_
 intro wq hw'
 have BQ:Hid (Below w.heap.size w wq):=by obtain ⟨⟨dq,osq⟩,hw''⟩:=hw';rw [hw''];exact B2.out.trans ((below_regrown w2 dq osq).mono B2.out.size)
 clear hw'
 go_wp2
 go_ret
 exact ⟨rfl,BQ.out⟩
end Cc
end Go.Proofs.YtnchnlgnnlgjcaaGreat
namespace Go.Proofs.YtnchnlgnnlgjcaaGreat
open Go.RowKit
namespace Cc
theorem piece_take (G:Nat) (L:List Tok) {i N:Nat} (h:i*G+G<=N):Ca.piece G (L.take N) i=Ca.piece G L i:=by
 unfold Ca.piece
 rw [List.drop_take,List.take_take,Nat.min_eq_left (by omega)]
theorem pg_take (m0 m1 s0 s1 G D ly hd:Nat) (L:List Tok) {i N:Nat} (h:i*G+G<=N):Ca.pg m0 m1 s0 s1 G D ly hd (L.take N) i=Ca.pg m0 m1 s0 s1 G D ly hd L i:=by
 unfold Ca.pg
 rw [piece_take G L h]
theorem CaIn.trim {w w3:World} {col:Nat->Nat} {c g b C H D G W:Nat} {ls:List (Int × Int)} {M:List Int} {L:Nat->List Int} {cnt:List Int} {tk:Nat->List Tok} {q:Nat->Nat}
 {al:Option Addr} {cl T pb pc ct cc:Nat} {rg rs:Nat->Nat} {F:Nat->Value} (h:CaIn w col c g C H D G W ls M L cnt tk q al cl T pb pc ct cc rg rs F)
 (hfr:∀ x,w.heap.size<=x->col x=0) (c0:¬ c=0) {r f kk:Nat} {l:List Rt.Tv} (rlt:r<ls.length*H)
 (hlen:l.length+q r*G=(tk r).length) (htv:∀ i (h:q r*G+i<(tk r).length),TvAt col w (Rt.nth l i) (tk r)[q r*G+i] (r % H))
 (hbt:Rt.But (rg r) (rs r) w w3) (hring:Rt.RingAt w3 (rg r) (rs r) (W+G) f (l.take kk)) (hk:kk<=l.length) :
 CaAt w3 col c g C H D G W ls M L cnt (fun i=>if i=r then (tk r).take (q r*G+kk) else tk i) q/\Chg c g b w w3 col col:=by
 obtain ⟨⟨hC,zC⟩,⟨hl,hln⟩,⟨hT,zT⟩,⟨hc,hcl,zc⟩,⟨hpb,hF,hpc,zp⟩,hdis,hrow⟩:=h
 have hs3:=hbt.size
 obtain ⟨_,_,_,_,l0,hrg0,_,_,crg,crs⟩:=hrow r rlt
 have trg:=hrg0.tys
 have tct:Ty w ct 3:=ty_own hc rfl
 have far:∀ y,y<w.heap.size->¬ y=rg r->¬ y=rs r->w3.heap[y]?=w.heap[y]?:=fun y hy n1 n2=>hbt.2 y hy n1 n2
 have f0:∀ y,y<w.heap.size->col y=0->w3.heap[y]?=w.heap[y]?:=fun y hy h0=>far y hy (fun e=>c0 (by rw [<-crg,<-e];exact h0)) (fun e=>c0 (by rw [<-crs,<-e];exact h0))
 have k0:∀ y,y<w.heap.size->col y=0->col y=0/\w3.heap[y]?=w.heap[y]?:=fun y hy h0=>⟨h0,f0 y hy h0⟩
 have bg:Chg c g b w w3 col col:=by
  refine Chg.of_but ⟨hbt.1.os,hbt.1.tape,hbt.1.output,hs3,fun j h0 _ _ h3=>?_⟩ hfr
  have h3:¬ col j=c:=h3
  exact far j h0 (fun e=>h3 (by rw [e];exact crg)) (fun e=>h3 (by rw [e];exact crs))
 refine ⟨⟨al,cl,T,pb,pc,ct,cc,rg,rs,F,⟨hC.of_block (f0 C hC.lt zC),zC⟩,⟨hl.carry k0 (by omega),hln⟩,⟨?_,zT⟩,⟨?_,hcl,zc⟩,⟨hpb.of_block (f0 pb hpb.lt zp),hF,hpc,zp⟩,hdis,fun i hi=>?_⟩,bg⟩
 ·exact hT.stand (f0 T hT.lt zT) fun y _ ht=>far y (by rcases ht with t | t <;> exact t.lt) (by rcases ht with t | t <;> exact t.ne trg.1 (by decide)) (by rcases ht with t | t <;> exact t.ne trg.2 (by decide))
 ·exact own_at hc fun y ey=>by cases ey;exact far ct tct.lt (tct.ne trg.1 (by decide)) (tct.ne trg.2 (by decide))
 ·by_cases ei:i=r
  ·subst ei
   show RowIn w3 col c M G D (W+G) ls (i / H) (i % H) (rg i) (rs i) (L i) (if i=i then (tk i).take (q i*G+kk) else tk i) (q i)
   rw [if_pos rfl]
   obtain ⟨h1,h2,h3,_⟩:=hrow i hi
   refine ⟨h1,by rw [List.length_take];omega,fun j hj=>?_,f,l.take kk,hring,by rw [List.length_take,List.length_take];omega,fun j hj=>?_,crg,crs⟩
   ·obtain ⟨p,e,hp⟩:=h3 j hj
    refine ⟨p,e,?_⟩
    rw [pg_take _ _ _ _ _ _ _ _ _ (Nat.le_trans (mul_next hj) (Nat.le_add_right _ _))]
    exact hp.carry k0
   ·rw [List.length_take] at hj
    rw [Rt.nth_take (by omega),List.getElem_take]
    exact (htv j (by omega)).carry k0 (by omega)
  ·show RowIn w3 col c M G D (W+G) ls (i / H) (i % H) (rg i) (rs i) (L i) (if i=r then (tk r).take (q r*G+kk) else tk i) (q i)
   rw [if_neg ei]
   obtain ⟨_,_,_,fi,li,hri,_,_,ci,ci2⟩:=hrow i hi
   have n1:¬ rg i=rg r:=fun e=>ei (hdis i r hi rlt (.inl e))
   have n2:¬ rs i=rs r:=fun e=>ei (hdis i r hi rlt (.inr e))
   have n3:¬ rg i=rs r:=hri.tys.1.ne trg.2 (by decide)
   have n4:¬ rs i=rg r:=hri.tys.2.ne trg.1 (by decide)
   exact (hrow i hi).carry k0 (by omega) ⟨rfl,far _ hri.lt.1 n1 n3⟩ ⟨rfl,far _ hri.lt.2 n4 n2⟩ fun _ _=>rfl
theorem CaIn.counts {w w':World} {col:Nat->Nat} {c g b C H D G W:Nat} {ls:List (Int × Int)} {M:List Int} {L:Nat->List Int} {cnt cnt':List Int} {tk:Nat->List Tok} {q:Nat->Nat}
 {al:Option Addr} {cl T pb pc ct cc:Nat} {rg rs:Nat->Nat} {F:Nat->Value} (h:CaIn w col c g C H D G W ls M L cnt tk q al cl T pb pc ct cc rg rs F) (hfr:∀ x,w.heap.size<=x->col x=0) (c0:¬ c=0)
 (hb:Below 0 w w') (far:∀ y,y<w.heap.size->¬ y=ct->w'.heap[y]?=w.heap[y]?) (hct:w'.ownsRow 0 3 1 (.slice (some ⟨ct,0,none⟩) ls.length cc) ls.length (cnt'.map (Value.int .i64))) (hcn:cnt'.length=ls.length) :
 CaAt w' col c g C H D G W ls M L cnt' tk q/\Chg c g b w w' col col:=by
 obtain ⟨⟨hC,zC⟩,⟨hl,hln⟩,⟨hT,zT⟩,⟨hc,hcl,zc⟩,⟨hpb,hF,hpc,zp⟩,hdis,hrow⟩:=h
 have tct:Ty w ct 3:=ty_own hc rfl
 have f0:∀ y,y<w.heap.size->col y=0->w'.heap[y]?=w.heap[y]?:=fun y hy h0=>far y hy fun e=>c0 (by rw [<-zc,<-e];exact h0)
 have k0:∀ y,y<w.heap.size->col y=0->col y=0/\w'.heap[y]?=w.heap[y]?:=fun y hy h0=>⟨h0,f0 y hy h0⟩
 refine ⟨⟨al,cl,T,pb,pc,ct,cc,rg,rs,F,⟨hC.of_block (f0 C hC.lt zC),zC⟩,⟨hl.carry k0 hb.size,hln⟩,⟨?_,zT⟩,⟨hct,hcn,zc⟩,⟨hpb.of_block (f0 pb hpb.lt zp),hF,hpc,zp⟩,hdis,fun i hi=>?_⟩,?_⟩
 ·exact hT.stand (f0 T hT.lt zT) fun y hq ht=>far y (by rcases ht with t | t <;> exact t.lt) hq.2
 ·obtain ⟨_,_,_,fi,li,hri,_,_,ci,ci2⟩:=hrow i hi
  exact (hrow i hi).carry k0 hb.size ⟨rfl,far _ hri.lt.1 (hri.tys.1.ne tct (by decide))⟩ ⟨rfl,far _ hri.lt.2 (hri.tys.2.ne tct (by decide))⟩ fun _ _=>rfl
 ·exact Chg.of_but ⟨hb.os,hb.tape,hb.output,hb.size,fun j hj _ _ h3=>far j hj fun e=>h3 (show col j=c by rw [e];exact zc)⟩ hfr
theorem CaIn.cleared {w w':World} {col:Nat->Nat} {c g b n C H D G W:Nat} {ls:List (Int × Int)} {R M:List Int} {L:Nat->List Int} {cnt:List Int} {tk:Nat->List Tok} {q:Nat->Nat}
 {al:Option Addr} {cl T pb pc ct cc:Nat} {rg rs:Nat->Nat} {F:Nat->Value} (h:CaIn w col c g C H D G W ls M L cnt tk q al cl T pb pc ct cc rg rs F) (hp:PoolAt w g b n R M) (hfr:∀ x,w.heap.size<=x->col x=0) (c0:¬ c=0) (cg:¬ col g=0) (cb:¬ col b=0)
 (hbut:ButQ g b (fun x=>(col x=c/\¬ x=ct)/\(Ty w x 70\/Ty w x 3)) w w') (htab:Tab w' g T (ls.length*H) (fun _=>[]) (fun x=>(col x=c/\¬ x=ct)/\(Ty w x 70\/Ty w x 3))) :
 CaAt w' col c g C H D G W ls M (fun _=>[]) cnt (fun i=>(tk i).drop (q i*G)) (fun _=>0)/\Chg c g b w w' col col:=by
 obtain ⟨⟨hC,zC⟩,⟨hl,hln⟩,⟨hT,zT⟩,⟨hc,hcl,zc⟩,⟨hpb,hF,hpc,zp⟩,hdis,hrow⟩:=h
 have tct:Ty w ct 3:=ty_own hc rfl
 have hs:=hbut.size
 have f0:∀ y,y<w.heap.size->col y=0->w'.heap[y]?=w.heap[y]?:=fun y hy h0=>hbut.block hy (fun e=>cg (by rw [<-e];exact h0)) (fun e=>cb (by rw [<-e];exact h0)) (fun e=>c0 (by rw [<-e.1.1];exact h0))
 have k0:∀ y,y<w.heap.size->col y=0->col y=0/\w'.heap[y]?=w.heap[y]?:=fun y hy h0=>⟨h0,f0 y hy h0⟩
 refine ⟨⟨al,cl,T,pb,pc,ct,cc,rg,rs,F,⟨hC.of_block (f0 C hC.lt zC),zC⟩,⟨hl.carry k0 hs,hln⟩,⟨htab.mono fun x _ hq=>hq.1,zT⟩,⟨?_,hcl,zc⟩,⟨hpb.of_block (f0 pb hpb.lt zp),hF,hpc,zp⟩,hdis,fun i hi=>?_⟩,?_⟩
 ·exact own_at hc fun y ey=>by cases ey;exact hbut.block tct.lt (tct.ne hp.tys.1 (by decide)) (tct.ne hp.tys.2 (by decide)) (fun e=>e.1.2 rfl)
 ·obtain ⟨h1,h2,_,fi,li,hri,hll,htv,ci,ci2⟩:=hrow i hi
  have nq:∀ x t,Ty w x t->¬ t=70->¬ t=3->¬ ((col x=c/\¬ x=ct)/\(Ty w x 70\/Ty w x 3)):=fun x t ht n1 n2 e=>by
   rcases e.2 with k | k
   ·exact ht.ne k n1 rfl
   ·exact ht.ne k n2 rfl
  have e1:=hbut.block hri.lt.1 (hri.tys.1.ne hp.tys.1 (by decide)) (hri.tys.1.ne hp.tys.2 (by decide)) (nq _ _ hri.tys.1 (by decide) (by decide))
  have e2:=hbut.block hri.lt.2 (hri.tys.2.ne hp.tys.1 (by decide)) (hri.tys.2.ne hp.tys.2 (by decide)) (nq _ _ hri.tys.2 (by decide) (by decide))
  show RowIn w' col c M G D (W+G) ls (i / H) (i % H) (rg i) (rs i) [] ((tk i).drop (q i*G)) 0
  refine ⟨rfl,by omega,fun j hj=>by omega,fi,li,hri.of_block e1 e2,by rw [List.length_drop];omega,fun j hj=>?_,ci,ci2⟩
  rw [List.length_drop] at hj
  rw [List.getElem_drop]
  have:=(htv j (by omega)).carry k0 hs
  simp only [Nat.zero_mul,Nat.zero_add]
  exact this
 ·exact Chg.of_but (hbut.mono fun x _ hq=>hq.1.1) hfr
end Cc
end Go.Proofs.YtnchnlgnnlgjcaaGreat
namespace Go.Proofs.YtnchnlgnnlgjcaaGreat
open Go.RowKit
namespace Cc
theorem zero_int:∀ w,(zeroValue 3).run Tryz.prog w=.ok (.int .i64 0) w:=by
 obtain ⟨i,hi,h1,_,_⟩:=info_parts Tryz.infoIntG
 intro w
 simp [zeroValue,typeInfo,hi,h1]
def setAll (z:Value):Nat->Nat->List Value->List Value
 | 0,_,xs=>xs
 | n+1,o,xs=>setAll z n (o+1) (xs.set o z)
theorem setAll_get (z:Value):∀ (n o:Nat) (xs:List Value) (i:Nat),(setAll z n o xs)[i]?=if o<=i/\i<o+n then (if i<xs.length then some z else none) else xs[i]?:=by
 intro n
 induction n with
 | zero=>intro o xs i;rw [if_neg (by omega)];rfl
 | succ n ih =>
   intro o xs i
   show (setAll z n (o+1) (xs.set o z))[i]?=_
   rw [ih,List.length_set]
   by_cases h1:o+1<=i/\i<o+1+n
   ·rw [if_pos h1,if_pos (show o<=i/\i<o+(n+1) by omega)]
   ·rw [if_neg h1]
    by_cases e:i=o
    ·subst e
     rw [if_pos (show i<=i/\i<i+(n+1) by omega),List.getElem?_set]
     simp
    ·rw [if_neg (show ¬ (o<=i/\i<o+(n+1)) by omega),List.getElem?_set_ne (fun q=>e q.symm)]
theorem own_setAll {base g N cap:Nat} {t:TypeId} (z:Value):∀ (n o:Nat) (w:World) (xs:List Value),w.ownsRow base t 1 (.slice (some ⟨g,0,none⟩) N cap) N xs->(w.setCells g o (List.replicate n z)).ownsRow base t 1 (.slice (some ⟨g,0,none⟩) N cap) N (setAll z n o xs):=by
 intro n
 induction n with
 | zero=>exact fun o w xs h=>h
 | succ n ih =>
   intro o w xs h
   exact ih (o+1) _ _ (h.stored o z).1
theorem setAll_cn (nl t k:Nat):setAll (.int .i64 0) nl 0 ((cn nl t k).map (Value.int .i64))=(cn nl 0 0).map (Value.int .i64):=by
 apply List.ext_getElem?
 intro i
 rw [setAll_get]
 by_cases h:i<nl
 ·rw [if_pos (by omega),if_pos (by simp [cn,h])]
  simp [cn,h,lv]
 ·rw [if_neg (by omega)]
  simp [cn,h]
def tkc (tk:Nat->List Tok) (j i:Nat):List Tok:=if i<j then [] else tk i
theorem tkc_next (tk:Nat->List Tok) (j:Nat):(fun i=>if i=j then ([]:List Tok) else tkc tk j i)=tkc tk (j+1):=by
 funext i
 unfold tkc
 by_cases e:i=j
 ·rw [if_pos e,if_pos (by omega)]
 ·rw [if_neg e]
  by_cases h:i<j
  ·rw [if_pos h,if_pos (by omega)]
  ·rw [if_neg h,if_neg (by omega)]
theorem CaAt.congr {w:World} {col:Nat->Nat} {c g C H D G W:Nat} {ls:List (Int × Int)} {M:List Int} {L L':Nat->List Int} {cnt:List Int} {tk tk':Nat->List Tok} {q q':Nat->Nat} (h:CaAt w col c g C H D G W ls M L cnt tk q) (he:∀ r,r<ls.length*H->L r=L' r/\tk r=tk' r/\q r=q' r):CaAt w col c g C H D G W ls M L' cnt tk' q':=by
 obtain ⟨al,cl,T,pb,pc,ct,cc,rg,rs,F,h1,h2,h3,h4,h5,h6,h7⟩:=h
 refine ⟨al,cl,T,pb,pc,ct,cc,rg,rs,F,h1,h2,⟨h3.1.congr fun j hj=>(he j hj).1,h3.2⟩,h4,h5,h6,fun r hr=>?_⟩
 have:=h7 r hr
 rw [(he r hr).1,(he r hr).2.1,(he r hr).2.2] at this
 exact this
set_option maxRecDepth 100000 in
set_option maxHeartbeats 3200000 in
theorem clear_c (C c g b n H D G W:Nat) (ls:List (Int × Int)) (R M:List Int) (L:Nat->List Int) (t k:Nat) (tk:Nat->List Tok) (q:Nat->Nat) (col:Nat->Nat) (w:World) (hp:PoolAt w g b n R M) (h:CaAt w col c g C H D G W ls M L (cn ls.length t k) tk q) (sh:ShOk H D G W ls)
 (hl:Bk.len L (ls.length*H)<=1000) (hx:∀ x,x ∈ Bk.flat L (ls.length*H)->0<=x/\x<n) (ho:∀ k:Nat,k<n->(Bk.occ k (Bk.flat L (ls.length*H)):Int)<=Ls.nth R k) (hb:∀ k,k<n->Ls.nth R k<=1000)
 (hfr:∀ x,w.heap.size<=x->col x=0) (c0:¬ c=0) (cg:¬ col g=0) (cb:¬ col b=0) :
 Calls Tryz.prog 25 #[.pointer (some ⟨C,0,none⟩)] w fun e w'=>e=.returned (.tuple #[])/\PoolAt w' g b n (Bk.bump R (-1) (Bk.flat L (ls.length*H))) M /\
  CaAt w' col c g C H D G W ls M (fun _=>[]) (cn ls.length 0 0) (fun _=>[]) (fun _=>0)/\Chg c g b w w' col col:=by
 obtain ⟨sH,sH2,-⟩:=id sh
 obtain ⟨-,-,-,sl,sl2,-⟩:=sh.nums
 have hm:ls.length*H<=16:=Nat.le_trans (Nat.mul_le_mul sl2 sH2) (by decide)
 have HP:=Ca.hid hp
 obtain ⟨al,cl,T,pb,pc,ct,cc,rg,rs,F,hin⟩:=h.in
 have HI:=Ca.hid hin
 obtain ⟨⟨hC,zC⟩,-,⟨hT,zT⟩,-⟩:=hin
 have x6:w.cell? ⟨C,6,none⟩=some (.pointer (some ⟨T,0,none⟩)):=hC.cell (show 6<9 by decide)
 have HT:Hid (Tab w g T (ls.length*H) L (fun x=>(col x=c/\¬ x=ct)/\(Ty w x 70\/Ty w x 3))):=hT.mono2 fun x _ ht hq=>⟨hq,ht⟩
 have LL:=Ca.hid (And.intro hl (And.intro hx (And.intro ho hb)))
 have HFR:=Ca.hid hfr
 have HC:=Ca.hid (And.intro hC zC)
 have CG:=Ca.hid (And.intro cg cb)
 clear hp h hC hT hl hx ho hb hfr zC cg cb zT
 go_enter Tryz.func25,Tryz.ntmps25
 go_wp2_with (go_at_call 70;refine (clear_any g b n T (ls.length*H) R M L _ _ HP.out HT.out hm LL.out.1 LL.out.2.1 LL.out.2.2.1 LL.out.2.2.2).mono ?_;rintro e w1 ⟨rfl,hp1,ht1,hb1⟩;have P1:=Ca.hid hp1;have CL:=Ca.hid (HI.out.cleared HP.out HFR.out c0 CG.out.1 CG.out.2 hb1 ht1);have x7:w1.cell? ⟨C,7,none⟩=some (.slice (some ⟨pb,0,none⟩) (ls.length*H) pc):=(by rw [World.cell?_of_block (w:=w) (a:=⟨C,7,none⟩) (hb1.block HC.out.1.lt (fun e=>CG.out.1 (by rw [<-e];exact HC.out.2)) (fun e=>CG.out.2 (by rw [<-e];exact HC.out.2)) (fun e=>c0 (by rw [<-e.1.1];exact HC.out.2)))];exact HC.out.1.cell (show 7<9 by decide));clear hp1 ht1 hb1)
 have X7:=Ca.hid x7
 clear x6 x7
 go_loopw [14] (fun i wq=>∃ j:Nat,j<=ls.length*H/\i=.int .i64 j/\wq.cell? ⟨C,7,none⟩=some (.slice (some ⟨pb,0,none⟩) (ls.length*H) pc)/\Hid (PoolAt wq g b n (Bk.bump R (-1) (Bk.flat L (ls.length*H))) M) /\
  Hid (CaAt wq col c g C H D G W ls M (fun _=>[]) (cn ls.length t k) (tkc (fun i=>(tk i).drop (q i*G)) j) (fun _=>0))/\Hid (Chg c g b w wq col col)) (fun i _=>ls.length*H - (intOf i).toNat)
 case atStart=>exact ⟨0,Nat.zero_le _,rfl,X7.out,P1.out,CL.out.1,CL.out.2⟩
 case round =>
  obtain ⟨j,hj,rfl,y7,PJ,CJ,GJ⟩:=hrel
  obtain ⟨al',cl',T',pb',pc',ct',cc',rg',rs',F',hin⟩:=CJ.out.in
  have HJ:=Ca.hid hin
  obtain ⟨⟨hC,zC⟩,-,-,⟨hct,hcl,zct⟩,⟨hpb,hF,hpc,zp⟩,hdis,hrow⟩:=hin
  have e7:wr.cell? ⟨C,7,none⟩=some (.slice (some ⟨pb',0,none⟩) (ls.length*H) pc'):=hC.cell (show 7<9 by decide)
  rw [y7] at e7
  have e8:pb=pb'/\pc=pc':=by injection e7 with e;injection e with e1 _ e2;injection e1 with e1;injection e1 with e1;exact ⟨e1,e2⟩
  obtain ⟨rfl,rfl⟩:=e8
  clear e7
  by_cases hlt:j<ls.length*H
  ·obtain ⟨_,_,_,f,l,hring,hll,htv,crg,crs⟩:=hrow j hlt
   have RW:=Ca.hid hring
   have LT:=Ca.hid (And.intro hll htv)
   have xr:wr.cell? ⟨pb,j,none⟩=some (.pointer (some ⟨rg' j,0,none⟩)):=by rw [hpb.cell (show j<pc by omega),hF j hlt]
   have y7C:Hid (C<wr.heap.size/\¬ C=rg' j/\¬ C=rs' j):=⟨hC.lt,fun e=>c0 (by rw [<-crg,<-e];exact zC),fun e=>c0 (by rw [<-crs,<-e];exact zC)⟩
   have Y7:=Ca.hid y7
   have e1:(j:Int)<(ls.length:Int)*(H:Int):=by rw [<-Int.natCast_mul];omega
   have CY:Hid (Calls Tryz.prog 71 #[.pointer (some ⟨rg' j,0,none⟩),.int .i64 0] wr fun e w'=>e=.returned (.bool true)/\Rt.RingAt w' (rg' j) (rs' j) (W+G) f (l.take 0)/\Rt.But (rg' j) (rs' j) wr w'):=Rt.cut_yes (rg' j) (rs' j) (W+G) f 0 l wr RW.out (Nat.zero_le _)
   clear hC hct hpb hF hdis hrow hring hll htv y7
   go_wp2_with (go_at_call 71;(with_reducible refine CY.out.mono ?_);rintro e w2 ⟨rfl,hri,hbt⟩;have RI:=Ca.hid hri;have BT:=Ca.hid hbt;clear hri hbt)
   go_roundw
   case rel =>
    have tr:=HJ.out.trim (b:=b) GJ.out.fresh c0 hlt LT.out.1 LT.out.2 BT.out RI.out (Nat.zero_le _)
    refine ⟨j+1,by omega,by go_num,?_,?_,?_,GJ.out.trans tr.2⟩
    ·rw [BT.out.cell (a:=⟨C,7,none⟩) y7C.out.1 y7C.out.2.1 y7C.out.2.2];exact Y7.out
    ·exact PJ.out.stand fun y hy=>BT.out.2 y (by rcases hy with h | h | h <;> exact h.lt) (by rcases hy with h | h | h <;> exact h.ne RW.out.tys.1 (by decide)) (by rcases hy with h | h | h <;> exact h.ne RW.out.tys.2 (by decide))
    ·have:=tr.1
     rw [show (fun i=>if i=j then (tkc (fun i=>(tk i).drop (q i*G)) j j).take (0*G+0) else tkc (fun i=>(tk i).drop (q i*G)) j i)=fun i=>if i=j then ([]:List Tok) else tkc (fun i=>(tk i).drop (q i*G)) j i from funext fun i=>by split <;> simp,tkc_next] at this
     exact this
   case measure=>simp [intOf];omega
  ·have ej:j=ls.length*H:=by omega
   subst ej
   have x8:wr.cell? ⟨C,8,none⟩=some (.slice (some ⟨ct',0,none⟩) ls.length cc'):=hC.cell (show 8<9 by decide)
   have hclr:∀ ty,(Builtin.clear_ #[70] ty #[.slice (some ⟨ct',0,none⟩) ls.length cc']).run Tryz.prog wr=.ok (.tuple #[]) (wr.setCells ct' 0 (List.replicate ls.length (.int .i64 0))):=fun ty =>
    Lib.run_clear_slice wr 70 3 ty (.int .i64 0) Tryz.underlying70 (zero_int) rfl rfl ct' 0 ls.length cc' (by omega) (fun i hi=>by rw [Nat.zero_add,hct.cellAt i (by omega),List.getElem?_map,List.getElem?_eq_getElem (by rw [cn_length];exact hi)];rfl) (fun i hi=>hct.frozenAt _)
   have HCT:=Ca.hid (And.intro hct (ty_own hct rfl:Ty wr ct' 3))
   clear hC hct hpb hF hdis hrow y7
   go_wp2
   go_end0
   have ho:=own_setAll (.int .i64 0) ls.length 0 wr _ HCT.out.1
   rw [setAll_cn] at ho
   have fin:=HJ.out.counts (b:=b) GJ.out.fresh c0 (below_cells (Nat.zero_le _) _ 0 wr wr (Below.refl _ _)) (fun y hy hn=>block_cells hn _ _ _) ho (cn_length _ _ _)
   refine ⟨rfl,PJ.out.stand fun y hy=>block_cells ?_ _ _ _,fin.1.congr fun r hr=>⟨rfl,?_,rfl⟩,GJ.out.trans fin.2⟩
   ·rcases hy with h | h | h <;> exact h.ne HCT.out.2 (by decide)
   ·unfold tkc;rw [if_pos hr]
end Cc
end Go.Proofs.YtnchnlgnnlgjcaaGreat
