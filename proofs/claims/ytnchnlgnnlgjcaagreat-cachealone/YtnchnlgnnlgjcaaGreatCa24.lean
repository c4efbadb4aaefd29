import Derived.Test.YtnchnlgnnlgjcaaGreatCa23
import Derived.Test.YtnchnlgnnlgjcaaGreatCa21
set_option linter.unusedVariables false
set_option linter.unusedSimpArgs false
namespace Go.Proofs.YtnchnlgnnlgjcaaGreat
open Go.RowKit
namespace Cc
theorem need_c (C g H D G W:Nat) (ls:List (Int × Int)) (t k x:Nat) (q:Bool) (w:World) (h:Bd w C g H D G W ls t k) (hk:k<ls.length) (hl:ls.length<=4) (hH:H<=4) (hG:1<=G) (hG2:G<=16) (hW:W<=64) (ht:t<=1000) (hq:decide (gn G W t<gn G W (t+1))=q) (hx:(if q=true then ls.length*H else 0)=x) :
 Calls Tryz.prog 33 #[.pointer (some ⟨C,0,none⟩)] w fun e w'=>e=.returned (.int .i64 (x:Int))/\Below w.heap.size w w':=by
 have HB:Hid (Bd w C g H D G W ls t k):=h
 have DU:Hid (Calls Tryz.prog 58 #[.pointer (some ⟨C,0,none⟩)] w fun e w'=>e=.returned (.bool q)/\Below w.heap.size w w'):=due_c C g H D G W ls t k q w h hk hl hG hG2 hW ht hq
 clear h hq
 cases q with
 | false =>
   rw [if_neg (by decide)] at hx
   subst hx
   go_enter Tryz.func33,Tryz.ntmps33
   go_wp2_with (go_at_call 58;refine DU.out.mono ?_;rintro e w1 ⟨rfl,hb⟩;have B1:Hid (Below w.heap.size w w1):=hb;clear hb)
   go_ret
   exact ⟨rfl,B1.out⟩
 | true =>
   rw [if_pos rfl] at hx
   have hm:ls.length*H<=16:=Nat.le_trans (Nat.mul_le_mul hl hH) (by decide)
   have e1:IntKind.i64.wrap ((ls.length:Int)*H)=(x:Int):=by rw [<-Int.natCast_mul,hx,IntKind.wrap_i64];omega
   clear hx hm
   go_enter Tryz.func33,Tryz.ntmps33
   go_wp2_with (go_at_call 58;refine DU.out.mono ?_;rintro e w1 ⟨rfl,hb⟩;obtain ⟨al,cl,T,pb,m,pc,ct,cc,-,c1,-,-,-,-,-,-,c8,hlt,-⟩:=(HB.out.keep hb).cells;have B1:Hid (Below w.heap.size w w1):=hb;clear hb)
   go_quiet (fail)
   go_wp2
   go_ret
   exact ⟨rfl,Rt.below_drewN B1.out _⟩
end Cc
end Go.Proofs.YtnchnlgnnlgjcaaGreat
namespace Go.Proofs.YtnchnlgnnlgjcaaGreat
open Go.RowKit
namespace Cc
def nc (n t k:Nat):List Int:=if k+1=n then cn n (t+1) 0 else cn n t (k+1)
def dn (q:Bool) (j:Nat):Nat:=if q=true then j else 0
def tkj (tk:Nat->List Tok) (tok:Tok) (H k j i:Nat):List Tok:=if i / H=k/\i % H<j then tk i ++ [tok] else tk i
def qj (q:Nat->Nat) (x H k j i:Nat):Nat:=if i / H=k/\i % H<j then x else q i
theorem row_is {H k j i:Nat} (h:j<H):i=k*H+j ↔ i / H=k/\i % H=j:=by
 constructor
 ·intro e;subst e;exact up_row k j H h
 ·rintro ⟨e1,e2⟩
  have:=Nat.div_add_mod i H
  rw [e1,e2,Nat.mul_comm] at this
  exact this.symm
theorem tkj_next (tk:Nat->List Tok) (tok:Tok) {H k j:Nat} (h:j<H):(fun i=>if i=k*H+j then tkj tk tok H k j (k*H+j) ++ [tok] else tkj tk tok H k j i)=tkj tk tok H k (j+1):=by
 funext i
 have hd:=up_row k j H h
 by_cases e:i=k*H+j
 ·rw [if_pos e]
  subst e
  unfold tkj
  rw [hd.1,hd.2,if_neg (by omega),if_pos (by omega)]
 ·rw [if_neg e]
  have ne:¬ (i / H=k/\i % H=j):=fun q=>e ((row_is h).2 q)
  unfold tkj
  by_cases e2:i / H=k/\i % H<j
  ·rw [if_pos e2,if_pos (by omega)]
  ·rw [if_neg e2,if_neg (by omega)]
theorem qj_next (q:Nat->Nat) (x:Nat) {H k j:Nat} (h:j<H):(fun i=>if i=k*H+j then x else qj q x H k j i)=qj q x H k (j+1):=by
 funext i
 have hd:=up_row k j H h
 by_cases e:i=k*H+j
 ·rw [if_pos e]
  subst e
  unfold qj
  rw [hd.1,hd.2,if_pos (by omega)]
 ·rw [if_neg e]
  have ne:¬ (i / H=k/\i % H=j):=fun q=>e ((row_is h).2 q)
  unfold qj
  by_cases e2:i / H=k/\i % H<j
  ·rw [if_pos e2,if_pos (by omega)]
  ·rw [if_neg e2,if_neg (by omega)]
theorem tkj_zero (tk:Nat->List Tok) (tok:Tok) (H k:Nat):tkj tk tok H k 0=tk:=by
 funext i;unfold tkj;rw [if_neg (by omega)]
theorem qj_zero (q:Nat->Nat) (x H k:Nat):qj q x H k 0=q:=by
 funext i;unfold qj;rw [if_neg (by omega)]
theorem fr_kat {col:Nat->Nat} {w w':World} {a:Option Addr} {c B:Nat} {l:List Int} (h:Fr B w a c l) (hb:Below w.heap.size w w') (hz:∀ x,B<=x->col x=0):KAt col w' (a,l.length,c) l :=
 ⟨rfl,h.1.carry (carry_num _) (fun x hx hq=>⟨hz x hq,hb.block x hx⟩) hb.size,h.2.1,by have:=h.2.2.1;have:=h.2.1;show l.length<=maxLen;omega,h.2.2.2⟩
theorem own_frozen {w:World} {base s n i:Nat} {t:TypeId} {v:Value} {xs:List Value} {ct:Nat} (h:w.ownsRow base t s v n xs) (e:v.ownBlock=some ct):w.frozen? ⟨ct,i,none⟩=false:=by
 rcases h.2 with ⟨e1,_⟩ | ⟨g,cap,cur,e1,_,hg,_⟩
 ·rw [e1] at e;cases e
 ·rw [e1] at e
  cases e
  have hr:w.rowIs g t cur.size (fun i=>cur[i]!):=⟨cur,hg,rfl,fun i hi=>by simp [hi]⟩
  exact hr.frozen i
theorem Fr.keep {w w':World} {B:Nat} {a:Option Addr} {c:Nat} {l:List Int} (h:Fr B w a c l) (hb:Below w.heap.size w w'):Fr B w' a c l:=⟨h.1.keep (carry_num _) hb,h.2⟩
theorem qj_same (q:Nat->Nat) (x:Nat) {H k j r:Nat} (h:j<H) (hr:k*H+j=r) (e:q r=x):qj q x H k j=qj q x H k (j+1):=by
 funext i
 unfold qj
 by_cases e1:i=r
 ·have hd:=up_row k j H h
  rw [hr] at hd
  subst e1
  rw [hd.1,hd.2,if_neg (by omega),if_pos (by omega)]
  exact e
 ·have ne:¬ (i / H=k/\i % H=j):=fun q=>e1 (((row_is h).2 q).trans hr)
  by_cases e2:i / H=k/\i % H<j
  ·rw [if_pos e2,if_pos (by omega)]
  ·rw [if_neg e2,if_neg (by omega)]
theorem tkj_all (tk:Nat->List Tok) (tok:Tok) {H k:Nat} (h:0<H):tkj tk tok H k H=fun i=>if i / H=k then tk i ++ [tok] else tk i:=by
 funext i
 unfold tkj
 have:=Nat.mod_lt i h
 by_cases e:i / H=k
 ·rw [if_pos ⟨e,this⟩,if_pos e]
 ·rw [if_neg (fun q=>e q.1),if_neg e]
theorem qj_all (q:Nat->Nat) (x:Nat) {H k:Nat} (h:0<H):qj q x H k H=fun i=>if i / H=k then x else q i:=by
 funext i
 unfold qj
 have:=Nat.mod_lt i h
 by_cases e:i / H=k
 ·rw [if_pos ⟨e,this⟩,if_pos e]
 ·rw [if_neg (fun q=>e q.1),if_neg e]
set_option maxRecDepth 100000 in
set_option maxHeartbeats 6400000 in
theorem put_ok_c (C c g b n H D G W:Nat) (ls:List (Int × Int)) (R M:List Int) (L:Nat->List Int) (t k:Nat) (tk:Nat->List Tok) (q:Nat->Nat) (col:Nat->Nat) (a1 a2:Option Addr) (k1 k2:Nat) (ks vs:List (List Int)) (q0:Bool) (w:World)
 (hp:PoolAt w g b n R M) (h:CaAt w col c g C H D G W ls M L (cn ls.length t k) tk q) (sh:ShOk H D G W ls) (hk:k<ls.length) (ht:t<=500) (hq:∀ r,r<ls.length*H->q r=gn G W (lv t k (r / H))/\(tk r).length=lv t k (r / H))
 (htk:∀ r,r<ls.length*H->∀ i (hi:i<(tk r).length),TokOk H D (tk r)[i]) (hks:SlQ (fun x=>¬ x=g/\¬ x=b/\¬ col x=c) 1 eRow w a1 ks) (hvs:SlQ (fun x=>¬ x=g/\¬ x=b/\¬ col x=c) 1 eRow w a2 vs) (fk:Ca.fit H D ks=true) (fv:Ca.fit H D vs=true) (hok:TokOk H D (ks,vs))
 (hdue:decide (gn G W t<gn G W (t+1))=q0) (hfree:q0=true->H<=Po.cnt R) (hL:∀ i,i<ls.length*H->∀ x,x ∈ L i->0<=x/\x<n/\0<Ls.nth R x.toNat) (hfr:∀ x,w.heap.size<=x->col x=0) (c0:¬ c=0) (cg:¬ col g=c/\¬ col g=0) (cb:¬ col b=c/\¬ col b=0) :
 Calls Tryz.prog 20 #[.pointer (some ⟨C,0,none⟩),.int .i64 (k:Int),.slice a1 ks.length k1,.slice a2 vs.length k2] w fun e w'=>e=.returned (.int .i64 0)/\∃ (R' M':List Int) (L':Nat->List Int) (col':Nat->Nat),PoolAt w' g b n R' M' /\
  CaAt w' col' c g C H D G W ls M' L' (nc ls.length t k) (tkj tk (ks,vs) H k H) (qj q (gn G W (t+1)) H k H)/\Chg c g b w w' col col'/\Flow n (ls.length*H) R M L R' M' L' (dn q0 H):=by
 have HB:Hid (Bd w C g H D G W ls t k):=h.bd
 have HC:Hid (CaAt w col c g C H D G W ls M L (cn ls.length t k) tk q):=h
 have HP:Hid (PoolAt w g b n R M):=hp
 have SH:Hid (ShOk H D G W ls):=sh
 obtain ⟨sH,sH2,sD,sD2,-⟩:=id sh
 obtain ⟨sG,sG2,sW,sl,sl2,-⟩:=sh.nums
 have HQ:Hid (∀ r,r<ls.length*H->q r=gn G W (lv t k (r / H))/\(tk r).length=lv t k (r / H)):=hq
 have HTK:Hid (∀ r,r<ls.length*H->∀ i (hi:i<(tk r).length),TokOk H D (tk r)[i]):=htk
 have KS:Hid (SlQ (fun x=>¬ x=g/\¬ x=b/\¬ col x=c) 1 eRow w a1 ks):=hks
 have VS:Hid (SlQ (fun x=>¬ x=g/\¬ x=b/\¬ col x=c) 1 eRow w a2 vs):=hvs
 have FK:Hid (Ca.fit H D ks=true/\Ca.fit H D vs=true):=⟨fk,fv⟩
 have OK:Hid (TokOk H D (ks,vs)):=hok
 have DU:Hid (decide (gn G W t<gn G W (t+1))=q0):=hdue
 have FREE:Hid (q0=true->H<=Po.cnt R):=hfree
 have HL:Hid (∀ i,i<ls.length*H->∀ x,x ∈ L i->0<=x/\x<n/\0<Ls.nth R x.toNat):=hL
 have HFR:Hid (∀ x,w.heap.size<=x->col x=0):=hfr
 have CG:Hid ((¬ col g=c/\¬ col g=0)/\¬ col b=c/\¬ col b=0):=⟨cg,cb⟩
 have lk:Hid (ks.length=H/\vs.length=H):=⟨hok.1,hok.2.1⟩
 have kl:ks.length<=4:=by have:=hok.1;have:ks.length=H:=this;omega
 have vl:vs.length<=4:=by have:=hok.2.1;have:vs.length=H:=this;omega
 have ht1024:((t:Int) == 1024)=false:=by simp;omega
 clear hp h hq htk hks hvs fk fv hok hdue hfree hL hfr cg cb sh
 go_enter Tryz.func20,Tryz.ntmps20
 go_upto_region 7 with (first
  | (go_at_call 26;refine (tokens_c C g H D G W ls t k _ HB.out hk sl2).mono ?_;rintro e w1 ⟨rfl,hx⟩;have B1:Hid (Below w.heap.size w w1):=(by obtain ⟨nq,rfl⟩:=hx;exact Rt.below_drewN (Below.refl _ _) _);clear hx)
  | (go_at_call 21;refine (next_c C g H D G W ls t k _ (HB.out.keep B1.out) hk sl2).mono ?_;rintro e w2 ⟨rfl,hx⟩;have B2:Hid (Below w.heap.size w w2):=(by obtain ⟨nq,rfl⟩:=hx;exact Rt.below_drewN B1.out _);clear hx)
  | (go_at_call_of 57 (a1);refine (fits_c C g H D G W ls t k a1 k1 ks _ (HB.out.keep B2.out) (KS.out.tbl.keep B2.out) (by omega) sH2 sD2).mono ?_;rintro e w' ⟨rfl,hww⟩;cases hww.symm;clear hww;rw [FK.out.1])
  | (go_at_call_of 57 (a2);refine (fits_c C g H D G W ls t k a2 k2 vs _ (HB.out.keep B2.out) (VS.out.tbl.keep B2.out) (by omega) sH2 sD2).mono ?_;rintro e w' ⟨rfl,hww⟩;cases hww.symm;clear hww;rw [FK.out.2]))
 go_cut [31] from 32 to 46 (fun v wx=>v=.bool false/\Hid (Below w.heap.size w wx))
 case first =>
  obtain ⟨al,cl,T,pb,m,pc,ct,cc,x0,x1,-,-,-,-,-,-,-,-,-⟩:=(HB.out.keep B2.out).cells
  have k0:=cell_regrown x0
  have k1:=cell_regrown x1
  obtain ⟨cf,ecf⟩:∃ cf,Po.cnt R=cf:=⟨_,rfl⟩
  have cD:=Tn.reg_of (u:=w2) fun v hv=>due_c C g H D G W ls t k q0 v ((HB.out.keep B2.out).keep hv) hk sl2 sG sG2 sW (by omega) DU.out
  have cF:=Tn.reg_of (u:=w2) fun v hv=>(free_any g b n cf R M v ((HP.out.keep B2.out).keep hv) ecf).mono fun _ _ ⟨h1,h2⟩=>⟨h1,by rw [h2];exact Below.refl _ _⟩
  have hf:q0=true->H<=cf:=fun e=>by rw [<-ecf];exact FREE.out e
  clear x0 x1 ecf
  cases q0 with
  | false =>
    clear hf
    refine wp_region_quiet_below (by kernel_rfl) (by kernel_rfl) ?_
    repeat (go_big_quiet_step (first | (with_reducible exact cD _ _) | (with_reducible exact cF _ _)))
    refine wpQuiet_nil ?_
    intro wq hw'
    have BQ:Hid (Below w.heap.size w wq):=by obtain ⟨⟨dq,osq⟩,hw''⟩:=hw';rw [hw''];exact B2.out.trans ((below_regrown w2 dq osq).mono B2.out.size)
    clear hw'
    go_wp2_with fail
    go_meet
    exact ⟨rfl,BQ.out⟩
  | true =>
    have hlt:decide ((cf:Int)<(H:Int))=false:=decide_eq_false (by have:=hf rfl;omega)
    have hlt2:decide (cf<H)=false:=decide_eq_false (by have:=hf rfl;omega)
    clear hf
    refine wp_region_quiet_below (by kernel_rfl) (by kernel_rfl) ?_
    repeat (go_big_quiet_step (first | (with_reducible exact cD _ _) | (with_reducible exact cF _ _)))
    refine wpQuiet_nil ?_
    intro wq hw'
    have BQ:Hid (Below w.heap.size w wq):=by obtain ⟨⟨dq,osq⟩,hw''⟩:=hw';rw [hw''];exact B2.out.trans ((below_regrown w2 dq osq).mono B2.out.size)
    clear hw'
    go_wp2_with fail
    go_meet
    exact ⟨hlt2 ▸ rfl,BQ.out⟩
 case rest =>
  obtain ⟨rfl,BW⟩:=hcut
  obtain ⟨al,cl,T,pb,m,pc,ct,cc,-,x1,-,-,-,-,-,-,-,-,-⟩:=(HB.out.keep BW.out).cells
  clear B1 B2
  go_wp2
  clear x1
  go_loopw [52] (fun i wq=>∃ (j:Nat) (colj:Nat->Nat) (Rj Mj:List Int) (Lj:Nat->List Int),j<=H/\i=.int .i64 j/\Hid (PoolAt wq g b n Rj Mj)/\Hid (CaAt wq colj c g C H D G W ls Mj Lj (cn ls.length t k) (tkj tk (ks,vs) H k j) (qj q (gn G W (t+1)) H k j)) /\
   Hid (Chg c g b w wq col colj)/\Hid (Flow n (ls.length*H) R M L Rj Mj Lj (dn q0 j))) (fun i _=>H - (intOf i).toNat)
  case atStart =>
   refine ⟨0,col,R,M,L,Nat.zero_le _,rfl,HP.out.keep BW.out,?_,Chg.below BW.out HFR.out,?_⟩
   ·rw [tkj_zero,qj_zero];exact HC.out.below BW.out
   ·rw [show dn q0 0=0 by unfold dn;split <;> rfl];exact Flow.refl HP.out.nums.2.1 HP.out.nums.2.2.1 HL.out
  case round =>
   obtain ⟨j,colj,Rj,Mj,Lj,hj,rfl,PJ,CJ,GJ,FJ⟩:=hrel
   by_cases hlt:j<H
   ·obtain ⟨r,er⟩:∃ r,k*H+j=r:=⟨_,rfl⟩
    have rlt:r<ls.length*H:=by
     have h1:(k+1)*H<=ls.length*H:=Nat.mul_le_mul_right H (by omega)
     rw [Nat.add_mul] at h1
     omega
    have hdv:r / H=k/\r % H=j:=by rw [<-er];exact up_row k j H hlt
    have el:lv t k k=t:=by unfold lv;rw [if_neg (by omega)]
    have eq0:q r=gn G W t:=by rw [(HQ.out r rlt).1,hdv.1,el]
    have eq1:qj q (gn G W (t+1)) H k j r=gn G W t:=by unfold qj;rw [hdv.2,if_neg (by omega)];exact eq0
    have et0:tkj tk (ks,vs) H k j r=tk r:=by unfold tkj;rw [hdv.2,if_neg (by omega)]
    have et1:(tk r).length=t:=by rw [(HQ.out r rlt).2,hdv.1,el]
    obtain ⟨al,cl,T,pb,pc,ct,cc,rg,rs,F,hin⟩:=CJ.out.in
    have HI:=Ca.hid hin
    obtain ⟨⟨hC,zC⟩,-,-,-,⟨hpb,hF,hpc,zp⟩,hdis,hrow⟩:=hin
    obtain ⟨_,_,_,f,l,hring,hll,htv,crg,crs⟩:=hrow r rlt
    have LT:=Ca.hid (And.intro hll htv)
    have lcap:l.length<W+G:=by
     rw [eq1,et0,et1] at hll
     have:=gn_lt (G:=G) (W:=W) (t:=t) sG
     omega
    have RW:Hid (Rt.RingAt wr (rg r) (rs r) (W+G) f l):=hring
    have CR:Hid (colj (rg r)=c/\colj (rs r)=c):=⟨crg,crs⟩
    have hz:∀ x,x<w.heap.size->(¬ x=g/\¬ x=b/\¬ col x=c)->¬ colj x=c/\wr.heap[x]?=w.heap[x]?:=fun x hx h0=>⟨by rw [GJ.out.2.1 x hx];exact h0.2.2,GJ.out.1.block hx h0.1 h0.2.1 (fun e=>h0.2.2 e)⟩
    obtain ⟨b1,o1,rfl,q1,bl1,r1⟩:=(KS.out.carry (Q':=fun x=>¬ colj x=c) carry_row hz GJ.out.size).cells (show 0<ks.length by have:=lk.out.1;omega)
    obtain ⟨b2,o2,rfl,q2,bl2,r2⟩:=(VS.out.carry (Q':=fun x=>¬ colj x=c) carry_row hz GJ.out.size).cells (show 0<vs.length by have:=lk.out.2;omega)
    obtain ⟨A1,D1,kc1,-,-,-,s1⟩:=r1 j (by have:=lk.out.1;omega)
    obtain ⟨A2,D2,kc2,-,-,-,s2⟩:=r2 j (by have:=lk.out.2;omega)
    have S1:Hid (SlQ (fun x=>¬ colj x=c) 1 (eNum .i32) wr A1 (Ca.nt ks j)):=s1
    have S2:Hid (SlQ (fun x=>¬ colj x=c) 1 (eNum .i32) wr A2 (Ca.nt vs j)):=s2
    have lD:(Ca.nt ks j).length=D/\(Ca.nt vs j).length=D:=⟨(OK.out.2.2 j hlt).1,(OK.out.2.2 j hlt).2.1⟩
    have LD:=Ca.hid lD
    have hp1:0<(Ca.nt ks j).length:=by rw [lD.1];omega
    have hp2:0<(Ca.nt vs j).length:=by rw [lD.2];omega
    have hq1:(Ca.nt ks j).length<=1000:=by rw [lD.1];omega
    have hq2:(Ca.nt vs j).length<=1000:=by rw [lD.2];omega
    have KU:Hid (∀ w',Rt.But (rg r) (rs r) wr w'->(w'.cell? ⟨C,7,none⟩=some (.slice (some ⟨pb,0,none⟩) (ls.length*H) pc)/\w'.cell? ⟨pb,r,none⟩=some (.pointer (some ⟨rg r,0,none⟩))/\w'.cell? ⟨b1,o1+j,none⟩=some (.slice A1 (Ca.nt ks j).length D1)/\w'.cell? ⟨b2,o2+j,none⟩=some (.slice A2 (Ca.nt vs j).length D2))/\Hid (Rt.But (rg r) (rs r) wr w')):=fun w' hb=>by
     have far:∀ x v o,¬ colj x=c->wr.cell? ⟨x,o,none⟩=some v->w'.cell? ⟨x,o,none⟩=some v:=fun x v o hc hv=>by
      rw [hb.cell (a:=⟨x,o,none⟩) (World.block_lt_of_cell? wr _ hv) (fun e=>hc (by have e:x=rg r:=e;rw [e];exact CR.out.1)) (fun e=>hc (by have e:x=rs r:=e;rw [e];exact CR.out.2))]
      exact hv
     exact ⟨⟨far C _ 7 (fun e=>c0 (by rw [<-e];exact zC)) (hC.cell (show 7<9 by decide)),far pb _ r (fun e=>c0 (by rw [<-e];exact zp)) (by rw [hpb.cell (show r<pc by omega),hF r rlt]),far b1 _ _ q1 kc1,far b2 _ _ q2 kc2⟩,hb⟩
    have DV:=Ca.hid hdv
    have EQ:=Ca.hid (And.intro eq0 (And.intro eq1 (And.intro et0 et1)))
    have FRJ:Hid (∀ x,wr.heap.size<=x->colj x=0):=GJ.out.fresh
    have hCl:C<wr.heap.size:=hC.lt
    have e0:(0:Int)<=(r:Int):=by omega
    have e1:(r:Int)<(ls.length:Int)*(H:Int):=by rw [<-Int.natCast_mul];omega
    have e2:(0:Int)<=(j:Int):=by omega
    have e3:(j:Int)<(ks.length:Int):=by rw [lk.out.1];omega
    have e4:(j:Int)<(vs.length:Int):=by rw [lk.out.2];omega
    clear hC hpb hF hpc hdis hrow hring hll htv crg crs kc1 kc2 s1 s2 r1 r2 q1 q2 zC zp hz lD eq0 eq1 et0 et1 hdv el
    go_upto_region 13 with (go_at_call 59;refine (row_c C g H D G W ls t k k j r _ CJ.out.bd er (by omega) (by omega) (by omega)).mono ?_;rintro e w' ⟨rfl,hww⟩;cases hww.symm;clear hww)
    go_cut [] from 59 to 77 (fun wx=>Hid (CaAt wx colj c g C H D G W ls Mj Lj (cn ls.length t k) (fun i=>if i=r then tkj tk (ks,vs) H k j r ++ [(ks,vs)] else tkj tk (ks,vs) H k j i) (qj q (gn G W (t+1)) H k j))/\Hid (Chg c g b wr wx colj colj)/\Hid (PoolAt wx g b n Rj Mj))
    case first =>
     go_region_held3 (fun w'=>(w'.cell? ⟨C,7,none⟩=some (.slice (some ⟨pb,0,none⟩) (ls.length*H) pc)/\w'.cell? ⟨pb,r,none⟩=some (.pointer (some ⟨rg r,0,none⟩))/\w'.cell? ⟨b1,o1+j,none⟩=some (.slice A1 (Ca.nt ks j).length D1)/\w'.cell? ⟨b2,o2+j,none⟩=some (.slice A2 (Ca.nt vs j).length D2))/\Hid (Rt.But (rg r) (rs r) wr w'))
      (first
        | assumption
        | exact KU.out _ (Rt.But.of_below (Below.refl _ _).drew)
        | exact KU.out _ (Rt.But.of_below BKV.out)
        | exact KU.out _ (Rt.But.of_below BVK.out)
        | exact KU.out _ (Rt.But.of_below BK.out)
        | exact KU.out _ (Rt.But.of_below BV.out)
        | exact KU.out _ BTP.out)
      (first
        | (go_at_call_of 61 (A1);(with_reducible refine (clone32_any A1 D1 (Ca.nt ks j) wr.drew (S1.out.keep (carry_num _) (Below.refl _ _).drew) hp1 hq1).mono ?_);rintro e wk ⟨xa,xc,rfl,fr,hb⟩;have BK:Hid (Below wr.heap.size wr wk):=(Below.refl _ _).drew.trans hb;have FK1:Hid (Fr wr.heap.size wk xa xc (Ca.nt ks j)):=fr;clear fr hb)
        | (go_at_call_of 61 (A2);(with_reducible refine (clone32_any A2 D2 (Ca.nt vs j) wk (S2.out.keep (carry_num _) BK.out) hp2 hq2).mono ?_);rintro e wkv ⟨ya,yc,rfl,fr,hb⟩;have BKV:Hid (Below wr.heap.size wr wkv):=BK.out.trans (hb.mono BK.out.size);have FK2:Hid (Fr wr.heap.size wkv xa xc (Ca.nt ks j)):=Fr.keep FK1.out hb;have FV2:Hid (Fr wr.heap.size wkv ya yc (Ca.nt vs j)):=fr.mono BK.out.size;clear fr hb)
        | (go_at_call_of 61 (A2);(with_reducible refine (clone32_any A2 D2 (Ca.nt vs j) wr.drew (S2.out.keep (carry_num _) (Below.refl _ _).drew) hp2 hq2).mono ?_);rintro e wv ⟨ya,yc,rfl,fr,hb⟩;have BV:Hid (Below wr.heap.size wr wv):=(Below.refl _ _).drew.trans hb;have FV1:Hid (Fr wr.heap.size wv ya yc (Ca.nt vs j)):=fr;clear fr hb)
        | (go_at_call_of 61 (A1);(with_reducible refine (clone32_any A1 D1 (Ca.nt ks j) wv (S1.out.keep (carry_num _) BV.out) hp1 hq1).mono ?_);rintro e wvk ⟨xa,xc,rfl,fr,hb⟩;have BVK:Hid (Below wr.heap.size wr wvk):=BV.out.trans (hb.mono BV.out.size);have FV2:Hid (Fr wr.heap.size wvk ya yc (Ca.nt vs j)):=Fr.keep FV1.out hb;have FK2:Hid (Fr wr.heap.size wvk xa xc (Ca.nt ks j)):=fr.mono BV.out.size;clear fr hb)
        | (go_at_call 60;(with_reducible refine (Rt.push_ok (rg r) (rs r) (W+G) f ((xa,(Ca.nt ks j).length,xc),(ya,(Ca.nt vs j).length,yc)) l wkv (RW.out.keep BKV.out) lcap).mono ?_);rintro e wp ⟨rfl,hri,hbt⟩;have BTP:Hid (Rt.But (rg r) (rs r) wr wp):=(Rt.But.of_below BKV.out).trans hbt;have PU:Hid (CaAt wp colj c g C H D G W ls Mj Lj (cn ls.length t k) (fun i=>if i=r then tkj tk (ks,vs) H k j r ++ [(ks,vs)] else tkj tk (ks,vs) H k j i) (qj q (gn G W (t+1)) H k j)/\Chg c g b wr wp colj colj):=(HI.out.push FRJ.out c0 rlt LT.out.1 LT.out.2 BKV.out hbt hri ⟨(by rw [DV.out.2];exact fr_kat FK2.out (Below.refl _ _) FRJ.out),(by rw [DV.out.2];exact fr_kat FV2.out (Below.refl _ _) FRJ.out)⟩);clear hri hbt)
        | (go_at_call 60;(with_reducible refine (Rt.push_ok (rg r) (rs r) (W+G) f ((xa,(Ca.nt ks j).length,xc),(ya,(Ca.nt vs j).length,yc)) l wvk (RW.out.keep BVK.out) lcap).mono ?_);rintro e wp ⟨rfl,hri,hbt⟩;have BTP:Hid (Rt.But (rg r) (rs r) wr wp):=(Rt.But.of_below BVK.out).trans hbt;have PU:Hid (CaAt wp colj c g C H D G W ls Mj Lj (cn ls.length t k) (fun i=>if i=r then tkj tk (ks,vs) H k j r ++ [(ks,vs)] else tkj tk (ks,vs) H k j i) (qj q (gn G W (t+1)) H k j)/\Chg c g b wr wp colj colj):=(HI.out.push FRJ.out c0 rlt LT.out.1 LT.out.2 BVK.out hbt hri ⟨(by rw [DV.out.2];exact fr_kat FK2.out (Below.refl _ _) FRJ.out),(by rw [DV.out.2];exact fr_kat FV2.out (Below.refl _ _) FRJ.out)⟩);clear hri hbt))
     all_goals (go_wp2_with fail)
     all_goals go_meet
     all_goals exact ⟨PU.out.1,PU.out.2,PJ.out.stand fun y hy=>BTP.out.2 y (by rcases hy with h | h | h <;> exact h.lt) (by rcases hy with h | h | h <;> exact h.ne RW.out.tys.1 (by decide)) (by rcases hy with h | h | h <;> exact h.ne RW.out.tys.2 (by decide))⟩
    case rest =>
     obtain ⟨CP,GP,PP⟩:=hcut
     have GPJ:Hid (Chg c g b w wc col colj):=GJ.out.trans GP.out
     have FRC:Hid (∀ x,wc.heap.size<=x->colj x=0):=GP.out.fresh
     have lgb:g<w.heap.size/\b<w.heap.size:=HP.out.lt
     have CGJ:Hid ((¬ colj g=c/\¬ colj g=0)/\¬ colj b=c/\¬ colj b=0):=by rw [GJ.out.2.1 g lgb.1,GJ.out.2.1 b lgb.2];exact CG.out
     cases q0 with
     | false =>
       have same:gn G W (t+1)=gn G W t:=by
        have:=of_decide_eq_false DU.out
        rcases gn_succ (W:=W) (t:=t) sG with e | e <;> omega
       have SM:=Ca.hid same
       clear same
       go_wp2_with (go_at_call 58;refine (due_c C g H D G W ls t k false _ CP.out.bd hk sl2 sG sG2 sW (by omega) DU.out).mono ?_;rintro e wd ⟨rfl,hb⟩;have BD:Hid (Below wc.heap.size wc wd):=hb;clear hb)
       go_roundw
       case rel =>
        refine ⟨j+1,colj,Rj,Mj,Lj,by omega,by go_num,PP.out.keep BD.out,?_,GPJ.out.trans (Chg.below BD.out FRC.out),FJ.out⟩
        have:=CP.out.below BD.out
        subst er
        rw [tkj_next tk (ks,vs) hlt,qj_same q _ hlt rfl (by rw [EQ.out.1,SM.out])] at this
        exact this
       case measure=>simp [intOf];omega
     | true =>
       have next:gn G W (t+1)=gn G W t+1:=by
        have:=of_decide_eq_true DU.out
        rcases gn_succ (W:=W) (t:=t) sG with e | e <;> omega
       have NX:=Ca.hid next
       have hG1:gn G W (t+1)*G<=t+1:=gn_mul sG
       have hG2:gn G W t<=1000:=by
        have:=gn_mul (G:=G) (W:=W) (t:=t) sG
        have:=Nat.le_mul_of_pos_right (gn G W t) (show 0<G by omega)
        omega
       rw [next,Nat.add_mul,Nat.one_mul] at hG1
       have tr:tkj tk (ks,vs) H k j r ++ [(ks,vs)]=tk r ++ [(ks,vs)]:=by rw [EQ.out.2.2.1]
       have trl:(tk r ++ [(ks,vs)]).length=t+1:=by rw [List.length_append,EQ.out.2.2.2];rfl
       have hfj:0<Po.cnt Rj:=by
        have h1:=FJ.out.2.2.1
        have h2:=FREE.out rfl
        unfold dn at h1
        rw [if_pos rfl] at h1
        omega
       have htok:∀ i (hi:i<(tk r ++ [(ks,vs)]).length),TokOk H D (tk r ++ [(ks,vs)])[i]:=fun i hi=>by
        by_cases e:i<(tk r).length
        ·rw [List.getElem_append_left e];exact HTK.out r rlt i e
        ·have hi2:i=(tk r).length:=by rw [List.length_append] at hi;have:[(ks,vs)].length=1:=rfl;omega
         subst hi2
         rw [List.getElem_append_right (Nat.le_refl _)]
         simp only [Nat.sub_self,List.getElem_cons_zero]
         exact OK.out
       have QC:Hid (∀ wd,Below wc.heap.size wc wd->Calls Tryz.prog 62 #[.pointer (some ⟨C,0,none⟩),.int .i64 (k:Int),.int .i64 (j:Int)] wd fun e w'=>e=.returned (.tuple #[])/\∃ (kf p:Nat) (col':Nat->Nat),kf<n/\Ls.nth Rj kf=0/\PoolAt w' g b n (Rj.set kf 1) (Mj.set kf (p:Int)) /\
        CaAt w' col' c g C H D G W ls (Mj.set kf (p:Int)) (Bk.up Lj r (Lj r ++ [(kf:Int)])) (cn ls.length t k) (tkj tk (ks,vs) H k (j+1)) (qj q (gn G W (t+1)) H k (j+1))/\Chg c g b wd w' colj col'):=fun wd hb=>by
        have hh:=quantize_c C c g b n 0 H D G W k j r (gn G W t) ls Rj Mj Lj t k (fun i=>if i=r then tkj tk (ks,vs) H k j r ++ [(ks,vs)] else tkj tk (ks,vs) H k j i) (qj q (gn G W (t+1)) H k j) colj wd (PP.out.keep hb) (CP.out.below hb) SH.out hk hlt er EQ.out.2.1
         (by rw [if_pos rfl,tr,trl];omega) hG2 (by rw [if_pos rfl,tr,trl];omega) (by rw [if_pos rfl,tr];exact htok) hfj FJ.out.2.2.2.2.1 (fun x hx=>FRC.out x (by have:=hb.size;omega)) c0 CGJ.out.1 CGJ.out.2
        refine hh.mono ?_
        rintro e w' ⟨rfl,kf,p,col',h1,h2,h3,h4,h5⟩
        refine ⟨rfl,kf,p,col',h1,h2,h3,?_,h5⟩
        subst er
        rw [tkj_next tk (ks,vs) hlt] at h4
        rw [<-NX.out,qj_next q _ hlt] at h4
        exact h4
       clear hG1 hG2 tr trl hfj htok next
       go_wp2_with (first
        | (go_at_call 58;refine (due_c C g H D G W ls t k true _ CP.out.bd hk sl2 sG sG2 sW (by omega) DU.out).mono ?_;rintro e wd ⟨rfl,hb⟩;have BD:Hid (Below wc.heap.size wc wd):=hb;clear hb)
        | (go_at_call 62;refine (QC.out _ BD.out).mono ?_;rintro e we ⟨rfl,kf,p,col',h1,h2,h3,h4,h5⟩;have K1:=Ca.hid (And.intro h1 h2);have K3:=Ca.hid h3;have K4:=Ca.hid h4;have K5:=Ca.hid h5;clear h1 h2 h3 h4 h5))
       go_roundw
       case rel =>
        refine ⟨j+1,col',Rj.set kf 1,Mj.set kf (p:Int),Bk.up Lj r (Lj r ++ [(kf:Int)]),by omega,by go_num,K3.out,K4.out,(GPJ.out.trans (Chg.below BD.out FRC.out)).trans K5.out,?_⟩
        have:=FJ.out.step (fun i=>HP.out.nums.2.2.2.2 i) K1.out.1 K1.out.2 rlt (p:Int)
        exact this
       case measure=>simp [intOf];omega
   ·have ej:j=H:=by omega
    subst ej
    obtain ⟨al,cl,T,pb,pc,ct,cc,rg,rs,F,hin⟩:=CJ.out.in
    have HI:=Ca.hid hin
    obtain ⟨⟨hC,zC⟩,-,-,⟨hc,hcl,zc⟩,-⟩:=hin
    have x8:wr.cell? ⟨C,8,none⟩=some (.slice (some ⟨ct,0,none⟩) ls.length cc):=hC.cell (show 8<9 by decide)
    have xk:wr.cell? ⟨ct,k,none⟩=some (.int .i64 (t:Int)):=by
     obtain ⟨bd1,bd2,bd3,bd4,bd5,bd6,bd7,bd8,-,-,-,-,-,-,-,-,y8,-,hcs⟩:=CJ.out.bd.cells
     have:=hcs k hk
     rw [y8] at x8
     cases x8
     rw [show lv t k k=t by unfold lv;rw [if_neg (by omega)]] at this
     exact this
    have xf:wr.frozen? ⟨ct,k,none⟩=false:=own_frozen hc rfl
    have TC:Hid (Ty wr ct 3):=ty_own hc rfl
    have hk':(k:Int)<(ls.length:Int):=by omega
    clear hC hc
    go_wp2
    go_ret
    have fin:=HI.out.count (b:=b) GJ.out.fresh c0 k ((t:Int)+1)
    rw [cn_set hk,show (if k+1=ls.length then cn ls.length (t+1) 0 else cn ls.length t (k+1))=nc ls.length t k from rfl] at fin
    exact ⟨rfl,Rj,Mj,Lj,colj,PJ.out.far TC.out (by decide) (by decide) (by decide) _ _,fin.1,GJ.out.trans fin.2,FJ.out⟩
end Cc
end Go.Proofs.YtnchnlgnnlgjcaaGreat
namespace Go.Proofs.YtnchnlgnnlgjcaaGreat
open Go.RowKit
namespace Cc
theorem put_open_c (C g H D G W:Nat) (ls:List (Int × Int)) (t k:Nat) (ly:Int) (v1 v2:Value) (w:World) (h:Bd w C g H D G W ls t k) (hk:k<ls.length) (hl:ls.length<=4) (ht:t<=500) (hly:¬ ly=k) :
 Calls Tryz.prog 20 #[.pointer (some ⟨C,0,none⟩),.int .i64 ly,v1,v2] w fun e w'=>e=.returned (.int .i64 24)/\Below w.heap.size w w':=by
 have HB:Hid (Bd w C g H D G W ls t k):=h
 have ht1024:((t:Int) == 1024)=false:=by simp;omega
 have hn:(ly != (k:Int))=true:=by simpa using hly
 clear h hly
 go_enter Tryz.func20,Tryz.ntmps20
 go_wp2_with (first
  | (go_at_call 26;refine (tokens_c C g H D G W ls t k _ HB.out hk hl).mono ?_;rintro e w1 ⟨rfl,hx⟩;have B1:Hid (Below w.heap.size w w1):=(by obtain ⟨nq,rfl⟩:=hx;exact Rt.below_drewN (Below.refl _ _) _);clear hx)
  | (go_at_call 21;refine (next_c C g H D G W ls t k _ (HB.out.keep B1.out) hk hl).mono ?_;rintro e w2 ⟨rfl,hx⟩;have B2:Hid (Below w.heap.size w w2):=(by obtain ⟨nq,rfl⟩:=hx;exact Rt.below_drewN B1.out _);clear hx))
 go_ret
 exact ⟨rfl,B2.out⟩
theorem put_shape_c (C g H D G W:Nat) (ls:List (Int × Int)) (t k:Nat) (a1 a2:Option Addr) (k1 k2:Nat) (ks vs:List (List Int)) (w:World) (h:Bd w C g H D G W ls t k) (hk:k<ls.length) (hl:ls.length<=4) (hH:H<=4) (hD:D<=16) (ht:t<=500)
 (hks:Tbl w a1 ks) (hvs:Tbl w a2 vs) (kl:ks.length<=1000) (vl:vs.length<=1000) (hf:(Ca.fit H D ks && Ca.fit H D vs)=false) :
 Calls Tryz.prog 20 #[.pointer (some ⟨C,0,none⟩),.int .i64 (k:Int),.slice a1 ks.length k1,.slice a2 vs.length k2] w fun e w'=>e=.returned (.int .i64 25)/\Below w.heap.size w w':=by
 have HB:Hid (Bd w C g H D G W ls t k):=h
 have ht1024:((t:Int) == 1024)=false:=by simp;omega
 have KT:Hid (Tbl w a1 ks):=hks
 have VT:Hid (Tbl w a2 vs):=hvs
 clear h hks hvs
 obtain ⟨q1,e1⟩:∃ q,Ca.fit H D ks=q:=⟨_,rfl⟩
 obtain ⟨q2,e2⟩:∃ q,Ca.fit H D vs=q:=⟨_,rfl⟩
 rw [e1,e2] at hf
 have E1:=Ca.hid e1
 have E2:=Ca.hid e2
 clear e1 e2
 cases q1 with
 | false =>
   clear hf
   go_enter Tryz.func20,Tryz.ntmps20
   go_wp2_with (first
    | (go_at_call 26;refine (tokens_c C g H D G W ls t k _ HB.out hk hl).mono ?_;rintro e w1 ⟨rfl,hx⟩;have B1:Hid (Below w.heap.size w w1):=(by obtain ⟨nq,rfl⟩:=hx;exact Rt.below_drewN (Below.refl _ _) _);clear hx)
    | (go_at_call 21;refine (next_c C g H D G W ls t k _ (HB.out.keep B1.out) hk hl).mono ?_;rintro e w2 ⟨rfl,hx⟩;have B2:Hid (Below w.heap.size w w2):=(by obtain ⟨nq,rfl⟩:=hx;exact Rt.below_drewN B1.out _);clear hx)
    | (go_at_call_of 57 (a1);refine (fits_c C g H D G W ls t k a1 k1 ks _ (HB.out.keep B2.out) (KT.out.keep B2.out) (by omega) hH hD).mono ?_;rintro e w' ⟨rfl,hww⟩;cases hww.symm;clear hww;rw [E1.out]))
   go_ret
   exact ⟨rfl,B2.out⟩
 | true =>
   have e:q2=false:=by simpa using hf
   subst e
   clear hf
   go_enter Tryz.func20,Tryz.ntmps20
   go_wp2_with (first
    | (go_at_call 26;refine (tokens_c C g H D G W ls t k _ HB.out hk hl).mono ?_;rintro e w1 ⟨rfl,hx⟩;have B1:Hid (Below w.heap.size w w1):=(by obtain ⟨nq,rfl⟩:=hx;exact Rt.below_drewN (Below.refl _ _) _);clear hx)
    | (go_at_call 21;refine (next_c C g H D G W ls t k _ (HB.out.keep B1.out) hk hl).mono ?_;rintro e w2 ⟨rfl,hx⟩;have B2:Hid (Below w.heap.size w w2):=(by obtain ⟨nq,rfl⟩:=hx;exact Rt.below_drewN B1.out _);clear hx)
    | (go_at_call_of 57 (k1);refine (fits_c C g H D G W ls t k a1 k1 ks _ (HB.out.keep B2.out) (KT.out.keep B2.out) (by omega) hH hD).mono ?_;rintro e w' ⟨rfl,hww⟩;cases hww.symm;clear hww;rw [E1.out])
    | (go_at_call_of 57 (k2);refine (fits_c C g H D G W ls t k a2 k2 vs _ (HB.out.keep B2.out) (VT.out.keep B2.out) (by omega) hH hD).mono ?_;rintro e w' ⟨rfl,hww⟩;cases hww.symm;clear hww;rw [E2.out]))
   go_ret
   exact ⟨rfl,B2.out⟩
set_option maxHeartbeats 800000 in
theorem put_full_c (C g b n H D G W:Nat) (ls:List (Int × Int)) (R M:List Int) (t k:Nat) (a1 a2:Option Addr) (k1 k2:Nat) (ks vs:List (List Int)) (w:World) (hp:PoolAt w g b n R M) (h:Bd w C g H D G W ls t k) (hk:k<ls.length) (hl:ls.length<=4) (hH:H<=4) (hD:D<=16) (hG:1<=G) (hG2:G<=16) (hW:W<=64) (ht:t<=500)
 (hks:Tbl w a1 ks) (hvs:Tbl w a2 vs) (kl:ks.length<=1000) (vl:vs.length<=1000) (f1:Ca.fit H D ks=true) (f2:Ca.fit H D vs=true) (hdue:gn G W t<gn G W (t+1)) (hfree:Po.cnt R<H) :
 Calls Tryz.prog 20 #[.pointer (some ⟨C,0,none⟩),.int .i64 (k:Int),.slice a1 ks.length k1,.slice a2 vs.length k2] w fun e w'=>e=.returned (.int .i64 23)/\Below w.heap.size w w':=by
 have HB:Hid (Bd w C g H D G W ls t k):=h
 have HP:Hid (PoolAt w g b n R M):=hp
 have ht1024:((t:Int) == 1024)=false:=by simp;omega
 have KT:Hid (Tbl w a1 ks):=hks
 have VT:Hid (Tbl w a2 vs):=hvs
 have E1:=Ca.hid f1
 have E2:=Ca.hid f2
 have DU:Hid (decide (gn G W t<gn G W (t+1))=true):=decide_eq_true hdue
 obtain ⟨cf,ecf⟩:∃ cf,Po.cnt R=cf:=⟨_,rfl⟩
 have ECF:=Ca.hid ecf
 have hlt:decide ((cf:Int)<(H:Int))=true:=decide_eq_true (by omega)
 have hlt2:decide (cf<H)=true:=decide_eq_true (by omega)
 have hlt3:cf<H:=by omega
 clear hp h hks hvs f1 f2 hdue hfree ecf
 go_enter Tryz.func20,Tryz.ntmps20
 go_upto_region 7 with (first
  | (go_at_call 26;refine (tokens_c C g H D G W ls t k _ HB.out hk hl).mono ?_;rintro e w1 ⟨rfl,hx⟩;have B1:Hid (Below w.heap.size w w1):=(by obtain ⟨nq,rfl⟩:=hx;exact Rt.below_drewN (Below.refl _ _) _);clear hx)
  | (go_at_call 21;refine (next_c C g H D G W ls t k _ (HB.out.keep B1.out) hk hl).mono ?_;rintro e w2 ⟨rfl,hx⟩;have B2:Hid (Below w.heap.size w w2):=(by obtain ⟨nq,rfl⟩:=hx;exact Rt.below_drewN B1.out _);clear hx)
  | (go_at_call_of 57 (k1);refine (fits_c C g H D G W ls t k a1 k1 ks _ (HB.out.keep B2.out) (KT.out.keep B2.out) (by omega) hH hD).mono ?_;rintro e w' ⟨rfl,hww⟩;cases hww.symm;clear hww;rw [E1.out])
  | (go_at_call_of 57 (k2);refine (fits_c C g H D G W ls t k a2 k2 vs _ (HB.out.keep B2.out) (VT.out.keep B2.out) (by omega) hH hD).mono ?_;rintro e w' ⟨rfl,hww⟩;cases hww.symm;clear hww;rw [E2.out]))
 obtain ⟨al,cl,T,pb,m,pc,ct,cc,x0,x1,-,-,-,-,-,-,-,-,-⟩:=(HB.out.keep B2.out).cells
 have k0:=cell_regrown x0
 have k1:=cell_regrown x1
 have cD:=Tn.reg_of (u:=w2) fun v hv=>due_c C g H D G W ls t k true v ((HB.out.keep B2.out).keep hv) hk hl hG hG2 hW (by omega) DU.out
 have cF:=Tn.reg_of (u:=w2) fun v hv=>(free_any g b n cf R M v ((HP.out.keep B2.out).keep hv) ECF.out).mono fun _ _ ⟨h1,h2⟩=>⟨h1,by rw [h2];exact Below.refl _ _⟩
 clear x0 x1
 refine wp_region_quiet_below (by kernel_rfl) (by kernel_rfl) ?_
 repeat (go_big_quiet_step (first | (with_reducible exact cD _ _) | (with_reducible exact cF _ _)))
 refine wpQuiet_nil ?_
 intro wq hw'
 have BQ:Hid (Below w.heap.size w wq):=by obtain ⟨⟨dq,osq⟩,hw''⟩:=hw';rw [hw''];exact B2.out.trans ((below_regrown w2 dq osq).mono B2.out.size)
 clear hw'
 go_wp2
 go_ret
 exact ⟨rfl,BQ.out⟩
end Cc
end Go.Proofs.YtnchnlgnnlgjcaaGreat
