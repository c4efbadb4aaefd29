import Derived.Test.YtnchnlgnnlgjcaaGreatCa21
import Derived.Test.YtnchnlgnnlgjcaaGreatCa15
import Derived.Test.YtnchnlgnnlgjcaaGreatCa23
set_option linter.unusedVariables false
set_option linter.unusedSimpArgs false
namespace Go.Proofs.YtnchnlgnnlgjcaaGreat
open Go.RowKit
namespace Cc
theorem piece_take (G:Nat) (L:List Tok) {i N:Nat} (h:i*G+G<=N):Ca.piece G (L.take N) i=Ca.piece G L i:=by
 unfold Ca.piece
 rw [List.drop_take,List.take_take,Nat.min_eq_left (by omega)]
theorem pg_take (m0 m1 s0 s1 G D ly hd:Nat) (L:List Tok) {i N:Nat} (h:i*G+G<=N):Ca.pg m0 m1 s0 s1 G D ly hd (L.take N) i=Ca.pg m0 m1 s0 s1 G D ly hd L i:=by
 unfold Ca.pg
 rw [piece_take G L h]
theorem CaIn.trim {w w3:World} {col:Nat->Nat} {c g b C H D G W:Nat} {ls:List (Int × Int)} {M:List Int} {L:Nat->List Int} {cnt:List Int} {tk:Nat->List Tok} {q:Nat->Nat}
 {al:Option Addr} {cl T pb pc ct cc:Nat} {rg rs:Nat->Nat} {F:Nat->Value} (h:CaIn w col c g C H D G W ls M L cnt tk q al cl T pb pc ct cc rg rs F)
 (hfr:∀ x,w.heap.size<=x->col x=0) (c0:¬ c=0) {r f kk:Nat} {l:List Rt.Tv} (rlt:r<ls.length*H)
 (hlen:l.length+q r*G=(tk r).length) (htv:∀ i (h:q r*G+i<(tk r).length),TvAt col w (Rt.nth l i) (tk r)[q r*G+i] (r % H))
 (hbt:Rt.But (rg r) (rs r) w w3) (hring:Rt.RingAt w3 (rg r) (rs r) (W+G) f (l.take kk)) (hk:kk<=l.length) :
 CaAt w3 col c g C H D G W ls M L cnt (fun i=>if i=r then (tk r).take (q r*G+kk) else tk i) q/\Chg c g b w w3 col col:=by
 obtain ⟨⟨hC,zC⟩,⟨hl,hln⟩,⟨hT,zT⟩,⟨hc,hcl,zc⟩,⟨hpb,hF,hpc,zp⟩,hdis,hrow⟩:=h
 have hs3:=hbt.size
 obtain ⟨_,_,_,_,l0,hrg0,_,_,crg,crs⟩:=hrow r rlt
 have trg:=hrg0.tys
 have tct:Ty w ct 3:=ty_own hc rfl
 have far:∀ y,y<w.heap.size->¬ y=rg r->¬ y=rs r->w3.heap[y]?=w.heap[y]?:=fun y hy n1 n2=>hbt.2 y hy n1 n2
 have f0:∀ y,y<w.heap.size->col y=0->w3.heap[y]?=w.heap[y]?:=fun y hy h0=>far y hy (fun e=>c0 (by rw [<-crg,<-e];exact h0)) (fun e=>c0 (by rw [<-crs,<-e];exact h0))
 have k0:∀ y,y<w.heap.size->col y=0->col y=0/\w3.heap[y]?=w.heap[y]?:=fun y hy h0=>⟨h0,f0 y hy h0⟩
 have bg:Chg c g b w w3 col col:=by
  refine Chg.of_but ⟨hbt.1.os,hbt.1.tape,hbt.1.output,hs3,fun j h0 _ _ h3=>?_⟩ hfr
  have h3:¬ col j=c:=h3
  exact far j h0 (fun e=>h3 (by rw [e];exact crg)) (fun e=>h3 (by rw [e];exact crs))
 refine ⟨⟨al,cl,T,pb,pc,ct,cc,rg,rs,F,⟨hC.of_block (f0 C hC.lt zC),zC⟩,⟨hl.carry k0 (by omega),hln⟩,⟨?_,zT⟩,⟨?_,hcl,zc⟩,⟨hpb.of_block (f0 pb hpb.lt zp),hF,hpc,zp⟩,hdis,fun i hi=>?_⟩,bg⟩
 ·exact hT.stand (f0 T hT.lt zT) fun y _ ht=>far y (by rcases ht with t | t <;> exact t.lt) (by rcases ht with t | t <;> exact t.ne trg.1 (by decide)) (by rcases ht with t | t <;> exact t.ne trg.2 (by decide))
 ·exact own_at hc fun y ey=>by cases ey;exact far ct tct.lt (tct.ne trg.1 (by decide)) (tct.ne trg.2 (by decide))
 ·by_cases ei:i=r
  ·subst ei
   show RowIn w3 col c M G D (W+G) ls (i / H) (i % H) (rg i) (rs i) (L i) (if i=i then (tk i).take (q i*G+kk) else tk i) (q i)
   rw [if_pos rfl]
   obtain ⟨h1,h2,h3,_⟩:=hrow i hi
   refine ⟨h1,by rw [List.length_take];omega,fun j hj=>?_,f,l.take kk,hring,by rw [List.length_take,List.length_take];omega,fun j hj=>?_,crg,crs⟩
   ·obtain ⟨p,e,hp⟩:=h3 j hj
    refine ⟨p,e,?_⟩
    rw [pg_take _ _ _ _ _ _ _ _ _ (Nat.le_trans (mul_next hj) (Nat.le_add_right _ _))]
    exact hp.carry k0
   ·rw [List.length_take] at hj
    rw [Rt.nth_take (by omega),List.getElem_take]
    exact (htv j (by omega)).carry k0 (by omega)
  ·show RowIn w3 col c M G D (W+G) ls (i / H) (i % H) (rg i) (rs i) (L i) (if i=r then (tk r).take (q r*G+kk) else tk i) (q i)
   rw [if_neg ei]
   obtain ⟨_,_,_,fi,li,hri,_,_,ci,ci2⟩:=hrow i hi
   have n1:¬ rg i=rg r:=fun e=>ei (hdis i r hi rlt (.inl e))
   have n2:¬ rs i=rs r:=fun e=>ei (hdis i r hi rlt (.inr e))
   have n3:¬ rg i=rs r:=hri.tys.1.ne trg.2 (by decide)
   have n4:¬ rs i=rg r:=hri.tys.2.ne trg.1 (by decide)
   exact (hrow i hi).carry k0 (by omega) ⟨rfl,far _ hri.lt.1 n1 n3⟩ ⟨rfl,far _ hri.lt.2 n4 n2⟩ fun _ _=>rfl
theorem CaIn.counts {w w':World} {col:Nat->Nat} {c g b C H D G W:Nat} {ls:List (Int × Int)} {M:List Int} {L:Nat->List Int} {cnt cnt':List Int} {tk:Nat->List Tok} {q:Nat->Nat}
 {al:Option Addr} {cl T pb pc ct cc:Nat} {rg rs:Nat->Nat} {F:Nat->Value} (h:CaIn w col c g C H D G W ls M L cnt tk q al cl T pb pc ct cc rg rs F) (hfr:∀ x,w.heap.size<=x->col x=0) (c0:¬ c=0)
 (hb:Below 0 w w') (far:∀ y,y<w.heap.size->¬ y=ct->w'.heap[y]?=w.heap[y]?) (hct:w'.ownsRow 0 3 1 (.slice (some ⟨ct,0,none⟩) ls.length cc) ls.length (cnt'.map (Value.int .i64))) (hcn:cnt'.length=ls.length) :
 CaAt w' col c g C H D G W ls M L cnt' tk q/\Chg c g b w w' col col:=by
 obtain ⟨⟨hC,zC⟩,⟨hl,hln⟩,⟨hT,zT⟩,⟨hc,hcl,zc⟩,⟨hpb,hF,hpc,zp⟩,hdis,hrow⟩:=h
 have tct:Ty w ct 3:=ty_own hc rfl
 have f0:∀ y,y<w.heap.size->col y=0->w'.heap[y]?=w.heap[y]?:=fun y hy h0=>far y hy fun e=>c0 (by rw [<-zc,<-e];exact h0)
 have k0:∀ y,y<w.heap.size->col y=0->col y=0/\w'.heap[y]?=w.heap[y]?:=fun y hy h0=>⟨h0,f0 y hy h0⟩
 refine ⟨⟨al,cl,T,pb,pc,ct,cc,rg,rs,F,⟨hC.of_block (f0 C hC.lt zC),zC⟩,⟨hl.carry k0 hb.size,hln⟩,⟨?_,zT⟩,⟨hct,hcn,zc⟩,⟨hpb.of_block (f0 pb hpb.lt zp),hF,hpc,zp⟩,hdis,fun i hi=>?_⟩,?_⟩
 ·exact hT.stand (f0 T hT.lt zT) fun y hq ht=>far y (by rcases ht with t | t <;> exact t.lt) hq.2
 ·obtain ⟨_,_,_,fi,li,hri,_,_,ci,ci2⟩:=hrow i hi
  exact (hrow i hi).carry k0 hb.size ⟨rfl,far _ hri.lt.1 (hri.tys.1.ne tct (by decide))⟩ ⟨rfl,far _ hri.lt.2 (hri.tys.2.ne tct (by decide))⟩ fun _ _=>rfl
 ·exact Chg.of_but ⟨hb.os,hb.tape,hb.output,hb.size,fun j hj _ _ h3=>far j hj fun e=>h3 (show col j=c by rw [e];exact zc)⟩ hfr
theorem CaIn.cleared {w w':World} {col:Nat->Nat} {c g b n C H D G W:Nat} {ls:List (Int × Int)} {R M:List Int} {L:Nat->List Int} {cnt:List Int} {tk:Nat->List Tok} {q:Nat->Nat}
 {al:Option Addr} {cl T pb pc ct cc:Nat} {rg rs:Nat->Nat} {F:Nat->Value} (h:CaIn w col c g C H D G W ls M L cnt tk q al cl T pb pc ct cc rg rs F) (hp:PoolAt w g b n R M) (hfr:∀ x,w.heap.size<=x->col x=0) (c0:¬ c=0) (cg:¬ col g=0) (cb:¬ col b=0)
 (hbut:ButQ g b (fun x=>(col x=c/\¬ x=ct)/\(Ty w x 70\/Ty w x 3)) w w') (htab:Tab w' g T (ls.length*H) (fun _=>[]) (fun x=>(col x=c/\¬ x=ct)/\(Ty w x 70\/Ty w x 3))) :
 CaAt w' col c g C H D G W ls M (fun _=>[]) cnt (fun i=>(tk i).drop (q i*G)) (fun _=>0)/\Chg c g b w w' col col:=by
 obtain ⟨⟨hC,zC⟩,⟨hl,hln⟩,⟨hT,zT⟩,⟨hc,hcl,zc⟩,⟨hpb,hF,hpc,zp⟩,hdis,hrow⟩:=h
 have tct:Ty w ct 3:=ty_own hc rfl
 have hs:=hbut.size
 have f0:∀ y,y<w.heap.size->col y=0->w'.heap[y]?=w.heap[y]?:=fun y hy h0=>hbut.block hy (fun e=>cg (by rw [<-e];exact h0)) (fun e=>cb (by rw [<-e];exact h0)) (fun e=>c0 (by rw [<-e.1.1];exact h0))
 have k0:∀ y,y<w.heap.size->col y=0->col y=0/\w'.heap[y]?=w.heap[y]?:=fun y hy h0=>⟨h0,f0 y hy h0⟩
 refine ⟨⟨al,cl,T,pb,pc,ct,cc,rg,rs,F,⟨hC.of_block (f0 C hC.lt zC),zC⟩,⟨hl.carry k0 hs,hln⟩,⟨htab.mono fun x _ hq=>hq.1,zT⟩,⟨?_,hcl,zc⟩,⟨hpb.of_block (f0 pb hpb.lt zp),hF,hpc,zp⟩,hdis,fun i hi=>?_⟩,?_⟩
 ·exact own_at hc fun y ey=>by cases ey;exact hbut.block tct.lt (tct.ne hp.tys.1 (by decide)) (tct.ne hp.tys.2 (by decide)) (fun e=>e.1.2 rfl)
 ·obtain ⟨h1,h2,_,fi,li,hri,hll,htv,ci,ci2⟩:=hrow i hi
  have nq:∀ x t,Ty w x t->¬ t=70->¬ t=3->¬ ((col x=c/\¬ x=ct)/\(Ty w x 70\/Ty w x 3)):=fun x t ht n1 n2 e=>by
   rcases e.2 with k | k
   ·exact ht.ne k n1 rfl
   ·exact ht.ne k n2 rfl
  have e1:=hbut.block hri.lt.1 (hri.tys.1.ne hp.tys.1 (by decide)) (hri.tys.1.ne hp.tys.2 (by decide)) (nq _ _ hri.tys.1 (by decide) (by decide))
  have e2:=hbut.block hri.lt.2 (hri.tys.2.ne hp.tys.1 (by decide)) (hri.tys.2.ne hp.tys.2 (by decide)) (nq _ _ hri.tys.2 (by decide) (by decide))
  show RowIn w' col c M G D (W+G) ls (i / H) (i % H) (rg i) (rs i) [] ((tk i).drop (q i*G)) 0
  refine ⟨rfl,by omega,fun j hj=>by omega,fi,li,hri.of_block e1 e2,by rw [List.length_drop];omega,fun j hj=>?_,ci,ci2⟩
  rw [List.length_drop] at hj
  rw [List.getElem_drop]
  have:=(htv j (by omega)).carry k0 hs
  simp only [Nat.zero_mul,Nat.zero_add]
  exact this
 ·exact Chg.of_but (hbut.mono fun x _ hq=>hq.1.1) hfr
end Cc
end Go.Proofs.YtnchnlgnnlgjcaaGreat
namespace Go.Proofs.YtnchnlgnnlgjcaaGreat
open Go.RowKit
namespace Cc
theorem zero_int:∀ w,(zeroValue 3).run Tryz.prog w=.ok (.int .i64 0) w:=by
 obtain ⟨i,hi,h1,_,_⟩:=info_parts Tryz.infoIntG
 intro w
 simp [zeroValue,typeInfo,hi,h1]
def setAll (z:Value):Nat->Nat->List Value->List Value
 | 0,_,xs=>xs
 | n+1,o,xs=>setAll z n (o+1) (xs.set o z)
theorem setAll_get (z:Value):∀ (n o:Nat) (xs:List Value) (i:Nat),(setAll z n o xs)[i]?=if o<=i/\i<o+n then (if i<xs.length then some z else none) else xs[i]?:=by
 intro n
 induction n with
 | zero=>intro o xs i;rw [if_neg (by omega)];rfl
 | succ n ih =>
   intro o xs i
   show (setAll z n (o+1) (xs.set o z))[i]?=_
   rw [ih,List.length_set]
   by_cases h1:o+1<=i/\i<o+1+n
   ·rw [if_pos h1,if_pos (show o<=i/\i<o+(n+1) by omega)]
   ·rw [if_neg h1]
    by_cases e:i=o
    ·subst e
     rw [if_pos (show i<=i/\i<i+(n+1) by omega),List.getElem?_set]
     simp
    ·rw [if_neg (show ¬ (o<=i/\i<o+(n+1)) by omega),List.getElem?_set_ne (fun q=>e q.symm)]
theorem own_setAll {base g N cap:Nat} {t:TypeId} (z:Value):∀ (n o:Nat) (w:World) (xs:List Value),w.ownsRow base t 1 (.slice (some ⟨g,0,none⟩) N cap) N xs->(w.setCells g o (List.replicate n z)).ownsRow base t 1 (.slice (some ⟨g,0,none⟩) N cap) N (setAll z n o xs):=by
 intro n
 induction n with
 | zero=>exact fun o w xs h=>h
 | succ n ih =>
   intro o w xs h
   exact ih (o+1) _ _ (h.stored o z).1
theorem setAll_cn (nl t k:Nat):setAll (.int .i64 0) nl 0 ((cn nl t k).map (Value.int .i64))=(cn nl 0 0).map (Value.int .i64):=by
 apply List.ext_getElem?
 intro i
 rw [setAll_get]
 by_cases h:i<nl
 ·rw [if_pos (by omega),if_pos (by simp [cn,h])]
  simp [cn,h,lv]
 ·rw [if_neg (by omega)]
  simp [cn,h]
def tkc (tk:Nat->List Tok) (j i:Nat):List Tok:=if i<j then [] else tk i
theorem tkc_next (tk:Nat->List Tok) (j:Nat):(fun i=>if i=j then ([]:List Tok) else tkc tk j i)=tkc tk (j+1):=by
 funext i
 unfold tkc
 by_cases e:i=j
 ·rw [if_pos e,if_pos (by omega)]
 ·rw [if_neg e]
  by_cases h:i<j
  ·rw [if_pos h,if_pos (by omega)]
  ·rw [if_neg h,if_neg (by omega)]
theorem CaAt.congr {w:World} {col:Nat->Nat} {c g C H D G W:Nat} {ls:List (Int × Int)} {M:List Int} {L L':Nat->List Int} {cnt:List Int} {tk tk':Nat->List Tok} {q q':Nat->Nat} (h:CaAt w col c g C H D G W ls M L cnt tk q) (he:∀ r,r<ls.length*H->L r=L' r/\tk r=tk' r/\q r=q' r):CaAt w col c g C H D G W ls M L' cnt tk' q':=by
 obtain ⟨al,cl,T,pb,pc,ct,cc,rg,rs,F,h1,h2,h3,h4,h5,h6,h7⟩:=h
 refine ⟨al,cl,T,pb,pc,ct,cc,rg,rs,F,h1,h2,⟨h3.1.congr fun j hj=>(he j hj).1,h3.2⟩,h4,h5,h6,fun r hr=>?_⟩
 have:=h7 r hr
 rw [(he r hr).1,(he r hr).2.1,(he r hr).2.2] at this
 exact this
set_option maxRecDepth 100000 in
set_option maxHeartbeats 3200000 in
theorem clear_c (C c g b n H D G W:Nat) (ls:List (Int × Int)) (R M:List Int) (L:Nat->List Int) (t k:Nat) (tk:Nat->List Tok) (q:Nat->Nat) (col:Nat->Nat) (w:World) (hp:PoolAt w g b n R M) (h:CaAt w col c g C H D G W ls M L (cn ls.length t k) tk q) (sh:ShOk H D G W ls)
 (hl:Bk.len L (ls.length*H)<=1000) (hx:∀ x,x ∈ Bk.flat L (ls.length*H)->0<=x/\x<n) (ho:∀ k:Nat,k<n->(Bk.occ k (Bk.flat L (ls.length*H)):Int)<=Ls.nth R k) (hb:∀ k,k<n->Ls.nth R k<=1000)
 (hfr:∀ x,w.heap.size<=x->col x=0) (c0:¬ c=0) (cg:¬ col g=0) (cb:¬ col b=0) :
 Calls Tryz.prog 25 #[.pointer (some ⟨C,0,none⟩)] w fun e w'=>e=.returned (.tuple #[])/\PoolAt w' g b n (Bk.bump R (-1) (Bk.flat L (ls.length*H))) M /\
  CaAt w' col c g C H D G W ls M (fun _=>[]) (cn ls.length 0 0) (fun _=>[]) (fun _=>0)/\Chg c g b w w' col col:=by
 obtain ⟨sH,sH2,-⟩:=id sh
 obtain ⟨-,-,-,sl,sl2,-⟩:=sh.nums
 have hm:ls.length*H<=16:=Nat.le_trans (Nat.mul_le_mul sl2 sH2) (by decide)
 have HP:=Ca.hid hp
 obtain ⟨al,cl,T,pb,pc,ct,cc,rg,rs,F,hin⟩:=h.in
 have HI:=Ca.hid hin
 obtain ⟨⟨hC,zC⟩,-,⟨hT,zT⟩,-⟩:=hin
 have x6:w.cell? ⟨C,6,none⟩=some (.pointer (some ⟨T,0,none⟩)):=hC.cell (show 6<9 by decide)
 have HT:Hid (Tab w g T (ls.length*H) L (fun x=>(col x=c/\¬ x=ct)/\(Ty w x 70\/Ty w x 3))):=hT.mono2 fun x _ ht hq=>⟨hq,ht⟩
 have LL:=Ca.hid (And.intro hl (And.intro hx (And.intro ho hb)))
 have HFR:=Ca.hid hfr
 have HC:=Ca.hid (And.intro hC zC)
 have CG:=Ca.hid (And.intro cg cb)
 clear hp h hC hT hl hx ho hb hfr zC cg cb zT
 go_enter Tryz.func25,Tryz.ntmps25
 go_wp2_with (go_at_call 70;refine (clear_any g b n T (ls.length*H) R M L _ _ HP.out HT.out hm LL.out.1 LL.out.2.1 LL.out.2.2.1 LL.out.2.2.2).mono ?_;rintro e w1 ⟨rfl,hp1,ht1,hb1⟩;have P1:=Ca.hid hp1;have CL:=Ca.hid (HI.out.cleared HP.out HFR.out c0 CG.out.1 CG.out.2 hb1 ht1);have x7:w1.cell? ⟨C,7,none⟩=some (.slice (some ⟨pb,0,none⟩) (ls.length*H) pc):=(by rw [World.cell?_of_block (w:=w) (a:=⟨C,7,none⟩) (hb1.block HC.out.1.lt (fun e=>CG.out.1 (by rw [<-e];exact HC.out.2)) (fun e=>CG.out.2 (by rw [<-e];exact HC.out.2)) (fun e=>c0 (by rw [<-e.1.1];exact HC.out.2)))];exact HC.out.1.cell (show 7<9 by decide));clear hp1 ht1 hb1)
 have X7:=Ca.hid x7
 clear x6 x7
 go_loopw [14] (fun i wq=>∃ j:Nat,j<=ls.length*H/\i=.int .i64 j/\wq.cell? ⟨C,7,none⟩=some (.slice (some ⟨pb,0,none⟩) (ls.length*H) pc)/\Hid (PoolAt wq g b n (Bk.bump R (-1) (Bk.flat L (ls.length*H))) M) /\
  Hid (CaAt wq col c g C H D G W ls M (fun _=>[]) (cn ls.length t k) (tkc (fun i=>(tk i).drop (q i*G)) j) (fun _=>0))/\Hid (Chg c g b w wq col col)) (fun i _=>ls.length*H - (intOf i).toNat)
 case atStart=>exact ⟨0,Nat.zero_le _,rfl,X7.out,P1.out,CL.out.1,CL.out.2⟩
 case round =>
  obtain ⟨j,hj,rfl,y7,PJ,CJ,GJ⟩:=hrel
  obtain ⟨al',cl',T',pb',pc',ct',cc',rg',rs',F',hin⟩:=CJ.out.in
  have HJ:=Ca.hid hin
  obtain ⟨⟨hC,zC⟩,-,-,⟨hct,hcl,zct⟩,⟨hpb,hF,hpc,zp⟩,hdis,hrow⟩:=hin
  have e7:wr.cell? ⟨C,7,none⟩=some (.slice (some ⟨pb',0,none⟩) (ls.length*H) pc'):=hC.cell (show 7<9 by decide)
  rw [y7] at e7
  have e8:pb=pb'/\pc=pc':=by injection e7 with e;injection e with e1 _ e2;injection e1 with e1;injection e1 with e1;exact ⟨e1,e2⟩
  obtain ⟨rfl,rfl⟩:=e8
  clear e7
  by_cases hlt:j<ls.length*H
  ·obtain ⟨_,_,_,f,l,hring,hll,htv,crg,crs⟩:=hrow j hlt
   have RW:=Ca.hid hring
   have LT:=Ca.hid (And.intro hll htv)
   have xr:wr.cell? ⟨pb,j,none⟩=some (.pointer (some ⟨rg' j,0,none⟩)):=by rw [hpb.cell (show j<pc by omega),hF j hlt]
   have y7C:Hid (C<wr.heap.size/\¬ C=rg' j/\¬ C=rs' j):=⟨hC.lt,fun e=>c0 (by rw [<-crg,<-e];exact zC),fun e=>c0 (by rw [<-crs,<-e];exact zC)⟩
   have Y7:=Ca.hid y7
   have e1:(j:Int)<(ls.length:Int)*(H:Int):=by rw [<-Int.natCast_mul];omega
   have CY:Hid (Calls Tryz.prog 71 #[.pointer (some ⟨rg' j,0,none⟩),.int .i64 0] wr fun e w'=>e=.returned (.bool true)/\Rt.RingAt w' (rg' j) (rs' j) (W+G) f (l.take 0)/\Rt.But (rg' j) (rs' j) wr w'):=Rt.cut_yes (rg' j) (rs' j) (W+G) f 0 l wr RW.out (Nat.zero_le _)
   clear hC hct hpb hF hdis hrow hring hll htv y7
   go_wp2_with (go_at_call 71;(with_reducible refine CY.out.mono ?_);rintro e w2 ⟨rfl,hri,hbt⟩;have RI:=Ca.hid hri;have BT:=Ca.hid hbt;clear hri hbt)
   go_roundw
   case rel =>
    have tr:=HJ.out.trim (b:=b) GJ.out.fresh c0 hlt LT.out.1 LT.out.2 BT.out RI.out (Nat.zero_le _)
    refine ⟨j+1,by omega,by go_num,?_,?_,?_,GJ.out.trans tr.2⟩
    ·rw [BT.out.cell (a:=⟨C,7,none⟩) y7C.out.1 y7C.out.2.1 y7C.out.2.2];exact Y7.out
    ·exact PJ.out.stand fun y hy=>BT.out.2 y (by rcases hy with h | h | h <;> exact h.lt) (by rcases hy with h | h | h <;> exact h.ne RW.out.tys.1 (by decide)) (by rcases hy with h | h | h <;> exact h.ne RW.out.tys.2 (by decide))
    ·have:=tr.1
     rw [show (fun i=>if i=j then (tkc (fun i=>(tk i).drop (q i*G)) j j).take (0*G+0) else tkc (fun i=>(tk i).drop (q i*G)) j i)=fun i=>if i=j then ([]:List Tok) else tkc (fun i=>(tk i).drop (q i*G)) j i from funext fun i=>by split <;> simp,tkc_next] at this
     exact this
   case measure=>simp [intOf];omega
  ·have ej:j=ls.length*H:=by omega
   subst ej
   have x8:wr.cell? ⟨C,8,none⟩=some (.slice (some ⟨ct',0,none⟩) ls.length cc'):=hC.cell (show 8<9 by decide)
   have hclr:∀ ty,(Builtin.clear_ #[70] ty #[.slice (some ⟨ct',0,none⟩) ls.length cc']).run Tryz.prog wr=.ok (.tuple #[]) (wr.setCells ct' 0 (List.replicate ls.length (.int .i64 0))):=fun ty =>
    Lib.run_clear_slice wr 70 3 ty (.int .i64 0) Tryz.underlying70 (zero_int) rfl rfl ct' 0 ls.length cc' (by omega) (fun i hi=>by rw [Nat.zero_add,hct.cellAt i (by omega),List.getElem?_map,List.getElem?_eq_getElem (by rw [cn_length];exact hi)];rfl) (fun i hi=>hct.frozenAt _)
   have HCT:=Ca.hid (And.intro hct (ty_own hct rfl:Ty wr ct' 3))
   clear hC hct hpb hF hdis hrow y7
   go_wp2
   go_end0
   have ho:=own_setAll (.int .i64 0) ls.length 0 wr _ HCT.out.1
   rw [setAll_cn] at ho
   have fin:=HJ.out.counts (b:=b) GJ.out.fresh c0 (below_cells (Nat.zero_le _) _ 0 wr wr (Below.refl _ _)) (fun y hy hn=>block_cells hn _ _ _) ho (cn_length _ _ _)
   refine ⟨rfl,PJ.out.stand fun y hy=>block_cells ?_ _ _ _,fin.1.congr fun r hr=>⟨rfl,?_,rfl⟩,GJ.out.trans fin.2⟩
   ·rcases hy with h | h | h <;> exact h.ne HCT.out.2 (by decide)
   ·unfold tkc;rw [if_pos hr]
end Cc
end Go.Proofs.YtnchnlgnnlgjcaaGreat
namespace Go.Proofs.YtnchnlgnnlgjcaaGreat
open Go.RowKit
namespace Cc
theorem cut_open_c (C g H D G W:Nat) (ls:List (Int × Int)) (t k:Nat) (N:Int) (w:World) (h:Bd w C g H D G W ls t k) (hk:k<ls.length) (hl:ls.length<=4) (hk0:¬ k=0) :
 Calls Tryz.prog 28 #[.pointer (some ⟨C,0,none⟩),.int .i64 N] w fun e w'=>e=.returned (.int .i64 24)/\Below w.heap.size w w':=by
 have OP:=Ca.hid (open_c C g H D G W ls t k true w h hk hl (decide_eq_true hk0))
 clear h
 go_enter Tryz.func28,Tryz.ntmps28
 go_wp2_with (go_at_call 73;refine OP.out.mono ?_;rintro e w1 ⟨rfl,hb⟩;have B1:=Ca.hid hb;clear hb)
 go_ret
 exact ⟨rfl,B1.out⟩
theorem box_plan {w:World} {G W:Int} {v:Value}:((w.alloc (.cells #[.int .i64 G,.int .i64 W,v] 24)).cell? ⟨w.heap.size,0,none⟩=some (.int .i64 G))/\((w.alloc (.cells #[.int .i64 G,.int .i64 W,v] 24)).cell? ⟨w.heap.size,1,none⟩=some (.int .i64 W))/\((w.alloc (.cells #[.int .i64 G,.int .i64 W,v] 24)).cell? ⟨w.heap.size,2,none⟩=some v) :=
 ⟨cell_new w 0 _ _ 0,cell_new w 0 _ _ 1,cell_new w 0 _ _ 2⟩
set_option maxHeartbeats 1600000 in
theorem cut_range_c (C g H D G W:Nat) (ls:List (Int × Int)) (t:Nat) (N:Int) (w:World) (h:Bd w C g H D G W ls t 0) (hk:0<ls.length) (hl:ls.length<=4) (hG:1<=G) (hG2:G<=16) (hW:W<=64) (ht:t<=500) (hN:N<0\/t<N\/gn G W N.toNat<gn G W t) :
 Calls Tryz.prog 28 #[.pointer (some ⟨C,0,none⟩),.int .i64 N] w fun e w'=>e=.returned (.int .i64 11)/\Below w.heap.size w w':=by
 have OP:=Ca.hid (open_c C g H D G W ls t 0 false w h hk hl (decide_eq_false (by omega)))
 have HB:=Ca.hid h
 clear h
 go_enter Tryz.func28,Tryz.ntmps28
 go_upto_region 4 with (go_at_call 73;refine OP.out.mono ?_;rintro e w1 ⟨rfl,hb⟩;have B1:=Ca.hid hb;obtain ⟨al,cl,T,pb,m,pc,ct,cc,-,-,-,x3,x4,x5,-,-,-,hlt,-⟩:=(HB.out.keep hb).cells;clear hb)
 obtain ⟨u,hu⟩:∃ u,w1.alloc (.cells #[.int .i64 (G:Int),.int .i64 (W:Int),.slice al ls.length cl] 24)=u:=⟨_,rfl⟩
 have UB:Hid (Below w1.heap.size w1 u):=by rw [<-hu];exact Rt.box_below _ _
 have bp:=box_plan (w:=w1) (G:=(G:Int)) (W:=(W:Int)) (v:=.slice al ls.length cl)
 rw [hu] at bp
 rw [hu]
 have k0:=cell_regrown bp.1
 have k1:=cell_regrown bp.2.1
 have k2:=cell_regrown bp.2.2
 have HU:Hid (Bd u C g H D G W ls t 0):=(HB.out.keep B1.out).keep UB.out
 have WU:Hid (Below w.heap.size w u):=B1.out.trans (UB.out.mono B1.out.size)
 have cT:=Tn.reg_of (u:=u) fun v hv=>(tokens_c C g H D G W ls t 0 v (HU.out.keep hv) hk hl).mono fun _ _ ⟨h1,n,h2⟩=>⟨h1,by rw [h2];exact Rt.below_drewN (Below.refl _ _) n⟩
 clear x3 x4 x5 bp hu
 by_cases c1:0<=N/\N<=t
 ·have hlt2:gn G W N.toNat<gn G W t:=by
   rcases hN with h | h | h
   ·omega
   ·omega
   ·exact h
  obtain ⟨N',rfl⟩:∃ n:Nat,N=(n:Int):=⟨N.toNat,by omega⟩
  rw [Int.toNat_natCast] at hlt2
  have cW:=Tn.reg_of (u:=u) fun v hv=>(within_c (N':Int) 0 (t:Int) true (by simp;omega) v).mono fun _ _ ⟨h1,h2⟩=>⟨h1,by rw [h2];exact Below.refl _ _⟩
  have G1:Tn.Tr.grp G W (N':Int)=(gn G W N':Int):=grp_gn (by omega)
  have G2:Tn.Tr.grp G W (t:Int)=(gn G W t:Int):=grp_gn (by omega)
  obtain ⟨n1,e1⟩:∃ n,gn G W N'=n:=⟨_,rfl⟩
  obtain ⟨n2,e2⟩:∃ n,gn G W t=n:=⟨_,rfl⟩
  rw [e1] at G1 hlt2
  rw [e2] at G2 hlt2
  have cG1:=Tn.reg_of (u:=u) fun v _=>Tn.groups_any (G:Int) (W:Int) (N':Int) (n1:Int) al ls.length cl (by omega) (by omega) (by omega) (by omega) G1 v
  have cG2:=Tn.reg_of (u:=u) fun v _=>Tn.groups_any (G:Int) (W:Int) (t:Int) (n2:Int) al ls.length cl (by omega) (by omega) (by omega) (by omega) G2 v
  have d1:decide ((n1:Int)<(n2:Int))=true:=decide_eq_true (by omega)
  have d2:decide (n1<n2)=true:=decide_eq_true hlt2
  clear G1 G2 e1 e2 c1 hN
  refine wp_region_quiet_below (by kernel_rfl) (by kernel_rfl) ?_
  repeat (go_big_quiet_step (first | (with_reducible exact cT _ _) | (with_reducible exact cW _ _) | (with_reducible exact cG1 _ _) | (with_reducible exact cG2 _ _)))
  refine wpQuiet_nil ?_
  intro wq hw'
  have BQ:Hid (Below w.heap.size w wq):=by obtain ⟨⟨dq,osq⟩,hw''⟩:=hw';rw [hw''];exact WU.out.trans ((below_regrown u dq osq).mono WU.out.size)
  clear hw'
  go_wp2
  go_ret
  exact ⟨rfl,BQ.out⟩
 ·have cW:=Tn.reg_of (u:=u) fun v hv=>(within_c N 0 (t:Int) false (by rw [Bool.eq_false_iff];intro e;simp at e;omega) v).mono fun _ _ ⟨h1,h2⟩=>⟨h1,by rw [h2];exact Below.refl _ _⟩
  clear c1 hN
  refine wp_region_quiet_below (by kernel_rfl) (by kernel_rfl) ?_
  repeat (go_big_quiet_step (first | (with_reducible exact cT _ _) | (with_reducible exact cW _ _)))
  refine wpQuiet_nil ?_
  intro wq hw'
  have BQ:Hid (Below w.heap.size w wq):=by obtain ⟨⟨dq,osq⟩,hw''⟩:=hw';rw [hw''];exact WU.out.trans ((below_regrown u dq osq).mono WU.out.size)
  clear hw'
  go_wp2
  go_ret
  exact ⟨rfl,BQ.out⟩
def tkt (tk:Nat->List Tok) (N j i:Nat):List Tok:=if i<j then (tk i).take N else tk i
theorem tkt_next (tk:Nat->List Tok) (N j:Nat):(fun i=>if i=j then (tkt tk N j j).take N else tkt tk N j i)=tkt tk N (j+1):=by
 funext i
 unfold tkt
 by_cases e:i=j
 ·rw [if_pos e,if_neg (Nat.lt_irrefl _),if_pos (show i<j+1 by omega),e]
 ·rw [if_neg e]
  by_cases h:i<j
  ·rw [if_pos h,if_pos (show i<j+1 by omega)]
  ·rw [if_neg h,if_neg (show ¬ i<j+1 by omega)]
def cnx (nl t N j:Nat):List Int:=(List.range nl).map fun i=>((if i<j then N else t:Nat):Int)
theorem cnx_zero (nl t N:Nat):cnx nl t N 0=cn nl t 0:=by unfold cnx cn lv;simp
theorem cnx_all (nl t N:Nat):cnx nl t N nl=cn nl N 0:=by
 unfold cnx cn lv
 apply List.map_congr_left
 intro i hi
 rw [List.mem_range] at hi
 rw [if_pos hi,if_neg (Nat.not_lt_zero _)]
theorem cnx_set {nl t N j:Nat} (h:j<nl):(cnx nl t N j).set j (N:Int)=cnx nl t N (j+1):=by
 apply List.ext_getElem
 ·simp [cnx]
 ·intro i h1 h2
  have hi:i<nl:=by simpa [cnx] using h2
  simp only [cnx,List.getElem_set,List.getElem_map,List.getElem_range]
  by_cases e:j=i
  ·rw [if_pos e,if_pos (show i<j+1 by omega)]
  ·rw [if_neg e]
   by_cases h:i<j
   ·rw [if_pos h,if_pos (show i<j+1 by omega)]
   ·rw [if_neg h,if_neg (show ¬ i<j+1 by omega)]
theorem nth_cnx {nl t N j i:Nat} (h:i<nl):(cnx nl t N j)[i]?=some ((if i<j then N else t:Nat):Int):=by simp [cnx,h]
set_option maxRecDepth 100000 in
set_option maxHeartbeats 3200000 in
theorem cut_ok_c (C c g b n H D G W N:Nat) (ls:List (Int × Int)) (R M:List Int) (L:Nat->List Int) (t:Nat) (tk:Nat->List Tok) (q:Nat->Nat) (col:Nat->Nat) (w:World) (hp:PoolAt w g b n R M) (h:CaAt w col c g C H D G W ls M L (cn ls.length t 0) tk q) (sh:ShOk H D G W ls) (ht:t<=500) (hN:N<=t) (hg:gn G W N=gn G W t)
 (hq:∀ r,r<ls.length*H->q r=gn G W t/\(tk r).length=t) (hfr:∀ x,w.heap.size<=x->col x=0) (c0:¬ c=0) :
 Calls Tryz.prog 28 #[.pointer (some ⟨C,0,none⟩),.int .i64 (N:Int)] w fun e w'=>e=.returned (.int .i64 0)/\PoolAt w' g b n R M /\
  CaAt w' col c g C H D G W ls M L (cn ls.length N 0) (fun i=>(tk i).take N) q/\Chg c g b w w' col col:=by
 obtain ⟨sH,sH2,-⟩:=id sh
 obtain ⟨sG,sG2,sW,sl,sl2,-⟩:=sh.nums
 have hk:0<ls.length:=by omega
 have hm:ls.length*H<=16:=Nat.le_trans (Nat.mul_le_mul sl2 sH2) (by decide)
 have OP:=Ca.hid (open_c C g H D G W ls t 0 false w h.bd hk sl2 (decide_eq_false (by omega)))
 have HB:=Ca.hid h.bd
 have HC:=Ca.hid h
 have HP:=Ca.hid hp
 have HQ:=Ca.hid hq
 have HFR:=Ca.hid hfr
 clear h hp hq hfr
 go_enter Tryz.func28,Tryz.ntmps28
 go_upto_region 4 with (go_at_call 73;refine OP.out.mono ?_;rintro e w1 ⟨rfl,hb⟩;have B1:=Ca.hid hb;obtain ⟨al,cl,T,pb,m,pc,ct,cc,-,-,-,x3,x4,x5,-,-,-,hlt,-⟩:=(HB.out.keep hb).cells;clear hb)
 obtain ⟨u,hu⟩:∃ u,w1.alloc (.cells #[.int .i64 (G:Int),.int .i64 (W:Int),.slice al ls.length cl] 24)=u:=⟨_,rfl⟩
 have UB:Hid (Below w1.heap.size w1 u):=by rw [<-hu];exact Rt.box_below _ _
 have bp:=box_plan (w:=w1) (G:=(G:Int)) (W:=(W:Int)) (v:=.slice al ls.length cl)
 have lu:Hid (w1.heap.size<u.heap.size):=by rw [<-hu];show w1.heap.size<_;simp
 rw [hu] at bp
 rw [hu]
 have BP:=Ca.hid bp
 have k0:=cell_regrown bp.1
 have k1:=cell_regrown bp.2.1
 have k2:=cell_regrown bp.2.2
 have HU:Hid (Bd u C g H D G W ls t 0):=(HB.out.keep B1.out).keep UB.out
 have WU:Hid (Below w.heap.size w u):=B1.out.trans (UB.out.mono B1.out.size)
 have cT:=Tn.reg_of (u:=u) fun v hv=>(tokens_c C g H D G W ls t 0 v (HU.out.keep hv) hk sl2).mono fun _ _ ⟨h1,n,h2⟩=>⟨h1,by rw [h2];exact Rt.below_drewN (Below.refl _ _) n⟩
 have cW:=Tn.reg_of (u:=u) fun v hv=>(within_c (N:Int) 0 (t:Int) true (by simp;omega) v).mono fun _ _ ⟨h1,h2⟩=>⟨h1,by rw [h2];exact Below.refl _ _⟩
 have G1:Tn.Tr.grp G W (N:Int)=(gn G W N:Int):=grp_gn (by omega)
 have G2:Tn.Tr.grp G W (t:Int)=(gn G W N:Int):=by rw [hg];exact grp_gn (by omega)
 obtain ⟨n1,e1⟩:∃ n,gn G W N=n:=⟨_,rfl⟩
 have EN:=Ca.hid e1
 have hnG:n1*G<=N:=by rw [<-e1];exact gn_mul sG
 rw [e1] at G1 G2
 have cG1:=Tn.reg_of (u:=u) fun v _=>Tn.groups_any (G:Int) (W:Int) (N:Int) (n1:Int) al ls.length cl (by omega) (by omega) (by omega) (by omega) G1 v
 have cG2:=Tn.reg_of (u:=u) fun v _=>Tn.groups_any (G:Int) (W:Int) (t:Int) (n1:Int) al ls.length cl (by omega) (by omega) (by omega) (by omega) G2 v
 have PLN:Hid (∀ v,Calls Tryz.prog 75 #[.agg #[.int .i64 (G:Int),.int .i64 (W:Int),.slice al ls.length cl],.int .i64 (N:Int)] v fun e w'=>e=.returned (.int .i64 ((N - n1*G:Nat):Int))/\Below v.heap.size v w'):=fun v =>
  Tn.plain_any (G:Int) (W:Int) (N:Int) _ al ls.length cl (by omega) (by omega) (by omega) (by omega) (by
   rw [G1]
   unfold Tn.Tr.near
   rw [if_neg (by omega),if_neg (by omega),<-Int.natCast_mul]
   omega) v
 clear x3 x4 x5 bp hu G1 G2 e1
 go_cut [30] from 16 to 30 (fun v wx=>v=.bool false/\Hid (Below u.heap.size u wx))
 case first =>
  refine wp_region_quiet_below (by kernel_rfl) (by kernel_rfl) ?_
  repeat (go_big_quiet_step (first | (with_reducible exact cT _ _) | (with_reducible exact cW _ _) | (with_reducible exact cG1 _ _) | (with_reducible exact cG2 _ _)))
  refine wpQuiet_nil ?_
  intro wq hw'
  have BQ:Hid (Below u.heap.size u wq):=by obtain ⟨⟨dq,osq⟩,hw''⟩:=hw';rw [hw''];exact below_regrown u dq osq
  clear hw'
  go_wp2_with fail
  go_meet
  first | exact ⟨rfl,BQ.out⟩ | exact ⟨by simp,BQ.out⟩
 case rest =>
  obtain ⟨rfl,BU⟩:=hcut
  have BW:Hid (Below w.heap.size w wc):=WU.out.trans (BU.out.mono WU.out.size)
  obtain ⟨al0,cl0,T,pb,pc,ct,cc,rg,rs,F,hin⟩:=HC.out.in
  obtain ⟨⟨hC,zC⟩,-,-,-,-⟩:=hin
  have x7:wc.cell? ⟨C,7,none⟩=some (.slice (some ⟨pb,0,none⟩) (ls.length*H) pc):=by rw [BW.out.cell (p:=⟨C,7,none⟩) hC.lt];exact hC.cell (show 7<9 by decide)
  have x8:wc.cell? ⟨C,8,none⟩=some (.slice (some ⟨ct,0,none⟩) ls.length cc):=by rw [BW.out.cell (p:=⟨C,8,none⟩) hC.lt];exact hC.cell (show 8<9 by decide)
  have X:=Ca.hid (And.intro x7 x8)
  have ZB:Hid (col w1.heap.size=0/\w1.heap.size<wc.heap.size):=⟨HFR.out _ B1.out.size,Nat.lt_of_lt_of_le lu.out BU.out.size⟩
  have Y:=Ca.hid (And.intro ((BU.out.cell (p:=⟨w1.heap.size,0,none⟩) lu.out).trans BP.out.1) (And.intro ((BU.out.cell (p:=⟨w1.heap.size,1,none⟩) lu.out).trans BP.out.2.1) ((BU.out.cell (p:=⟨w1.heap.size,2,none⟩) lu.out).trans BP.out.2.2)))
  clear hC zC k0 k1 k2 cT cW cG1 cG2 hlt x8
  go_wp2
  clear x7
  go_loopw [36] (fun i wq=>∃ j:Nat,j<=ls.length*H/\i=.int .i64 j/\Hid (wq.cell? ⟨C,7,none⟩=some (.slice (some ⟨pb,0,none⟩) (ls.length*H) pc)/\wq.cell? ⟨C,8,none⟩=some (.slice (some ⟨ct,0,none⟩) ls.length cc))/\w1.heap.size<wq.heap.size/\wq.cell? ⟨w1.heap.size,0,none⟩=some (.int .i64 (G:Int))/\wq.cell? ⟨w1.heap.size,1,none⟩=some (.int .i64 (W:Int))/\wq.cell? ⟨w1.heap.size,2,none⟩=some (.slice al ls.length cl) /\
   Hid (PoolAt wq g b n R M)/\Hid (CaAt wq col c g C H D G W ls M L (cn ls.length t 0) (tkt tk N j) q)/\Hid (Chg c g b w wq col col)) (fun i _=>ls.length*H - (intOf i).toNat)
  case atStart =>
   refine ⟨0,Nat.zero_le _,rfl,X.out,ZB.out.2,Y.out.1,Y.out.2.1,Y.out.2.2,HP.out.keep BW.out,?_,Chg.below BW.out HFR.out⟩
   rw [show tkt tk N 0=tk from funext fun i=>by unfold tkt;rw [if_neg (Nat.not_lt_zero _)]]
   exact HC.out.below BW.out
  case round =>
   obtain ⟨j,hj,rfl,XJ,lbx,y0,y1,y2,PJ,CJ,GJ⟩:=hrel
   obtain ⟨al',cl',T',pb',pc',ct',cc',rg',rs',F',hin⟩:=CJ.out.in
   have HJ:=Ca.hid hin
   obtain ⟨⟨hC,zC⟩,-,-,⟨hct,hcl,zct⟩,⟨hpb,hF,hpc,zp⟩,hdis,hrow⟩:=hin
   have e7:wr.cell? ⟨C,7,none⟩=some (.slice (some ⟨pb',0,none⟩) (ls.length*H) pc'):=hC.cell (show 7<9 by decide)
   rw [XJ.out.1] at e7
   have e8:pb=pb'/\pc=pc':=by injection e7 with e;injection e with e1 _ e2;injection e1 with e1;injection e1 with e1;exact ⟨e1,e2⟩
   obtain ⟨rfl,rfl⟩:=e8
   clear e7
   by_cases hlt:j<ls.length*H
   ·obtain ⟨_,_,_,f,l,hring,hll,htv,crg,crs⟩:=hrow j hlt
    have RW:=Ca.hid hring
    have LT:=Ca.hid (And.intro hll htv)
    have xr:wr.cell? ⟨pb,j,none⟩=some (.pointer (some ⟨rg' j,0,none⟩)):=by rw [hpb.cell (show j<pc by omega),hF j hlt]
    have NC:Hid (C<wr.heap.size/\¬ C=rg' j/\¬ C=rs' j):=⟨hC.lt,fun e=>c0 (by rw [<-crg,<-e];exact zC),fun e=>c0 (by rw [<-crs,<-e];exact zC)⟩
    have NB:Hid (¬ w1.heap.size=rg' j/\¬ w1.heap.size=rs' j):=⟨fun e=>c0 (by rw [<-crg,<-e];exact ZB.out.1),fun e=>c0 (by rw [<-crs,<-e];exact ZB.out.1)⟩
    have Y2:=Ca.hid (And.intro y0 (And.intro y1 y2))
    have tl:tkt tk N j j=tk j:=by unfold tkt;rw [if_neg (Nat.lt_irrefl _)]
    have hqj:q j=n1:=by rw [(HQ.out j hlt).1,<-hg,EN.out]
    have hkl:N - n1*G<=l.length:=by
     rw [tl,(HQ.out j hlt).2,hqj] at hll
     omega
    have TL:=Ca.hid (And.intro tl hqj)
    have e1:(j:Int)<(ls.length:Int)*(H:Int):=by rw [<-Int.natCast_mul];omega
    clear hC hct hpb hF hdis hrow hring hll htv tl hqj
    go_wp2_with (first
     | (go_at_call 75;(with_reducible refine (PLN.out _).mono ?_);rintro e w2 ⟨rfl,hb⟩;have B2:=Ca.hid hb;clear hb)
     | (go_at_call 71;(with_reducible refine (Rt.cut_yes (rg' j) (rs' j) (W+G) f (N - n1*G) l _ (RW.out.keep B2.out) hkl).mono ?_);rintro e w3 ⟨rfl,hri,hbt⟩;have RI:=Ca.hid hri;have BT:Hid (Rt.But (rg' j) (rs' j) wr w3):=(Rt.But.of_below B2.out).trans hbt;clear hri hbt))
    go_roundw
    case rel =>
     have tr:=HJ.out.trim (b:=b) GJ.out.fresh c0 hlt LT.out.1 LT.out.2 BT.out RI.out hkl
     refine ⟨j+1,by omega,by go_num,⟨?_,?_⟩,Nat.lt_of_lt_of_le lbx BT.out.size,?_,?_,?_,?_,?_,GJ.out.trans tr.2⟩
     ·rw [BT.out.cell (a:=⟨C,7,none⟩) NC.out.1 NC.out.2.1 NC.out.2.2];exact XJ.out.1
     ·rw [BT.out.cell (a:=⟨C,8,none⟩) NC.out.1 NC.out.2.1 NC.out.2.2];exact XJ.out.2
     ·rw [BT.out.cell (a:=⟨w1.heap.size,0,none⟩) lbx NB.out.1 NB.out.2];exact Y2.out.1
     ·rw [BT.out.cell (a:=⟨w1.heap.size,1,none⟩) lbx NB.out.1 NB.out.2];exact Y2.out.2.1
     ·rw [BT.out.cell (a:=⟨w1.heap.size,2,none⟩) lbx NB.out.1 NB.out.2];exact Y2.out.2.2
     ·exact PJ.out.stand fun y hy=>BT.out.2 y (by rcases hy with h | h | h <;> exact h.lt) (by rcases hy with h | h | h <;> exact h.ne RW.out.tys.1 (by decide)) (by rcases hy with h | h | h <;> exact h.ne RW.out.tys.2 (by decide))
     ·have:=tr.1
      rw [TL.out.2,show n1*G+(N - n1*G)=N by omega,tkt_next] at this
      exact this
    case measure=>simp [intOf];omega
   ·have ej:j=ls.length*H:=Nat.le_antisymm hj (Nat.le_of_not_lt hlt)
    subst ej
    have x8:=XJ.out.2
    have CE:Hid (CaAt wr col c g C H D G W ls M L (cnx ls.length t N 0) (fun i=>(tk i).take N) q):=by
     rw [cnx_zero]
     exact CJ.out.congr fun r hr=>⟨rfl,by unfold tkt;rw [if_pos hr],rfl⟩
    clear hC hct hpb hF hdis hrow y0 y1 y2 HJ CJ
    go_wp2
    clear x8
    go_loopw [51] (fun i wq=>∃ j:Nat,j<=ls.length/\i=.int .i64 j/\wq.cell? ⟨C,8,none⟩=some (.slice (some ⟨ct,0,none⟩) ls.length cc)/\Hid (PoolAt wq g b n R M)/\Hid (CaAt wq col c g C H D G W ls M L (cnx ls.length t N j) (fun i=>(tk i).take N) q)/\Hid (Chg c g b w wq col col)) (fun i _=>ls.length - (intOf i).toNat)
    case atStart=>exact ⟨0,Nat.zero_le _,rfl,XJ.out.2,PJ.out,CE.out,GJ.out⟩
    case round =>
     obtain ⟨j,hj2,rfl,z8,PK,CK,GK⟩:=hrel
     by_cases hlt2:j<ls.length
     ·obtain ⟨al',cl',T',pb',pc',ct',cc',rg',rs',F',hin⟩:=CK.out.in
      have HJ:=Ca.hid hin
      obtain ⟨⟨hC,zC⟩,-,-,⟨hct,hcl,zct⟩,-⟩:=hin
      have e7:wr.cell? ⟨C,8,none⟩=some (.slice (some ⟨ct',0,none⟩) ls.length cc'):=hC.cell (show 8<9 by decide)
      rw [z8] at e7
      have e8:ct=ct'/\cc=cc':=by injection e7 with e;injection e with e1 _ e2;injection e1 with e1;injection e1 with e1;exact ⟨e1,e2⟩
      obtain ⟨rfl,rfl⟩:=e8
      have TC:Hid (Ty wr ct 3):=ty_own hct rfl
      have xk:wr.cell? ⟨ct,j,none⟩=some (.int .i64 ((if j<j then N else t:Nat):Int)):=by rw [hct.cellAt j (by omega),List.getElem?_map,nth_cnx hlt2];rfl
      have xf:=hct.frozenAt j
      have Z8:=Ca.hid z8
      have CN:Hid (¬ C=ct):=hC |> ty_row |>.ne TC.out (by decide)
      clear hC hct e7
      go_wp2
      go_roundw
      case rel =>
       have fin:=HJ.out.count (b:=b) GK.out.fresh c0 j (N:Int)
       rw [cnx_set hlt2] at fin
       refine ⟨j+1,by omega,by go_num,?_,PK.out.far TC.out (by decide) (by decide) (by decide) _ _,fin.1,GK.out.trans fin.2⟩
       rw [World.cell?_of_block (a:=⟨C,8,none⟩) (Below.heap_setCell _ _ _ _ (show C ≠ ct from CN.out))]
       exact Z8.out
      case measure=>simp [intOf];omega
     ·have ej:j=ls.length:=by omega
      subst ej
      go_wp2
      go_ret
      have:=CK.out
      rw [cnx_all] at this
      exact ⟨rfl,PK.out,this,GK.out⟩
end Cc
end Go.Proofs.YtnchnlgnnlgjcaaGreat
