import Derived.Test.YtnchnlgnnlgjcaaGreatCo15
set_option linter.unusedVariables false
namespace Go.Proofs.YtnchnlgnnlgjcaaGreat
open Go.RowKit
theorem AccQ.mono {α:Type} {E:El α} {s:Nat} (hE:Carries s E) {Q Q':Nat->Prop} {B:Nat} {t:TypeId} {w:World} {v:Value} {n:Nat} {l:List α} {xs:List Value} (h:AccQ Q B s t E w v n l xs) (hq:∀ q,Q q->Q' q):AccQ Q' B s t E w v n l xs:=by
 obtain ⟨h1,h2,h3,h4⟩:=h
 exact ⟨h1,h2,h3,fun i hi c hc=>hE _ _ w w c c _ (fun q _ hh=>⟨⟨hq q hh.1,hh.2⟩,rfl⟩) (Nat.le_refl _) (fun _ _ _ h=>h) (h4 i hi c hc)⟩
def Two (B:Nat) (w:World) (v1 v2:Value) (n1 n2:Nat) (l1 l2:List (List Int)) (xs ys:List Value):Prop :=
 ∃ K:Nat->Prop,AccQ K B 1 74 eRow w v1 n1 l1 xs/\AccQ K B 1 74 eRow w v2 n2 l2 ys/\(∀ q,K q->q<w.heap.size/\¬ v1.ownBlock=some q/\¬ v2.ownBlock=some q)/\∀ q,v1.ownBlock=some q->¬ v2.ownBlock=some q
theorem two_nil (B:Nat) (w:World):Two B w (.slice none 0 0) (.slice none 0 0) 0 0 [] [] [] [] :=
 ⟨fun _=>False,acc_nil _ _ _ _ _ _,acc_nil _ _ _ _ _ _,(fun q h=>h.elim),(fun q e=>absurd (show (none:Option Nat)=some q from e) (by simp))⟩
theorem Two.swap {B:Nat} {w:World} {v1 v2:Value} {n1 n2:Nat} {l1 l2:List (List Int)} {xs ys:List Value} (h:Two B w v1 v2 n1 n2 l1 l2 xs ys):Two B w v2 v1 n2 n1 l2 l1 ys xs:=by
 obtain ⟨K,h1,h2,h3,h4⟩:=h
 exact ⟨K,h2,h1,fun q hq=>⟨(h3 q hq).1,(h3 q hq).2.2,(h3 q hq).2.1⟩,fun q e f=>h4 q f e⟩
theorem Two.to {B:Nat} {w u:World} {v1 v2:Value} {n1 n2:Nat} {l1 l2:List (List Int)} {xs ys:List Value} (h:Two B w v1 v2 n1 n2 l1 l2 xs ys) (hb:Below w.heap.size w u):Two B u v1 v2 n1 n2 l1 l2 xs ys:=by
 obtain ⟨K,h1,h2,h3,h4⟩:=h
 exact ⟨K,h1.to carry_row hb,h2.to carry_row hb,fun q hq=>⟨by have:=(h3 q hq).1;have:=hb.size;omega,(h3 q hq).2⟩,h4⟩
theorem Two.own {B:Nat} {w:World} {v1 v2:Value} {n1 n2:Nat} {l1 l2:List (List Int)} {xs ys:List Value} (h:Two B w v1 v2 n1 n2 l1 l2 xs ys):w.ownsRow B 74 1 v1 n1 xs:=by
 obtain ⟨K,h1,_⟩:=h
 exact h1.1
theorem Two.left {B:Nat} {w w1 w2:World} {v1 v2:Value} {n1 n2 m c gg cap:Nat} {a:Option Addr} {row:List Int} {l1 l2:List (List Int)} {xs ys:List Value} {o:Obj} (h:Two B w v1 v2 n1 n2 l1 l2 xs ys) (hb:Below w.heap.size w w1) (hr:Fr w.heap.size w1 a c row) (hm:m=row.length)
 (ho:w2.ownsRow B 74 1 (.slice (some ⟨gg,0,none⟩) (n1+1) cap) (n1+1) (xs ++ [.slice a m c])) (hg:(w1.alloc o).grownBy w2 v1.ownBlock) (hat:v1.ownBlock=some gg\/gg=w1.heap.size+1) :
 Two B w2 (.slice (some ⟨gg,0,none⟩) (n1+1) cap) v2 (n1+1) n2 (l1 ++ [row]) l2 (xs ++ [.slice a m c]) ys:=by
 subst hm
 obtain ⟨K,h1,h2,h3,h4⟩:=h
 have hs:=hb.size
 have hs2:w1.heap.size+1<=w2.heap.size:=by have:=hg.size;simpa using this
 have own1:∀ q,v1.ownBlock=some q->q<w.heap.size:=fun q e=>(h1.1.lt q e).2
 have own2:∀ q,v2.ownBlock=some q->q<w.heap.size:=fun q e=>(h2.1.lt q e).2
 have hK:∀ q,K q->(K q\/(w.heap.size<=q/\q<w1.heap.size)):=fun q hq=>.inl hq
 refine ⟨fun q=>K q\/(w.heap.size<=q/\q<w1.heap.size),?_,?_,fun q hq=>⟨?_,fun e=>?_,fun e=>?_⟩,fun q e f=>?_⟩
 ·refine (((h1.to carry_row hb).mono carry_row hK).to carry_row (box_below w1 o)).snoc carry_row ho rfl hg (by rcases hat with e | e;exact .inl e;right;simp;exact e) fun cc hc=>?_
  refine eRow_old hr.2.1 (by have:=hr.2.2.1;have:=hr.2.1;omega) hr.2.2.2 (hr.1.carry (carry_num _) (fun q q1 q2=>⟨⟨.inr ⟨q2,q1⟩,by simp;omega,fun e=>by have:=own1 q e;omega⟩,(box_below w1 o).block q q1⟩) (by simp)) (by rw [hc 0 (by decide)];rfl)
 ·exact (((h2.to carry_row hb).mono carry_row hK).to carry_row (box_below w1 o)).far carry_row hg fun q e=>⟨fun hq=>by
   rcases hq with hq | hq
   ·exact (h3 q hq).2.1 e
   ·have:=own1 q e;omega,fun f=>h4 q e f⟩
 ·rcases hq with hq | hq
  ·have:=(h3 q hq).1;omega
  ·omega
 ·have e:gg=q:=by injection e
  subst e
  rcases hq with hq | hq
  ·rcases hat with f | f
   ·exact (h3 gg hq).2.1 f
   ·have:=(h3 gg hq).1;omega
  ·rcases hat with f | f
   ·have:=own1 gg f;omega
   ·omega
 ·rcases hq with hq | hq
  ·exact (h3 q hq).2.2 e
  ·have:=own2 q e;omega
 ·have e:gg=q:=by injection e
  subst e
  rcases hat with g | g
  ·exact h4 gg g f
  ·have:=own2 gg f;omega
end Go.Proofs.YtnchnlgnnlgjcaaGreat
namespace Go.Proofs.YtnchnlgnnlgjcaaGreat
open Go.RowKit
theorem wpList_append_slq2 {α:Type} {E:El α} {s:Nat} {P:Program} {w:World} {ops:Array Oper} {rest:List Oper} {o:Oper} {a:Act} {K:Exit->Act->World->Prop} (hE:Carries s E) (hF:Full s E) (hgd:o.guard=none) (so x:Operand) (t:TypeId)
 (ho:o.op=.call { callee:=.builtin .append,args:=#[so,x],argTypes:=#[t,t] })
 (base:Nat) (e:TypeId) (z:Value) (bytes:Nat) (ht:P.underlying t=some (.slice e)) (hinfo:(P.info? e).map (fun i=>(i.zero,i.size,i.bytes))=some (some z,s,bytes)) (hzs:z.cells.size=s) (hsz:0<s)
 (v:Value) (n:Nat) (xs:List Value) (hs:a.eval so=v) (hown:w.ownsRow base e s v n xs)
 {Q:Nat->Prop} (ao:Option Addr) (l:List α) (c:Nat) (hx:a.eval x=.slice ao l.length c) (hL:SlQ Q s E w ao l)
 (h63:n+l.length<=maxLen) (hbytes:(n+l.length)*bytes<=140737488355328) (hbase:base<=w.heap.size) (hne:0<l.length)
 (h:∀ g cap w' news,news.length=l.length*s->(∀ i (hi:i<l.length) (c:Nat->Option Value),(∀ j,j<s->c j=news[i*s+j]?)->E Q w c l[i])->w'.ownsRow base e s (.slice (some ⟨g,0,none⟩) (n+l.length) cap) (n+l.length) (xs ++ news)->w.grownBy w' v.ownBlock->(v.ownBlock=some g\/g=w.heap.size)->wpList P ops K rest (a.put o.dst (.slice (some ⟨g,0,none⟩) (n+l.length) cap)) w'):wpList P ops K (o :: rest) a w:=by
 obtain ⟨i,hi,hz0,hz1,hz2⟩:=info_parts hinfo
 obtain ⟨b,oo,ee,hb,hq,hget⟩:=hL.get hne
 subst ee
 have hcell:∀ j,j<l.length*s->∃ u,w.cell? ⟨b,oo+j,none⟩=some u/\u.oneCell'=true:=fun j hj=>by
  have h1:j / s<l.length:=Nat.div_lt_of_lt_mul (by rw [Nat.mul_comm];exact hj)
  obtain ⟨u,hu,h2⟩:=hF _ _ _ _ (hget (j / s) h1) (j % s) (Nat.mod_lt _ hsz)
  have hu:w.cell? ⟨b,oo+(j / s*s+j % s),none⟩=some u:=hu
  rw [Nat.div_add_mod' j s] at hu
  exact ⟨u,hu,h2⟩
 obtain ⟨news,hnews⟩:∃ news:List Value,news=(List.range (l.length*s)).map fun j=>(w.cell? ⟨b,oo+j,none⟩).getD (.int .i64 0):=⟨_,rfl⟩
 have hlen:news.length=l.length*s:=by rw [hnews];simp
 have hat:∀ j,j<l.length*s->news[j]?=w.cell? ⟨b,oo+j,none⟩:=fun j hj=>by
  obtain ⟨u,hu,_⟩:=hcell j hj
  rw [hnews,List.getElem?_map,List.getElem?_range hj]
  simp [hu]
 refine wpList_append_lies _ hgd so x t ho base e i z s bytes ht hi hz0 hz1 hz2 hzs hsz v n xs hs hown ⟨b,oo,none⟩ l.length c news hx hlen (fun j u hu=>?_) (fun u hu=>?_) hne h63 hbytes hbase w.heap.size rfl
  (fun g cap w' h1 h2 h3 _=>h g cap w' news hlen (fun i hi c hc=>hE Q Q w w _ c _ (fun q _ hq=>⟨hq,rfl⟩) (Nat.le_refl _) (fun j hj v hv=>?_) (hget i hi)) h1 h2 h3)
 ·have hj:j<l.length*s:=by rw [<-hlen];exact (List.getElem?_eq_some_iff.1 hu).1
  rw [Addr.add_lit,<-hat j hj];exact hu
 ·obtain ⟨j,hj,rfl⟩:=List.getElem_of_mem hu
  have hj2:j<l.length*s:=by rw [<-hlen];exact hj
  obtain ⟨u,hu,h2⟩:=hcell j hj2
  have:=hat j hj2
  rw [List.getElem?_eq_getElem hj,hu] at this
  cases this
  exact h2
 ·have:i*s+j<l.length*s:=by
   have:=Nat.mul_le_mul_right s (show i+1<=l.length by omega)
   rw [Nat.add_mul,Nat.one_mul] at this
   omega
  rw [hc j hj,hat _ this]
  exact hv
theorem AccQ.more {α:Type} {E:El α} {s:Nat} (hE:Carries s E) {Q:Nat->Prop} {B m:Nat} {t:TypeId} {u u':World} {v:Value} {n:Nat} {l r:List α} {xs news:List Value} {g cap:Nat} (h:AccQ Q B s t E u v n l xs)
 (ho:u'.ownsRow B t s (.slice (some ⟨g,0,none⟩) (n+m) cap) (n+m) (xs ++ news)) (hm:m=r.length) (hn:news.length=r.length*s) (hg:u.grownBy u' v.ownBlock) (hat:v.ownBlock=some g\/g=u.heap.size)
 (hx:∀ i (hi:i<r.length) (c:Nat->Option Value),(∀ j,j<s->c j=news[i*s+j]?)->E (fun q=>Q q/\q<u.heap.size/\¬ v.ownBlock=some q) u c r[i]):AccQ Q B s t E u' (.slice (some ⟨g,0,none⟩) (n+m) cap) (n+m) (l ++ r) (xs ++ news):=by
 obtain ⟨h1,h2,hl,h4⟩:=h
 have hsz:u.heap.size<=u'.heap.size:=hg.size
 have hk:∀ q,q<u.heap.size->(Q q/\q<u.heap.size/\¬ v.ownBlock=some q)->(Q q/\q<u'.heap.size/\¬ (Value.slice (some ⟨g,0,none⟩) (n+m) cap).ownBlock=some q)/\u'.heap[q]?=u.heap[q]?:=fun q hq ⟨q1,q2,q3⟩=>by
  refine ⟨⟨q1,by omega,fun e=>?_⟩,hg.block q hq fun e=>q3 e.symm⟩
  have e:g=q:=by injection e
  subst e
  rcases hat with e | e
  ·exact q3 e
  ·omega
 refine ⟨ho,by simp [h2,hm],by rw [List.length_append,hl,hn,Nat.add_mul,hm],fun i hi c hc=>?_⟩
 by_cases hlt2:i<l.length
 ·rw [List.getElem_append_left hlt2]
  refine hE _ _ u u' c c _ hk hsz (fun _ _ _ h=>h) (h4 i hlt2 c fun j hj=>?_)
  rw [hc j hj]
  have:i*s+j<xs.length:=by
   rw [hl,h2]
   have:=Nat.mul_le_mul_right s (show i+1<=l.length by omega)
   rw [Nat.add_mul,Nat.one_mul] at this
   omega
  rw [List.getElem?_append_left this]
 ·have hi2:i - l.length<r.length:=by simp at hi;omega
  rw [List.getElem_append_right (by omega)]
  refine hE _ _ u u' c c _ hk hsz (fun _ _ _ h=>h) (hx _ hi2 c fun j hj=>?_)
  have h5:l.length*s<=i*s:=Nat.mul_le_mul_right s (by omega)
  rw [hc j hj,List.getElem?_append_right (by rw [hl,h2];omega),hl,h2,Nat.sub_mul]
  congr 1
  omega
set_option maxHeartbeats 800000 in
theorem listsL_none (a:Option Addr) (c hd:Nat) (w:World) (hd4:hd<1000) :
 Calls Tryz.prog 90 #[.slice a 0 c,.int .i64 (hd:Int)] w fun e w'=>e=.returned (.tuple #[.slice none 0 0,.slice none 0 0])/\Below w.heap.size w w':=by
 go_enter Tryz.func90,Tryz.ntmps90
 go_wp2
 go_loop [6,7,8] (fun v1 v2 i=>v1=.slice none 0 0/\v2=.slice none 0 0/\i=.int .i64 0) (fun _ _ i=>0)
 case atStart=>exact ⟨rfl,rfl,rfl⟩
 case round =>
  obtain ⟨rfl,rfl,rfl⟩:=hrel
  go_wp2
  go_ret2
  exact ⟨rfl,Below.refl _ _⟩
end Go.Proofs.YtnchnlgnnlgjcaaGreat
namespace Go.Proofs.YtnchnlgnnlgjcaaGreat
open Go.RowKit
namespace Ca
def flat (g:Nat) (f:Nat->Nat->List Int) (n:Nat):List (List Int):=(List.range n).flatMap fun i=>(List.range g).map (f i)
theorem flat_succ (g:Nat) (f:Nat->Nat->List Int) (n:Nat):flat g f (n+1)=flat g f n ++ (List.range g).map (f n):=by simp [flat,List.range_succ,List.flatMap_append]
theorem flat_length (g:Nat) (f:Nat->Nat->List Int) (n:Nat):(flat g f n).length=n*g:=by
 induction n with
 | zero=>simp [flat]
 | succ n ih=>rw [flat_succ,List.length_append,ih,Nat.add_mul];simp
theorem some_succ (f:Nat->List Int) (t:Nat):(List.range (t+1)).map f=(List.range t).map f ++ [f t]:=by simp [List.range_succ]
def keyAt (m0 m1 s0 s1 g D ly hd:Nat) (L:List Tok) (i t:Nat):List Int:=Pg.key (pg m0 m1 s0 s1 g D ly hd L i).2.1 t
def valAt (m0 m1 s0 s1 g D ly hd:Nat) (L:List Tok) (i t:Nat):List Int:=Gp.means (Pg.gz (Pg.nth (pg m0 m1 s0 s1 g D ly hd L i).2.2 t)) (Pg.gs (Pg.nth (pg m0 m1 s0 s1 g D ly hd L i).2.2 t)) (Pg.gc (Pg.nth (pg m0 m1 s0 s1 g D ly hd L i).2.2 t))
end Ca
theorem refKeyN_anym (h0 h1 h2 h3 h4 h5 h6:Int) (a1:Option Addr) (m c1:Nat) (av:Option Addr) (nv cv:Nat) (ks:List (Int × Int × List Int)) (n t:Nat) (w:World) (hm:m=ks.length) (ha:Gps w a1 ks) (hl:ks.length<=256) (hd:Pg.Deep n ks) (ht:t<n) :
 Calls Tryz.prog 88 #[.agg #[.int .i64 h0,.int .i64 h1,.int .i64 h2,.int .i64 h3,.int .i64 h4,.int .i64 h5,.int .i64 h6,.slice a1 m c1,.slice av nv cv],.int .i64 t] w fun e w'=>∃ a' c',e=.returned (.slice a' m c') /\
  Fr w.heap.size w' a' c' (Pg.key ks t)/\Below w.heap.size w w':=by
 subst hm
 exact refKeyN_any h0 h1 h2 h3 h4 h5 h6 a1 c1 _ ⟨av,nv,cv,rfl⟩ ks n t w ha hl hd ht
theorem refValueN_anym (h0 h1 h2 h3 h4 h5 h6:Int) (a2:Option Addr) (m c2:Nat) (av:Option Addr) (nv cv:Nat) (vs:List (Int × Int × List Int)) (n t:Nat) (w:World) (hm:m=vs.length) (ha:Gps w a2 vs) (hl:vs.length<=256) (hn:n<=256) (hd:Pg.Deep n vs) (ht:t<vs.length) :
 Calls Tryz.prog 89 #[.agg #[.int .i64 h0,.int .i64 h1,.int .i64 h2,.int .i64 h3,.int .i64 h4,.int .i64 h5,.int .i64 h6,.slice av nv cv,.slice a2 m c2],.int .i64 t] w fun e w'=>∃ a' c',e=.returned (.slice a' n c') /\
  Fr w.heap.size w' a' c' (Gp.means (Pg.gz (Pg.nth vs t)) (Pg.gs (Pg.nth vs t)) (Pg.gc (Pg.nth vs t)))/\Below w.heap.size w w':=by
 subst hm
 exact refValueN_any h0 h1 h2 h3 h4 h5 h6 a2 c2 _ ⟨av,nv,cv,rfl⟩ vs n t w ha hl hn hd ht
def NineAt (w:World) (b o k:Nat) (m0 m1 n d h4 h5 h6:Int) (A:Option Addr) (nk C:Nat) (A2:Option Addr) (nv C2:Nat):Prop :=
 w.cell? ⟨b,o+k*9,none⟩=some (.int .i64 m0)/\w.cell? ⟨b,o+k*9+1,none⟩=some (.int .i64 m1)/\w.cell? ⟨b,o+k*9+2,none⟩=some (.int .i64 n)/\w.cell? ⟨b,o+k*9+3,none⟩=some (.int .i64 d) /\
  w.cell? ⟨b,o+k*9+4,none⟩=some (.int .i64 h4)/\w.cell? ⟨b,o+k*9+5,none⟩=some (.int .i64 h5)/\w.cell? ⟨b,o+k*9+6,none⟩=some (.int .i64 h6)/\w.cell? ⟨b,o+k*9+7,none⟩=some (.slice A nk C)/\w.cell? ⟨b,o+k*9+8,none⟩=some (.slice A2 nv C2)
theorem NineAt.keep {w w':World} {b o k:Nat} {m0 m1 n d h4 h5 h6:Int} {A A2:Option Addr} {nk C nv C2:Nat} (h:NineAt w b o k m0 m1 n d h4 h5 h6 A nk C A2 nv C2) (hb:Below w.heap.size w w'):NineAt w' b o k m0 m1 n d h4 h5 h6 A nk C A2 nv C2:=by
 obtain ⟨q0,q1,q2,q3,q4,q5,q6,q7,q8⟩:=h
 have hl:=World.block_lt_of_cell? w _ q0
 refine ⟨?_,?_,?_,?_,?_,?_,?_,?_,?_⟩ <;> (rw [hb.cell (by exact hl)];assumption)
theorem listsL_nonem (a:Option Addr) (m c hd:Nat) (w:World) (hm:m=0) (hd4:hd<1000) :
 Calls Tryz.prog 90 #[.slice a m c,.int .i64 (hd:Int)] w fun e w'=>e=.returned (.tuple #[.slice none 0 0,.slice none 0 0])/\Below w.heap.size w w':=by
 subst hm
 exact listsL_none a c hd w hd4
theorem listsL_anyq {Q:Nat->Prop} (a:Option Addr) (m c:Nat) (L:List Tok) (hd:Nat) (w:World) (hm:m=L.length) (h:SlQ Q 2 eTok w a L) (hl:L.length<=100000) (hh:∀ k (hk:k<L.length),hd<(L[k]).1.length/\hd<(L[k]).2.length) (hd4:hd<1000) :
 Calls Tryz.prog 90 #[.slice a m c,.int .i64 (hd:Int)] w fun e w'=>∃ a1 c1 a2 c2,e=.returned (.tuple #[.slice a1 m c1,.slice a2 m c2])/\SlQ (fun q=>Q q/\q<w.heap.size\/w.heap.size<=q) 1 eRow w' a1 (Ca.ksOf L hd)/\SlQ (fun q=>Q q/\q<w.heap.size\/w.heap.size<=q) 1 eRow w' a2 (Ca.vsOf L hd)/\Below w.heap.size w w':=by
 subst hm
 refine (listsL_any a c L hd w h hl hh hd4).mono ?_
 rintro e w' ⟨v1,v2,xs,ys,rfl,h1,h2,_,hb⟩
 obtain ⟨a1,c1,rfl,s1,_⟩:=h1.slq carry_row (Q':=fun q=>Q q/\q<w.heap.size\/w.heap.size<=q) (fun _ h=>.inr h) (fun _ h=>.inl h)
 obtain ⟨a2,c2,rfl,s2,_⟩:=h2.slq carry_row (Q':=fun q=>Q q/\q<w.heap.size\/w.heap.size<=q) (fun _ h=>.inr h) (fun _ h=>.inl h)
 exact ⟨a1,c1,a2,c2,rfl,s1,s2,hb⟩
theorem SlQ.rest {α:Type} {E:El α} {Q:Nat->Prop} {s:Nat} {w:World} {a a':Option Addr} {l:List α} (h:SlQ Q s E w a l) (t:Nat) (ha:t<l.length->∀ b o,a=some ⟨b,o,none⟩->a'=some ⟨b,o+t*s,none⟩):SlQ Q s E w a' (l.drop t):=by
 have h2:=h.from t l.length ha
 rwa [List.take_of_length_le (by simp)] at h2
theorem wpList_append_rows {P:Program} {w:World} {ops:Array Oper} {rest:List Oper} {o:Oper} {a:Act} {K:Exit->Act->World->Prop} (hgd:o.guard=none) (so x:Operand) (t:TypeId)
 (ho:o.op=.call { callee:=.builtin .append,args:=#[so,x],argTypes:=#[t,t] })
 (base:Nat) (e:TypeId) (ht:P.underlying t=some (.slice e)) (hinfo:(P.info? e).map (fun i=>(i.zero,i.size,i.bytes))=some (some (.slice none 0 0),1,24))
 (v:Value) (n m N:Nat) (xs:List Value) (hs:a.eval so=v) (hown:w.ownsRow base e 1 v n xs)
 {Q:Nat->Prop} (ao:Option Addr) (l:List (List Int)) (c:Nat) (hm:m=l.length) (hN:N=n+m) (hx:a.eval x=.slice ao m c) (hL:SlQ Q 1 eRow w ao l)
 (hsm:n+m<=100000) (hbase:base<=w.heap.size) (hne:0<m)
 (h:∀ g cap w' news,news.length=l.length*1->(∀ i (hi:i<l.length) (c:Nat->Option Value),(∀ j,j<1->c j=news[i*1+j]?)->eRow Q w c l[i])->w'.ownsRow base e 1 (.slice (some ⟨g,0,none⟩) (n+m) cap) (n+m) (xs ++ news)->w.grownBy w' v.ownBlock->(v.ownBlock=some g\/g=w.heap.size)->wpList P ops K rest (a.put o.dst (.slice (some ⟨g,0,none⟩) N cap)) w'):wpList P ops K (o :: rest) a w:=by
 subst hm hN
 exact wpList_append_slq2 carry_row (full_sl 1 (eNum .i32)) hgd so x t ho base e (.slice none 0 0) 24 ht hinfo rfl (by decide) v n xs hs hown ao l c hx hL (by unfold maxLen;omega) (by omega) hbase hne h
theorem Two.rest {B:Nat} {w w3:World} {v1 v2:Value} {n1 n2 m gg cap:Nat} {l1 l2 r:List (List Int)} {xs ys news:List Value} {R:Nat->Prop} (h:Two B w v1 v2 n1 n2 l1 l2 xs ys) (hm:m=r.length) (hn:news.length=r.length*1)
 (hR:∀ q,R q->q<w.heap.size->¬ v1.ownBlock=some q/\¬ v2.ownBlock=some q) (ho:w3.ownsRow B 74 1 (.slice (some ⟨gg,0,none⟩) (n1+m) cap) (n1+m) (xs ++ news)) (hg:w.grownBy w3 v1.ownBlock) (hat:v1.ownBlock=some gg\/gg=w.heap.size)
 (hx:∀ i (hi:i<r.length) (c:Nat->Option Value),(∀ j,j<1->c j=news[i*1+j]?)->eRow R w c r[i]):Two B w3 (.slice (some ⟨gg,0,none⟩) (n1+m) cap) v2 (n1+m) n2 (l1 ++ r) l2 (xs ++ news) ys:=by
 obtain ⟨K,h1,h2,h3,h4⟩:=h
 have hs2:=hg.size
 have own1:∀ q,v1.ownBlock=some q->q<w.heap.size:=fun q e=>(h1.1.lt q e).2
 have own2:∀ q,v2.ownBlock=some q->q<w.heap.size:=fun q e=>(h2.1.lt q e).2
 have hK:∀ q,K q->(K q\/(R q/\q<w.heap.size)):=fun q hq=>.inl hq
 refine ⟨fun q=>K q\/(R q/\q<w.heap.size),?_,?_,fun q hq=>⟨?_,fun e=>?_,fun e=>?_⟩,fun q e f=>?_⟩
 ·exact (h1.mono carry_row hK).more carry_row ho hm hn hg hat fun i hi c hc=>carry_row _ _ w w c c _ (fun q hq hr=>⟨⟨.inr ⟨hr,hq⟩,hq,(hR q hr hq).1⟩,rfl⟩) (Nat.le_refl _) (fun _ _ _ h=>h) (hx i hi c hc)
 ·exact (h2.mono carry_row hK).far carry_row hg fun q e=>⟨fun hq=>by
   rcases hq with hq | hq
   ·exact (h3 q hq).2.1 e
   ·exact (hR q hq.1 hq.2).1 e,fun f=>h4 q e f⟩
 ·rcases hq with hq | hq
  ·have:=(h3 q hq).1;omega
  ·omega
 ·have e:gg=q:=by injection e
  subst e
  rcases hq with hq | hq
  ·rcases hat with f | f
   ·exact (h3 gg hq).2.1 f
   ·have:=(h3 gg hq).1;omega
  ·rcases hat with f | f
   ·exact (hR gg hq.1 hq.2).1 f
   ·omega
 ·rcases hq with hq | hq
  ·exact (h3 q hq).2.2 e
  ·exact (hR q hq.1 hq.2).2 e
 ·have e:gg=q:=by injection e
  subst e
  rcases hat with g | g
  ·exact h4 gg g f
  ·have:=own2 gg f;omega
theorem SlQ.page {Q:Nat->Prop} {w:World} {a:Option Addr} {l:List (List Int × List G3 × List G3)} (h:SlQ Q 9 ePg w a l) {k:Nat} (hk:k<l.length) {m0 m1 n d h4 h5 h6:Int} {ks vs:List G3} (e:l[k]=([m0,m1,n,d,h4,h5,h6],ks,vs)) :
 ∃ b o A C A2 C2,a=some ⟨b,o,none⟩/\NineAt w b o k m0 m1 n d h4 h5 h6 A ks.length C A2 vs.length C2/\Gps w A ks/\Gps w A2 vs:=by
 obtain ⟨b,o,ea,_,_,h0,⟨A,C,c7,s7⟩,A2,C2,c8,s8⟩:=h k hk
 rw [e] at h0 c7 s7 c8 s8
 exact ⟨b,o,A,C,A2,C2,ea,⟨h0 0 (by decide),h0 1 (by decide),h0 2 (by decide),h0 3 (by decide),h0 4 (by decide),h0 5 (by decide),h0 6 (by decide),c7,c8⟩,s7.gps,s8.gps⟩
set_option maxRecDepth 100000 in
set_option maxHeartbeats 3200000 in
theorem viewL_any {Q:Nat->Prop} (H D g win m0 m1 s0 s1 ly hd G:Nat) (al:Option Addr) (ls:List (Int × Int)) (cl:Nat) (a:Option Addr) (c:Nat) (L:List Tok) (w:World) (st0:Gp.St m0 s0) (st1:Gp.St m1 s1)
 (hp:Tn.Tr.Ps w al ls) (hly:ly<ls.length) (f0:Tn.Tr.fst ls ly=(m0:Int)) (f1:Tn.Tr.snd ls ly=(m1:Int)) (hls:ls.length<=4) (h:SlQ Q 2 eTok w a L) (hc:L.length<=c) (hl:L.length<=1000) (hd4:hd<4)
 (hg:1<=g) (hg2:g<=16) (hw:win<=64) (hD:1<=D) (hD2:D<=16) (hG:Tn.Tr.grp g win (L.length:Int)=(G:Int)) (hGL:G*g<=L.length)
 (ht:∀ k (hk:k<L.length),hd<(L[k]).1.length/\hd<(L[k]).2.length/\(Ca.nt (L[k]).1 hd).length=D/\(Ca.nt (L[k]).2 hd).length=D/\Ls.In32 (Ca.nt (L[k]).1 hd)/\Ls.In32 (Ca.nt (L[k]).2 hd))
 (dk:∀ i,i<G->Pg.Deep g (Ca.pg m0 m1 s0 s1 g D ly hd L i).2.1/\Pg.Deep D (Ca.pg m0 m1 s0 s1 g D ly hd L i).2.2/\(Ca.pg m0 m1 s0 s1 g D ly hd L i).2.1.length=D/\(Ca.pg m0 m1 s0 s1 g D ly hd L i).2.2.length=g) :
 Calls Tryz.prog 49 #[.agg #[.int .i64 (H:Int),.int .i64 (D:Int),.int .i64 (g:Int),.int .i64 (win:Int),.slice al ls.length cl],.slice a L.length c,.int .i64 (ly:Int),.int .i64 (hd:Int)] w fun e w' =>
  ∃ a1 c1 a2 c2 n,n=L.length/\e=.returned (.tuple #[.slice a1 n c1,.slice a2 n c2])/\Tbl w' a1 (Ca.flat g (Ca.keyAt m0 m1 s0 s1 g D ly hd L) G ++ Ca.ksOf (L.drop (G*g)) hd)/\Tbl w' a2 (Ca.flat g (Ca.valAt m0 m1 s0 s1 g D ly hd L) G ++ Ca.vsOf (L.drop (G*g)) hd)/\Below w.heap.size w w':=by
 obtain ⟨i1,hi10,hi11,hi12,hi13⟩:=info_parts Ca.infoRow
 have HR:Hid (SlQ Q 2 eTok w a L):=h
 have HP:Hid (Tn.Tr.Ps w al ls):=hp
 have HT:=Ca.hid ht
 have HG:=Ca.hid hG
 have F0:=Ca.hid f0
 have F1:=Ca.hid f1
 have GL:=Ca.hid hGL
 have DK:=Ca.hid dk
 clear h hp ht hG f0 f1 hGL dk
 go_enter Tryz.func49,Tryz.ntmps49
 go_wp2_with (go_at_call 87;refine (pagesL_any (Q:=Q) H D g win m0 m1 s0 s1 ly hd G al ls cl a c L _ st0 st1 (HP.out.keep (box_below _ _)) hly F0.out F1.out hls (HR.out.keep carry_tok (box_below _ _)) hc hl hd4 hg hg2 hw hD hD2 HG.out GL.out HT.out).mono ?_;rintro e w1 ⟨v,zs,rfl,AQ,hb⟩;obtain ⟨pa,pc,rfl,sp,-,-,-⟩:=AQ.slq carry_pg (Q':=fun _=>True) (fun _ _=>trivial) (fun _ _=>trivial);have SP:=Ca.hid sp;have SH:Hid (ShAt w1 w.heap.size H D g win al ls.length cl):=(ShAt.made w H D g win al ls.length cl 39).keep hb;have B1:Hid (Below w.heap.size w w1):=below_then (box_below _ _) hb;clear AQ hb sp)
 go_loopw [10,11,13] (fun kv vv i wq=>∃ (i':Nat) (xs ys:List Value),i'<=G/\i=.int .i64 i'/\Hid (Two w1.heap.size wq kv vv (i'*g) (i'*g) (Ca.flat g (Ca.keyAt m0 m1 s0 s1 g D ly hd L) i') (Ca.flat g (Ca.valAt m0 m1 s0 s1 g D ly hd L) i') xs ys)/\Hid (Below w1.heap.size w1 wq)) (fun _ _ i _=>G - (intOf i).toNat)
 case atStart=>exact ⟨0,[],[],Nat.zero_le _,rfl,by rw [Nat.zero_mul];exact two_nil _ _,Below.refl _ _⟩
 case round =>
  obtain ⟨i',xs,ys,hi,rfl,TW,B2⟩:=hrel
  have hG1:G<=1000:=by have:=Nat.le_mul_of_pos_right G hg;have:=GL.out;omega
  by_cases hlt:i'<G
  ·have hig:i'*g<=1000:=by have:=Nat.mul_le_mul_right g hi;have:=GL.out;omega
   go_wp2
   go_loopw [10,11,14] (fun kv vv t wq=>∃ (t':Nat) (xs ys:List Value),t'<=g/\t=.int .i64 t'/\Hid (Two w1.heap.size wq kv vv (i'*g+t') (i'*g+t') (Ca.flat g (Ca.keyAt m0 m1 s0 s1 g D ly hd L) i' ++ (List.range t').map ((Ca.keyAt m0 m1 s0 s1 g D ly hd L) i')) (Ca.flat g (Ca.valAt m0 m1 s0 s1 g D ly hd L) i' ++ (List.range t').map ((Ca.valAt m0 m1 s0 s1 g D ly hd L) i')) xs ys)/\Hid (Below w1.heap.size w1 wq)) (fun _ _ t _=>g - (intOf t).toNat)
   case atStart=>exact ⟨0,xs,ys,Nat.zero_le _,rfl,by have h:=TW.out;show Two _ _ _ _ _ _ _ _ _ _;simpa using h,B2.out⟩
   case round =>
    obtain ⟨t',xs,ys,ht,rfl,TW,B2⟩:=hrel
    obtain ⟨z0,z1,z2,z3,z4⟩:=SH.out.keep B2.out
    by_cases htl:t'<g
    ·obtain ⟨pb,po,A,C,A2,C2,rfl,n9,q7,q8⟩:=SP.out.page (k:=i') (by rw [Ca.pgs_length];exact hlt) (m0:=m0) (m1:=m1) (n:=g) (d:=D) (h4:=ly) (h5:=hd) (h6:=i') (ks:=(Ca.pg m0 m1 s0 s1 g D ly hd L i').2.1) (vs:=(Ca.pg m0 m1 s0 s1 g D ly hd L i').2.2) (by simp [Ca.pgs,Ca.pg])
     obtain ⟨dk,dv,lk,lv⟩:=DK.out i' hlt
     rw [lk,lv] at n9
     have N9:=Ca.hid n9
     obtain ⟨p0,p1,p2,p3,p4,p5,p6,p7,p8⟩:=N9.out.keep B2.out
     clear n9
     have Q7:=Ca.hid q7
     have Q8:=Ca.hid q8
     have DKi:=Ca.hid dk
     have DVi:=Ca.hid dv
     have LKi:=Ca.hid lk
     have LVi:=Ca.hid lv
     have hs:=B2.out.size
     clear q7 q8 dk dv lk lv
     go_wp2_with (first
      | (go_at_call 88;refine (refKeyN_anym _ _ _ _ _ _ _ A D C A2 g C2 _ g t' _ LKi.out.symm (Q7.out.keep B2.out) (by rw [LKi.out];omega) DKi.out htl).mono ?_;rintro e wk ⟨ak,ck,rfl,fr,hb⟩;have FK:=Ca.hid fr;have BK:=Ca.hid hb;have sk:=hb.size;clear fr hb)
      | (at_builtin;refine wpList_append_lies _ rfl _ _ _ rfl w1.heap.size 74 i1 _ 1 24 Tryz.underlying42 hi10 hi11 hi12 hi13 rfl (by omega) _ (i'*g+t') xs (by rfl) (((TW.out.to BK.out).to (box_below _ _)).own) ⟨wk.heap.size,0,none⟩ 1 1 [.slice ak D ck] (by rfl) (by rfl) (World.news_of_block (cs:=#[.slice ak D ck]) (t:=74) (fr:=(0,0)) (heap_alloc_new wk _)) (fun x hx=>by simp at hx;subst hx;rfl) (by omega) (by unfold maxLen;omega) (by omega) (by simp;omega) (wk.heap.size+1) (by simp) ?_;intro ggp capp wp hown hgrow hat hlt1;have Op:Hid (wp.ownsRow w1.heap.size 74 1 (.slice (some ⟨ggp,0,none⟩) (i'*g+t'+1) capp) (i'*g+t'+1) (xs ++ [.slice ak D ck])):=hown;have GrP:Hid ((wk.alloc (.cells #[.slice ak D ck] 74)).grownBy wp u10.ownBlock):=hgrow;have Tp:Hid (u10.ownBlock=some ggp\/ggp=wk.heap.size+1):=hat;clear hown hgrow hat hlt1;have Tp2:=Ca.hid (TW.out.left BK.out FK.out (m:=D) (by rw [Pg.key_length];exact LKi.out.symm) Op.out GrP.out Tp.out);have sp:wk.heap.size+1<=wp.heap.size:=(by have h3:=GrP.out.size;simpa using h3);have BP:Hid (Below w1.heap.size w1 wp):=((B2.out.trans (BK.out.mono hs)).alloc (by omega) _).grown GrP.out (by simp;omega) (fun q hq=>((TW.out.own.lt q hq).1));clear p0 p1 p2 p3 p4 p5 p6 p7 p8 z0 z1 z2 z3 z4;obtain ⟨p0,p1,p2,p3,p4,p5,p6,p7,p8⟩:=N9.out.keep BP.out;obtain ⟨z0,z1,z2,z3,z4⟩:=SH.out.keep BP.out)
      | (go_at_call 89;refine (refValueN_anym _ _ _ _ _ _ _ A2 g C2 A D C _ D t' _ LVi.out.symm (Q8.out.keep BP.out) (by rw [LVi.out];omega) (by omega) DVi.out (by rw [LVi.out];exact htl)).mono ?_;rintro e wv ⟨av,cv,rfl,fr,hb⟩;have FV:=Ca.hid fr;have BV:=Ca.hid hb;have sv:=hb.size;clear fr hb)
      | (at_builtin;refine wpList_append_lies _ rfl _ _ _ rfl w1.heap.size 74 i1 _ 1 24 Tryz.underlying42 hi10 hi11 hi12 hi13 rfl (by omega) _ (i'*g+t') ys (by rfl) (((Tp2.out.swap.to BV.out).to (box_below _ _)).own) ⟨wv.heap.size,0,none⟩ 1 1 [.slice av D cv] (by rfl) (by rfl) (World.news_of_block (cs:=#[.slice av D cv]) (t:=74) (fr:=(0,0)) (heap_alloc_new wv _)) (fun x hx=>by simp at hx;subst hx;rfl) (by omega) (by unfold maxLen;omega) (by omega) (by simp;omega) (wv.heap.size+1) (by simp) ?_;intro ggr capr wr hown hgrow hat hlt1;have Or:Hid (wr.ownsRow w1.heap.size 74 1 (.slice (some ⟨ggr,0,none⟩) (i'*g+t'+1) capr) (i'*g+t'+1) (ys ++ [.slice av D cv])):=hown;have Gr:Hid ((wv.alloc (.cells #[.slice av D cv] 74)).grownBy wr u11.ownBlock):=hgrow;have Tr:Hid (u11.ownBlock=some ggr\/ggr=wv.heap.size+1):=hat;clear hown hgrow hat hlt1))
     go_roundw
     case rel =>
      have hm:D=(Gp.means (Pg.gz (Pg.nth (Ca.pg m0 m1 s0 s1 g D ly hd L i').2.2 t')) (Pg.gs (Pg.nth (Ca.pg m0 m1 s0 s1 g D ly hd L i').2.2 t')) (Pg.gc (Pg.nth (Ca.pg m0 m1 s0 s1 g D ly hd L i').2.2 t'))).length:=by rw [Gp.means_length];exact ((DVi.out t' (by rw [LVi.out];exact htl)).1).symm
      have TT:=(Tp2.out.swap.left BV.out FV.out hm Or.out Gr.out Tr.out).swap
      refine ⟨t'+1,xs ++ [.slice ak D ck],ys ++ [.slice av D cv],by omega,by go_num,?_,?_⟩
      ·rw [Ca.some_succ,Ca.some_succ,<-List.append_assoc,<-List.append_assoc]
       exact TT
      ·exact ((BP.out.trans (BV.out.mono (by have:=BP.out.size;omega))).alloc (by have:=BP.out.size;omega) _).grown Gr.out (by have:=BP.out.size;simp;omega) (fun q hq=>((Tp2.out.swap.own.lt q hq).1))
     case measure=>simp [intOf];omega
    ·have et:t'=g:=by omega
     subst et
     go_wp2
     go_roundw
     case rel=>exact ⟨i'+1,xs,ys,by omega,by go_num,by rw [Ca.flat_succ,Ca.flat_succ,Nat.add_mul,Nat.one_mul];exact TW.out,B2.out⟩
     case measure=>simp [intOf];omega
  ·have ei:i'=G:=by omega
   subst ei
   have hGg:=GL.out
   obtain ⟨ka,kc,rfl⟩:=Ca.own_slice TW.out.own
   obtain ⟨va,vc,rfl⟩:=Ca.own_slice TW.out.swap.own
   by_cases hz:L.length=i'*g
   ·have e0:L.length - i'*g=0:=by omega
    have ed:L.drop (i'*g)=[]:=by rw [List.drop_eq_nil_iff];omega
    go_wp2_with (first
     | (go_at_call 90;refine (listsL_nonem _ _ _ hd _ (by omega) (by omega)).mono ?_;rintro e w2 ⟨rfl,hb⟩;have BL:=Ca.hid hb;clear hb)
     | (at_builtin;refine wpList_append_own_none rfl _ _ _ rfl w1.heap.size 74 i1 1 Tryz.underlying42 hi10 _ _ xs (by rfl) ((TW.out.to BL.out).own) (by rfl) ?_)
     | (at_builtin;refine wpList_append_own_none rfl _ _ _ rfl w1.heap.size 74 i1 1 Tryz.underlying42 hi10 _ _ ys (by rfl) ((TW.out.swap.to BL.out).own) (by rfl) ?_))
    all_goals
     go_ret2
     obtain ⟨K,A1,A2,_,_⟩:=TW.out.to BL.out
     obtain ⟨a1,c1,e1,s1,_⟩:=A1.slq carry_row (Q':=fun _=>True) (fun _ _=>trivial) (fun _ _=>trivial)
     obtain ⟨a2,c2,e2,s2,_⟩:=A2.slq carry_row (Q':=fun _=>True) (fun _ _=>trivial) (fun _ _=>trivial)
     cases e1
     cases e2
     refine ⟨_,_,_,⟨_,rfl⟩,?_,?_,(B1.out.trans (B2.out.mono B1.out.size)).trans (BL.out.mono (by have:=B1.out.size;have:=B2.out.size;omega))⟩
     ·simpa [Ca.ksOf] using s1.tbl
     ·simpa [Ca.vsOf] using s2.tbl
   ·have hr:0<L.length - i'*g:=by omega
    have hcn:¬ c=i'*g:=by omega
    have LD:Hid (L.length - i'*g=(L.drop (i'*g)).length):=by show _=_;simp
    have LN:Hid (L.length=i'*g+(L.length - i'*g)):=by show _=_;omega
    have LK:Hid (L.length - i'*g=(Ca.ksOf (L.drop (i'*g)) hd).length/\L.length - i'*g=(Ca.vsOf (L.drop (i'*g)) hd).length):=by constructor <;> simp [Ca.ksOf,Ca.vsOf]
    have HDD:Hid (∀ j (hj:j<(L.drop (i'*g)).length),hd<((L.drop (i'*g))[j]).1.length/\hd<((L.drop (i'*g))[j]).2.length):=fun j hj=>by
     have hj2:i'*g+j<L.length:=by rw [<-LD.out] at hj;omega
     rw [List.getElem_drop]
     exact ⟨(HT.out _ hj2).1,(HT.out _ hj2).2.1⟩
    have WB1:Hid (Below w.heap.size w wr):=B1.out.trans (B2.out.mono B1.out.size)
    have HX:Hid (SlQ (fun q=>Q q/\q<w.heap.size) 2 eTok wr a L):=HR.out.carry carry_tok (fun q h1 h2=>⟨⟨h2,h1⟩,WB1.out.block q h1⟩) WB1.out.size
    have hs1:=B1.out.size
    have hs2:=B2.out.size
    go_wp2_with (first
     | (go_at_call 90;refine (listsL_anyq _ _ _ (L.drop (i'*g)) hd _ LD.out (HX.out.rest (i'*g) (fun _ b o e=>by rw [e];simp [Addr.add])) (by have:=LD.out;omega) HDD.out (by omega)).mono ?_;rintro e w2 ⟨ra,rc,rb,rd,rfl,s1,s2,hb⟩;have BL:=Ca.hid hb;have sl:=hb.size;have S1:Hid (SlQ (fun q=>q<w.heap.size\/wr.heap.size<=q/\q<w2.heap.size) 1 eRow w2 ra (Ca.ksOf (L.drop (i'*g)) hd)):=s1.carry carry_row (fun q q1 q2=>⟨by omega,rfl⟩) (Nat.le_refl _);have S2:Hid (SlQ (fun q=>q<w.heap.size\/wr.heap.size<=q/\q<w2.heap.size) 1 eRow w2 rb (Ca.vsOf (L.drop (i'*g)) hd)):=s2.carry carry_row (fun q q1 q2=>⟨by omega,rfl⟩) (Nat.le_refl _);clear hb s1 s2)
     | (at_builtin;refine wpList_append_rows rfl _ _ 42 rfl w1.heap.size 74 Tryz.underlying42 Ca.infoRow _ (i'*g) (L.length - i'*g) L.length xs (by rfl) ((TW.out.to BL.out).own) ra (Ca.ksOf (L.drop (i'*g)) hd) rc LK.out.1 LN.out (by rfl) S1.out (by omega) (by omega) hr ?_;intro gp cp wp news hnl hne hown hgrow hat;have T3:=Ca.hid ((TW.out.to BL.out).rest LK.out.1 hnl (fun q hq hq2=>⟨fun e=>by have:=TW.out.own.lt q e;omega,fun e=>by have:=TW.out.swap.own.lt q e;omega⟩) hown hgrow hat hne);have S2p:Hid (SlQ (fun q=>q<w.heap.size\/wr.heap.size<=q/\q<w2.heap.size) 1 eRow wp rb (Ca.vsOf (L.drop (i'*g)) hd)):=S2.out.carry carry_row (fun q q1 q2=>⟨q2,hgrow.block q q1 fun e=>by have:=TW.out.own.lt q e.symm;omega⟩) hgrow.size;have BP:Hid (Below w1.heap.size w1 wp):=(B2.out.trans (BL.out.mono hs2)).grown hgrow (by omega) (fun q hq=>(TW.out.own.lt q hq).1);have gpl:Hid ((Value.slice ka (i'*g) kc).ownBlock=some gp\/gp=w2.heap.size):=hat;have spl:=hgrow.size;clear hne hown hgrow hat hnl)
     | (at_builtin;refine wpList_append_rows rfl _ _ 42 rfl w1.heap.size 74 Tryz.underlying42 Ca.infoRow _ (i'*g) (L.length - i'*g) L.length ys (by rfl) (T3.out.swap.own) rb (Ca.vsOf (L.drop (i'*g)) hd) rd LK.out.2 LN.out (by rfl) S2p.out (by omega) (by omega) hr ?_;intro gq cq wq news2 hnl hne hown hgrow hat;have T4:=Ca.hid ((T3.out.swap.rest LK.out.2 hnl (fun q hq hq2=>⟨fun e=>by have:=TW.out.swap.own.lt q e;omega,fun e=>by
         have e:gp=q:=by injection e
         rcases gpl.out with f | f
         ·have:=TW.out.own.lt gp f;omega
         ·omega⟩) hown hgrow hat hne).swap);have BQ:Hid (Below w1.heap.size w1 wq):=BP.out.grown hgrow (by omega) (fun q hq=>(TW.out.swap.own.lt q hq).1);clear hne hown hgrow hat hnl))
    go_ret2
    obtain ⟨K,A1,A2,_,_⟩:=T4.out
    obtain ⟨a1,c1,e1,t1,_⟩:=A1.slq carry_row (Q':=fun _=>True) (fun _ _=>trivial) (fun _ _=>trivial)
    obtain ⟨a2,c2,e2,t2,_⟩:=A2.slq carry_row (Q':=fun _=>True) (fun _ _=>trivial) (fun _ _=>trivial)
    cases e1
    cases e2
    exact ⟨_,_,_,_,L.length,rfl,rfl,t1.tbl,t2.tbl,B1.out.trans (BQ.out.mono hs1)⟩
end Go.Proofs.YtnchnlgnnlgjcaaGreat
