import Derived.Test.YtnchnlgnnlgjcaaGreatCa10
import Derived.Laws.AppendOwnNone
import Derived.Deep.AppendLies
import Derived.Test.YtnchnlgnnlgjcaaGreatCa03
import Derived.Test.YtnchnlgnnlgjcaaGreatCa04
import Derived.Lib.AtoiAll
import Derived.Lib.ItoaMem
import Derived.Lib.CutLaws
import Derived.Lib.Strings
set_option linter.unusedVariables false
namespace Go.Proofs.YtnchnlgnnlgjcaaGreat
open Go.RowKit
def AccQ {α:Type} (Q:Nat->Prop) (B s:Nat) (t:TypeId) (E:El α) (w:World) (v:Value) (n:Nat) (l:List α) (xs:List Value):Prop :=
 w.ownsRow B t s v n xs/\n=l.length/\xs.length=n*s /\
  ∀ i (h:i<l.length) (c:Nat->Option Value),(∀ j,j<s->c j=xs[i*s+j]?)->E (fun q=>Q q/\q<w.heap.size/\¬ v.ownBlock=some q) w c l[i]
theorem acc_nil {α:Type} (Q:Nat->Prop) (B s:Nat) (t:TypeId) (E:El α) (w:World):AccQ Q B s t E w (.slice none 0 0) 0 [] [] :=
 ⟨World.ownsRow_nil _ _ _ _,rfl,by simp,fun i h=>by simp at h⟩
theorem AccQ.slq {α:Type} {E:El α} {s:Nat} (hE:Carries s E) {Q Q':Nat->Prop} {B:Nat} {t:TypeId} {w:World} {v:Value} {n:Nat} {l:List α} {xs:List Value} (h:AccQ Q B s t E w v n l xs) (hB:∀ q,B<=q->Q' q) (hQ:∀ q,Q q->Q' q) :
 ∃ a cap,v=.slice a n cap/\SlQ Q' s E w a l/\n<=cap/\cap<=maxLen/\(a=none->cap=0):=by
 obtain ⟨h1,h2,_,h4⟩:=h
 exact slq_of_own h1 h2 (fun q hq=>hB q (h1.lt q hq).1) fun i hi c hc=>hE _ _ w w c c _ (fun q _ hq=>⟨hQ q hq.1,rfl⟩) (Nat.le_refl _) (fun _ _ _ h=>h) (h4 i hi c hc)
theorem AccQ.other {α:Type} {E:El α} {s:Nat} (hE:Carries s E) {Q:Nat->Prop} {B:Nat} {t:TypeId} {w u:World} {v:Value} {n:Nat} {l:List α} {xs:List Value} (h:AccQ Q B s t E w v n l xs)
 (hk:∀ q,q<w.heap.size->Q q\/v.ownBlock=some q->u.heap[q]?=w.heap[q]?) (hs:w.heap.size<=u.heap.size):AccQ Q B s t E u v n l xs:=by
 obtain ⟨h1,h2,hx,h4⟩:=h
 have ho:u.ownsRow B t s v n xs:=by
  refine ⟨h1.1,?_⟩
  rcases h1.2 with h0 | ⟨g,cap,cur,e,h1,h2,h3⟩
  ·exact Or.inl h0
  ·refine Or.inr ⟨g,cap,cur,e,h1,?_,h3⟩
   rw [hk g (Array.getElem?_eq_some_iff.1 h2).1 (.inr (by rw [e];rfl))]
   exact h2
 refine ⟨ho,h2,hx,fun i hi c hc=>?_⟩
 exact hE _ _ w u c c _ (fun q hq h=>⟨⟨h.1,by omega,h.2.2⟩,hk q hq (.inl h.1)⟩) hs (fun _ _ _ h=>h) (h4 i hi c hc)
theorem AccQ.to {α:Type} {E:El α} {s:Nat} (hE:Carries s E) {Q:Nat->Prop} {B:Nat} {t:TypeId} {w u:World} {v:Value} {n:Nat} {l:List α} {xs:List Value} (h:AccQ Q B s t E w v n l xs) (hb:Below w.heap.size w u):AccQ Q B s t E u v n l xs :=
 h.other hE (fun q hq _=>hb.block q hq) hb.size
theorem AccQ.far {α:Type} {E:El α} {s:Nat} (hE:Carries s E) {Q:Nat->Prop} {B:Nat} {t:TypeId} {w u:World} {v:Value} {n:Nat} {l:List α} {xs:List Value} {row:Option Nat} (h:AccQ Q B s t E w v n l xs) (hg:w.grownBy u row)
 (hr:∀ q,row=some q->¬ Q q/\¬ v.ownBlock=some q):AccQ Q B s t E u v n l xs :=
 h.other hE (fun q hq hh=>hg.block q hq fun e=>by
  obtain ⟨r1,r2⟩:=hr q e.symm
  rcases hh with hh | hh
  ·exact r1 hh
  ·exact r2 hh) hg.size
theorem AccQ.snoc {α:Type} {E:El α} {s:Nat} (hE:Carries s E) {Q:Nat->Prop} {B:Nat} {t:TypeId} {u u':World} {v:Value} {n:Nat} {l:List α} {xs news:List Value} {g cap:Nat} {x:α} (h:AccQ Q B s t E u v n l xs)
 (ho:u'.ownsRow B t s (.slice (some ⟨g,0,none⟩) (n+1) cap) (n+1) (xs ++ news)) (hn:news.length=s) (hg:u.grownBy u' v.ownBlock) (hat:v.ownBlock=some g\/g=u.heap.size)
 (hx:∀ c:Nat->Option Value,(∀ j,j<s->c j=news[j]?)->E (fun q=>Q q/\q<u.heap.size/\¬ v.ownBlock=some q) u c x):AccQ Q B s t E u' (.slice (some ⟨g,0,none⟩) (n+1) cap) (n+1) (l ++ [x]) (xs ++ news):=by
 obtain ⟨h1,h2,hl,h4⟩:=h
 have hsz:u.heap.size<=u'.heap.size:=hg.size
 have hk:∀ q,q<u.heap.size->(Q q/\q<u.heap.size/\¬ v.ownBlock=some q)->(Q q/\q<u'.heap.size/\¬ (Value.slice (some ⟨g,0,none⟩) (n+1) cap).ownBlock=some q)/\u'.heap[q]?=u.heap[q]?:=fun q hq ⟨q1,q2,q3⟩=>by
  refine ⟨⟨q1,by omega,fun e=>?_⟩,hg.block q hq fun e=>q3 e.symm⟩
  have e:g=q:=by injection e
  subst e
  rcases hat with e | e
  ·exact q3 e
  ·omega
 refine ⟨ho,by simp [h2],by rw [List.length_append,hl,hn,Nat.add_mul,Nat.one_mul],fun i hi c hc=>?_⟩
 by_cases hlt2:i<l.length
 ·rw [List.getElem_append_left hlt2]
  refine hE _ _ u u' c c _ hk hsz (fun _ _ _ h=>h) (h4 i hlt2 c fun j hj=>?_)
  rw [hc j hj]
  have:i*s+j<xs.length:=by
   rw [hl,h2]
   have:=Nat.mul_le_mul_right s (show i+1<=l.length by omega)
   rw [Nat.add_mul,Nat.one_mul] at this
   omega
  rw [List.getElem?_append_left this]
 ·have ei:i=l.length:=by simp at hi;omega
  subst ei
  rw [List.getElem_append_right (Nat.le_refl _)]
  simp only [Nat.sub_self,List.getElem_cons_zero]
  refine hE _ _ u u' c c _ hk hsz (fun _ _ _ h=>h) (hx c fun j hj=>?_)
  rw [hc j hj,List.getElem?_append_right (by rw [hl,h2];omega)]
  congr 1
  rw [hl,h2];omega
theorem wpList_append_slq {α:Type} {E:El α} {s:Nat} {P:Program} {w:World} {ops:Array Oper} {rest:List Oper} {o:Oper} {a:Act} {K:Exit->Act->World->Prop} (hE:Carries s E) (hF:Full s E) (hgd:o.guard=none) (so x:Operand) (t:TypeId)
 (ho:o.op=.call { callee:=.builtin .append,args:=#[so,x],argTypes:=#[t,t] })
 (base:Nat) (e:TypeId) (z:Value) (bytes:Nat) (ht:P.underlying t=some (.slice e)) (hinfo:(P.info? e).map (fun i=>(i.zero,i.size,i.bytes))=some (some z,s,bytes)) (hzs:z.cells.size=s) (hsz:0<s)
 (v:Value) (n:Nat) (xs:List Value) (hs:a.eval so=v) (hown:w.ownsRow base e s v n xs)
 {Q:Nat->Prop} (ao:Option Addr) (l:List α) (c:Nat) (hx:a.eval x=.slice ao l.length c) (hL:SlQ Q s E w ao l) (hc:ao=none->c=0)
 (h63:n+l.length<=maxLen) (hbytes:(n+l.length)*bytes<=140737488355328) (hbase:base<=w.heap.size)
 (h:∀ v' w' news,news.length=l.length*s->(∀ i (hi:i<l.length) (c:Nat->Option Value),(∀ j,j<s->c j=news[i*s+j]?)->E Q w c l[i])->w'.ownsRow base e s v' (n+l.length) (xs ++ news)->w.grownBy w' v.ownBlock->wpList P ops K rest (a.put o.dst v') w'):wpList P ops K (o :: rest) a w:=by
 obtain ⟨i,hi,hz0,hz1,hz2⟩:=info_parts hinfo
 cases ao with
 | none =>
   have e0:l=[]:=by
    cases l with
    | nil=>rfl
    | cons y l =>
      obtain ⟨b,o,e,_⟩:=hL 0 (by simp)
      cases e
   subst e0
   have hc0:=hc rfl
   subst hc0
   exact wpList_append_own_none hgd so x t ho base e i s ht hi v n xs hs hown hx (h v w [] (by simp) (fun i hi=>by simp at hi) (by simpa using hown) (World.grownBy.refl _ _))
 | some ad =>
   by_cases hl0:l.length=0
   ·have e0:l=[]:=List.length_eq_zero_iff.1 hl0
    subst e0
    refine wpList_append_own w hgd so x t ho base e i z s bytes ht hi hz0 hz1 hz2 hzs hsz v n xs hs hown ad 0 c [] hx (by simp) (fun j u hu=>by simp at hu) (fun u hu=>by simp at hu) h63 hbytes hbase (fun v' w' h1 h2 _=>h v' w' [] (by simp) (fun i hi=>by simp at hi) h1 h2)
   ·obtain ⟨b,oo,ee,hb,hq,hget⟩:=hL.get (show 0<l.length by omega)
    cases ee
    have hcell:∀ j,j<l.length*s->∃ u,w.cell? ⟨b,oo+j,none⟩=some u/\u.oneCell'=true:=fun j hj=>by
     have h1:j / s<l.length:=Nat.div_lt_of_lt_mul (by rw [Nat.mul_comm];exact hj)
     obtain ⟨u,hu,h2⟩:=hF _ _ _ _ (hget (j / s) h1) (j % s) (Nat.mod_lt _ hsz)
     have hu:w.cell? ⟨b,oo+(j / s*s+j % s),none⟩=some u:=hu
     rw [Nat.div_add_mod' j s] at hu
     exact ⟨u,hu,h2⟩
    obtain ⟨news,hnews⟩:∃ news:List Value,news=(List.range (l.length*s)).map fun j=>(w.cell? ⟨b,oo+j,none⟩).getD (.int .i64 0):=⟨_,rfl⟩
    have hlen:news.length=l.length*s:=by rw [hnews];simp
    have hat:∀ j,j<l.length*s->news[j]?=w.cell? ⟨b,oo+j,none⟩:=fun j hj=>by
     obtain ⟨u,hu,_⟩:=hcell j hj
     rw [hnews,List.getElem?_map,List.getElem?_range hj]
     simp [hu]
    refine wpList_append_own w hgd so x t ho base e i z s bytes ht hi hz0 hz1 hz2 hzs hsz v n xs hs hown ⟨b,oo,none⟩ l.length c news hx hlen (fun j u hu=>?_) (fun u hu=>?_) h63 hbytes hbase
     (fun v' w' h1 h2 _=>h v' w' news hlen (fun i hi c hc=>hE Q Q w w _ c _ (fun q _ hq=>⟨hq,rfl⟩) (Nat.le_refl _) (fun j hj v hv=>?_) (hget i hi)) h1 h2)
    ·have hj:j<l.length*s:=by rw [<-hlen];exact (List.getElem?_eq_some_iff.1 hu).1
     rw [Addr.add_lit,<-hat j hj];exact hu
    ·obtain ⟨j,hj,rfl⟩:=List.getElem_of_mem hu
     have hj2:j<l.length*s:=by rw [<-hlen];exact hj
     obtain ⟨u,hu,h2⟩:=hcell j hj2
     have:=hat j hj2
     rw [List.getElem?_eq_getElem hj,hu] at this
     cases this
     exact h2
    ·have:i*s+j<l.length*s:=by
      have:=Nat.mul_le_mul_right s (show i+1<=l.length by omega)
      rw [Nat.add_mul,Nat.one_mul] at this
      omega
     rw [hc j hj,hat _ this]
     exact hv
end Go.Proofs.YtnchnlgnnlgjcaaGreat
namespace Go.Proofs.YtnchnlgnnlgjcaaGreat
open Go.RowKit
namespace Ca
theorem infoRow:(Tryz.prog.info? 74).map (fun i=>(i.zero,i.size,i.bytes))=some (some (.slice none 0 0),1,24):=by kernel_rfl
theorem infoToks:(Tryz.prog.info? 60).map (fun i=>(i.zero,i.size,i.bytes))=some (some (.slice none 0 0),1,24):=by kernel_rfl
theorem infoTok:(Tryz.prog.info? 63).map (fun i=>(i.zero,i.size,i.bytes))=some (some (.agg #[.slice none 0 0,.slice none 0 0]),2,48):=by kernel_rfl
theorem own_at {w w':World} {base s:Nat} {t:TypeId} {v:Value} {n:Nat} {xs:List Value} (h:w.ownsRow base t s v n xs) (hb:∀ g,v.ownBlock=some g->w'.heap[g]?=w.heap[g]?):w'.ownsRow base t s v n xs:=by
 refine ⟨h.1,?_⟩
 rcases h.2 with h0 | ⟨g,cap,cur,e,h1,h2,h3⟩
 ·exact Or.inl h0
 ·refine Or.inr ⟨g,cap,cur,e,h1,?_,h3⟩
  subst e
  rw [hb g rfl]
  exact h2
theorem own_slice {w:World} {base s:Nat} {t:TypeId} {v:Value} {n:Nat} {xs:List Value} (h:w.ownsRow base t s v n xs):∃ a c,v=.slice a n c:=by
 rcases h.2 with ⟨e,hn⟩ | ⟨g,cap,cur,e,_⟩
 ·exact ⟨none,0,by rw [e,hn]⟩
 ·exact ⟨_,_,e⟩
theorem own_cell {w:World} {base s:Nat} {t:TypeId} {v:Value} {n:Nat} {xs:List Value} (h:w.ownsRow base t s v n xs):v.oneCell'=true:=by
 obtain ⟨a,c,rfl⟩:=own_slice h
 rfl
end Ca
theorem eRow_new {Q:Nat->Prop} {B:Nat} {t:TypeId} {k:IntKind} {u:World} {v:Value} {l:List Int} (ho:u.ownsRow B t 1 v l.length (l.map (Value.int k))) (hm:l.length<=maxLen) (hQ:∀ q,v.ownBlock=some q->q<u.heap.size->Q q)
 (c:Nat->Option Value) (hc:c 0=some v):eSl 1 (eNum k) Q u c l:=by
 obtain ⟨a,cap,e,hs,h1,h2,h3⟩:=slq_of_own (E:=eNum k) (Q:=Q) (l:=l) ho rfl (fun q hq=>hQ q hq (ho.lt q hq).2) fun i hi c hc=>by
  show c 0=_
  rw [hc 0 (by decide)]
  simp [hi]
 rw [e] at hc
 exact ⟨a,cap,hc,h1,hm,h3,hs⟩
set_option maxHeartbeats 800000 in
theorem lists_any {Q:Nat->Prop} (a:Option Addr) (c:Nat) (ls:List (List Int)) (w:World) (h:SlQ Q 1 eRow w a ls) (hl:ls.length<=1000) (hb:∀ k,k<ls.length->(Ca.nt ls k).length<=35184372087808) :
 Calls Tryz.prog 82 #[.slice a ls.length c] w fun e w'=>(∃ a' c',e=.returned (.slice a' ls.length c')/\SlQ (fun q=>w.heap.size<=q) 1 eRow w' a' ls/\ls.length<=c'/\c'<=maxLen/\(a'=none->c'=0))/\Below w.heap.size w w':=by
 obtain ⟨i1,hi10,hi11,hi12,hi13⟩:=info_parts Ca.infoRow
 have HR:Hid (SlQ Q 1 eRow w a ls):=h
 have HB:Hid (∀ k,k<ls.length->(Ca.nt ls k).length<=35184372087808):=hb
 clear h hb
 go_enter Tryz.func82,Tryz.ntmps82
 go_wp2
 go_loopw [3,8] (fun v i wq=>∃ (k:Nat) (xs:List Value),k<=ls.length/\i=.int .i64 k/\Hid (AccQ (fun q=>w.heap.size<=q) w.heap.size 1 74 eRow wq v k (ls.take k) xs)/\Hid (Below w.heap.size w wq)) (fun _ i _=>ls.length - (intOf i).toNat)
 case atStart=>exact ⟨0,[],Nat.zero_le _,rfl,acc_nil _ _ _ _ _ _,Below.refl _ _⟩
 case round =>
  obtain ⟨k,xs,hk,rfl,AC,B0⟩:=hrel
  by_cases hlt:k<ls.length
  ·obtain ⟨b,o,rfl,-,-,hcs⟩:=(HR.out.keep carry_row B0.out).cells (by omega)
   obtain ⟨A,C,hck,-,hm,hn,hS⟩:=hcs k hlt
   have hs:=B0.out.size
   have HA:Hid (Lst .i32 wr A (Ca.nt ls k)):=hS.lst
   have HN:Hid (A=none->C=0):=hn
   have hkl:=HB.out k hlt
   unfold maxLen at hm
   clear hcs hn hS
   go_wp2_with (first
    | (at_builtin;refine wpList_append_lst rfl _ _ 74 rfl wr.heap.size 21 .i32 4 Tryz.underlying74 Tryz.infoInt32 _ 0 [] (by rfl) (World.ownsRow_made wr #[] 0 (Nat.le_refl _) (by decide) rfl) A (Ca.nt ls k) C (by rfl) (HA.out.keep (box_below _ _)) HN.out (by unfold maxLen;omega) (by omega) (by simp) ?_;intro v1 u1 ho1 hg1;simp only [Nat.zero_add,List.nil_append] at ho1;obtain ⟨va,vc,rfl⟩:=Ca.own_slice ho1;have O1:Hid (u1.ownsRow wr.heap.size 21 1 (.slice va (Ca.nt ls k).length vc) (Ca.nt ls k).length ((Ca.nt ls k).map (Value.int .i32))):=ho1;have B1:Hid (Below wr.heap.size wr u1):=(box_below _ _).grown hg1 (by simp) (by intro k hk;cases hk;exact Nat.le_refl _);clear ho1 hg1)
    | (at_builtin;refine wpList_append_lies _ rfl _ _ _ rfl w.heap.size 74 i1 _ 1 24 Tryz.underlying42 hi10 hi11 hi12 hi13 rfl (by omega) _ k xs (by rfl) (((AC.out.to carry_row B1.out).to carry_row (box_below _ _)).1) ⟨u1.heap.size,0,none⟩ 1 1 [.slice va (Ca.nt ls k).length vc] (by rfl) (by rfl) (World.news_of_block (cs:=#[.slice va (Ca.nt ls k).length vc]) (t:=74) (fr:=(0,0)) (heap_alloc_new u1 _)) (fun x hx=>by simp at hx;subst hx;exact Ca.own_cell O1.out) (by omega) (by unfold maxLen;omega) (by omega) (by have:=B1.out.size;simp;omega) (u1.heap.size+1) (by simp) ?_;intro gg cap w1 hown1 hgrow hat hlt1;have O2:Hid (w1.ownsRow w.heap.size 74 1 (.slice (some ⟨gg,0,none⟩) (k+1) cap) (k+1) (xs ++ [.slice va (Ca.nt ls k).length vc])):=hown1;have G2:Hid ((u1.alloc (.cells #[.slice va (Ca.nt ls k).length vc] 74)).grownBy w1 u3.ownBlock):=hgrow;have AT:Hid ((u3.ownBlock=some gg\/gg=u1.heap.size+1)/\gg<w1.heap.size):=⟨hat,hlt1⟩;clear hown1 hgrow hat hlt1))
   go_roundw
   case rel =>
    refine ⟨k+1,xs ++ [.slice va (Ca.nt ls k).length vc],by omega,by go_num,?_,?_⟩
    ·have A2:=(AC.out.to carry_row B1.out).to carry_row (box_below u1 (.cells #[.slice va (Ca.nt ls k).length vc] 74))
     have e:ls.take (k+1)=ls.take k ++ [Ca.nt ls k]:=by rw [Ca.nt_at hlt,List.take_succ_eq_append_getElem hlt]
     have hs1:=B1.out.size
     rw [e]
     refine A2.snoc carry_row O2.out rfl G2.out ?_ fun c hc=>?_
     ·rcases AT.out.1 with q | q
      ·exact .inl q
      ·right;simp;exact q
     ·refine eRow_new (Ca.own_at O1.out fun g hg=>(box_below _ _).block g (O1.out.lt g hg).2) (by unfold maxLen;omega) (fun q hq hq2=>⟨by have:=(O1.out.lt q hq).1;omega,hq2,fun e=>?_⟩) c (by rw [hc 0 (by decide)];rfl)
      have h1:=(AC.out.1.lt q e).2
      have h2:=(O1.out.lt q hq).1
      omega
    ·exact ((B0.out.trans (B1.out.mono hs)).alloc (by have:=B1.out.size;omega) _).grown G2.out (by have:=B1.out.size;simp;omega) (fun q hq=>(AC.out.1.lt q hq).1)
   case measure=>simp [intOf];omega
  ·have ek:k=ls.length:=by omega
   subst ek
   go_wp2
   go_ret
   obtain ⟨a',c',e,h1,h2,h3,h4⟩:=AC.out.slq carry_row (Q':=fun q=>w.heap.size<=q) (fun q hq=>hq) (fun q hq=>hq)
   subst e
   refine ⟨⟨a',c',rfl,?_,h2,h3,h4⟩,B0.out⟩
   rw [List.take_length] at h1
   exact h1
end Go.Proofs.YtnchnlgnnlgjcaaGreat
namespace Go.Proofs.YtnchnlgnnlgjcaaGreat
open Go.RowKit
def eFresh (B:Nat):El (List Tok):=fun Q w c l=>∃ u ys,c 0=some u/\w.ownsRow B 63 2 u l.length ys/\(∀ q,u.ownBlock=some q->Q q) /\
 ∀ i (h:i<l.length) (c':Nat->Option Value),(∀ j,j<2->c' j=ys[i*2+j]?)->eTok (fun q=>Q q/\q<B) w c' l[i]
theorem carry_fresh (B:Nat):Carries 1 (eFresh B):=fun Q Q' w w' c c' l hk hs hc ⟨u,ys,h1,h2,h3,h4⟩=>by
 refine ⟨u,ys,hc 0 (by decide) _ h1,Ca.own_at h2 fun g hg=>(hk g (h2.lt g hg).2 (h3 g hg)).2,fun q hq=>(hk q (h2.lt q hq).2 (h3 q hq)).1,fun i hi c2 hc2=>?_⟩
 exact carry_tok _ _ w w' c2 c2 _ (fun q hq hh=>⟨⟨(hk q hq hh.1).1,hh.2⟩,(hk q hq hh.1).2⟩) hs (fun _ _ _ h=>h) (h4 i hi c2 hc2)
theorem fresh_toks {B:Nat} {Q:Nat->Prop} {w:World} {c:Nat->Option Value} {l:List Tok} (h:eFresh B Q w c l):eToks Q w c l:=by
 obtain ⟨u,ys,h1,h2,h3,h4⟩:=h
 obtain ⟨a,cap,e,hs,q1,q2,q3⟩:=slq_of_own (E:=eTok) (Q:=Q) (l:=l) h2 rfl h3 fun i hi c hc=>carry_tok _ _ w w c c _ (fun q hq hh=>⟨hh.1,rfl⟩) (Nat.le_refl _) (fun _ _ _ h=>h) (h4 i hi c hc)
 rw [e] at h1
 exact ⟨a,cap,h1,q1,by omega,q3,hs⟩
theorem Ca.hid {p:Prop} (h:p):Hid p:=h
def Ca.Apart (xs:List Value):Prop:=∀ (i j:Nat) (u v:Value) (q:Nat),xs[i]?=some u->xs[j]?=some v->u.ownBlock=some q->v.ownBlock=some q->i=j
def Ca.Owned (B N:Nat) (xs:List Value):Prop:=∀ u ∈ xs,∀ q,u.ownBlock=some q->B<=q/\q<N
theorem Ca.Apart.snoc {xs:List Value} {v:Value} {B N M:Nat} (h:Ca.Apart xs) (ho:Ca.Owned B N xs) (hv:∀ q,v.ownBlock=some q->N<=q/\q<M) (hb:B<=N) (hm:N<=M):Ca.Apart (xs ++ [v])/\Ca.Owned B M (xs ++ [v]):=by
 refine ⟨fun i j a b q hi hj ha hb2=>?_,fun u hu q hq=>?_⟩
 ·rw [List.getElem?_append] at hi hj
  split at hi
  ·split at hj
   ·exact h i j a b q hi hj ha hb2
   ·have e:b=v:=by
     have:=(List.mem_singleton.1 (List.mem_of_getElem? hj));exact this
    subst e
    have h1:=(ho a (List.mem_of_getElem? hi) q ha).2
    have h2:=(hv q hb2).1
    omega
  ·split at hj
   ·have e:a=v:=List.mem_singleton.1 (List.mem_of_getElem? hi)
    subst e
    have h1:=(ho b (List.mem_of_getElem? hj) q hb2).2
    have h2:=(hv q ha).1
    omega
   ·have h1:=(List.getElem?_eq_some_iff.1 hi).1
    have h2:=(List.getElem?_eq_some_iff.1 hj).1
    simp at h1 h2
    omega
 ·rcases List.mem_append.1 hu with h1 | h1
  ·have:=ho u h1 q hq;omega
  ·have e:=List.mem_singleton.1 h1
   subst e
   have:=hv q hq;omega
set_option maxRecDepth 100000 in
set_option maxHeartbeats 800000 in
theorem copiedL_any {Q:Nat->Prop} (a:Option Addr) (c:Nat) (M:List (List Tok)) (w:World) (h:SlQ Q 1 eToks w a M) (hl:M.length<=10) (hb:∀ k,k<M.length->(Ca.nt M k).length<=100000) :
 Calls Tryz.prog 43 #[.slice a M.length c] w fun e w'=>∃ v xs,e=.returned v/\AccQ (fun q=>Q q/\q<w.heap.size\/w.heap.size<=q) w.heap.size 1 60 (eFresh w.heap.size) w' v M.length M xs /\
  Ca.Apart xs/\Ca.Owned w.heap.size w'.heap.size xs/\Below w.heap.size w w':=by
 obtain ⟨i1,hi10,hi11,hi12,hi13⟩:=info_parts Ca.infoToks
 have HR:Hid (SlQ Q 1 eToks w a M):=h
 have HB:Hid (∀ k,k<M.length->(Ca.nt M k).length<=100000):=hb
 clear h hb
 go_enter Tryz.func43,Tryz.ntmps43
 go_wp2
 go_loopw [3,8] (fun v i wq=>∃ (k:Nat) (xs:List Value),k<=M.length/\i=.int .i64 k/\Hid (AccQ (fun q=>Q q/\q<w.heap.size\/w.heap.size<=q) w.heap.size 1 60 (eFresh w.heap.size) wq v k (M.take k) xs)/\Hid (Ca.Apart xs/\Ca.Owned w.heap.size wq.heap.size xs)/\Hid (Below w.heap.size w wq)) (fun _ i _=>M.length - (intOf i).toNat)
 case atStart=>exact ⟨0,[],Nat.zero_le _,rfl,acc_nil _ _ _ _ _ _,⟨(fun i j u v q h=>by simp at h),fun u hu=>by simp at hu⟩,Below.refl _ _⟩
 case round =>
  obtain ⟨k,xs,hk,rfl,AC,AP,B0⟩:=hrel
  by_cases hlt:k<M.length
  ·obtain ⟨b,o,rfl,-,-,hcs⟩:=(HR.out.carry (Q':=fun q=>Q q/\q<w.heap.size) carry_toks (fun q h1 h2=>⟨⟨h2,h1⟩,B0.out.block q h1⟩) B0.out.size).cells (by omega)
   obtain ⟨A,C,hck,-,hm,hn,hS⟩:=hcs k hlt
   have hs:=B0.out.size
   have HA:Hid (SlQ (fun q=>Q q/\q<w.heap.size) 2 eTok wr A (Ca.nt M k)):=hS
   have HN:Hid (A=none->C=0):=hn
   have hkl:=HB.out k hlt
   unfold maxLen at hm
   clear hcs hn hS
   go_wp2_with (first
    | (at_builtin;refine wpList_append_slq carry_tok full_tok rfl _ _ 60 rfl wr.heap.size 63 _ 48 Tryz.underlying60 Ca.infoTok (by rfl) (by decide) _ 0 [] (by rfl) (World.ownsRow_made wr #[] 0 (Nat.le_refl _) (by decide) rfl) A (Ca.nt M k) C (by rfl) (HA.out.keep carry_tok (box_below _ _)) HN.out (by unfold maxLen;omega) (by omega) (by simp) ?_;intro v1 u1 news hnl hne ho1 hg1;simp only [Nat.zero_add,List.nil_append] at ho1;obtain ⟨va,vc,rfl⟩:=Ca.own_slice ho1;have O1:Hid (u1.ownsRow wr.heap.size 63 2 (.slice va (Ca.nt M k).length vc) (Ca.nt M k).length news):=ho1;have NE:=Ca.hid hne;have B1:Hid (Below wr.heap.size wr u1):=(box_below _ _).grown hg1 (by simp) (by intro k hk;cases hk;exact Nat.le_refl _);have G1:=Ca.hid hg1;clear ho1 hg1 hne)
    | (at_builtin;refine wpList_append_lies _ rfl _ _ _ rfl w.heap.size 60 i1 _ 1 24 Tryz.underlying59 hi10 hi11 hi12 hi13 rfl (by omega) _ k xs (by rfl) (((AC.out.to (carry_fresh _) B1.out).to (carry_fresh _) (box_below _ _)).1) ⟨u1.heap.size,0,none⟩ 1 1 [.slice va (Ca.nt M k).length vc] (by rfl) (by rfl) (World.news_of_block (cs:=#[.slice va (Ca.nt M k).length vc]) (t:=60) (fr:=(0,0)) (heap_alloc_new u1 _)) (fun x hx=>by simp at hx;subst hx;exact Ca.own_cell O1.out) (by omega) (by unfold maxLen;omega) (by omega) (by have:=B1.out.size;simp;omega) (u1.heap.size+1) (by simp) ?_;intro gg cap w1 hown1 hgrow hat hlt1;have O2:Hid (w1.ownsRow w.heap.size 60 1 (.slice (some ⟨gg,0,none⟩) (k+1) cap) (k+1) (xs ++ [.slice va (Ca.nt M k).length vc])):=hown1;have G2:Hid ((u1.alloc (.cells #[.slice va (Ca.nt M k).length vc] 60)).grownBy w1 u3.ownBlock):=hgrow;have AT:Hid ((u3.ownBlock=some gg\/gg=u1.heap.size+1)/\gg<w1.heap.size):=⟨hat,hlt1⟩;clear hown1 hgrow hat hlt1))
   go_roundw
   case rel =>
    refine ⟨k+1,xs ++ [.slice va (Ca.nt M k).length vc],by omega,by go_num,?_,?_,?_⟩
    ·have A2:=(AC.out.to (carry_fresh _) B1.out).to (carry_fresh _) (box_below u1 (.cells #[.slice va (Ca.nt M k).length vc] 60))
     have e:M.take (k+1)=M.take k ++ [Ca.nt M k]:=by rw [Ca.nt_at hlt,List.take_succ_eq_append_getElem hlt]
     have hs1:=B1.out.size
     rw [e]
     refine A2.snoc (carry_fresh _) O2.out rfl G2.out ?_ fun c hc=>?_
     ·rcases AT.out.1 with q | q
      ·exact .inl q
      ·right;simp;exact q
     ·have ob:=O1.out
      refine ⟨.slice va (Ca.nt M k).length vc,news,by rw [hc 0 (by decide)];rfl,?_,fun q hq=>⟨?_,?_,fun e=>?_⟩,fun i hi c' hc'=>?_⟩
      ·have o2:=Ca.own_at (w':=u1.alloc (.cells #[.slice va (Ca.nt M k).length vc] 60)) ob fun g hg=>(box_below _ _).block g (ob.lt g hg).2
       exact ⟨o2.1,by rcases o2.2 with h | ⟨g,cp,cur,e,hb,hr⟩;exact .inl h;exact .inr ⟨g,cp,cur,e,by omega,hr⟩⟩
      ·have:=(ob.lt q hq).1;right;omega
      ·have:=(ob.lt q hq).2;simp;omega
      ·have h1:=(AC.out.1.lt q e).2
       have h2:=(ob.lt q hq).1
       omega
      ·refine carry_tok _ _ _ _ c' c' _ (fun q hq hh=>⟨⟨⟨.inl hh,?_,fun e=>?_⟩,hh.2⟩,?_⟩) ?_ (fun _ _ _ h=>h) (NE.out i hi c' hc')
       ·have:=hh.2;simp;omega
       ·have:=(AC.out.1.lt q e).1;have:=hh.2;omega
       ·have hq2:q<u1.heap.size:=by have:=hh.2;omega
        rw [(box_below u1 _).block q hq2]
        exact G1.out.block q hq fun e=>by
         have e:q=wr.heap.size:=by injection e
         have:=hh.2;omega
       ·simp;have:=G1.out.size;simp at this;omega
    ·have hs1:=B1.out.size
     obtain ⟨p1,p2⟩:=AP.out.1.snoc AP.out.2 (v:=.slice va (Ca.nt M k).length vc) (M:=w1.heap.size) (fun q hq=>by
      have:=O1.out.lt q hq
      have h3:=G2.out.size
      simp at h3
      omega) hs (by have h3:=G2.out.size;simp at h3;omega)
     exact ⟨p1,p2⟩
    ·exact ((B0.out.trans (B1.out.mono hs)).alloc (by have:=B1.out.size;omega) _).grown G2.out (by have:=B1.out.size;simp;omega) (fun q hq=>(AC.out.1.lt q hq).1)
   case measure=>simp [intOf];omega
  ·have ek:k=M.length:=by omega
   subst ek
   go_wp2
   go_ret
   refine ⟨_,xs,rfl,?_,AP.out.1,AP.out.2,B0.out⟩
   have h1:=AC.out
   rw [List.take_length] at h1
   exact h1
end Go.Proofs.YtnchnlgnnlgjcaaGreat
namespace Go.Proofs.YtnchnlgnnlgjcaaGreat
open Go.RowKit
namespace Ca
def ksOf (L:List Tok) (h:Nat):List (List Int):=L.map fun t=>nt t.1 h
def vsOf (L:List Tok) (h:Nat):List (List Int):=L.map fun t=>nt t.2 h
theorem take_map_succ {α β:Type} (f:α->β) (l:List α) {k:Nat} (hk:k<l.length):(l.map f).take (k+1)=(l.map f).take k ++ [f l[k]]:=by
 rw [List.take_succ_eq_append_getElem (by simpa using hk),List.getElem_map]
end Ca
theorem eRow_old {Q:Nat->Prop} {w:World} {A:Option Addr} {C:Nat} {l:List Int} (h2:l.length<=C) (h3:l.length<=maxLen) (h4:A=none->C=0) (h5:SlQ Q 1 (eNum .i32) w A l)
 {c:Nat->Option Value} (hc:c 0=some (.slice A l.length C)):eRow Q w c l:=⟨A,C,hc,h2,h3,h4,h5⟩
theorem lists_snoc {K:Nat->Prop} {B:Nat} {t:TypeId} {w w1:World} {v:Value} {k g cap f:Nat} {e:Option Addr} {m:List Int} {l l':List (List Int)} {xs:List Value} {o:Obj} (h:AccQ K B 1 t eRow w v k l xs)
 (ho:w1.ownsRow B t 1 (.slice (some ⟨g,0,none⟩) (k+1) cap) (k+1) (xs ++ [.slice e m.length f])) (hg:(w.alloc o).grownBy w1 v.ownBlock) (hat:v.ownBlock=some g\/g=w.heap.size+1)
 (T:m.length<=f/\m.length<=maxLen/\(e=none->f=0)/\SlQ K 1 (eNum .i32) w e m) (hl:l'=l ++ [m]) (hB:∀ q,K q->q<B):AccQ K B 1 t eRow w1 (.slice (some ⟨g,0,none⟩) (k+1) cap) (k+1) l' (xs ++ [.slice e m.length f]):=by
 subst hl
 refine (h.to carry_row (box_below w o)).snoc carry_row ho rfl hg ?_ fun c hc=>?_
 ·rcases hat with q | q
  ·exact .inl q
  ·right;simp;exact q
 ·refine eRow_old T.1 T.2.1 T.2.2.1 (T.2.2.2.carry (carry_num _) (fun q h1 h2=>⟨⟨h2,by simp;omega,fun e=>?_⟩,(box_below w o).block q h1⟩) (box_below w o).size) (by rw [hc 0 (by decide)];rfl)
  have:=(h.1.lt q e).1
  have:=hB q h2
  omega
end Go.Proofs.YtnchnlgnnlgjcaaGreat
namespace Go.Proofs.YtnchnlgnnlgjcaaGreat
namespace Tr
def bl (s:ByteArray):List UInt8:=s.data.toList
def Dig (c:UInt8):Prop:=48<=c.toNat/\c.toNat<=57
instance (c:UInt8):Decidable (Dig c):=by unfold Dig;infer_instance
def dg (c:UInt8):Nat:=c.toNat - 48
def st (a:Nat) (c:UInt8):Nat:=a*10+dg c
def val (a:Nat) (l:List UInt8):Nat:=l.foldl st a
theorem occ_one {l:List UInt8} {i:Nat} {c:UInt8} (h:l[i]?=some c):l=l.take i ++ c :: l.drop (i+1):=by
 obtain ⟨hi,rfl⟩:=List.getElem?_eq_some_iff.1 h
 simp
end Tr
end Go.Proofs.YtnchnlgnnlgjcaaGreat
