import Derived.Test.YtnchnlgnnlgjcaaGreatCo01
import Derived.Test.YtnchnlgnnlgjcaaGreatCo08
import Derived.Test.YtnchnlgnnlgjcaaGreatCo09
import Derived.Laws.OwnMore
import Derived.Deep.RegionHeld3
import Derived.Deep.RegionLaw
import Derived.Deep.AppendLies
import Derived.Deep.RegionLawGrows
import Derived.Deep.DeepCutAuto
import Derived.Lib.AppendZerosOnto
import Derived.Lib.SliceRun
import Derived.Lib.Walk
set_option linter.unusedVariables false
set_option linter.unusedSimpArgs false
namespace Go.Proofs.YtnchnlgnnlgjcaaGreat
open Go.RowKit
def Ty (w:World) (j:Nat) (t:TypeId):Prop:=∃ cs fz,w.heap[j]?=some (.cells cs t fz)
theorem Ty.ne {w:World} {i j:Nat} {s t:TypeId} (h:Ty w i s) (k:Ty w j t) (e:¬ s=t):¬ i=j:=fun q=>by
 subst q
 obtain ⟨a,f,h⟩:=h
 obtain ⟨b,g,k⟩:=k
 rw [h] at k
 cases k
 exact e rfl
theorem ty_row {w:World} {b:Nat} {t:TypeId} {n:Nat} {f:Nat->Value} (h:w.rowIs b t n f):Ty w b t:=by
 obtain ⟨c,e,_⟩:=h
 exact ⟨c,_,e⟩
theorem ty_own {w:World} {base s:Nat} {t:TypeId} {v:Value} {n:Nat} {xs:List Value} (h:w.ownsRow base t s v n xs) {q:Nat} (hq:v.ownBlock=some q):Ty w q t:=by
 rcases h.2 with ⟨rfl,_⟩ | ⟨g,cap,cur,rfl,_,hg,_⟩
 ·cases hq
 ·cases hq;exact ⟨cur,_,hg⟩
theorem Ty.lt {w:World} {j:Nat} {t:TypeId} (h:Ty w j t):j<w.heap.size:=by
 obtain ⟨c,f,e⟩:=h
 exact (Array.getElem?_eq_some_iff.1 e).1
theorem Ty.of_block {w w':World} {j:Nat} {t:TypeId} (h:Ty w j t) (e:w'.heap[j]?=w.heap[j]?):Ty w' j t:=by
 obtain ⟨c,f,h⟩:=h
 exact ⟨c,f,e.trans h⟩
theorem PoolAt.stand {w w':World} {g b n:Nat} {R M:List Int} (h:PoolAt w g b n R M) (hk:∀ j,Ty w j 99\/Ty w j 133\/Ty w j 176->w'.heap[j]?=w.heap[j]?):PoolAt w' g b n R M:=by
 obtain ⟨P,h1,h2,h3,h4,h5,h6,h7,h8⟩:=h
 refine ⟨P,h1.of_block (hk _ (.inl (ty_row h1))),h2.of_block (hk _ (.inr (.inl (ty_row h2)))),h3,h4,h5,h6,h7,fun i hi hr=>?_⟩
 obtain ⟨q,e,n1,n2,hq⟩:=h8 i hi hr
 refine ⟨q,e,n1,n2,hq.of_block (hk _ (.inr (.inr ?_)))⟩
 obtain ⟨_,f,hr'⟩:=hq
 exact ty_row hr'
theorem PoolAt.tys {w:World} {g b n:Nat} {R M:List Int} (h:PoolAt w g b n R M):Ty w g 99/\Ty w b 133:=by
 obtain ⟨P,h1,h2,_⟩:=h
 exact ⟨ty_row h1,ty_row h2⟩
theorem PoolAt.far {w:World} {g b n:Nat} {R M:List Int} (h:PoolAt w g b n R M) {H:Nat} {t:TypeId} (ht:Ty w H t) (e1:¬ t=99) (e2:¬ t=133) (e3:¬ t=176) (o:Nat) (y:Value):PoolAt (w.setCell ⟨H,o,none⟩ y) g b n R M :=
 h.stand fun j hj=>by
  apply Below.heap_setCell
  show j ≠ H
  rcases hj with q | q | q
  ·exact fun e=>Ty.ne q ht (fun e=>e1 e.symm) e
  ·exact fun e=>Ty.ne q ht (fun e=>e2 e.symm) e
  ·exact fun e=>Ty.ne q ht (fun e=>e3 e.symm) e
def RowAt (w:World) (v:Value) (l:List Int):Prop:=w.ownsRow 0 3 1 v l.length (l.map (Value.int .i64))
theorem RowAt.of_block {w w':World} {v:Value} {l:List Int} (h:RowAt w v l) (hb:∀ q,v.ownBlock=some q->w'.heap[q]?=w.heap[q]?):RowAt w' v l:=own_at h hb
theorem row_none (w:World):RowAt w (.slice none 0 0) []:=World.ownsRow_nil _ _ _ _
theorem RowAt.slice {w:World} {v:Value} {l:List Int} (h:RowAt w v l):∃ A C,v=.slice A l.length C/\Lst .i64 w A l/\(A=none->C=0)/\∀ x,A=some x->v.ownBlock=some x.block:=by
 obtain ⟨A,C,e,hl,_⟩:=lst_of_own h
 refine ⟨A,C,e,hl,own_none h e,fun x ex=>?_⟩
 subst ex
 rw [e];rfl
def Rws (w:World) (v:Value) (m:Nat) (L:Nat->List Int) (Q:Nat->Prop):Prop :=
 (v=.slice none 0 0/\m=0) \/
 ∃ d c F,v=.slice (some ⟨d,0,none⟩) m c/\m<=c/\w.rowIs d 70 c F/\Q d/\(∀ j,j<m->RowAt w (F j) (L j))/\(∀ j,j<m->∀ q,(F j).ownBlock=some q->Q q) /\
   ∀ i j q,i<m->j<m->(F i).ownBlock=some q->(F j).ownBlock=some q->i=j
theorem Rws.stand {w w':World} {v:Value} {m:Nat} {L:Nat->List Int} {Q:Nat->Prop} (h:Rws w v m L Q) (hk:∀ q,Q q->Ty w q 70\/Ty w q 3->w'.heap[q]?=w.heap[q]?):Rws w' v m L Q:=by
 rcases h with h | ⟨d,c,F,e,hc,hr,hd,h1,h2,h3⟩
 ·exact .inl h
 ·exact .inr ⟨d,c,F,e,hc,hr.of_block (hk d hd (.inl (ty_row hr))),hd,fun j hj=>(h1 j hj).of_block fun q hq=>hk q (h2 j hj q hq) (.inr (ty_own (h1 j hj) hq)),h2,h3⟩
theorem Rws.keep {w w':World} {v:Value} {m:Nat} {L:Nat->List Int} {Q:Nat->Prop} (h:Rws w v m L Q) (hb:Below w.heap.size w w'):Rws w' v m L Q:=h.stand fun q _ ht=>hb.block q (by rcases ht with t | t <;> exact t.lt)
theorem Rws.mono {w:World} {v:Value} {m:Nat} {L:Nat->List Int} {Q Q':Nat->Prop} (h:Rws w v m L Q) (hq:∀ q,q<w.heap.size->Q q->Q' q):Rws w v m L Q':=by
 rcases h with h | ⟨d,c,F,e,hc,hr,hd,h1,h2,h3⟩
 ·exact .inl h
 ·exact .inr ⟨d,c,F,e,hc,hr,hq d hr.lt hd,h1,fun j hj q ho=>hq q (ty_own (h1 j hj) ho).lt (h2 j hj q ho),h3⟩
theorem Rws.congr {w:World} {v:Value} {m:Nat} {L L':Nat->List Int} {Q:Nat->Prop} (h:Rws w v m L Q) (hl:∀ j,j<m->L j=L' j):Rws w v m L' Q:=by
 rcases h with h | ⟨d,c,F,e,hc,hr,hd,h1,h2,h3⟩
 ·exact .inl h
 ·exact .inr ⟨d,c,F,e,hc,hr,hd,fun j hj=>by rw [<-hl j hj];exact h1 j hj,h2,h3⟩
theorem Rws.slice {w:World} {v:Value} {m:Nat} {L:Nat->List Int} {Q:Nat->Prop} (h:Rws w v m L Q):∃ a c,v=.slice a m c:=by
 rcases h with ⟨h,hm⟩ | ⟨d,c,F,e,_⟩
 ·exact ⟨none,0,by rw [hm];exact h⟩
 ·exact ⟨_,c,e⟩
theorem Rws.cell {w:World} {v:Value} {m:Nat} {L:Nat->List Int} {Q:Nat->Prop} (h:Rws w v m L Q) {j:Nat} (hj:j<m) :
 ∃ d c A C,v=.slice (some ⟨d,0,none⟩) m c/\w.cell? ⟨d,j,none⟩=some (.slice A (L j).length C)/\RowAt w (.slice A (L j).length C) (L j)/\Lst .i64 w A (L j)/\(A=none->C=0):=by
 rcases h with ⟨_,hm⟩ | ⟨d,c,F,e,hc,hr,hd,h1,_⟩
 ·omega
 ·obtain ⟨A,C,e1,hl,hn,_⟩:=(h1 j hj).slice
  have hcell:=hr.cell (show j<c by omega)
  have hj1:=h1 j hj
  rw [e1] at hcell hj1
  exact ⟨d,c,A,C,e,hcell,hj1,hl,hn⟩
theorem rws_made {w:World} {d n:Nat} {Q:Nat->Prop} (h:w.rowIs d 70 n (fun _=>.slice none 0 0)) (hd:Q d):Rws w (.slice (some ⟨d,0,none⟩) n n) n (fun _=>[]) Q :=
 .inr ⟨d,n,_,rfl,Nat.le_refl _,h,hd,fun j _=>row_none w,fun j _ q e=>absurd (show (none:Option Nat)=some q from e) (by simp),fun i j q _ _ e=>absurd (show (none:Option Nat)=some q from e) (by simp)⟩
theorem Rws.more {w w':World} {d m c j:Nat} {L:Nat->List Int} {Q:Nat->Prop} (h:Rws w (.slice (some ⟨d,0,none⟩) m c) m L Q) (hj:j<m) {v0 v1:Value} (hv:w.cell? ⟨d,j,none⟩=some v0)
 {l:List Int} (hnew:RowAt w' v1 l) (hat:∀ g,v1.ownBlock=some g->v0.ownBlock=some g\/w.heap.size<=g)
 (hk:∀ q,q<w.heap.size->¬ v0.ownBlock=some q->w'.heap[q]?=w.heap[q]?):Rws (w'.setCell ⟨d,j,none⟩ v1) (.slice (some ⟨d,0,none⟩) m c) m (Bk.up L j l) (fun q=>Q q\/w.heap.size<=q):=by
 rcases h with ⟨h,hm⟩ | ⟨d',c',F,e,hc,hr,hd,h1,h2,h3⟩
 ·cases h
 ·cases e
  have hv0:v0=F j:=by have:=hr.cell (show j<c by omega);rw [this] at hv;cases hv;rfl
  subst hv0
  have td:=ty_row hr
  have nd:∀ q,(F j).ownBlock=some q->¬ q=d:=fun q hq=>(ty_own (h1 j hj) hq).ne td (by decide)
  have hr':w'.rowIs d 70 c F:=hr.of_block (hk d hr.lt (fun e=>nd d e rfl))
  have gd:∀ g,v1.ownBlock=some g->¬ g=d:=fun g hg=>by
   rcases hat g hg with q | q
   ·exact nd g q
   ·have:=hr.lt;omega
  refine .inr ⟨d,c,fun i=>if i=j then v1 else F i,rfl,hc,hr'.set j v1,.inl hd,fun i hi=>?_,fun i hi q hq=>?_,fun i i2 q hi hi2 ei ei2=>?_⟩
  ·by_cases e:i=j
   ·show RowAt _ (if i=j then v1 else F i) (Bk.up L j l i)
    rw [if_pos e,e,Bk.up_at]
    exact hnew.of_block fun q hq=>Below.heap_setCell _ _ _ _ (show q ≠ d from gd q hq)
   ·show RowAt _ (if i=j then v1 else F i) (Bk.up L j l i)
    rw [if_neg e,Bk.up_off L l e]
    refine (h1 i hi).of_block fun q hq=>?_
    rw [Below.heap_setCell _ _ _ _ (show q ≠ d from (ty_own (h1 i hi) hq).ne td (by decide))]
    exact hk q (ty_own (h1 i hi) hq).lt fun e2=>e (h3 i j q hi hj hq e2)
  ·have hq:(if i=j then v1 else F i).ownBlock=some q:=hq
   show Q q\/_
   by_cases e:i=j
   ·rw [if_pos e] at hq
    rcases hat q hq with q1 | q1
    ·exact .inl (h2 j hj _ q1)
    ·exact .inr q1
   ·rw [if_neg e] at hq
    exact .inl (h2 i hi q hq)
  ·have far:∀ t,¬ t=j->t<m->(F t).ownBlock=some q->v1.ownBlock=some q->False:=fun t nt ht et ev=>by
    rcases hat q ev with q1 | q1
    ·exact nt (h3 t j q ht hj et q1)
    ·have:=(ty_own (h1 t ht) et).lt;omega
   have ei:(if i=j then v1 else F i).ownBlock=some q:=ei
   have ei2:(if i2=j then v1 else F i2).ownBlock=some q:=ei2
   by_cases e:i=j
   ·by_cases e2:i2=j
    ·rw [e,e2]
    ·rw [if_pos e] at ei
     rw [if_neg e2] at ei2
     exact (far i2 e2 hi2 ei2 ei).elim
   ·rw [if_neg e] at ei
    by_cases e2:i2=j
    ·rw [if_pos e2] at ei2
     exact (far i e hi ei ei2).elim
    ·rw [if_neg e2] at ei2
     exact h3 i i2 q hi hi2 ei ei2
def tbc (g r m:Nat) (i:Nat):Value:=if i=0 then .pointer (some ⟨g,0,none⟩) else .slice (some ⟨r,0,none⟩) m m
def Tab (w:World) (g T m:Nat) (L:Nat->List Int) (Q:Nat->Prop):Prop :=
 ∃ r,w.rowIs T 151 2 (tbc g r m)/\Rws w (.slice (some ⟨r,0,none⟩) m m) m L Q
theorem Tab.stand {w w':World} {g T m:Nat} {L:Nat->List Int} {Q:Nat->Prop} (h:Tab w g T m L Q) (ht:w'.heap[T]?=w.heap[T]?) (hk:∀ q,Q q->Ty w q 70\/Ty w q 3->w'.heap[q]?=w.heap[q]?):Tab w' g T m L Q:=by
 obtain ⟨r,h1,h2⟩:=h
 exact ⟨r,h1.of_block ht,h2.stand hk⟩
theorem Tab.lt {w:World} {g T m:Nat} {L:Nat->List Int} {Q:Nat->Prop} (h:Tab w g T m L Q):T<w.heap.size:=by
 obtain ⟨r,h1,_⟩:=h
 exact h1.lt
theorem Tab.ty {w:World} {g T m:Nat} {L:Nat->List Int} {Q:Nat->Prop} (h:Tab w g T m L Q):Ty w T 151:=by
 obtain ⟨r,h1,_⟩:=h
 exact ty_row h1
theorem Tab.keep {w w':World} {g T m:Nat} {L:Nat->List Int} {Q:Nat->Prop} (h:Tab w g T m L Q) (hb:Below w.heap.size w w'):Tab w' g T m L Q:=by
 obtain ⟨r,h1,h2⟩:=h
 exact ⟨r,h1.of_block (hb.block T h1.lt),h2.keep hb⟩
theorem Tab.mono {w:World} {g T m:Nat} {L:Nat->List Int} {Q Q':Nat->Prop} (h:Tab w g T m L Q) (hq:∀ q,q<w.heap.size->Q q->Q' q):Tab w g T m L Q':=by
 obtain ⟨r,h1,h2⟩:=h
 exact ⟨r,h1,h2.mono hq⟩
theorem Tab.congr {w:World} {g T m:Nat} {L L':Nat->List Int} {Q:Nat->Prop} (h:Tab w g T m L Q) (hl:∀ j,j<m->L j=L' j):Tab w g T m L' Q:=by
 obtain ⟨r,h1,h2⟩:=h
 exact ⟨r,h1,h2.congr hl⟩
theorem Tab.cells {w:World} {g T m:Nat} {L:Nat->List Int} {Q:Nat->Prop} (h:Tab w g T m L Q) :
 ∃ r,w.cell? ⟨T,0,none⟩=some (.pointer (some ⟨g,0,none⟩))/\w.cell? ⟨T,1,none⟩=some (.slice (some ⟨r,0,none⟩) m m)/\Rws w (.slice (some ⟨r,0,none⟩) m m) m L Q:=by
 obtain ⟨r,h1,h2⟩:=h
 exact ⟨r,h1.cell (show 0<2 by decide),h1.cell (show 1<2 by decide),h2⟩
def ButQ (g b:Nat) (Q:Nat->Prop) (w w':World):Prop :=
 w'.os=w.os/\w'.tape=w.tape/\w'.output=w.output/\w.heap.size<=w'.heap.size/\∀ j,j<w.heap.size->¬ j=g->¬ j=b->¬ Q j->w'.heap[j]?=w.heap[j]?
theorem ButQ.refl (g b:Nat) (Q:Nat->Prop) (w:World):ButQ g b Q w w:=⟨rfl,rfl,rfl,Nat.le_refl _,fun _ _ _ _ _=>rfl⟩
theorem ButQ.trans {g b:Nat} {Q:Nat->Prop} {w v u:World} (h:ButQ g b Q w v) (k:ButQ g b Q v u):ButQ g b Q w u :=
 ⟨k.1.trans h.1,k.2.1.trans h.2.1,k.2.2.1.trans h.2.2.1,Nat.le_trans h.2.2.2.1 k.2.2.2.1,fun j h0 h1 h2 h3=>by rw [k.2.2.2.2 j (Nat.lt_of_lt_of_le h0 h.2.2.2.1) h1 h2 h3,h.2.2.2.2 j h0 h1 h2 h3]⟩
theorem ButQ.size {g b:Nat} {Q:Nat->Prop} {w v:World} (h:ButQ g b Q w v):w.heap.size<=v.heap.size:=h.2.2.2.1
theorem ButQ.of_below {g b:Nat} {Q:Nat->Prop} {w v:World} (h:Below w.heap.size w v):ButQ g b Q w v:=⟨h.os,h.tape,h.output,h.size,fun j hj _ _ _=>h.block j hj⟩
theorem ButQ.of_but2 {g b:Nat} {Q:Nat->Prop} {w v:World} (h:But2 g b w v):ButQ g b Q w v:=⟨h.1.os,h.1.tape,h.1.output,h.1.size,fun j hj h1 h2 _=>h.2 j hj h1 h2⟩
theorem ButQ.mono {g b:Nat} {Q Q':Nat->Prop} {w v:World} (h:ButQ g b Q w v) (hq:∀ q,q<w.heap.size->Q q->Q' q):ButQ g b Q' w v:=⟨h.1,h.2.1,h.2.2.1,h.2.2.2.1,fun j h0 h1 h2 h3=>h.2.2.2.2 j h0 h1 h2 fun q=>h3 (hq j h0 q)⟩
theorem ButQ.set {g b:Nat} {Q:Nat->Prop} {w v:World} (h:ButQ g b Q w v) {p:Addr} (hp:Q p.block\/w.heap.size<=p.block) (y:Value):ButQ g b Q w (v.setCell p y) :=
 ⟨((Below.refl 0 v).setCell (p:=p) (Nat.zero_le _) y).os.trans h.1,((Below.refl 0 v).setCell (p:=p) (Nat.zero_le _) y).tape.trans h.2.1,((Below.refl 0 v).setCell (p:=p) (Nat.zero_le _) y).output.trans h.2.2.1,Nat.le_trans h.2.2.2.1 ((Below.refl 0 v).setCell (p:=p) (Nat.zero_le _) y).size,fun j h0 h1 h2 h3=>by
   rw [Below.heap_setCell _ _ _ _ (show j ≠ p.block from fun e=>by subst e;rcases hp with q | q;exact h3 q;omega)];exact h.2.2.2.2 j h0 h1 h2 h3⟩
theorem ButQ.block {g b:Nat} {Q:Nat->Prop} {w v:World} (h:ButQ g b Q w v) {j:Nat} (h0:j<w.heap.size) (h1:¬ j=g) (h2:¬ j=b) (h3:¬ Q j):v.heap[j]?=w.heap[j]?:=h.2.2.2.2 j h0 h1 h2 h3
end Go.Proofs.YtnchnlgnnlgjcaaGreat
namespace Go.Proofs.YtnchnlgnnlgjcaaGreat
open Go.RowKit
namespace Rt
abbrev Tv:=(Option Addr × Nat × Nat) × (Option Addr × Nat × Nat)
def key (x:Tv):Value:=.slice x.1.1 x.1.2.1 x.1.2.2
def val (x:Tv):Value:=.slice x.2.1 x.2.2.1 x.2.2.2
def zero:Tv:=((none,0,0),(none,0,0))
def nth (l:List Tv) (i:Nat):Tv:=l.getD i zero
theorem nth_at {l:List Tv} {i:Nat} (h:i<l.length):nth l i=l[i]:=by simp [nth,h]
theorem nth_left {l r:List Tv} {i:Nat} (h:i<l.length):nth (l ++ r) i=nth l i:=by
 rw [nth_at h,nth_at (by simp;omega),List.getElem_append_left h]
theorem nth_last {l:List Tv} {x:Tv} {i:Nat} (h:i=l.length):nth (l ++ [x]) i=x:=by
 subst h
 rw [nth_at (by simp)]
 simp
theorem nth_take {l:List Tv} {i k:Nat} (h:i<k):nth (l.take k) i=nth l i:=by
 unfold nth
 simp [List.getElem?_take,h]
theorem nth_drop {l:List Tv} {i k:Nat}:nth (l.drop k) i=nth l (k+i):=by
 unfold nth
 simp [List.getElem?_drop]
theorem take_succ {l:List Tv} {k:Nat} (h:k<l.length):l.take (k+1)=l.take k ++ [nth l k]:=by
 rw [List.take_succ_eq_append_getElem h,nth_at h]
open Rn (pl pl_lt pl_inj pl_shift pl_zero)
theorem below_drewN {n:Nat} {a w:World} (h:Below n a w) (q:Nat):Below n a (w.drewN q):=h.trans ⟨rfl,rfl,rfl,Nat.le_refl _,fun _ _=>rfl⟩
theorem box_below (w:World) (o:Obj):Below w.heap.size w (w.alloc o):=(Below.refl _ _).alloc (Nat.le_refl _) _
def rc (r n f c:Nat) (i:Nat):Value:=if i=0 then .slice (some ⟨r,0,none⟩) n n else if i=1 then .int .i64 f else .int .i64 c
def RingAt (w:World) (g r n f:Nat) (l:List Tv):Prop :=
 ∃ F,w.rowIs g 154 3 (rc r n f l.length)/\w.rowIs r 111 (n*2) F/\l.length<=n/\n<=1024/\(f<n\/n=0/\f=0)/\∀ i,i<l.length->F (pl f n i*2)=key (nth l i)/\F (pl f n i*2+1)=val (nth l i)
theorem RingAt.of_block {w w':World} {g r n f:Nat} {l:List Tv} (h:RingAt w g r n f l) (h1:w'.heap[g]?=w.heap[g]?) (h2:w'.heap[r]?=w.heap[r]?):RingAt w' g r n f l:=by
 obtain ⟨F,a,b,c⟩:=h
 exact ⟨F,a.of_block h1,b.of_block h2,c⟩
theorem RingAt.lt {w:World} {g r n f:Nat} {l:List Tv} (h:RingAt w g r n f l):g<w.heap.size/\r<w.heap.size:=by
 obtain ⟨F,a,b,_⟩:=h
 exact ⟨a.lt,b.lt⟩
theorem RingAt.tys {w:World} {g r n f:Nat} {l:List Tv} (h:RingAt w g r n f l):Ty w g 154/\Ty w r 111:=by
 obtain ⟨F,a,b,_⟩:=h
 exact ⟨ty_row a,ty_row b⟩
theorem RingAt.ne {w:World} {g r n f:Nat} {l:List Tv} (h:RingAt w g r n f l):¬ g=r:=h.tys.1.ne h.tys.2 (by decide)
theorem RingAt.nums {w:World} {g r n f:Nat} {l:List Tv} (h:RingAt w g r n f l):l.length<=n/\n<=1024/\(f<n\/n=0/\f=0):=by
 obtain ⟨F,_,_,h1,h2,h3,_⟩:=h
 exact ⟨h1,h2,h3⟩
theorem RingAt.keep {w w':World} {g r n f:Nat} {l:List Tv} (h:RingAt w g r n f l) (hb:Below w.heap.size w w'):RingAt w' g r n f l :=
 h.of_block (hb.block _ h.lt.1) (hb.block _ h.lt.2)
theorem RingAt.cells {w:World} {g r n f:Nat} {l:List Tv} (h:RingAt w g r n f l) :
 w.cell? ⟨g,0,none⟩=some (.slice (some ⟨r,0,none⟩) n n)/\w.cell? ⟨g,1,none⟩=some (.int .i64 f)/\w.cell? ⟨g,2,none⟩=some (.int .i64 l.length)/\w.frozen? ⟨g,1,none⟩=false/\w.frozen? ⟨g,2,none⟩=false/\g<w.heap.size:=by
 obtain ⟨F,a,_⟩:=h
 exact ⟨a.cell (show 0<3 by decide),a.cell (show 1<3 by decide),a.cell (show 2<3 by decide),a.frozen 1,a.frozen 2,a.lt⟩
theorem RingAt.thing {w:World} {g r n f:Nat} {l:List Tv} (h:RingAt w g r n f l) {i:Nat} (hi:i<l.length):w.cell? ⟨r,pl f n i*2,none⟩=some (key (nth l i))/\w.cell? ⟨r,pl f n i*2+1,none⟩=some (val (nth l i)):=by
 obtain ⟨F,a,b,h1,h2,h3,h4⟩:=h
 have hp:pl f n i<n:=pl_lt (by omega)
 rw [<-(h4 i hi).1,<-(h4 i hi).2]
 exact ⟨b.cell (by omega),b.cell (by omega)⟩
def But (g r:Nat) (w w':World):Prop:=Below 0 w w'/\∀ j,j<w.heap.size->¬ j=g->¬ j=r->w'.heap[j]?=w.heap[j]?
theorem But.size {g r:Nat} {w w':World} (h:But g r w w'):w.heap.size<=w'.heap.size:=h.1.size
theorem But.trans {g r:Nat} {w v u:World} (h:But g r w v) (k:But g r v u):But g r w u :=
 ⟨h.1.trans k.1,fun j h0 h1 h2=>by rw [k.2 j (Nat.lt_of_lt_of_le h0 h.size) h1 h2,h.2 j h0 h1 h2]⟩
theorem But.of_below {g r:Nat} {w v:World} (h:Below w.heap.size w v):But g r w v:=⟨h.mono (Nat.zero_le _),fun j hj _ _=>h.block j hj⟩
theorem But.set {g r:Nat} {w v:World} (h:But g r w v) {p:Addr} (hp:p.block=g\/p.block=r) (y:Value):But g r w (v.setCell p y) :=
 ⟨h.1.setCell (p:=p) (Nat.zero_le _) y,fun j h0 h1 h2=>by
  rw [Below.heap_setCell _ _ _ _ (show j ≠ p.block by rcases hp with e | e <;> rw [e] <;> assumption)]
  exact h.2 j h0 h1 h2⟩
theorem But.drew {g r:Nat} {w v:World} (h:But g r w v) (n:Nat):But g r w (v.drewN n):=h.trans ⟨below_drewN (Below.refl _ _) _,fun _ _ _ _=>rfl⟩
theorem But.below {g r B:Nat} {w v:World} (h:But g r w v) (hg:B<=g) (hr:B<=r) (hs:B<=w.heap.size):Below B w v :=
 ⟨h.1.os,h.1.tape,h.1.output,h.1.size,fun j hj=>h.2 j (by omega) (by omega) (by omega)⟩
theorem But.cell {g r:Nat} {w v:World} (h:But g r w v) {a:Addr} (hl:a.block<w.heap.size) (h1:¬ a.block=g) (h2:¬ a.block=r):v.cell? a=w.cell? a:=World.cell?_of_block (h.2 _ hl h1 h2)
end Rt
end Go.Proofs.YtnchnlgnnlgjcaaGreat
namespace Go.Proofs.YtnchnlgnnlgjcaaGreat
open Go.RowKit
theorem Tryz.infoSlices:(Tryz.prog.info? 70).map (fun i=>(i.zero,i.size,i.bytes))=some (some (.slice none 0 0),1,24):=by kernel_rfl
theorem newTable_ok (g m:Nat) (h:m<=16) (w:World) :
 Calls Tryz.prog 53 #[.pointer (some ⟨g,0,none⟩),.int .i64 m] w fun e w'=>∃ T,e=.returned (.tuple #[.pointer (some ⟨T,0,none⟩),.int .i64 0])/\Tab w' g T m (fun _=>[]) (fun q=>w.heap.size<=q)/\w.heap.size<=T/\Below w.heap.size w w':=by
 have hmk:=run_make_row' (P:=Tryz.prog) 149 70 (.slice none 0 0) 24 Tryz.underlying149 Tryz.infoSlices rfl .i64 .i64 m (by omega) (by omega)
 go_enter Tryz.func53,Tryz.ntmps53
 go_wp2
 clear hmk
 go_ret2
 refine ⟨w.heap.size+1,rfl,⟨w.heap.size,?_,rws_made ((World.rowIs_made w _ m _).alloc _) (Nat.le_refl _)⟩,by omega,two_boxes _ _ _⟩
 have:=World.rowIs_alloc (w.alloc (.cells (madeCells #[.slice none 0 0] m) 70)) #[.pointer (some ⟨g,0,none⟩),.slice (some ⟨w.heap.size,0,none⟩) m m] 151 (tbc g w.heap.size m) (by
  intro i hi
  match i,hi with
  | 0,_=>rfl
  | 1,_=>rfl)
 simpa using this
theorem rows_any (g T m:Nat) (L:Nat->List Int) (Q:Nat->Prop) (w:World) (h:Tab w g T m L Q) :
 Calls Tryz.prog 54 #[.pointer (some ⟨T,0,none⟩)] w fun e w'=>e=.returned (.int .i64 m)/\w'=w:=by
 obtain ⟨r,c0,c1,_⟩:=h.cells
 clear h c0
 go_enter Tryz.func54,Tryz.ntmps54
 go_wp2
 go_ret
 exact ⟨rfl,rfl⟩
theorem has_yes (g T m row:Nat) (L:Nat->List Int) (Q:Nat->Prop) (w:World) (h:Tab w g T m L Q) (hr:row<m) :
 Calls Tryz.prog 103 #[.pointer (some ⟨T,0,none⟩),.int .i64 row] w fun e w'=>e=.returned (.bool true)/\w'=w:=by
 obtain ⟨r,c0,c1,_⟩:=h.cells
 clear h c0
 have z:decide ((row:Int)<m)=true:=decide_eq_true (by omega)
 go_enter Tryz.func103,Tryz.ntmps103
 go_wp2
 go_ret
 exact ⟨rfl,rfl⟩
theorem len_yes (g T m row k:Nat) (L:Nat->List Int) (Q:Nat->Prop) (w:World) (h:Tab w g T m L Q) (hr:row<m) (hk:(L row).length=k) :
 Calls Tryz.prog 68 #[.pointer (some ⟨T,0,none⟩),.int .i64 row] w fun e w'=>e=.returned (.int .i64 k)/\w'=w:=by
 obtain ⟨r,c0,c1,hrw⟩:=h.cells
 obtain ⟨d,c,A,C,e,hc,_⟩:=hrw.cell hr
 cases e
 rw [hk] at hc
 have H:Hid (Tab w g T m L Q):=h
 clear h c0 hrw hk
 go_enter Tryz.func68,Tryz.ntmps68
 go_wp2_with (go_at_call 103;refine (has_yes g T m row L Q _ H.out hr).mono ?_;rintro e w' ⟨rfl,hww⟩;cases hww.symm;clear hww)
 go_ret
 exact ⟨rfl,rfl⟩
theorem get_page (g b n k q:Nat) (R M:List Int) (w:World) (h:PoolAt w g b n R M) (hk:k<n) (hr:0<Ls.nth R k) (s0:w.cell? ⟨b,k*2,none⟩=some (.pointer (some ⟨q,0,none⟩))) :
 Calls Tryz.prog 104 #[.pointer (some ⟨g,0,none⟩),.int .i64 k] w fun e w'=>e=.returned (.tuple #[.pointer (some ⟨q,0,none⟩),.int .i64 0])/\w'=w:=by
 have HP:Hid (PoolAt w g b n R M):=h
 have HR:Hid (0<Ls.nth R k):=hr
 clear h hr
 go_enter Tryz.func104,Tryz.ntmps104
 go_wp2_with (go_at_call 86;refine (held_some g b n k R M _ HP.out hk HR.out).mono ?_;rintro e w' ⟨rfl,hww⟩;cases hww.symm;clear hww)
 go_ret2
 exact ⟨rfl,rfl⟩
theorem at_ok (g b n T m row i s:Nat) (R M:List Int) (L:Nat->List Int) (Q:Nat->Prop) (w:World) (hp:PoolAt w g b n R M) (h:Tab w g T m L Q) (hr:row<m) (hi:i<(L row).length) (es:Ls.nth (L row) i=s) (hs:s<n) (h0:0<Ls.nth R s) :
 Calls Tryz.prog 69 #[.pointer (some ⟨T,0,none⟩),.int .i64 row,.int .i64 i] w fun e w'=>∃ q,e=.returned (.tuple #[.pointer (some ⟨q,0,none⟩),.int .i64 0])/\PgM w' q (Ls.nth M s)/\Below w.heap.size w w':=by
 obtain ⟨r,c0,c1,hrw⟩:=h.cells
 obtain ⟨d,c,A,C,e,hc,_,hl,_⟩:=hrw.cell hr
 cases e
 obtain ⟨ab,ao,rfl,hg⟩:=hl.get hi
 have s0:=hg i hi
 rw [es] at s0
 obtain ⟨k,ek⟩:∃ k,(L row).length=k:=⟨_,rfl⟩
 have EK:Hid ((L row).length=k):=ek
 rw [ek] at hc hi
 have H:Hid (Tab w g T m L Q):=h
 have HP:Hid (PoolAt w g b n R M):=hp
 have H0:Hid (0<Ls.nth R s):=h0
 have z:¬ (k:Int)<=i:=by omega
 obtain ⟨q,p0,_,_,hq⟩:=hp.page hs h0
 have HQ:Hid (PgM w q (Ls.nth M s)):=hq
 have P0:Hid (w.cell? ⟨b,s*2,none⟩=some (.pointer (some ⟨q,0,none⟩))):=p0
 clear p0 hq
 clear h hp h0 hg hl hrw es ek
 go_enter Tryz.func69,Tryz.ntmps69
 go_wp2_with (go_at_call 68;refine (len_yes g T m row k L Q _ H.out hr EK.out).mono ?_;rintro e w' ⟨rfl,hww⟩;cases hww.symm;clear hww)
 go_quiet ((go_at_call 104;exact (get_page g b n s q R M _ (HP.out.keep (below_drewN (Below.refl _ _) _)) hs H0.out (by simpa using P0.out)).mono fun _ _ ⟨he,hw⟩=>⟨he,_,hw⟩))
 go_wp2
 go_ret2
 exact ⟨_,rfl,HQ.out.keep (below_drewN (Below.refl _ _) _),below_drewN (Below.refl _ _) _⟩
end Go.Proofs.YtnchnlgnnlgjcaaGreat
namespace Go.Proofs.YtnchnlgnnlgjcaaGreat
open Go.RowKit
theorem map_snoc (l:List Int) (y:Int):l.map (Value.int .i64) ++ [.int .i64 y]=(l ++ [y]).map (Value.int .i64):=by simp
theorem row_snoc {w:World} {v:Value} {l:List Int} {k:Nat} {y:Int} (h:w.ownsRow 0 3 1 v (k+1) (l.map (Value.int .i64) ++ [.int .i64 y])) (hk:l.length=k):RowAt w v (l ++ [y]):=by
 subst hk
 unfold RowAt
 rw [<-map_snoc,List.length_append]
 exact h
theorem PoolAt.rws {w w':World} {g b n:Nat} {R M:List Int} (h:PoolAt w g b n R M) (hb:But2 g b w w') {v:Value} {m:Nat} {L:Nat->List Int} {Q:Nat->Prop} (hr:Rws w v m L Q):Rws w' v m L Q :=
 hr.stand fun q _ ht=>hb.2 q (by rcases ht with t | t <;> exact t.lt) (by rcases ht with t | t <;> exact fun e=>t.ne h.tys.1 (by decide) e) (by rcases ht with t | t <;> exact fun e=>t.ne h.tys.2 (by decide) e)
theorem PoolAt.tab {w w':World} {g b n:Nat} {R M:List Int} (h:PoolAt w g b n R M) (hb:But2 g b w w') {T m:Nat} {L:Nat->List Int} {Q:Nat->Prop} (ht:Tab w g T m L Q):Tab w' g T m L Q:=by
 have n1:¬ T=g:=ht.ty.ne h.tys.1 (by decide)
 have n2:¬ T=b:=ht.ty.ne h.tys.2 (by decide)
 obtain ⟨r,h1,h2⟩:=ht
 exact ⟨r,h1.of_block (hb.2 T h1.lt n1 n2),h.rws hb h2⟩
theorem add_grown {w w1:World} {g b:Nat} {Q:Nat->Prop} {v:Value} {o:Obj} (h:(w.drew.alloc o).grownBy w1 v.ownBlock) (hq:∀ x,v.ownBlock=some x->Q x/\Ty w x 3):ButQ g b Q w w1/\∀ j,j<w.heap.size->¬ v.ownBlock=some j->w1.heap[j]?=w.heap[j]?:=by
 have far:∀ j,j<w.heap.size->¬ v.ownBlock=some j->w1.heap[j]?=w.heap[j]?:=fun j hj hn=>by
  rw [h.block j (by simp;omega) (fun e=>hn e.symm)]
  exact (((Below.refl w.heap.size w).drew).alloc (Nat.le_refl _) o).block j hj
 have b0:Below 0 w (w.drew.alloc o):=((Below.refl _ _).drew).alloc (Nat.zero_le _) _
 exact ⟨⟨h.os.trans b0.os,h.tape.trans b0.tape,h.output.trans b0.output,Nat.le_trans b0.size h.size,fun j hj _ _ hn=>far j hj fun e=>hn (hq j e).1⟩,far⟩
set_option maxHeartbeats 800000 in
theorem add_ok (g b n T m row k q:Nat) (mk:Int) (R M:List Int) (L:Nat->List Int) (Q:Nat->Prop) (w:World) (hp:PoolAt w g b n R M) (h:Tab w g T m L Q) (hr:row<m) (hL:(L row).length<=100000) (hk:k<n) (h0:Ls.nth R k=0) (hl:∀ i,i<k->¬ Ls.nth R i=0) (hq:PgM w q mk) :
 Calls Tryz.prog 99 #[.pointer (some ⟨T,0,none⟩),.int .i64 row,.pointer (some ⟨q,0,none⟩)] w fun e w'=>e=.returned (.int .i64 0)/\PoolAt w' g b n (R.set k 1) (M.set k mk) /\
  Tab w' g T m (Bk.up L row (L row ++ [(k:Int)])) (fun j=>Q j\/w.heap.size<=j)/\ButQ g b Q w w':=by
 obtain ⟨i0,hi0,hi1,hi2,hi3⟩:=info_parts Tryz.infoIntG
 obtain ⟨r,c0,c1,hrw⟩:=h.cells
 have HP:Hid (PoolAt w g b n R M):=hp
 have H:Hid (Tab w g T m L Q):=h
 have H0:Hid (Ls.nth R k=0):=h0
 have HL:Hid (∀ i,i<k->¬ Ls.nth R i=0):=hl
 have HQ:Hid (PgM w q mk):=hq
 have q1:¬ q=g:=by obtain ⟨_,f,hr'⟩:=hq;exact (ty_row hr').ne hp.tys.1 (by decide)
 have q2:¬ q=b:=by obtain ⟨_,f,hr'⟩:=hq;exact (ty_row hr').ne hp.tys.2 (by decide)
 have HN:Hid (¬ q=g/\¬ q=b):=⟨q1,q2⟩
 obtain ⟨n0,en⟩:∃ n0,(L row).length=n0:=⟨_,rfl⟩
 have EN:Hid ((L row).length=n0):=en
 rw [en] at hL
 clear hp h h0 hl hq q1 q2 en hrw
 go_enter Tryz.func99,Tryz.ntmps99
 go_upto_region 6 with (first
  | (go_at_call 103;refine (has_yes g T m row L Q _ H.out hr).mono ?_;rintro e w' ⟨rfl,hww⟩;cases hww.symm;clear hww)
  | (go_at_call 126;refine (put_ok g b n k q mk R M _ HP.out hk H0.out HL.out HQ.out HN.out.1 HN.out.2).mono ?_;rintro e w' ⟨rfl,hpp,hbb⟩))
 have PP:Hid (PoolAt w' g b n (R.set k 1) (M.set k mk)/\But2 g b w w'):=⟨hpp,hbb⟩
 have ht':=HP.out.tab hbb H.out
 clear hpp hbb c0 c1
 obtain ⟨r,c0,c1,hrw⟩:=ht'.cells
 have HT:Hid (w'.rowIs T 151 2 (tbc g r m)):=by
  obtain ⟨r',h1,_⟩:=ht'
  have:=h1.cell (show 1<2 by decide)
  rw [c1] at this
  cases this
  exact h1
 clear ht'
 obtain ⟨d,c,A,C,e,hc,ho,_⟩:=hrw.cell hr
 cases e
 have HO:Hid (RowAt w' (.slice A (L row).length C) (L row)):=ho
 have HR:Hid (Rws w' (.slice (some ⟨r,0,none⟩) m m) m L Q):=hrw
 have HC:Hid (w'.cell? ⟨r,row,none⟩=some (.slice A (L row).length C)):=hc
 have hall:w'.frozen? ⟨r,row,none⟩=false/\Q r/\(∀ x,(Value.slice A (L row).length C).ownBlock=some x->Q x/\Ty w' x 3)/\Ty w' r 70:=by
  rcases hrw with ⟨h,_⟩ | ⟨d,c,F,e,_,hr',hd,h1,h2,_⟩
  ·cases h
  ·cases e
   have hv:F row=.slice A (L row).length C:=by have:=hr'.cell hr;rw [hc] at this;exact (Option.some.inj this).symm
   refine ⟨hr'.frozen _,hd,fun x ex=>?_,ty_row hr'⟩
   rw [<-hv] at ex
   exact ⟨h2 row hr x ex,ty_own (h1 row hr) ex⟩
 rw [EN.out] at hall
 obtain ⟨fr,hQr,hQo,tr⟩:=hall
 have HQr:Hid (Q r):=hQr
 have HQo:Hid (∀ x,(Value.slice A n0 C).ownBlock=some x->Q x/\Ty w' x 3):=hQo
 have rlt:r<w'.heap.size:=tr.lt
 have Tlt:T<w'.heap.size:=HT.out.lt
 have TNE:Hid (¬ (Value.slice A n0 C).ownBlock=some T):=fun e=>(hQo T e).2.ne (ty_row HT.out) (by decide) rfl
 have C1:Hid (w'.cell? ⟨T,1,none⟩=some (.slice (some ⟨r,0,none⟩) m m)):=c1
 have TR:Hid (Ty w' r 70):=tr
 have rne:Hid (some r ≠ (Value.slice A n0 C).ownBlock):=fun e=>(hQo r e.symm).2.ne tr (by decide) rfl
 have ho2:w'.ownsRow 0 3 1 (.slice A n0 C) n0 ((L row).map (Value.int .i64)):=by have:=ho;unfold RowAt at this;rw [EN.out] at this;exact this
 have HO2:Hid (w'.ownsRow 0 3 1 (.slice A n0 C) n0 ((L row).map (Value.int .i64))):=ho2
 rw [EN.out] at hc
 have HC2:Hid (w'.cell? ⟨r,row,none⟩=some (.slice A n0 C)):=hc
 have FR:Hid (w'.frozen? ⟨r,row,none⟩=false):=fr
 clear ho ho2 hrw hQr hQo tr fr HO HC
 go_region_law (refine step_append_lies _ (by rfl) _ _ _ (by rfl) 0 3 i0 _ 1 8 Tryz.underlying70 hi0 hi1 hi2 hi3 rfl (by omega) _ n0 _ (by rfl) (HO2.out.drew.alloc _) ⟨w'.heap.size,0,none⟩ 1 1 [.int .i64 (k:Int)] (by rfl) (by rfl) (World.news_of_block (cs:=#[.int .i64 (k:Int)]) (t:=3) (fr:=(0,0)) (heap_alloc_new w'.drew _)) (by simp [Value.oneCell']) (by omega) (by unfold maxLen;omega) (by omega) (by omega) (w'.heap.size+1) (by simp) ?_;intro gg cap w1 hown1 hgrow hat hlt1;have HA:Hid (w1.ownsRow 0 3 1 (.slice (some ⟨gg,0,none⟩) (n0+1) cap) (n0+1) ((L row).map (Value.int .i64) ++ [.int .i64 (k:Int)])):=hown1;have HG:Hid (ButQ g b Q w' w1/\∀ j,j<w'.heap.size->¬ (Value.slice A n0 C).ownBlock=some j->w1.heap[j]?=w'.heap[j]?):=(add_grown (b:=b) (g:=g) hgrow HQo.out);have HAT:Hid ((Value.slice A n0 C).ownBlock=some gg\/gg=w'.heap.size+1):=hat;have ct:=(World.cell?_of_block (a:=⟨T,1,none⟩) (HG.out.2 T Tlt TNE.out)).trans C1.out;have rb:=HG.out.2 r rlt (fun e=>rne.out e.symm);have cc:=(World.cell?_of_block (a:=⟨r,row,none⟩) rb).trans HC2.out;have ff:=(World.frozen?_of_block (a:=⟨r,row,none⟩) rb).trans FR.out;clear hown1 hgrow hat rb)
 all_goals
  go_wp2
  go_ret
  have hsz:=PP.out.2.size
  have r1:Rws (w1.setCell ⟨r,row,none⟩ (.slice (some ⟨gg,0,none⟩) (n0+1) cap)) (.slice (some ⟨r,0,none⟩) m m) m (Bk.up L row (L row ++ [(k:Int)])) (fun q=>Q q\/w'.heap.size<=q) :=
   HR.out.more hr HC2.out (row_snoc HA.out EN.out) (fun x ex=>by have ex:some gg=some x:=ex;cases ex;exact HAT.out.imp id fun e=>by omega) (fun j hj hn=>HG.out.2 j hj hn)
  have hTr:¬ T=r:=HT.out |> ty_row |>.ne TR.out (by decide)
  have hT1:w1.heap[T]?=w'.heap[T]?:=HG.out.2 T HT.out.lt (fun e=>(HQo.out T e).2.ne (ty_row HT.out) (by decide) rfl)
  have tr1:Ty w1 r 70:=TR.out.of_block (HG.out.2 r rlt (fun e=>rne.out e.symm))
  refine ⟨rfl,?_,⟨r,?_,r1.mono fun j _ hj=>hj.imp id fun h=>by omega⟩,?_⟩
  ·refine PoolAt.far (PP.out.1.stand fun j hj=>?_) tr1 (by decide) (by decide) (by decide) _ _
   refine HG.out.2 j (by rcases hj with h | h | h <;> exact h.lt) fun e=>?_
   have:=(HQo.out j e).2
   rcases hj with h | h | h <;> exact this.ne h (by decide) rfl
  ·refine HT.out.of_block ?_
   rw [Below.heap_setCell _ _ _ _ (show T ≠ r from hTr)]
   exact hT1
  ·refine ButQ.set ?_ (.inl HQr.out) _
   exact (ButQ.of_but2 PP.out.2).trans HG.out.1
end Go.Proofs.YtnchnlgnnlgjcaaGreat
namespace Go.Proofs.YtnchnlgnnlgjcaaGreat
open Go.RowKit
theorem lst_none {k:IntKind} {w:World} {l:List Int} (h:Lst k w none l):l=[]:=by
 cases l with
 | nil=>rfl
 | cons x l=>obtain ⟨b,o,e,_⟩:=h 0 (by simp);cases e
set_option maxRecDepth 100000 in
theorem cloneR_any (A:Option Addr) (n C:Nat) (l:List Int) (w:World) (h:Lst .i64 w A l) (hn:l.length=n) (hc:A=none->C=0) (hl:n<=100000) :
 Calls Tryz.prog 84 #[.slice A n C] w fun e w'=>∃ v,e=.returned v/\w'.ownsRow w.heap.size 3 1 v n (l.map (Value.int .i64))/\Below w.heap.size w w':=by
 cases A with
 | none =>
   have e:=lst_none h
   subst e
   have e0:n=0:=hn.symm
   subst e0
   have ec:=hc rfl
   subst ec
   clear h hn hc
   have hq:(binOp .eql 70 (.slice none 0 0) (.slice none 0 0)).run Tryz.prog w=.ok (.bool true) w:=slice_nil w _ _ none _ _ Tryz.underlying70
   go_enter Tryz.func84,Tryz.ntmps84
   go_wp2
   go_ret
   exact ⟨_,rfl,World.ownsRow_nil _ _ _ _,Below.refl _ _⟩
 | some x =>
   subst hn
   have HL:Hid (Lst .i64 w (some x) l):=h
   clear h hc
   have hq:(binOp .eql 70 (.slice (some x) l.length C) (.slice none 0 0)).run Tryz.prog w=.ok (.bool false) w:=slice_nil w _ _ (some x) _ _ Tryz.underlying70
   go_enter Tryz.func84,Tryz.ntmps84
   go_wp2_with (at_builtin;refine wpList_append_lst rfl _ _ 70 rfl w.heap.size 3 .i64 8 Tryz.underlying70 Tryz.infoIntG _ 0 [] (by rfl) (World.ownsRow_made w #[] 0 (Nat.le_refl _) (by decide) rfl) (some x) l C (by rfl) (HL.out.keep (box_below _ _)) (fun e=>nomatch e) (by unfold maxLen;omega) (by omega) (by simp) ?_;intro v1 u1 ho1 hg1;simp only [Nat.zero_add,List.nil_append] at ho1;have O1:Hid (u1.ownsRow w.heap.size 3 1 v1 l.length (l.map (Value.int .i64))):=ho1;have B1:Hid (Below w.heap.size w u1):=(box_below _ _).grown hg1 (by simp) (by intro k hk;cases hk;exact Nat.le_refl _);clear ho1 hg1)
   go_ret
   exact ⟨_,rfl,O1.out,B1.out⟩
set_option maxHeartbeats 800000 in
set_option maxRecDepth 100000 in
theorem grow_nil (n:Nat) (hn:n<=100000) (w:World) :
 Calls Tryz.prog 130 #[.slice none 0 0,.int .i64 n] w fun e w'=>∃ v,e=.returned v/\w'.ownsRow w.heap.size 3 1 v 0 []/\Below w.heap.size w w':=by
 by_cases h0:n=0
 ·subst h0
  go_enter Tryz.func130,Tryz.ntmps130
  go_wp2
  go_ret
  exact ⟨_,rfl,World.ownsRow_nil _ _ _ _,Below.refl _ _⟩
 ·obtain ⟨i0,hi0,hi1,hi2,hi3⟩:=info_parts Tryz.infoIntG
  have z0:(0:Int)<n:=by omega
  have hrz:∀ ty,(Builtin.append_ #[70,3] ty #[.slice none 0 0,.int .i64 (n:Int)]).run Tryz.prog w =
   .ok (.slice (some ⟨w.heap.size,0,none⟩) n (grownCap w n 0 3)) (w.drew.alloc (.cells (#[] ++ Builtin.zeroCells (Value.int .i64 0).cells n ++ Builtin.zeroCells (Value.int .i64 0).cells (grownCap w n 0 3 - n)) 3)):=fun ty=>by
   have h:=Lib.run_append_grow_zeros (P:=Tryz.prog) w 70 3 ty 3 i0 (.int .i64 0) .i64 .i64 Tryz.underlying70 Tryz.underlying3 hi0 hi1 none 0 0 [] (by rw [hi2];exact run_firstCells_none w.drew 1 0 0 0) n (by omega) (by omega) (by omega) (by omega)
    (by rw [hi3];omega) (by rw [hi3];exact growslice_fits (by omega) (by omega))
   simpa using h
  have hG:=grownCap_ge w n 0 3
  have hG2:=grownCap_le_maxLen w n 0 3 (by unfold maxLen;omega)
  obtain ⟨G,eG⟩:∃ G,grownCap w n 0 3=G:=⟨_,rfl⟩
  rw [eG] at hrz hG hG2
  clear eG h0
  have hG63:G<=9223372036854775807:=by unfold maxLen at hG2;omega
  go_enter Tryz.func130,Tryz.ntmps130
  go_wp2_with (at_builtin;refine Lib.wpList_append_run _ rfl _ _ _ _ rfl _ _ rfl rfl _ _ (hrz _) ?_)
  all_goals
   go_ret
   refine ⟨_,rfl,World.ownsRow_made w.drew _ G (Nat.le_refl _) hG2 ?_,((Below.refl _ _).drew).alloc (Nat.le_refl _) _⟩
   simp [Builtin.zeroCells,Value.cells]
   omega
end Go.Proofs.YtnchnlgnnlgjcaaGreat
