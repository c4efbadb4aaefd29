/- A range over a function whose rounds come in a fixed order: the k-th round is asked at the k-th values alone (the library's own laws ask the body at whatever values). -/
import Derived.Test.YtgjghnbhpnflfaaRows
import Derived.RangeFuncNested
import Derived.RangeFuncBound
import Derived.RangeFuncCalls
import Derived.RangeFuncLeaves
import Derived.RangeFuncBox
import Derived.Shelf.Abstract
import Derived.Shelf.RegionOpen
import Derived.OwnWalkIn
import Derived.TacticsInMore
import Derived.LoopNIn
import Derived.LoopIn
namespace Go.Proofs.Ytgjghnbhpnflfaa
set_option linter.unusedVariables false
open Go.RowKit Go.Shelf

/-- AN ITERATOR THAT TELLS enc 0, enc 1, .., enc (N - 1), as far as it is asked. -/
def SeqAt (m : Nat) (P : Program) (gf : Nat) (lb : Array Value) (enc : Nat → Array Value) (Kp : World → World → Prop) (N : Nat) (w0 : World) : Prop :=
  ∀ (l : Nat) (J Jx : Nat → World → Prop) (W : World), Below w0.heap.size w0 W → AbidesFrom W.heap.size J → AbidesFrom W.heap.size Jx →
    (∀ k W1, k < N → J k W1 → YieldAt Fence.wide (m - 1) P l (enc k) W1 fun e W' => (e = .returned (.bool true) ∧ J (k + 1) W' ∧ Kp W1 W') ∨ (e = .returned (.bool false) ∧ Jx (k + 1) W')) →
    J 0 W → CallsIn Fence.wide m P gf (#[.func (.yield l) #[] #[]] ++ lb) W fun e W' => (∃ v, e = .returned v) ∧ (J N W' ∨ ∃ k, k ≤ N ∧ Jx k W')
/-- How the k-th round may be left. -/
def leftAt (B : Nat) (Kp : World → World → Prop) (I : Nat → World → Prop) (Ix : Code → Nat → World → Prop) (k : Nat) (W : World) (e : Exit) (W' : World) : Prop :=
  KeepsFrom B W W' ∧ ((e = .normal ∧ Kp W W' ∧ I (k + 1) W') ∨ ∃ c, ((c = .ret ∧ e = .ret) ∨ (∃ i, c = .exit i ∧ e = .exit i)) ∧ Ix c (k + 1) W')

theorem range_at {P : Program} {g : Operand} {ps : Array Tmp} {assign body : Code} {Q : Exit → Act → World → Prop} {a : Act} {w : World} {m : Nat} (h1 : 1 ≤ m) {gf : Nat} {lb : Array Value} (hg : a.eval g = .func (.func gf) #[] lb) (eg : ∀ args w, (callFunc gf args).run P w = .ok (.enter gf args) w)
    {enc : Nat → Array Value} {Kp : World → World → Prop} {N : Nat} {w0 : World} (hseq : SeqAt (m - 1) P gf lb enc Kp N w0) (hKt : ∀ {A B C : World}, Kp A B → Kp B C → Kp A C)
    (hKb : ∀ (W : World) (l : Nat) (o o' : Obj), w.heap.size ≤ l → W.heap[l]? = some o → o.isCells = false → o.isWalk = false → Kp W (W.putObj l o')) (hb0 : Below w0.heap.size w0 w) (hps : ∀ k, (enc k).size = ps.size)
    (I : Nat → World → Prop) (Ix : Code → Nat → World → Prop) (hI : OwnFrom w.heap.size I) (hIx : ∀ c, OwnFrom w.heap.size (Ix c)) (h0 : I 0 w) (a₁ : Nat → Act)
    (hassign : ∀ (l k : Nat) (W : World) (K : Act → World → Prop), K (a₁ k) W → assign.wpIn (Fence.wide.inRound l) (m - 1 - 1) P (Exit.then K (fun _ _ _ => False)) { tmps := (ps.zip (enc k)).foldl (fun t (p, v) => t.setIfInBounds p v) a.tmps, defers := [] } W)
    (hbody : ∀ (l k : Nat) (W : World), k < N → I k W → body.wpIn (Fence.wide.inRound l) (m - 1 - 1) P (fun e _ W' => leftAt w.heap.size Kp I Ix k W e W') (a₁ k) W)
    (hdone : ∀ (D : Nat) (W : World), w.heap.size ≤ D → I N W → W.heap[D]? = some (.deferred (some [])) → Q .normal { a with defers := { target := .collected D, args := #[] } :: a.defers } W)
    (hstop : ∀ (D : Nat) (c : Code) (k : Nat) (W : World), w.heap.size ≤ D → k ≤ N → Ix c k W → W.heap[D]? = some (.deferred (some [])) → c.wpIn Fence.wide m P Q { a with defers := { target := .collected D, args := #[] } :: a.defers } W) :
    (Code.rangeFunc g ps assign body).wpIn Fence.wide m P Q a w := by
  refine wpIn_rangeFunc fun fn hfn => ?_
  let lp : LoopState → Option Code → Obj := fun st pe => .loop { state := st, pending := pe, fn, tmps := a.tmps, params := ps, assign, body, defers := w.heap.size }
  -- the two blocks that the statement lays: the rounds' deferred calls, the loop's record
  let Z := w.heap.size
  let two : World → Obj → Prop := fun W o => W.heap[Z + 1]? = some o ∧ W.heap[Z]? = some (.deferred (some []))
  obtain ⟨W1, hW1⟩ : ∃ W1, (w.alloc (.deferred (some []))).alloc (lp .ready none) = W1 := ⟨_, rfl⟩
  have t1 : two W1 (lp .ready none) := by
    refine ⟨?_, ?_⟩
    · have := World.alloc_heap_new (w.alloc (.deferred (some []))) (lp .ready none)
      rw [World.size_alloc, hW1] at this
      exact this
    · rw [← hW1]
      exact (Below.heap_alloc _ _ _ (by show w.heap.size < _; simp)).trans (World.alloc_heap_new w _)
  have sz1 : W1.heap.size = Z + 1 + 1 := by rw [← hW1]; simp; rfl
  have i1 : I 0 W1 := by rw [← hW1]; exact hI.alloc _ (hI.alloc _ h0)
  have b1 : Below w0.heap.size w0 W1 := by
    rw [← hW1]
    exact ((hb0.alloc hb0.size _).alloc (by have := hb0.size; simp; omega) _)
  have keep2 : ∀ {A B : World} {row : Option Nat} {o : Obj}, two A o → o.isWalk = false → A.grownBy B row → (∀ r, row = some r → W1.heap.size ≤ r ∧ ∃ o : Obj, A.heap[r]? = some o ∧ o.isWalk = true) → two B o := fun h ho hgr hr =>
    ⟨(grownBy_keeps hgr (fun r e => (hr r e).2) h.1 ho).trans h.1, (grownBy_keeps hgr (fun r e => (hr r e).2) h.2 rfl).trans h.2⟩
  have wide : ∀ {A : World} {row : Option Nat}, (∀ r, row = some r → W1.heap.size ≤ r ∧ ∃ o : Obj, A.heap[r]? = some o ∧ o.isWalk = true) → ∀ r, row = some r → w.heap.size ≤ r ∧ ∃ o : Obj, A.heap[r]? = some o ∧ o.isCells = false := fun hr r e => by
    obtain ⟨q1, o, q2, q3⟩ := hr r e
    exact ⟨by have : w.heap.size = Z := rfl; omega, o, q2, Obj.not_cells_of_walk q3⟩
  refine ⟨Z + 1, [{ target := .collected Z, args := #[] }], W1, { target := .fn (.func gf) lb, args := #[.func (.yield (Z + 1)) #[] #[]] }, W1, gf, #[.func (.yield (Z + 1)) #[] #[]] ++ lb, W1, ?_, ?_, ?_, ?_, fun _ => h1, ?_⟩
  · rw [← hW1]; exact run_enterLoop_outer _ _ _ _ _
  · simp only [resolve, hg]
    simp [go_sem]
  · intro f' hf'
    simp [Target.leads] at hf'
    subst hf'
    trivial
  · simp [invoke, go_sem, eg]
  refine (hseq (Z + 1) (fun k W => I k W ∧ two W (lp .ready none)) (fun k W => ∃ c, Ix c k W ∧ two W (lp .done (some c))) W1 b1
    (fun s A B row hs hgr hr => ⟨hI s A B row hs.1 hgr (wide hr), keep2 hs.2 rfl hgr hr⟩)
    (fun s A B row hs hgr hr => by obtain ⟨c, q1, q2⟩ := hs; exact ⟨c, hIx c s A B row q1 hgr (wide hr), keep2 q2 rfl hgr hr⟩)
    (fun k W hk hJ => ?_) ⟨i1, t1⟩).mono ?_
  · -- one round: it begins (the record is busy), the body runs, it ends
    obtain ⟨hi, hl, hd⟩ := hJ
    have hlt : Z + 1 < W.heap.size := (Array.getElem?_eq_some_iff.1 hl).1
    refine ⟨fn, _, assign, body, run_yield (P := P) (args := enc k) hl (hps k), roundIn_of_wpIn hfn (hassign _ k W _ ⟨_, run_beginRound hl rfl, ?_⟩)⟩
    have l2 : two (W.putObj (Z + 1) (lp .busy none)) (lp .busy none) := ⟨World.putObj_heap_same hlt, (World.putObj_heap_other (by omega)).trans hd⟩
    refine wpIn_mono (hbody _ k _ hk (hI.putObj _ hi (Nat.le_succ Z) hl rfl)) fun e a3 W3 hp => ?_
    obtain ⟨hk3, hp⟩ := hp
    have l3 : two W3 (lp .busy none) := ⟨hk3.same _ _ (Nat.le_succ Z) l2.1 rfl, hk3.same _ _ (Nat.le_refl Z) l2.2 rfl⟩
    have l4 : ∀ o, two (W3.putObj (Z + 1) o) o := fun o => ⟨World.putObj_heap_same (Array.getElem?_eq_some_iff.1 l3.1).1, (World.putObj_heap_other (by omega)).trans l3.2⟩
    rcases hp with ⟨rfl, hkp, hi3⟩ | ⟨c, hc, hx⟩
    · exact ⟨_, _, run_endRound (P := P) none l3.1, .inl ⟨rfl, ⟨hI.putObj _ hi3 (Nat.le_succ Z) l3.1 rfl, l4 _⟩, hKt (hKt (hKb _ _ _ _ (Nat.le_succ Z) hl rfl rfl) hkp) (hKb _ _ _ _ (Nat.le_succ Z) l3.1 rfl rfl)⟩⟩
    · rcases hc with ⟨rfl, rfl⟩ | ⟨i, rfl, rfl⟩
      · exact ⟨_, _, run_endRound (P := P) (some .ret) l3.1, .inr ⟨rfl, _, (hIx _).putObj _ hx (Nat.le_succ Z) l3.1 rfl, l4 _⟩⟩
      · exact ⟨_, _, run_endRound (P := P) (some (.exit i)) l3.1, .inr ⟨rfl, _, (hIx _).putObj _ hx (Nat.le_succ Z) l3.1 rfl, l4 _⟩⟩
  · -- behind the iterator: the record tells whether a round has left
    rintro e W2 ⟨⟨v, rfl⟩, h⟩
    rcases h with ⟨hi, hl, hd⟩ | ⟨k, hk, c, hx, hl, hd⟩
    · exact ⟨none, _, run_endLoop (P := P) hl (by simp), hdone _ _ (Nat.le_refl _) (hI.putObj _ hi (Nat.le_succ Z) hl rfl) ((World.putObj_heap_other (by omega)).trans hd)⟩
    · exact ⟨some c, _, run_endLoop (P := P) hl (by simp), hstop _ c k _ (Nat.le_refl _) hk ((hIx c).putObj _ hx (Nat.le_succ Z) hl rfl) ((World.putObj_heap_other (by omega)).trans hd)⟩
end Go.Proofs.Ytgjghnbhpnflfaa
