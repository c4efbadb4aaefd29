/- The frame of layer 9's laws: plans that came in, opened. -/
import Derived.Test.YtfdmgnfeceoefaaDoorTrAwake
import Derived.Test.YtfdmgnfeceoefaaDoorStFrame
import Derived.Deep.SlicePairs
import Derived.Deep.RegionHeld3
import Derived.SizedLaws
import Derived.ShutString
namespace Go.Proofs.YtfdmgnfeceoefaaDoor
set_option linter.unusedVariables false
open Go.ChangeShapes Go.WideShapes Go.ChangeAt Go.RowKit
open Tr

/-- What a walk is told of a plan's layers that came in. -/
def IsLayers (w : World) (a : Option Addr) (len cap : Nat) : Prop := ∃ ls : List (Int × Int), ls.length = len ∧ Ps w a ls ∧ len ≤ 8796093022207

theorem open_plan {H : Type} {enc : TypeId × Value → H} {W : World} {sp : Nat → Bool} {fuel : Nat} {q0 q1 q2 : Value} {x : DataW H × List MemPlace}
    (h : DataW.trod enc Tryd.prog W 0 sp true fuel 24 [q0, q1, q2] = some x) :
    ∃ (g i : Int) (a : Option Addr) (len cap : Nat), q0 = .int .i64 g ∧ q1 = .int .i64 i ∧ q2 = .slice a len cap ∧ (Lit.int .i64 g).wf = true ∧ (Lit.int .i64 i).wf = true ∧
      (∃ ls : List (Int × Int), ls.length = len ∧ Ps W a ls) ∧ len ≤ maxLen ∧ ∃ d0 d1 d2, x.1 = .agg [d0, d1, d2] ∧ (len ≤ 0 ∨ ∃ e s, d2 = .slice e s ∧ e.length = len) := by
  obtain ⟨xs, n, -, rfl, -, hlen, hf⟩ := DataW.trod_struct Tryd.underlying24 h
  have c3 : Tryd.prog.cellsOf 3 = 1 := by kernel_rfl
  have cS : Tryd.prog.cellsOf 22 = 1 := by kernel_rfl
  have hl : xs.length = 3 := hlen
  obtain ⟨y0, y1, y2, rfl⟩ : ∃ y0 y1 y2, xs = [y0, y1, y2] := by
    match xs, hl with
    | [y0, y1, y2], _ => exact ⟨y0, y1, y2, rfl⟩
  have h0 := hf 0 _ rfl
  have h1 := hf 1 _ rfl
  have h2 := hf 2 _ rfl
  have h0 : DataW.trod enc Tryd.prog W 0 sp true n 3 (([q0, q1, q2].drop 0).take (Tryd.prog.cellsOf 3)) = some y0 := h0
  have h1 : DataW.trod enc Tryd.prog W 0 sp true n 3 (([q0, q1, q2].drop 1).take (Tryd.prog.cellsOf 3)) = some y1 := h1
  have h2 : DataW.trod enc Tryd.prog W 0 sp true n 22 (([q0, q1, q2].drop 2).take (Tryd.prog.cellsOf 22)) = some y2 := h2
  rw [c3] at h0 h1
  rw [cS] at h2
  obtain ⟨g, e0, -, w0⟩ := DataW.trod_int Tryd.underlying3 h0
  obtain ⟨i, e1, -, w1⟩ := DataW.trod_int Tryd.underlying3 h1
  have e0 : [q0] = [.int .i64 g] := e0
  have e1 : [q1] = [.int .i64 i] := e1
  have h2 : DataW.trod enc Tryd.prog W 0 sp true n 22 [q2] = some y2 := h2
  simp only [List.cons.injEq, and_true] at e0 e1
  rcases Go.Deep.open_slice_pairs Tryd.underlying22 Tryd.underlying49 (by kernel_rfl) rfl rfl (by kernel_rfl) (by kernel_rfl) h2 with ⟨hcs, -⟩ | ⟨ad, len, cap, m, n', V0, V1, D0, D1, P0, P1, hcs, -, hl1, hm, hmm, hx, hall⟩
  · simp only [List.cons.injEq, and_true] at hcs
    exact ⟨g, i, none, 0, 0, e0, e1, hcs, w0, w1, ⟨[], rfl, Ps.nil _ _⟩, Nat.zero_le _, _, _, _, rfl, Or.inl (Nat.le_refl _)⟩
  · simp only [List.cons.injEq, and_true] at hcs
    have hlm : len ≤ m := by rw [hmm]; split <;> omega
    refine ⟨g, i, some ad, len, cap, e0, e1, hcs, w0, w1, ?_, by omega, _, _, _, rfl, Or.inr ⟨_, _, by rw [hx], by simp⟩⟩
    have each : ∀ j, j < len → ∃ q : Int × Int, W.cell? (ad.add (j * 2)) = some (.int .i64 q.1) ∧ W.cell? (ad.add (j * 2 + 1)) = some (.int .i64 q.2) := by
      intro j hj
      obtain ⟨p1, p2, p3, p4⟩ := hall j (by omega)
      obtain ⟨k, k1, -, -⟩ := DataW.trod_int Tryd.underlying3 p3
      obtain ⟨v, v1, -, -⟩ := DataW.trod_int Tryd.underlying3 p4
      simp only [List.cons.injEq, and_true] at k1 v1
      rw [k1] at p1
      rw [v1] at p2
      exact ⟨(k, v), p1, p2⟩
    obtain ⟨q, hq⟩ := Go.Deep.choose_lt each
    refine ⟨(List.range len).map q, by simp, ?_⟩
    intro j hj
    have hj' : j < len := by simpa using hj
    have z0 := (hq 0 (by omega)).1
    have hs : ad.spot = none := by
      simp [Addr.add, World.cell?] at z0
      cases hx : ad.spot
      · rfl
      · rw [hx] at z0; simp at z0; split at z0 <;> simp_all
    obtain ⟨b, o, sp'⟩ := ad
    simp at hs
    subst hs
    have c1 := (hq j hj').1
    have c2 := (hq j hj').2
    rw [Addr.add_lit] at c1 c2
    rw [fst_of hj, snd_of hj]
    simp only [List.getElem_map, List.getElem_range]
    exact ⟨b, o, rfl, c1, by rw [Nat.add_assoc]; exact c2⟩

/-- A plan's layers are no more than can be. -/
theorem plan_sized {H : Type} {ts : List TypeId} {ds : List (DataW H)} (h : (DataW.weightsEach Tryd.prog ts ds).all (· ≤ reachBytes) = true) {j len : Nat} {d0 d1 d2 : DataW H} (ht : ts[j]? = some 24) (hd : ds[j]? = some (.agg [d0, d1, d2])) (hl : len ≤ 0 ∨ ∃ e s, d2 = .slice e s ∧ e.length = len) : len ≤ 8796093022207 := by
  rcases hl with hl | ⟨e, s, rfl, rfl⟩
  · omega
  · have hb : Tryd.prog.bytesOf 49 = 16 := by kernel_rfl
    have := List.all_eq_true.1 h _ (DataW.weights_mem_each ht hd ((e.length + s.length) * Tryd.prog.bytesOf 49) (by simp [DataW.weights, DataW.weightsEach, Tryd.underlying24, Tryd.underlying22]))
    rw [hb] at this
    have h2 := reachBytes_lt
    have h3 : (2 : Nat) ^ 47 = 140737488355328 := by decide
    simp at this
    omega
end Go.Proofs.YtfdmgnfeceoefaaDoor
