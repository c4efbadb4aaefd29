/- Layer 5's fixed answers, and what the frame tells of lists that came in. -/
import Derived.Test.YtggclllegbiokaaPkRefs
namespace Go.Proofs.Ytggclllegbiokaa
set_option linter.unusedVariables false
open Go.RowKit

theorem box_under (w : World) (o : Obj) : Below w.heap.size w (w.alloc o) := (Below.refl _ _).alloc (Nat.le_refl _) _
theorem cds_of {b : Nat} {l : List Int} (h : Pk.cds b l = true) : Pk.Cds b l := Pk.cds_Cds h
theorem wds_mk {l : List Int} (h : ∀ i, i < l.length → 0 ≤ Ls.nth l i ∧ Ls.nth l i < 18446744073709551616) : Pk.Wds l := by
  intro i
  by_cases c : i < l.length
  · exact h i c
  · rw [Ls.nth_past (by omega)]; omega

set_option maxHeartbeats 1600000 in
theorem pkAwake_any (w : World) : Calls Try.prog 8 #[] w fun e w' => e = .returned (.bool true) ∧ Below w.heap.size w w' := by
  go_enter Try.func8, Try.ntmps8
  go_wp2_with fail
  refine (pack_ok _ _ 2 [1, 2, 3] (Or.inl rfl) (by decide) _ (lst_new w [1, 2, 3]) (cds_of (by decide))).mono ?_
  rintro e w1 ⟨g1, rfl, _, hL1, hB1⟩
  have hb1 : Below w.heap.size w w1 := below_then (box_under _ _) hB1
  rw [show Pk.pack 2 [1, 2, 3] = [57] from by decide] at hL1
  rw [show Pk.size 2 ([1, 2, 3] : List Int).length = 1 from by decide]
  have HL1 : Hid (Lst .u64 w1 (some ⟨g1, 0, none⟩) [57]) := hL1
  clear hB1 hL1
  go_wp2_with fail
  refine (unpack_ok _ _ 3 2 [57] (Or.inl rfl) (by decide) _ (lst_new w1 [57]) (wds_mk (by decide)) (by decide) (by decide)).mono ?_
  rintro e w2 ⟨g2, rfl, _, hL2, hB2⟩
  have bb := below_then (box_under _ _) hB2
  have hb2 : Below w.heap.size w w2 := below_then hb1 bb
  rw [show Pk.unpack 2 3 [57] = [1, 2, 3] from by decide] at hL2
  have HL1b : Hid (Lst .u64 w2 (some ⟨g1, 0, none⟩) [57]) := HL1.out.keep bb
  have HL2 : Hid (Lst .i64 w2 (some ⟨g2, 0, none⟩) [1, 2, 3]) := hL2
  clear hB2 hL2 HL1 bb hb1
  go_wp2_with fail
  refine (unpack_form _ _ 3 2 [64] (Or.inl rfl) (by decide) _ (lst_new w2 [64]) (wds_mk (by decide)) (by decide) (by decide)).mono ?_
  rintro e w3 ⟨rfl, hB3⟩
  have bb := below_then (box_under _ _) hB3
  have hb3 : Below w.heap.size w w3 := below_then hb2 bb
  have L1 : Lst .u64 w3 (some ⟨g1, 0, none⟩) [57] := HL1b.out.keep bb
  have L2 : Lst .i64 w3 (some ⟨g2, 0, none⟩) [1, 2, 3] := HL2.out.keep bb
  have HL1 : Hid (Lst .u64 w3 (some ⟨g1, 0, none⟩) [57]) := L1
  have c1 : w3.cell? ⟨g1, 0, none⟩ = some (.int .u64 57) := L1.cell0 (i := 0) (by decide)
  have c2 : w3.cell? ⟨g2, 2, none⟩ = some (.int .i64 3) := L2.cell0 (i := 2) (by decide)
  clear hB3 HL1b HL2 L1 L2 bb hb2
  go_wp2_with fail
  refine (pack_bits _ _ _ 3 ⟨by decide, by decide, by decide⟩ _).mono ?_
  rintro e w' ⟨rfl, hww⟩
  cases hww.symm
  clear hww
  go_wp2_with fail
  refine (words_yes 9 8 (Or.inr (Or.inr rfl)) (by decide) _).mono ?_
  rintro e w' ⟨rfl, hww⟩
  cases hww.symm
  clear hww
  rw [show Pk.size 8 9 = 2 from by decide]
  go_wp2_with fail
  refine (lane_ok _ _ 1 2 [57] (Or.inl rfl) (by decide) (by decide) _ HL1.out (wds_mk (by decide))).mono ?_
  rintro e w' ⟨rfl, n, hww⟩
  cases hww.symm
  clear hww
  rw [show Pk.lane 2 [57] 1 = 2 from by decide]
  go_wp2_with (go_at_call 21; refine (bits_yes 4 (Or.inr (Or.inl rfl)) _).mono ?_; rintro e w' ⟨rfl, hww⟩; cases hww.symm; clear hww)
  go_ret
  exact ⟨rfl, below_drewN hb3 n⟩

/-- Out of the frame's own word of a slice of words, and of codes, that came in. -/
theorem row_openU {w : World} {a : Option Addr} {len cap : Nat} {zs : List Int}
    (h : (a = none ∧ len = 0 ∧ cap = 0 ∧ zs = []) ∨ ∃ x, a = some x ∧ len ≤ cap ∧ cap ≤ maxLen ∧ zs.length = cap ∧ (∀ i, i < zs.length → w.cell? (x.add i) = some (.int .u64 (zs.getD i 0))) ∧ ∀ n ∈ zs, (Lit.int .u64 n).wf = true) :
    ∃ l : List Int, l.length = len ∧ Lst .u64 w a l ∧ Pk.Wds l ∧ len ≤ maxLen ∧ len ≤ cap ∧ cap ≤ maxLen ∧ (a = none → cap = 0) := by
  rcases h with ⟨rfl, rfl, rfl, rfl⟩ | ⟨x, rfl, h1, h2, h3, h4, h5⟩
  · exact ⟨[], rfl, Lst.nil _ _ _, fun i => by rw [Ls.nth_nil]; omega, Nat.zero_le _, Nat.zero_le _, Nat.zero_le _, fun _ => rfl⟩
  · refine ⟨zs.take len, by simp; omega, lst_of_cells (by omega) h4, ?_, by omega, h1, h2, fun e => by cases e⟩
    apply wds_mk
    intro i hi
    have hi2 : i < zs.length := by simp at hi; omega
    rw [Ls.nth_take (by simp at hi; omega)]
    have := bounds_u64 (h5 _ (Ls.nth_mem hi2))
    omega
theorem row_openI {w : World} {a : Option Addr} {len cap : Nat} {zs : List Int}
    (h : (a = none ∧ len = 0 ∧ cap = 0 ∧ zs = []) ∨ ∃ x, a = some x ∧ len ≤ cap ∧ cap ≤ maxLen ∧ zs.length = cap ∧ (∀ i, i < zs.length → w.cell? (x.add i) = some (.int .i64 (zs.getD i 0))) ∧ ∀ n ∈ zs, (Lit.int .i64 n).wf = true) :
    ∃ l : List Int, l.length = len ∧ Lst .i64 w a l ∧ len ≤ maxLen ∧ len ≤ cap ∧ cap ≤ maxLen ∧ (a = none → cap = 0) := by
  rcases h with ⟨rfl, rfl, rfl, rfl⟩ | ⟨x, rfl, h1, h2, h3, h4, h5⟩
  · exact ⟨[], rfl, Lst.nil _ _ _, Nat.zero_le _, Nat.zero_le _, Nat.zero_le _, fun _ => rfl⟩
  · exact ⟨zs.take len, by simp; omega, lst_of_cells (by omega) h4, by omega, h1, h2, fun e => by cases e⟩
end Go.Proofs.Ytggclllegbiokaa
