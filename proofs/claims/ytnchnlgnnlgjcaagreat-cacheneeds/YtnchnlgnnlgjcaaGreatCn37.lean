/- Layer 13: CcFrame, CcPlay. -/
import Derived.Test.YtnchnlgnnlgjcaaGreatCn14
import Derived.Test.YtnchnlgnnlgjcaaGreatCn04
import Derived.Test.YtnchnlgnnlgjcaaGreatCn16
import Derived.Deep.Slices
import Derived.Deep.SlicePairs
import Derived.Deep.Matrix
import Derived.ChangeArms
import Derived.Test.YtnchnlgnnlgjcaaGreatCn36
import Derived.Test.YtnchnlgnnlgjcaaGreatCn35
import Derived.Test.YtnchnlgnnlgjcaaGreatCn32
import Derived.Test.YtnchnlgnnlgjcaaGreatCn25
namespace Go.Proofs.YtnchnlgnnlgjcaaGreat
set_option linter.unusedVariables false
open Go.RowKit Go.ChangeShapes Go.WideShapes
namespace Cc
/-- The frame's word of a slice of pairs of numbers that came in. -/
def IsPairs (w : World) (a : Option Addr) (len cap : Nat) : Prop :=
  (a = none ∧ len = 0 ∧ cap = 0) ∨
  ∃ x, a = some x ∧ len ≤ cap ∧ cap ≤ maxLen ∧ ∀ i, i < len → ∃ k n : Int, w.cell? (x.add (i * 2)) = some (.int .i64 k) ∧ w.cell? (x.add (i * 2 + 1)) = some (.int .i64 n)
/-- The frame's word of a slice of calls that came in. -/
def IsOps (w : World) (a : Option Addr) (len cap : Nat) : Prop :=
  (a = none ∧ len = 0 ∧ cap = 0) ∨
  ∃ x, a = some x ∧ len ≤ cap ∧ cap ≤ maxLen ∧ ∀ i, i < len → ∃ (k c l n : Int) (a1 : Option Addr) (n1 c1 : Nat) (a2 : Option Addr) (n2 c2 : Nat), w.cell? (x.add (i * 6)) = some (.int .i64 k) ∧ w.cell? (x.add (i * 6 + 1)) = some (.int .i64 c) ∧ w.cell? (x.add (i * 6 + 2)) = some (.int .i64 l) ∧
    w.cell? (x.add (i * 6 + 3)) = some (.int .i64 n) ∧ w.cell? (x.add (i * 6 + 4)) = some (.slice a1 n1 c1) ∧ w.cell? (x.add (i * 6 + 5)) = some (.slice a2 n2 c2) ∧ IsTable w a1 n1 c1 ∧ IsTable w a2 n2 c2
/-- A call: four numbers, two slices, what they read as. -/
abbrev Rec := Int × Int × Int × Int × (Option Addr × Nat) × (Option Addr × Nat) × List (List Int) × List (List Int)
def Op6 (B : Nat) (w : World) (b o i : Nat) (x : Rec) : Prop :=
  (w.cell? ⟨b, o + i * 6, none⟩ = some (.int .i64 x.1) ∧ w.cell? ⟨b, o + i * 6 + 1, none⟩ = some (.int .i64 x.2.1) ∧ w.cell? ⟨b, o + i * 6 + 2, none⟩ = some (.int .i64 x.2.2.1) ∧ w.cell? ⟨b, o + i * 6 + 3, none⟩ = some (.int .i64 x.2.2.2.1) ∧
    w.cell? ⟨b, o + i * 6 + 4, none⟩ = some (.slice x.2.2.2.2.1.1 x.2.2.2.2.2.2.1.length x.2.2.2.2.1.2) ∧ w.cell? ⟨b, o + i * 6 + 5, none⟩ = some (.slice x.2.2.2.2.2.1.1 x.2.2.2.2.2.2.2.length x.2.2.2.2.2.1.2)) ∧
    SlQ (fun q => q < B) 1 eRow w x.2.2.2.2.1.1 x.2.2.2.2.2.2.1 ∧ SlQ (fun q => q < B) 1 eRow w x.2.2.2.2.2.1.1 x.2.2.2.2.2.2.2 ∧ (∀ k, Ls.In32 (Ca.nt x.2.2.2.2.2.2.1 k)) ∧ ∀ k, Ls.In32 (Ca.nt x.2.2.2.2.2.2.2 k)
/-- THE SLICE AT a READS AS n CALLS, all of it below block B. -/
def Ops (B : Nat) (w : World) (a : Option Addr) (n : Nat) (K : Nat → Rec) : Prop := ∀ i, i < n → ∃ b o, a = some ⟨b, o, none⟩ ∧ b < B ∧ Op6 B w b o i (K i)
theorem Op6.keep {B b o i : Nat} {w w' : World} {x : Rec} (h : Op6 B w b o i x) (hl : b < B) (hb : Below B w w') : Op6 B w' b o i x := by
  obtain ⟨⟨h0, h1, h2, h3, h4, h5⟩, h6, h7, h8⟩ := h
  have e := hb.block b hl
  have k : ∀ {a : Option Addr} {l : List (List Int)}, SlQ (fun q => q < B) 1 eRow w a l → SlQ (fun q => q < B) 1 eRow w' a l := fun hs => hs.carry carry_row (fun q _ hq => ⟨hq, hb.block q hq⟩) hb.size
  have c : ∀ {j : Nat} {v : Value}, w.cell? ⟨b, j, none⟩ = some v → w'.cell? ⟨b, j, none⟩ = some v := fun {j} {v} hv => (World.cell?_of_block (a := ⟨b, j, none⟩) e).trans hv
  exact ⟨⟨c h0, c h1, c h2, c h3, c h4, c h5⟩, k h6, k h7, h8⟩
theorem Ops.keep {B n : Nat} {w w' : World} {a : Option Addr} {K : Nat → Rec} (h : Ops B w a n K) (hb : Below B w w') : Ops B w' a n K := fun i hi => by
  obtain ⟨b, o, e, hl, h6⟩ := h i hi
  exact ⟨b, o, e, hl, h6.keep hl hb⟩
theorem Ops.get {B n : Nat} {w : World} {a : Option Addr} {K : Nat → Rec} (h : Ops B w a n K) {i : Nat} (hi : i < n) : ∃ b o, a = some ⟨b, o, none⟩ ∧ b < B ∧ ∀ j, j < n → Op6 B w b o j (K j) := by
  obtain ⟨b, o, rfl, hl, _⟩ := h i hi
  refine ⟨b, o, rfl, hl, fun j hj => ?_⟩
  obtain ⟨b', o', e, _, h6⟩ := h j hj
  cases e
  exact h6
/-- A plan's layers, below block B. -/
def PsB (B : Nat) (w : World) (a : Option Addr) (ls : List (Int × Int)) : Prop := Tn.Tr.Ps w a ls ∧ ∀ x, a = some x → 0 < ls.length → x.block < B
theorem PsB.keep {B : Nat} {w w' : World} {a : Option Addr} {ls : List (Int × Int)} (h : PsB B w a ls) (hb : Below B w w') : PsB B w' a ls := by
  refine ⟨fun i hi => ?_, h.2⟩
  obtain ⟨b, o, e, h1, h2⟩ := h.1 i hi
  have eb := hb.block b (h.2 _ e (by omega))
  exact ⟨b, o, e, (World.cell?_of_block (a := ⟨b, o + i * 2, none⟩) eb).trans h1, (World.cell?_of_block (a := ⟨b, o + i * 2 + 1, none⟩) eb).trans h2⟩
theorem nt_in32 {l : List (List Int)} (h : ∀ k (hk : k < l.length), Ls.In32 l[k]) (k : Nat) : Ls.In32 (Ca.nt l k) := by
  by_cases hk : k < l.length
  · rw [Ca.nt_at hk]; exact h k hk
  · unfold Ca.nt
    rw [List.getD_eq_getElem?_getD, List.getElem?_eq_none (by omega)]
    exact Ls.in32_mk fun i hi => by simp at hi
theorem slq_of_table {w : World} {a : Option Addr} {len cap : Nat} (h : IsTable w a len cap) : ∃ ks : List (List Int), ks.length = len ∧ SlQ (fun q => q < w.heap.size) 1 eRow w a ks ∧ (∀ k, Ls.In32 (Ca.nt ks k)) ∧ len ≤ maxLen := by
  rcases h with ⟨rfl, rfl, rfl⟩ | ⟨x, A, L, C, Z, rfl, h1, h2, h3⟩
  · exact ⟨[], rfl, SlQ.nil _ _ _ _ _, nt_in32 fun k hk => by simp at hk, Nat.zero_le _⟩
  · have hlen : ∀ i, i < len → ((Z i).take (L i)).length = L i := fun i hi => by
      obtain ⟨_, hl, _, hz, _⟩ := h3 i (by omega)
      rw [List.length_take, hz]; omega
    refine ⟨(List.range len).map fun r => (Z r).take (L r), by simp, fun i hi => ?_, nt_in32 fun k hk => ?_, by omega⟩
    · have hi2 : i < len := by simpa using hi
      obtain ⟨hc, hl, hm, hz, _, hn, hcell⟩ := h3 i (by omega)
      have h0 := (h3 0 (by omega)).1
      have e0 : x.add 0 = x := by simp [Addr.add]
      rw [e0] at h0
      obtain ⟨b, o, rfl⟩ := addr_plain h0
      rw [Addr.add_lit] at hc
      have eg : ((List.range len).map fun r => (Z r).take (L r))[i] = (Z i).take (L i) := by simp
      rw [eg]
      refine ⟨b, o, rfl, World.block_lt_of_cell? w _ h0, World.block_lt_of_cell? w _ h0, A i, C i, ?_, by rw [hlen i hi2]; exact hl, by rw [hlen i hi2]; omega, hn, fun j hj => ?_⟩
      · show w.cell? ⟨b, o + (i * 1 + 0), none⟩ = _
        rw [show o + (i * 1 + 0) = o + i by omega, hlen i hi2]
        exact hc
      · have hj2 : j < L i := by rw [hlen i hi2] at hj; exact hj
        cases hA : A i with
        | none => have := hn hA; omega
        | some a' =>
          have hcj := hcell a' hA j (by omega)
          have hc0 := hcell a' hA 0 (by omega)
          have e1 : a'.add 0 = a' := by simp [Addr.add]
          rw [e1] at hc0
          obtain ⟨b', o', rfl⟩ := addr_plain hc0
          rw [Addr.add_lit] at hcj
          refine ⟨b', o', rfl, World.block_lt_of_cell? w _ hc0, World.block_lt_of_cell? w _ hc0, ?_⟩
          show w.cell? ⟨b', o' + (j * 1 + 0), none⟩ = _
          rw [show o' + (j * 1 + 0) = o' + j by omega, hcj]
          have : j < (Z i).length := by omega
          simp [this]
    · have hk2 : k < len := by simpa using hk
      have eg : ((List.range len).map fun r => (Z r).take (L r))[k] = (Z k).take (L k) := by simp
      rw [eg]
      obtain ⟨_, _, _, _, hw, _⟩ := h3 k (by omega)
      apply Ls.In32.take
      apply Ls.in32_mk
      intro j hj
      exact bounds_i32 (hw _ (Ls.nth_mem hj))
theorem ops_open {w : World} {a : Option Addr} {len cap : Nat} (h : IsOps w a len cap) : ∃ K : Nat → Rec, Ops w.heap.size w a len K ∧ len ≤ maxLen := by
  rcases h with ⟨rfl, rfl, rfl⟩ | ⟨x, rfl, h1, h2, h3⟩
  · exact ⟨fun _ => default, fun i hi => by omega, Nat.zero_le _⟩
  · have each : ∀ i, i < len → ∃ r : Rec, ∃ b o, (some x : Option Addr) = some ⟨b, o, none⟩ ∧ b < w.heap.size ∧ Op6 w.heap.size w b o i r := by
      intro i hi
      have h0 : ∃ v, w.cell? x = some v := by
        obtain ⟨k, _, _, _, _, _, _, _, _, _, q, _⟩ := h3 0 (by omega)
        have e0 : x.add (0 * 6) = x := by simp [Addr.add]
        rw [e0] at q
        exact ⟨_, q⟩
      obtain ⟨v, h0⟩ := h0
      obtain ⟨b, o, rfl⟩ := addr_plain h0
      obtain ⟨k, c, l, n, a1, n1, c1, a2, n2, c2, q0, q1, q2, q3, q4, q5, t1, t2⟩ := h3 i hi
      obtain ⟨ks, e1, s1, i1, _⟩ := slq_of_table t1
      obtain ⟨vs, e2, s2, i2, _⟩ := slq_of_table t2
      subst e1 e2
      rw [Addr.add_lit] at q0 q1 q2 q3 q4 q5
      refine ⟨(k, c, l, n, (a1, c1), (a2, c2), ks, vs), b, o, rfl, World.block_lt_of_cell? w _ h0, ⟨q0, ?_, ?_, ?_, ?_, ?_⟩, s1, s2, i1, i2⟩
      · rw [Nat.add_assoc]; exact q1
      · rw [Nat.add_assoc]; exact q2
      · rw [Nat.add_assoc]; exact q3
      · rw [Nat.add_assoc]; exact q4
      · rw [Nat.add_assoc]; exact q5
    obtain ⟨K, hK⟩ := Go.Deep.choose_lt each
    exact ⟨K, hK, by omega⟩
theorem bits_open {w : World} {a : Option Addr} {len cap : Nat} (h : IsPairs w a len cap) : ∃ ls : List (Int × Int), ls.length = len ∧ PsB w.heap.size w a ls ∧ len ≤ maxLen := by
  rcases h with ⟨rfl, rfl, rfl⟩ | ⟨x, rfl, h1, h2, h3⟩
  · exact ⟨[], rfl, ⟨Tn.Tr.Ps.nil _ _, fun x e => by cases e⟩, Nat.zero_le _⟩
  · have each : ∀ i, i < len → ∃ q : Int × Int, w.cell? (x.add (i * 2)) = some (.int .i64 q.1) ∧ w.cell? (x.add (i * 2 + 1)) = some (.int .i64 q.2) := fun i hi => by
      obtain ⟨k, n, h⟩ := h3 i hi
      exact ⟨(k, n), h⟩
    obtain ⟨f, hf⟩ := Go.Deep.choose_lt each
    have ef : ∀ i, i < len → Tn.Tr.fst ((List.range len).map f) i = (f i).1 ∧ Tn.Tr.snd ((List.range len).map f) i = (f i).2 := fun i hi => by
      constructor
      · rw [Tn.Tr.fst_of (by simpa using hi)]; simp
      · rw [Tn.Tr.snd_of (by simpa using hi)]; simp
    have pl : ∀ i, i < len → ∃ b o, x = ⟨b, o, none⟩ ∧ b < w.heap.size := fun i hi => by
      have h0 := (hf 0 (by omega)).1
      have e0 : x.add (0 * 2) = x := by simp [Addr.add]
      rw [e0] at h0
      obtain ⟨b, o, rfl⟩ := addr_plain h0
      exact ⟨b, o, rfl, World.block_lt_of_cell? w _ h0⟩
    refine ⟨(List.range len).map f, by simp, ⟨fun i hi => ?_, fun y e hl => ?_⟩, by omega⟩
    · have hi2 : i < len := by simpa using hi
      obtain ⟨b, o, rfl, _⟩ := pl i hi2
      obtain ⟨q0, q1⟩ := hf i hi2
      rw [Addr.add_lit] at q0 q1
      refine ⟨b, o, rfl, by rw [(ef i hi2).1]; exact q0, by rw [(ef i hi2).2, Nat.add_assoc]; exact q1⟩
    · cases e
      obtain ⟨b, o, rfl, h⟩ := pl 0 (by simpa using hl)
      exact h
/-- Out of what the frame reads. -/
theorem pairs_in {H : Type} {enc : TypeId × Value → H} {w : World} {fuel : Nat} {v : Value} {x : DataW H × List MemPlace}
    (h : DataW.trod enc Tryz.prog w 0 (fun _ => true) true fuel 22 [v] = some x) : ∃ a len cap, v = .slice a len cap ∧ IsPairs w a len cap := by
  rcases Go.Deep.open_slice_pairs Tryz.underlying22 Tryz.underlying77 (by kernel_rfl) rfl rfl (by kernel_rfl) (by kernel_rfl) h with ⟨hcs, _⟩ | ⟨x, l, c, m, n, V0, V1, D0, D1, P0, P1, hcs, _, hl, hm, hmm, _, hall⟩
  · simp only [List.cons.injEq, and_true] at hcs
    exact ⟨none, 0, 0, hcs, .inl ⟨rfl, rfl, rfl⟩⟩
  · simp only [List.cons.injEq, and_true] at hcs
    simp only [if_true] at hmm
    refine ⟨some x, l, c, hcs, .inr ⟨x, rfl, hl, hm, fun i hi => ?_⟩⟩
    obtain ⟨q1, q2, q3, q4⟩ := hall i (by omega)
    obtain ⟨k, e1, _, _⟩ := DataW.trod_int Tryz.underlying3 q3
    obtain ⟨n', e2, _, hw⟩ := DataW.trod_int Tryz.underlying3 q4
    simp only [List.cons.injEq, and_true] at e1 e2
    rw [e1] at q1
    rw [e2] at q2
    exact ⟨k, n', q1, q2⟩
theorem table_in {H : Type} {enc : TypeId × Value → H} {w : World} {fuel : Nat} {v : Value} {x : DataW H × List MemPlace}
    (h : DataW.trod enc Tryz.prog w 0 (fun _ => true) true fuel 42 [v] = some x) : ∃ a len cap, v = .slice a len cap ∧ IsTable w a len cap := by
  rcases Go.Deep.open_int_rows Tryz.underlying42 Tryz.underlying74 Tryz.underlying21 (by kernel_rfl) (by kernel_rfl) h with ⟨hcs, _⟩ | ⟨x, l, c, A, L, C, Z, hcs, _, hl, hm, _, hr⟩
  · simp only [List.cons.injEq, and_true] at hcs
    exact ⟨none, 0, 0, hcs, .inl ⟨rfl, rfl, rfl⟩⟩
  · simp only [List.cons.injEq, and_true] at hcs
    refine ⟨some x, l, c, hcs, .inr ⟨x, A, L, C, Z, rfl, hl, hm, fun r hr' => ?_⟩⟩
    obtain ⟨q1, q2, q3, q4, q5, q6, q7⟩ := hr r hr'
    exact ⟨q1, q2, q3, q4, q5, q6, fun a' ha => (q7 a' ha).2⟩
set_option maxRecDepth 100000 in
theorem ops_in {H : Type} {enc : TypeId × Value → H} {w : World} {fuel : Nat} {v : Value} {x : DataW H × List MemPlace}
    (h : DataW.trod enc Tryz.prog w 0 (fun _ => true) true fuel 27 [v] = some x) : ∃ a len cap, v = .slice a len cap ∧ IsOps w a len cap := by
  rcases Go.Deep.open_slice Tryz.underlying27 h with ⟨h0, _⟩ | ⟨y, l, c, m, n, D, Pl, hcs, hb, hl, hm, hmm, _, hall⟩
  · simp only [List.cons.injEq, and_true] at h0
    exact ⟨none, 0, 0, h0, .inl ⟨rfl, rfl, rfl⟩⟩
  · simp only [List.cons.injEq, and_true] at hcs
    refine ⟨some y, l, c, hcs, .inr ⟨y, rfl, hl, hm, fun i hi' => ?_⟩⟩
    have hlm : l ≤ m := by rw [hmm]; split <;> omega
    obtain ⟨cs, h1, h2⟩ := hall i (by omega)
    have ce : Tryz.prog.cellsOf 44 = 6 := by kernel_rfl
    have ci : Tryz.prog.cellsOf 3 = 1 := by kernel_rfl
    have ct : Tryz.prog.cellsOf 42 = 1 := by kernel_rfl
    rw [ce] at h1
    obtain ⟨_, hlen, hcell⟩ := World.cells?_some h1
    obtain ⟨xs, k, hk, hxy, _, hxl, hf⟩ := DataW.trod_struct Tryz.underlying44 h2
    match xs, hxl, cs, hlen with
    | [y0, y1, y2, y3, y4, y5], _, [v0, v1, v2, v3, v4, v5], _ =>
      have g0 := hf 0 _ rfl
      have g1 := hf 1 _ rfl
      have g2 := hf 2 _ rfl
      have g3 := hf 3 _ rfl
      have g4 := hf 4 _ rfl
      have g5 := hf 5 _ rfl
      simp [ci, ct] at g0 g1 g2 g3 g4 g5
      have e0 := hcell 0 (by omega)
      have e1 := hcell 1 (by omega)
      have e2 := hcell 2 (by omega)
      have e3 := hcell 3 (by omega)
      have e4 := hcell 4 (by omega)
      have e5 := hcell 5 (by omega)
      rw [Go.Deep.add_add] at e0 e1 e2 e3 e4 e5
      obtain ⟨k0, q0, _, _⟩ := DataW.trod_int Tryz.underlying3 g0
      obtain ⟨k1, q1, _, _⟩ := DataW.trod_int Tryz.underlying3 g1
      obtain ⟨k2, q2, _, _⟩ := DataW.trod_int Tryz.underlying3 g2
      obtain ⟨k3, q3, _, _⟩ := DataW.trod_int Tryz.underlying3 g3
      obtain ⟨a1, n1, c1, q4, t4⟩ := table_in g4
      obtain ⟨a2, n2, c2, q5, t5⟩ := table_in g5
      simp only [List.cons.injEq, and_true] at q0 q1 q2 q3
      subst q0 q1 q2 q3 q4 q5
      exact ⟨k0, k1, k2, k3, a1, n1, c1, a2, n2, c2, by simpa using e0, by simpa using e1, by simpa using e2, by simpa using e3, by simpa using e4, by simpa using e5, t4, t5⟩
end Cc
end Go.Proofs.YtnchnlgnnlgjcaaGreat
namespace Go.Proofs.YtnchnlgnnlgjcaaGreat
set_option linter.unusedVariables false
set_option linter.unusedSimpArgs false
open Go.RowKit
namespace Cc
/-- Lists of tokens, one a layer: t tokens each, the first k one more. -/
def Lay (T : List (List Tok)) (nl t k : Nat) : Prop := T.length = nl ∧ k < nl ∧ ∀ i, i < nl → (Ca.nt T i).length = lv t k i
def OkD (H D : Nat) (T : List (List Tok)) : Prop := ∀ i (j : Nat) (h : j < (Ca.nt T i).length), TokOk H D (Ca.nt T i)[j]
theorem nt_set {α : Type} {l : List (List α)} {k i : Nat} (hk : k < l.length) (y : List α) : Ca.nt (l.set k y) i = if i = k then y else Ca.nt l i := by
  unfold Ca.nt
  rw [List.getD_eq_getElem?_getD, List.getD_eq_getElem?_getD, List.getElem?_set]
  by_cases e : i = k
  · subst e; rw [if_pos rfl, if_pos hk, if_pos rfl]; rfl
  · rw [if_neg (fun q => e q.symm), if_neg e]
/-- A token more, of the layer that is next. -/
def layN (nl k : Nat) : Nat := if k + 1 = nl then 0 else k + 1
def layT (nl t k : Nat) : Nat := if k + 1 = nl then t + 1 else t
theorem Lay.put {T : List (List Tok)} {nl t k : Nat} (h : Lay T nl t k) (tok : Tok) : Lay (T.set k (Ca.nt T k ++ [tok])) nl (layT nl t k) (layN nl k) := by
  obtain ⟨h1, h2, h3⟩ := h
  refine ⟨by simp [h1], by unfold layN; split <;> omega, fun i hi => ?_⟩
  rw [nt_set (by omega)]
  by_cases e : i = k
  · subst e
    rw [if_pos rfl, List.length_append, h3 i h2]
    unfold lv layT layN
    by_cases q : i + 1 = nl
    · rw [if_pos q, if_pos q, if_neg (by omega), if_neg (by omega)]; rfl
    · rw [if_neg q, if_neg q, if_neg (by omega), if_pos (by omega)]; rfl
  · rw [if_neg e, h3 i hi]
    unfold lv layT layN
    by_cases q : k + 1 = nl
    · rw [if_pos q, if_pos q, if_pos (by omega), if_neg (by omega)]
    · rw [if_neg q, if_neg q]
      by_cases q2 : i < k
      · rw [if_pos q2, if_pos (by omega)]
      · rw [if_neg q2, if_neg (by omega)]
theorem nc_lay (nl t k : Nat) : nc nl t k = cn nl (layT nl t k) (layN nl k) := by
  unfold nc layT layN
  split <;> rfl
theorem OkD.put {H D : Nat} {T : List (List Tok)} (h : OkD H D T) {k : Nat} (hk : k < T.length) {tok : Tok} (ht : TokOk H D tok) : OkD H D (T.set k (Ca.nt T k ++ [tok])) := fun i j hj => by
  have e := nt_set (i := i) hk (Ca.nt T k ++ [tok])
  have key : ∀ l : List Tok, l = (if i = k then Ca.nt T k ++ [tok] else Ca.nt T i) → ∀ hj : j < l.length, TokOk H D l[j] := fun l hl hj => by
    by_cases q : i = k
    · rw [if_pos q] at hl
      subst hl
      by_cases q2 : j < (Ca.nt T k).length
      · rw [List.getElem_append_left q2]; exact h k j q2
      · rw [List.getElem_append_right (by omega)]
        have : j - (Ca.nt T k).length = 0 := by rw [List.length_append] at hj; simp at hj; omega
        simpa [this] using ht
    · rw [if_neg q] at hl
      subst hl
      exact h i j hj
  exact key _ e hj
/-- What a row was put. -/
def tkD (T : List (List Tok)) (H r : Nat) : List Tok := Ca.nt T (r / H)
def qD (G W : Nat) (T : List (List Tok)) (H r : Nat) : Nat := gn G W (Ca.nt T (r / H)).length
theorem tkD_put {T : List (List Tok)} {H k : Nat} (hH : 0 < H) (hk : k < T.length) (tok : Tok) (r : Nat) : tkj (tkD T H) tok H k H r = tkD (T.set k (Ca.nt T k ++ [tok])) H r := by
  rw [tkj_all _ _ hH]
  show (if r / H = k then Ca.nt T (r / H) ++ [tok] else Ca.nt T (r / H)) = Ca.nt (T.set k (Ca.nt T k ++ [tok])) (r / H)
  rw [nt_set hk]
  by_cases e : r / H = k
  · rw [if_pos e, if_pos e, e]
  · rw [if_neg e, if_neg e]
theorem qD_put {G W t : Nat} {T : List (List Tok)} {H k nl : Nat} (hH : 0 < H) (h : Lay T nl t k) (tok : Tok) (r : Nat) : qj (qD G W T H) (gn G W (t + 1)) H k H r = qD G W (T.set k (Ca.nt T k ++ [tok])) H r := by
  rw [qj_all _ _ hH]
  show (if r / H = k then gn G W (t + 1) else gn G W (Ca.nt T (r / H)).length) = gn G W (Ca.nt (T.set k (Ca.nt T k ++ [tok])) (r / H)).length
  rw [nt_set (by rw [h.1]; exact h.2.1)]
  by_cases e : r / H = k
  · rw [if_pos e, if_pos e, List.length_append, h.2.2 k h.2.1]
    unfold lv
    rw [if_neg (by omega)]
    rfl
  · rw [if_neg e, if_neg e]
theorem row_lt {r H nl : Nat} (h : r < nl * H) : r / H < nl := Nat.div_lt_of_lt_mul (by rw [Nat.mul_comm]; exact h)
/-- The eight cells of a play. -/
def plb (g H D G W : Nat) (vl va vr : Value) (i : Nat) : Value :=
  if i = 0 then .pointer (some ⟨g, 0, none⟩) else if i = 1 then .int .i64 H else if i = 2 then .int .i64 D else if i = 3 then .int .i64 G else if i = 4 then .int .i64 W else if i = 5 then vl else if i = 6 then va else vr
/-- ONE CACHE OF A PLAY, which was put T; f slots are free; all is new from block B on. -/
def Nd (B : Nat) (w0 w : World) (P g b C n H D G W : Nat) (ls : List (Int × Int)) (T : List (List Tok)) (t k f : Nat) (vl : Value) (vb vc : Nat) (vr : Value) (col : Nat → Nat) : Prop :=
  ∃ R M L, (w.rowIs P 50 8 (plb g H D G W vl (.slice (some ⟨vb, 0, none⟩) 1 vc) vr) ∧ col P = 1000) ∧ (Boxed w vb 55 (.pointer (some ⟨C, 0, none⟩)) ∧ col vb = 1000) ∧ PoolAt w g b n R M ∧
    CaAt w col 1 g C H D G W ls M L (cn ls.length t k) (tkD T H) (qD G W T H) ∧ (Lay T ls.length t k ∧ OkD H D T) ∧ Po.cnt R = f ∧ (∀ i, i < ls.length * H → ∀ x, x ∈ L i → 0 ≤ x ∧ x < n ∧ 0 < Ls.nth R x.toNat) ∧
    ((∀ x, w.heap.size ≤ x → col x = 0) ∧ (∀ x, x < B → col x = 0) ∧ col g = 1000 ∧ col b = 1000) ∧ Below B w0 w ∧ B ≤ w.heap.size
theorem Nd.keep {B P g b C n H D G W t k f vb vc : Nat} {w0 w w' : World} {ls : List (Int × Int)} {T : List (List Tok)} {vl vr : Value} {col : Nat → Nat} (h : Nd B w0 w P g b C n H D G W ls T t k f vl vb vc vr col) (hb : Below w.heap.size w w') : Nd B w0 w' P g b C n H D G W ls T t k f vl vb vc vr col := by
  obtain ⟨R, M, L, h1, h2, h3, h4, h5, h6, h7, h8, h10, h11⟩ := h
  have hs := hb.size
  exact ⟨R, M, L, ⟨h1.1.of_block (hb.block _ h1.1.lt), h1.2⟩, ⟨(hb.block _ h2.1.lt).trans h2.1, h2.2⟩, h3.keep hb, h4.below hb, h5, h6, h7, ⟨fun x hx => h8.1 x (by omega), h8.2⟩, h10.trans (hb.mono h11), by omega⟩
set_option maxHeartbeats 1600000 in
/-- A token more. -/
theorem nd_put (B P g b C n H D G W : Nat) (w0 : World) (ls : List (Int × Int)) (T : List (List Tok)) (t k f vb vc : Nat) (vl vr : Value) (col : Nat → Nat) (a1 a2 : Option Addr) (k1 k2 : Nat) (ks vs : List (List Int)) (q0 : Bool) (w : World) (h : Nd B w0 w P g b C n H D G W ls T t k f vl vb vc vr col) (sh : ShOk H D G W ls) (ht : t ≤ 500)
    (hks : SlQ (fun q => q < B) 1 eRow w a1 ks) (hvs : SlQ (fun q => q < B) 1 eRow w a2 vs) (f1 : Ca.fit H D ks = true) (f2 : Ca.fit H D vs = true) (i1 : ∀ k, Ls.In32 (Ca.nt ks k)) (i2 : ∀ k, Ls.In32 (Ca.nt vs k)) (hd : decide (gn G W t < gn G W (t + 1)) = q0) (hf : q0 = true → H ≤ f) :
    Calls Tryz.prog 20 #[.pointer (some ⟨C, 0, none⟩), .int .i64 (k : Int), .slice a1 ks.length k1, .slice a2 vs.length k2] w fun e w' => e = .returned (.int .i64 0) ∧ ∃ col' T', Nd B w0 w' P g b C n H D G W ls T' (layT ls.length t k) (layN ls.length k) (f - dn q0 H) vl vb vc vr col' ∧ ButQ g b (fun x => col x = 1) w w' ∧ (∀ x, x < w.heap.size → col' x = col x) := by
  obtain ⟨R, M, L, h1, h2, hp, hc, ⟨h5, h6⟩, h7, h8, ⟨c1, c2, cg, cb⟩, h10, h11⟩ := h
  obtain ⟨sH, sH2, sD, sD2, -⟩ := id sh
  have kd : ∀ {a : Option Addr} {l : List (List Int)}, SlQ (fun q => q < B) 1 eRow w a l → SlQ (fun x => ¬ x = g ∧ ¬ x = b ∧ ¬ col x = 1) 1 eRow w a l := fun hl => hl.carry carry_row (fun q _ hq => ⟨⟨fun e => by rw [← e, c2 q hq] at cg; exact absurd cg (by decide), fun e => by rw [← e, c2 q hq] at cb; exact absurd cb (by decide), by rw [c2 q hq]; decide⟩, rfl⟩) (Nat.le_refl _)
  have fit : ∀ {l : List (List Int)}, Ca.fit H D l = true → l.length = H ∧ ∀ i, i < H → (Ca.nt l i).length = D := fun {l} hf => by
    obtain ⟨e1, e2⟩ := Ca.fit_iff.1 hf
    exact ⟨e1, fun i hi => e2 i (by omega)⟩
  obtain ⟨l1, d1⟩ := fit f1
  obtain ⟨l2, d2⟩ := fit f2
  have ok : TokOk H D (ks, vs) := ⟨l1, l2, fun i hi => ⟨d1 i hi, d2 i hi, i1 i, i2 i⟩⟩
  have hkl : k < T.length := by rw [h5.1]; exact h5.2.1
  refine (put_ok_c C 1 g b n H D G W ls R M L t k (tkD T H) (qD G W T H) col a1 a2 k1 k2 ks vs q0 w hp hc sh h5.2.1 ht (fun r hr => ?_) (fun r hr i hi => h6 _ _ hi) (kd hks) (kd hvs) f1 f2 ok hd (fun e => by rw [h7]; exact hf e) h8 c1 (by decide) (by rw [cg]; decide) (by rw [cb]; decide)).mono ?_
  · have := h5.2.2 (r / H) (row_lt hr)
    exact ⟨by unfold qD; rw [this], this⟩
  · rintro e w' ⟨rfl, R', M', L', col', hp', hc', ⟨x1, x2, x3, x4⟩, ⟨y1, y2, y3, y4, y5, y6, y7, y8⟩⟩
    have lg := hp.lt
    have hs := x1.size
    have far : ∀ q, q < w.heap.size → ¬ q = g → ¬ q = b → ¬ col q = 1 → w'.heap[q]? = w.heap[q]? := fun q hq n1 n2 n3 => x1.block hq n1 n2 n3
    have gb : ∀ q, col q = 1000 → ¬ q = g → ¬ q = b → q < w.heap.size → w'.heap[q]? = w.heap[q]? := fun q hq n1 n2 hl => far q hl n1 n2 (by rw [hq]; decide)
    have lP := h1.1.lt
    have lv := h2.1.lt
    have tV := Rt.ty_box h2.1
    have tP := ty_row h1.1
    refine ⟨rfl, col', T.set k (Ca.nt T k ++ [(ks, vs)]), ⟨R', M', L', ⟨h1.1.of_block (gb P h1.2 (tP.ne hp.tys.1 (by decide)) (tP.ne hp.tys.2 (by decide)) lP), by rw [x2 P lP]; exact h1.2⟩, ⟨?_, by rw [x2 vb lv]; exact h2.2⟩, hp', ?_, ⟨h5.put _, h6.put hkl ok⟩, by omega, y5, ⟨x4, fun x hx => by rw [x2 x (by omega)]; exact c2 x hx, by rw [x2 g lg.1]; exact cg, by rw [x2 b lg.2]; exact cb⟩, ?_, by omega⟩, x1, x2⟩
    · exact (gb vb h2.2 (tV.ne hp.tys.1 (by decide)) (tV.ne hp.tys.2 (by decide)) lv).trans h2.1
    · rw [nc_lay] at hc'
      exact hc'.congr fun r hr => ⟨rfl, tkD_put sH hkl _ r, qD_put sH h5 _ r⟩
    · refine h10.trans ⟨x1.1, x1.2.1, x1.2.2.1, hs, fun q hq => ?_⟩
      have c0 := c2 q hq
      exact far q (by omega) (fun e => by rw [← e, c0] at cg; exact absurd cg (by decide)) (fun e => by rw [← e, c0] at cb; exact absurd cb (by decide)) (by rw [c0]; decide)
end Cc
end Go.Proofs.YtnchnlgnnlgjcaaGreat
