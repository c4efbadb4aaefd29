/- Layer 13: SfWorld, PgFrame, FxCalls, PkCalls, DtCalls, GpCalls. -/
import Derived.Test.YtnchnlgnnlgjcaaGreatCn03
import Derived.Deep.Matrix
import Derived.Deep.Slices
import Derived.Test.YtnchnlgnnlgjcaaGreatRows
import Derived.Test.YtnchnlgnnlgjcaaGreatCn01
import Derived.WalkKit
import Derived.ProofKit
import Derived.OpenShut
import Derived.Deep.QuietTactic
import Derived.BigQuiet
import Derived.Outline
import Derived.Test.YtnchnlgnnlgjcaaGreatCn02
namespace Go.Proofs.YtnchnlgnnlgjcaaGreat
set_option linter.unusedVariables false
open Go.RowKit
/-- THE SLICE OF SLICES THAT BEGINS AT a READS AS THE TABLE ls. -/
def Tbl (w : World) (a : Option Addr) (ls : List (List Int)) : Prop :=
  ∀ i, i < ls.length → ∃ b o A C, a = some ⟨b, o, none⟩ ∧ w.cell? ⟨b, o + i, none⟩ = some (.slice A (Tb.row ls i).length C) ∧ Lst .i32 w A (Tb.row ls i) ∧ (Tb.row ls i).length ≤ maxLen
theorem Tbl.get {w : World} {a : Option Addr} {ls : List (List Int)} (h : Tbl w a ls) {i : Nat} (hi : i < ls.length) :
    ∃ b o, a = some ⟨b, o, none⟩ ∧ ∀ j, j < ls.length → ∃ A C, w.cell? ⟨b, o + j, none⟩ = some (.slice A (Tb.row ls j).length C) ∧ Lst .i32 w A (Tb.row ls j) ∧ (Tb.row ls j).length ≤ maxLen := by
  obtain ⟨b, o, A, C, rfl, _⟩ := h i hi
  refine ⟨b, o, rfl, fun j hj => ?_⟩
  obtain ⟨b', o', A', C', e, hc⟩ := h j hj
  simp at e
  obtain ⟨rfl, rfl⟩ := e
  exact ⟨A', C', hc⟩
theorem Tbl.keep {w w' : World} {a : Option Addr} {ls : List (List Int)} (h : Tbl w a ls) (hb : Below w.heap.size w w') : Tbl w' a ls := fun i hi => by
  obtain ⟨b, o, A, C, e, hc, hL, hm⟩ := h i hi
  refine ⟨b, o, A, C, e, ?_, hL.keep hb, hm⟩
  rw [hb.cell (p := ⟨b, o + i, none⟩) (World.block_lt_of_cell? w _ hc)]
  exact hc
/-- What the walk is told of a slice of slices that came in. -/
def IsTable (w : World) (a : Option Addr) (len cap : Nat) : Prop :=
  (a = none ∧ len = 0 ∧ cap = 0) ∨
  ∃ (x : Addr) (A : Nat → Option Addr) (L C : Nat → Nat) (Z : Nat → List Int), a = some x ∧ len ≤ cap ∧ cap ≤ maxLen ∧
    ∀ r, r < cap → w.cell? (x.add r) = some (.slice (A r) (L r) (C r)) ∧ L r ≤ C r ∧ C r ≤ maxLen ∧ (Z r).length = C r ∧ (∀ n ∈ Z r, (Lit.int .i32 n).wf = true) ∧ (A r = none → C r = 0) ∧
      ∀ a', A r = some a' → ∀ c, c < C r → w.cell? (a'.add c) = some (.int .i32 ((Z r).getD c 0))
theorem addr_plain {w : World} {x : Addr} {v : Value} (h : w.cell? x = some v) : ∃ b o, x = ⟨b, o, none⟩ := by
  obtain ⟨b, o, s⟩ := x
  have := World.cell?_spot h
  simp at this
  subst this
  exact ⟨b, o, rfl⟩
end Go.Proofs.YtnchnlgnnlgjcaaGreat
namespace Go.Proofs.YtnchnlgnnlgjcaaGreat
set_option linter.unusedVariables false
open Go.ChangeShapes Go.WideShapes
theorem open_wide {H : Type} {enc : TypeId × Value → H} {P : Program} {w : World} {base : Nat} {spare : Nat → Bool} {held : Bool} {t : TypeId} {fs : Array Field} {fuel : Nat} {cs : List Value} {x : DataW H × List MemPlace}
    (ht : P.underlying t = some (.struct fs)) (h : DataW.trod enc P w base spare held fuel t cs = some x) :
    ∃ n, ∀ (i : Nat) (f : Field), fs[i]? = some f → ∃ y, DataW.trod enc P w base spare held n f.type ((cs.drop f.offset).take (P.cellsOf f.type)) = some y := by
  obtain ⟨xs, n, _, _, _, hlen, hf⟩ := DataW.trod_struct ht h
  refine ⟨n, fun i f hi => ?_⟩
  have h1 := hf i f hi
  have hlt : i < fs.size := by
    rcases Nat.lt_or_ge i fs.size with h' | h'
    · exact h'
    · rw [Array.getElem?_eq_none h'] at hi; cases hi
  have hx : i < xs.length := by omega
  rw [List.getElem?_eq_getElem hx] at h1
  exact ⟨_, h1⟩
end Go.Proofs.YtnchnlgnnlgjcaaGreat
namespace Go.Proofs.YtnchnlgnnlgjcaaGreat
set_option linter.unusedVariables false
open Go.RowKit
theorem bits_and_one (q : Int) : bits .and .i64 q 1 = q % 2 := by
  show IntKind.i64.wrap ((BitVec.ofInt 64 q &&& BitVec.ofInt 64 1).toNat : Int) = _
  have h2 : (BitVec.ofInt 64 1).toNat = 1 := by decide
  rw [BitVec.toNat_and, h2, Nat.and_one_is_mod, BitVec.toNat_ofInt, IntKind.wrap_i64]
  omega
theorem cut_any (v lo hi : Int) (h1 : -2147483648 ≤ lo) (h2 : lo ≤ hi) (h3 : hi ≤ 2147483647) (w : World) :
    Calls Tryz.prog 171 #[.int .i64 v, .int .i32 lo, .int .i32 hi] w fun e w' => e = .returned (.int .i32 (Fx.cut v lo hi)) ∧ w' = w := by
  by_cases c1 : v < lo
  · rw [Fx.cut_lo c1]
    go_enter Tryz.func171, Tryz.ntmps171
    go_wp2
    go_ret
    exact ⟨rfl, rfl⟩
  · by_cases c2 : hi < v
    · rw [Fx.cut_hi c1 c2]
      go_enter Tryz.func171, Tryz.ntmps171
      go_wp2
      go_ret
      exact ⟨rfl, rfl⟩
    · rw [Fx.cut_in c1 c2]
      go_enter Tryz.func171, Tryz.ntmps171
      go_wp2
      go_ret
      exact ⟨rfl, rfl⟩
theorem wide_any (v : Int) (w : World) :
    Calls Tryz.prog 161 #[.int .i64 v] w fun e w' => e = .returned (.int .i32 (Fx.cut v (-2147483648) 2147483647)) ∧ w' = w := by
  go_enter Tryz.func161, Tryz.ntmps161
  go_wp2_with (go_at_call 171; refine (cut_any _ _ _ (by omega) (by omega) (by omega) _).mono ?_; rintro e w' ⟨rfl, rfl⟩)
  go_ret
  exact ⟨rfl, rfl⟩
theorem nearest_any (q r b : Int) (hq1 : -9223372036854775808 ≤ q) (hq2 : q ≤ 9223372036854775807) (hb : b ≤ 9223372036854775807) (hr0 : 0 ≤ r) (hr1 : r < b) (hq3 : b ≤ 1 ∨ q ≤ 4611686018427387904) (w : World) :
    Calls Tryz.prog 170 #[.int .i64 q, .int .i64 r, .int .i64 b] w fun e w' => e = .returned (.int .i64 (Fx.near q r b)) ∧ w' = w := by
  by_cases c1 : b - r < r
  · rw [Fx.near_up c1]
    go_enter Tryz.func170, Tryz.ntmps170
    go_wp2
    go_ret
    exact ⟨rfl, rfl⟩
  · by_cases c2 : r = b - r
    · have e2 : (r == b - r) = true := by rw [beq_iff_eq]; exact c2
      have hq4 : q ≤ 4611686018427387904 := by omega
      by_cases c3 : q % 2 = 0
      · rw [Fx.near_even c1 c2 c3]
        have e3 : (bits .and .i64 q 1 != 0) = false := by rw [bits_and_one]; simp [c3]
        clear c3 c2 hq3
        go_enter Tryz.func170, Tryz.ntmps170
        go_wp2
        go_ret
        exact ⟨rfl, rfl⟩
      · rw [Fx.near_odd c1 c2 c3]
        have e3 : (bits .and .i64 q 1 != 0) = true := by rw [bits_and_one]; simp [c3]
        clear c3 c2 hq3
        go_enter Tryz.func170, Tryz.ntmps170
        go_wp2
        go_ret
        exact ⟨rfl, rfl⟩
    · rw [Fx.near_down c1 c2]
      go_enter Tryz.func170, Tryz.ntmps170
      go_wp2
      go_ret
      exact ⟨rfl, rfl⟩
theorem ratio_none (a b : Int) (hb : b ≤ 0) (w : World) :
    Calls Tryz.prog 160 #[.int .i64 a, .int .i64 b] w fun e w' => e = .returned (.int .i64 0) ∧ w' = w := by
  go_enter Tryz.func160, Tryz.ntmps160
  go_wp2
  go_ret
  exact ⟨rfl, rfl⟩
theorem ratio_any (a b : Int) (h1 : -9223372036854775808 ≤ a) (h2 : a ≤ 9223372036854775807) (hb : 0 < b) (hb1 : b ≤ 9223372036854775807) (w : World) :
    Calls Tryz.prog 160 #[.int .i64 a, .int .i64 b] w fun e w' => e = .returned (.int .i64 (Fx.rnd a b)) ∧ ∃ n, w' = w.drewN n := by
  have r0 := Int.emod_nonneg a (show b ≠ 0 by omega)
  have r1 := Int.emod_lt_of_pos a hb
  have q0 := Fx.quo_bd a b h1 h2 hb
  have q1 := Fx.quo_half a b h2 hb
  by_cases ha : 0 ≤ a
  · go_enter Tryz.func160, Tryz.ntmps160
    go_wp2_with fail
    go_quiet (fail)
    go_wp2_with fail
    refine (nearest_any _ _ _ q0.1 q0.2 hb1 r0 r1 q1 _).mono ?_
    rintro e w' ⟨rfl, rfl⟩
    go_wp2
    go_ret
    exact ⟨rfl, _, rfl⟩
  · have q2 := Fx.quo_neg a b (by omega) hb
    rcases Fx.tdiv_neg (show a < 0 by omega) hb with ⟨t0, t1, t2⟩ | ⟨t0, t1, t2⟩
    · have e1 : Hid (a.tdiv b = a / b) := t2
      have e2 : Hid (a.tmod b = a % b) := by show _ = _; omega
      have t3 : -9223372036854775808 ≤ a.tdiv b := by omega
      have t4 : a.tdiv b ≤ 9223372036854775807 := by omega
      have t7 : ¬ a.tmod b < 0 := by omega
      clear t1 t2 t0
      go_enter Tryz.func160, Tryz.ntmps160
      go_wp2_with fail
      go_quiet (fail)
      go_wp2_with fail
      rw [e1.out, e2.out]
      refine (nearest_any _ _ _ q0.1 q0.2 hb1 r0 r1 q1 _).mono ?_
      rintro e w' ⟨rfl, rfl⟩
      go_wp2
      go_ret
      exact ⟨rfl, _, rfl⟩
    · have e1 : Hid (a.tdiv b - 1 = a / b) := by show _ = _; omega
      have e2 : Hid (a.tmod b + b = a % b) := t1.symm
      have t3 : -9223372036854775807 ≤ a.tdiv b := by omega
      have t4 : a.tdiv b ≤ 9223372036854775807 := by omega
      have t6 : -9223372036854775807 ≤ a.tmod b := by omega
      clear t1 t2
      go_enter Tryz.func160, Tryz.ntmps160
      go_wp2_with fail
      go_quiet (fail)
      go_wp2_with fail
      rw [e1.out, e2.out]
      refine (nearest_any _ _ _ q0.1 q0.2 hb1 r0 r1 q1 _).mono ?_
      rintro e w' ⟨rfl, rfl⟩
      go_wp2
      go_ret
      exact ⟨rfl, _, rfl⟩
end Go.Proofs.YtnchnlgnnlgjcaaGreat
namespace Go.Proofs.YtnchnlgnnlgjcaaGreat
set_option linter.unusedVariables false
open Go.RowKit
/-- May codes have so many bits? (any number) -/
def NotOk (b : Int) : Prop := ¬ b = 2 ∧ ¬ b = 4 ∧ ¬ b = 8
theorem ok_or (b : Int) : NotOk b ∨ ∃ n : Nat, b = (n : Int) ∧ Pk.Ok n := by
  by_cases h1 : b = 2
  · exact Or.inr ⟨2, h1, Or.inl rfl⟩
  by_cases h2 : b = 4
  · exact Or.inr ⟨4, h2, Or.inr (Or.inl rfl)⟩
  by_cases h3 : b = 8
  · exact Or.inr ⟨8, h3, Or.inr (Or.inr rfl)⟩
  exact Or.inl ⟨h1, h2, h3⟩
theorem ok_le {b : Nat} (h : Pk.Ok b) : 2 ≤ b ∧ b ≤ 8 := by rcases h with rfl | rfl | rfl <;> omega
theorem bits_yes (b : Nat) (h : Pk.Ok b) (w : World) :
    Calls Tryz.prog 81 #[.int .i64 b] w fun e w' => e = .returned (.bool true) ∧ w' = w := by
  rcases h with rfl | rfl | rfl
  all_goals
    go_enter Tryz.func81, Tryz.ntmps81
    go_wp2
    go_ret
    exact ⟨rfl, rfl⟩
theorem bits_no (b : Int) (h : NotOk b) (w : World) :
    Calls Tryz.prog 81 #[.int .i64 b] w fun e w' => e = .returned (.bool false) ∧ w' = w := by
  obtain ⟨h1, h2, h3⟩ := h
  have g1 : (b == 2) = false := beq_eq_false_iff_ne.2 h1
  have g2 : (b == 4) = false := beq_eq_false_iff_ne.2 h2
  have g3 : (b == 8) = false := beq_eq_false_iff_ne.2 h3
  go_enter Tryz.func81, Tryz.ntmps81
  go_wp2
  go_ret
  exact ⟨rfl, rfl⟩
theorem refBits_yes (b : Nat) (h : Pk.Ok b) (w : World) :
    Calls Tryz.prog 78 #[.int .i64 b] w fun e w' => e = .returned (.bool true) ∧ w' = w := by
  rcases h with rfl | rfl | rfl
  all_goals
    go_enter Tryz.func78, Tryz.ntmps78
    go_wp2
    go_ret
    exact ⟨rfl, rfl⟩
theorem refBits_no (b : Int) (h : NotOk b) (w : World) :
    Calls Tryz.prog 78 #[.int .i64 b] w fun e w' => e = .returned (.bool false) ∧ w' = w := by
  obtain ⟨h1, h2, h3⟩ := h
  have g1 : (b == 2) = false := beq_eq_false_iff_ne.2 h1
  have g2 : (b == 4) = false := beq_eq_false_iff_ne.2 h2
  have g3 : (b == 8) = false := beq_eq_false_iff_ne.2 h3
  go_enter Tryz.func78, Tryz.ntmps78
  go_wp2
  go_ret
  exact ⟨rfl, rfl⟩
theorem countable_yes (n : Int) (h0 : 0 ≤ n) (h1 : n ≤ 256) (w : World) :
    Calls Tryz.prog 173 #[.int .i64 n] w fun e w' => e = .returned (.bool true) ∧ w' = w := by
  go_enter Tryz.func173, Tryz.ntmps173
  go_wp2
  go_ret
  exact ⟨rfl, rfl⟩
theorem mask_any (b m : Nat) (h : Pk.Ok b) (hm : 2 ^ b - 1 = m) (w : World) :
    Calls Tryz.prog 163 #[.int .i64 b] w fun e w' => e = .returned (.int .i64 m) ∧ w' = w := by
  subst hm
  rcases h with rfl | rfl | rfl
  all_goals
    go_enter Tryz.func163, Tryz.ntmps163
    go_wp2
    go_ret
    exact ⟨rfl, rfl⟩
theorem place_any (i b t s : Nat) (h : Pk.Ok b) (hi : i ≤ 9223372036854775807) (ht : Pk.word b i = t) (hs : Pk.shift b i = s) (w : World) :
    Calls Tryz.prog 162 #[.int .i64 i, .int .i64 b] w fun e w' => e = .returned (.tuple #[.int .i64 t, .int .i64 s]) ∧ ∃ n, w' = w.drewN n := by
  subst ht hs
  rcases h with rfl | rfl | rfl
  all_goals
    go_enter Tryz.func162, Tryz.ntmps162
    go_wp2
    go_quiet (fail)
    go_wp2
    go_ret2
    exact ⟨rfl, _, rfl⟩
theorem words_yes (n b : Nat) (h : Pk.Ok b) (hn : n ≤ 256) (w : World) :
    Calls Tryz.prog 174 #[.int .i64 n, .int .i64 b] w fun e w' => e = .returned (.int .i64 (Pk.size b n : Nat)) ∧ w' = w := by
  have H : Hid (Pk.Ok b) := h
  obtain ⟨z, ez⟩ : ∃ z, n * b = z := ⟨_, rfl⟩
  have hz : z ≤ 256 * 8 := by rw [← ez]; exact Nat.mul_le_mul hn (ok_le h).2
  have hzi : (n : Int) * (b : Int) = (z : Int) := by rw [← ez]; exact (Int.natCast_mul n b).symm
  have HS : Hid (Pk.size b n = (z + 63) / 64) := by unfold Pk.size; rw [ez]; exact rfl
  clear ez h
  go_enter Tryz.func174, Tryz.ntmps174
  go_wp2_with (first
    | (go_at_call 81; refine (bits_yes _ H.out _).mono ?_; rintro e w' ⟨rfl, rfl⟩)
    | (go_at_call 173; refine (countable_yes _ (by omega) (by omega) _).mono ?_; rintro e w' ⟨rfl, rfl⟩))
  go_ret
  refine ⟨ret_num ?_, rfl⟩
  rw [HS.out]
  omega
end Go.Proofs.YtnchnlgnnlgjcaaGreat
namespace Go.Proofs.YtnchnlgnnlgjcaaGreat
set_option linter.unusedVariables false
open Go.RowKit
theorem St.ok {b s : Nat} (h : Gp.St b s) : Pk.Ok b := by
  rcases h with ⟨rfl, _⟩ | ⟨rfl, _⟩ | ⟨rfl, _⟩
  · exact Or.inl rfl
  · exact Or.inr (Or.inl rfl)
  · exact Or.inr (Or.inr rfl)
theorem countG_any (n : Nat) (b e : Int) (he : Gp.many n b = e) (hn : n ≤ maxLen) (w : World) :
    Calls Tryz.prog 155 #[.int .i64 n, .int .i64 b] w fun r w' => r = .returned (.int .i64 e) ∧ w' = w := by
  subst he
  unfold maxLen at hn
  rcases Gp.many_cases n b with h | ⟨m, s, rfl, h⟩
  · rw [Gp.many_bits n h]
    have H : Hid (NotOk b) := h
    clear h
    go_enter Tryz.func155, Tryz.ntmps155
    go_wp2_with (go_at_call 81; refine (bits_no _ H.out _).mono ?_; rintro e w' ⟨rfl, rfl⟩)
    go_ret
    exact ⟨rfl, rfl⟩
  · have H : Hid (Pk.Ok m) := St.ok h
    by_cases h0 : n = 0
    · subst h0
      rw [Gp.many_none h]
      clear h
      go_enter Tryz.func155, Tryz.ntmps155
      go_wp2_with (go_at_call 81; refine (bits_yes _ H.out _).mono ?_; rintro e w' ⟨rfl, rfl⟩)
      go_ret
      exact ⟨rfl, rfl⟩
    · have g0 : ((n : Int) == 0) = false := beq_eq_false_iff_ne.2 (by omega)
      by_cases h1 : 256 < n
      · rw [Gp.many_many h h1]
        clear h
        go_enter Tryz.func155, Tryz.ntmps155
        go_wp2_with (go_at_call 81; refine (bits_yes _ H.out _).mono ?_; rintro e w' ⟨rfl, rfl⟩)
        go_ret
        exact ⟨rfl, rfl⟩
      · rw [Gp.many_ok h (by omega) (by omega)]
        clear h
        go_enter Tryz.func155, Tryz.ntmps155
        go_wp2_with (go_at_call 81; refine (bits_yes _ H.out _).mono ?_; rintro e w' ⟨rfl, rfl⟩)
        go_ret
        exact ⟨rfl, rfl⟩
theorem greatest_any (b s : Nat) (h : Gp.St b s) (w : World) :
    Calls Tryz.prog 168 #[.int .i64 b] w fun e w' => e = .returned (.int .i64 s) ∧ w' = w := by
  rcases h with ⟨rfl, rfl⟩ | ⟨rfl, rfl⟩ | ⟨rfl, rfl⟩
  all_goals
    go_enter Tryz.func168, Tryz.ntmps168
    go_wp2
    go_ret
    exact ⟨rfl, rfl⟩
theorem apart_any (a b : Int) (h1 : -2147483648 ≤ a) (h2 : a ≤ 2147483647) (h3 : -2147483648 ≤ b) (h4 : b ≤ 2147483647) (w : World) :
    Calls Tryz.prog 158 #[.int .i32 a, .int .i32 b] w fun e w' => e = .returned (.int .i64 (a - b)) ∧ w' = w := by
  go_enter Tryz.func158, Tryz.ntmps158
  go_wp2
  go_ret
  exact ⟨rfl, rfl⟩
theorem scaleOf_any (d : Int) (b s : Nat) (h : Gp.St b s) (h1 : 0 ≤ d) (h2 : d ≤ 4294967295) (sc : Int) (hsc : Gp.up d s = sc) (w : World) :
    Calls Tryz.prog 157 #[.int .i64 d, .int .i64 b] w fun e w' => e = .returned (.int .i64 sc) ∧ w' = w := by
  have hb := h.bd
  have e1 : (d + s - 1) / s = sc := by rw [Gp.up_div (by omega), hsc]
  have HE : Hid ((d + s - 1) / s = sc) := e1
  have H : Hid (Gp.St b s) := h
  clear h hsc e1
  go_enter Tryz.func157, Tryz.ntmps157
  go_wp2_with (go_at_call 168; refine (greatest_any _ _ H.out _).mono ?_; rintro e w' ⟨rfl, rfl⟩)
  go_ret
  exact ⟨ret_num HE.out, rfl⟩
theorem min_any (a : Option Addr) (c : Nat) (l : List Int) (w : World) (ha : Lst .i32 w a l) (hl : l.length ≤ maxLen) (h0 : 0 < l.length) (m : Int) (hm : Gp.low l = m) :
    Calls Tryz.prog 156 #[.slice a l.length c] w fun e w' => e = .returned (.int .i32 m) ∧ w' = w := by
  subst hm
  unfold maxLen at hl
  obtain ⟨b1, o1, rfl, hc1⟩ := ha.get h0
  have hc0 := hc1 0 h0
  rw [Nat.add_zero] at hc0
  have HC : Hid (∀ j, j < l.length → w.cell? ⟨b1, o1 + j, none⟩ = some (.int .i32 (Ls.nth l j))) := hc1
  clear hc1 ha
  go_enter Tryz.func156, Tryz.ntmps156
  go_wp2
  go_loop [3, 4] (fun v i => ∃ k : Nat, 1 ≤ k ∧ k ≤ l.length ∧ i = .int .i64 k ∧ v = .int .i32 (Gp.lowN l k)) (fun _ i => l.length - (intOf i).toNat)
  case atStart => exact ⟨1, by omega, by omega, rfl, by rw [show Gp.lowN l 1 = Ls.nth l 0 from by simp [Gp.lowN, Gp.lo2]]⟩
  case round =>
    obtain ⟨k, hk1, hk, rfl, rfl⟩ := hrel
    by_cases hlt : k < l.length
    · have hck := HC.out k hlt
      have e : (if Ls.nth l k < Gp.lowN l k then Ls.nth l k else Gp.lowN l k) = Gp.lowN l (k + 1) := rfl
      go_wp2
      go_round
      case rel => exact ⟨k + 1, by omega, by omega, by go_num, rfl⟩
      case measure => simp [intOf]; omega
    · have e : k = l.length := by omega
      subst e
      go_wp2
      go_ret
      exact ⟨rfl, rfl⟩
theorem max_any (a : Option Addr) (c : Nat) (l : List Int) (w : World) (ha : Lst .i32 w a l) (hl : l.length ≤ maxLen) (h0 : 0 < l.length) (m : Int) (hm : Gp.high l = m) :
    Calls Tryz.prog 159 #[.slice a l.length c] w fun e w' => e = .returned (.int .i32 m) ∧ w' = w := by
  subst hm
  unfold maxLen at hl
  obtain ⟨b1, o1, rfl, hc1⟩ := ha.get h0
  have hc0 := hc1 0 h0
  rw [Nat.add_zero] at hc0
  have HC : Hid (∀ j, j < l.length → w.cell? ⟨b1, o1 + j, none⟩ = some (.int .i32 (Ls.nth l j))) := hc1
  clear hc1 ha
  go_enter Tryz.func159, Tryz.ntmps159
  go_wp2
  go_loop [3, 4] (fun v i => ∃ k : Nat, 1 ≤ k ∧ k ≤ l.length ∧ i = .int .i64 k ∧ v = .int .i32 (Gp.highN l k)) (fun _ i => l.length - (intOf i).toNat)
  case atStart => exact ⟨1, by omega, by omega, rfl, by rw [show Gp.highN l 1 = Ls.nth l 0 from by simp [Gp.highN, Gp.hi2]]⟩
  case round =>
    obtain ⟨k, hk1, hk, rfl, rfl⟩ := hrel
    by_cases hlt : k < l.length
    · have hck := HC.out k hlt
      have e : (if Gp.highN l k < Ls.nth l k then Ls.nth l k else Gp.highN l k) = Gp.highN l (k + 1) := rfl
      go_wp2
      go_round
      case rel => exact ⟨k + 1, by omega, by omega, by go_num, rfl⟩
      case measure => simp [intOf]; omega
    · have e : k = l.length := by omega
      subst e
      go_wp2
      go_ret
      exact ⟨rfl, rfl⟩
theorem notNought_any (c : Int) (w : World) :
    Calls Tryz.prog 167 #[.int .i64 c] w fun e w' => e = .returned (.bool (c != 0)) ∧ w' = w := by
  go_enter Tryz.func167, Tryz.ntmps167
  go_wp2
  go_ret
  exact ⟨rfl, rfl⟩
theorem index_any (a : Option Addr) (c : Nat) (l : List Int) (w : World) (ha : Lst .i64 w a l) (hl : l.length ≤ maxLen) (q : Bool) (hq : Gp.nils l = !q) :
    Calls Tryz.prog 172 #[.slice a l.length c, .func (.func 167) #[] #[]] w fun e w' => ∃ r : Int, e = .returned (.int .i64 r) ∧ decide (0 ≤ r) = q ∧ w' = w := by
  unfold maxLen at hl
  have HA : Hid (Lst .i64 w a l) := ha
  have HQ : Hid (Gp.nils l = !q) := hq
  clear ha hq
  go_enter Tryz.func172, Tryz.ntmps172
  go_wp2
  go_loop [8] (fun i => ∃ k : Nat, k ≤ l.length ∧ i = .int .i64 k ∧ ∀ j, j < k → Ls.nth l j = 0) (fun i => l.length - (intOf i).toNat)
  case atStart => exact ⟨0, Nat.zero_le _, rfl, fun j hj => by omega⟩
  case round =>
    obtain ⟨k, hk, rfl, hall⟩ := hrel
    have HL : Hid (∀ j, j < k → Ls.nth l j = 0) := hall
    clear hall
    by_cases hlt : k < l.length
    · obtain ⟨b1, o1, rfl, hc1⟩ := HA.out.get hlt
      have hck := hc1 k hlt
      clear hc1
      by_cases hz : Ls.nth l k = 0
      · have hz' : (Ls.nth l k != 0) = false := by rw [hz]; rfl
        have HZ : Hid (Ls.nth l k = 0) := hz
        clear hz
        go_wp2_with (go_at_call 167; refine (notNought_any _ _).mono ?_; rintro e w' ⟨rfl, rfl⟩)
        go_round
        case rel =>
          refine ⟨k + 1, by omega, by go_num, fun j hj => ?_⟩
          by_cases e : j = k
          · subst e; exact HZ.out
          · exact HL.out j (by omega)
        case measure => simp [intOf]; omega
      · have hz' : (Ls.nth l k != 0) = true := by simp [hz]
        go_wp2_with (go_at_call 167; refine (notNought_any _ _).mono ?_; rintro e w' ⟨rfl, rfl⟩)
        go_ret
        refine ⟨_, rfl, ?_, rfl⟩
        have := HQ.out
        rw [Gp.nils_no hlt hz] at this
        cases q
        · cases this
        · exact decide_eq_true (by omega)
    · go_wp2
      go_ret
      refine ⟨_, rfl, ?_, rfl⟩
      have := HQ.out
      rw [Gp.nils_yes (fun i hi => HL.out i (by omega))] at this
      cases q
      · rfl
      · cases this
theorem contains_any (a : Option Addr) (c : Nat) (l : List Int) (w : World) (ha : Lst .i64 w a l) (hl : l.length ≤ maxLen) (q : Bool) (hq : Gp.nils l = !q) :
    Calls Tryz.prog 166 #[.slice a l.length c, .func (.func 167) #[] #[]] w fun e w' => e = .returned (.bool q) ∧ w' = w := by
  have HA : Hid (Lst .i64 w a l) := ha
  have HQ : Hid (Gp.nils l = !q) := hq
  have HL : Hid (l.length ≤ maxLen) := hl
  clear ha hq hl
  go_enter Tryz.func166, Tryz.ntmps166
  go_wp2_with (go_at_call 172; refine (index_any a c l _ HA.out HL.out q HQ.out).mono ?_; rintro e w' ⟨r, rfl, hr, rfl⟩)
  go_ret
  exact ⟨rfl, rfl⟩
end Go.Proofs.YtnchnlgnnlgjcaaGreat
