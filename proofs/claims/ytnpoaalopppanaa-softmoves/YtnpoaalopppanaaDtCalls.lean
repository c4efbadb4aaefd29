/- Contracts of package dot and of the document's own answers of layer 3, where nothing is made. -/
import Derived.Test.YtnpoaalopppanaaFxCalls
import Derived.Test.YtnpoaalopppanaaLsWorld
namespace Go.Proofs.Ytnpoaalopppanaa
set_option linter.unusedVariables false
open Go.RowKit

/-- What two lists' lengths tell: 25, 12 or 0. -/
def shapeN (m n : Nat) : Int := if m = n then (if 1024 < m then 12 else 0) else 25
theorem shapeN_ne {m n : Nat} (h : ¬ m = n) : shapeN m n = 25 := by unfold shapeN; rw [if_neg h]
theorem shapeN_many {n : Nat} (h : 1024 < n) : shapeN n n = 12 := by unfold shapeN; rw [if_pos rfl, if_pos h]
theorem shapeN_ok {n : Nat} (h : ¬ 1024 < n) : shapeN n n = 0 := by unfold shapeN; rw [if_pos rfl, if_neg h]

theorem mild_any (a : Option Addr) (c : Nat) (l : List Int) (w : World) (hL : Lst .i32 w a l) (hl : l.length ≤ maxLen) :
    Calls Try.prog 39 #[.slice a l.length c] w fun e w' => e = .returned (.bool (Ls.mild l)) ∧ w' = w := by
  by_cases h : 1024 < l.length
  · rw [Ls.mild_long h]
    go_enter Try.func39, Try.ntmps39
    go_wp2
    go_ret
    exact ⟨rfl, rfl⟩
  · have HL : Hid (Lst .i32 w a l) := hL
    clear hL hl
    go_enter Try.func39, Try.ntmps39
    go_wp2
    go_loop [10] (fun i => ∃ k : Nat, k ≤ l.length ∧ i = .int .i64 k ∧ ∀ j, j < k → -16777216 ≤ Ls.nth l j ∧ Ls.nth l j ≤ 16777216) (fun i => l.length - (intOf i).toNat)
    case atStart => exact ⟨0, Nat.zero_le _, rfl, fun j hj => by omega⟩
    case round =>
      obtain ⟨k, hk, rfl, hm⟩ := hrel
      have HM : Hid (∀ j, j < k → -16777216 ≤ Ls.nth l j ∧ Ls.nth l j ≤ 16777216) := hm
      clear hm
      by_cases hlt : k < l.length
      · obtain ⟨b, o, rfl, hc⟩ := HL.out.get hlt
        have hck := hc k hlt
        clear hc
        by_cases c1 : Ls.nth l k < -16777216
        · go_wp2
          go_ret
          exact ⟨ret_bool (Ls.mild_low c1).symm, rfl⟩
        · by_cases c2 : 16777216 < Ls.nth l k
          · go_wp2
            go_ret
            exact ⟨ret_bool (Ls.mild_high c2).symm, rfl⟩
          · go_wp2
            go_round
            case rel =>
              refine ⟨k + 1, by omega, by go_num, fun j hj => ?_⟩
              by_cases e : j = k
              · subst e; omega
              · exact HM.out j (by omega)
            case measure => simp [intOf]; omega
      · go_wp2
        go_ret
        exact ⟨ret_bool (Ls.mild_mk (by omega) (fun i hi => HM.out i (by omega))).symm, rfl⟩

theorem refMild_any (a : Option Addr) (c : Nat) (l : List Int) (w : World) (hL : Lst .i32 w a l) (hl : l.length ≤ maxLen) :
    Calls Try.prog 30 #[.slice a l.length c] w fun e w' => e = .returned (.bool (Ls.mild l)) ∧ w' = w := by
  unfold maxLen at hl
  have HL : Hid (Lst .i32 w a l) := hL
  clear hL
  go_enter Try.func30, Try.ntmps30
  go_wp2
  go_loop [3] (fun i => ∃ k : Nat, k ≤ l.length ∧ i = .int .i64 k ∧ ∀ j, j < k → -16777216 ≤ Ls.nth l j ∧ Ls.nth l j ≤ 16777216) (fun i => l.length - (intOf i).toNat)
  case atStart => exact ⟨0, Nat.zero_le _, rfl, fun j hj => by omega⟩
  case round =>
    obtain ⟨k, hk, rfl, hm⟩ := hrel
    have HM : Hid (∀ j, j < k → -16777216 ≤ Ls.nth l j ∧ Ls.nth l j ≤ 16777216) := hm
    clear hm
    by_cases hlt : k < l.length
    · obtain ⟨b, o, rfl, hc⟩ := HL.out.get hlt
      have hck := hc k hlt
      clear hc
      by_cases c1 : Ls.nth l k < -16777216
      · go_wp2
        go_ret
        exact ⟨ret_bool (Ls.mild_low c1).symm, rfl⟩
      · by_cases c2 : 16777216 < Ls.nth l k
        · go_wp2
          go_ret
          exact ⟨ret_bool (Ls.mild_high c2).symm, rfl⟩
        · go_wp2
          go_round
          case rel =>
            refine ⟨k + 1, by omega, by go_num, fun j hj => ?_⟩
            by_cases e : j = k
            · subst e; omega
            · exact HM.out j (by omega)
          case measure => simp [intOf]; omega
    · by_cases hs : l.length ≤ 1024
      · go_wp2
        go_ret
        exact ⟨ret_bool (dec_yes (by omega) (Ls.mild_mk hs (fun i hi => HM.out i (by omega)))), rfl⟩
      · go_wp2
        go_ret
        exact ⟨ret_bool (dec_no (by omega) (Ls.mild_long (by omega))), rfl⟩

theorem dotN_step {x y : List Int} {k : Nat} (hx : Ls.mild x = true) (hy : Ls.mild y = true) (hk : k < 1024) :
    -288230376151711744 ≤ Ls.dotN x y k + Ls.nth x k * Ls.nth y k ∧ Ls.dotN x y k + Ls.nth x k * Ls.nth y k ≤ 288230376151711744 ∧
    -288230376151711744 ≤ Ls.dotN x y k ∧ Ls.dotN x y k ≤ 288230376151711744 ∧ -281474976710656 ≤ Ls.nth x k * Ls.nth y k ∧ Ls.nth x k * Ls.nth y k ≤ 281474976710656 := by
  have h1 := Ls.dotN_bd hx hy k
  have pa := Ls.mild_nth hx k
  have pb := Ls.mild_nth hy k
  have p := Ls.prod_bd pa.1 pa.2 pb.1 pb.2
  omega

theorem refTop_any (a : Option Addr) (c : Nat) (x : List Int) (w : World) (ha : Lst .i32 w a x) (hl : x.length ≤ 2000) :
    Calls Try.prog 12 #[.slice a x.length c] w fun e w' => e = .returned (.int .i64 (Ls.top x : Nat)) ∧ ∃ n, w' = w.drewN n := by
  have HA : Hid (Lst .i32 w a x) := ha
  clear ha
  go_enter Try.func12, Try.ntmps12
  go_wp2
  go_loopw [3, 4] (fun s i wr => ∃ k n : Nat, k ≤ x.length ∧ i = .int .i64 k ∧ s = .int .i64 (Ls.topN x k : Nat) ∧ wr = w.drewN n) (fun _ i _ => x.length - (intOf i).toNat)
  case atStart => exact ⟨0, 0, Nat.zero_le _, rfl, rfl, rfl⟩
  case round =>
    obtain ⟨k, n, hk, rfl, rfl, rfl⟩ := hrel
    by_cases hlt : k < x.length
    · obtain ⟨b1, o1, rfl, hc1⟩ := HA.out.get hlt
      have hck1 := hc1 k hlt
      have ht := Ls.topN_lt x k
      obtain ⟨t, et⟩ : ∃ t, Ls.topN x k = t := ⟨_, rfl⟩
      rw [et] at ht
      rw [et]
      have ET : Hid (Ls.topN x k = t) := et
      clear et
      have htl : t < x.length := by omega
      have hck2 := hc1 t htl
      clear hc1 ht
      by_cases h : Ls.nth x t < Ls.nth x k
      · have HT : Hid (Ls.topN x (k + 1) = k) := Ls.topN_yes (by rw [ET.out]; exact h)
        go_wp2
        go_quiet (fail)
        go_wp2
        go_roundw
        case rel => exact ⟨k + 1, _, by omega, by go_num, by rw [HT.out], rfl⟩
        case measure => simp [intOf]; omega
      · have HT : Hid (Ls.topN x (k + 1) = t) := by rw [← ET.out]; exact Ls.topN_no (by rw [ET.out]; exact h)
        go_wp2
        go_quiet (fail)
        go_wp2
        go_roundw
        case rel => exact ⟨k + 1, _, by omega, by go_num, by rw [HT.out], rfl⟩
        case measure => simp [intOf]; omega
    · have e : k = x.length := by omega
      subst e
      go_wp2
      go_ret
      exact ⟨rfl, n, rfl⟩

theorem top_none (a : Option Addr) (c : Nat) (w : World) :
    Calls Try.prog 19 #[.slice a 0 c] w fun e w' => e = .returned (.tuple #[.int .i64 0, .int .i32 0, .int .i64 14]) ∧ w' = w := by
  go_enter Try.func19, Try.ntmps19
  go_wp2
  go_ret3
  exact ⟨rfl, rfl⟩

theorem top_any (a : Option Addr) (c : Nat) (x : List Int) (w : World) (ha : Lst .i32 w a x) (hp : 0 < x.length) (hl : x.length ≤ 2000) :
    Calls Try.prog 19 #[.slice a x.length c] w fun e w' => e = .returned (.tuple #[.int .i64 (Ls.top x : Nat), .int .i32 (Ls.nth x (Ls.top x)), .int .i64 0]) ∧ ∃ n, w' = w.drewN n := by
  obtain ⟨b1, o1, rfl, hc1⟩ := ha.get hp
  have HC : Hid (∀ j, j < x.length → w.cell? ⟨b1, o1 + j, none⟩ = some (.int .i32 (Ls.nth x j))) := hc1
  clear ha hc1
  go_enter Try.func19, Try.ntmps19
  go_wp2
  go_loop [2, 12] (fun s i => ∃ k : Nat, k ≤ x.length ∧ i = .int .i64 k ∧ s = .int .i64 (Ls.topN x k : Nat)) (fun _ i => x.length - (intOf i).toNat)
  case atStart => exact ⟨0, Nat.zero_le _, rfl, rfl⟩
  case round =>
    obtain ⟨k, hk, rfl, rfl⟩ := hrel
    have ht := Ls.topN_lt x k
    by_cases hlt : k < x.length
    · have hck1 := HC.out k hlt
      obtain ⟨t, et⟩ : ∃ t, Ls.topN x k = t := ⟨_, rfl⟩
      rw [et] at ht
      rw [et]
      have ET : Hid (Ls.topN x k = t) := et
      clear et
      have htl : t < x.length := by omega
      have hck2 := HC.out t htl
      clear ht
      by_cases h : Ls.nth x t < Ls.nth x k
      · have HT : Hid (Ls.topN x (k + 1) = k) := Ls.topN_yes (by rw [ET.out]; exact h)
        go_wp2
        go_round
        case rel => exact ⟨k + 1, by omega, by go_num, by rw [HT.out]⟩
        case measure => simp [intOf]; omega
      · have HT : Hid (Ls.topN x (k + 1) = t) := by rw [← ET.out]; exact Ls.topN_no (by rw [ET.out]; exact h)
        go_wp2
        go_round
        case rel => exact ⟨k + 1, by omega, by go_num, by rw [HT.out]⟩
        case measure => simp [intOf]; omega
    · have e : k = x.length := by omega
      subst e
      have htl : Ls.topN x x.length < x.length := ht.2 hp
      have hck2 := HC.out _ htl
      clear ht
      go_wp2
      go_quiet (fail)
      go_wp2
      go_ret3
      exact ⟨rfl, nq, rfl⟩

theorem same_any (a b : Option Addr) (c d : Nat) (x y : List Int) (w : World) (ha : Lst .i32 w a x) (hb : Lst .i32 w b y) (hl : x.length ≤ 1000000) (e : x = y) :
    Calls Try.prog 17 #[.slice a x.length c, .slice b y.length d] w fun e w' => e = .returned (.bool true) ∧ ∃ n, w' = w.drewN n := by
  subst e
  have HA : Hid (Lst .i32 w a x) := ha
  have HB : Hid (Lst .i32 w b x) := hb
  clear ha hb
  go_enter Try.func17, Try.ntmps17
  go_wp2
  go_loopw [5] (fun i wr => ∃ k n : Nat, k ≤ x.length ∧ i = .int .i64 k ∧ wr = w.drewN n) (fun i _ => x.length - (intOf i).toNat)
  case atStart => exact ⟨0, 0, Nat.zero_le _, rfl, rfl⟩
  case round =>
    obtain ⟨k, n, hk, rfl, rfl⟩ := hrel
    by_cases hlt : k < x.length
    · obtain ⟨b1, o1, rfl, hc1⟩ := HA.out.get hlt
      obtain ⟨b2, o2, rfl, hc2⟩ := HB.out.get hlt
      have hck1 := hc1 k hlt
      have hck2 := hc2 k hlt
      clear hc1 hc2
      go_wp2
      go_quiet (fail)
      go_wp2
      go_roundw
      case rel => exact ⟨k + 1, _, by omega, by go_num, rfl⟩
      case measure => simp [intOf]; omega
    · go_wp2
      go_ret
      exact ⟨rfl, n, rfl⟩

theorem same_anym (a b : Option Addr) (m n c d : Nat) (x y : List Int) (w : World) (hm : m = x.length) (hn : n = x.length) (ha : Lst .i32 w a x) (hb : Lst .i32 w b y) (hl : x.length ≤ 1000000) (e : x = y) :
    Calls Try.prog 17 #[.slice a m c, .slice b n d] w fun e w' => e = .returned (.bool true) ∧ Below w.heap.size w w' := by
  subst hm hn e
  refine (same_any a b c d x x w ha hb hl rfl).mono ?_
  rintro e w' ⟨rfl, n, rfl⟩
  exact ⟨rfl, below_drewN (Below.refl _ _) n⟩
end Go.Proofs.Ytnpoaalopppanaa
