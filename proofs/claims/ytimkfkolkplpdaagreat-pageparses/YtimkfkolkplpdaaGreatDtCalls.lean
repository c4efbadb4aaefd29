/- Contracts of package dot and of the document's own answers of layer 3, where nothing is made. -/
import Derived.Test.YtimkfkolkplpdaaGreatFxCalls
import Derived.Test.YtimkfkolkplpdaaGreatLsWorld
namespace Go.Proofs.YtimkfkolkplpdaaGreat
set_option linter.unusedVariables false
open Go.RowKit

/-- What two lists' lengths tell: 25, 12 or 0. -/
def shapeN (m n : Nat) : Int := if m = n then (if 1024 < m then 12 else 0) else 25
theorem shapeN_ne {m n : Nat} (h : ¬ m = n) : shapeN m n = 25 := by unfold shapeN; rw [if_neg h]
theorem shapeN_many {n : Nat} (h : 1024 < n) : shapeN n n = 12 := by unfold shapeN; rw [if_pos rfl, if_pos h]
theorem shapeN_ok {n : Nat} (h : ¬ 1024 < n) : shapeN n n = 0 := by unfold shapeN; rw [if_pos rfl, if_neg h]

theorem dotN_step {x y : List Int} {k : Nat} (hx : Ls.mild x = true) (hy : Ls.mild y = true) (hk : k < 1024) :
    -288230376151711744 ≤ Ls.dotN x y k + Ls.nth x k * Ls.nth y k ∧ Ls.dotN x y k + Ls.nth x k * Ls.nth y k ≤ 288230376151711744 ∧
    -288230376151711744 ≤ Ls.dotN x y k ∧ Ls.dotN x y k ≤ 288230376151711744 ∧ -281474976710656 ≤ Ls.nth x k * Ls.nth y k ∧ Ls.nth x k * Ls.nth y k ≤ 281474976710656 := by
  have h1 := Ls.dotN_bd hx hy k
  have pa := Ls.mild_nth hx k
  have pb := Ls.mild_nth hy k
  have p := Ls.prod_bd pa.1 pa.2 pb.1 pb.2
  omega

theorem same_any (a b : Option Addr) (c d : Nat) (x y : List Int) (w : World) (ha : Lst .i32 w a x) (hb : Lst .i32 w b y) (hl : x.length ≤ 1000000) (e : x = y) :
    Calls Tryz.prog 38 #[.slice a x.length c, .slice b y.length d] w fun e w' => e = .returned (.bool true) ∧ ∃ n, w' = w.drewN n := by
  subst e
  have HA : Hid (Lst .i32 w a x) := ha
  have HB : Hid (Lst .i32 w b x) := hb
  clear ha hb
  go_enter Tryz.func38, Tryz.ntmps38
  go_wp2
  go_loopw [5] (fun i wr => ∃ k n : Nat, k ≤ x.length ∧ i = .int .i64 k ∧ wr = w.drewN n) (fun i _ => x.length - (intOf i).toNat)
  case atStart => exact ⟨0, 0, Nat.zero_le _, rfl, rfl⟩
  case round =>
    obtain ⟨k, n, hk, rfl, rfl⟩ := hrel
    by_cases hlt : k < x.length
    · obtain ⟨b1, o1, rfl, hc1⟩ := HA.out.get hlt
      obtain ⟨b2, o2, rfl, hc2⟩ := HB.out.get hlt
      have hck1 := hc1 k hlt
      have hck2 := hc2 k hlt
      clear hc1 hc2
      go_wp2
      go_quiet (fail)
      go_wp2
      go_roundw
      case rel => exact ⟨k + 1, _, by omega, by go_num, rfl⟩
      case measure => simp [intOf]; omega
    · go_wp2
      go_ret
      exact ⟨rfl, n, rfl⟩

theorem same_anym (a b : Option Addr) (m n c d : Nat) (x y : List Int) (w : World) (hm : m = x.length) (hn : n = x.length) (ha : Lst .i32 w a x) (hb : Lst .i32 w b y) (hl : x.length ≤ 1000000) (e : x = y) :
    Calls Tryz.prog 38 #[.slice a m c, .slice b n d] w fun e w' => e = .returned (.bool true) ∧ Below w.heap.size w w' := by
  subst hm hn e
  refine (same_any a b c d x x w ha hb hl rfl).mono ?_
  rintro e w' ⟨rfl, n, rfl⟩
  exact ⟨rfl, below_drewN (Below.refl _ _) n⟩
end Go.Proofs.YtimkfkolkplpdaaGreat
