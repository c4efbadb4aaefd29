/- Contracts of package seal, where new bytes are made. -/
import Derived.Test.YtimkfkolkplpdaaGreatSlWorld
import Derived.Test.YtimkfkolkplpdaaGreatSlCalls
namespace Go.Proofs.YtimkfkolkplpdaaGreat
set_option linter.unusedVariables false
open Go.RowKit

theorem clone_any (a : Option Addr) (m c : Nat) (l : List Int) (hm : m = l.length) (hl : l.length ≤ 10000) (w : World) (ha : Lst .u8 w a l) (hc : a = none → c = 0) :
    Calls Tryz.prog 76 #[.slice a m c] w fun e w' => ∃ a' c', e = .returned (.slice a' m c') ∧ Lst .u8 w' a' l ∧ m ≤ c' ∧ c' ≤ maxLen ∧ (a' = none → c' = 0) ∧ (∀ x, a' = some x → x.block < w'.heap.size) ∧ Below w.heap.size w w' := by
  subst hm
  have HA : Hid (Lst .u8 w a l) := ha
  have HC : Hid (a = none → c = 0) := hc
  clear ha hc
  cases a with
  | none =>
    have e := HA.out.none_nil
    subst e
    have hq : (binOp .eql 44 (.slice none 0 c) (.slice none 0 0)).run Tryz.prog w = .ok (.bool true) w := slice_nil w _ _ none _ _ Tryz.underlying44
    go_enter Tryz.func76, Tryz.ntmps76
    go_wp2
    go_ret
    exact ⟨none, 0, rfl, Lst.nil _ _ _, Nat.zero_le _, fun _ => rfl, (fun x e => nomatch e), Below.refl _ _⟩
  | some a =>
    have hq : (binOp .eql 44 (.slice (some a) l.length c) (.slice none 0 0)).run Tryz.prog w = .ok (.bool false) w := slice_nil w _ _ (some a) _ _ Tryz.underlying44
    go_enter Tryz.func76, Tryz.ntmps76
    go_wp2_with (at_builtin; refine wpList_append_lst rfl (.tmp 5) (.tmp 6) 44 rfl w.heap.size 5 .u8 1 Tryz.underlying44 Tryz.infoU8 _ 0 [] (by rfl) (World.ownsRow_made w #[] 0 (Nat.le_refl _) (by decide) rfl) (some a) l c (by rfl) (HA.out.keep (box_over _ _)) HC.out (by unfold maxLen; omega) (by omega) (by simp) ?_; intro v1 u1 ho1 hg1; simp only [Nat.zero_add, List.nil_append] at ho1; have O1 : Hid (u1.ownsRow w.heap.size 5 1 v1 l.length (l.map (Value.int .u8))) := ho1; have B1 : Hid (Below w.heap.size w u1) := (box_over _ _).grown hg1 (by simp) (by intro k hk; cases hk; exact Nat.le_refl _); clear ho1 hg1)
    go_ret
    obtain ⟨a', c', rfl, h1, h2, h3, h4, h5⟩ := lst_of_own2 O1.out rfl
    exact ⟨a', c', rfl, h1, h2, h3, h4, h5, B1.out⟩

/-- The row of l and the lowest k bytes of v, t of them laid, from behind. -/
def Sl.laid (l : List Int) (k v t j : Nat) : Value := if j < l.length then .int .u8 (Ls.nth l j) else if j + t < l.length + k then .int .u8 0 else .int .u8 ((v / 256 ^ (l.length + k - 1 - j) % 256 : Nat) : Int)
theorem Sl.laid_whole (l : List Int) (k v j : Nat) (hj : j < l.length + k) : Sl.laid l k v k j = .int .u8 (Ls.nth (l ++ Sl.be k v) j) := by
  unfold Sl.laid
  by_cases c : j < l.length
  · rw [if_pos c, Ls.nth_append_left c]
  · rw [if_neg c, if_neg (by omega)]
    have : Ls.nth (l ++ Sl.be k v) j = Ls.nth (Sl.be k v) (j - l.length) := by
      unfold Ls.nth
      simp [List.getElem?_append_right (show l.length ≤ j by omega)]
    rw [this, Sl.nth_be (by omega), show k - 1 - (j - l.length) = l.length + k - 1 - j by omega]
theorem Sl.laid_first {l : List Int} {k v T : Nat} (hT : l.length + k = T) (j : Nat) (hj : j < T) : (if j < l.length then Value.int .u8 (Ls.nth l j) else Value.int .u8 0) = Sl.laid l k v 0 j := by
  unfold Sl.laid
  by_cases cj : j < l.length
  · rw [if_pos cj, if_pos cj]
  · rw [if_neg cj, if_neg cj, if_pos (by omega)]
theorem Sl.laid_step {l : List Int} {k v t n p : Nat} (ht : t < k) (hp : p = l.length + k - 1 - t) (hn : v / 256 ^ t = n) (j : Nat) :
    (if j = p then Value.int .u8 ((n : Int) % 256) else Sl.laid l k v t j) = Sl.laid l k v (t + 1) j := by
  unfold Sl.laid
  by_cases e : j = p
  · rw [e, if_pos rfl, if_neg (by omega), if_neg (by omega), hp, show l.length + k - 1 - (l.length + k - 1 - t) = t by omega, hn]
    rfl
  · rw [if_neg e]
    by_cases c : j < l.length
    · rw [if_pos c, if_pos c]
    · rw [if_neg c, if_neg c]
      by_cases d : j + t < l.length + k
      · rw [if_pos d, if_pos (by omega)]
      · rw [if_neg d, if_neg (by omega)]

theorem put_any (a : Option Addr) (m c : Nat) (l : List Int) (v : Nat) (n : Int) (k T : Nat) (hm : m = l.length) (hl : l.length ≤ 10000) (hk : Sl.wid n = k) (hT : l.length + k = T) (hv : v < 18446744073709551616) (w : World) (ha : Lst .u8 w a l) :
    Calls Tryz.prog 73 #[.slice a m c, .int .u64 v, .int .i64 n] w fun e w' => ∃ g, e = .returned (.slice (some ⟨g, 0, none⟩) T T) ∧ w.heap.size ≤ g ∧ w'.rowIs g 5 T (fun j => .int .u8 (Ls.nth (l ++ Sl.be k v) j)) ∧ Below w.heap.size w w' := by
  subst hm
  have hk8 : k ≤ 8 := by rw [← hk]; exact Sl.wid_le n
  have hT1 : T ≤ 10008 := by omega
  have hTk : k ≤ T := by omega
  have HA : Hid (Lst .u8 w a l) := ha
  have HK : Hid (Sl.wid n = k) := hk
  have HT : Hid (l.length + k = T) := hT
  have hTi : (l.length : Int) + (k : Int) = (T : Int) := by omega
  have hmk := run_make_row' (P := Tryz.prog) 44 5 (.int .u8 0) 1 Tryz.underlying44 Tryz.infoU8 rfl .i64 .i64 T (by omega) (by omega)
  clear ha hk hT
  go_enter Tryz.func73, Tryz.ntmps73
  go_wp2_with (first
    | (go_at_call 100; refine (width_any _ _ HK.out _).mono ?_; rintro e w' ⟨rfl, hww⟩; cases hww.symm; clear hww)
    | (refine wpList_copy_lst rfl (.tmp 16) (.tmp 17) 44 rfl .u8 5 Tryz.underlying44 Tryz.sizeU8 w.heap.size T T _ (World.rowIs_made w (.int .u8 0) T 5) (by rfl) a l c (by rfl) (HA.out.keep (box_over _ _)) (by have := HT.out; omega) w.heap.size w (box_over _ _) (Nat.le_refl _) ?_; intro w1 hr1 hb1; have R1 : Hid (w1.rowIs w.heap.size 5 T (Sl.laid l k v 0)) := hr1.congr (Sl.laid_first HT.out); have B1 : Hid (Below w.heap.size w w1) := hb1; clear hr1 hb1))
  clear hmk hTi
  have GO := B1.out.size
  go_loopw [1, 20] (fun x i wr => ∃ t y : Nat, t ≤ k ∧ i = .int .i64 t ∧ x = .int .u64 y ∧ y < 18446744073709551616 ∧ Hid (v / 256 ^ t = y) ∧ wr.rowIs w.heap.size 5 T (Sl.laid l k v t) ∧ Below w.heap.size w wr) (fun _ i _ => k - (intOf i).toNat)
  case atStart => exact ⟨0, v, Nat.zero_le _, rfl, rfl, hv, (by show _ = _; rw [Nat.pow_zero, Nat.div_one]), R1.out, B1.out⟩
  case round =>
    obtain ⟨t, y, ht, rfl, rfl, hy, HY, hrow, hbel⟩ := hrel
    clear R1 B1 GO
    by_cases hlt : t < k
    · obtain ⟨p, ep⟩ : ∃ p, T - 1 - t = p := ⟨_, rfl⟩
      have hp : p < T := by omega
      have hpi : (T : Int) - 1 - (t : Int) = (p : Int) := by omega
      have hcell := hrow.cell hp
      have hfro := hrow.frozen p
      go_wp2
      go_roundw
      case rel =>
        refine ⟨t + 1, y / 256, by omega, by go_num, by go_num, by omega, ?_, (hrow.set p _).congr (fun j hj => Sl.laid_step hlt (by have := HT.out; omega) HY.out j), hbel.setCell (Nat.le_refl _) _⟩
        show _ = _
        rw [Nat.pow_succ, ← Nat.div_div_eq_div_mul, HY.out]
      case measure => simp [intOf]; omega
    · have e : t = k := by omega
      subst e
      go_wp2
      go_ret
      exact ⟨_, rfl, Nat.le_refl _, hrow.congr (fun j hj => Sl.laid_whole _ _ _ _ (by rw [HT.out]; exact hj)), hbel⟩
end Go.Proofs.YtimkfkolkplpdaaGreat
