/- Contracts of package dot and of the document's own answers of layer 3, where a new list is made. -/
import Derived.Test.YtjeekibddmdgmaaDtCalls
import Derived.Deep.RegionHeld3
import Derived.Deep.AppendLies
import Derived.Deep.DrawnRows
import Derived.Outline
namespace Go.Proofs.Ytjeekibddmdgmaa
set_option linter.unusedVariables false
open Go.RowKit

theorem Try.infoInt32 : (Try.prog.info? 21).map (fun i => (i.zero, i.size, i.bytes)) = some (some (.int .i32 0), 1, 4) := by kernel_rfl

/-- The first k places made, the others 0. -/
def part (F : Nat → Int) (k j : Nat) : Value := .int .i32 (if j < k then F j else 0)
theorem part_lt {F : Nat → Int} {k j : Nat} (h : j < k) : part F k j = .int .i32 (F j) := by unfold part; rw [if_pos h]
theorem part_set (F : Nat → Int) (k j : Nat) : (if j = k then Value.int .i32 (F k) else part F k j) = part F (k + 1) j := by
  unfold part
  by_cases e : j = k
  · subst e; rw [if_pos rfl, if_pos (by omega)]
  · rw [if_neg e]
    by_cases h : j < k
    · rw [if_pos h, if_pos (by omega)]
    · rw [if_neg h, if_neg (by omega)]

theorem each_any (n : Nat) (p : Value) (a : Option Addr) (c : Nat) (x : List Int) (F : Nat → Int) (w : World) (ha : Lst .i32 w a x) (hl : x.length ≤ 1024)
    (hF : ∀ i, -2147483648 ≤ F i ∧ F i ≤ 2147483647) (hen : ∀ args w1, Sem.run Try.prog (callFunc n args) w1 = .ok (.enter n args) w1)
    (hf : ∀ (i : Nat) (w1 : World), i < x.length → Below w.heap.size w w1 → Calls Try.prog n #[.int .i64 i, .int .i32 (Ls.nth x i), p] w1 fun e w' => e = .returned (.int .i32 (F i)) ∧ w' = w1) :
    Calls Try.prog 24 #[.slice a x.length c, .func (.func n) #[] #[p]] w fun e w' => ∃ g, e = .returned (.slice (some ⟨g, 0, none⟩) x.length x.length) ∧ w.heap.size ≤ g ∧
      Lst .i32 w' (some ⟨g, 0, none⟩) (Ls.gen x.length fun i => Fx.cut (F i) (-8388608) 8388608) ∧ Below w.heap.size w w' := by
  have HA : Hid (Lst .i32 w a x) := ha
  have HF : Hid (∀ (i : Nat) (w1 : World), i < x.length → Below w.heap.size w w1 → Calls Try.prog n #[.int .i64 i, .int .i32 (Ls.nth x i), p] w1 fun e w' => e = .returned (.int .i32 (F i)) ∧ w' = w1) := hf
  clear ha hf
  have hmk := run_make_row' (P := Try.prog) 22 21 (.int .i32 0) 4 Try.underlying22 Try.infoInt32 rfl .i64 .i64 x.length (by omega) (by omega)
  go_enter Try.func24, Try.ntmps24
  go_wp2
  clear hmk
  go_loopw [13] (fun i wr => ∃ k : Nat, k ≤ x.length ∧ i = .int .i64 k ∧ wr.rowIs w.heap.size 21 x.length (part (fun j => Fx.cut (F j) (-8388608) 8388608) k) ∧ Below w.heap.size w wr) (fun i _ => x.length - (intOf i).toNat)
  case atStart => exact ⟨0, Nat.zero_le _, rfl, (World.rowIs_made w (.int .i32 0) x.length 21).congr (fun j hj => by simp [part]), (Below.refl _ _).alloc (Nat.le_refl _) _⟩
  case round =>
    obtain ⟨k, hk, rfl, hrow, hbel⟩ := hrel
    by_cases hlt : k < x.length
    · obtain ⟨b1, o1, rfl, hc1⟩ := (HA.out.keep hbel).get hlt
      have hck1 := hc1 k hlt
      have hcg := hrow.cell hlt
      have hfg := hrow.frozen k
      have HR : Hid (wr.rowIs w.heap.size 21 x.length (part (fun j => Fx.cut (F j) (-8388608) 8388608) k)) := hrow
      have HB : Hid (Below w.heap.size w wr) := hbel
      clear hc1 hrow hbel
      have hFk := hF k
      go_wp2_with (first
        | (go_at_call 32; refine (narrow_any _ _).mono ?_; rintro e w' ⟨rfl, rfl⟩)
        | (refine (HF.out k _ hlt HB.out).mono ?_; rintro e w' ⟨rfl, rfl⟩))
      go_roundw
      case rel => exact ⟨k + 1, by omega, by go_num, (HR.out.set k _).congr (fun j hj => part_set _ k j), HB.out.setCell (by simp) _⟩
      case measure => simp [intOf]; omega
    · go_wp2
      go_ret
      have e : k = x.length := by omega
      subst e
      refine ⟨w.heap.size, rfl, Nat.le_refl _, ?_, hbel⟩
      refine lst_of_row (f := part (fun j => Fx.cut (F j) (-8388608) 8388608) x.length) (t := 21) (by rw [Ls.gen_length]; exact hrow) (fun i hi => ?_)
      rw [Ls.gen_length] at hi
      rw [part_lt hi, Ls.nth_gen hi]

theorem addAt_any (B i : Nat) (b : Option Addr) (d : Nat) (v : Int) (y : List Int) (w : World) (hc : w.cell? ⟨B, 0, none⟩ = some (.slice b y.length d)) (hy : Lst .i32 w b y) (hi : i < y.length)
    (h1 : -2147483648 ≤ v) (h2 : v ≤ 2147483647) (hr : Ls.In32 y) :
    Calls Try.prog 25 #[.int .i64 i, .int .i32 v, .pointer (some ⟨B, 0, none⟩)] w fun e w' => e = .returned (.int .i32 (Fx.cut (v + Ls.nth y i) (-2147483648) 2147483647)) ∧ w' = w := by
  obtain ⟨b1, o1, rfl, hc1⟩ := hy.get hi
  have hck1 := hc1 i hi
  have hn := hr i
  clear hc1 hy hr
  go_enter Try.func25, Try.ntmps25
  go_wp2_with (go_at_call 26; refine (add_any _ _ h1 h2 hn.1 hn.2 _).mono ?_; rintro e w' ⟨rfl, rfl⟩)
  go_ret
  exact ⟨rfl, rfl⟩

theorem byAt_any (B i : Nat) (b : Option Addr) (d : Nat) (v : Int) (y : List Int) (w : World) (hc : w.cell? ⟨B, 0, none⟩ = some (.slice b y.length d)) (hy : Lst .i32 w b y) (hi : i < y.length)
    (h1 : -2147483648 ≤ v) (h2 : v ≤ 2147483647) (hr : Ls.In32 y) :
    Calls Try.prog 27 #[.int .i64 i, .int .i32 v, .pointer (some ⟨B, 0, none⟩)] w fun e w' => e = .returned (.int .i32 (Fx.mul v (Ls.nth y i))) ∧ w' = w := by
  obtain ⟨b1, o1, rfl, hc1⟩ := hy.get hi
  have hck1 := hc1 i hi
  have hn := hr i
  clear hc1 hy hr
  go_enter Try.func27, Try.ntmps27
  go_wp2_with (go_at_call 28; refine (mul_any _ _ h1 h2 hn.1 hn.2 _).mono ?_; rintro e w' ⟨rfl, rfl⟩)
  go_ret
  exact ⟨rfl, rfl⟩

theorem timesAt_any (B i : Nat) (v z : Int) (w : World) (hc : w.cell? ⟨B, 0, none⟩ = some (.int .i32 z))
    (h1 : -2147483648 ≤ v) (h2 : v ≤ 2147483647) (h3 : -2147483648 ≤ z) (h4 : z ≤ 2147483647) :
    Calls Try.prog 29 #[.int .i64 i, .int .i32 v, .pointer (some ⟨B, 0, none⟩)] w fun e w' => e = .returned (.int .i32 (Fx.mul v z)) ∧ w' = w := by
  go_enter Try.func29, Try.ntmps29
  go_wp2_with (go_at_call 28; refine (mul_any _ _ h1 h2 h3 h4 _).mono ?_; rintro e w' ⟨rfl, rfl⟩)
  go_ret
  exact ⟨rfl, rfl⟩

theorem box_cell (w w1 : World) (v : Value) (t : TypeId) (h : Below (w.alloc (.cells #[v] t)).heap.size (w.alloc (.cells #[v] t)) w1) : w1.cell? ⟨w.heap.size, 0, none⟩ = some v := by
  rw [h.cell (p := ⟨w.heap.size, 0, none⟩) (by simp)]
  exact cell_of_one (heap_alloc_new w _)
theorem box_below (w : World) (o : Obj) : Below w.heap.size w (w.alloc o) := (Below.refl _ _).alloc (Nat.le_refl _) _

theorem add_bad (a b : Option Addr) (m c n d : Nat) (w : World) (h : ¬ m = n ∨ 1024 < m) :
    Calls Try.prog 14 #[.slice a m c, .slice b n d] w fun e w' => e = .returned (.tuple #[.slice none 0 0, .int .i64 (shapeN m n)]) ∧ Below w.heap.size w w' := by
  by_cases hm : m = n
  · subst hm
    have h2 : 1024 < m := by omega
    have hs := shapeN_many h2
    rw [hs]
    go_enter Try.func14, Try.ntmps14
    go_wp2_with (go_at_call 23; refine (paired_any _ _ _ _ _ _ _).mono ?_; rintro e w' ⟨rfl, rfl⟩)
    go_ret2
    exact ⟨rfl, box_below _ _⟩
  · have hs := shapeN_ne hm
    rw [hs]
    clear h
    go_enter Try.func14, Try.ntmps14
    go_wp2_with (go_at_call 23; refine (paired_any _ _ _ _ _ _ _).mono ?_; rintro e w' ⟨rfl, rfl⟩)
    go_ret2
    exact ⟨rfl, box_below _ _⟩

theorem add_ok (a b : Option Addr) (c d : Nat) (x y : List Int) (w : World) (ha : Lst .i32 w a x) (hb : Lst .i32 w b y) (hl : x.length = y.length) (hn : x.length ≤ 1024) (hx : Ls.In32 x) (hy : Ls.In32 y) :
    Calls Try.prog 14 #[.slice a x.length c, .slice b y.length d] w fun e w' => ∃ g, e = .returned (.tuple #[.slice (some ⟨g, 0, none⟩) x.length x.length, .int .i64 0]) ∧ w.heap.size ≤ g ∧
      Lst .i32 w' (some ⟨g, 0, none⟩) (Ls.add x y) ∧ Below w.heap.size w w' := by
  have hs : shapeN x.length y.length = 0 := by rw [hl]; exact shapeN_ok (by omega)
  have HLL : Hid (x.length = y.length) := hl
  have HA : Hid (Lst .i32 w a x) := ha
  have HB : Hid (Lst .i32 w b y) := hb
  clear ha hb hl
  have hen : ∀ args w1, Sem.run Try.prog (callFunc 25 args) w1 = .ok (.enter 25 args) w1 := fun args w1 => by kernel_rfl
  have HEN : Hid (∀ args w1, Sem.run Try.prog (callFunc 25 args) w1 = .ok (.enter 25 args) w1) := hen
  clear hen
  go_enter Try.func14, Try.ntmps14
  go_wp2_with fail
  refine (paired_any _ _ _ _ _ _ _).mono ?_
  rintro e w' ⟨rfl, rfl⟩
  go_wp2_with fail
  refine (each_any 25 _ a c x (fun i => Fx.cut (Ls.nth x i + Ls.nth y i) (-2147483648) 2147483647) _ (HA.out.keep (box_below _ _)) hn (fun i => Ls.cut_bd _ _ _ (by omega)) HEN.out ?_).mono ?_
  · intro i w1 hi hb1
    exact addAt_any w.heap.size i b d _ y w1 (box_cell w w1 _ _ hb1) (HB.out.keep (below_then (box_below _ _) hb1)) (by have := HLL.out; omega) (hx i).1 (hx i).2 hy
  rintro e w1 ⟨g, rfl, hg, hL, hB⟩
  go_wp2
  go_ret2
  refine ⟨g, rfl, ?_, ?_, below_then (box_below _ _) hB⟩
  · have : (w.alloc (.cells #[.slice b y.length d] 22)).heap.size = w.heap.size + 1 := by simp
    omega
  · rw [show Ls.add x y = Ls.gen x.length (fun i => Fx.cut (Fx.cut (Ls.nth x i + Ls.nth y i) (-2147483648) 2147483647) (-8388608) 8388608) from Ls.gen_congr (fun i hi => (Ls.cut_wide_narrow _).symm)]
    exact hL

theorem by_bad (a b : Option Addr) (m c n d : Nat) (w : World) (h : ¬ m = n ∨ 1024 < m) :
    Calls Try.prog 15 #[.slice a m c, .slice b n d] w fun e w' => e = .returned (.tuple #[.slice none 0 0, .int .i64 (shapeN m n)]) ∧ Below w.heap.size w w' := by
  by_cases hm : m = n
  · subst hm
    have h2 : 1024 < m := by omega
    have hs := shapeN_many h2
    rw [hs]
    go_enter Try.func15, Try.ntmps15
    go_wp2_with (go_at_call 23; refine (paired_any _ _ _ _ _ _ _).mono ?_; rintro e w' ⟨rfl, rfl⟩)
    go_ret2
    exact ⟨rfl, box_below _ _⟩
  · have hs := shapeN_ne hm
    rw [hs]
    clear h
    go_enter Try.func15, Try.ntmps15
    go_wp2_with (go_at_call 23; refine (paired_any _ _ _ _ _ _ _).mono ?_; rintro e w' ⟨rfl, rfl⟩)
    go_ret2
    exact ⟨rfl, box_below _ _⟩

theorem by_ok (a b : Option Addr) (c d : Nat) (x y : List Int) (w : World) (ha : Lst .i32 w a x) (hb : Lst .i32 w b y) (hl : x.length = y.length) (hn : x.length ≤ 1024) (hx : Ls.In32 x) (hy : Ls.In32 y) :
    Calls Try.prog 15 #[.slice a x.length c, .slice b y.length d] w fun e w' => ∃ g, e = .returned (.tuple #[.slice (some ⟨g, 0, none⟩) x.length x.length, .int .i64 0]) ∧ w.heap.size ≤ g ∧
      Lst .i32 w' (some ⟨g, 0, none⟩) (Ls.by x y) ∧ Below w.heap.size w w' := by
  have hs : shapeN x.length y.length = 0 := by rw [hl]; exact shapeN_ok (by omega)
  have HLL : Hid (x.length = y.length) := hl
  have HA : Hid (Lst .i32 w a x) := ha
  have HB : Hid (Lst .i32 w b y) := hb
  clear ha hb hl
  have hen : ∀ args w1, Sem.run Try.prog (callFunc 27 args) w1 = .ok (.enter 27 args) w1 := fun args w1 => by kernel_rfl
  have HEN : Hid (∀ args w1, Sem.run Try.prog (callFunc 27 args) w1 = .ok (.enter 27 args) w1) := hen
  clear hen
  go_enter Try.func15, Try.ntmps15
  go_wp2_with fail
  refine (paired_any _ _ _ _ _ _ _).mono ?_
  rintro e w' ⟨rfl, rfl⟩
  go_wp2_with fail
  refine (each_any 27 _ a c x (fun i => Fx.mul (Ls.nth x i) (Ls.nth y i)) _ (HA.out.keep (box_below _ _)) hn (fun i => Ls.cut_bd _ _ _ (by omega)) HEN.out ?_).mono ?_
  · intro i w1 hi hb1
    exact byAt_any w.heap.size i b d _ y w1 (box_cell w w1 _ _ hb1) (HB.out.keep (below_then (box_below _ _) hb1)) (by have := HLL.out; omega) (hx i).1 (hx i).2 hy
  rintro e w1 ⟨g, rfl, hg, hL, hB⟩
  go_wp2
  go_ret2
  refine ⟨g, rfl, ?_, ?_, below_then (box_below _ _) hB⟩
  · have : (w.alloc (.cells #[.slice b y.length d] 22)).heap.size = w.heap.size + 1 := by simp
    omega
  · rw [show Ls.by x y = Ls.gen x.length (fun i => Fx.cut (Fx.mul (Ls.nth x i) (Ls.nth y i)) (-8388608) 8388608) from Ls.gen_congr (fun i hi => (Ls.cut_wide_narrow _).symm)]
    exact hL

theorem times_many (a : Option Addr) (m c : Nat) (z : Int) (w : World) (h : 1024 < m) :
    Calls Try.prog 16 #[.slice a m c, .int .i32 z] w fun e w' => e = .returned (.tuple #[.slice none 0 0, .int .i64 12]) ∧ Below w.heap.size w w' := by
  go_enter Try.func16, Try.ntmps16
  go_wp2
  go_ret2
  exact ⟨rfl, box_below _ _⟩

theorem times_ok (a : Option Addr) (c : Nat) (z : Int) (x : List Int) (w : World) (ha : Lst .i32 w a x) (hn : x.length ≤ 1024) (hx : Ls.In32 x) (h3 : -2147483648 ≤ z) (h4 : z ≤ 2147483647) :
    Calls Try.prog 16 #[.slice a x.length c, .int .i32 z] w fun e w' => ∃ g, e = .returned (.tuple #[.slice (some ⟨g, 0, none⟩) x.length x.length, .int .i64 0]) ∧ w.heap.size ≤ g ∧
      Lst .i32 w' (some ⟨g, 0, none⟩) (Ls.times x z) ∧ Below w.heap.size w w' := by
  have HA : Hid (Lst .i32 w a x) := ha
  clear ha
  have hen : ∀ args w1, Sem.run Try.prog (callFunc 29 args) w1 = .ok (.enter 29 args) w1 := fun args w1 => by kernel_rfl
  have HEN : Hid (∀ args w1, Sem.run Try.prog (callFunc 29 args) w1 = .ok (.enter 29 args) w1) := hen
  clear hen
  go_enter Try.func16, Try.ntmps16
  go_wp2_with fail
  refine (each_any 29 _ a c x (fun i => Fx.mul (Ls.nth x i) z) _ (HA.out.keep (box_below _ _)) hn (fun i => Ls.cut_bd _ _ _ (by omega)) HEN.out ?_).mono ?_
  · intro i w1 hi hb1
    exact timesAt_any w.heap.size i _ z w1 (box_cell w w1 _ _ hb1) (hx i).1 (hx i).2 h3 h4
  rintro e w1 ⟨g, rfl, hg, hL, hB⟩
  go_wp2
  go_ret2
  refine ⟨g, rfl, ?_, ?_, below_then (box_below _ _) hB⟩
  · have : (w.alloc (.cells #[.int .i32 z] 21)).heap.size = w.heap.size + 1 := by simp
    omega
  · rw [show Ls.times x z = Ls.gen x.length (fun i => Fx.cut (Fx.mul (Ls.nth x i) z) (-8388608) 8388608) from Ls.gen_congr (fun i hi => (Ls.cut_wide_narrow _).symm)]
    exact hL
end Go.Proofs.Ytjeekibddmdgmaa
