/- Contracts of the document's own answers of layer 3 that make a list, element by element. -/
import Derived.Test.YtjeekibddmdgmaaDtMakes
namespace Go.Proofs.Ytjeekibddmdgmaa
set_option linter.unusedVariables false
open Go.RowKit
attribute [local go_sem ↓] Go.wp_at_zero Go.wp_at_succ

theorem refProduct_any (x y : Int) (h1 : -2147483648 ≤ x) (h2 : x ≤ 2147483647) (h3 : -2147483648 ≤ y) (h4 : y ≤ 2147483647) (w : World) :
    Calls Try.prog 30 #[.int .i32 x, .int .i32 y] w fun e w' => e = .returned (.int .i32 (Ls.prod x y)) ∧ w' = w := by
  have hm := Fx.mul_bd x y h1 h2 h3 h4
  go_enter Try.func30, Try.ntmps30
  go_wp2_with fail
  refine (refHalf_any _ _ (by omega) (by omega) _).mono ?_
  rintro e w' ⟨rfl, rfl⟩
  rw [show (2 : Int) ^ (Fx.cut 16 0 62).toNat = 65536 from by decide]
  go_wp2_with (go_at_call 31; refine (refNarrow_any _ _).mono ?_; rintro e w' ⟨rfl, rfl⟩)
  go_ret
  exact ⟨rfl, rfl⟩

theorem i64_same {n : Int} (h1 : -9223372036854775808 ≤ n) (h2 : n ≤ 9223372036854775807) : IntKind.i64.wrap n = n := by rw [IntKind.wrap_i64]; omega

theorem gen_snoc_own {w : World} {base : Nat} {v : Value} {k : Nat} {F : Nat → Int} {y : Int} (h : w.ownsRow base 21 1 v (k + 1) ((Ls.gen k F).map (Value.int .i32) ++ [.int .i32 y])) (e : y = F k) :
    w.ownsRow base 21 1 v (k + 1) ((Ls.gen (k + 1) F).map (Value.int .i32)) := by
  rw [Ls.gen_succ, List.map_append]
  subst e
  exact h

theorem own_far {w : World} {base : Nat} {v : Value} {n : Nat} {xs : List Value} {b : Nat} (h : w.ownsRow base 21 1 v n xs) (hb : b < base) : some b ≠ v.ownBlock := by
  intro e
  have := (h.lt b e.symm).1
  omega

set_option maxRecDepth 100000 in
set_option maxHeartbeats 1600000 in
theorem refAdd_any (a b : Option Addr) (c d : Nat) (x y : List Int) (w : World) (ha : Lst .i32 w a x) (hb : Lst .i32 w b y) (hl : x.length = y.length) (hn : x.length ≤ 1024) (hx : Ls.In32 x) (hy : Ls.In32 y) :
    Calls Try.prog 19 #[.slice a x.length c, .slice b y.length d] w fun e w' => ∃ v, e = .returned v ∧
      w'.ownsRow w.heap.size 21 1 v x.length ((Ls.add x y).map (Value.int .i32)) ∧ Below w.heap.size w w' := by
  obtain ⟨i0, hi0, hz0, hz1, hz2⟩ := info_parts Try.infoInt32
  have HA : Hid (Lst .i32 w a x) := ha
  have HB : Hid (Lst .i32 w b y) := hb
  have hlt2 : x.length ≤ y.length := by omega
  clear ha hb hl
  go_enter Try.func19, Try.ntmps19
  go_wp2
  go_loopw [5, 6] (fun v i wr => ∃ k : Nat, k ≤ x.length ∧ i = .int .i64 k ∧ wr.ownsRow w.heap.size 21 1 v k ((Ls.gen k fun i => Ls.sum2 (Ls.nth x i) (Ls.nth y i)).map (Value.int .i32)) ∧ Below w.heap.size w wr) (fun _ i _ => x.length - (intOf i).toNat)
  case atStart => exact ⟨0, Nat.zero_le _, rfl, World.ownsRow_nil _ _ _ _, Below.refl _ _⟩
  case round =>
    obtain ⟨k, hk, rfl, hown, hbel⟩ := hrel
    by_cases hlt : k < x.length
    · obtain ⟨b1, o1, rfl, hc1⟩ := HA.out.get hlt
      obtain ⟨b2, o2, rfl, hc2⟩ := HB.out.get (show k < y.length by omega)
      have hk1 := hc1 k hlt
      have hk2 := hc2 k (by omega)
      have l1 := World.block_lt_of_cell? w _ hk1
      have l2 := World.block_lt_of_cell? w _ hk2
      have hck1 : wr.cell? ⟨b1, o1 + k, none⟩ = some (.int .i32 (Ls.nth x k)) := by rw [hbel.cell (p := ⟨b1, o1 + k, none⟩) l1]; exact hk1
      have hck2 : wr.cell? ⟨b2, o2 + k, none⟩ = some (.int .i32 (Ls.nth y k)) := by rw [hbel.cell (p := ⟨b2, o2 + k, none⟩) l2]; exact hk2
      have f1 := own_far hown l1
      have f2 := own_far hown l2
      have hsz := hbel.size
      clear hc1 hc2 hk1 hk2
      have pa := hx k
      have pb := hy k
      have e0 : (0 : Int) ≤ (k : Int) := by omega
      have e1 : (k : Int) < (x.length : Int) := by omega
      have e2 : (k : Int) < (y.length : Int) := by omega
      have q1 := i64_same (n := Ls.nth x k) (by omega) (by omega)
      have q2 := i64_same (n := Ls.nth y k) (by omega) (by omega)
      have q3 := i64_same (n := Ls.nth x k + Ls.nth y k) (by omega) (by omega)
      go_wp2_with fail
      go_region_held3 (fun w' => w'.cell? ⟨b1, o1 + k, none⟩ = some (.int .i32 (Ls.nth x k)) ∧ w'.cell? ⟨b2, o2 + k, none⟩ = some (.int .i32 (Ls.nth y k)))
        (first
          | go_keep
          | (go_split_ands
             refine ⟨?_, ?_⟩
             · (rw [hgrow.cell_far _ (by simp; omega) f1]; assumption)
             · (rw [hgrow.cell_far _ (by simp; omega) f2]; assumption)))
        (first
          | (go_at_call 31; refine (refNarrow_any _ _).mono ?_; rintro e w' ⟨rfl, rfl⟩)
          | (refine step_append_lies _ (by rfl) _ _ _ (by rfl) w.heap.size 21 i0 _ 1 4 Try.underlying22 hi0 hz0 hz1 hz2 rfl (by omega) _ k _ (by rfl) ((hown.alloc _).drew) ⟨wr.heap.size, 0, none⟩ 1 1 [.int .i32 (Fx.cut (Ls.nth x k + Ls.nth y k) (-8388608) 8388608)] (by rfl) (by rfl) (World.news_of_block (cs := #[.int .i32 (Fx.cut (Ls.nth x k + Ls.nth y k) (-8388608) 8388608)]) (t := 21) (fr := (0, 0)) (heap_alloc_new wr _)) (by simp [Value.oneCell']) (by omega) (by unfold maxLen; omega) (by omega) (by simp; omega) (wr.heap.size + 1) (by simp) ?_; intro gg cap w1 hown1 hgrow hat hlt1))
      have hb2 : Below w.heap.size w w1 := by
        refine (((hbel.alloc (by omega) _).drew).grown hgrow (by simp; omega) (fun j hj => ?_))
        exact (hown.lt j hj).1
      clear hck1 hck2 f1 f2 q1 q2 q3 hgrow hown hbel
      go_wp2
      go_roundw
      case rel => exact ⟨k + 1, by omega, by go_num, gen_snoc_own hown1 rfl, hb2⟩
      case measure => simp [intOf]; omega
    · have e : k = x.length := by omega
      subst e
      go_wp2
      go_ret
      exact ⟨_, rfl, hown, hbel⟩
set_option maxRecDepth 100000 in
set_option maxHeartbeats 1600000 in
theorem refBy_any (a b : Option Addr) (c d : Nat) (x y : List Int) (w : World) (ha : Lst .i32 w a x) (hb : Lst .i32 w b y) (hl : x.length = y.length) (hn : x.length ≤ 1024) (hx : Ls.In32 x) (hy : Ls.In32 y) :
    Calls Try.prog 20 #[.slice a x.length c, .slice b y.length d] w fun e w' => ∃ v, e = .returned v ∧
      w'.ownsRow w.heap.size 21 1 v x.length ((Ls.by x y).map (Value.int .i32)) ∧ Below w.heap.size w w' := by
  obtain ⟨i0, hi0, hz0, hz1, hz2⟩ := info_parts Try.infoInt32
  have HA : Hid (Lst .i32 w a x) := ha
  have HB : Hid (Lst .i32 w b y) := hb
  have hlt2 : x.length ≤ y.length := by omega
  clear ha hb hl
  go_enter Try.func20, Try.ntmps20
  go_wp2
  go_loopw [5, 6] (fun v i wr => ∃ k : Nat, k ≤ x.length ∧ i = .int .i64 k ∧ wr.ownsRow w.heap.size 21 1 v k ((Ls.gen k fun i => Ls.prod (Ls.nth x i) (Ls.nth y i)).map (Value.int .i32)) ∧ Below w.heap.size w wr) (fun _ i _ => x.length - (intOf i).toNat)
  case atStart => exact ⟨0, Nat.zero_le _, rfl, World.ownsRow_nil _ _ _ _, Below.refl _ _⟩
  case round =>
    obtain ⟨k, hk, rfl, hown, hbel⟩ := hrel
    by_cases hlt : k < x.length
    · obtain ⟨b1, o1, rfl, hc1⟩ := HA.out.get hlt
      obtain ⟨b2, o2, rfl, hc2⟩ := HB.out.get (show k < y.length by omega)
      have hk1 := hc1 k hlt
      have hk2 := hc2 k (by omega)
      have l1 := World.block_lt_of_cell? w _ hk1
      have l2 := World.block_lt_of_cell? w _ hk2
      have hck1 : wr.cell? ⟨b1, o1 + k, none⟩ = some (.int .i32 (Ls.nth x k)) := by rw [hbel.cell (p := ⟨b1, o1 + k, none⟩) l1]; exact hk1
      have hck2 : wr.cell? ⟨b2, o2 + k, none⟩ = some (.int .i32 (Ls.nth y k)) := by rw [hbel.cell (p := ⟨b2, o2 + k, none⟩) l2]; exact hk2
      have f1 := own_far hown l1
      have f2 := own_far hown l2
      have hsz := hbel.size
      clear hc1 hc2 hk1 hk2
      have pa := hx k
      have pb := hy k
      have e0 : (0 : Int) ≤ (k : Int) := by omega
      have e1 : (k : Int) < (x.length : Int) := by omega
      have e2 : (k : Int) < (y.length : Int) := by omega
      go_wp2_with fail
      go_region_held3 (fun w' => w'.cell? ⟨b1, o1 + k, none⟩ = some (.int .i32 (Ls.nth x k)) ∧ w'.cell? ⟨b2, o2 + k, none⟩ = some (.int .i32 (Ls.nth y k)))
        (first
          | go_keep
          | (go_split_ands
             refine ⟨?_, ?_⟩
             · (rw [hgrow.cell_far _ (by simp; omega) f1]; assumption)
             · (rw [hgrow.cell_far _ (by simp; omega) f2]; assumption)))
        (first
          | (go_at_call 30; refine (refProduct_any _ _ pa.1 pa.2 pb.1 pb.2 _).mono ?_; rintro e w' ⟨rfl, rfl⟩)
          | (refine step_append_lies _ (by rfl) _ _ _ (by rfl) w.heap.size 21 i0 _ 1 4 Try.underlying22 hi0 hz0 hz1 hz2 rfl (by omega) _ k _ (by rfl) ((hown.alloc _).drew) ⟨wr.heap.size, 0, none⟩ 1 1 [.int .i32 (Ls.prod (Ls.nth x k) (Ls.nth y k))] (by rfl) (by rfl) (World.news_of_block (cs := #[.int .i32 (Ls.prod (Ls.nth x k) (Ls.nth y k))]) (t := 21) (fr := (0, 0)) (heap_alloc_new wr _)) (by simp [Value.oneCell']) (by omega) (by unfold maxLen; omega) (by omega) (by simp; omega) (wr.heap.size + 1) (by simp) ?_; intro gg cap w1 hown1 hgrow hat hlt1))
      have hb2 : Below w.heap.size w w1 := by
        refine (((hbel.alloc (by omega) _).drew).grown hgrow (by simp; omega) (fun j hj => ?_))
        exact (hown.lt j hj).1
      clear hck1 hck2 f1 f2 hgrow hown hbel
      go_wp2
      go_roundw
      case rel => exact ⟨k + 1, by omega, by go_num, gen_snoc_own hown1 rfl, hb2⟩
      case measure => simp [intOf]; omega
    · have e : k = x.length := by omega
      subst e
      go_wp2
      go_ret
      exact ⟨_, rfl, hown, hbel⟩
set_option maxRecDepth 100000 in
set_option maxHeartbeats 1600000 in
theorem refTimes_any (a : Option Addr) (c : Nat) (z : Int) (x : List Int) (w : World) (ha : Lst .i32 w a x) (hn : x.length ≤ 1024) (hx : Ls.In32 x) (z1 : -2147483648 ≤ z) (z2 : z ≤ 2147483647) :
    Calls Try.prog 18 #[.slice a x.length c, .int .i32 z] w fun e w' => ∃ v, e = .returned v ∧
      w'.ownsRow w.heap.size 21 1 v x.length ((Ls.times x z).map (Value.int .i32)) ∧ Below w.heap.size w w' := by
  obtain ⟨i0, hi0, hz0, hz1, hz2⟩ := info_parts Try.infoInt32
  have HA : Hid (Lst .i32 w a x) := ha
  clear ha
  go_enter Try.func18, Try.ntmps18
  go_wp2
  go_loopw [5, 6] (fun v i wr => ∃ k : Nat, k ≤ x.length ∧ i = .int .i64 k ∧ wr.ownsRow w.heap.size 21 1 v k ((Ls.gen k fun i => Ls.prod (Ls.nth x i) z).map (Value.int .i32)) ∧ Below w.heap.size w wr) (fun _ i _ => x.length - (intOf i).toNat)
  case atStart => exact ⟨0, Nat.zero_le _, rfl, World.ownsRow_nil _ _ _ _, Below.refl _ _⟩
  case round =>
    obtain ⟨k, hk, rfl, hown, hbel⟩ := hrel
    by_cases hlt : k < x.length
    · obtain ⟨b1, o1, rfl, hc1⟩ := HA.out.get hlt
      have hk1 := hc1 k hlt
      have l1 := World.block_lt_of_cell? w _ hk1
      have hck1 : wr.cell? ⟨b1, o1 + k, none⟩ = some (.int .i32 (Ls.nth x k)) := by rw [hbel.cell (p := ⟨b1, o1 + k, none⟩) l1]; exact hk1
      have f1 := own_far hown l1
      have hsz := hbel.size
      clear hc1 hk1
      have pa := hx k
      have e0 : (0 : Int) ≤ (k : Int) := by omega
      have e1 : (k : Int) < (x.length : Int) := by omega
      go_wp2_with (first
        | (go_at_call 30; refine (refProduct_any _ _ pa.1 pa.2 z1 z2 _).mono ?_; rintro e w' ⟨rfl, rfl⟩)
        | (at_builtin; refine wpList_append_lies _ rfl _ _ _ rfl w.heap.size 21 i0 _ 1 4 Try.underlying22 hi0 hz0 hz1 hz2 rfl (by omega) _ k _ (by rfl) (hown.alloc _) ⟨w'.heap.size, 0, none⟩ 1 1 [.int .i32 (Ls.prod (Ls.nth x k) z)] (by rfl) (by rfl) (World.news_of_block (cs := #[.int .i32 (Ls.prod (Ls.nth x k) z)]) (t := 21) (fr := (0, 0)) (heap_alloc_new w' _)) (by simp [Value.oneCell']) (by omega) (by unfold maxLen; omega) (by omega) (by simp; omega) (w'.heap.size + 1) (by simp) ?_; intro gg cap w1 hown1 hgrow hat hlt1; have hb2 : Below w.heap.size w w1 := (hbel.alloc (by omega) _).grown hgrow (by simp; omega) (fun j hj => (hown.lt j hj).1); clear hgrow hown hbel hck1 f1))
      go_roundw
      case rel => exact ⟨k + 1, by omega, by go_num, gen_snoc_own hown1 rfl, hb2⟩
      case measure => simp [intOf]; omega
    · have e : k = x.length := by omega
      subst e
      go_wp2
      go_ret
      exact ⟨_, rfl, hown, hbel⟩
end Go.Proofs.Ytjeekibddmdgmaa
