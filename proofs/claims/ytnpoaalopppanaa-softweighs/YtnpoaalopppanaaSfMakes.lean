/- Contracts of package soft, where a new list is made. -/
import Derived.Test.YtnpoaalopppanaaSfCalls
import Derived.Test.YtnpoaalopppanaaDtRefs
namespace Go.Proofs.Ytnpoaalopppanaa
set_option linter.unusedVariables false
open Go.RowKit

theorem Try.infoInt : (Try.prog.info? 3).map (fun i => (i.zero, i.size, i.bytes)) = some (some (.int .i64 0), 1, 8) := by kernel_rfl
theorem Try.infoInt64 : (Try.prog.info? 2).map (fun i => (i.zero, i.size, i.bytes)) = some (some (.int .i64 0), 1, 8) := by kernel_rfl

/-- The first k places made, the others 0. -/
def part64 (F : Nat → Int) (k j : Nat) : Value := .int .i64 (if j < k then F j else 0)
theorem part64_lt {F : Nat → Int} {k j : Nat} (h : j < k) : part64 F k j = .int .i64 (F j) := by unfold part64; rw [if_pos h]
theorem part64_set (F : Nat → Int) (k j : Nat) : (if j = k then Value.int .i64 (F k) else part64 F k j) = part64 F (k + 1) j := by
  unfold part64
  by_cases e : j = k
  · subst e; rw [if_pos rfl, if_pos (by omega)]
  · rw [if_neg e]
    by_cases h : j < k
    · rw [if_pos h, if_pos (by omega)]
    · rw [if_neg h, if_neg (by omega)]

theorem weights_many (a : Option Addr) (m c : Nat) (w : World) (h : 1024 < m) :
    Calls Try.prog 9 #[.slice a m c] w fun e w' => e = .returned (.tuple #[.slice none 0 0, .int .i64 12]) ∧ w' = w := by
  go_enter Try.func9, Try.ntmps9
  go_wp2
  go_ret2
  exact ⟨rfl, rfl⟩

theorem weights_none (a : Option Addr) (c : Nat) (w : World) :
    Calls Try.prog 9 #[.slice a 0 c] w fun e w' => e = .returned (.tuple #[.slice none 0 0, .int .i64 14]) ∧ w' = w := by
  go_enter Try.func9, Try.ntmps9
  go_wp2_with (go_at_call 19; refine (top_none _ _ _).mono ?_; rintro e w' ⟨rfl, rfl⟩)
  go_ret2
  exact ⟨rfl, rfl⟩

theorem weights_ok (a : Option Addr) (c : Nat) (x : List Int) (w : World) (ha : Lst .i32 w a x) (hp : 0 < x.length) (hl : x.length ≤ 1024) (hx : Ls.In32 x) :
    Calls Try.prog 9 #[.slice a x.length c] w fun e w' => ∃ g, e = .returned (.tuple #[.slice (some ⟨g, 0, none⟩) x.length x.length, .int .i64 0]) ∧ w.heap.size ≤ g ∧
      Lst .i64 w' (some ⟨g, 0, none⟩) (Tb.weights x) ∧ Below w.heap.size w w' := by
  have HA : Hid (Lst .i32 w a x) := ha
  have HX : Hid (Ls.In32 x) := hx
  clear ha hx
  have hmk := run_make_row' (P := Try.prog) 24 3 (.int .i64 0) 8 Try.underlying24 Try.infoInt rfl .i64 .i64 x.length (by omega) (by omega)
  have pt := HX.out (Ls.top x)
  go_enter Try.func9, Try.ntmps9
  go_wp2_with fail
  refine (top_any _ _ _ _ HA.out hp (by omega)).mono ?_
  rintro e w' ⟨rfl, n, rfl⟩
  obtain ⟨z, ez⟩ : ∃ z, Ls.nth x (Ls.top x) = z := ⟨_, rfl⟩
  have EZ : Hid (Ls.nth x (Ls.top x) = z) := ez
  rw [ez] at pt
  rw [ez]
  clear ez
  go_wp2
  clear hmk
  go_loopw [27] (fun i wr => ∃ k : Nat, k ≤ x.length ∧ i = .int .i64 k ∧ wr.rowIs w.heap.size 3 x.length (part64 (Tb.wt x) k) ∧ Below w.heap.size w wr) (fun i _ => x.length - (intOf i).toNat)
  case atStart => exact ⟨0, Nat.zero_le _, rfl, (World.rowIs_made (w.drewN n) (.int .i64 0) x.length 3).congr (fun j hj => by simp [part64]), (below_drewN (Below.refl _ _) n).alloc (by simp) _⟩
  case round =>
    obtain ⟨k, hk, rfl, hrow, hbel⟩ := hrel
    by_cases hlt : k < x.length
    · obtain ⟨b1, o1, rfl, hc1⟩ := (HA.out.keep hbel).get hlt
      have hck1 := hc1 k hlt
      have hcg := hrow.cell hlt
      have hfg := hrow.frozen k
      have HR : Hid (wr.rowIs w.heap.size 3 x.length (part64 (Tb.wt x) k)) := hrow
      have HB : Hid (Below w.heap.size w wr) := hbel
      clear hc1 hrow hbel
      have hxk := HX.out k
      have hcut := Ls.cut_bd (Ls.nth x k - z) (-2147483648) 2147483647 (by omega)
      go_wp2_with (first
        | (go_at_call 21; refine (sub_any _ _ hxk.1 hxk.2 pt.1 pt.2 _).mono ?_; rintro e w' ⟨rfl, rfl⟩)
        | (go_at_call 20; refine (exp_any _ hcut.1 hcut.2 _).mono ?_; rintro e w' ⟨rfl, rfl⟩))
      go_roundw
      case rel =>
        refine ⟨k + 1, by omega, by go_num, (HR.out.set k _).congr (fun j hj => ?_), HB.out.setCell (by simp) _⟩
        rw [← EZ.out]
        exact part64_set (Tb.wt x) k j
      case measure => simp [intOf]; omega
    · go_wp2
      go_ret2
      have e : k = x.length := by omega
      subst e
      refine ⟨w.heap.size, rfl, Nat.le_refl _, ?_, hbel⟩
      refine lst_of_row (f := part64 (Tb.wt x) x.length) (t := 3) (by rw [Tb.weights_length]; exact hrow) (fun i hi => ?_)
      rw [Tb.weights_length] at hi
      rw [part64_lt hi, Tb.nth_weights hi]

theorem weights_okm (a : Option Addr) (m c : Nat) (x : List Int) (w : World) (hm : m = x.length) (ha : Lst .i32 w a x) (hp : 0 < x.length) (hl : x.length ≤ 1024) (hx : Ls.In32 x) :
    Calls Try.prog 9 #[.slice a m c] w fun e w' => ∃ g, e = .returned (.tuple #[.slice (some ⟨g, 0, none⟩) m m, .int .i64 0]) ∧ w.heap.size ≤ g ∧
      Lst .i64 w' (some ⟨g, 0, none⟩) (Tb.weights x) ∧ Below w.heap.size w w' := by
  subst hm
  exact weights_ok a c x w ha hp hl hx

/-- The lists before k are summed up, and of list k the places before i. -/
def mid (x : List Int) (ls : List (List Int)) (k i j : Nat) : Value := .int .i64 (if j < i then Tb.mixN x ls j (k + 1) else Tb.mixN x ls j k)
theorem mid_at (x : List Int) (ls : List (List Int)) (k i : Nat) : mid x ls k i i = .int .i64 (Tb.mixN x ls i k) := by unfold mid; rw [if_neg (by omega)]
theorem mid_zero (x : List Int) (ls : List (List Int)) (k j : Nat) : mid x ls k 0 j = .int .i64 (Tb.mixN x ls j k) := by unfold mid; rw [if_neg (by omega)]
theorem mid_all (x : List Int) (ls : List (List Int)) {k i j : Nat} (h : j < i) : mid x ls k i j = .int .i64 (Tb.mixN x ls j (k + 1)) := by unfold mid; rw [if_pos h]
theorem mid_set (x : List Int) (ls : List (List Int)) (k i j : Nat) : (if j = i then Value.int .i64 (Tb.mixN x ls i k + Ls.nth x k * Ls.nth (Tb.row ls k) i) else mid x ls k i j) = mid x ls k (i + 1) j := by
  unfold mid
  by_cases e : j = i
  · subst e; rw [if_pos rfl, if_pos (by omega)]; rfl
  · rw [if_neg e]
    by_cases h : j < i
    · rw [if_pos h, if_pos (by omega)]
    · rw [if_neg h, if_neg (by omega)]

set_option maxHeartbeats 1600000 in
theorem weighed_ok (a b : Option Addr) (c d : Nat) (x : List Int) (ls : List (List Int)) (w : World) (ha : Lst .i64 w a x) (hb : Tbl w b ls) (hp : 0 < ls.length) (hl : ls.length ≤ 1024) (hxl : x.length = ls.length)
    (he : Tb.even ls = true) (hw : Tb.Wts x) (hm : Tb.Milds ls) :
    Calls Try.prog 27 #[.slice a x.length c, .slice b ls.length d] w fun e w' => ∃ g, e = .returned (.slice (some ⟨g, 0, none⟩) (Tb.row ls 0).length (Tb.row ls 0).length) ∧ w.heap.size ≤ g ∧
      Lst .i64 w' (some ⟨g, 0, none⟩) (Ls.gen (Tb.row ls 0).length (Tb.mix x ls)) ∧ Below w.heap.size w w' := by
  have HA : Hid (Lst .i64 w a x) := ha
  have HT : Hid (Tbl w b ls) := hb
  have HE : Hid (Tb.even ls = true) := he
  have HW : Hid (Tb.Wts x) := hw
  have HM : Hid (Tb.Milds ls) := hm
  have hx1 : x.length ≤ ls.length := by omega
  have hx2 : ls.length ≤ x.length := by omega
  clear ha hb hxl he hw hm
  obtain ⟨bt, ot, rfl, hct⟩ := HT.out.get hp
  obtain ⟨A0, C0, hck0, _, _⟩ := hct 0 hp
  have hck0 : w.cell? ⟨bt, ot, none⟩ = some (.slice A0 (Tb.row ls 0).length C0) := by simpa using hck0
  clear hct
  have hr0 := Ls.mild_len (HM.out 0)
  have hmk := run_make_row' (P := Try.prog) 50 2 (.int .i64 0) 8 Try.underlying50 Try.infoInt64 rfl .i64 .i64 (Tb.row ls 0).length (by omega) (by omega)
  go_enter Try.func27, Try.ntmps27
  go_wp2
  clear hmk
  go_loopw [17] (fun i wr => ∃ k : Nat, k ≤ ls.length ∧ i = .int .i64 k ∧ wr.rowIs w.heap.size 2 (Tb.row ls 0).length (mid x ls k 0) ∧ Below w.heap.size w wr) (fun i _ => ls.length - (intOf i).toNat)
  case atStart => exact ⟨0, Nat.zero_le _, rfl, (World.rowIs_made w (.int .i64 0) (Tb.row ls 0).length 2).congr (fun j hj => by rw [mid_zero]; rfl), (Below.refl _ _).alloc (Nat.le_refl _) _⟩
  case round =>
    obtain ⟨k, hk, rfl, hrow, hbel⟩ := hrel
    by_cases hlt : k < ls.length
    · obtain ⟨bt', ot', et, hct⟩ := (HT.out.keep hbel).get hlt
      simp at et
      obtain ⟨rfl, rfl⟩ := et
      obtain ⟨A, C, hckk, hLk, _⟩ := hct k hlt
      have HL : Hid (Lst .i32 w A (Tb.row ls k)) := by
        obtain ⟨bq, oq, eq, hcq⟩ := HT.out.get hlt
        simp at eq
        obtain ⟨rfl, rfl⟩ := eq
        obtain ⟨A2, C2, hc2, hL2, _⟩ := hcq k hlt
        have e2 := hbel.cell (p := ⟨bt, ot + k, none⟩) (World.block_lt_of_cell? w _ hc2)
        rw [hckk, hc2] at e2
        simp at e2
        obtain ⟨rfl, _⟩ := e2
        exact hL2
      have hlen := Tb.even_at HE.out hlt
      have hl1 : (Tb.row ls k).length ≤ (Tb.row ls 0).length := by omega
      have hl2 : (Tb.row ls 0).length ≤ (Tb.row ls k).length := by omega
      clear hct hlen hLk
      have HR : Hid (wr.rowIs w.heap.size 2 (Tb.row ls 0).length (mid x ls k 0)) := hrow
      have HB : Hid (Below w.heap.size w wr) := hbel
      clear hrow hbel
      go_wp2
      clear hckk
      go_loopw [24] (fun i wr => ∃ q : Nat, q ≤ (Tb.row ls k).length ∧ i = .int .i64 q ∧ wr.rowIs w.heap.size 2 (Tb.row ls 0).length (mid x ls k q) ∧ Below w.heap.size w wr) (fun i _ => (Tb.row ls k).length - (intOf i).toNat)
      case atStart => exact ⟨0, Nat.zero_le _, rfl, HR.out, HB.out⟩
      case round =>
        clear HR HB
        obtain ⟨q, hq, rfl, hrow, hbel⟩ := hrel
        by_cases hql : q < (Tb.row ls k).length
        · obtain ⟨b1, o1, rfl, hc1⟩ := (HA.out.keep hbel).get (show k < x.length by omega)
          obtain ⟨b2, o2, rfl, hc2⟩ := (HL.out.keep hbel).get hql
          have hq0 : q < (Tb.row ls 0).length := by omega
          have hck1 := hc1 k (by omega)
          have hck2 := hc2 q hql
          have hcg := hrow.cell hq0
          rw [mid_at] at hcg
          have hfg := hrow.frozen q
          have HR : Hid (wr.rowIs w.heap.size 2 (Tb.row ls 0).length (mid x ls k q)) := hrow
          have HB : Hid (Below w.heap.size w wr) := hbel
          clear hc1 hc2 hrow hbel
          have st := Tb.mixN_step (i := q) HW.out HM.out (show k < 1024 by omega)
          have e0 : (0 : Int) ≤ (q : Int) := by omega
          have e1 : (q : Int) < ((Tb.row ls 0).length : Int) := by omega
          have e2 : (0 : Int) ≤ (k : Int) := by omega
          have e3 : (k : Int) < (x.length : Int) := by omega
          go_wp2
          go_region
          all_goals go_wp2
          all_goals go_roundw
          case rel => exact ⟨q + 1, by omega, by go_num, (HR.out.set q _).drew.congr (fun j hj => mid_set x ls k q j), (HB.out.setCell (by simp) _).drew⟩
          case measure => simp [intOf]; omega
        · go_wp2
          go_roundw
          case rel => exact ⟨k + 1, by omega, by go_num, hrow.congr (fun j hj => by rw [mid_all _ _ (by omega), mid_zero]), hbel⟩
          case measure => simp [intOf]; omega
    · go_wp2
      go_ret
      have e : k = ls.length := by omega
      subst e
      refine ⟨w.heap.size, rfl, Nat.le_refl _, ?_, hbel⟩
      refine lst_of_row (f := mid x ls ls.length 0) (t := 2) (by rw [Ls.gen_length]; exact hrow) (fun i hi => ?_)
      rw [Ls.gen_length] at hi
      rw [mid_zero, Ls.nth_gen hi]
      rfl
end Go.Proofs.Ytnpoaalopppanaa
