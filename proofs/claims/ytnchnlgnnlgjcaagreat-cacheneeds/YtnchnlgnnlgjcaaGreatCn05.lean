/- Layer 13: DtMakes, GpMakes, GpTests, GpRefs, GpBack, GpRefOf, PgWorld, PgRefs, PgLists, PgNew. -/
import Derived.Test.YtnchnlgnnlgjcaaGreatCn04
import Derived.Deep.RegionHeld3
import Derived.Deep.AppendLies
import Derived.Deep.DrawnRows
import Derived.Outline
import Derived.Test.YtnchnlgnnlgjcaaGreatCn03
namespace Go.Proofs.YtnchnlgnnlgjcaaGreat
set_option linter.unusedVariables false
open Go.RowKit
theorem Tryz.infoInt32 : (Tryz.prog.info? 21).map (fun i => (i.zero, i.size, i.bytes)) = some (some (.int .i32 0), 1, 4) := by kernel_rfl
/-- The first k places made, the others 0. -/
def part (F : Nat → Int) (k j : Nat) : Value := .int .i32 (if j < k then F j else 0)
theorem part_lt {F : Nat → Int} {k j : Nat} (h : j < k) : part F k j = .int .i32 (F j) := by unfold part; rw [if_pos h]
theorem part_set (F : Nat → Int) (k j : Nat) : (if j = k then Value.int .i32 (F k) else part F k j) = part F (k + 1) j := by
  unfold part
  by_cases e : j = k
  · subst e; rw [if_pos rfl, if_pos (by omega)]
  · rw [if_neg e]
    by_cases h : j < k
    · rw [if_pos h, if_pos (by omega)]
    · rw [if_neg h, if_neg (by omega)]
theorem box_below (w : World) (o : Obj) : Below w.heap.size w (w.alloc o) := (Below.refl _ _).alloc (Nat.le_refl _) _
end Go.Proofs.YtnchnlgnnlgjcaaGreat
namespace Go.Proofs.YtnchnlgnnlgjcaaGreat
set_option linter.unusedVariables false
open Go.RowKit
/-- The first k places made, the others 0. -/
def partG (q : IntKind) (F : Nat → Int) (k j : Nat) : Value := .int q (if j < k then F j else 0)
theorem partG_lt {q : IntKind} {F : Nat → Int} {k j : Nat} (h : j < k) : partG q F k j = .int q (F j) := by unfold partG; rw [if_pos h]
theorem partG_set (q : IntKind) (F : Nat → Int) (k j : Nat) : (if j = k then Value.int q (F k) else partG q F k j) = partG q F (k + 1) j := by
  unfold partG
  by_cases e : j = k
  · subst e; rw [if_pos rfl, if_pos (by omega)]
  · rw [if_neg e]
    by_cases h : j < k
    · rw [if_pos h, if_pos (by omega)]
    · rw [if_neg h, if_neg (by omega)]
theorem Tryz.infoIntG : (Tryz.prog.info? 3).map (fun i => (i.zero, i.size, i.bytes)) = some (some (.int .i64 0), 1, 8) := by kernel_rfl
theorem mul_bd {c sc : Int} (h1 : 0 ≤ c) (h2 : c ≤ 255) (h3 : 0 ≤ sc) (h4 : sc ≤ 4294967295) : 0 ≤ c * sc ∧ c * sc ≤ 1095216660225 := by
  have a := Int.mul_nonneg h1 h3
  have b : c * sc ≤ 255 * sc := Int.mul_le_mul_of_nonneg_right h2 h3
  omega
theorem one_any (z sc c : Int) (a : Option Addr) (n cp : Nat) (hz1 : -2147483648 ≤ z) (hz2 : z ≤ 2147483647) (hs1 : 0 ≤ sc) (hs2 : sc ≤ 4294967295) (hc1 : 0 ≤ c) (hc2 : c ≤ 255) (w : World) :
    Calls Tryz.prog 143 #[.agg #[.int .i32 z, .int .u32 sc, .slice a n cp], .int .i64 c] w fun e w' => e = .returned (.int .i32 (Gp.mean z sc c)) ∧ Below w.heap.size w w' := by
  have hm := mul_bd hc1 hc2 hs1 hs2
  go_enter Tryz.func143, Tryz.ntmps143
  go_wp2_with (go_at_call 161; refine (wide_any _ _).mono ?_; rintro e w' ⟨rfl, rfl⟩)
  go_ret
  exact ⟨rfl, box_below _ _⟩
end Go.Proofs.YtnchnlgnnlgjcaaGreat
namespace Go.Proofs.YtnchnlgnnlgjcaaGreat
set_option linter.unusedVariables false
open Go.RowKit
set_option maxHeartbeats 800000 in
theorem right_any (z sc : Int) (a : Option Addr) (cp b s : Nat) (c : List Int) (e : Int) (w : World) (ha : Lst .i64 w a c) (hst : Gp.St b s) (h0 : 0 < c.length) (hl : c.length ≤ 256) (hs1 : 0 ≤ sc) (hs2 : sc ≤ 4294967295) (he : Gp.right s sc c = e) :
    Calls Tryz.prog 153 #[.agg #[.int .i32 z, .int .u32 sc, .slice a c.length cp], .int .i64 b] w fun r w' => r = .returned (.int .i64 e) ∧ Below w.heap.size w w' := by
  have HM : Hid (Gp.many c.length (b : Int) = 0) := Gp.many_ok hst h0 hl
  have HN : Hid (c.length ≤ maxLen) := by show c.length ≤ maxLen; unfold maxLen; omega
  have HA : Hid (Lst .i64 w a c) := ha
  have HS : Hid (Gp.St b s) := hst
  have HE : Hid (Gp.right s sc c = e) := he
  have bs := hst.bd
  clear ha hst he
  by_cases hbig : 1431655765 < sc
  · have ee : e = 21 := by rw [← HE.out, Gp.right_big hbig]
    subst ee
    go_enter Tryz.func153, Tryz.ntmps153
    go_wp2_with (go_at_call 155; refine (countG_any _ _ 0 HM.out HN.out _).mono ?_; rintro r w' ⟨rfl, rfl⟩)
    go_ret
    exact ⟨rfl, box_below _ _⟩
  · by_cases hnil : sc = 0 ∧ Gp.nils c = false
    · obtain ⟨rfl, hn⟩ := hnil
      have ee : e = 21 := by rw [← HE.out, Gp.right_nil rfl hn]
      subst ee
      have HQ : Hid (Gp.nils c = !true) := hn
      clear hn
      go_enter Tryz.func153, Tryz.ntmps153
      go_wp2_with (first
        | (go_at_call 155; refine (countG_any _ _ 0 HM.out HN.out _).mono ?_; rintro r w' ⟨rfl, rfl⟩)
        | (go_at_call 166; refine (contains_any _ _ c _ (HA.out.keep (box_below _ _)) HN.out true HQ.out).mono ?_; rintro r w' ⟨rfl, rfl⟩))
      go_ret
      exact ⟨rfl, box_below _ _⟩
    · have HQ : Hid (sc = 0 → Gp.nils c = true) := by
        show sc = 0 → Gp.nils c = true
        intro e0
        cases hn : Gp.nils c
        · exact absurd ⟨e0, hn⟩ hnil
        · rfl
      clear hnil
      have hlast : ∀ q, (sc == 0) = q → Calls Tryz.prog 153 #[.agg #[.int .i32 z, .int .u32 sc, .slice a c.length cp], .int .i64 b] w fun r w' => r = .returned (.int .i64 e) ∧ Below w.heap.size w w' := by
        intro q hq
        cases q
        all_goals
          go_enter Tryz.func153, Tryz.ntmps153
          go_wp2_with (first
            | (go_at_call 155; refine (countG_any _ _ 0 HM.out HN.out _).mono ?_; rintro r w' ⟨rfl, rfl⟩)
            | (go_at_call 166; refine (contains_any _ _ c _ (HA.out.keep (box_below _ _)) HN.out false (HQ.out (by simpa using hq))).mono ?_; rintro r w' ⟨rfl, rfl⟩))
          go_loop [32] (fun i => ∃ k : Nat, k ≤ c.length ∧ i = .int .i64 k ∧ ∀ j, j < k → 0 ≤ Ls.nth c j ∧ Ls.nth c j ≤ (s : Int)) (fun i => c.length - (intOf i).toNat)
          case atStart => exact ⟨0, Nat.zero_le _, rfl, fun j hj => by omega⟩
          case round =>
            obtain ⟨k, hk, rfl, hall⟩ := hrel
            have HL : Hid (∀ j, j < k → 0 ≤ Ls.nth c j ∧ Ls.nth c j ≤ (s : Int)) := hall
            clear hall
            by_cases hlt : k < c.length
            · obtain ⟨b1, o1, rfl, hc1⟩ := (HA.out.keep (box_below w (.cells #[.int .i32 z, .int .u32 sc, .slice a c.length cp] 177))).get hlt
              have hck := hc1 k hlt
              clear hc1
              by_cases c1 : Ls.nth c k < 0
              · go_wp2_with (go_at_call 168; refine (greatest_any _ _ HS.out _).mono ?_; rintro r w' ⟨rfl, rfl⟩)
                go_ret
                refine ⟨ret_num ?_, box_below _ _⟩
                rw [← HE.out, Gp.right_no (show ¬ 1431655765 < sc by omega) HQ.out (Gp.fits_no (s := (s : Int)) hlt (by omega))]
              · by_cases c2 : (s : Int) < Ls.nth c k
                · go_wp2_with (go_at_call 168; refine (greatest_any _ _ HS.out _).mono ?_; rintro r w' ⟨rfl, rfl⟩)
                  go_ret
                  refine ⟨ret_num ?_, box_below _ _⟩
                  rw [← HE.out, Gp.right_no (show ¬ 1431655765 < sc by omega) HQ.out (Gp.fits_no (s := (s : Int)) hlt (by omega))]
                · go_wp2_with (go_at_call 168; refine (greatest_any _ _ HS.out _).mono ?_; rintro r w' ⟨rfl, rfl⟩)
                  go_round
                  case rel =>
                    refine ⟨k + 1, by omega, by go_num, fun j hj => ?_⟩
                    by_cases e : j = k
                    · subst e; omega
                    · exact HL.out j (by omega)
                  case measure => simp [intOf]; omega
            · go_wp2
              go_ret
              refine ⟨ret_num ?_, box_below _ _⟩
              rw [← HE.out, Gp.right_yes (show ¬ 1431655765 < sc by omega) HQ.out (Gp.fits_yes (fun i hi => HL.out i (by omega)))]
      exact hlast _ rfl
theorem two_boxes (w : World) (o p : Obj) : Below w.heap.size w ((w.alloc o).alloc p) := ((Below.refl _ _).alloc (Nat.le_refl _) _).alloc (by simp) _
end Go.Proofs.YtnchnlgnnlgjcaaGreat
namespace Go.Proofs.YtnchnlgnnlgjcaaGreat
set_option linter.unusedVariables false
open Go.RowKit
attribute [local go_sem ↓] Go.wp_at_zero Go.wp_at_succ
theorem own_below {w w' : World} {base : Nat} {t : TypeId} {v : Value} {n : Nat} {xs : List Value} (h : w.ownsRow base t 1 v n xs) (hb : Below w.heap.size w w') : w'.ownsRow base t 1 v n xs := by
  have hlt := h.lt
  refine ⟨h.1, ?_⟩
  rcases h.2 with h0 | ⟨g, cap, cur, e, h1, h2, h3⟩
  · exact Or.inl h0
  · refine Or.inr ⟨g, cap, cur, e, h1, ?_, h3⟩
    subst e
    rw [hb.block g (hlt g rfl).2]
    exact h2
end Go.Proofs.YtnchnlgnnlgjcaaGreat
namespace Go.Proofs.YtnchnlgnnlgjcaaGreat
set_option linter.unusedVariables false
open Go.RowKit
attribute [local go_sem ↓] Go.wp_at_zero Go.wp_at_succ
/-- A row of the call's own stands where its block does. -/
theorem own_at {w w' : World} {base : Nat} {t : TypeId} {v : Value} {n : Nat} {xs : List Value} (h : w.ownsRow base t 1 v n xs) (hb : ∀ g, v.ownBlock = some g → w'.heap[g]? = w.heap[g]?) : w'.ownsRow base t 1 v n xs := by
  refine ⟨h.1, ?_⟩
  rcases h.2 with h0 | ⟨g, cap, cur, e, h1, h2, h3⟩
  · exact Or.inl h0
  · refine Or.inr ⟨g, cap, cur, e, h1, ?_, h3⟩
    subst e
    rw [hb g rfl]
    exact h2
theorem own_slice {w : World} {base : Nat} {t : TypeId} {v : Value} {n : Nat} {xs : List Value} (h : w.ownsRow base t 1 v n xs) : ∃ a c, v = .slice a n c := by
  rcases h.2 with ⟨e, hn⟩ | ⟨g, cap, cur, e, _⟩
  · exact ⟨none, 0, by rw [e, hn]⟩
  · exact ⟨_, _, e⟩
end Go.Proofs.YtnchnlgnnlgjcaaGreat
namespace Go.Proofs.YtnchnlgnnlgjcaaGreat
set_option linter.unusedVariables false
open Go.RowKit
/-- Group i of the slice that begins at ⟨b, o⟩. -/
def GpAt (w : World) (b o i : Nat) (g : Int × Int × List Int) (a : Option Addr) (c : Nat) : Prop :=
  w.cell? ⟨b, o + i * 3, none⟩ = some (.int .i32 (Pg.gz g)) ∧ w.cell? ⟨b, o + i * 3 + 1, none⟩ = some (.int .u32 (Pg.gs g)) ∧ w.cell? ⟨b, o + i * 3 + 2, none⟩ = some (.slice a (Pg.gc g).length c) ∧ Lst .i64 w a (Pg.gc g)
/-- THE SLICE THAT BEGINS AT a READS AS THE GROUPS l. -/
def Gps (w : World) (a : Option Addr) (l : List (Int × Int × List Int)) : Prop :=
  ∀ i, i < l.length → ∃ b o a' c', a = some ⟨b, o, none⟩ ∧ GpAt w b o i (Pg.nth l i) a' c'
theorem GpAt.keep {w w' : World} {b o i : Nat} {g : Int × Int × List Int} {a : Option Addr} {c : Nat} (h : GpAt w b o i g a c) (hb : Below w.heap.size w w') : GpAt w' b o i g a c := by
  obtain ⟨h0, h1, h2, h3⟩ := h
  refine ⟨?_, ?_, ?_, h3.keep hb⟩
  · rw [hb.cell (p := ⟨b, o + i * 3, none⟩) (World.block_lt_of_cell? w _ h0)]; exact h0
  · rw [hb.cell (p := ⟨b, o + i * 3 + 1, none⟩) (World.block_lt_of_cell? w _ h1)]; exact h1
  · rw [hb.cell (p := ⟨b, o + i * 3 + 2, none⟩) (World.block_lt_of_cell? w _ h2)]; exact h2
theorem Gps.keep {w w' : World} {a : Option Addr} {l : List (Int × Int × List Int)} (h : Gps w a l) (hb : Below w.heap.size w w') : Gps w' a l := fun i hi => by
  obtain ⟨b, o, a', c', e, h'⟩ := h i hi
  exact ⟨b, o, a', c', e, h'.keep hb⟩
theorem Gps.nil (w : World) (a : Option Addr) : Gps w a [] := fun i hi => by simp at hi
theorem Gps.get {w : World} {a : Option Addr} {l : List (Int × Int × List Int)} (h : Gps w a l) {i : Nat} (hi : i < l.length) :
    ∃ b o, a = some ⟨b, o, none⟩ ∧ ∀ j, j < l.length → ∃ a' c', GpAt w b o j (Pg.nth l j) a' c' := by
  obtain ⟨b, o, _, _, rfl, _⟩ := h i hi
  refine ⟨b, o, rfl, fun j hj => ?_⟩
  obtain ⟨b', o', a', c', e, hc⟩ := h j hj
  simp at e
  obtain ⟨rfl, rfl⟩ := e
  exact ⟨a', c', hc⟩
theorem GpAt.lt {w : World} {b o i : Nat} {g : Int × Int × List Int} {a : Option Addr} {c : Nat} (h : GpAt w b o i g a c) : b < w.heap.size := World.block_lt_of_cell? w _ h.1
/-- Zero and Scale in their ranges; as many codes as a list may have. -/
def InG (l : List (Int × Int × List Int)) : Prop := ∀ i, i < l.length → -2147483648 ≤ Pg.gz (Pg.nth l i) ∧ Pg.gz (Pg.nth l i) ≤ 2147483647 ∧ 0 ≤ Pg.gs (Pg.nth l i) ∧ Pg.gs (Pg.nth l i) ≤ 4294967295 ∧ (Pg.gc (Pg.nth l i)).length ≤ maxLen
end Go.Proofs.YtnchnlgnnlgjcaaGreat
namespace Go.Proofs.YtnchnlgnnlgjcaaGreat
set_option linter.unusedVariables false
open Go.RowKit
attribute [local go_sem ↓] Go.wp_at_zero Go.wp_at_succ
theorem bitsB_any (b : Int) (q : Bool) (hq : Gp.okB b = q) (w : World) :
    Calls Tryz.prog 81 #[.int .i64 b] w fun e w' => e = .returned (.bool q) ∧ w' = w := by
  rcases ok_or b with h | ⟨n, rfl, h⟩
  · have e : q = false := by rw [← hq]; unfold Gp.okB; simp [h.1, h.2.1, h.2.2]
    subst e
    exact bits_no b h w
  · have e : q = true := by rw [← hq]; rcases h with rfl | rfl | rfl <;> rfl
    subst e
    exact bits_yes n h w
theorem Pg.rightH_eq (h0 h1 h2 h3 h4 h5 h6 : Int) : Pg.rightH [h0, h1, h2, h3, h4, h5, h6] = (Gp.okB h0 && Gp.okB h1 && decide (1 ≤ h2) && decide (h2 ≤ 16) && decide (1 ≤ h3) && decide (h3 ≤ 16) && decide (0 ≤ h4) && decide (h4 ≤ 3) && decide (0 ≤ h5) && decide (h5 ≤ 3) && decide (0 ≤ h6) && decide (h6 ≤ 1023)) := rfl
/-- Are there so many groups of so many codes? -/
def Pg.shapeB (l : List (Int × Int × List Int)) (n each : Int) : Bool := decide ((∀ i, i < l.length → ((Pg.gc (Pg.nth l i)).length : Int) = each) ∧ (l.length : Int) = n)
end Go.Proofs.YtnchnlgnnlgjcaaGreat
namespace Go.Proofs.YtnchnlgnnlgjcaaGreat
set_option linter.unusedVariables false
open Go.RowKit
attribute [local go_sem ↓] Go.wp_at_zero Go.wp_at_succ
/-- The three cells of a group, in every world that leaves what is old. -/
theorem GpAt.cells {w : World} {b o i : Nat} {g : Int × Int × List Int} {a : Option Addr} {c : Nat} (h : GpAt w b o i g a c) : w.cell? ⟨b, o + i * 3, none⟩ = some (.int .i32 (Pg.gz g)) ∧ w.cell? ⟨b, o + i * 3 + 1, none⟩ = some (.int .u32 (Pg.gs g)) ∧ w.cell? ⟨b, o + i * 3 + 2, none⟩ = some (.slice a (Pg.gc g).length c) := ⟨h.1, h.2.1, h.2.2.1⟩
end Go.Proofs.YtnchnlgnnlgjcaaGreat
namespace Go.Proofs.YtnchnlgnnlgjcaaGreat
set_option linter.unusedVariables false
open Go.RowKit
attribute [local go_sem ↓] Go.wp_at_zero Go.wp_at_succ
namespace Pg
/-- The first error of the first k groups. -/
def rightsN (s : Int) (l : List (Int × Int × List Int)) : Nat → Int
  | 0 => 0
  | k + 1 => if rightsN s l k = 0 then Gp.right s (gs (nth l k)) (gc (nth l k)) else rightsN s l k
theorem rightsN_ok {s : Int} {l : List (Int × Int × List Int)} {k : Nat} (h : rightsN s l k = 0) : rightsN s l (k + 1) = Gp.right s (gs (nth l k)) (gc (nth l k)) := by simp only [rightsN]; rw [if_pos h]
theorem rightsN_bad {s : Int} {l : List (Int × Int × List Int)} {k : Nat} (h : ¬ rightsN s l k = 0) : rightsN s l (k + 1) = rightsN s l k := by simp only [rightsN]; rw [if_neg h]
theorem rightsN_stop {s : Int} {l : List (Int × Int × List Int)} {k n : Nat} (h : ¬ rightsN s l k = 0) (hn : k ≤ n) : rightsN s l n = rightsN s l k := by
  obtain ⟨d, rfl⟩ := Nat.exists_eq_add_of_le hn
  clear hn
  induction d with
  | zero => rfl
  | succ d ih => rw [← Nat.add_assoc, rightsN_bad (by rw [ih]; exact h), ih]
theorem rightsN_all {s : Int} {l : List (Int × Int × List Int)} {k : Nat} (h : rightsN s l k = 0) (i : Nat) (hi : i < k) : Gp.right s (gs (nth l i)) (gc (nth l i)) = 0 := by
  induction k with
  | zero => omega
  | succ k ih =>
    by_cases c : rightsN s l k = 0
    · by_cases e : i = k
      · subst e; rw [rightsN_ok c] at h; exact h
      · exact ih c (by omega)
    · rw [rightsN_bad c] at h; exact absurd h c
/-- The greatest code of b bits. -/
def top (b : Int) : Int := if b = 2 then 3 else if b = 4 then 15 else 255
theorem top_st {b s : Nat} (h : Gp.St b s) : top (b : Int) = s := by rcases h with ⟨rfl, rfl⟩ | ⟨rfl, rfl⟩ | ⟨rfl, rfl⟩ <;> rfl
theorem okB_st {b : Int} (h : Gp.okB b = true) : ∃ n s : Nat, b = (n : Int) ∧ Gp.St n s := by
  rcases okB_or h with rfl | rfl | rfl
  · exact ⟨2, 3, rfl, Or.inl ⟨rfl, rfl⟩⟩
  · exact ⟨4, 15, rfl, Or.inr (Or.inl ⟨rfl, rfl⟩)⟩
  · exact ⟨8, 255, rfl, Or.inr (Or.inr ⟨rfl, rfl⟩)⟩
theorem st_pow {b s : Nat} (h : Gp.St b s) : 2 ^ b - 1 = s := by rcases h with ⟨rfl, rfl⟩ | ⟨rfl, rfl⟩ | ⟨rfl, rfl⟩ <;> rfl
/-- An error's number: may a page be? -/
def newE (h : List Int) (ks vs : List (Int × Int × List Int)) : Int :=
  if rightH h = false then 11 else if shapeB ks (Ls.nth h 3) (Ls.nth h 2) = false then 25 else if shapeB vs (Ls.nth h 2) (Ls.nth h 3) = false then 25 else
  if ¬ rightsN (top (Ls.nth h 0)) ks ks.length = 0 then rightsN (top (Ls.nth h 0)) ks ks.length else rightsN (top (Ls.nth h 1)) vs vs.length
theorem shapeB_all {l : List (Int × Int × List Int)} {n each : Int} (h : shapeB l n each = true) : (∀ i, i < l.length → ((gc (nth l i)).length : Int) = each) ∧ (l.length : Int) = n := by
  unfold shapeB at h
  simp only [decide_eq_true_eq] at h
  exact h
theorem newE_zero {h : List Int} {ks vs : List (Int × Int × List Int)} (e : newE h ks vs = 0) : rightH h = true ∧ shapeB ks (Ls.nth h 3) (Ls.nth h 2) = true ∧ shapeB vs (Ls.nth h 2) (Ls.nth h 3) = true ∧
    rightsN (top (Ls.nth h 0)) ks ks.length = 0 ∧ rightsN (top (Ls.nth h 1)) vs vs.length = 0 := by
  unfold newE at e
  split at e
  · cases e
  · rename_i h1
    split at e
    · cases e
    · rename_i h2
      split at e
      · cases e
      · rename_i h3
        split at e
        · rename_i h4; exact absurd e h4
        · rename_i h4
          exact ⟨by simpa using h1, by simpa using h2, by simpa using h3, by simpa using h4, e⟩
/-- A right group fits. -/
theorem right_fits {b s n : Nat} {g : Int × Int × List Int} (hst : Gp.St b s) (hn : (gc g).length = n) (h0 : -2147483648 ≤ gz g) (h1 : gz g ≤ 2147483647) (h2 : 0 ≤ gs g) (h3 : gs g ≤ 4294967295) (hr : Gp.right s (gs g) (gc g) = 0) : Fits b n g := by
  refine ⟨hn, ?_, h0, h1, h2, h3⟩
  intro i
  have hf := Gp.fits_all (Gp.right_zero hr).2.2
  have hp := st_pow hst
  have hpos : 0 < 2 ^ b := Nat.two_pow_pos b
  by_cases hi : i < (gc g).length
  · have := hf i hi
    omega
  · rw [Ls.nth_past (by omega)]
    exact ⟨Int.le_refl _, hpos⟩
theorem newE_page {h : List Int} {ks vs : List (Int × Int × List Int)} (h7 : h.length = 7) (ik : InG ks) (iv : InG vs) (e : newE h ks vs = 0) : Page h ks vs := by
  obtain ⟨hr, sk, sv, rk, rv⟩ := newE_zero e
  obtain ⟨a, b, c, d, f, g, _⟩ := rightH_all hr
  obtain ⟨k1, k2⟩ := shapeB_all sk
  obtain ⟨v1, v2⟩ := shapeB_all sv
  have ok0 : Gp.okB (Ls.nth h 0) = true := by unfold Gp.okB; rcases a with a | a | a <;> simp [a]
  have ok1 : Gp.okB (Ls.nth h 1) = true := by unfold Gp.okB; rcases b with a | a | a <;> simp [a]
  obtain ⟨b0, s0, e0, st0⟩ := okB_st ok0
  obtain ⟨b1, s1, e1, st1⟩ := okB_st ok1
  have hb0 : kb h = b0 := by unfold kb; omega
  have hb1 : vb h = b1 := by unfold vb; omega
  have t0 : top (Ls.nth h 0) = s0 := by rw [e0]; exact top_st st0
  have t1 : top (Ls.nth h 1) = s1 := by rw [e1]; exact top_st st1
  rw [t0] at rk
  rw [t1] at rv
  refine ⟨h7, hr, by unfold dm; omega, by unfold tk; omega, fun i hi => ?_, fun i hi => ?_, fun i hi => ?_, fun i hi => ?_⟩
  · obtain ⟨q0, q1, q2, q3, _⟩ := ik i hi
    rw [hb0]
    exact right_fits st0 (by have := k1 i hi; unfold tk; omega) q0 q1 q2 q3 (rightsN_all rk i hi)
  · obtain ⟨q0, q1, q2, q3, _⟩ := iv i hi
    rw [hb1]
    exact right_fits st1 (by have := v1 i hi; unfold dm; omega) q0 q1 q2 q3 (rightsN_all rv i hi)
  · rw [hb0, st_pow st0]; exact rightsN_all rk i hi
  · rw [hb1, st_pow st1]; exact rightsN_all rv i hi
theorem newE_vals {h : List Int} {ks vs : List (Int × Int × List Int)} (hr : rightH h = true) (h1 : shapeB ks (Ls.nth h 3) (Ls.nth h 2) = true) (h2 : shapeB vs (Ls.nth h 2) (Ls.nth h 3) = true) (h3 : rightsN (top (Ls.nth h 0)) ks ks.length = 0) : newE h ks vs = rightsN (top (Ls.nth h 1)) vs vs.length := by
  unfold newE
  rw [if_neg (by rw [hr]; simp), if_neg (by rw [h1]; simp), if_neg (by rw [h2]; simp), if_neg (by rw [h3]; simp)]
end Pg
theorem boxes_cells {w v : World} {X Y : Array Value} {s t : TypeId} (hb : Below ((w.alloc (.cells X s)).alloc (.cells Y t)).heap.size ((w.alloc (.cells X s)).alloc (.cells Y t)) v) :
    (∀ i x, X[i]? = some x → v.cell? ⟨w.heap.size, i, none⟩ = some x) ∧ (∀ i y, Y[i]? = some y → v.cell? ⟨w.heap.size + 1, i, none⟩ = some y) := by
  refine ⟨fun i x hx => ?_, fun i y hy => ?_⟩
  · rw [hb.cell (p := ⟨w.heap.size, i, none⟩) (by simp; omega), (box_below (w.alloc (.cells X s)) (.cells Y t)).cell (p := ⟨w.heap.size, i, none⟩) (by simp), cell_of_row _ _ _ _ _ _ (heap_alloc_new w _)]
    exact hx
  · have := cell_of_row _ _ i _ _ _ (heap_alloc_new (w.alloc (.cells X s)) (.cells Y t))
    rw [show (w.alloc (.cells X s)).heap.size = w.heap.size + 1 by simp] at this
    rw [hb.cell (p := ⟨w.heap.size + 1, i, none⟩) (by simp), this]
    exact hy
end Go.Proofs.YtnchnlgnnlgjcaaGreat
