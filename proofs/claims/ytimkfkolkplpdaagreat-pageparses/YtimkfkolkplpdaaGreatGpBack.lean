/- Contracts of the document's own answers of layer 7: Right and Back. -/
import Derived.Test.YtimkfkolkplpdaaGreatGpRefs
namespace Go.Proofs.YtimkfkolkplpdaaGreat
set_option linter.unusedVariables false
open Go.RowKit
attribute [local go_sem ↓] Go.wp_at_zero Go.wp_at_succ

theorem own_below {w w' : World} {base : Nat} {t : TypeId} {v : Value} {n : Nat} {xs : List Value} (h : w.ownsRow base t 1 v n xs) (hb : Below w.heap.size w w') : w'.ownsRow base t 1 v n xs := by
  have hlt := h.lt
  refine ⟨h.1, ?_⟩
  rcases h.2 with h0 | ⟨g, cap, cur, e, h1, h2, h3⟩
  · exact Or.inl h0
  · refine Or.inr ⟨g, cap, cur, e, h1, ?_, h3⟩
    subst e
    rw [hb.block g (hlt g rfl).2]
    exact h2
theorem gen_snoc {w : World} {base : Nat} {t : TypeId} {q : IntKind} {v : Value} {k : Nat} {F : Nat → Int} {y : Int} (h : w.ownsRow base t 1 v (k + 1) ((Ls.gen k F).map (Value.int q) ++ [.int q y])) (e : y = F k) :
    w.ownsRow base t 1 v (k + 1) ((Ls.gen (k + 1) F).map (Value.int q)) := by
  rw [Ls.gen_succ, List.map_append]
  subst e
  exact h

set_option maxRecDepth 100000 in
set_option maxHeartbeats 1600000 in
theorem refBack_any (z sc : Int) (a : Option Addr) (cp : Nat) (c : List Int) (w : World) (ha : Lst .i64 w a c) (hl : c.length ≤ 256) (hf : Gp.fits 255 c = true) (hz1 : -2147483648 ≤ z) (hz2 : z ≤ 2147483647) (hs1 : 0 ≤ sc) (hs2 : sc ≤ 4294967295) :
    Calls Tryz.prog 68 #[.agg #[.int .i32 z, .int .u32 sc, .slice a c.length cp]] w fun e w' => ∃ a' c', e = .returned (.slice a' c.length c') ∧
      Lst .i32 w' a' (Gp.means z sc c) ∧ Below w.heap.size w w' := by
  obtain ⟨i0, hi0, hi1, hi2, hi3⟩ := info_parts Tryz.infoInt32
  have HA : Hid (Lst .i64 w a c) := ha
  have HF : Hid (Gp.fits 255 c = true) := hf
  clear ha hf
  go_enter Tryz.func68, Tryz.ntmps68
  go_wp2
  go_loopw [3, 4] (fun v i wr => ∃ k : Nat, k ≤ c.length ∧ i = .int .i64 k ∧ wr.ownsRow (w.heap.size + 1) 21 1 v k ((Ls.gen k fun j => Gp.mean z sc (Ls.nth c j)).map (Value.int .i32)) ∧ Below (w.heap.size + 1) (w.alloc (.cells #[.int .i32 z, .int .u32 sc, .slice a c.length cp] 72)) wr) (fun _ i _ => c.length - (intOf i).toNat)
  case atStart => exact ⟨0, Nat.zero_le _, rfl, World.ownsRow_nil _ _ _ _, Below.refl _ _⟩
  case round =>
    obtain ⟨k, hk, rfl, hown, hbel⟩ := hrel
    have hb0 : Below w.heap.size w wr := (box_below w _).trans (hbel.mono (by omega))
    have d2 : wr.cell? ⟨w.heap.size, 2, none⟩ = some (.slice a c.length cp) := by rw [hbel.cell (p := ⟨w.heap.size, 2, none⟩) (by simp)]; exact cell_of_row _ _ _ _ _ _ (heap_alloc_new w _)
    by_cases hlt : k < c.length
    · obtain ⟨b1, o1, rfl, hc1⟩ := HA.out.get hlt
      have hck := hc1 k hlt
      have l1 : b1 < w.heap.size := World.block_lt_of_cell? w _ hck
      have hfk := Gp.fits_all HF.out k hlt
      have hsz : w.heap.size + 1 ≤ wr.heap.size := by have := hbel.size; simpa using this
      have KS : Hid (∀ w', Below (w.heap.size + 1) (w.alloc (.cells #[.int .i32 z, .int .u32 sc, .slice (some ⟨b1, o1, none⟩) c.length cp] 72)) w' →
          w'.cell? ⟨w.heap.size, 0, none⟩ = some (.int .i32 z) ∧ w'.cell? ⟨w.heap.size, 1, none⟩ = some (.int .u32 sc) ∧ w'.cell? ⟨w.heap.size, 2, none⟩ = some (.slice (some ⟨b1, o1, none⟩) c.length cp) ∧ w'.cell? ⟨b1, o1 + k, none⟩ = some (.int .i64 (Ls.nth c k)) ∧
          Hid (Below (w.heap.size + 1) (w.alloc (.cells #[.int .i32 z, .int .u32 sc, .slice (some ⟨b1, o1, none⟩) c.length cp] 72)) w')) := by
        intro w' hb
        refine ⟨?_, ?_, ?_, ?_, hb⟩
        · rw [hb.cell (p := ⟨w.heap.size, 0, none⟩) (by simp)]; exact cell_of_row _ _ _ _ _ _ (heap_alloc_new w _)
        · rw [hb.cell (p := ⟨w.heap.size, 1, none⟩) (by simp)]; exact cell_of_row _ _ _ _ _ _ (heap_alloc_new w _)
        · rw [hb.cell (p := ⟨w.heap.size, 2, none⟩) (by simp)]; exact cell_of_row _ _ _ _ _ _ (heap_alloc_new w _)
        · rw [hb.cell (p := ⟨b1, o1 + k, none⟩) (show b1 < w.heap.size + 1 by omega), (box_below w _).cell (p := ⟨b1, o1 + k, none⟩) l1]; exact hck
      have HO : Hid (wr.ownsRow (w.heap.size + 1) 21 1 u3 k ((Ls.gen k fun j => Gp.mean z sc (Ls.nth c j)).map (Value.int .i32))) := hown
      have HB : Hid (Below (w.heap.size + 1) (w.alloc (.cells #[.int .i32 z, .int .u32 sc, .slice (some ⟨b1, o1, none⟩) c.length cp] 72)) wr) := hbel
      have e0 : (0 : Int) ≤ (k : Int) := by omega
      have e1 : (k : Int) < (c.length : Int) := by omega
      clear hc1 hck hown hbel hb0
      go_wp2_with fail
      clear d2
      go_region_held3 (fun w' => w'.cell? ⟨w.heap.size, 0, none⟩ = some (.int .i32 z) ∧ w'.cell? ⟨w.heap.size, 1, none⟩ = some (.int .u32 sc) ∧ w'.cell? ⟨w.heap.size, 2, none⟩ = some (.slice (some ⟨b1, o1, none⟩) c.length cp) ∧ w'.cell? ⟨b1, o1 + k, none⟩ = some (.int .i64 (Ls.nth c k)) ∧
          Hid (Below (w.heap.size + 1) (w.alloc (.cells #[.int .i32 z, .int .u32 sc, .slice (some ⟨b1, o1, none⟩) c.length cp] 72)) w'))
        (first
          | exact KS.out _ HB.out.drew
          | exact KS.out _ hb2.out
          | exact KS.out _ (hb1.out.alloc (hz1'.out) _)
          | exact KS.out _ hb1.out)
        (first
          | (go_at_call 67; refine (refOne_any _ _ _ _ _ _ hz1 hz2 hs1 hs2 hfk.1 hfk.2 _).mono ?_; rintro e w' ⟨rfl, hb⟩; have hb1 : Hid (Below (w.heap.size + 1) (w.alloc (.cells #[.int .i32 z, .int .u32 sc, .slice (some ⟨b1, o1, none⟩) c.length cp] 72)) w') := HB.out.drew.trans (hb.mono hsz); have hz1' : Hid (w.heap.size + 1 ≤ w'.heap.size) := Nat.le_trans hsz hb.size; have HO1 : Hid (w'.ownsRow (w.heap.size + 1) 21 1 u3 k ((Ls.gen k fun j => Gp.mean z sc (Ls.nth c j)).map (Value.int .i32))) := own_below HO.out.drew hb; clear hb)
          | (refine step_append_lies _ (by rfl) _ _ _ (by rfl) (w.heap.size + 1) 21 i0 _ 1 4 Tryz.underlying62 hi0 hi1 hi2 hi3 rfl (by omega) _ k _ (by rfl) (HO1.out.alloc _) ⟨w'.heap.size, 0, none⟩ 1 1 [.int .i32 (Gp.mean z sc (Ls.nth c k))] (by rfl) (by rfl) (World.news_of_block (cs := #[.int .i32 (Gp.mean z sc (Ls.nth c k))]) (t := 21) (fr := (0, 0)) (heap_alloc_new w' _)) (by simp [Value.oneCell']) (by omega) (by unfold maxLen; omega) (by omega) (by have := hz1'.out; simp; omega) (w'.heap.size + 1) (by simp) ?_; intro gg cap w1 hown1 hgrow hat hlt1; have hb2 : Hid (Below (w.heap.size + 1) (w.alloc (.cells #[.int .i32 z, .int .u32 sc, .slice (some ⟨b1, o1, none⟩) c.length cp] 72)) w1) := (hb1.out.alloc hz1'.out _).grown hgrow (by have := hz1'.out; simp; omega) (fun j hj => (HO1.out.lt j hj).1); have HO2 : Hid (w1.ownsRow (w.heap.size + 1) 21 1 (.slice (some ⟨gg, 0, none⟩) (k + 1) cap) (k + 1) ((Ls.gen k fun j => Gp.mean z sc (Ls.nth c j)).map (Value.int .i32) ++ [.int .i32 (Gp.mean z sc (Ls.nth c k))])) := hown1; clear hown1 hgrow))
      go_wp2
      go_roundw
      case rel => exact ⟨k + 1, by omega, by go_num, gen_snoc HO2.out rfl, hb2.out⟩
      case measure => simp [intOf]; omega
    · have e : k = c.length := by omega
      subst e
      have HO : Hid (wr.ownsRow (w.heap.size + 1) 21 1 u3 c.length ((Ls.gen c.length fun j => Gp.mean z sc (Ls.nth c j)).map (Value.int .i32)) ∧ Below w.heap.size w wr) := ⟨hown, hb0⟩
      clear hown hbel hb0
      go_wp2
      go_ret
      have hm : c.length = (Gp.means z sc c).length := (Gp.means_length _ _ _).symm
      obtain ⟨a', c', h1, h2⟩ := lst_of_ownm (l := Gp.means z sc c) HO.out.1 hm
      have hb := HO.out.2
      clear HO
      subst h1
      exact ⟨a', c', rfl, h2, hb⟩
set_option maxHeartbeats 1600000 in
theorem refRightG_any (z sc : Int) (a : Option Addr) (cp b s : Nat) (c : List Int) (e : Int) (w : World) (ha : Lst .i64 w a c) (hst : Gp.St b s) (h0 : 0 < c.length) (hl : c.length ≤ 256) (hs1 : 0 ≤ sc) (hs2 : sc ≤ 4294967295) (he : Gp.right s sc c = e) :
    Calls Tryz.prog 33 #[.agg #[.int .i32 z, .int .u32 sc, .slice a c.length cp], .int .i64 b] w fun r w' => r = .returned (.int .i64 e) ∧ Below w.heap.size w w' := by
  have HM : Hid (Gp.many c.length (b : Int) = 0) := Gp.many_ok hst h0 hl
  have HN : Hid (c.length ≤ maxLen) := by show c.length ≤ maxLen; unfold maxLen; omega
  have HA : Hid (Lst .i64 w a c) := ha
  have HS : Hid (Gp.St b s) := hst
  have HE : Hid (Gp.right s sc c = e) := he
  have bs := hst.bd
  clear ha hst he
  by_cases hbig : 1431655765 < sc
  · have ee : e = 21 := by rw [← HE.out, Gp.right_big hbig]
    subst ee
    go_enter Tryz.func33, Tryz.ntmps33
    go_wp2_with (go_at_call 63; refine (refMany_any _ _ 0 HM.out HN.out _).mono ?_; rintro r w' ⟨rfl, rfl⟩)
    go_ret
    exact ⟨rfl, box_below _ _⟩
  · have g1 : decide (1431655765 < sc) = false := decide_eq_false hbig
    have hbig' : sc ≤ 1431655765 := by omega
    clear hbig
    have hlast : ∀ q, (sc == 0) = q → Calls Tryz.prog 33 #[.agg #[.int .i32 z, .int .u32 sc, .slice a c.length cp], .int .i64 b] w fun r w' => r = .returned (.int .i64 e) ∧ Below w.heap.size w w' := by
      intro q hq
      have HQ : Hid ((sc == 0) = q) := hq
      cases q
      all_goals
        go_enter Tryz.func33, Tryz.ntmps33
        go_wp2_with (go_at_call 63; refine (refMany_any _ _ 0 HM.out HN.out _).mono ?_; rintro r w' ⟨rfl, rfl⟩)
        go_loop [6] (fun i => ∃ k : Nat, k ≤ c.length ∧ i = .int .i64 k ∧ (sc = 0 → ∀ j, j < k → Ls.nth c j = 0)) (fun i => c.length - (intOf i).toNat)
        case atStart => exact ⟨0, Nat.zero_le _, rfl, fun _ j hj => by omega⟩
        case round =>
          obtain ⟨k, hk, rfl, hall⟩ := hrel
          have HL : Hid (sc = 0 → ∀ j, j < k → Ls.nth c j = 0) := hall
          clear hall
          by_cases hlt : k < c.length
          · obtain ⟨b1, o1, rfl, hc1⟩ := (HA.out.keep (box_below w (.cells #[.int .i32 z, .int .u32 sc, .slice a c.length cp] 72))).get hlt
            have hck := hc1 k hlt
            clear hc1
            by_cases c1 : Ls.nth c k = 0
            · have C1 : Hid (Ls.nth c k = 0) := c1
              have c1' : (Ls.nth c k != 0) = false := by rw [c1]; rfl
              clear c1
              go_wp2
              go_round
              case rel =>
                refine ⟨k + 1, by omega, by go_num, fun e0 j hj => ?_⟩
                by_cases e : j = k
                · subst e; exact C1.out
                · exact HL.out e0 j (by omega)
              case measure => simp [intOf]; omega
            · have c1' : (Ls.nth c k != 0) = true := by simp [c1]
              go_wp2
              first
                | (go_round
                   case rel =>
                     refine ⟨k + 1, by omega, by go_num, fun e0 j hj => ?_⟩
                     have := HQ.out
                     simp [e0] at this
                   case measure => simp [intOf]; omega)
                | (go_ret
                   refine ⟨ret_num ?_, box_below _ _⟩
                   rw [← HE.out, Gp.right_nil (by simpa using HQ.out) (Gp.nils_no hlt c1)])
          · have HL2 : Hid (sc = 0 → Gp.nils c = true) := fun e0 => Gp.nils_yes (fun i hi => HL.out e0 i (by omega))
            clear HL
            go_wp2
            go_loopw [7] (fun i wr => ∃ j n : Nat, j ≤ c.length ∧ i = .int .i64 j ∧ wr = (w.alloc (.cells #[.int .i32 z, .int .u32 sc, .slice a c.length cp] 72)).drewN n ∧ ∀ i, i < j → 0 ≤ Ls.nth c i ∧ Ls.nth c i ≤ (s : Int)) (fun i _ => c.length - (intOf i).toNat)
            case atStart => exact ⟨0, 0, Nat.zero_le _, rfl, rfl, fun i hi => by omega⟩
            case round =>
              obtain ⟨j, n, hj, rfl, rfl, hall⟩ := hrel
              have HL : Hid (∀ i, i < j → 0 ≤ Ls.nth c i ∧ Ls.nth c i ≤ (s : Int)) := hall
              clear hall
              by_cases hjl : j < c.length
              · obtain ⟨b1, o1, rfl, hc1⟩ := (HA.out.keep (box_below w (.cells #[.int .i32 z, .int .u32 sc, .slice a c.length cp] 72))).get hjl
                have hck := hc1 j hjl
                clear hc1
                have e0 : (0 : Int) ≤ (j : Int) := by omega
                have e1 : (j : Int) < (c.length : Int) := by omega
                by_cases c1 : Ls.nth c j < 0
                · have g3 : decide (Ls.nth c j < 0) = true := decide_eq_true c1
                  go_wp2
                  go_quiet (fail)
                  go_wp2
                  go_ret
                  refine ⟨ret_num ?_, below_drewN (below_drewN (box_below _ _) _) _⟩
                  rw [← HE.out, Gp.right_no (show ¬ 1431655765 < sc by omega) HL2.out (Gp.fits_no (s := (s : Int)) hjl (by omega))]
                · have g3 : decide (Ls.nth c j < 0) = false := decide_eq_false c1
                  by_cases c2 : (s : Int) < Ls.nth c j
                  · have g4 : decide ((s : Int) < Ls.nth c j) = true := decide_eq_true c2
                    go_wp2
                    go_quiet ((go_at_call 64; exact (steps_any _ _ HS.out _).mono fun _ _ ⟨he, hw⟩ => ⟨he, _, hw⟩))
                    go_wp2
                    go_ret
                    refine ⟨ret_num ?_, below_drewN (below_drewN (box_below _ _) _) _⟩
                    rw [← HE.out, Gp.right_no (show ¬ 1431655765 < sc by omega) HL2.out (Gp.fits_no (s := (s : Int)) hjl (by omega))]
                  · have g4 : decide ((s : Int) < Ls.nth c j) = false := decide_eq_false c2
                    go_wp2
                    go_quiet ((go_at_call 64; exact (steps_any _ _ HS.out _).mono fun _ _ ⟨he, hw⟩ => ⟨he, _, hw⟩))
                    go_wp2
                    go_roundw
                    case rel =>
                      refine ⟨j + 1, _, by omega, by go_num, rfl, fun i hi => ?_⟩
                      by_cases e : i = j
                      · subst e; omega
                      · exact HL.out i (by omega)
                    case measure => simp [intOf]; omega
              · go_wp2
                go_ret
                refine ⟨ret_num ?_, below_drewN (box_below _ _) _⟩
                rw [← HE.out, Gp.right_yes (show ¬ 1431655765 < sc by omega) HL2.out (Gp.fits_yes (fun i hi => HL.out i (by omega)))]
    exact hlast _ rfl
theorem refRightG_bad (z sc : Int) (a : Option Addr) (n cp : Nat) (b e : Int) (he : Gp.many n b = e) (h0 : ¬ e = 0) (hn : n ≤ maxLen) (w : World) :
    Calls Tryz.prog 33 #[.agg #[.int .i32 z, .int .u32 sc, .slice a n cp], .int .i64 b] w fun r w' => r = .returned (.int .i64 e) ∧ Below w.heap.size w w' := by
  have g0 : (e != 0) = true := by simp [h0]
  have HE : Hid (Gp.many n b = e) := he
  have HN : Hid (n ≤ maxLen) := hn
  clear he h0 hn
  go_enter Tryz.func33, Tryz.ntmps33
  go_wp2_with (go_at_call 63; refine (refMany_any n b e HE.out HN.out _).mono ?_; rintro r w' ⟨rfl, rfl⟩)
  go_ret
  exact ⟨rfl, box_below _ _⟩
end Go.Proofs.YtimkfkolkplpdaaGreat
