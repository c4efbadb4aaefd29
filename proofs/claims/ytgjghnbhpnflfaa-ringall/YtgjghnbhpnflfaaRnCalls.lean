/- Contracts of package ring (layer 12): New, Size, Len, place, forget, Push, At, Cut. -/
import Derived.Test.YtgjghnbhpnflfaaRnWorld
import Derived.Deep.RegionWith
import Derived.Deep.RegionLaw
namespace Go.Proofs.Ytgjghnbhpnflfaa
set_option linter.unusedVariables false
set_option linter.unusedSimpArgs false
open Go.RowKit

theorem Try.infoIntR : (Try.prog.info? 3).map (fun i => (i.zero, i.size, i.bytes)) = some (some (.int .i64 0), 1, 8) := by kernel_rfl
namespace Rn
theorem drewN_then {w w' : World} {n q : Nat} (h : w' = (w.drewN n).drewN q) : w' = w.drewN (n + q) := by rw [h, World.drewN_drewN]
theorem new_bad (n : Int) (h : n < 0 ∨ 1024 < n) (w : World) :
    Calls Try.prog 8 #[.int .i64 n] w fun e w' => e = .returned (.tuple #[.pointer none, .int .i64 11]) ∧ w' = w := by
  by_cases c : n < 0
  · go_enter Try.func8, Try.ntmps8
    go_wp2
    go_ret2
    exact ⟨rfl, rfl⟩
  · have c2 : 1024 < n := by omega
    go_enter Try.func8, Try.ntmps8
    go_wp2
    go_ret2
    exact ⟨rfl, rfl⟩
theorem new_ok (n : Nat) (h : n ≤ 1024) (w : World) :
    Calls Try.prog 8 #[.int .i64 n] w fun e w' => ∃ g r, e = .returned (.tuple #[.pointer (some ⟨g, 0, none⟩), .int .i64 0]) ∧ RingAt w' g r n 0 [] ∧ w.heap.size ≤ g ∧ w.heap.size ≤ r ∧ Below w.heap.size w w' := by
  have hmk := run_make_row' (P := Try.prog) 28 3 (.int .i64 0) 8 Try.underlying28 Try.infoIntR rfl .i64 .i64 n (by omega) (by omega)
  go_enter Try.func8, Try.ntmps8
  go_wp2
  clear hmk
  go_ret2
  refine ⟨w.heap.size + 1, w.heap.size, rfl, ⟨_, ?_, (World.rowIs_made w _ n _).alloc _, Nat.zero_le _, h, by omega, fun i hi => absurd hi (Nat.not_lt_zero _)⟩, by omega, Nat.le_refl _, two_boxes _ _ _⟩
  have := World.rowIs_alloc (w.alloc (.cells (madeCells #[.int .i64 0] n) 3)) #[.slice (some ⟨w.heap.size, 0, none⟩) n n, .int .i64 0, .int .i64 0] 52 (rc w.heap.size n 0 0) (by
    intro i hi
    match i, hi with
    | 0, _ => rfl
    | 1, _ => rfl
    | 2, _ => rfl)
  simpa using this
/-- A ring's head. -/
def Hd (w : World) (g r n f c : Nat) : Prop := w.rowIs g 52 3 (rc r n f c)
theorem Hd.keep {w w' : World} {g r n f c : Nat} (h : Hd w g r n f c) (hb : Below w.heap.size w w') : Hd w' g r n f c := World.rowIs.of_block h (hb.block _ (World.rowIs.lt h))
theorem Hd.c0 {w : World} {g r n f c : Nat} (h : Hd w g r n f c) : w.cell? ⟨g, 0, none⟩ = some (.slice (some ⟨r, 0, none⟩) n n) := World.rowIs.cell h (show 0 < 3 by decide)
theorem Hd.c1 {w : World} {g r n f c : Nat} (h : Hd w g r n f c) : w.cell? ⟨g, 1, none⟩ = some (.int .i64 f) := World.rowIs.cell h (show 1 < 3 by decide)
theorem Hd.c2 {w : World} {g r n f c : Nat} (h : Hd w g r n f c) : w.cell? ⟨g, 2, none⟩ = some (.int .i64 c) := World.rowIs.cell h (show 2 < 3 by decide)
theorem Hd.f {w : World} {g r n f c : Nat} (h : Hd w g r n f c) (i : Nat) : w.frozen? ⟨g, i, none⟩ = false := World.rowIs.frozen h i
theorem Hd.lt {w : World} {g r n f c : Nat} (h : Hd w g r n f c) : g < w.heap.size := World.rowIs.lt h
theorem RingAt.hd {w : World} {g r n f : Nat} {l : List Int} (h : RingAt w g r n f l) : Hd w g r n f l.length := by
  obtain ⟨F, a, _⟩ := h
  exact a
theorem Hd.set2 {w : World} {g r n f c : Nat} (h : Hd w g r n f c) (c' : Nat) : Hd (w.setCell ⟨g, 2, none⟩ (.int .i64 c')) g r n f c' :=
  (World.rowIs.set h 2 (.int .i64 c')).congr fun i hi => by
    match i, hi with
    | 0, _ => rfl
    | 1, _ => rfl
    | 2, _ => rfl
theorem Hd.set1 {w : World} {g r n f c : Nat} (h : Hd w g r n f c) (f' : Nat) : Hd (w.setCell ⟨g, 1, none⟩ (.int .i64 f')) g r n f' c :=
  (World.rowIs.set h 1 (.int .i64 f')).congr fun i hi => by
    match i, hi with
    | 0, _ => rfl
    | 1, _ => rfl
    | 2, _ => rfl
theorem size_any (g r n f c : Nat) (w : World) (h : Hd w g r n f c) :
    Calls Try.prog 11 #[.pointer (some ⟨g, 0, none⟩)] w fun e w' => e = .returned (.int .i64 n) ∧ w' = w := by
  have c0 := h.c0
  clear h
  go_enter Try.func11, Try.ntmps11
  go_wp2
  go_ret
  exact ⟨rfl, rfl⟩
theorem len_any (g r n f c : Nat) (w : World) (h : Hd w g r n f c) :
    Calls Try.prog 10 #[.pointer (some ⟨g, 0, none⟩)] w fun e w' => e = .returned (.int .i64 c) ∧ w' = w := by
  have c2 := h.c2
  clear h
  go_enter Try.func10, Try.ntmps10
  go_wp2
  go_ret
  exact ⟨rfl, rfl⟩
/-- place: where the thing i lies, or goes. -/
theorem place_any (g r n f c i p : Nat) (w : World) (h : Hd w g r n f c) (hn : 0 < n) (hn1 : n ≤ 1024) (hf : f ≤ 1024) (hi : i ≤ 100000) (hp : pl f n i = p) :
    Calls Try.prog 20 #[.pointer (some ⟨g, 0, none⟩), .int .i64 i] w fun e w' => e = .returned (.int .i64 p) ∧ ∃ q, w' = w.drewN q := by
  have c1 := h.c1
  have HH : Hid (Hd w g r n f c) := h
  have HP : Hid (pl f n i = p) := hp
  clear h hp
  go_enter Try.func20, Try.ntmps20
  go_wp2
  go_quiet ((go_at_call 11; exact (size_any g r n f c _ (HH.out.keep (below_drewN (Below.refl _ _) _))).mono fun _ _ ⟨he, hw⟩ => ⟨he, _, hw⟩))
  go_wp2
  go_ret
  exact ⟨ret_num (by rw [← HP.out]; show ((f : Int) + i) % n = (((f + i) % n : Nat) : Int); rw [Int.natCast_emod, Int.natCast_add]), _, rfl⟩
/-- forget: the places of some things are emptied, all others stand. -/
theorem forget_any (g r n f i0 i1 : Nat) (l : List Int) (w : World) (F : Nat → Value) (h1 : w.rowIs g 52 3 (rc r n f l.length)) (h2 : w.rowIs r 3 n F) (hl : l.length ≤ n) (hn : n ≤ 1024) (hf : f < n ∨ n = 0 ∧ f = 0) (h01 : i0 ≤ i1) (h1n : i1 ≤ n) :
    Calls Try.prog 21 #[.pointer (some ⟨g, 0, none⟩), .int .i64 i0, .int .i64 i1] w fun e w' => e = .returned (.tuple #[]) ∧ But g r w w' ∧ ∃ F', w'.rowIs g 52 3 (rc r n f l.length) ∧ w'.rowIs r 3 n F' ∧ ∀ i, i < n → (i < i0 ∨ i1 ≤ i) → F' (pl f n i) = F (pl f n i) := by
  have H1 : Hid (w.rowIs g 52 3 (rc r n f l.length)) := h1
  have H2 : Hid (w.rowIs r 3 n F) := h2
  have GR : Hid (¬ g = r) := (ty_row h1).ne (ty_row h2) (by decide)
  clear h1 h2
  go_enter Try.func21, Try.ntmps21
  go_wp2
  go_loopw [7] (fun i wq => ∃ (k : Nat) (F' : Nat → Value), i0 ≤ k ∧ k ≤ i1 ∧ i = .int .i64 k ∧ Hid (wq.rowIs g 52 3 (rc r n f l.length)) ∧ Hid (wq.rowIs r 3 n F') ∧ Hid (∀ i, i < n → (i < i0 ∨ i1 ≤ i) → F' (pl f n i) = F (pl f n i)) ∧ Hid (But g r w wq)) (fun i _ => i1 - (intOf i).toNat)
  case atStart => exact ⟨i0, F, Nat.le_refl _, h01, rfl, H1.out, H2.out, fun _ _ _ => rfl, But.refl _ _ _⟩
  case round =>
    obtain ⟨k, F', hk0, hk1, rfl, R1, R2, HF, HB⟩ := hrel
    by_cases hlt : k < i1
    · have hn0 : 0 < n := by omega
      have H0 : Hid (Hd wr g r n f l.length) := R1.out
      have c0 := H0.out.c0
      have hp : pl f n k < n := pl_lt hn0
      have f1 := R2.out.frozen (pl f n k)
      have v1 := R2.out.cell hp
      obtain ⟨p, ep⟩ : ∃ p, pl f n k = p := ⟨_, rfl⟩
      have EP : Hid (pl f n k = p) := ep
      obtain ⟨v, ev⟩ : ∃ v, F' p = v := ⟨_, rfl⟩
      rw [ep] at hp f1 v1
      rw [ev] at v1
      clear ep ev
      go_wp2
      go_region_with (go_at_call 20; refine (place_any g r n f l.length k p _ (H0.out.keep ((Below.refl _ _).drew)) hn0 hn (by omega) (by omega) EP.out).mono ?_; rintro e w' ⟨rfl, q, rfl⟩)
      all_goals
        go_wp2
        go_roundw
        case rel =>
          have R1' : Hid (((wr.drew).drewN q).rowIs g 52 3 (rc r n f l.length)) := R1.out
          refine ⟨k + 1, fun i => if i = p then .int .i64 0 else F' i, by omega, by omega, by go_num, ?_, ?_, fun i hi h => ?_, ?_⟩
          · exact World.rowIs.setOther (w := (wr.drew).drewN q) R1.out (show g ≠ r from GR.out) _
          · exact World.rowIs.set (w := (wr.drew).drewN q) R2.out p _
          · have hne : ¬ pl f n i = p := fun e => by
              have := pl_inj (by omega) hi (by omega) (e.trans EP.out.symm)
              omega
            show (if pl f n i = p then Value.int .i64 0 else F' (pl f n i)) = _
            rw [if_neg hne]
            exact HF.out i hi h
          · exact (HB.out.drew (1 + q)).set (p := ⟨r, p, none⟩) (.inr rfl) _
        case measure => simp [intOf]; omega
    · have ek : k = i1 := by omega
      subst ek
      go_wp2
      go_end0
      exact ⟨rfl, HB.out, F', R1.out, R2.out, HF.out⟩
theorem push_full (g r n f : Nat) (x : Int) (l : List Int) (w : World) (h : RingAt w g r n f l) (hl : l.length = n) :
    Calls Try.prog 14 #[.pointer (some ⟨g, 0, none⟩), .int .i64 x] w fun e w' => e = .returned (.int .i64 23) ∧ ∃ q, w' = w.drewN q := by
  have HH : Hid (Hd w g r n f n) := by have := h.hd; rw [hl] at this; exact this
  have c2 := HH.out.c2
  clear h hl
  go_enter Try.func14, Try.ntmps14
  go_wp2
  go_quiet ((go_at_call 11; exact (size_any g r n f n _ (HH.out.keep (below_drewN (Below.refl _ _) _))).mono fun _ _ ⟨he, hw⟩ => ⟨he, _, hw⟩))
  go_wp2
  go_ret
  exact ⟨rfl, _, rfl⟩
theorem push_ok (g r n f : Nat) (x : Int) (l : List Int) (w : World) (h : RingAt w g r n f l) (hl : l.length < n) :
    Calls Try.prog 14 #[.pointer (some ⟨g, 0, none⟩), .int .i64 x] w fun e w' => e = .returned (.int .i64 0) ∧ RingAt w' g r n f (l ++ [x]) ∧ But g r w w' := by
  obtain ⟨c, ec⟩ : ∃ c, l.length = c := ⟨_, rfl⟩
  have HH : Hid (Hd w g r n f c) := by have := h.hd; rw [ec] at this; exact this
  have EC : Hid (l.length = c) := ec
  have c2 := HH.out.c2
  have c0 := HH.out.c0
  have f2 := HH.out.f 2
  have gne : ¬ g = r := h.ne
  have GN : Hid (¬ g = r) := gne
  obtain ⟨_, n1, n2⟩ := h.nums
  have hf : f < n := by omega
  have hcn : c < n := by omega
  have dcn : decide ((c : Int) = (n : Int)) = false := decide_eq_false (by omega)
  obtain ⟨F, h1, h2, _, _, _, h4⟩ := h
  have hp : pl f n c < n := pl_lt (by omega)
  have f1 := h2.frozen (pl f n c)
  have v1 := h2.cell hp
  obtain ⟨p, ep⟩ : ∃ p, pl f n c = p := ⟨_, rfl⟩
  have EP : Hid (pl f n c = p) := ep
  obtain ⟨v, ev⟩ : ∃ v, F p = v := ⟨_, rfl⟩
  rw [ep] at hp f1 v1
  rw [ev] at v1
  have R2 : Hid (w.rowIs r 3 n F) := h2
  have H4 : Hid (∀ i, i < l.length → F (pl f n i) = .int .i64 (Ls.nth l i)) := h4
  clear h1 h2 h4 hl ec ep ev gne
  go_enter Try.func14, Try.ntmps14
  go_wp2
  go_quiet ((go_at_call 11; exact (size_any g r n f c _ (HH.out.keep (below_drewN (Below.refl _ _) _))).mono fun _ _ ⟨he, hw⟩ => ⟨he, _, hw⟩))
  go_wp2
  go_region_with (go_at_call 20; refine (place_any g r n f c c p _ (HH.out.keep ((below_drewN (Below.refl _ _) _).drew)) (by omega) n1 (by omega) (by omega) EP.out).mono ?_; rintro e w' ⟨rfl, q, rfl⟩)
  all_goals
    have rne : ¬ r = g := fun e => GN.out e.symm
    go_wp2
    go_ret
    refine ⟨rfl, ⟨fun i => if i = p then .int .i64 x else F i, ?_, ?_, by simp; have := EC.out; omega, n1, .inl hf, fun i hi => ?_⟩, ?_⟩
    · have b : Hd ((((w.drewN nq).drew).drewN q).setCell ⟨r, p, none⟩ (.int .i64 x)) g r n f c := World.rowIs.setOther (w := ((w.drewN nq).drew).drewN q) HH.out (show g ≠ r from GN.out) _
      have b2 := b.set2 (c + 1)
      rw [show (l ++ [x]).length = c + 1 by simp; exact EC.out]
      exact b2
    · refine World.rowIs.setOther ?_ (show r ≠ g from rne) _
      exact World.rowIs.set (w := ((w.drewN nq).drew).drewN q) R2.out p _
    · simp at hi
      show (if pl f n i = p then Value.int .i64 x else F (pl f n i)) = _
      have := EC.out
      by_cases e : i = c
      · rw [if_pos (by rw [e]; exact EP.out), Ls.nth_append_at (by omega)]
      · rw [if_neg (fun q => e (pl_inj hf (by omega) (by omega) (q.trans EP.out.symm))), Ls.nth_append_left (by omega)]
        exact H4.out i (by omega)
    · exact (((But.refl g r w).drew (nq + 1 + q)).set (p := ⟨r, p, none⟩) (.inr rfl) _).set (p := ⟨g, 2, none⟩) (.inl rfl) _
theorem at_no (g r n f : Nat) (i : Int) (l : List Int) (w : World) (h : RingAt w g r n f l) (hi : i < 0 ∨ l.length ≤ i) :
    Calls Try.prog 19 #[.pointer (some ⟨g, 0, none⟩), .int .i64 i] w fun e w' => e = .returned (.tuple #[.int .i64 0, .bool false]) ∧ w' = w := by
  obtain ⟨c, ec⟩ : ∃ c, l.length = c := ⟨_, rfl⟩
  rw [ec] at hi
  have c2 := h.hd.c2
  rw [ec] at c2
  clear h ec
  by_cases q : i < 0
  · clear hi
    go_enter Try.func19, Try.ntmps19
    go_wp2
    go_ret2
    exact ⟨rfl, rfl⟩
  · have d : decide ((c : Int) ≤ i) = true := decide_eq_true (by omega)
    have d0 : decide (i < 0) = false := decide_eq_false q
    clear hi q
    go_enter Try.func19, Try.ntmps19
    go_wp2
    go_ret2
    exact ⟨rfl, rfl⟩
theorem at_yes (g r n f i : Nat) (x : Int) (l : List Int) (w : World) (h : RingAt w g r n f l) (hi : i < l.length) (hx : Ls.nth l i = x) :
    Calls Try.prog 19 #[.pointer (some ⟨g, 0, none⟩), .int .i64 i] w fun e w' => e = .returned (.tuple #[.int .i64 x, .bool true]) ∧ ∃ q, w' = w.drewN q := by
  obtain ⟨c, ec⟩ : ∃ c, l.length = c := ⟨_, rfl⟩
  have HH : Hid (Hd w g r n f c) := by have := h.hd; rw [ec] at this; exact this
  obtain ⟨n0, n1, n2⟩ := h.nums
  have t := h.thing hi
  rw [hx] at t
  rw [ec] at hi n0
  have c0 := HH.out.c0
  have c2 := HH.out.c2
  have hp : pl f n i < n := pl_lt (by omega)
  obtain ⟨p, ep⟩ : ∃ p, pl f n i = p := ⟨_, rfl⟩
  have EP : Hid (pl f n i = p) := ep
  rw [ep] at t hp
  have d : decide ((c : Int) ≤ (i : Int)) = false := decide_eq_false (by omega)
  clear h ec ep hx
  go_enter Try.func19, Try.ntmps19
  go_wp2
  go_quiet ((go_at_call 20; exact (place_any g r n f c i p _ (HH.out.keep (below_drewN (Below.refl _ _) _)) (by omega) n1 (by omega) (by omega) EP.out).mono fun _ _ ⟨he, q, hw⟩ => ⟨he, _, drewN_then hw⟩))
  go_wp2
  go_ret2
  exact ⟨rfl, _, rfl⟩
theorem cut_no (g r n f : Nat) (k : Int) (l : List Int) (w : World) (h : RingAt w g r n f l) (hk : k < 0 ∨ l.length < k) :
    Calls Try.prog 18 #[.pointer (some ⟨g, 0, none⟩), .int .i64 k] w fun e w' => e = .returned (.bool false) ∧ w' = w := by
  obtain ⟨c, ec⟩ : ∃ c, l.length = c := ⟨_, rfl⟩
  rw [ec] at hk
  have c2 := h.hd.c2
  rw [ec] at c2
  clear h ec
  by_cases q : k < 0
  · clear hk
    go_enter Try.func18, Try.ntmps18
    go_wp2
    go_ret
    exact ⟨rfl, rfl⟩
  · have d : decide ((c : Int) < k) = true := decide_eq_true (by omega)
    have d0 : decide (k < 0) = false := decide_eq_false q
    clear hk q
    go_enter Try.func18, Try.ntmps18
    go_wp2
    go_ret
    exact ⟨rfl, rfl⟩
theorem cut_yes (g r n f k : Nat) (l : List Int) (w : World) (h : RingAt w g r n f l) (hk : k ≤ l.length) :
    Calls Try.prog 18 #[.pointer (some ⟨g, 0, none⟩), .int .i64 k] w fun e w' => e = .returned (.bool true) ∧ RingAt w' g r n f (l.take k) ∧ But g r w w' := by
  obtain ⟨c, ec⟩ : ∃ c, l.length = c := ⟨_, rfl⟩
  have EC : Hid (l.length = c) := ec
  have c2 := h.hd.c2
  have f2 := h.hd.f 2
  obtain ⟨n0, n1, n2⟩ := h.nums
  rw [ec] at c2 hk n0
  have gne : ¬ g = r := h.ne
  obtain ⟨F, h1, h2, _, _, _, h4⟩ := h
  have H1 : Hid (w.rowIs g 52 3 (rc r n f l.length)) := h1
  have H2 : Hid (w.rowIs r 3 n F) := h2
  have H4 : Hid (∀ i, i < l.length → F (pl f n i) = .int .i64 (Ls.nth l i)) := h4
  have N2 : Hid (f < n ∨ n = 0 ∧ f = 0) := n2
  have GN : Hid (¬ g = r) := gne
  have d : decide ((c : Int) < (k : Int)) = false := decide_eq_false (by omega)
  clear h1 h2 h4 ec n2 gne
  go_enter Try.func18, Try.ntmps18
  go_wp2_with (go_at_call 21; refine (forget_any g r n f k c l _ F H1.out H2.out (by have := EC.out; omega) n1 N2.out hk n0).mono ?_; rintro e w1 ⟨rfl, hb, F1, r1, r2, hF⟩; have HB : Hid (But g r w w1) := hb; have R1 : Hid (w1.rowIs g 52 3 (rc r n f l.length)) := r1; have R2 : Hid (w1.rowIs r 3 n F1) := r2; have HF : Hid (∀ i, i < n → (i < k ∨ c ≤ i) → F1 (pl f n i) = F (pl f n i)) := hF; have f2' := R1.out.frozen 2; have c2' : w1.cell? ⟨g, 2, none⟩ = some (.int .i64 l.length) := R1.out.cell (show 2 < 3 by decide); clear hb r1 r2 hF)
  go_ret
  have lk : (l.take k).length = k := by rw [List.length_take]; have := EC.out; omega
  refine ⟨rfl, ⟨F1, ?_, World.rowIs.setOther R2.out (show r ≠ g from fun e => GN.out e.symm) _, by omega, n1, N2.out, fun i hi => ?_⟩, HB.out.set (p := ⟨g, 2, none⟩) (.inl rfl) _⟩
  · rw [lk]
    exact Hd.set2 R1.out k
  · rw [lk] at hi
    have := EC.out
    rw [HF.out i (by omega) (.inl hi), Ls.nth_take hi]
    exact H4.out i (by omega)
end Rn
end Go.Proofs.Ytgjghnbhpnflfaa
