/- Layer 12's law: all ways of one call. -/
import Derived.Test.YtgjghnbhpnflfaaRnStep
namespace Go.Proofs.Ytgjghnbhpnflfaa
set_option linter.unusedVariables false
set_option linter.unusedSimpArgs false
open Go.RowKit

namespace Rn
set_option maxRecDepth 100000 in
set_option maxHeartbeats 3200000 in
theorem step1_full (B g q n f c ca : Nat) (a : Option Addr) (N : Int) (l : List Int) (w : World) (h : St B w g q n f l a ca) (hc : l.length = c) (hn : c = n) :
    Calls Try.prog 9 #[.pointer (some ⟨g, 0, none⟩), .slice a c ca, .int .i64 n, .agg #[.int .i64 1, .int .i64 N]] w fun e w' => Res2 B n g q w e w' := by
  have H : Hid (St B w g q n f l a ca) := h
  have C : Hid (l.length = c) := hc
  obtain ⟨cn, n1, _⟩ := h.1.nums
  rw [hc] at cn
  have cca : c ≤ ca := by have := h.2.2.1; omega
  have hca := h.2.2.2.1
  unfold maxLen at hca
  have H1 : Hid (St B (w.alloc (.cells #[.int .i64 1, .int .i64 N] 30)) g q n f l a ca) := H.out.keep (box_below _ _)
  have BW : Hid (B ≤ w.heap.size ∧ g < w.heap.size ∧ q < w.heap.size) := ⟨h.2.2.2.2.2.2.2.2, h.1.lt.1, h.1.lt.2⟩
  have OB : Hid (But g q w (w.alloc (.cells #[.int .i64 1, .int .i64 N] 30))) := But.of_below (box_below _ _)
  subst hn
  clear h hc
  go_enter Try.func9, Try.ntmps9
  go_wp2_with fail
  refine (push_full g q c f N l _ H1.out.1 C.out).mono ?_
  rintro e w1 ⟨rfl, z, hz⟩
  go_wp2
  refine bodyPost_ret (v := .tuple #[.pointer (some ⟨g, 0, none⟩), .slice a c ca, .bool true]) (by simp [results, Try.results9, go_sem]) rfl ?_
  subst hz
  exact ⟨g, q, f, c, l, a, ca, rfl, C.out, H1.out.keep (below_drewN (Below.refl _ _) _), OB.out.drew _⟩
set_option maxRecDepth 100000 in
set_option maxHeartbeats 3200000 in
theorem step2_no (B g q n f c ca : Nat) (a : Option Addr) (N : Int) (l : List Int) (w : World) (h : St B w g q n f l a ca) (hc : l.length = c) (hN : N < 1 ∨ c < N) :
    Calls Try.prog 9 #[.pointer (some ⟨g, 0, none⟩), .slice a c ca, .int .i64 n, .agg #[.int .i64 2, .int .i64 N]] w fun e w' => Res2 B n g q w e w' := by
  have H : Hid (St B w g q n f l a ca) := h
  have C : Hid (l.length = c) := hc
  obtain ⟨cn, n1, _⟩ := h.1.nums
  rw [hc] at cn
  have cca : c ≤ ca := by have := h.2.2.1; omega
  have hca := h.2.2.2.1
  unfold maxLen at hca
  have H1 : Hid (St B (w.alloc (.cells #[.int .i64 2, .int .i64 N] 30)) g q n f l a ca) := H.out.keep (box_below _ _)
  have BW : Hid (B ≤ w.heap.size ∧ g < w.heap.size ∧ q < w.heap.size) := ⟨h.2.2.2.2.2.2.2.2, h.1.lt.1, h.1.lt.2⟩
  have OB : Hid (But g q w (w.alloc (.cells #[.int .i64 2, .int .i64 N] 30))) := But.of_below (box_below _ _)
  have HN : Hid (N < 1 ∨ (l.length : Int) < N) := by rw [hc]; exact hN
  obtain ⟨q1, eq1⟩ : ∃ q, decide (N < 1) = q := ⟨_, rfl⟩
  obtain ⟨q2, eq2⟩ : ∃ q, decide ((c : Int) < N) = q := ⟨_, rfl⟩
  have hq : q1 = true ∨ (q1 = false ∧ q2 = true) := by
    by_cases e : N < 1
    · exact .inl (by rw [← eq1]; exact decide_eq_true e)
    · exact .inr ⟨by rw [← eq1]; exact decide_eq_false e, by rw [← eq2]; exact decide_eq_true (by omega)⟩
  clear hN
  clear h hc
  go_enter Try.func9, Try.ntmps9
  rcases hq with rfl | ⟨rfl, rfl⟩
  all_goals
    go_wp2_with fail
    refine (shift_no g q n f N l _ H1.out.1 HN.out).mono ?_
    rintro e w1 ⟨rfl, hb⟩
    have HB : Hid (Below _ (w.alloc (.cells #[.int .i64 2, .int .i64 N] 30)) w1) := hb
    have ob : w1.cell? ⟨w.heap.size, 1, none⟩ = some (.int .i64 N) := (hb.cell (p := ⟨w.heap.size, 1, none⟩) (by simp)).trans (by simp)
    clear hb
    go_wp2
    refine bodyPost_ret (v := .tuple #[.pointer (some ⟨g, 0, none⟩), .slice a c ca, .bool true]) (by simp [results, Try.results9, go_sem]) rfl ?_
    exact ⟨g, q, f, c, l, a, ca, rfl, C.out, H1.out.keep HB.out, OB.out.trans (But.of_below HB.out)⟩
set_option maxRecDepth 100000 in
set_option maxHeartbeats 3200000 in
theorem step2_yes (B g q n f c ca : Nat) (a : Option Addr) (k : Nat) (l : List Int) (w : World) (h : St B w g q n f l a ca) (hc : l.length = c) (hk0 : 1 ≤ k) (hk : k ≤ c) (hne : ¬ ca = k) :
    Calls Try.prog 9 #[.pointer (some ⟨g, 0, none⟩), .slice a c ca, .int .i64 n, .agg #[.int .i64 2, .int .i64 k]] w fun e w' => Res2 B n g q w e w' := by
  have H : Hid (St B w g q n f l a ca) := h
  have C : Hid (l.length = c) := hc
  obtain ⟨cn, n1, _⟩ := h.1.nums
  rw [hc] at cn
  have cca : c ≤ ca := by have := h.2.2.1; omega
  have hca := h.2.2.2.1
  unfold maxLen at hca
  have H1 : Hid (St B (w.alloc (.cells #[.int .i64 2, .int .i64 k] 30)) g q n f l a ca) := H.out.keep (box_below _ _)
  have BW : Hid (B ≤ w.heap.size ∧ g < w.heap.size ∧ q < w.heap.size) := ⟨h.2.2.2.2.2.2.2.2, h.1.lt.1, h.1.lt.2⟩
  have OB : Hid (But g q w (w.alloc (.cells #[.int .i64 2, .int .i64 k] 30))) := But.of_below (box_below _ _)
  have d1 : decide ((k : Int) < 1) = false := decide_eq_false (by omega)
  have d2 : decide ((c : Int) < k) = false := decide_eq_false (by omega)
  obtain ⟨p, ep⟩ : ∃ p, pl f n k = p := ⟨_, rfl⟩
  have EP : Hid (pl f n k = p) := ep
  clear ep
  clear h hc
  go_enter Try.func9, Try.ntmps9
  go_wp2_with fail
  refine (shift_yes g q n f k p l _ H1.out.1 hk0 (by have := C.out; omega) EP.out).mono ?_
  rintro e w1 ⟨s, rfl, hs, hl, hr, hb⟩
  have HB : Hid (But g q (w.alloc (.cells #[.int .i64 2, .int .i64 k] 30)) w1) := hb
  have LS : Hid (Lst .i64 w1 (some ⟨s, 0, none⟩) (l.take k)) := hl
  have RR : Hid (RingAt w1 g q n p (l.drop k)) := hr
  have LA : Hid (Lst .i64 w1 a l) := H1.out.lst hb
  have ob : w1.cell? ⟨w.heap.size, 1, none⟩ = some (.int .i64 k) := (hb.cell (a := ⟨w.heap.size, 1, none⟩) (by simp) (by have := BW.out.2; show ¬ w.heap.size = g; omega) (by have := BW.out.2; show ¬ w.heap.size = q; omega)).trans (by simp)
  have lt : Hid ((l.take k).length = k) := by show _ = _; rw [List.length_take]; have := C.out; omega
  clear hs hl hr hb
  go_wp2
  go_quiet ((go_at_call 12; exact (same_yes (some ⟨s, 0, none⟩) a k k ca (l.take k) _ (LS.out.draws _) ((LA.out.to k).draws _) lt.out (by omega)).mono fun _ _ ⟨he, z, hw⟩ => ⟨he, _, drewN_then hw⟩))
  go_wp2
  refine bodyPost_ret (v := .tuple #[.pointer (some ⟨g, 0, none⟩), .slice (Option.map (fun x => x.add k) a) (c - k) (ca - k), .bool true]) (by simp [results, Try.results9, go_sem]) rfl ?_
  have h9 := H1.out.2.2.2.2.2
  refine ⟨g, q, p, c - k, l.drop k, _, ca - k, rfl, by rw [List.length_drop, C.out], ⟨RR.out.keep (below_drewN (Below.refl _ _) _), (by have := (LA.out.draws nq).left (cap := ca) (by have := C.out; omega) k; rw [if_neg hne] at this; exact this), by rw [List.length_drop, C.out]; omega, by unfold maxLen; omega, fun e => ?_, fun hl x ex => ?_, h9.2.1, h9.2.2.1, ?_⟩, (OB.out.trans HB.out).drew _⟩
  · have h5 := H1.out.2.2.2.2.1
    cases a with
    | none => have := h5 rfl; omega
    | some x => cases e
  · have h6 := h9.1 (by rw [List.length_drop] at hl; omega)
    rw [List.length_drop, C.out] at hl
    cases a with
    | none => cases ex
    | some y =>
      have := h6 y rfl
      have ey : y.add k = x := Option.some.inj ex
      rw [← ey]
      unfold Addr.add
      split <;> exact this
  · exact Nat.le_trans h9.2.2.2 HB.out.size
set_option maxRecDepth 100000 in
set_option maxHeartbeats 3200000 in
theorem step3_no (B g q n f c ca : Nat) (a : Option Addr) (N : Int) (l : List Int) (w : World) (h : St B w g q n f l a ca) (hc : l.length = c) (hN : N < 0 ∨ c < N) :
    Calls Try.prog 9 #[.pointer (some ⟨g, 0, none⟩), .slice a c ca, .int .i64 n, .agg #[.int .i64 3, .int .i64 N]] w fun e w' => Res2 B n g q w e w' := by
  have H : Hid (St B w g q n f l a ca) := h
  have C : Hid (l.length = c) := hc
  obtain ⟨cn, n1, _⟩ := h.1.nums
  rw [hc] at cn
  have cca : c ≤ ca := by have := h.2.2.1; omega
  have hca := h.2.2.2.1
  unfold maxLen at hca
  have H1 : Hid (St B (w.alloc (.cells #[.int .i64 3, .int .i64 N] 30)) g q n f l a ca) := H.out.keep (box_below _ _)
  have BW : Hid (B ≤ w.heap.size ∧ g < w.heap.size ∧ q < w.heap.size) := ⟨h.2.2.2.2.2.2.2.2, h.1.lt.1, h.1.lt.2⟩
  have OB : Hid (But g q w (w.alloc (.cells #[.int .i64 3, .int .i64 N] 30))) := But.of_below (box_below _ _)
  have HN : Hid (N < 0 ∨ (l.length : Int) < N) := by rw [hc]; exact hN
  obtain ⟨q1, eq1⟩ : ∃ q, decide (N < 0) = q := ⟨_, rfl⟩
  obtain ⟨q2, eq2⟩ : ∃ q, decide ((c : Int) < N) = q := ⟨_, rfl⟩
  have hq : q1 = true ∨ (q1 = false ∧ q2 = true) := by
    by_cases e : N < 0
    · exact .inl (by rw [← eq1]; exact decide_eq_true e)
    · exact .inr ⟨by rw [← eq1]; exact decide_eq_false e, by rw [← eq2]; exact decide_eq_true (by omega)⟩
  clear hN
  clear h hc
  go_enter Try.func9, Try.ntmps9
  rcases hq with rfl | ⟨rfl, rfl⟩
  all_goals
    go_wp2_with fail
    refine (cut_no g q n f N l _ H1.out.1 HN.out).mono ?_
    rintro e w' ⟨rfl, hww⟩
    cases hww.symm
    clear hww
    go_wp2
    refine bodyPost_ret (v := .tuple #[.pointer (some ⟨g, 0, none⟩), .slice a c ca, .bool true]) (by simp [results, Try.results9, go_sem]) rfl ?_
    exact ⟨g, q, f, c, l, a, ca, rfl, C.out, H1.out, OB.out⟩
set_option maxRecDepth 100000 in
set_option maxHeartbeats 3200000 in
theorem step3_yes (B g q n f c ca : Nat) (a : Option Addr) (k : Nat) (l : List Int) (w : World) (h : St B w g q n f l a ca) (hc : l.length = c) (hk : k ≤ c) :
    Calls Try.prog 9 #[.pointer (some ⟨g, 0, none⟩), .slice a c ca, .int .i64 n, .agg #[.int .i64 3, .int .i64 k]] w fun e w' => Res2 B n g q w e w' := by
  have H : Hid (St B w g q n f l a ca) := h
  have C : Hid (l.length = c) := hc
  obtain ⟨cn, n1, _⟩ := h.1.nums
  rw [hc] at cn
  have cca : c ≤ ca := by have := h.2.2.1; omega
  have hca := h.2.2.2.1
  unfold maxLen at hca
  have H1 : Hid (St B (w.alloc (.cells #[.int .i64 3, .int .i64 k] 30)) g q n f l a ca) := H.out.keep (box_below _ _)
  have BW : Hid (B ≤ w.heap.size ∧ g < w.heap.size ∧ q < w.heap.size) := ⟨h.2.2.2.2.2.2.2.2, h.1.lt.1, h.1.lt.2⟩
  have OB : Hid (But g q w (w.alloc (.cells #[.int .i64 3, .int .i64 k] 30))) := But.of_below (box_below _ _)
  have d2 : decide ((c : Int) < k) = false := decide_eq_false (by omega)
  clear h hc
  go_enter Try.func9, Try.ntmps9
  go_wp2_with fail
  refine (cut_yes g q n f k l _ H1.out.1 (by have := C.out; omega)).mono ?_
  rintro e w1 ⟨rfl, hr, hb⟩
  have HB : Hid (But g q (w.alloc (.cells #[.int .i64 3, .int .i64 k] 30)) w1) := hb
  have RR : Hid (RingAt w1 g q n f (l.take k)) := hr
  have LA : Hid (Lst .i64 w1 a l) := H1.out.lst hb
  have ob : w1.cell? ⟨w.heap.size, 1, none⟩ = some (.int .i64 k) := (hb.cell (a := ⟨w.heap.size, 1, none⟩) (by simp) (by have := BW.out.2; show ¬ w.heap.size = g; omega) (by have := BW.out.2; show ¬ w.heap.size = q; omega)).trans (by simp)
  clear hr hb
  go_wp2
  go_quiet (fail)
  go_wp2
  refine bodyPost_ret (v := .tuple #[.pointer (some ⟨g, 0, none⟩), .slice a k ca, .bool true]) (by simp [results, Try.results9, go_sem]) rfl ?_
  have h9 := H1.out.2.2.2.2.2
  have lt : (l.take k).length = k := by rw [List.length_take]; have := C.out; omega
  exact ⟨g, q, f, k, l.take k, a, ca, rfl, lt, ⟨RR.out.keep (below_drewN (Below.refl _ _) _), (LA.out.draws _).to k, by omega, by unfold maxLen; omega, H1.out.2.2.2.2.1, fun hl => h9.1 (by rw [List.length_take] at hl; omega), h9.2.1, h9.2.2.1, Nat.le_trans h9.2.2.2 HB.out.size⟩, (OB.out.trans HB.out).drew _⟩
set_option maxRecDepth 100000 in
set_option maxHeartbeats 3200000 in
theorem step5_no (B g q n f c ca : Nat) (a : Option Addr) (kd N : Int) (l : List Int) (w : World) (h : St B w g q n f l a ca) (hc : l.length = c) (hkd : ¬ kd = 1 ∧ ¬ kd = 2 ∧ ¬ kd = 3 ∧ ¬ kd = 4) (hN : N < 0 ∨ c ≤ N) :
    Calls Try.prog 9 #[.pointer (some ⟨g, 0, none⟩), .slice a c ca, .int .i64 n, .agg #[.int .i64 kd, .int .i64 N]] w fun e w' => Res2 B n g q w e w' := by
  have H : Hid (St B w g q n f l a ca) := h
  have C : Hid (l.length = c) := hc
  obtain ⟨cn, n1, _⟩ := h.1.nums
  rw [hc] at cn
  have cca : c ≤ ca := by have := h.2.2.1; omega
  have hca := h.2.2.2.1
  unfold maxLen at hca
  have H1 : Hid (St B (w.alloc (.cells #[.int .i64 kd, .int .i64 N] 30)) g q n f l a ca) := H.out.keep (box_below _ _)
  have BW : Hid (B ≤ w.heap.size ∧ g < w.heap.size ∧ q < w.heap.size) := ⟨h.2.2.2.2.2.2.2.2, h.1.lt.1, h.1.lt.2⟩
  have OB : Hid (But g q w (w.alloc (.cells #[.int .i64 kd, .int .i64 N] 30))) := But.of_below (box_below _ _)
  have e1 : (kd == 1) = false := by simpa using hkd.1
  have e2 : (kd == 2) = false := by simpa using hkd.2.1
  have e3 : (kd == 3) = false := by simpa using hkd.2.2.1
  have e4 : (kd == 4) = false := by simpa using hkd.2.2.2
  clear hkd
  have HN : Hid (N < 0 ∨ (l.length : Int) ≤ N) := by rw [hc]; exact hN
  obtain ⟨q1, eq1⟩ : ∃ q, decide (N < 0) = q := ⟨_, rfl⟩
  obtain ⟨q2, eq2⟩ : ∃ q, decide ((c : Int) ≤ N) = q := ⟨_, rfl⟩
  have hq : q1 = true ∨ (q1 = false ∧ q2 = true) := by
    by_cases e : N < 0
    · exact .inl (by rw [← eq1]; exact decide_eq_true e)
    · exact .inr ⟨by rw [← eq1]; exact decide_eq_false e, by rw [← eq2]; exact decide_eq_true (by omega)⟩
  clear hN
  clear h hc
  go_enter Try.func9, Try.ntmps9
  rcases hq with rfl | ⟨rfl, rfl⟩
  all_goals
    go_wp2_with fail
    refine (at_no g q n f N l _ H1.out.1 HN.out).mono ?_
    rintro e w' ⟨rfl, hww⟩
    cases hww.symm
    clear hww
    go_wp2
    refine bodyPost_ret (v := .tuple #[.pointer (some ⟨g, 0, none⟩), .slice a c ca, .bool true]) (by simp [results, Try.results9, go_sem]) rfl ?_
    exact ⟨g, q, f, c, l, a, ca, rfl, C.out, H1.out, OB.out⟩
set_option maxRecDepth 100000 in
set_option maxHeartbeats 3200000 in
theorem step5_yes (B g q n f c ca : Nat) (a : Option Addr) (kd : Int) (k : Nat) (l : List Int) (w : World) (h : St B w g q n f l a ca) (hc : l.length = c) (hkd : ¬ kd = 1 ∧ ¬ kd = 2 ∧ ¬ kd = 3 ∧ ¬ kd = 4) (hk : k < c) :
    Calls Try.prog 9 #[.pointer (some ⟨g, 0, none⟩), .slice a c ca, .int .i64 n, .agg #[.int .i64 kd, .int .i64 k]] w fun e w' => Res2 B n g q w e w' := by
  have H : Hid (St B w g q n f l a ca) := h
  have C : Hid (l.length = c) := hc
  obtain ⟨cn, n1, _⟩ := h.1.nums
  rw [hc] at cn
  have cca : c ≤ ca := by have := h.2.2.1; omega
  have hca := h.2.2.2.1
  unfold maxLen at hca
  have H1 : Hid (St B (w.alloc (.cells #[.int .i64 kd, .int .i64 k] 30)) g q n f l a ca) := H.out.keep (box_below _ _)
  have BW : Hid (B ≤ w.heap.size ∧ g < w.heap.size ∧ q < w.heap.size) := ⟨h.2.2.2.2.2.2.2.2, h.1.lt.1, h.1.lt.2⟩
  have OB : Hid (But g q w (w.alloc (.cells #[.int .i64 kd, .int .i64 k] 30))) := But.of_below (box_below _ _)
  have e1 : (kd == 1) = false := by simpa using hkd.1
  have e2 : (kd == 2) = false := by simpa using hkd.2.1
  have e3 : (kd == 3) = false := by simpa using hkd.2.2.1
  have e4 : (kd == 4) = false := by simpa using hkd.2.2.2
  clear hkd
  have d2 : decide ((c : Int) ≤ k) = false := decide_eq_false (by omega)
  obtain ⟨x, ex⟩ : ∃ x, Ls.nth l k = x := ⟨_, rfl⟩
  have EX : Hid (Ls.nth l k = x) := ex
  clear ex
  clear h hc
  go_enter Try.func9, Try.ntmps9
  go_wp2_with fail
  refine (at_yes g q n f k x l _ H1.out.1 (by have := C.out; omega) EX.out).mono ?_
  rintro e w1 ⟨rfl, z, hz⟩
  have LA : Lst .i64 w1 a l := by rw [hz]; exact H1.out.2.1.draws z
  have ob : w1.cell? ⟨w.heap.size, 1, none⟩ = some (.int .i64 k) := by rw [hz]; simp
  have HZ : Hid (w1 = (w.alloc (.cells #[.int .i64 kd, .int .i64 k] 30)).drewN z) := hz
  obtain ⟨ab, ao, rfl, hg⟩ := LA.get (show k < l.length by have := C.out; omega)
  have hx := hg k (by have := C.out; omega)
  rw [EX.out] at hx
  clear hz LA hg
  go_wp2
  go_quiet (fail)
  go_wp2
  refine bodyPost_ret (v := .tuple #[.pointer (some ⟨g, 0, none⟩), .slice (some ⟨ab, ao, none⟩) c ca, .bool true]) (by simp [results, Try.results9, go_sem]) rfl ?_
  have e := HZ.out
  subst e
  exact ⟨g, q, f, c, l, _, ca, rfl, C.out, H1.out.keep (below_drewN (below_drewN (Below.refl _ _) _) _), (OB.out.drew _).drew _⟩
set_option maxRecDepth 100000 in
set_option maxHeartbeats 3200000 in
theorem step4_empty_full (B g q n f c ca : Nat) (a : Option Addr) (N : Int) (l : List Int) (w : World) (h : St B w g q n f l a ca) (hc : l.length = c) (hk : c = 0) (hfu : c = n) :
    Calls Try.prog 9 #[.pointer (some ⟨g, 0, none⟩), .slice a c ca, .int .i64 n, .agg #[.int .i64 4, .int .i64 N]] w fun e w' => Res2 B n g q w e w' := by
  have H : Hid (St B w g q n f l a ca) := h
  have C : Hid (l.length = c) := hc
  obtain ⟨cn, n1, _⟩ := h.1.nums
  rw [hc] at cn
  have cca : c ≤ ca := by have := h.2.2.1; omega
  have hca := h.2.2.2.1
  unfold maxLen at hca
  have H1 : Hid (St B (w.alloc (.cells #[.int .i64 4, .int .i64 N] 30)) g q n f l a ca) := H.out.keep (box_below _ _)
  have BW : Hid (B ≤ w.heap.size ∧ g < w.heap.size ∧ q < w.heap.size) := ⟨h.2.2.2.2.2.2.2.2, h.1.lt.1, h.1.lt.2⟩
  have OB : Hid (But g q w (w.alloc (.cells #[.int .i64 4, .int .i64 N] 30))) := But.of_below (box_below _ _)
  have HK : Hid (c = 0) := hk
  clear hk
  have HF : Hid (c = n) := hfu
  clear hfu
  clear h hc
  go_enter Try.func9, Try.ntmps9
  go_wp2_with fail
  refine (copy_any g q n f l _ H1.out.1).mono ?_
  rintro e w1 ⟨o, oq, rfl, hr, ho, hoq, hb⟩
  have WB : Hid (Below _ (w.alloc (.cells #[.int .i64 4, .int .i64 N] 30)) w1) := hb
  have RO : Hid (RingAt w1 o oq n 0 l) := hr
  have HO : Hid (RingAt w1 g q n f l) := H1.out.1.keep hb
  have OO : Hid (w.heap.size < o ∧ w.heap.size < oq) := by simp at ho hoq; exact ⟨by omega, by omega⟩
  clear hr ho hoq hb
  go_wp2_with fail
  refine (shift_no g q n f 1 l _ HO.out (.inr (by have := C.out; have := HK.out; omega))).mono ?_
  rintro e w2 ⟨rfl, hb⟩
  have W2 : Hid (But g q w1 w2) := But.of_below hb
  have R2 : Hid (RingAt w2 g q n f l) := HO.out.keep hb
  clear hb
  go_wp2_with fail
  refine (push_full g q n f 99 l _ R2.out (by have := C.out; have := HF.out; omega)).mono ?_
  rintro e w3 ⟨rfl, z, hz⟩
  have W3 : Hid (But g q w2 w3) := by rw [hz]; exact (But.refl _ _ _).drew z
  clear hz
  go_wp2
  refine bodyPost_ret (v := .tuple #[.pointer (some ⟨o, 0, none⟩), .slice a c ca, .bool true]) (by simp [results, Try.results9, go_sem]) rfl ?_
  have W13 := W2.out.trans W3.out
  have bw := BW.out
  have oo := OO.out
  have h9 := H1.out.2.2.2.2.2
  have st1 := H1.out.keep WB.out
  refine ⟨o, oq, 0, c, l, a, ca, rfl, C.out, ⟨RO.out.of_block (W13.2 o RO.out.lt.1 (by omega) (by omega)) (W13.2 oq RO.out.lt.2 (by omega) (by omega)), st1.lst W13, by have := C.out; omega, by unfold maxLen; omega, H1.out.2.2.2.2.1, fun hl x ex => ?_, by omega, by omega, ?_⟩, (OB.out.trans (But.of_below WB.out)).trans W13⟩
  · have := lst_in H.out.2.1 hl x ex
    omega
  · have := W13.size; have := WB.out.size; have := OB.out.size; omega
set_option maxRecDepth 100000 in
set_option maxHeartbeats 3200000 in
theorem step4_empty_ok (B g q n f c ca : Nat) (a : Option Addr) (N : Int) (l : List Int) (w : World) (h : St B w g q n f l a ca) (hc : l.length = c) (hk : c = 0) (hfu : c < n) :
    Calls Try.prog 9 #[.pointer (some ⟨g, 0, none⟩), .slice a c ca, .int .i64 n, .agg #[.int .i64 4, .int .i64 N]] w fun e w' => Res2 B n g q w e w' := by
  have H : Hid (St B w g q n f l a ca) := h
  have C : Hid (l.length = c) := hc
  obtain ⟨cn, n1, _⟩ := h.1.nums
  rw [hc] at cn
  have cca : c ≤ ca := by have := h.2.2.1; omega
  have hca := h.2.2.2.1
  unfold maxLen at hca
  have H1 : Hid (St B (w.alloc (.cells #[.int .i64 4, .int .i64 N] 30)) g q n f l a ca) := H.out.keep (box_below _ _)
  have BW : Hid (B ≤ w.heap.size ∧ g < w.heap.size ∧ q < w.heap.size) := ⟨h.2.2.2.2.2.2.2.2, h.1.lt.1, h.1.lt.2⟩
  have OB : Hid (But g q w (w.alloc (.cells #[.int .i64 4, .int .i64 N] 30))) := But.of_below (box_below _ _)
  have HK : Hid (c = 0) := hk
  clear hk
  have HF : Hid (c < n) := hfu
  clear hfu
  clear h hc
  go_enter Try.func9, Try.ntmps9
  go_wp2_with fail
  refine (copy_any g q n f l _ H1.out.1).mono ?_
  rintro e w1 ⟨o, oq, rfl, hr, ho, hoq, hb⟩
  have WB : Hid (Below _ (w.alloc (.cells #[.int .i64 4, .int .i64 N] 30)) w1) := hb
  have RO : Hid (RingAt w1 o oq n 0 l) := hr
  have HO : Hid (RingAt w1 g q n f l) := H1.out.1.keep hb
  have OO : Hid (w.heap.size < o ∧ w.heap.size < oq) := by simp at ho hoq; exact ⟨by omega, by omega⟩
  clear hr ho hoq hb
  go_wp2_with fail
  refine (shift_no g q n f 1 l _ HO.out (.inr (by have := C.out; have := HK.out; omega))).mono ?_
  rintro e w2 ⟨rfl, hb⟩
  have W2 : Hid (But g q w1 w2) := But.of_below hb
  have R2 : Hid (RingAt w2 g q n f l) := HO.out.keep hb
  clear hb
  go_wp2_with fail
  refine (push_ok g q n f 99 l _ R2.out (by have := C.out; have := HF.out; omega)).mono ?_
  rintro e w3 ⟨rfl, _, hb⟩
  have W3 : Hid (But g q w2 w3) := hb
  clear hb
  go_wp2
  refine bodyPost_ret (v := .tuple #[.pointer (some ⟨o, 0, none⟩), .slice a c ca, .bool true]) (by simp [results, Try.results9, go_sem]) rfl ?_
  have W13 := W2.out.trans W3.out
  have bw := BW.out
  have oo := OO.out
  have h9 := H1.out.2.2.2.2.2
  have st1 := H1.out.keep WB.out
  refine ⟨o, oq, 0, c, l, a, ca, rfl, C.out, ⟨RO.out.of_block (W13.2 o RO.out.lt.1 (by omega) (by omega)) (W13.2 oq RO.out.lt.2 (by omega) (by omega)), st1.lst W13, by have := C.out; omega, by unfold maxLen; omega, H1.out.2.2.2.2.1, fun hl x ex => ?_, by omega, by omega, ?_⟩, (OB.out.trans (But.of_below WB.out)).trans W13⟩
  · have := lst_in H.out.2.1 hl x ex
    omega
  · have := W13.size; have := WB.out.size; have := OB.out.size; omega
set_option maxRecDepth 100000 in
set_option maxHeartbeats 3200000 in
theorem step4_more_ok (B g q n f c ca : Nat) (a : Option Addr) (N : Int) (l : List Int) (w : World) (h : St B w g q n f l a ca) (hc : l.length = c) (hk : 1 ≤ c) (hfu : c - 1 < n) :
    Calls Try.prog 9 #[.pointer (some ⟨g, 0, none⟩), .slice a c ca, .int .i64 n, .agg #[.int .i64 4, .int .i64 N]] w fun e w' => Res2 B n g q w e w' := by
  have H : Hid (St B w g q n f l a ca) := h
  have C : Hid (l.length = c) := hc
  obtain ⟨cn, n1, _⟩ := h.1.nums
  rw [hc] at cn
  have cca : c ≤ ca := by have := h.2.2.1; omega
  have hca := h.2.2.2.1
  unfold maxLen at hca
  have H1 : Hid (St B (w.alloc (.cells #[.int .i64 4, .int .i64 N] 30)) g q n f l a ca) := H.out.keep (box_below _ _)
  have BW : Hid (B ≤ w.heap.size ∧ g < w.heap.size ∧ q < w.heap.size) := ⟨h.2.2.2.2.2.2.2.2, h.1.lt.1, h.1.lt.2⟩
  have OB : Hid (But g q w (w.alloc (.cells #[.int .i64 4, .int .i64 N] 30))) := But.of_below (box_below _ _)
  obtain ⟨p, ep⟩ : ∃ p, pl f n 1 = p := ⟨_, rfl⟩
  have EP : Hid (pl f n 1 = p) := ep
  clear ep
  have HF : Hid (c - 1 < n) := hfu
  clear hfu
  clear h hc
  go_enter Try.func9, Try.ntmps9
  go_wp2_with fail
  refine (copy_any g q n f l _ H1.out.1).mono ?_
  rintro e w1 ⟨o, oq, rfl, hr, ho, hoq, hb⟩
  have WB : Hid (Below _ (w.alloc (.cells #[.int .i64 4, .int .i64 N] 30)) w1) := hb
  have RO : Hid (RingAt w1 o oq n 0 l) := hr
  have HO : Hid (RingAt w1 g q n f l) := H1.out.1.keep hb
  have OO : Hid (w.heap.size < o ∧ w.heap.size < oq) := by simp at ho hoq; exact ⟨by omega, by omega⟩
  clear hr ho hoq hb
  go_wp2_with fail
  refine (shift_yes g q n f 1 p l _ HO.out (Nat.le_refl _) (by have := C.out; omega) EP.out).mono ?_
  rintro e w2 ⟨s, rfl, _, _, hr, hb⟩
  have W2 : Hid (But g q w1 w2) := hb
  have R2 : Hid (RingAt w2 g q n p (l.drop 1)) := hr
  clear hb hr
  go_wp2_with fail
  refine (push_ok g q n p 99 (l.drop 1) _ R2.out (by rw [List.length_drop]; have := C.out; have := HF.out; omega)).mono ?_
  rintro e w3 ⟨rfl, _, hb⟩
  have W3 : Hid (But g q w2 w3) := hb
  clear hb
  go_wp2
  refine bodyPost_ret (v := .tuple #[.pointer (some ⟨o, 0, none⟩), .slice a c ca, .bool true]) (by simp [results, Try.results9, go_sem]) rfl ?_
  have W13 := W2.out.trans W3.out
  have bw := BW.out
  have oo := OO.out
  have h9 := H1.out.2.2.2.2.2
  have st1 := H1.out.keep WB.out
  refine ⟨o, oq, 0, c, l, a, ca, rfl, C.out, ⟨RO.out.of_block (W13.2 o RO.out.lt.1 (by omega) (by omega)) (W13.2 oq RO.out.lt.2 (by omega) (by omega)), st1.lst W13, by have := C.out; omega, by unfold maxLen; omega, H1.out.2.2.2.2.1, fun hl x ex => ?_, by omega, by omega, ?_⟩, (OB.out.trans (But.of_below WB.out)).trans W13⟩
  · have := lst_in H.out.2.1 hl x ex
    omega
  · have := W13.size; have := WB.out.size; have := OB.out.size; omega
end Rn
end Go.Proofs.Ytgjghnbhpnflfaa
