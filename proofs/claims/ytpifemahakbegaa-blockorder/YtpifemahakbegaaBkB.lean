/- Any call of layer 11's law: the play goes on. -/
import Derived.Test.YtpifemahakbegaaBkT9
import Derived.Test.YtpifemahakbegaaBkT1
import Derived.Test.YtpifemahakbegaaBkT2
import Derived.Test.YtpifemahakbegaaBkT3
import Derived.Test.YtpifemahakbegaaBkT4
import Derived.Test.YtpifemahakbegaaBkT5
import Derived.Test.YtpifemahakbegaaBkT6
import Derived.Test.YtpifemahakbegaaBkT7
import Derived.Deep.RegionLawGrows
import Derived.Test.YtpifemahakbegaaBkT0
import Derived.Deep.Slices
import Derived.Deep.SlicePairs
import Derived.ChangeArms
import Derived.Test.YtpifemahakbegaaPoA
namespace Go.Proofs.Ytpifemahakbegaa
set_option linter.unusedVariables false
set_option linter.unusedSimpArgs false
open Go.RowKit

theorem step_any (B P n m k j : Nat) (kd tb row N : Int) (w : World) (h : PlayP B w P n m k j) (hj : j ≤ 60) (hm : m ≤ 16) (hn : n ≤ 60) :
    Calls Try.prog 9 #[.pointer (some ⟨P, 0, none⟩), .agg #[.int .i64 kd, .int .i64 tb, .int .i64 row, .int .i64 N]] w fun e w' => e = .returned (.bool true) ∧ (∃ k', PlayP B w' P n m k' (j + 1)) ∧ Below B w w' := by
  have h0 := h
  obtain ⟨g, b, R, M, s1, s2, va, vr, T, D, L, col, hC, hD, hB, hF, hG⟩ := h
  have hk := hG.2.2.2.1
  have hk6 := hG.2.2.2.2
  obtain ⟨a, hmx⟩ : ∃ a : Nat, max tb 0 % (k : Int) = a := ⟨(max tb 0 % (k : Int)).toNat, by have := Int.emod_nonneg (max tb 0) (show (k : Int) ≠ 0 by omega); omega⟩
  have ha : a < k := by have := Int.emod_lt_of_pos (max tb 0) (show (0 : Int) < k by omega); omega
  have hR := hC.1.nums.2.1
  have hb := hG.bound hj
  have hl : Bk.len (L a) m ≤ 1000 := by have := hG.2.2.1 a ha; omega
  have quiet : ∀ {e : Ending} {w' : World}, e = .returned (.bool true) ∧ Below w.heap.size w w' → e = .returned (.bool true) ∧ (∃ k', PlayP B w' P n m k' (j + 1)) ∧ Below B w w' := fun q => ⟨q.1, ⟨k, (h0.keep q.2).more⟩, q.2.mono hF.2.2⟩
  by_cases k1 : kd = 1
  · subst k1
    by_cases c1 : row < 0
    · exact (step1_neg B P n m k g b a tb row N R M s1 s2 va vr T D L col w hC hD hB hF hmx hk hk6 hm (by omega) c1).mono fun _ _ q => quiet q
    by_cases c2 : (m : Int) ≤ row
    · exact (step1_big B P n m k g b a tb row N R M s1 s2 va vr T D L col w hC hD hB hF hmx hk hk6 hm (by omega) ⟨by omega, c2⟩).mono fun _ _ q => quiet q
    obtain ⟨r, rfl⟩ : ∃ r : Nat, row = r := ⟨row.toNat, by omega⟩
    have hr : r < m := by omega
    rcases Po.free_cases R with hf | ⟨kk, hkk, hz, hlow⟩
    · refine (step1_full B P n m k g b a tb N r R M s1 s2 va vr T D L col w hC hD hB hF hmx hk hk6 hm (by omega) hr (fun i hi => hf i (by omega))).mono fun e w' q => ?_
      obtain ⟨q0, q1, q2, q3, q4, q5⟩ := q
      exact ⟨q0, ⟨k, g, b, R, M, s1, s2, va, vr, T, D, L, col, q1, q2, q3, q4, hG.mono (Nat.le_succ j)⟩, q5⟩
    · refine (step1_ok B P n m k g b a tb N r R M s1 s2 va vr T D L col w hC hD hB hF hmx hk hk6 hm (by omega) kk (Po.mk N) hr (by omega) hz hlow hl rfl).mono fun e w' q => ?_
      obtain ⟨q0, t1, t2, D', col', q1, q2, q3, q4, q5⟩ := q
      exact ⟨q0, ⟨k, g, b, _, _, t1, t2, va, vr, T, D', _, col', q1, q2, q3, q4, hG.add hR ha hr (by omega) hz⟩, q5⟩
  by_cases k2 : kd = 2
  · subst k2
    by_cases c6 : k = 6
    · exact (step2_six B P n m k g b a tb row N R M s1 s2 va vr T D L col w hC hD hB hF hmx hk hk6 hm (by omega) c6).mono fun _ _ q => quiet q
    · refine (step2_ok B P n m k g b a tb row N R M s1 s2 va vr T D L col w hC hD hB hF hmx hk hk6 hm (by omega) (hG.held ha) hb hl (by omega)).mono fun e w' q => ?_
      obtain ⟨q0, t1, va', vr', T', D', L', col', e1, e2, q1, q2, q3, q4, q5⟩ := q
      exact ⟨q0, ⟨k + 1, g, b, _, _, t1, s2, va', vr', T', D', L', col', q1, q2, q3, q4, hG.fork hR ha (by omega) e1 e2⟩, q5⟩
  by_cases k3 : kd = 3
  · subst k3
    refine (step3_ok B P n m k g b a tb row N R M s1 s2 va vr T D L col w hC hD hB hF hmx hk hk6 hm (by omega) (fun x hx => hG.2.1 a ha x hx) (hG.occs ha) hb hl).mono fun e w' q => ?_
    obtain ⟨q0, t1, D', q1, q2, q3, q4, q5⟩ := q
    exact ⟨q0, ⟨k, g, b, _, _, t1, s2, va, vr, T, D', _, col, q1, q2, q3, q4, (hG.clear hR ha).mono (Nat.le_succ j)⟩, q5⟩
  by_cases c1 : row < 0
  · exact (step4_neg B P n m k g b a kd tb row N R M s1 s2 va vr T D L col w hC hD hB hF hmx hk hk6 hm (by omega) k1 k2 k3 c1).mono fun _ _ q => quiet q
  by_cases c2 : (m : Int) ≤ row
  · exact (step4_big B P n m k g b a kd tb row N R M s1 s2 va vr T D L col w hC hD hB hF hmx hk hk6 hm (by omega) k1 k2 k3 ⟨by omega, c2⟩).mono fun _ _ q => quiet q
  by_cases c3 : N < 0
  · exact (step4_under B P n m k g b a kd tb row N R M s1 s2 va vr T D L col w hC hD hB hF hmx hk hk6 hm (by omega) k1 k2 k3 ⟨⟨by omega, by omega⟩, c3⟩).mono fun _ _ q => quiet q
  obtain ⟨r, rfl⟩ : ∃ r : Nat, row = r := ⟨row.toNat, by omega⟩
  have hr : r < m := by omega
  by_cases c4 : ((L a r).length : Int) ≤ N
  · exact (step4_over B P n m k g b a kd tb N r R M s1 s2 va vr T D L col w hC hD hB hF hmx hk hk6 hm (by omega) k1 k2 k3 ⟨hr, by omega, c4⟩).mono fun _ _ q => quiet q
  · obtain ⟨i, rfl⟩ : ∃ i : Nat, N = i := ⟨N.toNat, by omega⟩
    have hi : i < (L a r).length := by omega
    have hx := hG.held ha _ (Bk.flat_mem hr (Bk.mem_nth hi))
    obtain ⟨s, es⟩ : ∃ s : Nat, Ls.nth (L a r) i = s := ⟨(Ls.nth (L a r) i).toNat, by omega⟩
    rw [es] at hx
    exact (step4_ok B P n m k g b a kd tb r i R M s1 s2 va vr T D L col w hC hD hB hF hmx hk hk6 hm (by omega) k1 k2 k3 s hr hi es (by omega) (by simpa using hx.2)).mono fun _ _ q => quiet q
end Go.Proofs.Ytpifemahakbegaa
/- Layer 11's law: a play is begun. -/
namespace Go.Proofs.Ytpifemahakbegaa
set_option linter.unusedVariables false
set_option linter.unusedSimpArgs false
open Go.RowKit

theorem begun_slots (n m : Int) (h : n < 0 ∨ 16384 < n) (w : World) :
    Calls Try.prog 8 #[.int .i64 n, .int .i64 m] w fun e w' => e = .returned (.pointer none) ∧ w' = w := by
  go_enter Try.func8, Try.ntmps8
  go_wp2_with (go_at_call 21; refine (newPool_bad n h _).mono ?_; rintro e w' ⟨rfl, hww⟩; cases hww.symm; clear hww)
  go_ret
  exact ⟨rfl, rfl⟩
theorem begun_rows (n : Nat) (m : Int) (hn : n ≤ 16384) (h : m < 0 ∨ 16 < m) (w : World) :
    Calls Try.prog 8 #[.int .i64 n, .int .i64 m] w fun e w' => e = .returned (.pointer none) ∧ Below w.heap.size w w' := by
  go_enter Try.func8, Try.ntmps8
  go_wp2_with (first
    | (go_at_call 21; refine (newPool_ok n hn _).mono ?_; rintro e w1 ⟨g, b, rfl, hp, hg, hb, hbel⟩; have BB : Hid (Below w.heap.size w w1) := hbel; clear hp hg hb hbel)
    | (go_at_call 22; refine (newTable_bad g m h _).mono ?_; rintro e w' ⟨rfl, hww⟩; cases hww.symm; clear hww))
  go_ret
  exact ⟨rfl, BB.out⟩
theorem heap_old {w : World} {o : Obj} {k : Nat} (h : k < w.heap.size) : (w.alloc o).heap[k]? = w.heap[k]? := ((Below.refl w.heap.size w).alloc (Nat.le_refl _) o).block k h
/-- Whose the blocks of a play are that was just begun. -/
def col1 (s1 s2 P X1 X3 g b T : Nat) : Nat → Nat := fun q => if q = P ∨ q = X1 ∨ q = X3 ∨ q = g ∨ q = b ∨ q = T then 1000 else if s1 ≤ q ∧ q < s2 then 1 else 0
theorem begun_close {B : Nat} {w1 w2 v : World} {g b n T m P X1 X2 X3 c1 c2 lo hi : Nat} {a1 a2 : Option Addr} (hp : PoolAt w2 g b n (Po.zeros n) (Po.zeros n)) (hg : B ≤ g) (hb : B ≤ b) (hg1 : g < w1.heap.size) (hb1 : b < w1.heap.size) (hB1 : B ≤ w1.heap.size) (h12 : w1.heap.size ≤ w2.heap.size) (ht : Tab w2 g T m (fun _ => []) (fun q => w1.heap.size ≤ q)) (hT : w1.heap.size ≤ T)
    (hbel : Below w2.heap.size w2 v) (xP : w2.heap.size ≤ P) (x1 : w2.heap.size ≤ X1) (x2 : w2.heap.size ≤ X2) (x3 : w2.heap.size ≤ X3) (xlo : w2.heap.size ≤ lo)
    (hP : v.heap[P]? = some (.cells #[.pointer (some ⟨g, 0, none⟩), .slice a1 n c1, .slice a2 n c2, .slice (some ⟨X1, 0, none⟩) 1 1, .slice (some ⟨X3, 0, none⟩) 1 1] 37))
    (h1 : v.heap[X1]? = some (.cells #[.pointer (some ⟨T, 0, none⟩)] 38)) (h2 : v.heap[X2]? = some (.cells (madeCells #[.slice none 0 0] m) 31)) (h3 : v.heap[X3]? = some (.cells #[.slice (some ⟨X2, 0, none⟩) m m] 53))
    (l1 : Lst .i64 v a1 (Po.zeros n)) (l2 : Lst .i64 v a2 (Po.zeros n)) (n1 : a1 = none → c1 = 0) (n2 : a2 = none → c2 = 0) (o1 : ∀ x, a1 = some x → lo ≤ x.block) (o2 : ∀ x, a2 = some x → lo ≤ x.block) (u1 : ∀ x, a1 = some x → 0 < n → x.block < hi) (u2 : ∀ x, a2 = some x → 0 < n → x.block < hi)
    (yP : P < lo ∨ hi ≤ P) (y1 : X1 < lo ∨ hi ≤ X1) (y3 : X3 < lo ∨ hi ≤ X3) : PlayP B v P n m 1 0 := by
  have tP : Ty v P 37 := ⟨_, _, hP⟩
  have t1 : Ty v X1 38 := ⟨_, _, h1⟩
  have t2 : Ty v X2 31 := ⟨_, _, h2⟩
  have t3 : Ty v X3 53 := ⟨_, _, h3⟩
  have hTl := ht.lt
  have z : ∀ q, w2.heap.size ≤ q → ¬ q = P → ¬ q = X1 → ¬ q = X3 → col1 w1.heap.size w2.heap.size P X1 X3 g b T q = 0 := fun q h0 h1 h2 h3 => by
    unfold col1
    rw [if_neg (by omega), if_neg (by omega)]
  have k : ∀ q, q = P ∨ q = X1 ∨ q = X3 ∨ q = g ∨ q = b ∨ q = T → col1 w1.heap.size w2.heap.size P X1 X3 g b T q = 1000 := fun q h => if_pos h
  have sz : ∀ j, Ls.nth (Po.zeros n) j = 0 := fun j => Po.nth_zeros n j
  refine ⟨g, b, Po.zeros n, Po.zeros n, .slice a1 n c1, .slice a2 n c2, .slice (some ⟨X1, 0, none⟩) 1 1, .slice (some ⟨X3, 0, none⟩) 1 1, fun _ => T, fun _ => .slice (some ⟨X2, 0, none⟩) m m, fun _ _ => [], col1 w1.heap.size w2.heap.size P X1 X3 g b T, ?_, ?_, ?_, ?_, ?_⟩
  · refine ⟨hp.keep hbel, fun i hi => ⟨?_, k T (by omega)⟩, k g (by omega), k b (by omega)⟩
    obtain rfl : i = 0 := by omega
    have tT := ht.ty
    obtain ⟨r, hr, hrw⟩ := ht
    refine Tab.keep ⟨r, hr, hrw.mono2 fun q hl hty hq => ?_⟩ hbel
    have a1 : ¬ q = g := by rcases hty with t | t <;> exact t.ne hp.tys.1 (by decide)
    have a2 : ¬ q = b := by rcases hty with t | t <;> exact t.ne hp.tys.2 (by decide)
    have a3 : ¬ q = T := by rcases hty with t | t <;> exact t.ne tT (by decide)
    show col1 _ _ P X1 X3 g b T q = 0 + 1
    unfold col1
    rw [if_neg (by omega), if_pos ⟨hq, hl⟩]
  · refine ⟨⟨a1, c1, a2, c2, rfl, rfl, l1, l2, n1, n2, fun x ex hn => ?_, fun x ex hn => ?_, Po.zeros_length n, Po.zeros_length n⟩, fun i hi => ?_⟩
    · have := o1 x ex
      have := u1 x ex hn
      exact z _ (by omega) (by omega) (by omega) (by omega)
    · have := o2 x ex
      have := u2 x ex hn
      exact z _ (by omega) (by omega) (by omega) (by omega)
    · exact rws_made ⟨_, h2, size_madeCells _ _, fun i hi => by simp [madeCells, hi, Nat.mod_one]⟩ (z X2 x2 (t2.ne tP (by decide)) (t2.ne t1 (by decide)) (t2.ne t3 (by decide)))
  · refine ⟨⟨_, hP, rfl, fun i hi => ?_⟩, ⟨rfl, .inr ⟨X1, 1, _, rfl, by omega, h1, Nat.le_refl _, by decide, rfl, rfl⟩⟩, ⟨rfl, .inr ⟨X3, 1, _, rfl, by omega, h3, Nat.le_refl _, by decide, rfl, rfl⟩⟩, k P (by omega), fun q hq => ?_, fun q hq => ?_⟩
    · match i, hi with
      | 0, _ => rfl
      | 1, _ => rfl
      | 2, _ => rfl
      | 3, _ => rfl
      | 4, _ => rfl
    · cases hq; exact k X1 (by omega)
    · cases hq; exact k X3 (by omega)
  · have hs := hbel.size
    have e1 := tP.lt
    have e2 := t1.lt
    have e3 := t3.lt
    refine ⟨fun q hq => z q (by omega) (by omega) (by omega) (by omega), fun q hq => ?_, by omega⟩
    by_cases e : q < B
    · exfalso
      apply hq
      unfold col1
      rw [if_neg (by omega), if_neg (by omega)]
    · omega
  · refine ⟨fun x hx => ?_, fun i hi x hx => ?_, fun i hi => ?_, by omega, by omega⟩
    · rw [sz]
      show (0 : Int) = ((0 + Bk.occ x (Bk.flat (fun _ => []) m) : Nat) : Int)
      rw [Bk.flat_nil]
      rfl
    · rw [Bk.flat_nil] at hx; cases hx
    · unfold Bk.len; rw [Bk.flat_nil]; exact Nat.le_refl _

set_option maxRecDepth 100000 in
set_option maxHeartbeats 1600000 in
theorem begun_ok (n m : Nat) (hn : n ≤ 60) (hm : m ≤ 16) (w : World) :
    Calls Try.prog 8 #[.int .i64 n, .int .i64 m] w fun e w' => ∃ P, e = .returned (.pointer (some ⟨P, 0, none⟩)) ∧ PlayP w.heap.size w' P n m 1 0 ∧ Below w.heap.size w w' := by
  have hmk := run_make_row' (P := Try.prog) 53 31 (.slice none 0 0) 24 Try.underlying53 Try.infoSlices rfl .i64 .i64 m (by omega) (by omega)
  go_enter Try.func8, Try.ntmps8
  go_wp2_with (first
    | (go_at_call 21; refine (newPool_ok n (by omega) _).mono ?_; rintro e w1 ⟨g, b, rfl, hp, hg, hb, hbel⟩; have P1 : Hid (PoolAt w1 g b n (Po.zeros n) (Po.zeros n) ∧ w.heap.size ≤ g ∧ w.heap.size ≤ b) := ⟨hp, hg, hb⟩; have B1 : Hid (Below w.heap.size w w1) := hbel; clear hp hg hb hbel)
    | (go_at_call 22; refine (newTable_ok g m hm _).mono ?_; rintro e w2 ⟨T, rfl, ht, hT, hbel⟩; have T2 : Hid (Tab w2 g T m (fun _ => []) (fun q => w1.heap.size ≤ q) ∧ w1.heap.size ≤ T) := ⟨ht, hT⟩; have B2 : Hid (Below w1.heap.size w1 w2) := hbel; clear ht hT hbel))
  go_region_held3 (fun _ => True) (trivial) (first | (go_at_call 25; refine (refNew_any n (by omega) _).mono ?_; rintro e w3 ⟨a1, c1, a2, c2, rfl, hl1, hl2, hn1, hn2, hx1, hx2, hb3⟩; have L3 : Hid (Lst .i64 w3 a1 (Po.zeros n) ∧ Lst .i64 w3 a2 (Po.zeros n) ∧ (a1 = none → c1 = 0) ∧ (a2 = none → c2 = 0)) := ⟨hl1, hl2, hn1, hn2⟩; have S3 := hb3.size; have B3 := hb3; have O1 := hx1; have O2 := hx2; clear hl1 hl2 hn1 hn2 hx1 hx2 hb3))
  all_goals go_wp2
  all_goals go_ret
  all_goals
    have hs12 := B2.out.size
    have hs1 := B1.out.size
    have hpl := P1.out.1.lt
    simp at S3
    have hv : ∀ {x : World}, Below w2.heap.size w2 x → Below w.heap.size w x := fun h => (B1.out.trans (B2.out.mono hs1)).trans (h.mono (by omega))
    refine ⟨_, rfl, ?_, hv ?_⟩
    · apply begun_close (P1.out.1.keep B2.out) P1.out.2.1 P1.out.2.2 hpl.1 hpl.2 hs1 hs12 T2.out.1 T2.out.2 (n1 := L3.out.2.2.1) (n2 := L3.out.2.2.2) (o1 := O1) (o2 := O2) (u1 := fun x ex h => lst_lt L3.out.1 (by rw [Po.zeros_length]; exact h) x ex) (u2 := fun x ex h => lst_lt L3.out.2.1 (by rw [Po.zeros_length]; exact h) x ex)
      case hP => repeat' first | exact heap_lit (by simp) | refine (heap_old (by first | omega | (simp; omega) | (simp; done))).trans ?_ | refine (B3.block _ (by first | omega | (simp; omega) | (simp; done))).trans ?_
      case h3 => repeat' first | exact heap_lit (by simp) | refine (heap_old (by first | omega | (simp; omega) | (simp; done))).trans ?_ | refine (B3.block _ (by first | omega | (simp; omega) | (simp; done))).trans ?_
      case h1 => repeat' first | exact heap_lit (by simp) | refine (heap_old (by first | omega | (simp; omega) | (simp; done))).trans ?_ | refine (B3.block _ (by first | omega | (simp; omega) | (simp; done))).trans ?_
      case h2 => repeat' first | exact heap_lit (by simp) | refine (heap_old (by first | omega | (simp; omega) | (simp; done))).trans ?_ | refine (B3.block _ (by first | omega | (simp; omega) | (simp; done))).trans ?_
      case l1 => exact L3.out.1.keep (by repeat' first | exact Below.refl _ _ | refine Below.alloc ?_ (by first | omega | (simp; omega) | (simp; done)) _ | refine Below.drew ?_)
      case l2 => exact L3.out.2.1.keep (by repeat' first | exact Below.refl _ _ | refine Below.alloc ?_ (by first | omega | (simp; omega) | (simp; done)) _ | refine Below.drew ?_)
      case hbel => repeat' first | exact Below.refl _ _ | refine Below.alloc ?_ (by first | omega | (simp; omega) | (simp; done)) _ | refine Below.drew ?_ | refine Below.trans ?_ (B3.mono (by first | omega | (simp; omega) | (simp; done)))
      all_goals (first | omega | (simp; omega) | (simp; done))
    · repeat' first | exact Below.refl _ _ | refine Below.alloc ?_ (by first | omega | (simp; omega) | (simp; done)) _ | refine Below.drew ?_ | refine Below.trans ?_ (B3.mono (by first | omega | (simp; omega) | (simp; done)))
end Go.Proofs.Ytpifemahakbegaa
/- What layer 11's laws share: a slice of calls (structs of four numbers) that came in. -/
namespace Go.Proofs.Ytpifemahakbegaa
set_option linter.unusedVariables false
open Go.RowKit Go.ChangeShapes Go.WideShapes

/-- The frame's word of a slice of calls that came in. -/
def IsCalls (w : World) (a : Option Addr) (len cap : Nat) : Prop :=
  (a = none ∧ len = 0 ∧ cap = 0) ∨
  ∃ x, a = some x ∧ len ≤ cap ∧ cap ≤ maxLen ∧ ∀ i, i < len → ∃ k t r n : Int, w.cell? (x.add (i * 4)) = some (.int .i64 k) ∧ w.cell? (x.add (i * 4 + 1)) = some (.int .i64 t) ∧ w.cell? (x.add (i * 4 + 2)) = some (.int .i64 r) ∧ w.cell? (x.add (i * 4 + 3)) = some (.int .i64 n)
/-- THE SLICE AT a READS AS n CALLS. -/
def Cls (w : World) (a : Option Addr) (n : Nat) (K : Nat → Int × Int × Int × Int) : Prop :=
  ∀ i, i < n → ∃ b o, a = some ⟨b, o, none⟩ ∧ w.cell? ⟨b, o + i * 4, none⟩ = some (.int .i64 (K i).1) ∧ w.cell? ⟨b, o + i * 4 + 1, none⟩ = some (.int .i64 (K i).2.1) ∧ w.cell? ⟨b, o + i * 4 + 2, none⟩ = some (.int .i64 (K i).2.2.1) ∧ w.cell? ⟨b, o + i * 4 + 3, none⟩ = some (.int .i64 (K i).2.2.2)
theorem Cls.keep {w w' : World} {a : Option Addr} {n : Nat} {K : Nat → Int × Int × Int × Int} (h : Cls w a n K) (hb : Below w.heap.size w w') : Cls w' a n K := fun i hi => by
  obtain ⟨b, o, e, h1, h2, h3, h4⟩ := h i hi
  have hlt := World.block_lt_of_cell? w _ h1
  exact ⟨b, o, e, (hb.cell (p := ⟨b, o + i * 4, none⟩) hlt).trans h1, (hb.cell (p := ⟨b, o + i * 4 + 1, none⟩) hlt).trans h2, (hb.cell (p := ⟨b, o + i * 4 + 2, none⟩) hlt).trans h3, (hb.cell (p := ⟨b, o + i * 4 + 3, none⟩) hlt).trans h4⟩
theorem calls_open {w : World} {a : Option Addr} {len cap : Nat} (h : IsCalls w a len cap) : ∃ K : Nat → Int × Int × Int × Int, Cls w a len K ∧ len ≤ maxLen := by
  rcases h with ⟨rfl, rfl, rfl⟩ | ⟨x, rfl, h1, h2, h3⟩
  · exact ⟨fun _ => (0, 0, 0, 0), fun i hi => by omega, Nat.zero_le _⟩
  · have each : ∀ i, i < len → ∃ q : Int × Int × Int × Int, w.cell? (x.add (i * 4)) = some (.int .i64 q.1) ∧ w.cell? (x.add (i * 4 + 1)) = some (.int .i64 q.2.1) ∧ w.cell? (x.add (i * 4 + 2)) = some (.int .i64 q.2.2.1) ∧ w.cell? (x.add (i * 4 + 3)) = some (.int .i64 q.2.2.2) := by
      intro i hi
      obtain ⟨k, t, r, n, q⟩ := h3 i hi
      exact ⟨(k, t, r, n), q⟩
    obtain ⟨q, hq⟩ := Go.Deep.choose_lt each
    refine ⟨q, fun i hi => ?_, by omega⟩
    have h0 := (hq 0 (by omega)).1
    have e0 : x.add (0 * 4) = x := by simp [Addr.add]
    rw [e0] at h0
    obtain ⟨b, o, rfl⟩ := addr_plain h0
    obtain ⟨c1, c2, c3, c4⟩ := hq i hi
    rw [Addr.add_lit] at c1 c2 c3 c4
    exact ⟨b, o, rfl, c1, by rw [Nat.add_assoc]; exact c2, by rw [Nat.add_assoc]; exact c3, by rw [Nat.add_assoc]; exact c4⟩
/-- Out of what the frame reads. -/
theorem open_calls {H : Type} {enc : TypeId × Value → H} {P : Program} {w : World} {base : Nat} {spare : Nat → Bool} {held : Bool} {t e ti : TypeId} {f0 f1 f2 f3 : Field} {fuel : Nat} {a : Option Addr} {len cap : Nat} {x : DataW H × List MemPlace}
    (ht : P.underlying t = some (.slice e)) (he : P.underlying e = some (.struct #[f0, f1, f2, f3])) (hi : P.underlying ti = some (.int .i64)) (ce : P.cellsOf e = 4) (ci : P.cellsOf ti = 1)
    (o0 : f0.offset = 0) (o1 : f1.offset = 1) (o2 : f2.offset = 2) (o3 : f3.offset = 3) (t0 : f0.type = ti) (t1 : f1.type = ti) (t2 : f2.type = ti) (t3 : f3.type = ti)
    (h : DataW.trod enc P w base spare held fuel t [.slice a len cap] = some x) : IsCalls w a len cap := by
  rcases Go.Deep.open_slice ht h with ⟨h0, _⟩ | ⟨y, l, c, m, n, D, Pl, hcs, hb, hl, hm, hmm, _, hall⟩
  · simp at h0
    exact .inl h0
  · simp at hcs
    obtain ⟨rfl, rfl, rfl⟩ := hcs
    refine .inr ⟨y, rfl, hl, hm, fun i hi' => ?_⟩
    have hlm : len ≤ m := by rw [hmm]; split <;> omega
    obtain ⟨cs, h1, h2⟩ := hall i (by omega)
    rw [ce] at h1
    obtain ⟨_, hlen, hcell⟩ := World.cells?_some h1
    obtain ⟨xs, k, hk, hxy, _, hxl, hf⟩ := DataW.trod_struct he h2
    match xs, hxl, cs, hlen with
    | [y0, y1, y2, y3], _, [v0, v1, v2, v3], _ =>
      have g0 := hf 0 f0 rfl
      have g1 := hf 1 f1 rfl
      have g2 := hf 2 f2 rfl
      have g3 := hf 3 f3 rfl
      simp [o0, o1, o2, o3, t0, t1, t2, t3, ci] at g0 g1 g2 g3
      have e0 := hcell 0 (by omega)
      have e1 := hcell 1 (by omega)
      have e2 := hcell 2 (by omega)
      have e3 := hcell 3 (by omega)
      rw [Go.Deep.add_add] at e0 e1 e2 e3
      obtain ⟨k0, q0, _, _⟩ := DataW.trod_int hi g0
      obtain ⟨k1, q1, _, _⟩ := DataW.trod_int hi g1
      obtain ⟨k2, q2, _, _⟩ := DataW.trod_int hi g2
      obtain ⟨k3, q3, _, _⟩ := DataW.trod_int hi g3
      simp only [List.cons.injEq, and_true] at q0 q1 q2 q3
      subst q0 q1 q2 q3
      exact ⟨k0, k1, k2, k3, by simpa using e0, by simpa using e1, by simpa using e2, by simpa using e3⟩
end Go.Proofs.Ytpifemahakbegaa
/- All that layer 11's laws lean on. -/
namespace Go.Proofs.Ytpifemahakbegaa
set_option linter.unusedVariables false
open Go.RowKit

/-- All tables but those behind the first i are empty: all counts are 0 when all are. -/
theorem Good.none {n m k j : Nat} {R : List Int} {L : Nat → Nat → List Int} (h : Good n m k j R L) (hR : R.length = n) (h0 : ∀ i, i < k → L i = fun _ => []) : Po.cnt R = n ∧ Po.used R = [] := by
  have z : ∀ x, x < R.length → Ls.nth R x = 0 := fun x hx => by
    rw [h.1 x (by omega)]
    have e : Bk.tot L m (x : Int) k = Bk.tot (fun _ _ => []) m (x : Int) k := Bk.tot_congr h0
    have e2 : ∀ k : Nat, Bk.tot (fun _ _ => []) m (x : Int) k = 0 := fun k => by
      induction k with
      | zero => rfl
      | succ k ih => show Bk.tot _ m _ k + Bk.occ _ (Bk.flat (fun _ => []) m) = 0; rw [ih, Bk.flat_nil]; rfl
    rw [e, e2]
    rfl
  have hp : ∀ i, 0 ≤ Ls.nth R i := fun i => by
    by_cases e : i < R.length
    · rw [z i e]; decide
    · simp [Ls.nth, Nat.le_of_not_lt e]
  have c : Po.cnt R = R.length := Po.cntN_all fun i hi => z i hi
  have u := Po.cnt_used hp
  exact ⟨by omega, List.length_eq_zero_iff.1 (by omega)⟩
theorem clear_play (B P n m k j i g b : Nat) (R M : List Int) (s1 s2 va vr : Value) (T : Nat → Nat) (D : Nat → Value) (L : Nat → Nat → List Int) (col : Nat → Nat) (w : World) (hC : Core w n m k g b R M T L col) (hB : Box B w P g k s1 s2 va vr T D col) (hF : Fresh B w col) (hG : Good n m k j R L) (hi : i < k) (hm : m ≤ 16) (hj : j ≤ 60) :
    Calls Try.prog 11 #[.pointer (some ⟨T i, 0, none⟩)] w fun e w' => e = .returned (.tuple #[]) ∧ ∃ R', Core w' n m k g b R' M T (Bk.put L i (fun _ => [])) col ∧ Box B w' P g k s1 s2 va vr T D col ∧ Fresh B w' col ∧ Good n m k j R' (Bk.put L i (fun _ => [])) ∧ Below B w w' := by
  have hk6 := hG.2.2.2.2
  refine (clear_any g b n (T i) m R M (L i) _ w hC.1 (hC.2.1 i hi).1 hm (by have := hG.2.2.1 i hi; omega) (hG.2.1 i hi) (hG.occs hi) (hG.bound hj)).mono fun e w' q => ?_
  obtain ⟨q0, hp, ht, hb⟩ := q
  exact ⟨q0, _, hC.but hi hb (by omega) hp ht (fun _ _ => rfl), hB.but hC.1 hb (by omega), hF.keep hb.size, hG.clear hC.1.nums.2.1 hi,
    hb.below (hF.2.1 g (by have := hC.2.2.1; omega)) (hF.2.1 b (by have := hC.2.2.2; omega)) hF.2.2 (fun q hq => hF.2.1 q (by have : col q = i + 1 := hq; omega))⟩
end Go.Proofs.Ytpifemahakbegaa
/- Layer 11: an Add either way, with what the counts say of another table's entries. -/
namespace Go.Proofs.Ytpifemahakbegaa
set_option linter.unusedVariables false
open Go.RowKit

theorem add_one (g b n T m row q : Nat) (mk : Int) (R M : List Int) (L : Nat → List Int) (c : Nat → Nat) (Q : Nat → Prop) (w : World) (hp : PoolAt w g b n R M) (h : Tab w g T m L Q) (hr : row < m) (hL : Bk.len L m ≤ 900) (hq : PgM w q mk)
    (hx : ∀ x, x ∈ Bk.flat L m → 0 ≤ x ∧ x < n) (hu : ∀ x : Nat, x < n → ((Bk.occ x (Bk.flat L m) + c x : Nat) : Int) ≤ Ls.nth R x) (hb : ∀ x, x < n → Ls.nth R x ≤ 900) :
    Calls Try.prog 16 #[.pointer (some ⟨T, 0, none⟩), .int .i64 row, .pointer (some ⟨q, 0, none⟩)] w fun e w' => ∃ (s : Int) (R' M' : List Int) (L' : Nat → List Int), e = .returned (.int .i64 s) ∧ PoolAt w' g b n R' M' ∧ Tab w' g T m L' (fun j => Q j ∨ w.heap.size ≤ j) ∧ ButQ g b Q w w' ∧
      Bk.len L' m ≤ 1000 ∧ (∀ x, x ∈ Bk.flat L' m → 0 ≤ x ∧ x < n) ∧ (∀ x : Nat, x < n → ((Bk.occ x (Bk.flat L' m) + c x : Nat) : Int) ≤ Ls.nth R' x) ∧ ∀ x, x < n → Ls.nth R' x ≤ 1000 := by
  obtain ⟨_, lR, _, hn, hp0⟩ := hp.nums
  rcases Po.free_cases R with hf | ⟨k, hk, hz, hl⟩
  · refine (add_full g b n T m row _ R M L Q w hp h hr hf).mono fun e w' z => ?_
    obtain ⟨rfl, hww⟩ := z
    rw [hww]
    exact ⟨23, R, M, L, rfl, hp, h.mono fun _ _ q => .inl q, ButQ.refl _ _ _ _, by omega, hx, hu, fun x hx => by have := hb x hx; omega⟩
  · have hL1 : (L row).length ≤ 100000 := by have := Bk.row_le L hr; omega
    refine (add_ok g b n T m row k q mk R M L Q w hp h hr hL1 (by omega) hz hl hq).mono fun e w' z => ?_
    obtain ⟨rfl, z1, z2, z3⟩ := z
    refine ⟨0, _, _, _, rfl, z1, z2, z3, by rw [Bk.len_up L hr]; omega, fun x hxm => ?_, fun x hx1 => ?_, fun x hx1 => ?_⟩
    · rcases Bk.mem_up hxm hr with q | q
      · omega
      · exact hx x q
    · rw [Bk.occ_up L hr, Po.nth_set hk]
      have := hu x hx1
      by_cases e : x = k
      · subst e
        rw [hz] at this
        rw [if_pos rfl, if_pos rfl]
        omega
      · rw [if_neg e, if_neg (by omega)]
        omega
    · rw [Po.nth_set hk]
      have := hb x hx1
      split <;> omega
/-- The play's own pointer to its pool. -/
def PlG (w : World) (P g : Nat) : Prop := ∃ f, w.rowIs P 37 5 f ∧ f 0 = .pointer (some ⟨g, 0, none⟩)
theorem PlG.of_block {w w' : World} {P g : Nat} (h : PlG w P g) (hb : w'.heap[P]? = w.heap[P]?) : PlG w' P g := by
  obtain ⟨f, h1, h2⟩ := h
  exact ⟨f, h1.of_block hb, h2⟩
theorem PlG.lt {w : World} {P g : Nat} (h : PlG w P g) : P < w.heap.size := by obtain ⟨f, h1, _⟩ := h; exact h1.lt
theorem PlG.ty {w : World} {P g : Nat} (h : PlG w P g) : Ty w P 37 := by obtain ⟨f, h1, _⟩ := h; exact ty_row h1
theorem PlG.cell {w : World} {P g : Nat} (h : PlG w P g) : w.cell? ⟨P, 0, none⟩ = some (.pointer (some ⟨g, 0, none⟩)) := by
  obtain ⟨f, h1, h2⟩ := h
  rw [← h2]
  exact h1.cell (show 0 < 5 by decide)
theorem PlG.keep {w w' : World} {P g : Nat} (h : PlG w P g) (hb : Below w.heap.size w w') : PlG w' P g := h.of_block (hb.block P h.lt)
theorem PlG.but {w w' : World} {P g b n : Nat} {R M : List Int} {Q : Nat → Prop} (h : PlG w P g) (hp : PoolAt w g b n R M) (hb : ButQ g b Q w w') (hq : ¬ Q P) : PlG w' P g :=
  h.of_block (hb.block h.lt (h.ty.ne hp.tys.1 (by decide)) (h.ty.ne hp.tys.2 (by decide)) hq)
/-- A row of numbers of the call's own stands behind a table's call, where it is none of the table's. -/
theorem own_but {w w' : World} {base g b n N : Nat} {R M : List Int} {v : Value} {xs : List Value} {Q : Nat → Prop} (h : w.ownsRow base 3 1 v N xs) (hp : PoolAt w g b n R M) (hb : ButQ g b Q w w') (hq : ∀ q, v.ownBlock = some q → ¬ Q q) : w'.ownsRow base 3 1 v N xs :=
  own_at h fun q e => hb.block (h.lt q e).2 ((ty_own h e).ne hp.tys.1 (by decide)) ((ty_own h e).ne hp.tys.2 (by decide)) (hq q e)
theorem own_lst {w : World} {base N c : Nat} {t : TypeId} {a : Option Addr} {l : List Int} (h : w.ownsRow base t 1 (.slice a N c) N (l.map (Value.int .i64))) (hN : l.length = N) : Lst .i64 w a l := by
  obtain ⟨a', c', e, hl⟩ := lst_of_ownm h hN.symm
  cases e
  exact hl
theorem Good.top {n m k j : Nat} {R : List Int} {L : Nat → Nat → List Int} (h : Good n m k j R L) (hj : j ≤ 50) : ∀ t, t < n → Ls.nth R t ≤ 300 := fun t ht => by
  have h1 := Bk.tot_le (L := L) (t : Int) h.2.2.1
  have h2 : k * j ≤ 6 * 50 := Nat.mul_le_mul h.2.2.2.2 hj
  rw [h.1 t ht]
  omega
end Go.Proofs.Ytpifemahakbegaa
