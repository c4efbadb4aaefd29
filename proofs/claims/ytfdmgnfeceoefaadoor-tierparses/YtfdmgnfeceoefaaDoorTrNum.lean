/- Contracts of layer 9: the document's Number. -/
import Derived.Test.YtfdmgnfeceoefaaDoorTrDoc
namespace Go.Proofs.YtfdmgnfeceoefaaDoor
set_option linter.unusedVariables false
open Go.RowKit Go.Sort
open Tr

namespace Tr
theorem at_byte {s : ByteArray} {k : Nat} (h : k < s.size) : ((bl s)[k]? = some s[k]) := by
  have e : s.size = (bl s).length := bl_size s
  rw [List.getElem?_eq_some_iff]
  exact ⟨by omega, rfl⟩
theorem val_step {l : List UInt8} {k : Nat} {c : UInt8} (h : l[k]? = some c) : val 0 (l.take (k + 1)) = val 0 (l.take k) * 10 + dg c := by
  obtain ⟨hk, rfl⟩ := List.getElem?_eq_some_iff.1 h
  rw [take_next hk, val_snoc]
theorem dig_step {l : List UInt8} {k : Nat} {c : UInt8} (h : l[k]? = some c) (hd : Dig c) (hl : ∀ x ∈ l.take k, Dig x) : ∀ x ∈ l.take (k + 1), Dig x := by
  obtain ⟨hk, rfl⟩ := List.getElem?_eq_some_iff.1 h
  rw [take_next hk]
  intro x hx
  rcases List.mem_append.1 hx with h1 | h1
  · exact hl x h1
  · rw [List.mem_singleton.1 h1]; exact hd
theorem val_bd {l : List UInt8} {k : Nat} (hk : k ≤ 10) (hl : ∀ x ∈ l.take k, Dig x) : val 0 (l.take k) < 10000000000 := by
  have h := val_lt (l.take k) 0 hl
  have h2 : (l.take k).length ≤ 10 := by simp; omega
  have h3 : 10 ^ (l.take k).length ≤ 10 ^ 10 := Nat.pow_le_pow_right (by omega) h2
  have h4 : (10 : Nat) ^ 10 = 10000000000 := by decide
  omega
end Tr

set_option maxRecDepth 100000 in
set_option maxHeartbeats 3200000 in
theorem refNumber_any (s : ByteArray) (hs : s.size ≤ 1000000) (w : World) :
    Calls Tryd.prog 31 #[.string s] w fun e w' => ∃ (n : Nat) (t : ByteArray) (q : Bool), e = .returned (.tuple #[.int .i64 n, .string t, .bool q]) ∧ Hid (NumR s n t q) ∧ Below w.heap.size w w' := by
  go_enter Tryd.func31, Tryd.ntmps31
  go_wp2
  go_loop [5, 6] (fun n' k' => ∃ k n : Nat, k ≤ s.size ∧ k ≤ 10 ∧ k' = .int .i64 k ∧ n' = .int .i64 n ∧ n < 10000000000 ∧ Hid (n = val 0 ((bl s).take k)) ∧ Hid (∀ c ∈ (bl s).take k, Dig c)) (fun _ k' => 10 - (intOf k').toNat)
  case atStart => exact ⟨0, 0, Nat.zero_le _, by omega, rfl, rfl, by omega, rfl, fun c hc => by simp at hc⟩
  case round =>
    obtain ⟨k, n, hk, hk10, rfl, rfl, hn, HN, HD⟩ := hrel
    by_cases hlt : k < s.size ∧ Dig s[k]! ∧ k < 10
    · obtain ⟨h1, h2, h3⟩ := hlt
      obtain ⟨c, hc⟩ : ∃ c, s[k] = c := ⟨_, rfl⟩
      have e : s[k]! = c := by rw [← hc]; exact getElem!_pos s k h1
      rw [e] at h2
      have HA : Hid ((bl s)[k]? = some c) := by show _ = _; rw [at_byte h1, hc]
      have HG : Hid (Dig c) := h2
      unfold Dig at h2
      obtain ⟨d, hd⟩ : ∃ d, dg c = d := ⟨_, rfl⟩
      have HDG : Hid (dg c = d) := hd
      have ed : (c.toNat : Int) - 48 = d := by rw [← hd]; unfold dg; omega
      have d9 : d < 10 := by rw [← hd]; exact dg_lt h2
      have c1 : 48 ≤ (c.toNat : Int) := by omega
      have c2 : (c.toNat : Int) ≤ 57 := by omega
      clear h2 e hd
      go_wp2
      go_round
      case rel => exact ⟨k + 1, n * 10 + d, by omega, by omega, by go_num, by go_num, by have := val_bd (l := bl s) (k := k + 1) (by omega) (dig_step HA.out HG.out HD.out); rw [val_step HA.out, ← HN.out, HDG.out] at this; exact this, by show _ = _; rw [val_step HA.out, ← HN.out, HDG.out], dig_step HA.out HG.out HD.out⟩
      case measure => simp [intOf]; omega
    · have HE : Hid (Ended (bl s) k) := by
        refine ⟨by rw [← bl_size]; exact hk, hk10, HD.out, ?_⟩
        by_cases h1 : k < s.size
        · by_cases h3 : k < 10
          · refine Or.inr (Or.inr ⟨s[k], at_byte h1, fun hd => hlt ⟨h1, ?_, h3⟩⟩)
            rw [getElem!_pos s k h1]; exact hd
          · exact Or.inr (Or.inl (by omega))
        · exact Or.inl (by rw [← bl_size]; omega)
      have cases4 : (¬ k < s.size) ∨ (∃ h1 : k < s.size, ¬ 48 ≤ (s[k].toNat : Int)) ∨ (∃ h1 : k < s.size, 48 ≤ (s[k].toNat : Int) ∧ ¬ (s[k].toNat : Int) ≤ 57) ∨ (∃ h1 : k < s.size, 48 ≤ (s[k].toNat : Int) ∧ (s[k].toNat : Int) ≤ 57 ∧ 10 ≤ k) := by
        by_cases h1 : k < s.size
        · by_cases h2 : 48 ≤ (s[k].toNat : Int)
          · by_cases h3 : (s[k].toNat : Int) ≤ 57
            · refine Or.inr (Or.inr (Or.inr ⟨h1, h2, h3, ?_⟩))
              rcases Nat.lt_or_ge k 10 with h4 | h4
              · exact absurd ⟨h1, by rw [getElem!_pos s k h1]; exact ⟨by omega, by omega⟩, h4⟩ hlt
              · omega
            · exact Or.inr (Or.inr (Or.inl ⟨h1, h2, h3⟩))
          · exact Or.inr (Or.inl ⟨h1, h2⟩)
        · exact Or.inl h1
      have fin : Hid (∀ (m : Nat) (x : List UInt8), m < 2147483648 → Sep x → bl s = dec m ++ x → (bl s).take k = dec m ∧ (bl s).drop k = x ∧ n = m) := fun m x hm hx e => by
        obtain ⟨e1, e2⟩ := ended_is HE.out hm hx e
        exact ⟨e1, e2, by rw [HN.out, e1, val_dec]⟩
      clear hlt
      obtain ⟨t0, ht0⟩ : ∃ t0 : ByteArray, bl t0 = dec n := ⟨⟨(dec n).toArray⟩, rfl⟩
      have HT : Hid (bl t0 = dec n) := ht0
      obtain ⟨x, hx⟩ : ∃ x, s.extract 0 k = x := ⟨_, rfl⟩
      have EX : Hid (bl x = (bl s).take k) := by show _ = _; rw [← hx]; exact bl_take s k
      obtain ⟨t, ht⟩ : ∃ t, s.extract k s.size = t := ⟨_, rfl⟩
      have ET : Hid (bl t = (bl s).drop k) := by show _ = _; rw [← ht]; exact bl_drop s k
      have cD := reg_of (u := w) fun v _ => digits_any n t0 HT.out (by omega) v
      have HCD : Hid (∀ d os, Calls Tryd.prog 28 #[.int .i64 n] (grow (redrawn w d) os) fun e w'' => e = .returned (.string t0) ∧ ∃ p : Regrown, w'' = grow (redrawn w p.d) p.os) := cD
      clear ht0 cD
      have kk : ¬ s.size < k := by omega
      rcases cases4 with h1 | ⟨h1, h2⟩ | ⟨h1, h2, h3⟩ | ⟨h1, h2, h3, h4⟩
      all_goals
        by_cases k0 : k = 0
        · have e0 : ((k : Int) == 0) = true := by simp [k0]
          have NO : Hid (NumR s 0 s false) := ⟨(fun h => by cases h), fun _ => ⟨rfl, rfl⟩, fun m y hm hy e => by
            have := (fin.out m y hm hy e).1
            rw [k0] at this
            exact absurd this.symm (dec_ne m)⟩
          clear k0
          go_wp2
          go_quiet (fail)
          go_wp2
          go_ret3
          exact ⟨0, s, false, rfl, NO.out, below_draws _ _⟩
        · have e0 : ((k : Int) == 0) = false := by simp [k0]
          by_cases hb : 2147483647 < n
          · have e1 : decide (2147483647 < (n : Int)) = true := decide_eq_true (by omega)
            have NO : Hid (NumR s 0 s false) := ⟨(fun h => by cases h), fun _ => ⟨rfl, rfl⟩, fun m y hm hy e => by
              have := (fin.out m y hm hy e).2.2
              omega⟩
            clear k0
            go_wp2
            go_quiet (fail)
            go_wp2
            go_ret3
            exact ⟨0, s, false, rfl, NO.out, below_draws _ _⟩
          · have e1 : decide (2147483647 < (n : Int)) = false := decide_eq_false (by omega)
            have cD := HCD.out
            by_cases hq : t0 = x
            · have YES : Hid (NumR s n t true) := ⟨fun _ => ⟨by omega, by rw [ET.out, ← HT.out, hq, EX.out]; simp⟩, (fun h => by cases h), fun m y hm hy e => ⟨rfl, (fin.out m y hm hy e).2.2, by rw [ET.out]; exact (fin.out m y hm hy e).2.1⟩⟩
              subst hq
              clear k0 hb
              go_wp2
              refine wp_region_quiet_below (by kernel_rfl) (by kernel_rfl) ?_
              repeat (quiet_step (exact cD _ _))
              refine wpQuiet_nil ?_
              intro _ hw'
              obtain ⟨⟨dq, osq⟩, hw''⟩ := hw'
              subst hw''
              go_wp2
              go_quiet (fail)
              go_wp2
              go_ret3
              exact ⟨n, t, true, rfl, YES.out, (below_regrown w dq osq).trans ((below_draws _ _).mono (below_regrown w dq osq).size)⟩
            · have hq' : (t0.toList == x.toList) = false := text_ne hq
              have NO : Hid (NumR s 0 s false) := ⟨(fun h => by cases h), fun _ => ⟨rfl, rfl⟩, fun m y hm hy e => by
                obtain ⟨e1, e2, e3⟩ := fin.out m y hm hy e
                exact absurd (bl_inj (by rw [HT.out, EX.out, e1, e3])) hq⟩
              clear k0 hb hq
              go_wp2
              refine wp_region_quiet_below (by kernel_rfl) (by kernel_rfl) ?_
              repeat (quiet_step (exact cD _ _))
              refine wpQuiet_nil ?_
              intro _ hw'
              obtain ⟨⟨dq, osq⟩, hw''⟩ := hw'
              subst hw''
              go_wp2
              go_ret3
              exact ⟨0, s, false, rfl, NO.out, below_regrown w dq osq⟩
end Go.Proofs.YtfdmgnfeceoefaaDoor
