/- Contracts of the document's answers of layer 6, where texts are made. -/
import Derived.Test.YtimkfkolkplpdaaGreatSlWorld
import Derived.Test.YtimkfkolkplpdaaGreatSlCalls
namespace Go.Proofs.YtimkfkolkplpdaaGreat
set_option linter.unusedVariables false
open Go.RowKit

theorem ret_str {a b : ByteArray} (h : a = b) : Ending.returned (.string a) = .returned (.string b) := by rw [h]
theorem Sl.be_succ (k v : Nat) : Sl.be (k + 1) v = ((v / 256 ^ k % 256 : Nat) : Int) :: Sl.be k v := by
  apply Ls.ext_nth (by rw [Sl.be_length, List.length_cons, Sl.be_length])
  intro i hi
  rw [Sl.be_length] at hi
  rw [Sl.nth_be hi]
  cases i with
  | zero => simp [Ls.nth]
  | succ i =>
    show _ = Ls.nth (Sl.be k v) i
    rw [Sl.nth_be (by omega), show k + 1 - 1 - (i + 1) = k - 1 - i by omega]
theorem Sl.be_zero (v : Nat) : Sl.be 0 v = [] := rfl
theorem Sl.byt_one {x : Int} (h0 : 0 ≤ x) (h1 : x < 256) : Sl.Byt [x] := by
  apply Sl.byt_mk
  intro i hi
  simp at hi
  subst hi
  simp [Ls.nth]
  omega

theorem refBytes_any (v k : Nat) (s : ByteArray) (hk : k ≤ 8) (hv : v < 18446744073709551616) (hs : strOfNums (Sl.be k v) = s) (w : World) :
    Calls Tryz.prog 69 #[.int .u64 v, .int .i64 k] w fun e w' => e = .returned (.string s) ∧ Below w.heap.size w w' := by
  have HS : Hid (strOfNums (Sl.be k v) = s) := hs
  clear hs
  go_enter Tryz.func69, Tryz.ntmps69
  go_wp2
  go_loopw [0, 5, 6] (fun x o i wr => ∃ (t y : Nat) (z : ByteArray), t ≤ k ∧ i = .int .i64 t ∧ x = .int .u64 y ∧ y < 18446744073709551616 ∧ o = .string z ∧ z.size ≤ 8 ∧ Hid (v / 256 ^ t = y) ∧ Hid (strOfNums (Sl.be t v) = z) ∧ Below w.heap.size w wr) (fun _ _ i _ => k - (intOf i).toNat)
  case atStart => exact ⟨0, v, ByteArray.empty, Nat.zero_le _, rfl, rfl, hv, rfl, by decide, (by show _ = _; rw [Nat.pow_zero, Nat.div_one]), rfl, Below.refl _ _⟩
  case round =>
    obtain ⟨t, y, z, ht, rfl, rfl, hy, rfl, hz, HY, HZ, hbel⟩ := hrel
    by_cases hlt : t < k
    · have hsz := hbel.size
      obtain ⟨q, eq⟩ : ∃ q : Nat, y % 256 = q := ⟨_, rfl⟩
      have hq : q < 256 := by omega
      have hqi : (y : Int) % 256 = (q : Int) := by omega
      obtain ⟨s1, es1⟩ : ∃ s1, strOfNums [(q : Int)] = s1 := ⟨_, rfl⟩
      have hs1 : s1.size = 1 := by rw [← es1, strOfNums_size]; rfl
      have hcv : (convert 44 9 (.slice (some ⟨wr.heap.size, 0, none⟩) 1 1)).run Tryz.prog (wr.alloc (.cells #[.int .u8 (q : Int)] 5)) = .ok (.string s1) (wr.alloc (.cells #[.int .u8 (q : Int)] 5)) := by
        rw [← es1]
        exact conv_text _ _ _ Tryz.underlying44 Tryz.underlying5 Tryz.underlying9 (lst_new wr [(q : Int)]) (Sl.byt_one (by omega) (by omega)) 1 1 rfl
      have ES1 : Hid (strOfNums [(q : Int)] = s1) := es1
      have EQ : Hid (y % 256 = q) := eq
      clear es1 eq
      go_wp2
      go_roundw
      case rel =>
        have hnew : strOfNums (Sl.be (t + 1) v) = s1 ++ z := by
          rw [Sl.be_succ, HY.out, EQ.out, ← ES1.out, ← HZ.out, Sl.text_append]
          rfl
        refine ⟨t + 1, y / 256, s1 ++ z, by omega, by go_num, by go_num, by omega, rfl, ?_, ?_, hnew, hbel.alloc hsz _⟩
        · rw [← hnew, strOfNums_size, Sl.be_length]; omega
        · show _ = _
          rw [Nat.pow_succ, ← Nat.div_div_eq_div_mul, HY.out]
      case measure => simp [intOf]; omega
    · have e : t = k := by omega
      subst e
      have HE : Hid (z = s) := by show _ = _; rw [← HZ.out, HS.out]
      go_wp2
      go_ret
      exact ⟨ret_str HE.out, hbel⟩

theorem refWord_any (x : Int) (v : Nat) (s : ByteArray) (h0 : -2147483648 ≤ x) (h1 : x ≤ 2147483647) (hv : x + 4294967296 = v) (hs : strOfNums (Sl.be 4 v) = s) (w : World) :
    Calls Tryz.prog 96 #[.int .i32 x] w fun e w' => e = .returned (.string s) ∧ Below w.heap.size w w' := by
  have HS : Hid (strOfNums (Sl.be 4 v) = s) := hs
  have hv2 : (v : Int) < 18446744073709551616 := by omega
  clear hs
  go_enter Tryz.func96, Tryz.ntmps96
  go_wp2_with (go_at_call 69; refine (refBytes_any v 4 s (by omega) (by omega) HS.out _).mono ?_; rintro e w' ⟨rfl, hww⟩; have B1 : Hid (Below w.heap.size w w') := hww; clear hww)
  go_ret
  exact ⟨rfl, B1.out⟩

theorem refClose_any (s : ByteArray) (l : List Int) (s2 : ByteArray) (hs : strOfNums l = s) (hl : l.length ≤ 10000) (hb : Sl.Byt l) (hs2 : strOfNums (Sl.close l) = s2) (w : World) :
    Calls Tryz.prog 71 #[.string s] w fun e w' => e = .returned (.string s2) ∧ Below w.heap.size w w' := by
  obtain ⟨h, eh⟩ : ∃ h, Sl.sum l = h := ⟨_, rfl⟩
  have hh : h < 4294967296 := by rw [← eh]; exact Sl.sum_lt l
  obtain ⟨s4, e4⟩ : ∃ s4, strOfNums (Sl.be 4 h) = s4 := ⟨_, rfl⟩
  have z4 : s4.size = 4 := by rw [← e4, strOfNums_size, Sl.be_length]
  have z0 : s.size ≤ 10000 := by rw [← hs, strOfNums_size]; exact hl
  have HE : Hid (s ++ s4 = s2) := by show _ = _; rw [← hs2, ← hs, ← e4, ← eh]; exact Sl.text_append _ _
  have HS : Hid (strOfNums l = s) := hs
  have HB : Hid (Sl.Byt l) := hb
  have EH : Hid (Sl.sum l = h) := eh
  have E4 : Hid (strOfNums (Sl.be 4 h) = s4) := e4
  clear hs hb eh e4 hs2
  go_enter Tryz.func71, Tryz.ntmps71
  go_wp2_with (first
    | (go_at_call 98; refine (refSum_any s l h HS.out (by unfold maxLen; omega) EH.out _ HB.out).mono ?_; rintro e w' ⟨rfl, hww⟩; cases hww.symm; clear hww)
    | (go_at_call 69; refine (refBytes_any h 4 s4 (by omega) (by omega) E4.out _).mono ?_; rintro e w' ⟨rfl, hww⟩; have B1 : Hid (Below w.heap.size w w') := hww; clear hww))
  go_ret
  exact ⟨ret_str HE.out, B1.out⟩

theorem Sl.close_byt {l : List Int} (h : Sl.Byt l) : Sl.Byt (Sl.close l) := by
  apply Sl.byt_mk
  intro i hi
  unfold Sl.close
  by_cases c : i < l.length
  · rw [Ls.nth_append_left c]; exact h i
  · have : Ls.nth (l ++ Sl.be 4 (Sl.sum l)) i = Ls.nth (Sl.be 4 (Sl.sum l)) (i - l.length) := by
      unfold Ls.nth
      simp [List.getElem?_append_right (show l.length ≤ i by omega)]
    rw [this]
    exact Sl.be_byt _ _ _
theorem refOpen_short (s : ByteArray) (hs : s.size < 4) (w : World) :
    Calls Tryz.prog 50 #[.string s] w fun e w' => e = .returned (.tuple #[.string ByteArray.empty, .int .i64 16]) ∧ w' = w := by
  go_enter Tryz.func50, Tryz.ntmps50
  go_wp2
  go_ret2
  exact ⟨rfl, rfl⟩

theorem refOpen_ok (s : ByteArray) (l : List Int) (s3 : ByteArray) (hs : strOfNums l = s) (hn : 4 ≤ l.length) (hl : l.length ≤ 10000) (hb : Sl.Byt l) (hs3 : strOfNums (l.take (l.length - 4)) = s3) (ho : Sl.sealed l = true) (w : World) :
    Calls Tryz.prog 50 #[.string s] w fun e w' => e = .returned (.tuple #[.string s3, .int .i64 0]) ∧ Below w.heap.size w w' := by
  obtain ⟨k, ek⟩ : ∃ k, l.length - 4 = k := ⟨_, rfl⟩
  rw [ek] at hs3
  have z0 : s.size ≤ 10000 := by rw [← hs, strOfNums_size]; exact hl
  have z1 : 4 ≤ s.size := by rw [← hs, strOfNums_size]; exact hn
  have zk : (s.size : Int) - 4 = (k : Int) := by rw [← hs, strOfNums_size]; omega
  have hx : s.extract 0 k = s3 := by rw [← hs, Sl.text_take, hs3]
  have HC : Hid (strOfNums (Sl.close (l.take k)) = s) := by
    show _ = _
    unfold Sl.sealed at ho
    rw [ek] at ho
    rw [of_decide_eq_true ho]
    exact hs
  have HB : Hid (Sl.Byt (l.take k)) := by
    apply Sl.byt_mk
    intro i hi
    simp at hi
    rw [Ls.nth_take (by omega)]
    exact hb i
  have HS : Hid (strOfNums (l.take k) = s3) := hs3
  have HL : Hid ((l.take k).length ≤ 10000) := by show _ ≤ _; simp; omega
  clear ho hb hs hs3 ek
  go_enter Tryz.func50, Tryz.ntmps50
  go_wp2_with (go_at_call 71; refine (refClose_any s3 (l.take k) s HS.out HL.out HB.out HC.out _).mono ?_; rintro e w' ⟨rfl, hww⟩; have B1 : Hid (Below w.heap.size w w') := hww; clear hww)
  go_ret2
  exact ⟨rfl, B1.out⟩

theorem refOpen_bad (s : ByteArray) (l : List Int) (hs : strOfNums l = s) (hn : 4 ≤ l.length) (hl : l.length ≤ 10000) (hb : Sl.Byt l) (ho : Sl.sealed l = false) (w : World) :
    Calls Tryz.prog 50 #[.string s] w fun e w' => e = .returned (.tuple #[.string ByteArray.empty, .int .i64 22]) ∧ Below w.heap.size w w' := by
  obtain ⟨k, ek⟩ : ∃ k, l.length - 4 = k := ⟨_, rfl⟩
  obtain ⟨s3, hs3⟩ : ∃ s3, strOfNums (l.take k) = s3 := ⟨_, rfl⟩
  obtain ⟨s2, hs2⟩ : ∃ s2, strOfNums (Sl.close (l.take k)) = s2 := ⟨_, rfl⟩
  have z0 : s.size ≤ 10000 := by rw [← hs, strOfNums_size]; exact hl
  have z1 : 4 ≤ s.size := by rw [← hs, strOfNums_size]; exact hn
  have zk : (s.size : Int) - 4 = (k : Int) := by rw [← hs, strOfNums_size]; omega
  have hx : s.extract 0 k = s3 := by rw [← hs, Sl.text_take, hs3]
  have hbt : Sl.Byt (l.take k) := by
    apply Sl.byt_mk
    intro i hi
    simp at hi
    rw [Ls.nth_take (by omega)]
    exact hb i
  have hne : ¬ s2 = s := by
    unfold Sl.sealed at ho
    rw [ek] at ho
    have ho := of_decide_eq_false ho
    intro e
    rw [← hs2, ← hs] at e
    exact ho (Sl.text_inj (Sl.close_byt hbt) hb e)
  have hne2 := text_differ hne
  have HC : Hid (strOfNums (Sl.close (l.take k)) = s2) := hs2
  have HB : Hid (Sl.Byt (l.take k)) := hbt
  have HS : Hid (strOfNums (l.take k) = s3) := hs3
  have HL : Hid ((l.take k).length ≤ 10000) := by show _ ≤ _; simp; omega
  clear ho hb hs hs3 ek hs2 hbt
  go_enter Tryz.func50, Tryz.ntmps50
  go_wp2_with (go_at_call 71; refine (refClose_any s3 (l.take k) s2 HS.out HL.out HB.out HC.out _).mono ?_; rintro e w' ⟨rfl, hww⟩; have B1 : Hid (Below w.heap.size w w') := hww; clear hww)
  go_ret2
  exact ⟨rfl, B1.out⟩
end Go.Proofs.YtimkfkolkplpdaaGreat
