/- Contracts of layer 9: a plan's text, by the program and by the document. -/
import Derived.Test.YtfdmgnfeceoefaaDoorTrRead
namespace Go.Proofs.YtfdmgnfeceoefaaDoor
set_option linter.unusedVariables false
open Go.RowKit Go.Sort
open Tr

namespace Tr
theorem okB_nat {b : Int} (h : okB b = true) : ∃ n : Nat, b = n ∧ n < 100 := by
  rcases okB_cases h with rfl | rfl | rfl
  · exact ⟨2, rfl, by omega⟩
  · exact ⟨4, rfl, by omega⟩
  · exact ⟨8, rfl, by omega⟩
theorem nats_of {ls : List (Int × Int)} (h : allB ls = true) : ∃ ns : List (Nat × Nat), ls = I ns := by
  refine ⟨ls.map fun p => (p.1.toNat, p.2.toNat), pairs_ext (by rw [I_length]; simp) (fun k hk => ?_)⟩
  have h1 := (allB_iff _).1 h k hk
  unfold okP at h1
  simp only [Bool.and_eq_true] at h1
  obtain ⟨x, e1, _⟩ := okB_nat h1.1
  obtain ⟨y, e2, _⟩ := okB_nat h1.2
  have q : k < (I (ls.map fun p => (p.1.toNat, p.2.toNat))).length := by rw [I_length]; simpa using hk
  rw [fst_of q, snd_of q]
  rw [fst_of hk] at e1 ⊢
  rw [snd_of hk] at e2 ⊢
  simp only [I, List.getElem_map]
  omega
theorem I_at {ns : List (Nat × Nat)} {k : Nat} (h : k < ns.length) : fst (I ns) k = ((ns[k]).1 : Int) ∧ snd (I ns) k = ((ns[k]).2 : Int) := by
  rw [fst_of (by rw [I_length]; exact h), snd_of (by rw [I_length]; exact h)]
  simp [I]
theorem small_at {ns : List (Nat × Nat)} (h : allB (I ns) = true) {k : Nat} (hk : k < ns.length) : (ns[k]).1 < 100 ∧ (ns[k]).2 < 100 := by
  have := (allB_iff _).1 h k (by rw [I_length]; exact hk)
  unfold okP at this
  rw [(I_at hk).1, (I_at hk).2] at this
  simp at this
  obtain ⟨a, e1, h1⟩ := okB_nat this.1
  obtain ⟨b, e2, h2⟩ := okB_nat this.2
  omega
theorem text_of (n : Nat) : ∃ t : ByteArray, bl t = dec n := ⟨⟨(dec n).toArray⟩, rfl⟩
theorem text_small {n : Nat} {t : ByteArray} (h : bl t = dec n) (hn : n < 100) : t.size ≤ 2 := by
  rw [bl_size, h]
  by_cases h1 : n < 10
  · rw [dec_one h1]; simp
  · rw [dec_more h1, dec_one (by omega)]; simp
theorem txt_take {g i : Nat} {ns : List (Nat × Nat)} {k : Nat} (h : k < ns.length) : txt g i (ns.take (k + 1)) = txt g i (ns.take k) ++ 32 :: (dec (ns[k]).1 ++ 47 :: dec (ns[k]).2) := by
  rw [List.take_succ_eq_append_getElem h, ← txt_snoc]
theorem sz1 (c : UInt8) : (⟨#[c]⟩ : ByteArray).size = 1 := rfl
theorem sz2 (c d : UInt8) : (⟨#[c, d]⟩ : ByteArray).size = 2 := rfl
theorem bl_one (c : UInt8) : bl ⟨#[c]⟩ = [c] := rfl
theorem bl_two (c d : UInt8) : bl ⟨#[c, d]⟩ = [c, d] := rfl
end Tr

set_option maxHeartbeats 800000 in
theorem text_bad (g i : Int) (a : Option Addr) (c : Nat) (ls : List (Int × Int)) (r : Int) (hr : right g i ls = r) (h0 : ¬ r = 0) (w : World) (hp : Ps w a ls) (hl : ls.length ≤ maxLen) :
    Calls Tryd.prog 9 #[.agg #[.int .i64 g, .int .i64 i, .slice a ls.length c]] w fun e w' => e = .returned (.tuple #[.string ⟨#[]⟩, .int .i64 r]) ∧ Below w.heap.size w w' := by
  have HP : Hid (Ps w a ls) := hp
  have HR : Hid (right g i ls = r) := hr
  have g9 : (r != 0) = true := by simp [h0]
  clear hp hr h0
  go_enter Tryd.func9, Tryd.ntmps9
  go_wp2_with (go_at_call 12; refine (right_any g i a c ls r HR.out _ (HP.out.keep (box_over _ _)) hl).mono ?_; rintro e w1 ⟨rfl, hb⟩; have B1 : Hid (Below w.heap.size w w1) := (box_over _ _).trans (hb.mono (by simp)); clear hb)
  go_ret2
  exact ⟨rfl, B1.out⟩

set_option maxRecDepth 100000 in
set_option maxHeartbeats 1600000 in
theorem text_ok (g i : Nat) (a : Option Addr) (L c : Nat) (ns : List (Nat × Nat)) (hL : L = ns.length) (hr : right g i (I ns) = 0) (w : World) (hp : Ps w a (I ns)) :
    Calls Tryd.prog 9 #[.agg #[.int .i64 g, .int .i64 i, .slice a L c]] w fun e w' => ∃ t, e = .returned (.tuple #[.string t, .int .i64 0]) ∧ Hid (bl t = txt g i ns) ∧ t.size ≤ 100 ∧ Below w.heap.size w w' := by
  obtain ⟨g1, g2, i1, i2, l1, l2, hall⟩ := right_zero hr
  rw [I_length] at l1 l2
  have HA : Hid (allB (I ns) = true) := hall
  have HP : Hid (Ps w a (I ns)) := hp
  have HR : Hid (right g i (I ns) = 0) := hr
  have HLE : Hid (L = ns.length) := hL
  have L1 : 1 ≤ L := by omega
  have L4 : L ≤ 4 := by omega
  obtain ⟨b, o, rfl, hc⟩ := HP.out.get (by rw [I_length]; omega)
  have HC : Hid (∀ j, j < (I ns).length → w.cell? ⟨b, o + j * 2, none⟩ = some (.int .i64 (fst (I ns) j)) ∧ w.cell? ⟨b, o + j * 2 + 1, none⟩ = some (.int .i64 (snd (I ns) j))) := hc
  obtain ⟨tg, eg⟩ := text_of g
  obtain ⟨ti, ei⟩ := text_of i
  have EG : Hid (bl tg = dec g) := eg
  have EI : Hid (bl ti = dec i) := ei
  have sg := text_small eg (by omega)
  have si := text_small ei (by omega)
  have n1 : ¬ 9223372036854775807 < 1 + tg.size := by omega
  have n2 : ¬ 9223372036854775807 < 1 + tg.size + 1 := by omega
  have n3 : ¬ 9223372036854775807 < 1 + tg.size + 1 + 1 := by omega
  have n4 : ¬ 9223372036854775807 < 1 + tg.size + 1 + 1 + ti.size := by omega
  have RC := fun v => right_any g i (some ⟨b, o, none⟩) c (I ns) 0 HR.out v
  rw [I_length, ← hL] at RC
  have HRC : Hid (∀ v, Ps v (some ⟨b, o, none⟩) (I ns) → L ≤ maxLen → Calls Tryd.prog 12 #[.agg #[.int .i64 g, .int .i64 i, .slice (some ⟨b, o, none⟩) L c]] v fun r w' => r = .returned (.int .i64 0) ∧ Below v.heap.size v w') := RC
  clear hp hr hall hc eg ei RC hL
  go_enter Tryd.func9, Tryd.ntmps9
  go_wp2_with (go_at_call 12; refine (HRC.out _ (HP.out.keep (box_over _ _)) (by unfold maxLen; omega)).mono ?_; rintro e w1 ⟨rfl, hb⟩; have B1 : Hid (Below w.heap.size w w1) := (box_over _ _).trans (hb.mono (by simp)); have c0 : w1.cell? ⟨w.heap.size, 0, none⟩ = some (.int .i64 g) := (by rw [hb.cell (p := ⟨w.heap.size, 0, none⟩) (by simp)]; simp); have c1 : w1.cell? ⟨w.heap.size, 1, none⟩ = some (.int .i64 i) := (by rw [hb.cell (p := ⟨w.heap.size, 1, none⟩) (by simp)]; simp); have c2 : w1.cell? ⟨w.heap.size, 2, none⟩ = some (.slice (some ⟨b, o, none⟩) L c) := (by rw [hb.cell (p := ⟨w.heap.size, 2, none⟩) (by simp)]; simp); clear hb)
  go_quiet ((first | (go_at_call_of 22 (g); exact Calls.quiet_of_same (itoa_small g tg EG.out (by omega) _)) | (go_at_call 22; exact Calls.quiet_of_same (itoa_small i ti EI.out (by omega) _))))
  go_wp2
  go_loopw [5, 26] (fun s' k' wr => ∃ (k : Nat) (t : ByteArray), k ≤ L ∧ k' = .int .i64 k ∧ s' = .string t ∧ t.size ≤ 10 + 10 * k ∧ Hid (bl t = txt g i (ns.take k)) ∧ Hid (Below w.heap.size w wr)) (fun _ k' _ => L - (intOf k').toNat)
  case atStart =>
    refine ⟨0, _, Nat.zero_le _, rfl, rfl, ?_, ?_, B1.out.trans ((below_draws _ _).mono B1.out.size)⟩
    · simp only [ByteArray.size_append, sz1]; omega
    · show _ = _
      simp only [bl_append, EG.out, EI.out, bl_one]
      simp [txt, tail]
  case round =>
    obtain ⟨k, t, hk, rfl, rfl, ht, HT, HB⟩ := hrel
    by_cases hlt : k < L
    · have hkn : k < ns.length := by have := HLE.out; omega
      obtain ⟨x, hx⟩ : ∃ x, (ns[k]).1 = x := ⟨_, rfl⟩
      obtain ⟨y, hy⟩ : ∃ y, (ns[k]).2 = y := ⟨_, rfl⟩
      have hs2 := small_at HA.out hkn
      rw [hx, hy] at hs2
      obtain ⟨sx, sy⟩ := hs2
      have e0 := (HC.out k (by rw [I_length]; exact hkn)).1
      have e1 := (HC.out k (by rw [I_length]; exact hkn)).2
      rw [(I_at hkn).1, hx] at e0
      rw [(I_at hkn).2, hy] at e1
      have hbl : b < w.heap.size := World.block_lt_of_cell? w _ e0
      have e0 : wr.cell? ⟨b, o + k * 2, none⟩ = some (.int .i64 x) := by rw [HB.out.cell (p := ⟨b, o + k * 2, none⟩) hbl]; exact e0
      have e1 : wr.cell? ⟨b, o + k * 2 + 1, none⟩ = some (.int .i64 y) := by rw [HB.out.cell (p := ⟨b, o + k * 2 + 1, none⟩) hbl]; exact e1
      have HX : Hid (txt g i (ns.take (k + 1)) = txt g i (ns.take k) ++ 32 :: (dec x ++ 47 :: dec y)) := by show _ = _; rw [txt_take hkn, hx, hy]
      obtain ⟨tx, ex⟩ := text_of x
      obtain ⟨ty, ey⟩ := text_of y
      have EX : Hid (bl tx = dec x) := ex
      have EY : Hid (bl ty = dec y) := ey
      have zx := text_small ex sx
      have zy := text_small ey sy
      have m1 : ¬ 9223372036854775807 < 1 + tx.size := by omega
      have m2 : ¬ 9223372036854775807 < 1 + tx.size + 1 := by omega
      have m3 : ¬ 9223372036854775807 < 1 + tx.size + 1 + ty.size := by omega
      have m4 : ¬ 9223372036854775807 < t.size + (1 + tx.size + 1 + ty.size) := by omega
      clear hx hy ex ey
      go_wp2
      go_quiet ((first | (go_at_call_of 22 (x); exact Calls.quiet_of_same (itoa_small x tx EX.out (by omega) _)) | (go_at_call 22; exact Calls.quiet_of_same (itoa_small y ty EY.out (by omega) _))))
      go_wp2
      go_roundw
      case rel =>
        refine ⟨k + 1, _, by omega, by go_num, rfl, ?_, ?_, (HB.out.alloc HB.out.size _).trans ((below_draws _ _).mono (by have := HB.out.size; simp; omega))⟩
        · simp only [ByteArray.size_append, sz1]; omega
        · show _ = _
          rw [HX.out]
          simp only [bl_append, EX.out, EY.out, bl_one, HT.out]
          simp
      case measure => simp [intOf]; omega
    · have e : k = L := by omega
      subst e
      go_wp2
      go_ret2
      exact ⟨t, rfl, by show _ = _; rw [HT.out, HLE.out, List.take_length], by omega, HB.out⟩

set_option maxRecDepth 100000 in
set_option maxHeartbeats 1600000 in
theorem refText_any (g i : Nat) (a : Option Addr) (L c : Nat) (ns : List (Nat × Nat)) (hL : L = ns.length) (hr : right g i (I ns) = 0) (w : World) (hp : Ps w a (I ns)) :
    Calls Tryd.prog 14 #[.agg #[.int .i64 g, .int .i64 i, .slice a L c]] w fun e w' => ∃ t, e = .returned (.string t) ∧ Hid (bl t = txt g i ns) ∧ Below w.heap.size w w' := by
  obtain ⟨g1, g2, i1, i2, l1, l2, hall⟩ := right_zero hr
  rw [I_length] at l1 l2
  have HA : Hid (allB (I ns) = true) := hall
  have HP : Hid (Ps w a (I ns)) := hp
  have HLE : Hid (L = ns.length) := hL
  have L1 : 1 ≤ L := by omega
  have L4 : L ≤ 4 := by omega
  obtain ⟨b, o, rfl, hc⟩ := HP.out.get (by rw [I_length]; omega)
  have HC : Hid (∀ j, j < (I ns).length → w.cell? ⟨b, o + j * 2, none⟩ = some (.int .i64 (fst (I ns) j)) ∧ w.cell? ⟨b, o + j * 2 + 1, none⟩ = some (.int .i64 (snd (I ns) j))) := hc
  obtain ⟨tg, eg⟩ := text_of g
  obtain ⟨ti, ei⟩ := text_of i
  have EG : Hid (bl tg = dec g) := eg
  have EI : Hid (bl ti = dec i) := ei
  have sg := text_small eg (by omega)
  have si := text_small ei (by omega)
  have n1 : ¬ 9223372036854775807 < 1 + tg.size := by omega
  have n2 : ¬ 9223372036854775807 < 1 + tg.size + 2 := by omega
  have n4 : ¬ 9223372036854775807 < 1 + tg.size + 2 + ti.size := by omega
  clear hp hr hall hc eg ei hL
  go_enter Tryd.func14, Tryd.ntmps14
  go_wp2
  obtain ⟨u, hu⟩ : ∃ u, w.alloc (.cells #[.int .i64 g, .int .i64 i, .slice (some ⟨b, o, none⟩) L c] 32) = u := ⟨_, rfl⟩
  have U : Hid (Below w.heap.size w u) := by rw [← hu]; exact box_over _ _
  have c0 : u.cell? ⟨w.heap.size, 0, none⟩ = some (.int .i64 g) := by rw [← hu]; simp
  have c1 : u.cell? ⟨w.heap.size, 1, none⟩ = some (.int .i64 i) := by rw [← hu]; simp
  have c2 : u.cell? ⟨w.heap.size, 2, none⟩ = some (.slice (some ⟨b, o, none⟩) L c) := by rw [← hu]; simp
  have zu : w.heap.size < u.heap.size := by rw [← hu]; simp
  rw [hu]
  clear hu
  have k0 := cell_regrown c0
  have k1 := cell_regrown c1
  have cG := reg_of (u := u) fun v _ => digits_any g tg EG.out (by omega) v
  have cI := reg_of (u := u) fun v _ => digits_any i ti EI.out (by omega) v
  refine wp_region_quiet_below (by kernel_rfl) (by kernel_rfl) ?_
  repeat (quiet_step (first | (go_at_call_of 28 (g); exact cG _ _) | (go_at_call 28; exact cI _ _)))
  refine wpQuiet_nil ?_
  intro _ hw'
  obtain ⟨⟨dq, osq⟩, hw''⟩ := hw'
  subst hw''
  have BR : Hid (Below u.heap.size u (grow (redrawn u dq) osq)) := below_regrown u dq osq
  have C2 : Hid (u.cell? ⟨w.heap.size, 2, none⟩ = some (.slice (some ⟨b, o, none⟩) L c)) := c2
  clear k0 k1 cG cI c0 c1 c2 n1 n2 n4
  go_wp2
  go_loopw [3, 4] (fun s' k' wr => ∃ (k : Nat) (t : ByteArray), k ≤ L ∧ k' = .int .i64 k ∧ s' = .string t ∧ t.size ≤ 10 + 10 * k ∧ Hid (bl t = txt g i (ns.take k)) ∧ Hid (Below u.heap.size u wr)) (fun _ k' _ => L - (intOf k').toNat)
  case atStart =>
    refine ⟨0, _, Nat.zero_le _, rfl, rfl, ?_, ?_, BR.out⟩
    · simp only [ByteArray.size_append, sz1, sz2]; omega
    · show _ = _
      simp only [bl_append, EG.out, EI.out, bl_one, bl_two]
      simp [txt, tail]
  case round =>
    obtain ⟨k, t, hk, rfl, rfl, ht, HT, HB⟩ := hrel
    have c2 : wr.cell? ⟨w.heap.size, 2, none⟩ = some (.slice (some ⟨b, o, none⟩) L c) := by rw [HB.out.cell (p := ⟨w.heap.size, 2, none⟩) zu]; exact C2.out
    by_cases hlt : k < L
    · have hkn : k < ns.length := by have := HLE.out; omega
      obtain ⟨x, hx⟩ : ∃ x, (ns[k]).1 = x := ⟨_, rfl⟩
      obtain ⟨y, hy⟩ : ∃ y, (ns[k]).2 = y := ⟨_, rfl⟩
      have hs2 := small_at HA.out hkn
      rw [hx, hy] at hs2
      obtain ⟨sx, sy⟩ := hs2
      have e0 := (HC.out k (by rw [I_length]; exact hkn)).1
      have e1 := (HC.out k (by rw [I_length]; exact hkn)).2
      rw [(I_at hkn).1, hx] at e0
      rw [(I_at hkn).2, hy] at e1
      have hbl : b < w.heap.size := World.block_lt_of_cell? w _ e0
      have bw := below_then U.out HB.out
      have e0 : wr.cell? ⟨b, o + k * 2, none⟩ = some (.int .i64 x) := by rw [bw.cell (p := ⟨b, o + k * 2, none⟩) hbl]; exact e0
      have e1 : wr.cell? ⟨b, o + k * 2 + 1, none⟩ = some (.int .i64 y) := by rw [bw.cell (p := ⟨b, o + k * 2 + 1, none⟩) hbl]; exact e1
      have HX : Hid (txt g i (ns.take (k + 1)) = txt g i (ns.take k) ++ 32 :: (dec x ++ 47 :: dec y)) := by show _ = _; rw [txt_take hkn, hx, hy]
      obtain ⟨tx, ex⟩ := text_of x
      obtain ⟨ty, ey⟩ := text_of y
      have EX : Hid (bl tx = dec x) := ex
      have EY : Hid (bl ty = dec y) := ey
      have zx := text_small ex sx
      have zy := text_small ey sy
      have m1 : ¬ 9223372036854775807 < 1 + tx.size := by omega
      have m2 : ¬ 9223372036854775807 < 1 + tx.size + 1 := by omega
      have m3 : ¬ 9223372036854775807 < 1 + tx.size + 1 + ty.size := by omega
      have m4 : ¬ 9223372036854775807 < t.size + (1 + tx.size + 1 + ty.size) := by omega
      have k0 := cell_regrown e0
      have k1 := cell_regrown e1
      have k2 := cell_regrown c2
      have cX := reg_of (u := wr) fun v _ => digits_any x tx EX.out (by omega) v
      have cY := reg_of (u := wr) fun v _ => digits_any y ty EY.out (by omega) v
      clear hx hy ex ey bw
      go_wp2
      refine wp_region_quiet_below (by kernel_rfl) (by kernel_rfl) ?_
      repeat (quiet_step (first | (go_at_call_of 28 (x); exact cX _ _) | (go_at_call 28; exact cY _ _)))
      refine wpQuiet_nil ?_
      intro _ hw'
      obtain ⟨⟨d2, os2⟩, hw''⟩ := hw'
      subst hw''
      have B2 : Hid (Below wr.heap.size wr (grow (redrawn wr d2) os2)) := below_regrown wr d2 os2
      go_wp2
      go_roundw
      case rel =>
        refine ⟨k + 1, _, by omega, by go_num, rfl, ?_, ?_, below_then HB.out B2.out⟩
        · simp only [ByteArray.size_append, sz1]; omega
        · show _ = _
          rw [HX.out]
          simp only [bl_append, EX.out, EY.out, bl_one, HT.out]
          simp
      case measure => simp [intOf]; omega
    · have e : k = L := by omega
      subst e
      go_wp2
      go_ret
      exact ⟨t, rfl, by show _ = _; rw [HT.out, HLE.out, List.take_length], below_then U.out HB.out⟩
end Go.Proofs.YtfdmgnfeceoefaaDoor
