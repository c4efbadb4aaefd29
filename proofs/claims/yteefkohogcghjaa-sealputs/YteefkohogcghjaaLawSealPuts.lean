/- Any number is put behind any bytes, so many bytes of it, as the document says, and read again; with a sign, too. -/
import Derived.Test.YteefkohogcghjaaRows
import Derived.Test.YteefkohogcghjaaRgTake
import Derived.Test.YteefkohogcghjaaSlPuts
import Derived.Deep.RegionHeld3
import Derived.WalkKit
import Derived.ProofKit
import Derived.OpenShut
import Derived.ShutString
import Derived.ChangeOld
import Derived.Below
namespace Go.Proofs.Yteefkohogcghjaa.sealPuts
open Go.ChangeShapes Go.WideShapes Go.ChangeAt Go.RowKit
open Go.ChangeMaps (open_string shut_string)
set_option linter.unusedVariables false

theorem own : ownKnob Try.prog.godebug = none := by kernel_rfl
theorem laidOut : laidOutB Try.prog = true := by kernel_rfl

/-- WHAT THE WALK IS TOLD OF A SLICE OF INTEGERS THAT CAME IN: it is nil; or it leads to a row of 'cap' cells, the numbers 'zs' (the first 'len' are its elements, the rest its spare room), each fitting its kind. -/
def IsRow (k : IntKind) (w : World) (a : Option Addr) (len cap : Nat) (zs : List Int) : Prop :=
  (a = none ∧ len = 0 ∧ cap = 0 ∧ zs = []) ∨
  ∃ x, a = some x ∧ len ≤ cap ∧ cap ≤ maxLen ∧ zs.length = cap ∧ (∀ i, i < zs.length → w.cell? (x.add i) = some (.int k (zs.getD i 0))) ∧ ∀ n ∈ zs, (Lit.int k n).wf = true

set_option maxHeartbeats 1600000 in
theorem walk (a0 : Option Addr) (len0 cap0 : Nat) (z0 : List Int) (a1 : Int) (a2 : Int) (w : World) (w0 : IsRow .u8 w a0 len0 cap0 z0) (w1 : (Lit.int .u64 a1).wf = true) (w2 : (Lit.int .i64 a2).wf = true) :
    Calls Try.prog 6 #[.slice a0 len0 cap0, .int .u64 a1, .int .i64 a2] w fun e w' => e = .returned (.bool true) ∧ Below w.heap.size w w' := by
  obtain ⟨x, hx, LX, BX, MX, CX, DX, FX⟩ := row_open8 w0
  subst hx
  have HX : Hid (Lst .u8 w a0 x) := LX
  have HB : Hid (Sl.Byt x) := BX
  have W1 := bounds_u64 w1
  have W2 := bounds_i64 w2
  clear w0 w1 w2 LX BX MX DX FX CX
  by_cases hm : 100 < x.length
  · go_enter Try.func6, Try.ntmps6
    go_wp2_with (go_at_call 8; refine (slAwake_any _).mono ?_; rintro e wa ⟨rfl, hba⟩)
    go_ret
    exact ⟨rfl, hba⟩
  obtain ⟨v, rfl⟩ := Int.eq_ofNat_of_zero_le W1.1
  have hv : v < 18446744073709551616 := by omega
  have hl : x.length ≤ 100 := by omega
  obtain ⟨k, ek⟩ : ∃ k, Sl.wid a2 = k := ⟨_, rfl⟩
  have hk8 : k ≤ 8 := by rw [← ek]; exact Sl.wid_le a2
  have EK : Hid (Sl.wid a2 = k) := ek
  obtain ⟨m, em⟩ : ∃ m : Int, (if a2 < 0 then 0 else a2) = m := ⟨_, rfl⟩
  have emk : (if 8 < m then 8 else m) = (k : Int) := Sl.wid_cases a2 m k em (by rw [ek])
  obtain ⟨T, eT⟩ : ∃ T, x.length + k = T := ⟨_, rfl⟩
  have ET : Hid (x.length + k = T) := eT
  have hT : T ≤ 108 := by omega
  obtain ⟨sb, esb⟩ : ∃ sb, strOfNums x = sb := ⟨_, rfl⟩
  obtain ⟨sk, esk⟩ : ∃ sk, strOfNums (Sl.be k v) = sk := ⟨_, rfl⟩
  obtain ⟨sp, esp⟩ : ∃ sp, strOfNums (x ++ Sl.be k v) = sp := ⟨_, rfl⟩
  have ESB : Hid (strOfNums x = sb) := esb
  have ESK : Hid (strOfNums (Sl.be k v) = sk) := esk
  have ESP : Hid (strOfNums (x ++ Sl.be k v) = sp) := esp
  have hcat : sb ++ sk = sp := by rw [← esb, ← esk, ← esp, Sl.text_append]
  have z0 : sb.size ≤ 100 := by rw [← esb, strOfNums_size]; exact hl
  have z1 : sk.size ≤ 8 := by rw [← esk, strOfNums_size, Sl.be_length]; exact hk8
  have hadd : ∀ w', (Op.stringOp .add sb sk).run Try.prog w' = .ok (.string sp) w' := fun w' => by rw [← hcat]; exact run_string_add_sum w' sb sk (by omega)
  have g0 : decide ((100 : Int) < (x.length : Int)) = false := decide_eq_false (by omega)
  have ELP : Hid ((x ++ Sl.be k v).length = T) := by show _ = _; rw [List.length_append, Sl.be_length]; exact eT
  have HBP : Hid (Sl.Byt (x ++ Sl.be k v)) := Sl.byt_app HB.out (Sl.be_byt _ _)
  clear ek eT esb esk esp hm W1
  go_enter Try.func6, Try.ntmps6
  go_wp2_with fail
  refine (put_any a0 x.length _ x v a2 k T rfl (by omega) EK.out ET.out hv _ HX.out).mono ?_
  rintro e u1 ⟨g1, rfl, hg1, hr1, hb1⟩
  have B1 : Hid (Below w.heap.size w u1) := hb1
  have X1 : Hid (Lst .u8 u1 a0 x) := HX.out.keep hb1
  have P1 : Hid (Lst .u8 u1 (some ⟨g1, 0, none⟩) (x ++ Sl.be k v)) := row_lst hr1 ELP.out
  clear hb1 hr1 hg1
  have KS : Hid (∀ w', Below u1.heap.size u1 w' → (convert 22 9 (.slice a0 x.length cap0)).run Try.prog w' = .ok (.string sb) w' ∧ (convert 22 9 (.slice (some ⟨g1, 0, none⟩) T T)).run Try.prog w' = .ok (.string sp) w' ∧ Hid (Below u1.heap.size u1 w')) := by
    intro w' hb
    refine ⟨?_, ?_, hb⟩
    · rw [← ESB.out]; exact conv_text _ _ _ Try.underlying22 Try.underlying5 Try.underlying9 (X1.out.keep hb) HB.out _ _ rfl
    · rw [← ESP.out]; exact conv_text _ _ _ Try.underlying22 Try.underlying5 Try.underlying9 (P1.out.keep hb) HBP.out _ _ ELP.out.symm
  go_wp2_with fail
  go_region_held3 (fun w' => (convert 22 9 (.slice a0 x.length cap0)).run Try.prog w' = .ok (.string sb) w' ∧ (convert 22 9 (.slice (some ⟨g1, 0, none⟩) T T)).run Try.prog w' = .ok (.string sp) w' ∧ Hid (Below u1.heap.size u1 w'))
    (first
      | exact KS.out _ ((Below.refl _ _).drew)
      | exact KS.out _ hbc.out
      | assumption)
    (first
      | (go_at_call 16; refine (refBytes_any v k sk hk8 hv ESK.out _).mono ?_; rintro e u2 ⟨rfl, hww⟩; have hbc : Hid (Below u1.heap.size u1 u2) := ((Below.refl _ _).drew).trans hww; clear hww))
  have B2 : Hid (Below w.heap.size w u2) := below_then B1.out hbc.out
  have P2 : Hid (Lst .u8 u2 (some ⟨g1, 0, none⟩) (x ++ Sl.be k v)) := P1.out.keep hbc.out
  clear KS B1 X1 P1 hbc
  go_wp2_with fail
  refine (newReader_any _ T T (x ++ Sl.be k v) ELP.out.symm (by rw [ELP.out]; omega) _ P2.out HBP.out (fun e => nomatch e)).mono ?_
  rintro e u ⟨g, rfl, hg, hr3, hb3⟩
  have B3 : Hid (Below w.heap.size w u) := below_then B2.out hb3
  have R3 : Hid (Rdr u g (x ++ Sl.be k v) false) := hr3
  have G0 : Hid (w.heap.size ≤ g) := Nat.le_trans B2.out.size hg
  clear hb3 hr3 hg B2 P2
  obtain ⟨N, eN⟩ : ∃ N, Sl.num (Sl.be k v) = N := ⟨_, rfl⟩
  have EN : Hid (Sl.num (Sl.be k v) = N) := eN
  clear eN
  have KR : Hid (∀ w', Below g u w' → (convert 22 9 (.slice a0 x.length cap0)).run Try.prog w' = .ok (.string sb) w' ∧ Hid (Below g u w')) := by
    intro w' hb
    refine ⟨?_, hb⟩
    rw [← ESB.out]; exact conv_text _ _ _ Try.underlying22 Try.underlying5 Try.underlying9 (HX.out.keep (B3.out.trans (hb.mono G0.out))) HB.out _ _ rfl
  go_wp2_with fail
  refine wp_region_held_drew (S := fun w' => (convert 22 9 (.slice a0 x.length cap0)).run Try.prog w' = .ok (.string sb) w' ∧ Hid (Below g u w')) (by kernel_rfl) (KR.out _ ((Below.refl _ _).drew)) (fun hHeld => ?_)
  refine take_yes 0 34 (v := ?_) rfl rfl (by kernel_rfl) (by kernel_rfl) (by kernel_rfl) (fun _ _ _ h => h) hHeld (by rfl) (fun w hSw => ?_) ?_
  rotate_left
  · (try dsimp only at hSw); go_simp; try rfl
  try simp only [Act.put, List.setIfInBounds_toArray, List.set_cons_zero, List.set_cons_succ]
  refine take_yes 1 35 (v := ?_) rfl rfl (by kernel_rfl) (by kernel_rfl) (by kernel_rfl) (fun _ _ _ h => h) hHeld (by rfl) (fun w hSw => ?_) ?_
  rotate_left
  · (try dsimp only at hSw); go_simp; try rfl
  try simp only [Act.put, List.setIfInBounds_toArray, List.set_cons_zero, List.set_cons_succ]
  refine take_yes 2 36 (v := ?_) rfl rfl (by kernel_rfl) (by kernel_rfl) (by kernel_rfl) (fun _ _ _ h => h) hHeld (by rfl) (fun w hSw => ?_) ?_
  rotate_left
  · (try dsimp only at hSw); go_simp; try rfl
  try simp only [Act.put, List.setIfInBounds_toArray, List.set_cons_zero, List.set_cons_succ]
  refine take_yes 3 37 (v := ?_) rfl rfl (by kernel_rfl) (by kernel_rfl) (by kernel_rfl) (fun _ _ _ h => h) hHeld (by rfl) (fun w hSw => ?_) ?_
  rotate_left
  · (try dsimp only at hSw); go_simp; try rfl
  try simp only [Act.put, List.setIfInBounds_toArray, List.set_cons_zero, List.set_cons_succ]
  refine take_yes 4 38 (v := ?_) rfl rfl (by kernel_rfl) (by kernel_rfl) (by kernel_rfl) (fun _ _ _ h => h) hHeld (by rfl) (fun w hSw => ?_) ?_
  rotate_left
  · (try dsimp only at hSw); go_simp; try rfl
  try simp only [Act.put, List.setIfInBounds_toArray, List.set_cons_zero, List.set_cons_succ]
  refine take_yes 5 39 (v := ?_) rfl rfl (by kernel_rfl) (by kernel_rfl) (by kernel_rfl) (fun _ _ _ h => h) hHeld (by rfl) (fun w hSw => ?_) ?_
  rotate_left
  · (try dsimp only at hSw); go_simp; try rfl
  try simp only [Act.put, List.setIfInBounds_toArray, List.set_cons_zero, List.set_cons_succ]
  refine take_yes 8 42 (v := ?_) rfl rfl (by kernel_rfl) (by kernel_rfl) (by kernel_rfl) (fun _ _ _ h => h) hHeld (by rfl) (fun w hSw => ?_) ?_
  rotate_left
  · (try dsimp only at hSw); go_simp; try rfl
  try simp only [Act.put, List.setIfInBounds_toArray, List.set_cons_zero, List.set_cons_succ]
  refine take_yes 9 43 (v := ?_) rfl rfl (by kernel_rfl) (by kernel_rfl) (by kernel_rfl) (fun _ _ _ h => h) hHeld (by rfl) (fun w hSw => ?_) ?_
  rotate_left
  · (try dsimp only at hSw); go_simp; try rfl
  try simp only [Act.put, List.setIfInBounds_toArray, List.set_cons_zero, List.set_cons_succ]
  refine wpAnyH_ready (rs := [6]) (by kernel_rfl) (by simp) ?_
  refine AllReadyH.cons rfl (fun K hK => ?_) AllReadyH.nil
  go_simp
  refine (take_any g (x ++ Sl.be k v) false x.length x.length x.length (Sl.ask_nat _) (by unfold maxLen; omega) (by rw [Sl.got_front]) _ R3.out.drawn).mono ?_
  rintro e u4 ⟨a4, c4, rfl, hL4, hr4, hb4⟩
  rw [Sl.got_front] at hL4
  rw [Sl.rest_front, Sl.lack_yes (by simp)] at hr4
  have B4 : Hid (Below g u u4) := ((Below.refl _ _).drew).trans hb4
  have R4 : Hid (Rdr u4 g (Sl.be k v) false) := hr4
  have cv4 : (convert 22 9 (.slice a4 x.length c4)).run Try.prog u4 = .ok (.string sb) u4 := by rw [← ESB.out]; exact conv_text _ _ _ Try.underlying22 Try.underlying5 Try.underlying9 hL4 HB.out _ _ rfl
  clear hL4 hr4 hb4 hHeld
  refine hK.out _ _ (KR.out _ B4.out) (fun hHeld => ?_)
  clear hK K
  try simp only [Act.put, List.setIfInBounds_toArray, List.set_cons_zero, List.set_cons_succ]
  refine wpAnyH_ready (rs := [7]) (by kernel_rfl) (by simp) ?_
  refine AllReadyH.cons rfl (fun K hK => ?_) AllReadyH.nil
  go_simp
  refine hK.out _ _ hHeld (fun hHeld => ?_)
  clear hK K
  try simp only [Act.put, List.setIfInBounds_toArray, List.set_cons_zero, List.set_cons_succ]
  refine take_yes 10 44 (v := ?_) rfl rfl (by kernel_rfl) (by kernel_rfl) (by kernel_rfl) (fun _ _ _ h => h) hHeld (by rfl) (fun w hSw => ?_) ?_
  rotate_left
  · (try dsimp only at hSw); go_simp; try rfl
  try simp only [Act.put, List.setIfInBounds_toArray, List.set_cons_zero, List.set_cons_succ]
  refine take_yes 11 45 (v := ?_) rfl rfl (by kernel_rfl) (by kernel_rfl) (by kernel_rfl) (fun _ _ _ h => h) hHeld (by rfl) (fun w hSw => ?_) ?_
  rotate_left
  · (try dsimp only at hSw); go_simp; try rfl
  try simp only [Act.put, List.setIfInBounds_toArray, List.set_cons_zero, List.set_cons_succ]
  refine take_yes 12 46 (v := ?_) rfl rfl (by kernel_rfl) (by kernel_rfl) (by kernel_rfl) (fun _ _ _ h => h) hHeld (by rfl) (fun w hSw => ?_) ?_
  rotate_left
  · (try dsimp only at hSw); go_simp; try rfl
  try simp only [Act.put, List.setIfInBounds_toArray, List.set_cons_zero, List.set_cons_succ]
  refine take_yes 13 47 (v := ?_) rfl rfl (by kernel_rfl) (by kernel_rfl) (by kernel_rfl) (fun _ _ _ h => h) hHeld (by rfl) (fun w hSw => ?_) ?_
  rotate_left
  · (try dsimp only at hSw); go_simp; try rfl
  try simp only [Act.put, List.setIfInBounds_toArray, List.set_cons_zero, List.set_cons_succ]
  refine take_yes 14 48 (v := ?_) rfl rfl (by kernel_rfl) (by kernel_rfl) (by kernel_rfl) (fun _ _ _ h => h) hHeld (by rfl) (fun w hSw => ?_) ?_
  rotate_left
  · (try dsimp only at hSw); go_simp; try rfl
  try simp only [Act.put, List.setIfInBounds_toArray, List.set_cons_zero, List.set_cons_succ]
  refine take_yes 16 50 (v := ?_) rfl rfl (by kernel_rfl) (by kernel_rfl) (by kernel_rfl) (fun _ _ _ h => h) hHeld (by rfl) (fun w hSw => ?_) ?_
  rotate_left
  · (try dsimp only at hSw); go_simp; try rfl
  try simp only [Act.put, List.setIfInBounds_toArray, List.set_cons_zero, List.set_cons_succ]
  refine take_yes 17 51 (v := ?_) rfl rfl (by kernel_rfl) (by kernel_rfl) (by kernel_rfl) (fun _ _ _ h => h) hHeld (by rfl) (fun w hSw => ?_) ?_
  rotate_left
  · (try dsimp only at hSw); go_simp; try rfl
  try simp only [Act.put, List.setIfInBounds_toArray, List.set_cons_zero, List.set_cons_succ]
  refine wpAnyH_ready (rs := [15]) (by kernel_rfl) (by simp) ?_
  refine AllReadyH.cons rfl (fun K hK => ?_) AllReadyH.nil
  go_simp
  refine (num_any g (Sl.be k v) false a2 k N EK.out (by rw [Sl.got_all (Sl.be_length _ _)]; exact EN.out) _ R4.out).mono ?_
  rintro e u5 ⟨rfl, hr5, hb5⟩
  rw [Sl.rest_all (Sl.be_length _ _), Sl.lack_yes (by rw [Sl.be_length]; exact Nat.le_refl _)] at hr5
  have B5 : Hid (Below g u u5) := B4.out.trans hb5
  have R5 : Hid (Rdr u5 g [] false) := hr5
  clear hr5 hb5 hHeld cv4
  refine hK.out _ _ (KR.out _ B5.out) (fun hHeld => ?_)
  clear hK K
  try simp only [Act.put, List.setIfInBounds_toArray, List.set_cons_zero, List.set_cons_succ]
  refine wpAnyH_ready (rs := [18]) (by kernel_rfl) (by simp) ?_
  refine AllReadyH.cons rfl (fun K hK => ?_) AllReadyH.nil
  go_simp
  refine (refBytes_any v k sk hk8 hv ESK.out _).mono ?_
  rintro e u6 ⟨rfl, hb6⟩
  have B6 : Hid (Below g u u6) := B5.out.trans (hb6.mono (Nat.le_of_lt R5.out.lt))
  have R6 : Hid (Rdr u6 g [] false) := R5.out.keep hb6
  clear hb6 hHeld
  refine hK.out _ _ (KR.out _ B6.out) (fun hHeld => ?_)
  clear hK K
  try simp only [Act.put, List.setIfInBounds_toArray, List.set_cons_zero, List.set_cons_succ]
  refine wpAnyH_ready (rs := [19]) (by kernel_rfl) (by simp) ?_
  refine AllReadyH.cons rfl (fun K hK => ?_) AllReadyH.nil
  go_simp
  refine (refNumber_any sk (Sl.be k v) N ESK.out (by rw [Sl.be_length]; exact hk8) EN.out _ (Sl.be_byt _ _)).mono ?_
  rintro e w' ⟨rfl, hww⟩
  cases hww.symm
  clear hww
  refine hK.out _ _ hHeld (fun hHeld => ?_)
  clear hK K
  try simp only [Act.put, List.setIfInBounds_toArray, List.set_cons_zero, List.set_cons_succ]
  refine take_yes 20 54 (v := ?_) rfl rfl (by kernel_rfl) (by kernel_rfl) (by kernel_rfl) (fun _ _ _ h => h) hHeld (by rfl) (fun w hSw => ?_) ?_
  rotate_left
  · (try dsimp only at hSw); go_simp; try rfl
  try simp only [Act.put, List.setIfInBounds_toArray, List.set_cons_zero, List.set_cons_succ]
  refine take_yes 21 55 (v := ?_) rfl rfl (by kernel_rfl) (by kernel_rfl) (by kernel_rfl) (fun _ _ _ h => h) hHeld (by rfl) (fun w hSw => ?_) ?_
  rotate_left
  · (try dsimp only at hSw); go_simp; try rfl
  try simp only [Act.put, List.setIfInBounds_toArray, List.set_cons_zero, List.set_cons_succ]
  refine take_yes 22 56 (v := ?_) rfl rfl (by kernel_rfl) (by kernel_rfl) (by kernel_rfl) (fun _ _ _ h => h) hHeld (by rfl) (fun w hSw => ?_) ?_
  rotate_left
  · (try dsimp only at hSw); go_simp; try rfl
  try simp only [Act.put, List.setIfInBounds_toArray, List.set_cons_zero, List.set_cons_succ]
  refine take_yes 23 57 (v := ?_) rfl rfl (by kernel_rfl) (by kernel_rfl) (by kernel_rfl) (fun _ _ _ h => h) hHeld (by rfl) (fun w hSw => ?_) ?_
  rotate_left
  · (try dsimp only at hSw); go_simp; try rfl
  try simp only [Act.put, List.setIfInBounds_toArray, List.set_cons_zero, List.set_cons_succ]
  refine wpAnyH_ready (rs := [24]) (by kernel_rfl) (by simp) ?_
  refine AllReadyH.cons rfl (fun K hK => ?_) AllReadyH.nil
  go_simp
  refine (left_any g [] false 0 rfl _ R6.out).mono ?_
  rintro e w' ⟨rfl, hww⟩
  cases hww.symm
  clear hww
  refine hK.out _ _ hHeld (fun hHeld => ?_)
  clear hK K
  try simp only [Act.put, List.setIfInBounds_toArray, List.set_cons_zero, List.set_cons_succ]
  refine take_yes 25 59 (v := ?_) rfl rfl (by kernel_rfl) (by kernel_rfl) (by kernel_rfl) (fun _ _ _ h => h) hHeld (by rfl) (fun w hSw => ?_) ?_
  rotate_left
  · (try dsimp only at hSw); go_simp; try rfl
  try simp only [Act.put, List.setIfInBounds_toArray, List.set_cons_zero, List.set_cons_succ]
  refine take_yes 26 60 (v := ?_) rfl rfl (by kernel_rfl) (by kernel_rfl) (by kernel_rfl) (fun _ _ _ h => h) hHeld (by rfl) (fun w hSw => ?_) ?_
  rotate_left
  · (try dsimp only at hSw); go_simp; try rfl
  try simp only [Act.put, List.setIfInBounds_toArray, List.set_cons_zero, List.set_cons_succ]
  refine take_yes 27 61 (v := ?_) rfl rfl (by kernel_rfl) (by kernel_rfl) (by kernel_rfl) (fun _ _ _ h => h) hHeld (by rfl) (fun w hSw => ?_) ?_
  rotate_left
  · (try dsimp only at hSw); go_simp; try rfl
  try simp only [Act.put, List.setIfInBounds_toArray, List.set_cons_zero, List.set_cons_succ]
  refine take_yes 28 62 (v := ?_) rfl rfl (by kernel_rfl) (by kernel_rfl) (by kernel_rfl) (fun _ _ _ h => h) hHeld (by rfl) (fun w hSw => ?_) ?_
  rotate_left
  · (try dsimp only at hSw); go_simp; try rfl
  try simp only [Act.put, List.setIfInBounds_toArray, List.set_cons_zero, List.set_cons_succ]
  refine wpAnyH_ready (rs := [29]) (by kernel_rfl) (by simp) ?_
  refine AllReadyH.cons rfl (fun K hK => ?_) AllReadyH.nil
  go_simp
  refine (short_any g [] false _ R6.out).mono ?_
  rintro e w' ⟨rfl, hww⟩
  cases hww.symm
  clear hww
  refine hK.out _ _ hHeld (fun hHeld => ?_)
  clear hK K
  try simp only [Act.put, List.setIfInBounds_toArray, List.set_cons_zero, List.set_cons_succ]
  refine take_yes 30 64 (v := ?_) rfl rfl (by kernel_rfl) (by kernel_rfl) (by kernel_rfl) (fun _ _ _ h => h) hHeld (by rfl) (fun w hSw => ?_) ?_
  rotate_left
  · (try dsimp only at hSw); go_simp; try rfl
  try simp only [Act.put, List.setIfInBounds_toArray, List.set_cons_zero, List.set_cons_succ]
  refine wpAnyH_done (by kernel_rfl) ?_ _
  have B7 : Hid (Below w.heap.size w u6) := B3.out.trans (B6.out.mono G0.out)
  clear KR B3 B4 B5 B6 R3 R4 R5 R6 hHeld
  obtain ⟨q, eq⟩ : ∃ q, wrap32 (v : Int) = q := ⟨_, rfl⟩
  have q0 : -2147483648 ≤ q := by rw [← eq]; unfold wrap32; omega
  have q1 : q ≤ 2147483647 := by rw [← eq]; unfold wrap32; omega
  obtain ⟨v4, ev4⟩ := Int.eq_ofNat_of_zero_le (show 0 ≤ q + 4294967296 by omega)
  obtain ⟨s4, es4⟩ : ∃ s4, strOfNums (Sl.be 4 v4) = s4 := ⟨_, rfl⟩
  have EV4 : Hid (q + 4294967296 = v4) := ev4
  have ES4 : Hid (strOfNums (Sl.be 4 v4) = s4) := es4
  have z4 : s4.size = 4 := by rw [← es4, strOfNums_size, Sl.be_length]
  clear ev4 es4
  go_wp2_with fail
  refine (refWord_any q v4 s4 q0 q1 EV4.out ES4.out _).mono ?_
  rintro e u7 ⟨rfl, hb7⟩
  have B8 : Hid (Below w.heap.size w u7) := below_then B7.out hb7
  clear hb7 B7
  have kb := run_bytes_of_string (P := Try.prog) u7 9 22 5 s4 Try.underlying9 Try.underlying22 Try.underlying5
  obtain ⟨c4, ec4⟩ : ∃ c, grownCap u7 s4.size 0 5 = c := ⟨_, rfl⟩
  rw [ec4, z4] at kb
  obtain ⟨o8, eo8⟩ : ∃ o, Obj.cells (bytesRow s4 c4) 5 ((bytesRow s4 c4).size, (bytesRow s4 c4).size + 1) = o := ⟨_, rfl⟩
  rw [eo8] at kb
  have L8 : Hid (Lst .u8 (u7.drew.alloc o8) (some ⟨u7.heap.size, 0, none⟩) (Sl.be 4 v4)) := by rw [← eo8]; exact lst_bytesRow u7.drew (Sl.be_byt _ _) ES4.out c4
  clear ec4 eo8
  go_wp2_with fail
  refine (newReader_any _ 4 c4 (Sl.be 4 v4) (Sl.be_length _ _).symm (by rw [Sl.be_length]; decide) _ L8.out (Sl.be_byt _ _) (fun e => nomatch e)).mono ?_
  rintro e u9 ⟨h, rfl, hh, hr9, hb9⟩
  have B9 : Hid (Below w.heap.size w u9) := below_then ((B8.out.drew).alloc B8.out.size o8) hb9
  have R9 : Hid (Rdr u9 h (Sl.be 4 v4) false) := hr9
  have H0 : Hid (w.heap.size ≤ h) := Nat.le_trans ((B8.out.drew).alloc B8.out.size o8).size hh
  clear hb9 hr9 hh B8 L8 kb
  go_wp2_with (first
    | (go_at_call 24; refine (signed_any h (Sl.be 4 v4) false q (by rw [Sl.got_all (Sl.be_length _ _)]; exact Sl.sgn_word q0 q1 EV4.out) _ R9.out).mono ?_; rintro e ua ⟨rfl, hra, hba⟩; rw [Sl.rest_all (Sl.be_length _ _), Sl.lack_yes (by rw [Sl.be_length]; exact Nat.le_refl _)] at hra; have BA : Hid (Below w.heap.size w ua) := B9.out.trans (hba.mono H0.out); have RA : Hid (Rdr ua h [] false) := hra; clear hra hba)
    | (go_at_call 21; refine (left_any h [] false 0 rfl _ RA.out).mono ?_; rintro e w' ⟨rfl, hww⟩; cases hww.symm; clear hww)
    | (go_at_call 8; refine (slAwake_any _).mono ?_; rintro e wb ⟨rfl, hbb⟩))
  go_ret
  exact ⟨rfl, below_then BA.out hbb⟩

set_option maxRecDepth 100000 in
theorem lifted (os : Os) (started : os.Started) (H : Type) (enc : TypeId × Value → H) :
    ReturnsInHanded {} Try.checked os 6 .any (Rows.sealPutsSpec.pre6 enc Try.prog Try.f6 Rows.sealPutsRow.domain false) (Rows.sealPutsSpec.post enc Try.prog Try.f6 false true false false) := by
  refine returnsInHanded_of_change (C := Try.checked) own started (by kernel_rfl) Try.func6
    (ChangeSpec.witness6 (enc := enc) (C := Try.checked) false ⟨#[], #[.slice none 0 0, .int .u64 0, .int .i64 0], []⟩ 8 (by kernel_rfl) (by kernel_rfl) (by kernel_rfl) (by kernel_rfl)) ?_
  intro W base args ds gs before hval0 hW hcnd _
  have hval : ∀ (j : Nat) t v, Try.f6.params[j]? = some t → args[j]? = some v → Value.okWide Try.prog W .any base t v := hval0
  have hW' := hW
  obtain ⟨p, q, hA0, hV, rfl, hfz, hnd⟩ := hW
  have hA : DataW.TrodAll enc Try.prog W 0 (fun _ => true) true Try.f6.params.toList args.toList ds p := hA0
  rw [Try.params6] at hA hval
  obtain ⟨v0, vs0, d0, ds0, p0, q0, hargs, rfl, rfl, h0, r0⟩ := trodAll_cons hA
  obtain ⟨v1, vs1, d1, ds1, p1, q1, rfl, rfl, rfl, h1, r1⟩ := trodAll_cons r0
  obtain ⟨v2, vs2, d2, ds2, p2, q2, rfl, rfl, rfl, h2, r2⟩ := trodAll_cons r1
  obtain ⟨rfl, rfl, rfl⟩ := trodAll_nil r2
  obtain rfl : args = #[v0, v1, v2] := by cases args; simp_all
  obtain ⟨rfl, rfl⟩ := trodVars_none hV
  obtain ⟨a0, len0, cap0, rfl⟩ := okWide_slice Try.underlying22 (hval 0 22 v0 rfl rfl)
  have k0 := h0
  have lt0 : ∀ x ∈ p0, x.block < W.heap.size := by obtain ⟨m, hm⟩ := k0; exact DataW.trod_lt m _ _ _ hm
  obtain ⟨z0, w0⟩ : ∃ zs, IsRow .u8 W a0 len0 cap0 zs := by
    obtain ⟨fuel, hf⟩ := h0
    rcases open_ints Try.underlying22 Try.underlying5 (by kernel_rfl) hf with ⟨hcs, _⟩ | ⟨x, l, c, zs, hcs, _, hl, hm, hz, _, hcell, hwz⟩
    · simp [Value.cells] at hcs
      obtain ⟨rfl, rfl, rfl⟩ := hcs
      exact ⟨[], .inl ⟨rfl, rfl, rfl, rfl⟩⟩
    · simp [Value.cells] at hcs
      obtain ⟨rfl, rfl, rfl⟩ := hcs
      exact ⟨zs, .inr ⟨_, rfl, hl, hm, by simpa using hz, hcell, hwz⟩⟩
  obtain ⟨a1, rfl, rfl, rfl, w1⟩ := open_int Try.underlying36 (hval 1 36 v1 rfl rfl) h1
  obtain ⟨a2, rfl, rfl, rfl, w2⟩ := open_int Try.underlying3 (hval 2 3 v2 rfl rfl) h2
  clear hA0 hval0
  refine (walk a0 len0 cap0 z0 a1 a2 W w0 w1 w2).mono fun e W' ⟨he, bel⟩ => ?_
  subst he
  exact ⟨_, rfl, _, _, _, [], _, [], hW', trodAll_mk1 (shut_bool Try.underlying4 _), (trodAll_cons_mk (Below.trod laidOut (by kernel_rfl) (of_decide_eq_true (by kernel_rfl)) k0 bel lt0) (trodAll_cons_mk (shut_int Try.underlying36 w1) (trodAll_cons_mk (shut_int Try.underlying3 w2) trodAll_mk0))), rfl, bel.frame _, fun h => by cases h⟩

theorem over : Rows.sealPutsRow.holds Try.pinned (OpenSpec.ofChange Rows.sealPutsSpec) :=
  OpenClaim.holds_of_wide 6 Try.f6 rfl rfl rfl rfl rfl rfl rfl ⟨rfl, rfl, rfl, rfl, rfl⟩ rfl rfl rfl rfl rfl (by kernel_rfl) Try.func6 (by kernel_rfl)
    (of_decide_eq_true (by kernel_rfl)) (by unfold Func.isWrapper; first | (rw [if_pos (by decide +kernel)]; kernel_rfl) | (rw [if_neg (by decide +kernel)]; exact ⟨rfl, rfl⟩))
    (fun os started H enc _ => lifted os started H enc)

theorem proved : Rows.SealPutsSaid := over
end Go.Proofs.Yteefkohogcghjaa.sealPuts

namespace Go.Proofs.Yteefkohogcghjaa
theorem sealPuts_holds : Rows.SealPutsSaid := sealPuts.proved
#print axioms sealPuts_holds
end Go.Proofs.Yteefkohogcghjaa
