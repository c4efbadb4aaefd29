/- PageParses (layer 8): for every input: any bytes are a page, or refused, as the document says; what is read has just these bytes; no conditions beyond the row's own. -/
import Derived.Test.YtimkfkolkplpdaaGreatRows
import Derived.Test.YtimkfkolkplpdaaGreatPaC
import Derived.WalkKit
import Derived.ProofKit
import Derived.OpenShut
import Derived.ShutString
import Derived.ChangeOld
import Derived.Below
namespace Go.Proofs.YtimkfkolkplpdaaGreat.pageParses
open Go.ChangeShapes Go.WideShapes Go.ChangeAt Go.RowKit
open Go.ChangeMaps (open_string shut_string)
set_option linter.unusedVariables false

theorem own : ownKnob Tryz.prog.godebug = none := by kernel_rfl
theorem laidOut : laidOutB Tryz.prog = true := by kernel_rfl

/-- WHAT THE WALK IS TOLD OF A SLICE OF INTEGERS THAT CAME IN: it is nil; or it leads to a row of 'cap' cells, the numbers 'zs' (the first 'len' are its elements, the rest its spare room), each fitting its kind. -/
def IsRow (k : IntKind) (w : World) (a : Option Addr) (len cap : Nat) (zs : List Int) : Prop :=
  (a = none ∧ len = 0 ∧ cap = 0 ∧ zs = []) ∨
  ∃ x, a = some x ∧ len ≤ cap ∧ cap ≤ maxLen ∧ zs.length = cap ∧ (∀ i, i < zs.length → w.cell? (x.add i) = some (.int k (zs.getD i 0))) ∧ ∀ n ∈ zs, (Lit.int k n).wf = true

set_option maxRecDepth 100000 in
set_option maxHeartbeats 3200000 in
theorem walk (a0 : Option Addr) (len0 cap0 : Nat) (z0 : List Int) (w : World) (w0 : IsRow .u8 w a0 len0 cap0 z0) :
    Calls Tryz.prog 4 #[.slice a0 len0 cap0] w fun e w' => e = .returned (.bool true) ∧ Below w.heap.size w w' := by
  -- depth
  obtain ⟨x, hx, LX, BX, MX, CX, DX, FX⟩ := row_open8 w0
  subst hx
  have HX : Hid (Lst .u8 w a0 x) := LX
  have HB : Hid (Sl.Byt x) := BX
  have HC : Hid (x.length ≤ cap0 ∧ cap0 ≤ maxLen) := ⟨CX, DX⟩
  clear w0 LX BX MX CX DX FX
  by_cases hm : 6000 < x.length
  · have t1 : decide (6000 < (x.length : Int)) = true := decide_eq_true (by omega)
    go_enter Tryz.func4, Tryz.ntmps4
    go_wp2_with (go_at_call 7; refine (pgAwake_any _).mono ?_; rintro r va ⟨rfl, hb⟩; have BA : Hid (Below w.heap.size w va) := below_then (Below.refl w.heap.size w) hb; clear hb)
    go_ret
    exact ⟨rfl, BA.out⟩
  have t1 : decide (6000 < (x.length : Int)) = false := decide_eq_false (by omega)
  have hl : x.length ≤ 10000 := by omega
  obtain ⟨s, es⟩ : ∃ s, strOfNums x = s := ⟨_, rfl⟩
  have ES : Hid (strOfNums x = s) := es
  have CV : Hid (∀ w', Below w.heap.size w w' → (convert 44 9 (.slice a0 x.length cap0)).run Tryz.prog w' = .ok (.string s) w') := fun w' hb => by rw [← ES.out]; exact conv_text _ _ _ Tryz.underlying44 Tryz.underlying5 Tryz.underlying9 (HX.out.keep hb) HB.out _ _ rfl
  obtain ⟨e, ee⟩ : ∃ e, Pg.parseE x = e := ⟨_, rfl⟩
  have EE : Hid (Pg.parseE x = e) := ee
  clear es ee
  by_cases hz : e = 0
  · subst hz
    obtain ⟨o, eo⟩ : ∃ o, x.take (x.length - 4) = o := ⟨_, rfl⟩
    obtain ⟨bk, pgk, szk⟩ := Pg.parse_back HB.out EE.out eo
    obtain ⟨h0, h1, h2, h3, h4, h5, h6, hh⟩ : ∃ h0 h1 h2 h3 h4 h5 h6 : Int, Pg.hread o = [h0, h1, h2, h3, h4, h5, h6] := ⟨_, _, _, _, _, _, _, rfl⟩
    have rh := pgk.2.1
    rw [hh] at rh
    obtain ⟨m0, m1, n0, d0, rfl, rfl, rfl, rfl⟩ := Pg.right_nats rh
    rw [hh] at bk pgk szk
    obtain ⟨ks, ek⟩ : ∃ ks, Pg.pkeys o = ks := ⟨_, rfl⟩
    obtain ⟨vs, ev⟩ : ∃ vs, Pg.pvals o = vs := ⟨_, rfl⟩
    rw [ek, ev] at bk pgk
    have EO : Hid (x.take (x.length - 4) = o) := eo
    have HH : Hid (Pg.hread o = [(m0 : Int), m1, n0, d0, h4, h5, h6]) := hh
    have BK : Hid (Pg.bytes [(m0 : Int), m1, n0, d0, h4, h5, h6] ks vs = x) := bk
    have SZ : Hid (Pg.psize [(m0 : Int), m1, n0, d0, h4, h5, h6] = x.length) := szk
    have EK : Hid (Pg.pkeys o = ks ∧ Pg.pvals o = vs) := ⟨ek, ev⟩
    clear bk pgk szk rh hh eo ek ev hm
    go_enter Tryz.func4, Tryz.ntmps4
    go_wp2_with fail
    refine (parseP_ok a0 x.length cap0 x o m0 m1 n0 d0 h4 h5 h6 _ rfl hl HC.out.1 HC.out.2 HX.out HB.out EE.out EO.out HH.out).mono ?_
    rintro r v1 ⟨p, rfl, hpa, hb⟩
    rw [EK.out.1, EK.out.2] at hpa
    have B1 : Hid (Below w.heap.size w v1) := hb
    have PA : Hid (PageAt v1 p m0 m1 n0 d0 h4 h5 h6 ks vs) := hpa
    have cv1 := CV.out v1 hb
    clear hb hpa
    go_wp2_with fail
    clear cv1
    refine (refParseP_ok s x o m0 m1 n0 d0 h4 h5 h6 _ ES.out hl HB.out EE.out EO.out HH.out).mono ?_
    rintro r v2 ⟨a1, k1, c1, a2, k2, c2, rfl, q1, q2, g1, g2, hb⟩
    rw [EK.out.1] at q1 g1
    rw [EK.out.2] at q2 g2
    have B2 : Hid (Below v1.heap.size v1 v2) := hb
    have KL : Hid (k1 = ks.length ∧ k2 = vs.length) := ⟨q1, q2⟩
    have GG : Hid (Gps v2 a1 ks ∧ Gps v2 a2 vs) := ⟨g1, g2⟩
    clear hb q1 q2 g1 g2
    go_wp2
    obtain ⟨u3, hu3⟩ : ∃ u, v2.alloc (.cells #[.int .i64 (m0 : Int), .int .i64 (m1 : Int), .int .i64 (n0 : Int), .int .i64 (d0 : Int), .int .i64 h4, .int .i64 h5, .int .i64 h6, .slice a1 k1 c1, .slice a2 k2 c2] 38) = u := ⟨_, rfl⟩
    have U3 : Hid (Below v2.heap.size v2 u3) := by rw [← hu3]; exact box_below _ _
    have NM : Hid (∀ v, Below u3.heap.size u3 v → NmAt v v2.heap.size m0 m1 n0 d0 h4 h5 h6 (.slice a1 k1 c1) (.slice a2 k2 c2)) := by rw [← hu3]; exact fun v hb => nm_box hb
    rw [hu3]
    clear hu3
    have WW : Hid (Below w.heap.size w u3) := below_then B1.out (below_then B2.out U3.out)
    have KS : Hid (∀ w', Below u3.heap.size u3 w' → (w'.cell? ⟨v2.heap.size, 0, none⟩ = some (.int .i64 (m0 : Int)) ∧ w'.cell? ⟨v2.heap.size, 1, none⟩ = some (.int .i64 (m1 : Int)) ∧ w'.cell? ⟨v2.heap.size, 2, none⟩ = some (.int .i64 (n0 : Int)) ∧ w'.cell? ⟨v2.heap.size, 3, none⟩ = some (.int .i64 (d0 : Int)) ∧ w'.cell? ⟨v2.heap.size, 4, none⟩ = some (.int .i64 h4) ∧ w'.cell? ⟨v2.heap.size, 5, none⟩ = some (.int .i64 h5) ∧ w'.cell? ⟨v2.heap.size, 6, none⟩ = some (.int .i64 h6) ∧ w'.cell? ⟨v2.heap.size, 7, none⟩ = some (.slice a1 k1 c1) ∧ w'.cell? ⟨v2.heap.size, 8, none⟩ = some (.slice a2 k2 c2)) ∧ (convert 44 9 (.slice a0 x.length cap0)).run Tryz.prog w' = .ok (.string s) w' ∧ Hid (Below u3.heap.size u3 w')) := fun w' hb => by
      obtain ⟨⟨c0', c1', c2', c3', c4', c5', c6'⟩, c7', c8'⟩ := NM.out w' hb
      exact ⟨⟨c0', c1', c2', c3', c4', c5', c6', c7', c8'⟩, CV.out w' (below_then WW.out hb), hb⟩
    have D0 : Hid (Below u3.heap.size u3 u3.drew) := (Below.refl u3.heap.size u3).drew
    refine wp_region_held_drew (S := fun w' => (w'.cell? ⟨v2.heap.size, 0, none⟩ = some (.int .i64 (m0 : Int)) ∧ w'.cell? ⟨v2.heap.size, 1, none⟩ = some (.int .i64 (m1 : Int)) ∧ w'.cell? ⟨v2.heap.size, 2, none⟩ = some (.int .i64 (n0 : Int)) ∧ w'.cell? ⟨v2.heap.size, 3, none⟩ = some (.int .i64 (d0 : Int)) ∧ w'.cell? ⟨v2.heap.size, 4, none⟩ = some (.int .i64 h4) ∧ w'.cell? ⟨v2.heap.size, 5, none⟩ = some (.int .i64 h5) ∧ w'.cell? ⟨v2.heap.size, 6, none⟩ = some (.int .i64 h6) ∧ w'.cell? ⟨v2.heap.size, 7, none⟩ = some (.slice a1 k1 c1) ∧ w'.cell? ⟨v2.heap.size, 8, none⟩ = some (.slice a2 k2 c2)) ∧ (convert 44 9 (.slice a0 x.length cap0)).run Tryz.prog w' = .ok (.string s) w' ∧ Hid (Below u3.heap.size u3 w')) (by kernel_rfl) (KS.out _ D0.out) (fun hHeld => ?_)
    refine take_yes 0 34 (v := ?_) rfl rfl (by kernel_rfl) (by kernel_rfl) (by kernel_rfl) (fun _ _ _ h => h) hHeld (by rfl) (fun w hSw => ?_) ?_
    rotate_left
    · (try dsimp only at hSw); go_simp; try rfl
    try simp only [Act.put, List.setIfInBounds_toArray, List.set_cons_zero, List.set_cons_succ]
    refine take_yes 1 35 (v := ?_) rfl rfl (by kernel_rfl) (by kernel_rfl) (by kernel_rfl) (fun _ _ _ h => h) hHeld (by rfl) (fun w hSw => ?_) ?_
    rotate_left
    · (try dsimp only at hSw); go_simp; try rfl
    try simp only [Act.put, List.setIfInBounds_toArray, List.set_cons_zero, List.set_cons_succ]
    refine take_yes 2 36 (v := ?_) rfl rfl (by kernel_rfl) (by kernel_rfl) (by kernel_rfl) (fun _ _ _ h => h) hHeld (by rfl) (fun w hSw => ?_) ?_
    rotate_left
    · (try dsimp only at hSw); go_simp; try rfl
    try simp only [Act.put, List.setIfInBounds_toArray, List.set_cons_zero, List.set_cons_succ]
    refine take_yes 3 37 (v := ?_) rfl rfl (by kernel_rfl) (by kernel_rfl) (by kernel_rfl) (fun _ _ _ h => h) hHeld (by rfl) (fun w hSw => ?_) ?_
    rotate_left
    · (try dsimp only at hSw); go_simp; try rfl
    try simp only [Act.put, List.setIfInBounds_toArray, List.set_cons_zero, List.set_cons_succ]
    refine take_yes 4 38 (v := ?_) rfl rfl (by kernel_rfl) (by kernel_rfl) (by kernel_rfl) (fun _ _ _ h => h) hHeld (by rfl) (fun w hSw => ?_) ?_
    rotate_left
    · (try dsimp only at hSw); go_simp; try rfl
    try simp only [Act.put, List.setIfInBounds_toArray, List.set_cons_zero, List.set_cons_succ]
    refine take_yes 5 39 (v := ?_) rfl rfl (by kernel_rfl) (by kernel_rfl) (by kernel_rfl) (fun _ _ _ h => h) hHeld (by rfl) (fun w hSw => ?_) ?_
    rotate_left
    · (try dsimp only at hSw); go_simp; try rfl
    try simp only [Act.put, List.setIfInBounds_toArray, List.set_cons_zero, List.set_cons_succ]
    refine take_yes 6 40 (v := ?_) rfl rfl (by kernel_rfl) (by kernel_rfl) (by kernel_rfl) (fun _ _ _ h => h) hHeld (by rfl) (fun w hSw => ?_) ?_
    rotate_left
    · (try dsimp only at hSw); go_simp; try rfl
    try simp only [Act.put, List.setIfInBounds_toArray, List.set_cons_zero, List.set_cons_succ]
    refine take_yes 7 41 (v := ?_) rfl rfl (by kernel_rfl) (by kernel_rfl) (by kernel_rfl) (fun _ _ _ h => h) hHeld (by rfl) (fun w hSw => ?_) ?_
    rotate_left
    · (try dsimp only at hSw); go_simp; try rfl
    try simp only [Act.put, List.setIfInBounds_toArray, List.set_cons_zero, List.set_cons_succ]
    refine take_yes 8 42 (v := ?_) rfl rfl (by kernel_rfl) (by kernel_rfl) (by kernel_rfl) (fun _ _ _ h => h) hHeld (by rfl) (fun w hSw => ?_) ?_
    rotate_left
    · (try dsimp only at hSw); go_simp; try rfl
    try simp only [Act.put, List.setIfInBounds_toArray, List.set_cons_zero, List.set_cons_succ]
    refine wpAnyH_ready (rs := [9]) (by kernel_rfl) (by simp) ?_
    refine AllReadyH.cons rfl (fun K hK => ?_) AllReadyH.nil
    go_simp
    refine (is_anym p m0 m1 n0 d0 h4 h5 h6 ks vs a1 a2 k1 k2 _ _ _ KL.out.1 KL.out.2 (PA.out.keep (below_then B2.out (below_then U3.out D0.out))) (GG.out.1.keep (below_then U3.out D0.out)) (GG.out.2.keep (below_then U3.out D0.out))).mono ?_
    rintro e w1 ⟨rfl, hww⟩
    have y1 : Hid (Below u3.heap.size u3 w1) := below_then D0.out hww
    clear hww hHeld
    refine hK.out _ _ (KS.out _ y1.out) (fun hHeld => ?_)
    clear hK K
    try simp only [Act.put, List.setIfInBounds_toArray, List.set_cons_zero, List.set_cons_succ]
    refine take_yes 10 44 (v := ?_) rfl rfl (by kernel_rfl) (by kernel_rfl) (by kernel_rfl) (fun _ _ _ h => h) hHeld (by rfl) (fun w hSw => ?_) ?_
    rotate_left
    · (try dsimp only at hSw); go_simp; try rfl
    try simp only [Act.put, List.setIfInBounds_toArray, List.set_cons_zero, List.set_cons_succ]
    refine take_yes 11 45 (v := ?_) rfl rfl (by kernel_rfl) (by kernel_rfl) (by kernel_rfl) (fun _ _ _ h => h) hHeld (by rfl) (fun w hSw => ?_) ?_
    rotate_left
    · (try dsimp only at hSw); go_simp; try rfl
    try simp only [Act.put, List.setIfInBounds_toArray, List.set_cons_zero, List.set_cons_succ]
    refine take_yes 12 46 (v := ?_) rfl rfl (by kernel_rfl) (by kernel_rfl) (by kernel_rfl) (fun _ _ _ h => h) hHeld (by rfl) (fun w hSw => ?_) ?_
    rotate_left
    · (try dsimp only at hSw); go_simp; try rfl
    try simp only [Act.put, List.setIfInBounds_toArray, List.set_cons_zero, List.set_cons_succ]
    refine take_yes 15 49 (v := ?_) rfl rfl (by kernel_rfl) (by kernel_rfl) (by kernel_rfl) (fun _ _ _ h => h) hHeld (by rfl) (fun w hSw => ?_) ?_
    rotate_left
    · (try dsimp only at hSw); go_simp; try rfl
    try simp only [Act.put, List.setIfInBounds_toArray, List.set_cons_zero, List.set_cons_succ]
    refine take_yes 16 50 (v := ?_) rfl rfl (by kernel_rfl) (by kernel_rfl) (by kernel_rfl) (fun _ _ _ h => h) hHeld (by rfl) (fun w hSw => ?_) ?_
    rotate_left
    · (try dsimp only at hSw); go_simp; try rfl
    try simp only [Act.put, List.setIfInBounds_toArray, List.set_cons_zero, List.set_cons_succ]
    refine wpAnyH_ready (rs := [13]) (by kernel_rfl) (by simp) ?_
    refine AllReadyH.cons rfl (fun K hK => ?_) AllReadyH.nil
    go_simp
    refine (bytesP_any p m0 m1 n0 d0 h4 h5 h6 ks vs x.length _ (PA.out.keep (below_then B2.out (below_then U3.out y1.out))) SZ.out).mono ?_
    rintro e w2 ⟨g, rfl, _, hr, hww⟩
    have y2 : Hid (Below u3.heap.size u3 w2) := below_then y1.out hww
    have cvC : (convert 44 9 (.slice (some ⟨g, 0, none⟩) x.length x.length)).run Tryz.prog w2 = .ok (.string s) w2 := by rw [← ES.out]; rw [BK.out] at hr; exact conv_text _ _ _ Tryz.underlying44 Tryz.underlying5 Tryz.underlying9 (lst_of_row hr (fun j hj => rfl)) HB.out _ _ rfl
    clear hww hr hHeld
    refine hK.out _ _ (KS.out _ y2.out) (fun hHeld => ?_)
    clear hK K
    try simp only [Act.put, List.setIfInBounds_toArray, List.set_cons_zero, List.set_cons_succ]
    refine wpAnyH_ready (rs := [14]) (by kernel_rfl) (by simp) ?_
    refine AllReadyH.cons rfl (fun K hK => ?_) AllReadyH.nil
    go_simp
    refine hK.out _ _ hHeld (fun hHeld => ?_)
    clear hK K cvC
    try simp only [Act.put, List.setIfInBounds_toArray, List.set_cons_zero, List.set_cons_succ]
    refine take_yes 17 51 (v := ?_) rfl rfl (by kernel_rfl) (by kernel_rfl) (by kernel_rfl) (fun _ _ _ h => h) hHeld (by rfl) (fun w hSw => ?_) ?_
    rotate_left
    · (try dsimp only at hSw); go_simp; try rfl
    try simp only [Act.put, List.setIfInBounds_toArray, List.set_cons_zero, List.set_cons_succ]
    refine take_yes 18 52 (v := ?_) rfl rfl (by kernel_rfl) (by kernel_rfl) (by kernel_rfl) (fun _ _ _ h => h) hHeld (by rfl) (fun w hSw => ?_) ?_
    rotate_left
    · (try dsimp only at hSw); go_simp; try rfl
    try simp only [Act.put, List.setIfInBounds_toArray, List.set_cons_zero, List.set_cons_succ]
    refine take_yes 19 53 (v := ?_) rfl rfl (by kernel_rfl) (by kernel_rfl) (by kernel_rfl) (fun _ _ _ h => h) hHeld (by rfl) (fun w hSw => ?_) ?_
    rotate_left
    · (try dsimp only at hSw); go_simp; try rfl
    try simp only [Act.put, List.setIfInBounds_toArray, List.set_cons_zero, List.set_cons_succ]
    refine wpAnyH_ready (rs := [20]) (by kernel_rfl) (by simp) ?_
    refine AllReadyH.cons rfl (fun K hK => ?_) AllReadyH.nil
    go_simp
    refine (pgAwake_any _).mono ?_
    rintro e w3 ⟨rfl, hww⟩
    have y3 : Hid (Below u3.heap.size u3 w3) := below_then y2.out hww
    clear hww hHeld
    refine hK.out _ _ (KS.out _ y3.out) (fun hHeld => ?_)
    clear hK K
    try simp only [Act.put, List.setIfInBounds_toArray, List.set_cons_zero, List.set_cons_succ]
    refine take_yes 21 55 (v := ?_) rfl rfl (by kernel_rfl) (by kernel_rfl) (by kernel_rfl) (fun _ _ _ h => h) hHeld (by rfl) (fun w hSw => ?_) ?_
    rotate_left
    · (try dsimp only at hSw); go_simp; try rfl
    try simp only [Act.put, List.setIfInBounds_toArray, List.set_cons_zero, List.set_cons_succ]
    refine take_yes 22 2 (v := ?_) rfl rfl (by kernel_rfl) (by kernel_rfl) (by kernel_rfl) (fun _ _ _ h => h) hHeld (by rfl) (fun w hSw => ?_) ?_
    rotate_left
    · (try dsimp only at hSw); go_simp; try rfl
    try simp only [Act.put, List.setIfInBounds_toArray, List.set_cons_zero, List.set_cons_succ]
    refine wpAnyH_done (by kernel_rfl) ?_ _
    go_wp2
    go_ret
    exact ⟨rfl, below_then WW.out y3.out⟩
  · have NZ : Hid (¬ e = 0) := hz
    have t0 : (e != 0) = true := by simpa using hz
    clear hz
    go_enter Tryz.func4, Tryz.ntmps4
    go_wp2_with fail
    refine (parseP_bad a0 x.length cap0 x e _ rfl hl HC.out.1 HC.out.2 HX.out HB.out EE.out NZ.out).mono ?_
    rintro r v1 ⟨rfl, hb⟩
    have B1 : Hid (Below w.heap.size w v1) := hb
    have cv1 := CV.out v1 hb
    clear hb
    go_wp2_with fail
    clear cv1
    refine (refParseP_bad s x e _ ES.out hl HB.out EE.out NZ.out).mono ?_
    rintro r v2 ⟨rfl, hb⟩
    have B2 : Hid (Below w.heap.size w v2) := below_then B1.out hb
    clear hb
    go_wp2_with (go_at_call 7; refine (pgAwake_any _).mono ?_; rintro r va ⟨rfl, hb⟩; have BA : Hid (Below w.heap.size w va) := below_then (below_then B2.out (box_below _ _)) hb; clear hb)
    go_ret
    exact ⟨rfl, BA.out⟩

set_option maxRecDepth 100000 in
theorem lifted (os : Os) (started : os.Started) (H : Type) (enc : TypeId × Value → H) :
    ReturnsInHanded {} Tryz.checked os 4 .any (Rows.pageParsesSpec.pre6 enc Tryz.prog Tryz.f4 Rows.pageParsesRow.domain false) (Rows.pageParsesSpec.post enc Tryz.prog Tryz.f4 false true false false) := by
  refine returnsInHanded_of_change (C := Tryz.checked) own started (by kernel_rfl) Tryz.func4
    (ChangeSpec.witness6 (enc := enc) (C := Tryz.checked) false ⟨#[], #[.slice none 0 0], []⟩ 8 (by kernel_rfl) (by kernel_rfl) (by kernel_rfl) (by kernel_rfl)) ?_
  intro W base args ds gs before hval0 hW hcnd _
  have hval : ∀ (j : Nat) t v, Tryz.f4.params[j]? = some t → args[j]? = some v → Value.okWide Tryz.prog W .any base t v := hval0
  have hW' := hW
  obtain ⟨p, q, hA0, hV, rfl, hfz, hnd⟩ := hW
  have hA : DataW.TrodAll enc Tryz.prog W 0 (fun _ => true) true Tryz.f4.params.toList args.toList ds p := hA0
  rw [Tryz.params4] at hA hval
  obtain ⟨v0, vs0, d0, ds0, p0, q0, hargs, rfl, rfl, h0, r0⟩ := trodAll_cons hA
  obtain ⟨rfl, rfl, rfl⟩ := trodAll_nil r0
  obtain rfl : args = #[v0] := by cases args; simp_all
  obtain ⟨rfl, rfl⟩ := trodVars_none hV
  obtain ⟨a0, len0, cap0, rfl⟩ := okWide_slice Tryz.underlying44 (hval 0 44 v0 rfl rfl)
  have k0 := h0
  have lt0 : ∀ x ∈ p0, x.block < W.heap.size := by obtain ⟨m, hm⟩ := k0; exact DataW.trod_lt m _ _ _ hm
  obtain ⟨z0, w0⟩ : ∃ zs, IsRow .u8 W a0 len0 cap0 zs := by
    obtain ⟨fuel, hf⟩ := h0
    rcases open_ints Tryz.underlying44 Tryz.underlying5 (by kernel_rfl) hf with ⟨hcs, _⟩ | ⟨x, l, c, zs, hcs, _, hl, hm, hz, _, hcell, hwz⟩
    · simp [Value.cells] at hcs
      obtain ⟨rfl, rfl, rfl⟩ := hcs
      exact ⟨[], .inl ⟨rfl, rfl, rfl, rfl⟩⟩
    · simp [Value.cells] at hcs
      obtain ⟨rfl, rfl, rfl⟩ := hcs
      exact ⟨zs, .inr ⟨_, rfl, hl, hm, by simpa using hz, hcell, hwz⟩⟩
  clear hA0 hval0
  refine (walk a0 len0 cap0 z0 W w0).mono fun e W' ⟨he, bel⟩ => ?_
  subst he
  exact ⟨_, rfl, _, _, _, [], _, [], hW', trodAll_mk1 (shut_bool Tryz.underlying4 _), (trodAll_cons_mk (Below.trod laidOut (by kernel_rfl) (of_decide_eq_true (by kernel_rfl)) k0 bel lt0) trodAll_mk0), rfl, bel.frame _, fun h => by cases h⟩

theorem over : Rows.pageParsesRow.holds Tryz.pinned (OpenSpec.ofChange Rows.pageParsesSpec) :=
  OpenClaim.holds_of_wide 4 Tryz.f4 rfl rfl rfl rfl rfl rfl rfl ⟨rfl, rfl, rfl, rfl, rfl⟩ rfl rfl rfl rfl rfl (by kernel_rfl) Tryz.func4 (by kernel_rfl)
    (of_decide_eq_true (by kernel_rfl)) (by unfold Func.isWrapper; first | (rw [if_pos (by decide +kernel)]; kernel_rfl) | (rw [if_neg (by decide +kernel)]; exact ⟨rfl, rfl⟩))
    (fun os started H enc _ => lifted os started H enc)

theorem proved : Rows.PageParsesSaid := over
end Go.Proofs.YtimkfkolkplpdaaGreat.pageParses

namespace Go.Proofs.YtimkfkolkplpdaaGreat
theorem pageParses_holds : Rows.PageParsesSaid := pageParses.proved
#print axioms pageParses_holds
end Go.Proofs.YtimkfkolkplpdaaGreat
