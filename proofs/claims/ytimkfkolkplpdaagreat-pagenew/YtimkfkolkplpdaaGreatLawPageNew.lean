/- PageNew (layer 8): for every input: any groups make a page of any head, or are refused, as the document says; it has them, means what the document says, has the document's bytes, and is read from them again; no conditions beyond the row's own. -/
import Derived.Test.YtimkfkolkplpdaaGreatRows
import Derived.Test.YtimkfkolkplpdaaGreatPaB
import Derived.WalkKit
import Derived.ProofKit
import Derived.OpenShut
import Derived.ShutString
import Derived.ChangeOld
import Derived.Below
namespace Go.Proofs.YtimkfkolkplpdaaGreat.pageNew
open Go.ChangeShapes Go.WideShapes Go.ChangeAt Go.RowKit
set_option linter.unusedVariables false

theorem own : ownKnob Tryz.prog.godebug = none := by kernel_rfl
theorem laidOut : laidOutB Tryz.prog = true := by kernel_rfl

/-- What the walk is told of a slice of integers that came in. -/
def IsRow (k : IntKind) (w : World) (a : Option Addr) (len cap : Nat) (zs : List Int) : Prop :=
  (a = none ∧ len = 0 ∧ cap = 0 ∧ zs = []) ∨
  ∃ x, a = some x ∧ len ≤ cap ∧ cap ≤ maxLen ∧ zs.length = cap ∧ (∀ i, i < zs.length → w.cell? (x.add i) = some (.int k (zs.getD i 0))) ∧ ∀ n ∈ zs, (Lit.int k n).wf = true

set_option maxRecDepth 100000 in
set_option maxHeartbeats 3200000 in
theorem walk (b00 : Int) (b01 : Int) (b02 : Int) (b03 : Int) (b04 : Int) (b05 : Int) (b06 : Int) (a07 : Option Addr) (len07 cap07 : Nat) (a08 : Option Addr) (len08 cap08 : Nat) (w : World) (w00 : (Lit.int .i64 b00).wf = true) (w01 : (Lit.int .i64 b01).wf = true) (w02 : (Lit.int .i64 b02).wf = true) (w03 : (Lit.int .i64 b03).wf = true) (w04 : (Lit.int .i64 b04).wf = true) (w05 : (Lit.int .i64 b05).wf = true) (w06 : (Lit.int .i64 b06).wf = true) (w07 : IsGroups w a07 len07 cap07) (w08 : IsGroups w a08 len08 cap08) :
    Calls Tryz.prog 3 #[.agg #[.int .i64 b00, .int .i64 b01, .int .i64 b02, .int .i64 b03, .int .i64 b04, .int .i64 b05, .int .i64 b06, .slice a07 len07 cap07, .slice a08 len08 cap08]] w fun e w' => e = .returned (.bool true) ∧ Below w.heap.size w w' := by
  -- depth
  obtain ⟨ks, hk, TK, IK0, MK0⟩ := groups_open w07
  obtain ⟨vs, hv, TV, IV0, MV0⟩ := groups_open w08
  subst hk
  subst hv
  have HA : Hid (Gps w a07 ks) := TK
  have HB : Hid (Gps w a08 vs) := TV
  have IK : Hid (InG ks) := IK0
  have IV : Hid (InG vs) := IV0
  have MK : Hid (ks.length ≤ maxLen) := MK0
  have MV : Hid (vs.length ≤ maxLen) := MV0
  clear w00 w01 w02 w03 w04 w05 w06 w07 w08 TK TV IK0 IV0 MK0 MV0
  obtain ⟨sm, esm⟩ : ∃ q, Pg.smallB ks vs = q := ⟨_, rfl⟩
  have SM : Hid (Pg.smallB ks vs = sm) := esm
  clear esm
  cases sm
  · go_enter Tryz.func3, Tryz.ntmps3
    go_wp2_with fail
    obtain ⟨u0, hu0⟩ : ∃ u, w.alloc (.cells #[.int .i64 b00, .int .i64 b01, .int .i64 b02, .int .i64 b03, .int .i64 b04, .int .i64 b05, .int .i64 b06, .slice a07 ks.length cap07, .slice a08 vs.length cap08] 26) = u := ⟨_, rfl⟩
    have U0 : Hid (Below w.heap.size w u0) := by rw [← hu0]; exact box_below _ _
    have NM : Hid (∀ v, Below u0.heap.size u0 v → NmAt v w.heap.size b00 b01 b02 b03 b04 b05 b06 (.slice a07 ks.length cap07) (.slice a08 vs.length cap08)) := by rw [← hu0]; exact fun v hb => nm_box hb
    rw [hu0]
    clear hu0
    refine (small_any _ _ _ _ _ _ _ _ _ _ _ ks vs false _ (HA.out.keep U0.out) (HB.out.keep U0.out) MK.out MV.out IK.out IV.out SM.out).mono ?_
    rintro r v1 ⟨rfl, hb⟩
    have B1 : Hid (Below u0.heap.size u0 v1) := hb
    obtain ⟨⟨x0, x1, x2, x3, x4, x5, x6⟩, x7, x8⟩ := NM.out v1 hb
    clear hb
    go_wp2_with (go_at_call 7; refine (pgAwake_any _).mono ?_; rintro r va ⟨rfl, hb⟩; have BA : Hid (Below w.heap.size w va) := below_then (below_then U0.out B1.out) hb; clear hb)
    go_ret
    exact ⟨rfl, BA.out⟩
  obtain ⟨l1, _, l2, _⟩ := Pg.smallB_all SM.out
  have LK : Hid (ks.length ≤ 10000) := by show ks.length ≤ 10000; omega
  have LV : Hid (vs.length ≤ 10000) := by show vs.length ≤ 10000; omega
  clear l1 l2
  obtain ⟨q, eq⟩ : ∃ q, Pg.rightH [b00, b01, b02, b03, b04, b05, b06] = q := ⟨_, rfl⟩
  obtain ⟨e, ee⟩ : ∃ e, Pg.newE [b00, b01, b02, b03, b04, b05, b06] ks vs = e := ⟨_, rfl⟩
  have EQ : Hid (Pg.rightH [b00, b01, b02, b03, b04, b05, b06] = q) := eq
  have EE : Hid (Pg.newE [b00, b01, b02, b03, b04, b05, b06] ks vs = e) := ee
  clear eq ee
  by_cases hz : e = 0
  · subst hz
    have PQ : Hid (Pg.Page [b00, b01, b02, b03, b04, b05, b06] ks vs) := Pg.newE_page rfl IK.out IV.out EE.out
    have hq : q = true := by rw [← EQ.out]; exact PQ.out.2.1
    subst hq
    obtain ⟨m0, m1, n0, d0, rfl, rfl, rfl, rfl⟩ := Pg.right_nats EQ.out
    have OK0 : Hid (Pk.Ok m0) := (Pg.page_nums PQ.out).1
    have OK1 : Hid (Pk.Ok m1) := (Pg.page_nums PQ.out).2.1
    have c2 : n0 ≤ 16 := (Pg.page_nums PQ.out).2.2.2.1
    have c4 : d0 ≤ 16 := (Pg.page_nums PQ.out).2.2.2.2.2.1
    obtain ⟨N, eN⟩ : ∃ N, Pg.psize [(m0 : Int), m1, n0, d0, b04, b05, b06] = N := ⟨_, rfl⟩
    have HN : Hid (Pg.psize [(m0 : Int), m1, n0, d0, b04, b05, b06] = N) := eN
    have HNN : Hid (9 + Pg.gsize m0 n0 * d0 + Pg.gsize m1 d0 * n0 + 4 = N) := by show _ = _; rw [← eN]; rfl
    have hN1 : N ≤ 781 := by rw [← eN]; exact Pg.psize_le EQ.out
    clear eN
    go_enter Tryz.func3, Tryz.ntmps3
    go_wp2_with fail
    obtain ⟨u0, hu0⟩ : ∃ u, w.alloc (.cells #[.int .i64 (m0 : Int), .int .i64 (m1 : Int), .int .i64 (n0 : Int), .int .i64 (d0 : Int), .int .i64 b04, .int .i64 b05, .int .i64 b06, .slice a07 ks.length cap07, .slice a08 vs.length cap08] 26) = u := ⟨_, rfl⟩
    have U0 : Hid (Below w.heap.size w u0) := by rw [← hu0]; exact box_below _ _
    have NM : Hid (∀ v, Below u0.heap.size u0 v → NmAt v w.heap.size m0 m1 n0 d0 b04 b05 b06 (.slice a07 ks.length cap07) (.slice a08 vs.length cap08)) := by rw [← hu0]; exact fun v hb => nm_box hb
    rw [hu0]
    clear hu0
    refine (small_any _ _ _ _ _ _ _ _ _ _ _ ks vs true _ (HA.out.keep U0.out) (HB.out.keep U0.out) MK.out MV.out IK.out IV.out SM.out).mono ?_
    rintro r v1 ⟨rfl, hb⟩
    have B1 : Hid (Below u0.heap.size u0 v1) := hb
    obtain ⟨⟨x0, x1, x2, x3, x4, x5, x6⟩, x7, x8⟩ := NM.out v1 hb
    clear hb
    go_wp2_with fail
    refine (newP_ok m0 m1 n0 d0 b04 b05 b06 _ _ _ _ ks vs _ (HA.out.keep (below_then U0.out B1.out)) (HB.out.keep (below_then U0.out B1.out)) LK.out LV.out IK.out IV.out EE.out).mono ?_
    rintro r v2 ⟨p, rfl, _, hpa, hb⟩
    have B2 : Hid (Below u0.heap.size u0 v2) := below_then B1.out hb
    have PA : Hid (PageAt v2 p m0 m1 n0 d0 b04 b05 b06 ks vs) := hpa
    clear hb hpa
    go_wp2_with fail
    clear x0 x1 x2 x3 x4 x5 x6 x7 x8
    have WW : Hid (Below w.heap.size w v2) := below_then U0.out B2.out
    have KS : Hid (∀ w', Below v2.heap.size v2 w' → (w'.cell? ⟨w.heap.size, 0, none⟩ = some (.int .i64 (m0 : Int)) ∧ w'.cell? ⟨w.heap.size, 1, none⟩ = some (.int .i64 (m1 : Int)) ∧ w'.cell? ⟨w.heap.size, 2, none⟩ = some (.int .i64 (n0 : Int)) ∧ w'.cell? ⟨w.heap.size, 3, none⟩ = some (.int .i64 (d0 : Int)) ∧ w'.cell? ⟨w.heap.size, 4, none⟩ = some (.int .i64 b04) ∧ w'.cell? ⟨w.heap.size, 5, none⟩ = some (.int .i64 b05) ∧ w'.cell? ⟨w.heap.size, 6, none⟩ = some (.int .i64 b06) ∧ w'.cell? ⟨w.heap.size, 7, none⟩ = some (.slice a07 ks.length cap07) ∧ w'.cell? ⟨w.heap.size, 8, none⟩ = some (.slice a08 vs.length cap08)) ∧ Hid (Below v2.heap.size v2 w')) := fun w' hb => by
      obtain ⟨⟨q0, q1, q2, q3, q4, q5, q6⟩, q7, q8⟩ := NM.out w' (below_then B2.out hb)
      exact ⟨⟨q0, q1, q2, q3, q4, q5, q6, q7, q8⟩, hb⟩
    have D0 : Hid (Below v2.heap.size v2 v2.drew) := (Below.refl v2.heap.size v2).drew
    have A2 : Hid (Gps v2 a07 ks ∧ Gps v2 a08 vs) := ⟨HA.out.keep WW.out, HB.out.keep WW.out⟩
    go_cut [5] from 9 (fun s5 wc => ∃ (G : Nat) (q1 : Option Addr) (r1 : Nat) (q2 : Option Addr) (r2 : Nat), s5 = .pointer (some ⟨G, 0, none⟩) ∧ NmAt wc G m0 m1 n0 d0 b04 b05 b06 (.slice q1 ks.length r1) (.slice q2 vs.length r2) ∧ Gps wc q1 ks ∧ Gps wc q2 vs ∧ Below v2.heap.size v2 wc)
    case first =>
      refine wp_region_held_drew (S := fun w' => (w'.cell? ⟨w.heap.size, 0, none⟩ = some (.int .i64 (m0 : Int)) ∧ w'.cell? ⟨w.heap.size, 1, none⟩ = some (.int .i64 (m1 : Int)) ∧ w'.cell? ⟨w.heap.size, 2, none⟩ = some (.int .i64 (n0 : Int)) ∧ w'.cell? ⟨w.heap.size, 3, none⟩ = some (.int .i64 (d0 : Int)) ∧ w'.cell? ⟨w.heap.size, 4, none⟩ = some (.int .i64 b04) ∧ w'.cell? ⟨w.heap.size, 5, none⟩ = some (.int .i64 b05) ∧ w'.cell? ⟨w.heap.size, 6, none⟩ = some (.int .i64 b06) ∧ w'.cell? ⟨w.heap.size, 7, none⟩ = some (.slice a07 ks.length cap07) ∧ w'.cell? ⟨w.heap.size, 8, none⟩ = some (.slice a08 vs.length cap08)) ∧ Hid (Below v2.heap.size v2 w')) (by kernel_rfl) (KS.out _ D0.out) (fun hHeld => ?_)
      refine take_yes 0 23 (v := ?_) rfl rfl (by kernel_rfl) (by kernel_rfl) (by kernel_rfl) (fun _ _ _ h => h) hHeld (by rfl) (fun w hSw => ?_) ?_
      rotate_left
      · (try dsimp only at hSw); go_simp; try rfl
      try simp only [Act.put, List.setIfInBounds_toArray, List.set_cons_zero, List.set_cons_succ]
      refine take_yes 1 24 (v := ?_) rfl rfl (by kernel_rfl) (by kernel_rfl) (by kernel_rfl) (fun _ _ _ h => h) hHeld (by rfl) (fun w hSw => ?_) ?_
      rotate_left
      · (try dsimp only at hSw); go_simp; try rfl
      try simp only [Act.put, List.setIfInBounds_toArray, List.set_cons_zero, List.set_cons_succ]
      refine take_yes 3 26 (v := ?_) rfl rfl (by kernel_rfl) (by kernel_rfl) (by kernel_rfl) (fun _ _ _ h => h) hHeld (by rfl) (fun w hSw => ?_) ?_
      rotate_left
      · (try dsimp only at hSw); go_simp; try rfl
      try simp only [Act.put, List.setIfInBounds_toArray, List.set_cons_zero, List.set_cons_succ]
      refine take_yes 4 27 (v := ?_) rfl rfl (by kernel_rfl) (by kernel_rfl) (by kernel_rfl) (fun _ _ _ h => h) hHeld (by rfl) (fun w hSw => ?_) ?_
      rotate_left
      · (try dsimp only at hSw); go_simp; try rfl
      try simp only [Act.put, List.setIfInBounds_toArray, List.set_cons_zero, List.set_cons_succ]
      refine take_yes 6 29 (v := ?_) rfl rfl (by kernel_rfl) (by kernel_rfl) (by kernel_rfl) (fun _ _ _ h => h) hHeld (by rfl) (fun w hSw => ?_) ?_
      rotate_left
      · (try dsimp only at hSw); go_simp; try rfl
      try simp only [Act.put, List.setIfInBounds_toArray, List.set_cons_zero, List.set_cons_succ]
      refine take_yes 7 30 (v := ?_) rfl rfl (by kernel_rfl) (by kernel_rfl) (by kernel_rfl) (fun _ _ _ h => h) hHeld (by rfl) (fun w hSw => ?_) ?_
      rotate_left
      · (try dsimp only at hSw); go_simp; try rfl
      try simp only [Act.put, List.setIfInBounds_toArray, List.set_cons_zero, List.set_cons_succ]
      refine wpAnyH_ready (rs := [2, 10]) (by kernel_rfl) (by simp) ?_
      refine AllReadyH.cons rfl (fun K hK => ?_) (AllReadyH.cons rfl (fun K hK => ?_) (AllReadyH.nil))
      · go_simp
        refine (head_any _ _ _ _ _ _ _ _).mono ?_
        rintro e w1 ⟨rfl, hb⟩
        have y1 : Hid (Below v2.heap.size v2 w1) := below_then D0.out hb
        clear hb
        refine hK.out _ _ (KS.out _ y1.out) (fun hHeld => ?_)
        clear hK K
        try simp only [Act.put, List.setIfInBounds_toArray, List.set_cons_zero, List.set_cons_succ]
        refine wpAnyH_ready (rs := [5, 10]) (by kernel_rfl) (by simp) ?_
        refine AllReadyH.cons rfl (fun K hK => ?_) (AllReadyH.cons rfl (fun K hK => ?_) (AllReadyH.nil))
        · go_simp
          refine (groups_any a07 _ ks _ (A2.out.1.keep y1.out) LK.out).mono ?_
          rintro e w2 ⟨q1, r1, rfl, hg, hb⟩
          have y2 : Hid (Below v2.heap.size v2 w2) := below_then y1.out hb
          have GK : Hid (Gps w2 q1 ks) := hg
          clear hb hg
          refine hK.out _ _ (KS.out _ y2.out) (fun hHeld => ?_)
          clear hK K
          try simp only [Act.put, List.setIfInBounds_toArray, List.set_cons_zero, List.set_cons_succ]
          refine wpAnyH_ready (rs := [8, 10]) (by kernel_rfl) (by simp) ?_
          refine AllReadyH.cons rfl (fun K hK => ?_) (AllReadyH.cons rfl (fun K hK => ?_) (AllReadyH.nil))
          · go_simp
            refine (groups_any a08 _ vs _ (A2.out.2.keep y2.out) LV.out).mono ?_
            rintro e w3 ⟨q2, r2, rfl, hg, hb⟩
            have y3 : Hid (Below v2.heap.size v2 w3) := below_then y2.out hb
            have GK : Hid (Gps w3 q1 ks) := GK.out.keep hb
            have GV : Hid (Gps w3 q2 vs) := hg
            clear hb hg
            refine hK.out _ _ (KS.out _ y3.out) (fun hHeld => ?_)
            clear hK K
            try simp only [Act.put, List.setIfInBounds_toArray, List.set_cons_zero, List.set_cons_succ]
            refine take_yes 9 32 (v := ?_) rfl rfl (by kernel_rfl) (by kernel_rfl) (by kernel_rfl) (fun _ _ _ h => h) hHeld (by rfl) (fun w hSw => ?_) ?_
            rotate_left
            · (try dsimp only at hSw); go_simp; try rfl
            try simp only [Act.put, List.setIfInBounds_toArray, List.set_cons_zero, List.set_cons_succ]
            refine wpAnyH_ready (rs := [10]) (by kernel_rfl) (by simp) ?_
            refine AllReadyH.cons rfl (fun K hK => ?_) (AllReadyH.nil)
            go_simp
            have ya : Hid (Below v2.heap.size v2 (w3.alloc (.cells #[.int .i64 0, .int .i64 0, .int .i64 0, .int .i64 0, .int .i64 0, .int .i64 0, .int .i64 0, .slice none 0 0, .slice none 0 0] 38))) := below_then y3.out (box_below _ _)
            have HP : Hid (v2.heap.size ≤ w3.heap.size) := y3.out.size
            have Z : Hid ((w3.alloc (.cells #[.int .i64 0, .int .i64 0, .int .i64 0, .int .i64 0, .int .i64 0, .int .i64 0, .int .i64 0, .slice none 0 0, .slice none 0 0] 38)).rowIs (w3.heap.size) 38 9 z9) := z9_alloc w3
            have GA : Hid (∀ F : World, (∀ g, ¬ g = w3.heap.size → F.heap[g]? = (w3.alloc (.cells #[.int .i64 0, .int .i64 0, .int .i64 0, .int .i64 0, .int .i64 0, .int .i64 0, .int .i64 0, .slice none 0 0, .slice none 0 0] 38)).heap[g]?) → Gps F q1 ks) := fun F hF => GK.out.off (box_below _ _) (Nat.le_refl _) hF
            have GB : Hid (∀ F : World, (∀ g, ¬ g = w3.heap.size → F.heap[g]? = (w3.alloc (.cells #[.int .i64 0, .int .i64 0, .int .i64 0, .int .i64 0, .int .i64 0, .int .i64 0, .int .i64 0, .slice none 0 0, .slice none 0 0] 38)).heap[g]?) → Gps F q2 vs) := fun F hF => GV.out.off (box_below _ _) (Nat.le_refl _) hF
            refine hK.out _ _ (KS.out _ ya.out) (fun hHeld => ?_)
            clear hK K
            try simp only [Act.put, List.setIfInBounds_toArray, List.set_cons_zero, List.set_cons_succ]
            refine wpAnyH_ready (rs := [11]) (by kernel_rfl) (by simp) ?_
            refine AllReadyH.cons rfl (fun K hK => ?_) AllReadyH.nil
            refine wp_if_wanted rfl ?_
            refine wp_store_box _ _ _ rfl (w3.heap.size) #[.int .i64 (m0 : Int), .int .i64 (m1 : Int), .int .i64 (n0 : Int), .int .i64 (d0 : Int), .int .i64 b04, .int .i64 b05, .int .i64 b06, .slice q1 ks.length r1, .slice q2 vs.length r2] rfl rfl 38 9 z9 Z.out (by kernel_rfl) rfl (by simp [Value.oneCell']) (fun wf hoff hcell hbel => ?_)
            have yf : Hid (Below v2.heap.size v2 wf) := hbel _ _ ya.out HP.out
            refine hK.out _ _ (KS.out _ yf.out) (fun hHeld => ?_)
            clear hK K
            try simp only [Act.put]
            refine wpAnyH_done (by kernel_rfl) ?_ _
            go_wp2
            go_meet
            case rel => exact ⟨w3.heap.size, q1, r1, q2, r2, rfl, ⟨⟨hcell 0 _ rfl, hcell 1 _ rfl, hcell 2 _ rfl, hcell 3 _ rfl, hcell 4 _ rfl, hcell 5 _ rfl, hcell 6 _ rfl⟩, hcell 7 _ rfl, hcell 8 _ rfl⟩, GA.out _ hoff, GB.out _ hoff, yf.out⟩
          · go_simp
            have ya : Hid (Below v2.heap.size v2 (w2.alloc (.cells #[.int .i64 0, .int .i64 0, .int .i64 0, .int .i64 0, .int .i64 0, .int .i64 0, .int .i64 0, .slice none 0 0, .slice none 0 0] 38))) := below_then y2.out (box_below _ _)
            have HP : Hid (v2.heap.size ≤ w2.heap.size) := y2.out.size
            have Z : Hid ((w2.alloc (.cells #[.int .i64 0, .int .i64 0, .int .i64 0, .int .i64 0, .int .i64 0, .int .i64 0, .int .i64 0, .slice none 0 0, .slice none 0 0] 38)).rowIs (w2.heap.size) 38 9 z9) := z9_alloc w2
            have GA : Hid (∀ F : World, (∀ g, ¬ g = w2.heap.size → F.heap[g]? = (w2.alloc (.cells #[.int .i64 0, .int .i64 0, .int .i64 0, .int .i64 0, .int .i64 0, .int .i64 0, .int .i64 0, .slice none 0 0, .slice none 0 0] 38)).heap[g]?) → Gps F q1 ks) := fun F hF => GK.out.off (box_below _ _) (Nat.le_refl _) hF
            refine hK.out _ _ (KS.out _ ya.out) (fun hHeld => ?_)
            clear hK K
            try simp only [Act.put, List.setIfInBounds_toArray, List.set_cons_zero, List.set_cons_succ]
            refine wpAnyH_ready (rs := [8]) (by kernel_rfl) (by simp) ?_
            refine AllReadyH.cons rfl (fun K hK => ?_) (AllReadyH.nil)
            go_simp
            refine (groups_off a08 _ (w2.heap.size) vs v2 _ A2.out.2 ya.out HP.out Z.out.lt LV.out).mono ?_
            rintro e w3 ⟨q2, r2, rfl, hg, hb⟩
            have y3 : Hid (Below v2.heap.size v2 w3) := below_then ya.out hb
            have Z : Hid (w3.rowIs (w2.heap.size) 38 9 z9) := row_keep Z.out hb
            have GA : Hid (∀ F : World, (∀ g, ¬ g = w2.heap.size → F.heap[g]? = w3.heap[g]?) → Gps F q1 ks) := fun F hF => gps_hop GA.out hb hF
            have GB : Hid (∀ F : World, (∀ g, ¬ g = w2.heap.size → F.heap[g]? = w3.heap[g]?) → Gps F q2 vs) := hg
            clear hb hg
            refine hK.out _ _ (KS.out _ y3.out) (fun hHeld => ?_)
            clear hK K
            try simp only [Act.put, List.setIfInBounds_toArray, List.set_cons_zero, List.set_cons_succ]
            refine take_yes 9 32 (v := ?_) rfl rfl (by kernel_rfl) (by kernel_rfl) (by kernel_rfl) (fun _ _ _ h => h) hHeld (by rfl) (fun w hSw => ?_) ?_
            rotate_left
            · (try dsimp only at hSw); go_simp; try rfl
            try simp only [Act.put, List.setIfInBounds_toArray, List.set_cons_zero, List.set_cons_succ]
            refine wpAnyH_ready (rs := [11]) (by kernel_rfl) (by simp) ?_
            refine AllReadyH.cons rfl (fun K hK => ?_) AllReadyH.nil
            refine wp_if_wanted rfl ?_
            refine wp_store_box _ _ _ rfl (w2.heap.size) #[.int .i64 (m0 : Int), .int .i64 (m1 : Int), .int .i64 (n0 : Int), .int .i64 (d0 : Int), .int .i64 b04, .int .i64 b05, .int .i64 b06, .slice q1 ks.length r1, .slice q2 vs.length r2] rfl rfl 38 9 z9 Z.out (by kernel_rfl) rfl (by simp [Value.oneCell']) (fun wf hoff hcell hbel => ?_)
            have yf : Hid (Below v2.heap.size v2 wf) := hbel _ _ y3.out HP.out
            refine hK.out _ _ (KS.out _ yf.out) (fun hHeld => ?_)
            clear hK K
            try simp only [Act.put]
            refine wpAnyH_done (by kernel_rfl) ?_ _
            go_wp2
            go_meet
            case rel => exact ⟨w2.heap.size, q1, r1, q2, r2, rfl, ⟨⟨hcell 0 _ rfl, hcell 1 _ rfl, hcell 2 _ rfl, hcell 3 _ rfl, hcell 4 _ rfl, hcell 5 _ rfl, hcell 6 _ rfl⟩, hcell 7 _ rfl, hcell 8 _ rfl⟩, GA.out _ hoff, GB.out _ hoff, yf.out⟩
        · go_simp
          have ya : Hid (Below v2.heap.size v2 (w1.alloc (.cells #[.int .i64 0, .int .i64 0, .int .i64 0, .int .i64 0, .int .i64 0, .int .i64 0, .int .i64 0, .slice none 0 0, .slice none 0 0] 38))) := below_then y1.out (box_below _ _)
          have HP : Hid (v2.heap.size ≤ w1.heap.size) := y1.out.size
          have Z : Hid ((w1.alloc (.cells #[.int .i64 0, .int .i64 0, .int .i64 0, .int .i64 0, .int .i64 0, .int .i64 0, .int .i64 0, .slice none 0 0, .slice none 0 0] 38)).rowIs (w1.heap.size) 38 9 z9) := z9_alloc w1
          refine hK.out _ _ (KS.out _ ya.out) (fun hHeld => ?_)
          clear hK K
          try simp only [Act.put, List.setIfInBounds_toArray, List.set_cons_zero, List.set_cons_succ]
          refine wpAnyH_ready (rs := [5]) (by kernel_rfl) (by simp) ?_
          refine AllReadyH.cons rfl (fun K hK => ?_) (AllReadyH.nil)
          go_simp
          refine (groups_off a07 _ (w1.heap.size) ks v2 _ A2.out.1 ya.out HP.out Z.out.lt LK.out).mono ?_
          rintro e w2 ⟨q1, r1, rfl, hg, hb⟩
          have y2 : Hid (Below v2.heap.size v2 w2) := below_then ya.out hb
          have Z : Hid (w2.rowIs (w1.heap.size) 38 9 z9) := row_keep Z.out hb
          have GA : Hid (∀ F : World, (∀ g, ¬ g = w1.heap.size → F.heap[g]? = w2.heap[g]?) → Gps F q1 ks) := hg
          clear hb hg
          refine hK.out _ _ (KS.out _ y2.out) (fun hHeld => ?_)
          clear hK K
          try simp only [Act.put, List.setIfInBounds_toArray, List.set_cons_zero, List.set_cons_succ]
          refine wpAnyH_ready (rs := [8]) (by kernel_rfl) (by simp) ?_
          refine AllReadyH.cons rfl (fun K hK => ?_) (AllReadyH.nil)
          go_simp
          refine (groups_off a08 _ (w1.heap.size) vs v2 _ A2.out.2 y2.out HP.out Z.out.lt LV.out).mono ?_
          rintro e w3 ⟨q2, r2, rfl, hg, hb⟩
          have y3 : Hid (Below v2.heap.size v2 w3) := below_then y2.out hb
          have Z : Hid (w3.rowIs (w1.heap.size) 38 9 z9) := row_keep Z.out hb
          have GA : Hid (∀ F : World, (∀ g, ¬ g = w1.heap.size → F.heap[g]? = w3.heap[g]?) → Gps F q1 ks) := fun F hF => gps_hop GA.out hb hF
          have GB : Hid (∀ F : World, (∀ g, ¬ g = w1.heap.size → F.heap[g]? = w3.heap[g]?) → Gps F q2 vs) := hg
          clear hb hg
          refine hK.out _ _ (KS.out _ y3.out) (fun hHeld => ?_)
          clear hK K
          try simp only [Act.put, List.setIfInBounds_toArray, List.set_cons_zero, List.set_cons_succ]
          refine take_yes 9 32 (v := ?_) rfl rfl (by kernel_rfl) (by kernel_rfl) (by kernel_rfl) (fun _ _ _ h => h) hHeld (by rfl) (fun w hSw => ?_) ?_
          rotate_left
          · (try dsimp only at hSw); go_simp; try rfl
          try simp only [Act.put, List.setIfInBounds_toArray, List.set_cons_zero, List.set_cons_succ]
          refine wpAnyH_ready (rs := [11]) (by kernel_rfl) (by simp) ?_
          refine AllReadyH.cons rfl (fun K hK => ?_) AllReadyH.nil
          refine wp_if_wanted rfl ?_
          refine wp_store_box _ _ _ rfl (w1.heap.size) #[.int .i64 (m0 : Int), .int .i64 (m1 : Int), .int .i64 (n0 : Int), .int .i64 (d0 : Int), .int .i64 b04, .int .i64 b05, .int .i64 b06, .slice q1 ks.length r1, .slice q2 vs.length r2] rfl rfl 38 9 z9 Z.out (by kernel_rfl) rfl (by simp [Value.oneCell']) (fun wf hoff hcell hbel => ?_)
          have yf : Hid (Below v2.heap.size v2 wf) := hbel _ _ y3.out HP.out
          refine hK.out _ _ (KS.out _ yf.out) (fun hHeld => ?_)
          clear hK K
          try simp only [Act.put]
          refine wpAnyH_done (by kernel_rfl) ?_ _
          go_wp2
          go_meet
          case rel => exact ⟨w1.heap.size, q1, r1, q2, r2, rfl, ⟨⟨hcell 0 _ rfl, hcell 1 _ rfl, hcell 2 _ rfl, hcell 3 _ rfl, hcell 4 _ rfl, hcell 5 _ rfl, hcell 6 _ rfl⟩, hcell 7 _ rfl, hcell 8 _ rfl⟩, GA.out _ hoff, GB.out _ hoff, yf.out⟩
      · go_simp
        have ya : Hid (Below v2.heap.size v2 (v2.drew.alloc (.cells #[.int .i64 0, .int .i64 0, .int .i64 0, .int .i64 0, .int .i64 0, .int .i64 0, .int .i64 0, .slice none 0 0, .slice none 0 0] 38))) := below_then D0.out (box_below _ _)
        have HP : Hid (v2.heap.size ≤ v2.drew.heap.size) := D0.out.size
        have Z : Hid ((v2.drew.alloc (.cells #[.int .i64 0, .int .i64 0, .int .i64 0, .int .i64 0, .int .i64 0, .int .i64 0, .int .i64 0, .slice none 0 0, .slice none 0 0] 38)).rowIs (v2.drew.heap.size) 38 9 z9) := z9_alloc v2.drew
        refine hK.out _ _ (KS.out _ ya.out) (fun hHeld => ?_)
        clear hK K
        try simp only [Act.put, List.setIfInBounds_toArray, List.set_cons_zero, List.set_cons_succ]
        refine wpAnyH_ready (rs := [2]) (by kernel_rfl) (by simp) ?_
        refine AllReadyH.cons rfl (fun K hK => ?_) (AllReadyH.nil)
        go_simp
        refine (head_any _ _ _ _ _ _ _ _).mono ?_
        rintro e w1 ⟨rfl, hb⟩
        have y1 : Hid (Below v2.heap.size v2 w1) := below_then ya.out hb
        have Z : Hid (w1.rowIs (v2.drew.heap.size) 38 9 z9) := row_keep Z.out hb
        clear hb
        refine hK.out _ _ (KS.out _ y1.out) (fun hHeld => ?_)
        clear hK K
        try simp only [Act.put, List.setIfInBounds_toArray, List.set_cons_zero, List.set_cons_succ]
        refine wpAnyH_ready (rs := [5]) (by kernel_rfl) (by simp) ?_
        refine AllReadyH.cons rfl (fun K hK => ?_) (AllReadyH.nil)
        go_simp
        refine (groups_off a07 _ (v2.drew.heap.size) ks v2 _ A2.out.1 y1.out HP.out Z.out.lt LK.out).mono ?_
        rintro e w2 ⟨q1, r1, rfl, hg, hb⟩
        have y2 : Hid (Below v2.heap.size v2 w2) := below_then y1.out hb
        have Z : Hid (w2.rowIs (v2.drew.heap.size) 38 9 z9) := row_keep Z.out hb
        have GA : Hid (∀ F : World, (∀ g, ¬ g = v2.drew.heap.size → F.heap[g]? = w2.heap[g]?) → Gps F q1 ks) := hg
        clear hb hg
        refine hK.out _ _ (KS.out _ y2.out) (fun hHeld => ?_)
        clear hK K
        try simp only [Act.put, List.setIfInBounds_toArray, List.set_cons_zero, List.set_cons_succ]
        refine wpAnyH_ready (rs := [8]) (by kernel_rfl) (by simp) ?_
        refine AllReadyH.cons rfl (fun K hK => ?_) (AllReadyH.nil)
        go_simp
        refine (groups_off a08 _ (v2.drew.heap.size) vs v2 _ A2.out.2 y2.out HP.out Z.out.lt LV.out).mono ?_
        rintro e w3 ⟨q2, r2, rfl, hg, hb⟩
        have y3 : Hid (Below v2.heap.size v2 w3) := below_then y2.out hb
        have Z : Hid (w3.rowIs (v2.drew.heap.size) 38 9 z9) := row_keep Z.out hb
        have GA : Hid (∀ F : World, (∀ g, ¬ g = v2.drew.heap.size → F.heap[g]? = w3.heap[g]?) → Gps F q1 ks) := fun F hF => gps_hop GA.out hb hF
        have GB : Hid (∀ F : World, (∀ g, ¬ g = v2.drew.heap.size → F.heap[g]? = w3.heap[g]?) → Gps F q2 vs) := hg
        clear hb hg
        refine hK.out _ _ (KS.out _ y3.out) (fun hHeld => ?_)
        clear hK K
        try simp only [Act.put, List.setIfInBounds_toArray, List.set_cons_zero, List.set_cons_succ]
        refine take_yes 9 32 (v := ?_) rfl rfl (by kernel_rfl) (by kernel_rfl) (by kernel_rfl) (fun _ _ _ h => h) hHeld (by rfl) (fun w hSw => ?_) ?_
        rotate_left
        · (try dsimp only at hSw); go_simp; try rfl
        try simp only [Act.put, List.setIfInBounds_toArray, List.set_cons_zero, List.set_cons_succ]
        refine wpAnyH_ready (rs := [11]) (by kernel_rfl) (by simp) ?_
        refine AllReadyH.cons rfl (fun K hK => ?_) AllReadyH.nil
        refine wp_if_wanted rfl ?_
        refine wp_store_box _ _ _ rfl (v2.drew.heap.size) #[.int .i64 (m0 : Int), .int .i64 (m1 : Int), .int .i64 (n0 : Int), .int .i64 (d0 : Int), .int .i64 b04, .int .i64 b05, .int .i64 b06, .slice q1 ks.length r1, .slice q2 vs.length r2] rfl rfl 38 9 z9 Z.out (by kernel_rfl) rfl (by simp [Value.oneCell']) (fun wf hoff hcell hbel => ?_)
        have yf : Hid (Below v2.heap.size v2 wf) := hbel _ _ y3.out HP.out
        refine hK.out _ _ (KS.out _ yf.out) (fun hHeld => ?_)
        clear hK K
        try simp only [Act.put]
        refine wpAnyH_done (by kernel_rfl) ?_ _
        go_wp2
        go_meet
        case rel => exact ⟨v2.drew.heap.size, q1, r1, q2, r2, rfl, ⟨⟨hcell 0 _ rfl, hcell 1 _ rfl, hcell 2 _ rfl, hcell 3 _ rfl, hcell 4 _ rfl, hcell 5 _ rfl, hcell 6 _ rfl⟩, hcell 7 _ rfl, hcell 8 _ rfl⟩, GA.out _ hoff, GB.out _ hoff, yf.out⟩
    case rest =>
      obtain ⟨G, q1, r1, q2, r2, rfl, hn, h1, h2, hb⟩ := hcut
      have YC : Hid (Below u0.heap.size u0 wc) := below_then B2.out hb
      have YV : Hid (Below v2.heap.size v2 wc) := hb
      have NG : Hid (∀ v, Below wc.heap.size wc v → NmAt v G m0 m1 n0 d0 b04 b05 b06 (.slice q1 ks.length r1) (.slice q2 vs.length r2)) := fun v hb => ⟨hn.1.keep hb, by rw [hb.cell (p := ⟨G, 7, none⟩) (World.block_lt_of_cell? wc _ hn.2.1)]; exact hn.2.1, by rw [hb.cell (p := ⟨G, 8, none⟩) (World.block_lt_of_cell? wc _ hn.2.2)]; exact hn.2.2⟩
      have GQ : Hid (Gps wc q1 ks ∧ Gps wc q2 vs) := ⟨h1, h2⟩
      have KT : Hid (∀ w', Below wc.heap.size wc w' → ((w'.cell? ⟨w.heap.size, 0, none⟩ = some (.int .i64 (m0 : Int)) ∧ w'.cell? ⟨w.heap.size, 1, none⟩ = some (.int .i64 (m1 : Int)) ∧ w'.cell? ⟨w.heap.size, 2, none⟩ = some (.int .i64 (n0 : Int)) ∧ w'.cell? ⟨w.heap.size, 3, none⟩ = some (.int .i64 (d0 : Int)) ∧ w'.cell? ⟨w.heap.size, 4, none⟩ = some (.int .i64 b04) ∧ w'.cell? ⟨w.heap.size, 5, none⟩ = some (.int .i64 b05) ∧ w'.cell? ⟨w.heap.size, 6, none⟩ = some (.int .i64 b06) ∧ w'.cell? ⟨w.heap.size, 7, none⟩ = some (.slice a07 ks.length cap07) ∧ w'.cell? ⟨w.heap.size, 8, none⟩ = some (.slice a08 vs.length cap08)) ∧ (w'.cell? ⟨G, 0, none⟩ = some (.int .i64 (m0 : Int)) ∧ w'.cell? ⟨G, 1, none⟩ = some (.int .i64 (m1 : Int)) ∧ w'.cell? ⟨G, 2, none⟩ = some (.int .i64 (n0 : Int)) ∧ w'.cell? ⟨G, 3, none⟩ = some (.int .i64 (d0 : Int)) ∧ w'.cell? ⟨G, 4, none⟩ = some (.int .i64 b04) ∧ w'.cell? ⟨G, 5, none⟩ = some (.int .i64 b05) ∧ w'.cell? ⟨G, 6, none⟩ = some (.int .i64 b06) ∧ w'.cell? ⟨G, 7, none⟩ = some (.slice q1 ks.length r1) ∧ w'.cell? ⟨G, 8, none⟩ = some (.slice q2 vs.length r2))) ∧ Hid (Below wc.heap.size wc w')) := fun w' hb => by
        obtain ⟨⟨c0, c1, c2, c3, c4, c5, c6⟩, c7, c8⟩ := NM.out w' (below_then YC.out hb)
        obtain ⟨⟨p0, p1, p2, p3, p4, p5, p6⟩, p7, p8⟩ := NG.out w' hb
        exact ⟨⟨⟨c0, c1, c2, c3, c4, c5, c6, c7, c8⟩, ⟨p0, p1, p2, p3, p4, p5, p6, p7, p8⟩⟩, hb⟩
      have D3 : Hid (Below wc.heap.size wc wc.drew) := (Below.refl wc.heap.size wc).drew
      clear hn h1 h2 hb KS D0 A2
      go_wp2_with fail
      go_region_held3 (fun w' => ((w'.cell? ⟨w.heap.size, 0, none⟩ = some (.int .i64 (m0 : Int)) ∧ w'.cell? ⟨w.heap.size, 1, none⟩ = some (.int .i64 (m1 : Int)) ∧ w'.cell? ⟨w.heap.size, 2, none⟩ = some (.int .i64 (n0 : Int)) ∧ w'.cell? ⟨w.heap.size, 3, none⟩ = some (.int .i64 (d0 : Int)) ∧ w'.cell? ⟨w.heap.size, 4, none⟩ = some (.int .i64 b04) ∧ w'.cell? ⟨w.heap.size, 5, none⟩ = some (.int .i64 b05) ∧ w'.cell? ⟨w.heap.size, 6, none⟩ = some (.int .i64 b06) ∧ w'.cell? ⟨w.heap.size, 7, none⟩ = some (.slice a07 ks.length cap07) ∧ w'.cell? ⟨w.heap.size, 8, none⟩ = some (.slice a08 vs.length cap08)) ∧ (w'.cell? ⟨G, 0, none⟩ = some (.int .i64 (m0 : Int)) ∧ w'.cell? ⟨G, 1, none⟩ = some (.int .i64 (m1 : Int)) ∧ w'.cell? ⟨G, 2, none⟩ = some (.int .i64 (n0 : Int)) ∧ w'.cell? ⟨G, 3, none⟩ = some (.int .i64 (d0 : Int)) ∧ w'.cell? ⟨G, 4, none⟩ = some (.int .i64 b04) ∧ w'.cell? ⟨G, 5, none⟩ = some (.int .i64 b05) ∧ w'.cell? ⟨G, 6, none⟩ = some (.int .i64 b06) ∧ w'.cell? ⟨G, 7, none⟩ = some (.slice q1 ks.length r1) ∧ w'.cell? ⟨G, 8, none⟩ = some (.slice q2 vs.length r2))) ∧ Hid (Below wc.heap.size wc w'))
        (first
          | exact KT.out _ D3.out
          | exact KT.out _ z2.out
          | exact KT.out _ z1.out
          | assumption)
        (first
          | (go_at_call 11; refine (rightP_any _ _ _ _ _ _ _ true EQ.out _).mono ?_; rintro e w4 ⟨rfl, hb⟩; have z1 : Hid (Below wc.heap.size wc w4) := below_then D3.out hb; clear hb)
          | (go_at_call 12; refine (refRightH_any _ _ _ _ _ _ _ true EQ.out _).mono ?_; rintro e w5 ⟨rfl, hb⟩; have z2 : Hid (Below wc.heap.size wc w5) := below_then z1.out hb; clear hb))
      obtain ⟨⟨x0, x1, x2, x3, x4, x5, x6⟩, x7, x8⟩ := NG.out w5 z2.out
      go_wp2_with fail
      refine (refNewP_any _ _ _ _ _ _ _ q1 q2 _ _ ks vs 0 _ (GQ.out.1.keep z2.out) (GQ.out.2.keep z2.out) LK.out LV.out IK.out IV.out EE.out).mono ?_
      rintro r w6 ⟨rfl, hb⟩
      have Y6 : Hid (Below wc.heap.size wc w6) := below_then z2.out hb
      clear hb z1 z2
      clear x0 x1 x2 x3 x4 x5 x6 x7 x8
      obtain ⟨⟨x0, x1, x2, x3, x4, x5, x6⟩, x7, x8⟩ := NG.out w6 Y6.out
      go_wp2_with fail
      refine (is_any p m0 m1 n0 d0 b04 b05 b06 ks vs q1 q2 _ _ _ (PA.out.keep (below_then YV.out Y6.out)) (GQ.out.1.keep Y6.out) (GQ.out.2.keep Y6.out)).mono ?_
      rintro r w7 ⟨rfl, hb⟩
      have Y7 : Hid (Below wc.heap.size wc w7) := below_then Y6.out hb
      clear hb
      clear x0 x1 x2 x3 x4 x5 x6 x7 x8
      obtain ⟨⟨z0, z1, z2, z3, z4, z5, z6⟩, z7, z8⟩ := NM.out w7 (below_then YC.out Y7.out)
      go_wp2_with fail
      refine (sizeP_any m0 m1 n0 d0 b04 b05 b06 N _ OK0.out OK1.out c2 c4 EQ.out HNN.out).mono ?_
      rintro r w8 ⟨rfl, hb⟩
      have Y8 : Hid (Below wc.heap.size wc w8) := below_then Y7.out hb
      clear hb
      clear z0 z1 z2 z3 z4 z5 z6 z7 z8
      go_wp2_with fail
      refine (bytesP_any p m0 m1 n0 d0 b04 b05 b06 ks vs N _ (PA.out.keep (below_then YV.out Y8.out)) HN.out).mono ?_
      rintro r w9 ⟨g9, rfl, _, _, hb⟩
      have Y9 : Hid (Below wc.heap.size wc w9) := below_then Y8.out hb
      clear hb
      go_wp2_with fail
      refine (bytesP_any p m0 m1 n0 d0 b04 b05 b06 ks vs N _ (PA.out.keep (below_then YV.out Y9.out)) HN.out).mono ?_
      rintro r w10 ⟨g10, rfl, _, hr, hb⟩
      have HR : Hid (w10.rowIs g10 5 N (fun j => .int .u8 (Ls.nth (Pg.bytes [(m0 : Int), m1, n0, d0, b04, b05, b06] ks vs) j))) := hr
      clear hr
      have Y10 : Hid (Below wc.heap.size wc w10) := below_then Y9.out hb
      clear hb
      go_wp2_with fail
      refine (parseP_own g10 N m0 m1 n0 d0 b04 b05 b06 ks vs _ PQ.out HN.out HR.out).mono ?_
      rintro r w11 ⟨p2, rfl, hpa, hb⟩
      have PB : Hid (PageAt w11 p2 m0 m1 n0 d0 b04 b05 b06 ks vs) := hpa
      clear hpa
      have Y11 : Hid (Below wc.heap.size wc w11) := below_then Y10.out hb
      clear hb
      obtain ⟨⟨x0, x1, x2, x3, x4, x5, x6⟩, x7, x8⟩ := NG.out w11 Y11.out
      go_wp2_with fail
      refine (is_any p2 m0 m1 n0 d0 b04 b05 b06 ks vs q1 q2 _ _ _ (PB.out) (GQ.out.1.keep Y11.out) (GQ.out.2.keep Y11.out)).mono ?_
      rintro r w12 ⟨rfl, hb⟩
      have Y12 : Hid (Below wc.heap.size wc w12) := below_then Y11.out hb
      clear hb
      clear x0 x1 x2 x3 x4 x5 x6 x7 x8
      go_wp2_with (go_at_call 7; refine (pgAwake_any _).mono ?_; rintro r va ⟨rfl, hb⟩; have BA : Hid (Below w.heap.size w va) := below_then (below_then U0.out (below_then YC.out Y12.out)) hb; clear hb)
      go_ret
      exact ⟨rfl, BA.out⟩
  · have NZ : Hid (¬ e = 0) := hz
    have t0 : (e != 0) = true := by simpa using hz
    have t1 : (q != q) = false := by simp
    clear hz
    go_enter Tryz.func3, Tryz.ntmps3
    go_wp2_with fail
    obtain ⟨u0, hu0⟩ : ∃ u, w.alloc (.cells #[.int .i64 b00, .int .i64 b01, .int .i64 b02, .int .i64 b03, .int .i64 b04, .int .i64 b05, .int .i64 b06, .slice a07 ks.length cap07, .slice a08 vs.length cap08] 26) = u := ⟨_, rfl⟩
    have U0 : Hid (Below w.heap.size w u0) := by rw [← hu0]; exact box_below _ _
    have NM : Hid (∀ v, Below u0.heap.size u0 v → NmAt v w.heap.size b00 b01 b02 b03 b04 b05 b06 (.slice a07 ks.length cap07) (.slice a08 vs.length cap08)) := by rw [← hu0]; exact fun v hb => nm_box hb
    rw [hu0]
    clear hu0
    refine (small_any _ _ _ _ _ _ _ _ _ _ _ ks vs true _ (HA.out.keep U0.out) (HB.out.keep U0.out) MK.out MV.out IK.out IV.out SM.out).mono ?_
    rintro r v1 ⟨rfl, hb⟩
    have B1 : Hid (Below u0.heap.size u0 v1) := hb
    obtain ⟨⟨x0, x1, x2, x3, x4, x5, x6⟩, x7, x8⟩ := NM.out v1 hb
    clear hb
    go_wp2_with fail
    refine (newP_bad _ _ _ _ _ _ _ _ _ _ _ ks vs e _ (HA.out.keep (below_then U0.out B1.out)) (HB.out.keep (below_then U0.out B1.out)) LK.out LV.out IK.out IV.out EE.out NZ.out).mono ?_
    rintro r v2 ⟨rfl, hb⟩
    have B2 : Hid (Below u0.heap.size u0 v2) := below_then B1.out hb
    clear hb
    go_wp2_with fail
    clear x0 x1 x2 x3 x4 x5 x6 x7 x8
    have WW : Hid (Below w.heap.size w v2) := below_then U0.out B2.out
    have KS : Hid (∀ w', Below v2.heap.size v2 w' → (w'.cell? ⟨w.heap.size, 0, none⟩ = some (.int .i64 b00) ∧ w'.cell? ⟨w.heap.size, 1, none⟩ = some (.int .i64 b01) ∧ w'.cell? ⟨w.heap.size, 2, none⟩ = some (.int .i64 b02) ∧ w'.cell? ⟨w.heap.size, 3, none⟩ = some (.int .i64 b03) ∧ w'.cell? ⟨w.heap.size, 4, none⟩ = some (.int .i64 b04) ∧ w'.cell? ⟨w.heap.size, 5, none⟩ = some (.int .i64 b05) ∧ w'.cell? ⟨w.heap.size, 6, none⟩ = some (.int .i64 b06) ∧ w'.cell? ⟨w.heap.size, 7, none⟩ = some (.slice a07 ks.length cap07) ∧ w'.cell? ⟨w.heap.size, 8, none⟩ = some (.slice a08 vs.length cap08)) ∧ Hid (Below v2.heap.size v2 w')) := fun w' hb => by
      obtain ⟨⟨q0, q1, q2, q3, q4, q5, q6⟩, q7, q8⟩ := NM.out w' (below_then B2.out hb)
      exact ⟨⟨q0, q1, q2, q3, q4, q5, q6, q7, q8⟩, hb⟩
    have D0 : Hid (Below v2.heap.size v2 v2.drew) := (Below.refl v2.heap.size v2).drew
    have A2 : Hid (Gps v2 a07 ks ∧ Gps v2 a08 vs) := ⟨HA.out.keep WW.out, HB.out.keep WW.out⟩
    go_cut [5] from 9 (fun s5 wc => ∃ (G : Nat) (q1 : Option Addr) (r1 : Nat) (q2 : Option Addr) (r2 : Nat), s5 = .pointer (some ⟨G, 0, none⟩) ∧ NmAt wc G b00 b01 b02 b03 b04 b05 b06 (.slice q1 ks.length r1) (.slice q2 vs.length r2) ∧ Gps wc q1 ks ∧ Gps wc q2 vs ∧ Below v2.heap.size v2 wc)
    case first =>
      refine wp_region_held_drew (S := fun w' => (w'.cell? ⟨w.heap.size, 0, none⟩ = some (.int .i64 b00) ∧ w'.cell? ⟨w.heap.size, 1, none⟩ = some (.int .i64 b01) ∧ w'.cell? ⟨w.heap.size, 2, none⟩ = some (.int .i64 b02) ∧ w'.cell? ⟨w.heap.size, 3, none⟩ = some (.int .i64 b03) ∧ w'.cell? ⟨w.heap.size, 4, none⟩ = some (.int .i64 b04) ∧ w'.cell? ⟨w.heap.size, 5, none⟩ = some (.int .i64 b05) ∧ w'.cell? ⟨w.heap.size, 6, none⟩ = some (.int .i64 b06) ∧ w'.cell? ⟨w.heap.size, 7, none⟩ = some (.slice a07 ks.length cap07) ∧ w'.cell? ⟨w.heap.size, 8, none⟩ = some (.slice a08 vs.length cap08)) ∧ Hid (Below v2.heap.size v2 w')) (by kernel_rfl) (KS.out _ D0.out) (fun hHeld => ?_)
      refine take_yes 0 23 (v := ?_) rfl rfl (by kernel_rfl) (by kernel_rfl) (by kernel_rfl) (fun _ _ _ h => h) hHeld (by rfl) (fun w hSw => ?_) ?_
      rotate_left
      · (try dsimp only at hSw); go_simp; try rfl
      try simp only [Act.put, List.setIfInBounds_toArray, List.set_cons_zero, List.set_cons_succ]
      refine take_yes 1 24 (v := ?_) rfl rfl (by kernel_rfl) (by kernel_rfl) (by kernel_rfl) (fun _ _ _ h => h) hHeld (by rfl) (fun w hSw => ?_) ?_
      rotate_left
      · (try dsimp only at hSw); go_simp; try rfl
      try simp only [Act.put, List.setIfInBounds_toArray, List.set_cons_zero, List.set_cons_succ]
      refine take_yes 3 26 (v := ?_) rfl rfl (by kernel_rfl) (by kernel_rfl) (by kernel_rfl) (fun _ _ _ h => h) hHeld (by rfl) (fun w hSw => ?_) ?_
      rotate_left
      · (try dsimp only at hSw); go_simp; try rfl
      try simp only [Act.put, List.setIfInBounds_toArray, List.set_cons_zero, List.set_cons_succ]
      refine take_yes 4 27 (v := ?_) rfl rfl (by kernel_rfl) (by kernel_rfl) (by kernel_rfl) (fun _ _ _ h => h) hHeld (by rfl) (fun w hSw => ?_) ?_
      rotate_left
      · (try dsimp only at hSw); go_simp; try rfl
      try simp only [Act.put, List.setIfInBounds_toArray, List.set_cons_zero, List.set_cons_succ]
      refine take_yes 6 29 (v := ?_) rfl rfl (by kernel_rfl) (by kernel_rfl) (by kernel_rfl) (fun _ _ _ h => h) hHeld (by rfl) (fun w hSw => ?_) ?_
      rotate_left
      · (try dsimp only at hSw); go_simp; try rfl
      try simp only [Act.put, List.setIfInBounds_toArray, List.set_cons_zero, List.set_cons_succ]
      refine take_yes 7 30 (v := ?_) rfl rfl (by kernel_rfl) (by kernel_rfl) (by kernel_rfl) (fun _ _ _ h => h) hHeld (by rfl) (fun w hSw => ?_) ?_
      rotate_left
      · (try dsimp only at hSw); go_simp; try rfl
      try simp only [Act.put, List.setIfInBounds_toArray, List.set_cons_zero, List.set_cons_succ]
      refine wpAnyH_ready (rs := [2, 10]) (by kernel_rfl) (by simp) ?_
      refine AllReadyH.cons rfl (fun K hK => ?_) (AllReadyH.cons rfl (fun K hK => ?_) (AllReadyH.nil))
      · go_simp
        refine (head_any _ _ _ _ _ _ _ _).mono ?_
        rintro e w1 ⟨rfl, hb⟩
        have y1 : Hid (Below v2.heap.size v2 w1) := below_then D0.out hb
        clear hb
        refine hK.out _ _ (KS.out _ y1.out) (fun hHeld => ?_)
        clear hK K
        try simp only [Act.put, List.setIfInBounds_toArray, List.set_cons_zero, List.set_cons_succ]
        refine wpAnyH_ready (rs := [5, 10]) (by kernel_rfl) (by simp) ?_
        refine AllReadyH.cons rfl (fun K hK => ?_) (AllReadyH.cons rfl (fun K hK => ?_) (AllReadyH.nil))
        · go_simp
          refine (groups_any a07 _ ks _ (A2.out.1.keep y1.out) LK.out).mono ?_
          rintro e w2 ⟨q1, r1, rfl, hg, hb⟩
          have y2 : Hid (Below v2.heap.size v2 w2) := below_then y1.out hb
          have GK : Hid (Gps w2 q1 ks) := hg
          clear hb hg
          refine hK.out _ _ (KS.out _ y2.out) (fun hHeld => ?_)
          clear hK K
          try simp only [Act.put, List.setIfInBounds_toArray, List.set_cons_zero, List.set_cons_succ]
          refine wpAnyH_ready (rs := [8, 10]) (by kernel_rfl) (by simp) ?_
          refine AllReadyH.cons rfl (fun K hK => ?_) (AllReadyH.cons rfl (fun K hK => ?_) (AllReadyH.nil))
          · go_simp
            refine (groups_any a08 _ vs _ (A2.out.2.keep y2.out) LV.out).mono ?_
            rintro e w3 ⟨q2, r2, rfl, hg, hb⟩
            have y3 : Hid (Below v2.heap.size v2 w3) := below_then y2.out hb
            have GK : Hid (Gps w3 q1 ks) := GK.out.keep hb
            have GV : Hid (Gps w3 q2 vs) := hg
            clear hb hg
            refine hK.out _ _ (KS.out _ y3.out) (fun hHeld => ?_)
            clear hK K
            try simp only [Act.put, List.setIfInBounds_toArray, List.set_cons_zero, List.set_cons_succ]
            refine take_yes 9 32 (v := ?_) rfl rfl (by kernel_rfl) (by kernel_rfl) (by kernel_rfl) (fun _ _ _ h => h) hHeld (by rfl) (fun w hSw => ?_) ?_
            rotate_left
            · (try dsimp only at hSw); go_simp; try rfl
            try simp only [Act.put, List.setIfInBounds_toArray, List.set_cons_zero, List.set_cons_succ]
            refine wpAnyH_ready (rs := [10]) (by kernel_rfl) (by simp) ?_
            refine AllReadyH.cons rfl (fun K hK => ?_) (AllReadyH.nil)
            go_simp
            have ya : Hid (Below v2.heap.size v2 (w3.alloc (.cells #[.int .i64 0, .int .i64 0, .int .i64 0, .int .i64 0, .int .i64 0, .int .i64 0, .int .i64 0, .slice none 0 0, .slice none 0 0] 38))) := below_then y3.out (box_below _ _)
            have HP : Hid (v2.heap.size ≤ w3.heap.size) := y3.out.size
            have Z : Hid ((w3.alloc (.cells #[.int .i64 0, .int .i64 0, .int .i64 0, .int .i64 0, .int .i64 0, .int .i64 0, .int .i64 0, .slice none 0 0, .slice none 0 0] 38)).rowIs (w3.heap.size) 38 9 z9) := z9_alloc w3
            have GA : Hid (∀ F : World, (∀ g, ¬ g = w3.heap.size → F.heap[g]? = (w3.alloc (.cells #[.int .i64 0, .int .i64 0, .int .i64 0, .int .i64 0, .int .i64 0, .int .i64 0, .int .i64 0, .slice none 0 0, .slice none 0 0] 38)).heap[g]?) → Gps F q1 ks) := fun F hF => GK.out.off (box_below _ _) (Nat.le_refl _) hF
            have GB : Hid (∀ F : World, (∀ g, ¬ g = w3.heap.size → F.heap[g]? = (w3.alloc (.cells #[.int .i64 0, .int .i64 0, .int .i64 0, .int .i64 0, .int .i64 0, .int .i64 0, .int .i64 0, .slice none 0 0, .slice none 0 0] 38)).heap[g]?) → Gps F q2 vs) := fun F hF => GV.out.off (box_below _ _) (Nat.le_refl _) hF
            refine hK.out _ _ (KS.out _ ya.out) (fun hHeld => ?_)
            clear hK K
            try simp only [Act.put, List.setIfInBounds_toArray, List.set_cons_zero, List.set_cons_succ]
            refine wpAnyH_ready (rs := [11]) (by kernel_rfl) (by simp) ?_
            refine AllReadyH.cons rfl (fun K hK => ?_) AllReadyH.nil
            refine wp_if_wanted rfl ?_
            refine wp_store_box _ _ _ rfl (w3.heap.size) #[.int .i64 b00, .int .i64 b01, .int .i64 b02, .int .i64 b03, .int .i64 b04, .int .i64 b05, .int .i64 b06, .slice q1 ks.length r1, .slice q2 vs.length r2] rfl rfl 38 9 z9 Z.out (by kernel_rfl) rfl (by simp [Value.oneCell']) (fun wf hoff hcell hbel => ?_)
            have yf : Hid (Below v2.heap.size v2 wf) := hbel _ _ ya.out HP.out
            refine hK.out _ _ (KS.out _ yf.out) (fun hHeld => ?_)
            clear hK K
            try simp only [Act.put]
            refine wpAnyH_done (by kernel_rfl) ?_ _
            go_wp2
            go_meet
            case rel => exact ⟨w3.heap.size, q1, r1, q2, r2, rfl, ⟨⟨hcell 0 _ rfl, hcell 1 _ rfl, hcell 2 _ rfl, hcell 3 _ rfl, hcell 4 _ rfl, hcell 5 _ rfl, hcell 6 _ rfl⟩, hcell 7 _ rfl, hcell 8 _ rfl⟩, GA.out _ hoff, GB.out _ hoff, yf.out⟩
          · go_simp
            have ya : Hid (Below v2.heap.size v2 (w2.alloc (.cells #[.int .i64 0, .int .i64 0, .int .i64 0, .int .i64 0, .int .i64 0, .int .i64 0, .int .i64 0, .slice none 0 0, .slice none 0 0] 38))) := below_then y2.out (box_below _ _)
            have HP : Hid (v2.heap.size ≤ w2.heap.size) := y2.out.size
            have Z : Hid ((w2.alloc (.cells #[.int .i64 0, .int .i64 0, .int .i64 0, .int .i64 0, .int .i64 0, .int .i64 0, .int .i64 0, .slice none 0 0, .slice none 0 0] 38)).rowIs (w2.heap.size) 38 9 z9) := z9_alloc w2
            have GA : Hid (∀ F : World, (∀ g, ¬ g = w2.heap.size → F.heap[g]? = (w2.alloc (.cells #[.int .i64 0, .int .i64 0, .int .i64 0, .int .i64 0, .int .i64 0, .int .i64 0, .int .i64 0, .slice none 0 0, .slice none 0 0] 38)).heap[g]?) → Gps F q1 ks) := fun F hF => GK.out.off (box_below _ _) (Nat.le_refl _) hF
            refine hK.out _ _ (KS.out _ ya.out) (fun hHeld => ?_)
            clear hK K
            try simp only [Act.put, List.setIfInBounds_toArray, List.set_cons_zero, List.set_cons_succ]
            refine wpAnyH_ready (rs := [8]) (by kernel_rfl) (by simp) ?_
            refine AllReadyH.cons rfl (fun K hK => ?_) (AllReadyH.nil)
            go_simp
            refine (groups_off a08 _ (w2.heap.size) vs v2 _ A2.out.2 ya.out HP.out Z.out.lt LV.out).mono ?_
            rintro e w3 ⟨q2, r2, rfl, hg, hb⟩
            have y3 : Hid (Below v2.heap.size v2 w3) := below_then ya.out hb
            have Z : Hid (w3.rowIs (w2.heap.size) 38 9 z9) := row_keep Z.out hb
            have GA : Hid (∀ F : World, (∀ g, ¬ g = w2.heap.size → F.heap[g]? = w3.heap[g]?) → Gps F q1 ks) := fun F hF => gps_hop GA.out hb hF
            have GB : Hid (∀ F : World, (∀ g, ¬ g = w2.heap.size → F.heap[g]? = w3.heap[g]?) → Gps F q2 vs) := hg
            clear hb hg
            refine hK.out _ _ (KS.out _ y3.out) (fun hHeld => ?_)
            clear hK K
            try simp only [Act.put, List.setIfInBounds_toArray, List.set_cons_zero, List.set_cons_succ]
            refine take_yes 9 32 (v := ?_) rfl rfl (by kernel_rfl) (by kernel_rfl) (by kernel_rfl) (fun _ _ _ h => h) hHeld (by rfl) (fun w hSw => ?_) ?_
            rotate_left
            · (try dsimp only at hSw); go_simp; try rfl
            try simp only [Act.put, List.setIfInBounds_toArray, List.set_cons_zero, List.set_cons_succ]
            refine wpAnyH_ready (rs := [11]) (by kernel_rfl) (by simp) ?_
            refine AllReadyH.cons rfl (fun K hK => ?_) AllReadyH.nil
            refine wp_if_wanted rfl ?_
            refine wp_store_box _ _ _ rfl (w2.heap.size) #[.int .i64 b00, .int .i64 b01, .int .i64 b02, .int .i64 b03, .int .i64 b04, .int .i64 b05, .int .i64 b06, .slice q1 ks.length r1, .slice q2 vs.length r2] rfl rfl 38 9 z9 Z.out (by kernel_rfl) rfl (by simp [Value.oneCell']) (fun wf hoff hcell hbel => ?_)
            have yf : Hid (Below v2.heap.size v2 wf) := hbel _ _ y3.out HP.out
            refine hK.out _ _ (KS.out _ yf.out) (fun hHeld => ?_)
            clear hK K
            try simp only [Act.put]
            refine wpAnyH_done (by kernel_rfl) ?_ _
            go_wp2
            go_meet
            case rel => exact ⟨w2.heap.size, q1, r1, q2, r2, rfl, ⟨⟨hcell 0 _ rfl, hcell 1 _ rfl, hcell 2 _ rfl, hcell 3 _ rfl, hcell 4 _ rfl, hcell 5 _ rfl, hcell 6 _ rfl⟩, hcell 7 _ rfl, hcell 8 _ rfl⟩, GA.out _ hoff, GB.out _ hoff, yf.out⟩
        · go_simp
          have ya : Hid (Below v2.heap.size v2 (w1.alloc (.cells #[.int .i64 0, .int .i64 0, .int .i64 0, .int .i64 0, .int .i64 0, .int .i64 0, .int .i64 0, .slice none 0 0, .slice none 0 0] 38))) := below_then y1.out (box_below _ _)
          have HP : Hid (v2.heap.size ≤ w1.heap.size) := y1.out.size
          have Z : Hid ((w1.alloc (.cells #[.int .i64 0, .int .i64 0, .int .i64 0, .int .i64 0, .int .i64 0, .int .i64 0, .int .i64 0, .slice none 0 0, .slice none 0 0] 38)).rowIs (w1.heap.size) 38 9 z9) := z9_alloc w1
          refine hK.out _ _ (KS.out _ ya.out) (fun hHeld => ?_)
          clear hK K
          try simp only [Act.put, List.setIfInBounds_toArray, List.set_cons_zero, List.set_cons_succ]
          refine wpAnyH_ready (rs := [5]) (by kernel_rfl) (by simp) ?_
          refine AllReadyH.cons rfl (fun K hK => ?_) (AllReadyH.nil)
          go_simp
          refine (groups_off a07 _ (w1.heap.size) ks v2 _ A2.out.1 ya.out HP.out Z.out.lt LK.out).mono ?_
          rintro e w2 ⟨q1, r1, rfl, hg, hb⟩
          have y2 : Hid (Below v2.heap.size v2 w2) := below_then ya.out hb
          have Z : Hid (w2.rowIs (w1.heap.size) 38 9 z9) := row_keep Z.out hb
          have GA : Hid (∀ F : World, (∀ g, ¬ g = w1.heap.size → F.heap[g]? = w2.heap[g]?) → Gps F q1 ks) := hg
          clear hb hg
          refine hK.out _ _ (KS.out _ y2.out) (fun hHeld => ?_)
          clear hK K
          try simp only [Act.put, List.setIfInBounds_toArray, List.set_cons_zero, List.set_cons_succ]
          refine wpAnyH_ready (rs := [8]) (by kernel_rfl) (by simp) ?_
          refine AllReadyH.cons rfl (fun K hK => ?_) (AllReadyH.nil)
          go_simp
          refine (groups_off a08 _ (w1.heap.size) vs v2 _ A2.out.2 y2.out HP.out Z.out.lt LV.out).mono ?_
          rintro e w3 ⟨q2, r2, rfl, hg, hb⟩
          have y3 : Hid (Below v2.heap.size v2 w3) := below_then y2.out hb
          have Z : Hid (w3.rowIs (w1.heap.size) 38 9 z9) := row_keep Z.out hb
          have GA : Hid (∀ F : World, (∀ g, ¬ g = w1.heap.size → F.heap[g]? = w3.heap[g]?) → Gps F q1 ks) := fun F hF => gps_hop GA.out hb hF
          have GB : Hid (∀ F : World, (∀ g, ¬ g = w1.heap.size → F.heap[g]? = w3.heap[g]?) → Gps F q2 vs) := hg
          clear hb hg
          refine hK.out _ _ (KS.out _ y3.out) (fun hHeld => ?_)
          clear hK K
          try simp only [Act.put, List.setIfInBounds_toArray, List.set_cons_zero, List.set_cons_succ]
          refine take_yes 9 32 (v := ?_) rfl rfl (by kernel_rfl) (by kernel_rfl) (by kernel_rfl) (fun _ _ _ h => h) hHeld (by rfl) (fun w hSw => ?_) ?_
          rotate_left
          · (try dsimp only at hSw); go_simp; try rfl
          try simp only [Act.put, List.setIfInBounds_toArray, List.set_cons_zero, List.set_cons_succ]
          refine wpAnyH_ready (rs := [11]) (by kernel_rfl) (by simp) ?_
          refine AllReadyH.cons rfl (fun K hK => ?_) AllReadyH.nil
          refine wp_if_wanted rfl ?_
          refine wp_store_box _ _ _ rfl (w1.heap.size) #[.int .i64 b00, .int .i64 b01, .int .i64 b02, .int .i64 b03, .int .i64 b04, .int .i64 b05, .int .i64 b06, .slice q1 ks.length r1, .slice q2 vs.length r2] rfl rfl 38 9 z9 Z.out (by kernel_rfl) rfl (by simp [Value.oneCell']) (fun wf hoff hcell hbel => ?_)
          have yf : Hid (Below v2.heap.size v2 wf) := hbel _ _ y3.out HP.out
          refine hK.out _ _ (KS.out _ yf.out) (fun hHeld => ?_)
          clear hK K
          try simp only [Act.put]
          refine wpAnyH_done (by kernel_rfl) ?_ _
          go_wp2
          go_meet
          case rel => exact ⟨w1.heap.size, q1, r1, q2, r2, rfl, ⟨⟨hcell 0 _ rfl, hcell 1 _ rfl, hcell 2 _ rfl, hcell 3 _ rfl, hcell 4 _ rfl, hcell 5 _ rfl, hcell 6 _ rfl⟩, hcell 7 _ rfl, hcell 8 _ rfl⟩, GA.out _ hoff, GB.out _ hoff, yf.out⟩
      · go_simp
        have ya : Hid (Below v2.heap.size v2 (v2.drew.alloc (.cells #[.int .i64 0, .int .i64 0, .int .i64 0, .int .i64 0, .int .i64 0, .int .i64 0, .int .i64 0, .slice none 0 0, .slice none 0 0] 38))) := below_then D0.out (box_below _ _)
        have HP : Hid (v2.heap.size ≤ v2.drew.heap.size) := D0.out.size
        have Z : Hid ((v2.drew.alloc (.cells #[.int .i64 0, .int .i64 0, .int .i64 0, .int .i64 0, .int .i64 0, .int .i64 0, .int .i64 0, .slice none 0 0, .slice none 0 0] 38)).rowIs (v2.drew.heap.size) 38 9 z9) := z9_alloc v2.drew
        refine hK.out _ _ (KS.out _ ya.out) (fun hHeld => ?_)
        clear hK K
        try simp only [Act.put, List.setIfInBounds_toArray, List.set_cons_zero, List.set_cons_succ]
        refine wpAnyH_ready (rs := [2]) (by kernel_rfl) (by simp) ?_
        refine AllReadyH.cons rfl (fun K hK => ?_) (AllReadyH.nil)
        go_simp
        refine (head_any _ _ _ _ _ _ _ _).mono ?_
        rintro e w1 ⟨rfl, hb⟩
        have y1 : Hid (Below v2.heap.size v2 w1) := below_then ya.out hb
        have Z : Hid (w1.rowIs (v2.drew.heap.size) 38 9 z9) := row_keep Z.out hb
        clear hb
        refine hK.out _ _ (KS.out _ y1.out) (fun hHeld => ?_)
        clear hK K
        try simp only [Act.put, List.setIfInBounds_toArray, List.set_cons_zero, List.set_cons_succ]
        refine wpAnyH_ready (rs := [5]) (by kernel_rfl) (by simp) ?_
        refine AllReadyH.cons rfl (fun K hK => ?_) (AllReadyH.nil)
        go_simp
        refine (groups_off a07 _ (v2.drew.heap.size) ks v2 _ A2.out.1 y1.out HP.out Z.out.lt LK.out).mono ?_
        rintro e w2 ⟨q1, r1, rfl, hg, hb⟩
        have y2 : Hid (Below v2.heap.size v2 w2) := below_then y1.out hb
        have Z : Hid (w2.rowIs (v2.drew.heap.size) 38 9 z9) := row_keep Z.out hb
        have GA : Hid (∀ F : World, (∀ g, ¬ g = v2.drew.heap.size → F.heap[g]? = w2.heap[g]?) → Gps F q1 ks) := hg
        clear hb hg
        refine hK.out _ _ (KS.out _ y2.out) (fun hHeld => ?_)
        clear hK K
        try simp only [Act.put, List.setIfInBounds_toArray, List.set_cons_zero, List.set_cons_succ]
        refine wpAnyH_ready (rs := [8]) (by kernel_rfl) (by simp) ?_
        refine AllReadyH.cons rfl (fun K hK => ?_) (AllReadyH.nil)
        go_simp
        refine (groups_off a08 _ (v2.drew.heap.size) vs v2 _ A2.out.2 y2.out HP.out Z.out.lt LV.out).mono ?_
        rintro e w3 ⟨q2, r2, rfl, hg, hb⟩
        have y3 : Hid (Below v2.heap.size v2 w3) := below_then y2.out hb
        have Z : Hid (w3.rowIs (v2.drew.heap.size) 38 9 z9) := row_keep Z.out hb
        have GA : Hid (∀ F : World, (∀ g, ¬ g = v2.drew.heap.size → F.heap[g]? = w3.heap[g]?) → Gps F q1 ks) := fun F hF => gps_hop GA.out hb hF
        have GB : Hid (∀ F : World, (∀ g, ¬ g = v2.drew.heap.size → F.heap[g]? = w3.heap[g]?) → Gps F q2 vs) := hg
        clear hb hg
        refine hK.out _ _ (KS.out _ y3.out) (fun hHeld => ?_)
        clear hK K
        try simp only [Act.put, List.setIfInBounds_toArray, List.set_cons_zero, List.set_cons_succ]
        refine take_yes 9 32 (v := ?_) rfl rfl (by kernel_rfl) (by kernel_rfl) (by kernel_rfl) (fun _ _ _ h => h) hHeld (by rfl) (fun w hSw => ?_) ?_
        rotate_left
        · (try dsimp only at hSw); go_simp; try rfl
        try simp only [Act.put, List.setIfInBounds_toArray, List.set_cons_zero, List.set_cons_succ]
        refine wpAnyH_ready (rs := [11]) (by kernel_rfl) (by simp) ?_
        refine AllReadyH.cons rfl (fun K hK => ?_) AllReadyH.nil
        refine wp_if_wanted rfl ?_
        refine wp_store_box _ _ _ rfl (v2.drew.heap.size) #[.int .i64 b00, .int .i64 b01, .int .i64 b02, .int .i64 b03, .int .i64 b04, .int .i64 b05, .int .i64 b06, .slice q1 ks.length r1, .slice q2 vs.length r2] rfl rfl 38 9 z9 Z.out (by kernel_rfl) rfl (by simp [Value.oneCell']) (fun wf hoff hcell hbel => ?_)
        have yf : Hid (Below v2.heap.size v2 wf) := hbel _ _ y3.out HP.out
        refine hK.out _ _ (KS.out _ yf.out) (fun hHeld => ?_)
        clear hK K
        try simp only [Act.put]
        refine wpAnyH_done (by kernel_rfl) ?_ _
        go_wp2
        go_meet
        case rel => exact ⟨v2.drew.heap.size, q1, r1, q2, r2, rfl, ⟨⟨hcell 0 _ rfl, hcell 1 _ rfl, hcell 2 _ rfl, hcell 3 _ rfl, hcell 4 _ rfl, hcell 5 _ rfl, hcell 6 _ rfl⟩, hcell 7 _ rfl, hcell 8 _ rfl⟩, GA.out _ hoff, GB.out _ hoff, yf.out⟩
    case rest =>
      obtain ⟨G, q1, r1, q2, r2, rfl, hn, h1, h2, hb⟩ := hcut
      have YC : Hid (Below u0.heap.size u0 wc) := below_then B2.out hb
      have YV : Hid (Below v2.heap.size v2 wc) := hb
      have NG : Hid (∀ v, Below wc.heap.size wc v → NmAt v G b00 b01 b02 b03 b04 b05 b06 (.slice q1 ks.length r1) (.slice q2 vs.length r2)) := fun v hb => ⟨hn.1.keep hb, by rw [hb.cell (p := ⟨G, 7, none⟩) (World.block_lt_of_cell? wc _ hn.2.1)]; exact hn.2.1, by rw [hb.cell (p := ⟨G, 8, none⟩) (World.block_lt_of_cell? wc _ hn.2.2)]; exact hn.2.2⟩
      have GQ : Hid (Gps wc q1 ks ∧ Gps wc q2 vs) := ⟨h1, h2⟩
      have KT : Hid (∀ w', Below wc.heap.size wc w' → ((w'.cell? ⟨w.heap.size, 0, none⟩ = some (.int .i64 b00) ∧ w'.cell? ⟨w.heap.size, 1, none⟩ = some (.int .i64 b01) ∧ w'.cell? ⟨w.heap.size, 2, none⟩ = some (.int .i64 b02) ∧ w'.cell? ⟨w.heap.size, 3, none⟩ = some (.int .i64 b03) ∧ w'.cell? ⟨w.heap.size, 4, none⟩ = some (.int .i64 b04) ∧ w'.cell? ⟨w.heap.size, 5, none⟩ = some (.int .i64 b05) ∧ w'.cell? ⟨w.heap.size, 6, none⟩ = some (.int .i64 b06) ∧ w'.cell? ⟨w.heap.size, 7, none⟩ = some (.slice a07 ks.length cap07) ∧ w'.cell? ⟨w.heap.size, 8, none⟩ = some (.slice a08 vs.length cap08)) ∧ (w'.cell? ⟨G, 0, none⟩ = some (.int .i64 b00) ∧ w'.cell? ⟨G, 1, none⟩ = some (.int .i64 b01) ∧ w'.cell? ⟨G, 2, none⟩ = some (.int .i64 b02) ∧ w'.cell? ⟨G, 3, none⟩ = some (.int .i64 b03) ∧ w'.cell? ⟨G, 4, none⟩ = some (.int .i64 b04) ∧ w'.cell? ⟨G, 5, none⟩ = some (.int .i64 b05) ∧ w'.cell? ⟨G, 6, none⟩ = some (.int .i64 b06) ∧ w'.cell? ⟨G, 7, none⟩ = some (.slice q1 ks.length r1) ∧ w'.cell? ⟨G, 8, none⟩ = some (.slice q2 vs.length r2))) ∧ Hid (Below wc.heap.size wc w')) := fun w' hb => by
        obtain ⟨⟨c0, c1, c2, c3, c4, c5, c6⟩, c7, c8⟩ := NM.out w' (below_then YC.out hb)
        obtain ⟨⟨p0, p1, p2, p3, p4, p5, p6⟩, p7, p8⟩ := NG.out w' hb
        exact ⟨⟨⟨c0, c1, c2, c3, c4, c5, c6, c7, c8⟩, ⟨p0, p1, p2, p3, p4, p5, p6, p7, p8⟩⟩, hb⟩
      have D3 : Hid (Below wc.heap.size wc wc.drew) := (Below.refl wc.heap.size wc).drew
      clear hn h1 h2 hb KS D0 A2
      go_wp2_with fail
      go_region_held3 (fun w' => ((w'.cell? ⟨w.heap.size, 0, none⟩ = some (.int .i64 b00) ∧ w'.cell? ⟨w.heap.size, 1, none⟩ = some (.int .i64 b01) ∧ w'.cell? ⟨w.heap.size, 2, none⟩ = some (.int .i64 b02) ∧ w'.cell? ⟨w.heap.size, 3, none⟩ = some (.int .i64 b03) ∧ w'.cell? ⟨w.heap.size, 4, none⟩ = some (.int .i64 b04) ∧ w'.cell? ⟨w.heap.size, 5, none⟩ = some (.int .i64 b05) ∧ w'.cell? ⟨w.heap.size, 6, none⟩ = some (.int .i64 b06) ∧ w'.cell? ⟨w.heap.size, 7, none⟩ = some (.slice a07 ks.length cap07) ∧ w'.cell? ⟨w.heap.size, 8, none⟩ = some (.slice a08 vs.length cap08)) ∧ (w'.cell? ⟨G, 0, none⟩ = some (.int .i64 b00) ∧ w'.cell? ⟨G, 1, none⟩ = some (.int .i64 b01) ∧ w'.cell? ⟨G, 2, none⟩ = some (.int .i64 b02) ∧ w'.cell? ⟨G, 3, none⟩ = some (.int .i64 b03) ∧ w'.cell? ⟨G, 4, none⟩ = some (.int .i64 b04) ∧ w'.cell? ⟨G, 5, none⟩ = some (.int .i64 b05) ∧ w'.cell? ⟨G, 6, none⟩ = some (.int .i64 b06) ∧ w'.cell? ⟨G, 7, none⟩ = some (.slice q1 ks.length r1) ∧ w'.cell? ⟨G, 8, none⟩ = some (.slice q2 vs.length r2))) ∧ Hid (Below wc.heap.size wc w'))
        (first
          | exact KT.out _ D3.out
          | exact KT.out _ z2.out
          | exact KT.out _ z1.out
          | assumption)
        (first
          | (go_at_call 11; refine (rightP_any _ _ _ _ _ _ _ q EQ.out _).mono ?_; rintro e w4 ⟨rfl, hb⟩; have z1 : Hid (Below wc.heap.size wc w4) := below_then D3.out hb; clear hb)
          | (go_at_call 12; refine (refRightH_any _ _ _ _ _ _ _ q EQ.out _).mono ?_; rintro e w5 ⟨rfl, hb⟩; have z2 : Hid (Below wc.heap.size wc w5) := below_then z1.out hb; clear hb))
      obtain ⟨⟨x0, x1, x2, x3, x4, x5, x6⟩, x7, x8⟩ := NG.out w5 z2.out
      go_wp2_with fail
      refine (refNewP_any _ _ _ _ _ _ _ q1 q2 _ _ ks vs e _ (GQ.out.1.keep z2.out) (GQ.out.2.keep z2.out) LK.out LV.out IK.out IV.out EE.out).mono ?_
      rintro r w6 ⟨rfl, hb⟩
      have Y6 : Hid (Below wc.heap.size wc w6) := below_then z2.out hb
      clear hb z1 z2
      clear x0 x1 x2 x3 x4 x5 x6 x7 x8
      go_wp2_with (go_at_call 7; refine (pgAwake_any _).mono ?_; rintro r va ⟨rfl, hb⟩; have BA : Hid (Below w.heap.size w va) := below_then (below_then U0.out (below_then YC.out Y6.out)) hb; clear hb)
      go_ret
      exact ⟨rfl, BA.out⟩

set_option maxRecDepth 100000 in
set_option maxHeartbeats 3200000 in
theorem lifted (os : Os) (started : os.Started) (H : Type) (enc : TypeId × Value → H) :
    ReturnsInHanded {} Tryz.checked os 3 .any (Rows.pageNewSpec.pre6 enc Tryz.prog Tryz.f3 Rows.pageNewRow.domain false) (Rows.pageNewSpec.post enc Tryz.prog Tryz.f3 false true false false) := by
  refine returnsInHanded_of_change (C := Tryz.checked) own started (by kernel_rfl) Tryz.func3
    (ChangeSpec.witness6 (enc := enc) (C := Tryz.checked) false ⟨#[], #[.agg #[.int .i64 0, .int .i64 0, .int .i64 0, .int .i64 0, .int .i64 0, .int .i64 0, .int .i64 0, .slice none 0 0, .slice none 0 0]], []⟩ 8 (by kernel_rfl) (by kernel_rfl) (by kernel_rfl) (by kernel_rfl)) ?_
  intro W base args ds gs before hval0 hW hcnd _
  have hval : ∀ (j : Nat) t v, Tryz.f3.params[j]? = some t → args[j]? = some v → Value.okWide Tryz.prog W .any base t v := hval0
  have hW' := hW
  obtain ⟨p, q, hA0, hV, rfl, hfz, hnd⟩ := hW
  have hA : DataW.TrodAll enc Tryz.prog W 0 (fun _ => true) true Tryz.f3.params.toList args.toList ds p := hA0
  rw [Tryz.params3] at hA hval
  obtain ⟨v0, vs0, d0, ds0, p0, q0, hargs, rfl, rfl, h0, r0⟩ := trodAll_cons hA
  obtain ⟨rfl, rfl, rfl⟩ := trodAll_nil r0
  obtain rfl : args = #[v0] := by cases args; simp_all
  obtain ⟨rfl, rfl⟩ := trodVars_none hV
  obtain ⟨cs0, rfl, hsz0⟩ := okWide_struct Tryz.underlying26 (hval 0 26 v0 rfl rfl)
  have k0 := h0
  have lt0 : ∀ x ∈ p0, x.block < W.heap.size := by obtain ⟨m, hm⟩ := k0; exact DataW.trod_lt m _ _ _ hm
  rw [show Tryz.prog.cellsOf 26 = 9 by kernel_rfl] at hsz0
  obtain ⟨c00, c01, c02, c03, c04, c05, c06, c07, c08, rfl⟩ := cells9 hsz0
  obtain ⟨fuel0, hf0⟩ := h0
  have hg0 : DataW.trod enc Tryz.prog W 0 (fun _ => true) true fuel0 26 [c00, c01, c02, c03, c04, c05, c06, c07, c08] = some _ := hf0
  obtain ⟨n0f, hn0f⟩ := open_wide Tryz.underlying26 hg0
  obtain ⟨y0f0, hhy0f0⟩ := hn0f 0 _ rfl
  have hy0f0 : DataW.trod enc Tryz.prog W 0 (fun _ => true) true n0f 23 [c00, c01, c02, c03, c04, c05, c06] = some y0f0 := by
    have e : Tryz.prog.cellsOf 23 = 7 := by kernel_rfl
    have h : DataW.trod enc Tryz.prog W 0 (fun _ => true) true n0f 23 ((([c00, c01, c02, c03, c04, c05, c06, c07, c08] : List Value).drop 0).take (Tryz.prog.cellsOf 23)) = some y0f0 := hhy0f0
    rw [e] at h
    exact h
  obtain ⟨n0f0x, hn0f0x⟩ := open_wide Tryz.underlying23 hy0f0
  obtain ⟨y0f0x0, hhy0f0x0⟩ := hn0f0x 0 _ rfl
  have hy0f0x0 : DataW.trod enc Tryz.prog W 0 (fun _ => true) true n0f0x 3 [c00] = some y0f0x0 := by
    have e : Tryz.prog.cellsOf 3 = 1 := by kernel_rfl
    have h : DataW.trod enc Tryz.prog W 0 (fun _ => true) true n0f0x 3 ((([c00, c01, c02, c03, c04, c05, c06] : List Value).drop 0).take (Tryz.prog.cellsOf 3)) = some y0f0x0 := hhy0f0x0
    rw [e] at h
    exact h
  obtain ⟨y0f0x1, hhy0f0x1⟩ := hn0f0x 1 _ rfl
  have hy0f0x1 : DataW.trod enc Tryz.prog W 0 (fun _ => true) true n0f0x 3 [c01] = some y0f0x1 := by
    have e : Tryz.prog.cellsOf 3 = 1 := by kernel_rfl
    have h : DataW.trod enc Tryz.prog W 0 (fun _ => true) true n0f0x 3 ((([c00, c01, c02, c03, c04, c05, c06] : List Value).drop 1).take (Tryz.prog.cellsOf 3)) = some y0f0x1 := hhy0f0x1
    rw [e] at h
    exact h
  obtain ⟨y0f0x2, hhy0f0x2⟩ := hn0f0x 2 _ rfl
  have hy0f0x2 : DataW.trod enc Tryz.prog W 0 (fun _ => true) true n0f0x 3 [c02] = some y0f0x2 := by
    have e : Tryz.prog.cellsOf 3 = 1 := by kernel_rfl
    have h : DataW.trod enc Tryz.prog W 0 (fun _ => true) true n0f0x 3 ((([c00, c01, c02, c03, c04, c05, c06] : List Value).drop 2).take (Tryz.prog.cellsOf 3)) = some y0f0x2 := hhy0f0x2
    rw [e] at h
    exact h
  obtain ⟨y0f0x3, hhy0f0x3⟩ := hn0f0x 3 _ rfl
  have hy0f0x3 : DataW.trod enc Tryz.prog W 0 (fun _ => true) true n0f0x 3 [c03] = some y0f0x3 := by
    have e : Tryz.prog.cellsOf 3 = 1 := by kernel_rfl
    have h : DataW.trod enc Tryz.prog W 0 (fun _ => true) true n0f0x 3 ((([c00, c01, c02, c03, c04, c05, c06] : List Value).drop 3).take (Tryz.prog.cellsOf 3)) = some y0f0x3 := hhy0f0x3
    rw [e] at h
    exact h
  obtain ⟨y0f0x4, hhy0f0x4⟩ := hn0f0x 4 _ rfl
  have hy0f0x4 : DataW.trod enc Tryz.prog W 0 (fun _ => true) true n0f0x 3 [c04] = some y0f0x4 := by
    have e : Tryz.prog.cellsOf 3 = 1 := by kernel_rfl
    have h : DataW.trod enc Tryz.prog W 0 (fun _ => true) true n0f0x 3 ((([c00, c01, c02, c03, c04, c05, c06] : List Value).drop 4).take (Tryz.prog.cellsOf 3)) = some y0f0x4 := hhy0f0x4
    rw [e] at h
    exact h
  obtain ⟨y0f0x5, hhy0f0x5⟩ := hn0f0x 5 _ rfl
  have hy0f0x5 : DataW.trod enc Tryz.prog W 0 (fun _ => true) true n0f0x 3 [c05] = some y0f0x5 := by
    have e : Tryz.prog.cellsOf 3 = 1 := by kernel_rfl
    have h : DataW.trod enc Tryz.prog W 0 (fun _ => true) true n0f0x 3 ((([c00, c01, c02, c03, c04, c05, c06] : List Value).drop 5).take (Tryz.prog.cellsOf 3)) = some y0f0x5 := hhy0f0x5
    rw [e] at h
    exact h
  obtain ⟨y0f0x6, hhy0f0x6⟩ := hn0f0x 6 _ rfl
  have hy0f0x6 : DataW.trod enc Tryz.prog W 0 (fun _ => true) true n0f0x 3 [c06] = some y0f0x6 := by
    have e : Tryz.prog.cellsOf 3 = 1 := by kernel_rfl
    have h : DataW.trod enc Tryz.prog W 0 (fun _ => true) true n0f0x 3 ((([c00, c01, c02, c03, c04, c05, c06] : List Value).drop 6).take (Tryz.prog.cellsOf 3)) = some y0f0x6 := hhy0f0x6
    rw [e] at h
    exact h
  obtain ⟨y0f1, hhy0f1⟩ := hn0f 1 _ rfl
  have hy0f1 : DataW.trod enc Tryz.prog W 0 (fun _ => true) true n0f 24 [c07] = some y0f1 := by
    have e : Tryz.prog.cellsOf 24 = 1 := by kernel_rfl
    have h : DataW.trod enc Tryz.prog W 0 (fun _ => true) true n0f 24 ((([c00, c01, c02, c03, c04, c05, c06, c07, c08] : List Value).drop 7).take (Tryz.prog.cellsOf 24)) = some y0f1 := hhy0f1
    rw [e] at h
    exact h
  obtain ⟨y0f2, hhy0f2⟩ := hn0f 2 _ rfl
  have hy0f2 : DataW.trod enc Tryz.prog W 0 (fun _ => true) true n0f 24 [c08] = some y0f2 := by
    have e : Tryz.prog.cellsOf 24 = 1 := by kernel_rfl
    have h : DataW.trod enc Tryz.prog W 0 (fun _ => true) true n0f 24 ((([c00, c01, c02, c03, c04, c05, c06, c07, c08] : List Value).drop 8).take (Tryz.prog.cellsOf 24)) = some y0f2 := hhy0f2
    rw [e] at h
    exact h
  obtain ⟨b00, e00, _, w00⟩ := DataW.trod_int Tryz.underlying3 hy0f0x0
  simp only [List.cons.injEq, and_true] at e00
  subst e00
  obtain ⟨b01, e01, _, w01⟩ := DataW.trod_int Tryz.underlying3 hy0f0x1
  simp only [List.cons.injEq, and_true] at e01
  subst e01
  obtain ⟨b02, e02, _, w02⟩ := DataW.trod_int Tryz.underlying3 hy0f0x2
  simp only [List.cons.injEq, and_true] at e02
  subst e02
  obtain ⟨b03, e03, _, w03⟩ := DataW.trod_int Tryz.underlying3 hy0f0x3
  simp only [List.cons.injEq, and_true] at e03
  subst e03
  obtain ⟨b04, e04, _, w04⟩ := DataW.trod_int Tryz.underlying3 hy0f0x4
  simp only [List.cons.injEq, and_true] at e04
  subst e04
  obtain ⟨b05, e05, _, w05⟩ := DataW.trod_int Tryz.underlying3 hy0f0x5
  simp only [List.cons.injEq, and_true] at e05
  subst e05
  obtain ⟨b06, e06, _, w06⟩ := DataW.trod_int Tryz.underlying3 hy0f0x6
  simp only [List.cons.injEq, and_true] at e06
  subst e06
  obtain ⟨a07, len07, cap07, e07, w07⟩ := open_groups Tryz.underlying24 (by kernel_rfl) Tryz.underlying61 (by kernel_rfl) Tryz.underlying21 Tryz.underlying58 Tryz.underlying59 Tryz.underlying3 (by kernel_rfl) hy0f1
  subst e07
  obtain ⟨a08, len08, cap08, e08, w08⟩ := open_groups Tryz.underlying24 (by kernel_rfl) Tryz.underlying61 (by kernel_rfl) Tryz.underlying21 Tryz.underlying58 Tryz.underlying59 Tryz.underlying3 (by kernel_rfl) hy0f2
  subst e08
  clear hA0 hval0
  refine (walk b00 b01 b02 b03 b04 b05 b06 a07 len07 cap07 a08 len08 cap08 W w00 w01 w02 w03 w04 w05 w06 w07 w08).mono fun e W' ⟨he, bel⟩ => ?_
  subst he
  exact ⟨_, rfl, _, _, _, [], _, [], hW', trodAll_mk1 (shut_bool Tryz.underlying4 _), (trodAll_cons_mk (Below.trod laidOut (by kernel_rfl) (of_decide_eq_true (by kernel_rfl)) k0 bel lt0) trodAll_mk0), rfl, bel.frame _, fun h => by cases h⟩

theorem over : Rows.pageNewRow.holds Tryz.pinned (OpenSpec.ofChange Rows.pageNewSpec) :=
  OpenClaim.holds_of_wide 3 Tryz.f3 rfl rfl rfl rfl rfl rfl rfl ⟨rfl, rfl, rfl, rfl, rfl⟩ rfl rfl rfl rfl rfl (by kernel_rfl) Tryz.func3 (by kernel_rfl)
    (of_decide_eq_true (by kernel_rfl)) (by unfold Func.isWrapper; first | (rw [if_pos (by decide +kernel)]; kernel_rfl) | (rw [if_neg (by decide +kernel)]; exact ⟨rfl, rfl⟩))
    (fun os started H enc _ => lifted os started H enc)

theorem proved : Rows.PageNewSaid := over
end Go.Proofs.YtimkfkolkplpdaaGreat.pageNew

namespace Go.Proofs.YtimkfkolkplpdaaGreat
theorem pageNew_holds : Rows.PageNewSaid := pageNew.proved
#print axioms pageNew_holds
end Go.Proofs.YtimkfkolkplpdaaGreat
