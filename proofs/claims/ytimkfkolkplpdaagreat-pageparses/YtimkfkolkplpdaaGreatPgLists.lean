/- Contracts of the law's own helpers of layer 8 and of the document's answers: lists of groups made and held against one another. -/
import Derived.Test.YtimkfkolkplpdaaGreatPgRefs
namespace Go.Proofs.YtimkfkolkplpdaaGreat
set_option linter.unusedVariables false
open Go.RowKit
attribute [local go_sem ↓] Go.wp_at_zero Go.wp_at_succ

theorem Gps.choose {w : World} {a : Option Addr} {l : List (Int × Int × List Int)} (h : Gps w a l) : ∃ (A : Nat → Option Addr) (C : Nat → Nat), ∀ i, i < l.length → ∃ b o, a = some ⟨b, o, none⟩ ∧ GpAt w b o i (Pg.nth l i) (A i) (C i) := by
  obtain ⟨F, hF⟩ := Go.Deep.choose_lt (α := Option Addr × Nat) (n := l.length) (p := fun i q => ∃ b o, a = some ⟨b, o, none⟩ ∧ GpAt w b o i (Pg.nth l i) q.1 q.2) (fun i hi => by
    obtain ⟨b, o, a', c', e, h'⟩ := h i hi
    exact ⟨(a', c'), b, o, e, h'⟩)
  exact ⟨fun i => (F i).1, fun i => (F i).2, hF⟩
theorem Tryz.infoRG : (Tryz.prog.info? 72).map (fun i => (i.zero, i.size, i.bytes)) = some (some (.agg #[.int .i32 0, .int .u32 0, .slice none 0 0]), 3, 32) := by kernel_rfl

set_option maxRecDepth 100000 in
set_option maxHeartbeats 1600000 in
theorem groups_any (a : Option Addr) (c : Nat) (l : List (Int × Int × List Int)) (w : World) (ha : Gps w a l) (hl : l.length ≤ 10000) :
    Calls Tryz.prog 10 #[.slice a l.length c] w fun e w' => ∃ a' c', e = .returned (.slice a' l.length c') ∧ Gps w' a' l ∧ Below w.heap.size w w' := by
  obtain ⟨i0, hi0, hi1, hi2, hi3⟩ := info_parts Tryz.infoRG
  obtain ⟨A, C, hAC⟩ := ha.choose
  have HA : Hid (∀ i, i < l.length → ∃ b o, a = some ⟨b, o, none⟩ ∧ GpAt w b o i (Pg.nth l i) (A i) (C i)) := hAC
  clear ha hAC
  go_enter Tryz.func10, Tryz.ntmps10
  go_wp2
  go_loopw [3, 8] (fun v i wr => ∃ k : Nat, k ≤ l.length ∧ i = .int .i64 k ∧ wr.ownsRow w.heap.size 72 3 v k (gflat l A C k) ∧ Below w.heap.size w wr) (fun _ i _ => l.length - (intOf i).toNat)
  case atStart => exact ⟨0, Nat.zero_le _, rfl, World.ownsRow_nil _ _ _ _, Below.refl _ _⟩
  case round =>
    obtain ⟨k, hk, rfl, hown, hbel⟩ := hrel
    have HO : Hid (wr.ownsRow w.heap.size 72 3 u3 k (gflat l A C k)) := hown
    have HB : Hid (Below w.heap.size w wr) := hbel
    have hsz := hbel.size
    clear hown hbel
    by_cases hlt : k < l.length
    · obtain ⟨b, o, rfl, hg⟩ := HA.out k hlt
      obtain ⟨d0, d1, d2, d3⟩ := hg.keep HB.out
      have hbl := hg.lt
      have hbl2 : b < wr.heap.size := by omega
      clear hg d3
      go_wp2_with (at_builtin; refine wpList_append_lies _ rfl _ _ _ rfl w.heap.size 72 i0 _ 3 32 Tryz.underlying35 hi0 hi1 hi2 hi3 rfl (by omega) _ k _ (by rfl) ((HO.out.alloc _).alloc _) ⟨wr.heap.size + 1, 0, none⟩ 1 1 [.int .i32 (Pg.gz (Pg.nth l k)), .int .u32 (Pg.gs (Pg.nth l k)), .slice (A k) (Pg.gc (Pg.nth l k)).length (C k)] (by rfl) (by rfl) (World.news_of_block (cs := #[.int .i32 (Pg.gz (Pg.nth l k)), .int .u32 (Pg.gs (Pg.nth l k)), .slice (A k) (Pg.gc (Pg.nth l k)).length (C k)]) (t := 72) (fr := (0, 0)) (by first | exact heap_alloc_new _ _ | (have := heap_alloc_new (wr.alloc (.cells #[.int .i32 (Pg.gz (Pg.nth l k)), .int .u32 (Pg.gs (Pg.nth l k)), .slice (A k) (Pg.gc (Pg.nth l k)).length (C k)] 61)) (.cells #[.int .i32 (Pg.gz (Pg.nth l k)), .int .u32 (Pg.gs (Pg.nth l k)), .slice (A k) (Pg.gc (Pg.nth l k)).length (C k)] 72); simpa using this))) (by simp [Value.oneCell']) (by omega) (by unfold maxLen; omega) (by omega) (by simp; omega) (wr.heap.size + 1 + 1) (by simp) ?_; intro gg cap w1 hown1 hgrow hat hlt1; have B1 : Hid (Below w.heap.size w w1) := ((HB.out.alloc (by omega) _).alloc (by simp; omega) _).grown hgrow (by simp; omega) (fun j hj => (HO.out.lt j hj).1); have O1 : Hid (w1.ownsRow w.heap.size 72 3 (.slice (some ⟨gg, 0, none⟩) (k + 1) cap) (k + 1) (gflat l A C (k + 1))) := hown1; clear hown1 hgrow hat)
      go_roundw
      case rel => exact ⟨k + 1, by omega, by go_num, O1.out, B1.out⟩
      case measure => simp [intOf]; omega
    · have e : k = l.length := by omega
      subst e
      go_wp2
      go_ret
      obtain ⟨a', c', h1, h2⟩ := gps_of_own HO.out rfl (fun i hi => by
        obtain ⟨b, o, _, hg⟩ := HA.out i hi
        exact (hg.keep HB.out).2.2.2)
      subst h1
      exact ⟨a', c', rfl, h2, HB.out⟩
theorem Pg.eq_at {g h : Int × Int × List Int} : Gp.eqG (Pg.gz g) (Pg.gs g) (Pg.gc g) (Pg.gz h) (Pg.gs h) (Pg.gc h) = decide (g = h) := by
  unfold Gp.eqG
  rw [Bool.eq_iff_iff]
  simp only [decide_eq_true_eq]
  exact ⟨fun e => Pg.g_ext e.1 e.2.1 e.2.2, fun e => by rw [e]; exact ⟨rfl, rfl, rfl⟩⟩
/-- The three cells of a group, in every world that leaves what is old. -/
theorem GpAt.cells {w : World} {b o i : Nat} {g : Int × Int × List Int} {a : Option Addr} {c : Nat} (h : GpAt w b o i g a c) : w.cell? ⟨b, o + i * 3, none⟩ = some (.int .i32 (Pg.gz g)) ∧ w.cell? ⟨b, o + i * 3 + 1, none⟩ = some (.int .u32 (Pg.gs g)) ∧ w.cell? ⟨b, o + i * 3 + 2, none⟩ = some (.slice a (Pg.gc g).length c) := ⟨h.1, h.2.1, h.2.2.1⟩

set_option maxRecDepth 100000 in
set_option maxHeartbeats 1600000 in
theorem refSameP_any (a1 a2 : Option Addr) (c1 c2 : Nat) (l m : List (Int × Int × List Int)) (w : World) (ha : Gps w a1 l) (hb : Gps w a2 m) (hl : l.length ≤ 10000) (hi : InG l) (q : Bool) (hq : decide (l = m) = q) :
    Calls Tryz.prog 34 #[.slice a1 l.length c1, .slice a2 m.length c2] w fun e w' => e = .returned (.bool q) ∧ Below w.heap.size w w' := by
  have HA : Hid (Gps w a1 l) := ha
  have HB : Hid (Gps w a2 m) := hb
  have HI : Hid (InG l) := hi
  have HQ : Hid (decide (l = m) = q) := hq
  clear ha hb hq hi
  by_cases hn : l.length = m.length
  · have g : ((l.length : Int) != (m.length : Int)) = false := by rw [hn]; simp
    have HN : Hid (l.length = m.length) := hn
    have hn1 : l.length ≤ m.length := by omega
    have hn2 : m.length ≤ l.length := by omega
    clear hn
    go_enter Tryz.func34, Tryz.ntmps34
    go_wp2
    go_loopw [5] (fun i wr => ∃ k : Nat, k ≤ l.length ∧ i = .int .i64 k ∧ Below w.heap.size w wr ∧ ∀ j, j < k → Pg.nth l j = Pg.nth m j) (fun i _ => l.length - (intOf i).toNat)
    case atStart => exact ⟨0, Nat.zero_le _, rfl, Below.refl _ _, fun j hj => by omega⟩
    case round =>
      obtain ⟨k, hk, rfl, hbel, hall⟩ := hrel
      have HL : Hid (∀ j, j < k → Pg.nth l j = Pg.nth m j) := hall
      have HW : Hid (Below w.heap.size w wr) := hbel
      clear hall hbel
      by_cases hlt : k < l.length
      · obtain ⟨b1, o1, rfl, hg1⟩ := HA.out.get hlt
        obtain ⟨x1, y1, G1⟩ := hg1 k hlt
        obtain ⟨b2, o2, rfl, hg2⟩ := HB.out.get (show k < m.length by omega)
        obtain ⟨x2, y2, G2⟩ := hg2 k (by omega)
        have K1 : Hid (GpAt wr b1 o1 k (Pg.nth l k) x1 y1) := G1.keep HW.out
        have K2 : Hid (GpAt wr b2 o2 k (Pg.nth m k) x2 y2) := G2.keep HW.out
        have NL : Hid ((Pg.gc (Pg.nth l k)).length ≤ maxLen) := (HI.out k hlt).2.2.2.2
        obtain ⟨p, ep⟩ : ∃ p, decide (Pg.nth l k = Pg.nth m k) = p := ⟨_, rfl⟩
        have EP : Hid (Gp.eqG (Pg.gz (Pg.nth l k)) (Pg.gs (Pg.nth l k)) (Pg.gc (Pg.nth l k)) (Pg.gz (Pg.nth m k)) (Pg.gs (Pg.nth m k)) (Pg.gc (Pg.nth m k)) = p) := by show _ = _; rw [Pg.eq_at]; exact ep
        have E2 : Hid (decide (Pg.nth l k = Pg.nth m k) = p) := ep
        clear hg1 hg2 G1 G2 ep
        have e0 : (0 : Int) ≤ (k : Int) := by omega
        have e1 : (k : Int) < (l.length : Int) := by omega
        have e2 : (k : Int) < (m.length : Int) := by omega
        have KS : Hid (∀ w', Below wr.heap.size wr w' → (w'.cell? ⟨b1, o1 + k * 3, none⟩ = some (.int .i32 (Pg.gz (Pg.nth l k))) ∧ w'.cell? ⟨b1, o1 + k * 3 + 1, none⟩ = some (.int .u32 (Pg.gs (Pg.nth l k))) ∧ w'.cell? ⟨b1, o1 + k * 3 + 2, none⟩ = some (.slice x1 (Pg.gc (Pg.nth l k)).length y1)) ∧ (w'.cell? ⟨b2, o2 + k * 3, none⟩ = some (.int .i32 (Pg.gz (Pg.nth m k))) ∧ w'.cell? ⟨b2, o2 + k * 3 + 1, none⟩ = some (.int .u32 (Pg.gs (Pg.nth m k))) ∧ w'.cell? ⟨b2, o2 + k * 3 + 2, none⟩ = some (.slice x2 (Pg.gc (Pg.nth m k)).length y2)) ∧ Hid (Below wr.heap.size wr w')) :=
          fun w' hb => ⟨(K1.out.keep hb).cells, (K2.out.keep hb).cells, hb⟩
        cases p
        all_goals
          go_wp2_with fail
          go_region_held3 (fun w' => (w'.cell? ⟨b1, o1 + k * 3, none⟩ = some (.int .i32 (Pg.gz (Pg.nth l k))) ∧ w'.cell? ⟨b1, o1 + k * 3 + 1, none⟩ = some (.int .u32 (Pg.gs (Pg.nth l k))) ∧ w'.cell? ⟨b1, o1 + k * 3 + 2, none⟩ = some (.slice x1 (Pg.gc (Pg.nth l k)).length y1)) ∧ (w'.cell? ⟨b2, o2 + k * 3, none⟩ = some (.int .i32 (Pg.gz (Pg.nth m k))) ∧ w'.cell? ⟨b2, o2 + k * 3 + 1, none⟩ = some (.int .u32 (Pg.gs (Pg.nth m k))) ∧ w'.cell? ⟨b2, o2 + k * 3 + 2, none⟩ = some (.slice x2 (Pg.gc (Pg.nth m k)).length y2)) ∧ Hid (Below wr.heap.size wr w'))
            (first
              | exact KS.out _ ((Below.refl wr.heap.size wr).drew)
              | exact KS.out _ hbc.out
              | assumption)
            (first
              | (go_at_call 65; refine (refSameG_any _ _ _ _ _ _ _ _ (Pg.gc (Pg.nth l k)) (Pg.gc (Pg.nth m k)) _ (K1.out.2.2.2.keep ((Below.refl wr.heap.size wr).drew)) (K2.out.2.2.2.keep ((Below.refl wr.heap.size wr).drew)) NL.out _ EP.out).mono ?_; rintro e v1 ⟨rfl, hb⟩; have hbc : Hid (Below wr.heap.size wr v1) := ((Below.refl wr.heap.size wr).drew).trans hb; clear hb))
          go_wp2
        · go_ret
          refine ⟨ret_bool ?_, below_then HW.out hbc.out⟩
          rw [← HQ.out]
          have hne : ¬ Pg.nth l k = Pg.nth m k := of_decide_eq_false E2.out
          exact (decide_eq_false (fun e => hne (by rw [e]))).symm
        · go_roundw
          case rel =>
            refine ⟨k + 1, by omega, by go_num, below_then HW.out hbc.out, fun j hj => ?_⟩
            by_cases e : j = k
            · subst e; exact of_decide_eq_true E2.out
            · exact HL.out j (by omega)
          case measure => simp [intOf]; omega
      · go_wp2
        go_ret
        refine ⟨ret_bool ?_, HW.out⟩
        rw [← HQ.out]
        exact (decide_eq_true (Pg.ext_nth HN.out (fun i hi => HL.out i (by omega)))).symm
  · have g : ((l.length : Int) != (m.length : Int)) = true := by simp; omega
    have e : q = false := by rw [← HQ.out]; exact decide_eq_false (fun e => hn (by rw [e]))
    subst e
    clear hn
    go_enter Tryz.func34, Tryz.ntmps34
    go_wp2
    go_ret
    exact ⟨rfl, Below.refl _ _⟩
end Go.Proofs.YtimkfkolkplpdaaGreat
