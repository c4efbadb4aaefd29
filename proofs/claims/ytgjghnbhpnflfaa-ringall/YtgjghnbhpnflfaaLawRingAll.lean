/- All things of a ring are told as far as it is asked, whatever was done with it before. -/
import Derived.Test.YtgjghnbhpnflfaaRows
import Derived.Test.YtgjghnbhpnflfaaRnLaw
import Derived.WalkKit
import Derived.ProofKit
import Derived.OpenShut
import Derived.ShutString
import Derived.ChangeOld
import Derived.Below
namespace Go.Proofs.Ytgjghnbhpnflfaa.ringAll
open Go.ChangeShapes Go.WideShapes Go.ChangeAt Go.RowKit
set_option linter.unusedVariables false
open Go.Shelf
attribute [local go_sem] Oper.semAt_some

theorem own : ownKnob Try.prog.godebug = none := by kernel_rfl
theorem laidOut : laidOutB Try.prog = true := by kernel_rfl

/-- What the walk is told of a slice of integers that came in. -/
def IsRow (k : IntKind) (w : World) (a : Option Addr) (len cap : Nat) (zs : List Int) : Prop :=
  (a = none ∧ len = 0 ∧ cap = 0 ∧ zs = []) ∨
  ∃ x, a = some x ∧ len ≤ cap ∧ cap ≤ maxLen ∧ zs.length = cap ∧ (∀ i, i < zs.length → w.cell? (x.add i) = some (.int k (zs.getD i 0))) ∧ ∀ n ∈ zs, (Lit.int k n).wf = true

set_option maxRecDepth 100000 in
set_option maxHeartbeats 3200000 in
theorem walk (a0 : Int) (a1 : Option Addr) (len1 cap1 : Nat) (a2 : Int) (w : World) (w0 : (Lit.int .i64 a0).wf = true) (w1 : IsPairs w a1 len1 cap1) (w2 : (Lit.int .i64 a2).wf = true) :
    Calls Try.prog 5 #[.int .i64 a0, .slice a1 len1 cap1, .int .i64 a2] w fun e w' => e = .returned (.bool true) ∧ Below w.heap.size w w' := by
  -- depth
  -- semAt
  obtain ⟨K, N, HKc, _, ML⟩ := pairs_open w1
  have HC : Hid (Prs w a1 len1 K N) := HKc
  have hz0 := bounds_i64 w0
  have hz2 := bounds_i64 w2
  unfold maxLen at ML
  clear w0 w1 w2 HKc
  obtain ⟨q1, e1⟩ : ∃ q, decide ((60 : Int) < (len1 : Int)) = q := ⟨_, rfl⟩
  obtain ⟨q2, e2⟩ : ∃ q, decide (a0 < 0) = q := ⟨_, rfl⟩
  obtain ⟨q3, e3⟩ : ∃ q, decide (60 < a0) = q := ⟨_, rfl⟩
  obtain ⟨q4, e4⟩ : ∃ q, decide (a2 < 1) = q := ⟨_, rfl⟩
  by_cases hq : q1 = true ∨ q2 = true ∨ q3 = true ∨ q4 = true
  · have hf : q1 = true ∨ (q1 = false ∧ q2 = true) ∨ (q1 = false ∧ q2 = false ∧ q3 = true) ∨ (q1 = false ∧ q2 = false ∧ q3 = false ∧ q4 = true) := by
      cases q1 <;> cases q2 <;> cases q3 <;> cases q4 <;> simp_all
    clear hq hz0 hz2 ML HC
    rcases hf with rfl | ⟨rfl, rfl⟩ | ⟨rfl, rfl, rfl⟩ | ⟨rfl, rfl, rfl, rfl⟩
    all_goals
      refine (callsIn_wide (n := 6)).1 ?_
      refine callsIn_of_wp_marks Try.func5 rfl trivial ?_ rfl
      simp only [Try.ntmps5, List.size_toArray, List.length_cons, List.length_nil, Nat.reduceAdd, Nat.reduceSub, Array.replicate_succ, Array.replicate_zero, List.push_toArray, List.append_toArray, List.nil_append, List.cons_append]
      refine wpIn_wide.2 ?_
      go_wp2_with (go_at_call 7; refine (Rn.awake_any _).mono ?_; rintro e wa ⟨rfl, hba⟩; have c1 := (hba.cell (p := ⟨w.heap.size + 1, 0, none⟩) (by simp)).trans (Rn.box_snd w _ (.bool false) 4).cell; have f1 := (hba.frozen (p := ⟨w.heap.size + 1, 0, none⟩) (by simp)).trans (Rn.box_snd w _ (.bool false) 4).frozen)
      have hc5 := World.cell?_setCell_same' wa ⟨w.heap.size + 1, 0, none⟩ (.bool true) (by rw [c1]; rfl)
      exact ⟨.bool true, by simp [results, Try.f5, go_sem, hc5], rfl, ((Rn.two_boxes w _ _).trans (hba.mono (by simp; omega))).setCell (p := ⟨w.heap.size + 1, 0, none⟩) (Nat.le_succ _) _⟩
  have hall : q1 = false ∧ q2 = false ∧ q3 = false ∧ q4 = false := by
    cases q1 <;> cases q2 <;> cases q3 <;> cases q4 <;> simp_all
  obtain ⟨rfl, rfl, rfl, rfl⟩ := hall
  have j1 := of_decide_eq_false e1
  have j2 := of_decide_eq_false e2
  have j3 := of_decide_eq_false e3
  have j4 := of_decide_eq_false e4
  obtain ⟨n, rfl⟩ : ∃ n : Nat, a0 = n := ⟨a0.toNat, by omega⟩
  obtain ⟨st, rfl⟩ : ∃ n : Nat, a2 = n := ⟨a2.toNat, by omega⟩
  have hn : n ≤ 60 := by omega
  have hst : 1 ≤ st := by omega
  have hl60 : len1 ≤ 60 := by omega
  clear hq hz0 hz2 ML j1 j2 j3 j4
  refine (callsIn_wide (n := 6)).1 ?_
  refine callsIn_of_wp_marks Try.func5 rfl trivial ?_ rfl
  simp only [Try.ntmps5, List.size_toArray, List.length_cons, List.length_nil, Nat.reduceAdd, Nat.reduceSub, Array.replicate_succ, Array.replicate_zero, List.push_toArray, List.append_toArray, List.nil_append, List.cons_append]
  refine wpIn_wide.2 ?_
  go_wp2_with fail
  refine (Rn.new_ok n (by omega) _).mono ?_
  rintro e w1 ⟨g, q, rfl, hr, hg, hq, hb⟩
  obtain ⟨B, eB⟩ : ∃ B, ((w.alloc (.cells #[.int .i64 st] 3)).alloc (.cells #[.bool false] 4)).heap.size = B := ⟨_, rfl⟩
  have EB : Hid (B = w.heap.size + 2) := by show B = _; rw [← eB]; simp
  rw [eB] at hg hq hb
  have S1 : Hid (Rn.St B w1 g q n 0 [] none 0) := ⟨hr, Lst.nil _ _ _, Nat.zero_le _, Nat.zero_le _, fun _ => rfl, fun h => absurd h (Nat.lt_irrefl _), hg, hq, by have := hb.size; rw [eB] at this; exact this⟩
  have T1 : Hid (Boxed w1 w.heap.size 3 (.int .i64 st)) := (hb.block w.heap.size (by have := EB.out; omega)).trans ((Boxed.new w 3 (.int .i64 st)).alloc _)
  have V1 : Hid (Boxed w1 (w.heap.size + 1) 4 (.bool false)) := (hb.block (w.heap.size + 1) (by have := EB.out; omega)).trans (Rn.box_snd w _ (.bool false) 4)
  have B1 : Hid (Below w.heap.size w w1) := (Rn.two_boxes w _ _).trans (hb.mono (by have := EB.out; omega))
  have BS : Hid (B ≤ w1.heap.size) := by have := hb.size; rw [eB] at this; exact this
  clear hr hg hq hb eB e1 e2 e3 e4
  go_wp2
  obtain ⟨bl, ebl⟩ : ∃ b, w1.heap.size = b := ⟨_, rfl⟩
  have BL : Hid (w1.heap.size = bl) := ebl
  have bl0 : Hid (Boxed (w1.alloc (.cells #[.slice none 0 0] 28)) bl 28 (.slice none 0 0)) := by have := Boxed.new w1 28 (.slice none 0 0); rw [ebl] at this; exact this
  rw [ebl]
  have GB : Hid (B ≤ bl ∧ w.heap.size + 2 ≤ bl ∧ w.heap.size ≤ B) := by have := BS.out; have := BL.out; have := EB.out; show _ ∧ _ ∧ _; omega
  clear ebl
  go_loopw [7, 45] (fun r i wq => ∃ (c g q f k : Nat) (L : List Int) (a : Option Addr) (ca : Nat), c ≤ len1 ∧ i = .int .i64 c ∧ r = .pointer (some ⟨g, 0, none⟩) ∧ Hid (L.length = k) ∧ Hid (Rn.St B wq g q n f L a ca) ∧ Hid (Boxed wq bl 28 (.slice a k ca)) ∧ Hid (Boxed wq w.heap.size 3 (.int .i64 st)) ∧ Hid (Boxed wq (w.heap.size + 1) 4 (.bool false)) ∧ Hid (Below w.heap.size w wq)) (fun _ i _ => len1 - (intOf i).toNat)
  case atStart => exact ⟨0, g, q, 0, 0, [], none, 0, Nat.zero_le _, rfl, rfl, rfl, S1.out.keep (Rn.box_below _ _), bl0.out, T1.out.alloc _, V1.out.alloc _, B1.out.trans ((Rn.box_below _ _).mono B1.out.size)⟩
  case round =>
    clear S1 T1 V1 B1 bl0
    obtain ⟨c, g, q, f, k, L, a, ca, hc, rfl, rfl, HL, SR, BX, TX, VX, BR⟩ := hrel
    by_cases hlt : c < len1
    · obtain ⟨ob, oo, e, k0, k1⟩ := (HC.out.keep BR.out) c hlt
      subst e
      obtain ⟨x0, e0⟩ : ∃ x, K c = x := ⟨_, rfl⟩
      obtain ⟨x1, e1⟩ : ∃ x, N c = x := ⟨_, rfl⟩
      rw [e0] at k0
      rw [e1] at k1
      have bx := BX.out.cell
      have bxl : bl < wr.heap.size := BX.out.lt
      clear e0 e1
      go_wp2_with fail
      refine (Rn.step_any2 B g q n f k ca a x0 x1 L _ (SR.out.keep (Rn.box_below _ _)) HL.out).mono ?_
      rintro e w3 ⟨g3, q3, f3, c3, l3, a3, ca3, rfl, hl3, st3, hb3⟩
      have H3 : Hid (l3.length = c3) := hl3
      have S3 : Hid (Rn.St B w3 g3 q3 n f3 l3 a3 ca3) := st3
      have rr := SR.out.1.keep (Rn.box_below wr (.cells #[.int .i64 x0, .int .i64 x1] 30))
      have gb := GB.out
      have eb := EB.out
      have X3 : Hid (Boxed w3 bl 28 (.slice a k ca)) := hb3.box rr (BX.out.alloc _) (by decide) (by decide)
      have V3 : Hid (Boxed w3 (w.heap.size + 1) 4 (.bool false)) := hb3.box rr (VX.out.alloc _) (by decide) (by decide)
      have T3 : Hid (Boxed w3 w.heap.size 3 (.int .i64 st)) := (hb3.2 w.heap.size (TX.out.alloc _).lt (by have := SR.out.2.2.2.2.2.2.1; omega) (by have := SR.out.2.2.2.2.2.2.2.1; omega)).trans (TX.out.alloc _)
      have B3 : Hid (Below w.heap.size w w3) := (BR.out.trans ((Rn.box_below _ _).mono BR.out.size)).trans (hb3.below (by have := SR.out.2.2.2.2.2.2.1; omega) (by have := SR.out.2.2.2.2.2.2.2.1; omega) (by have := BR.out.size; simp; omega))
      have x3c := X3.out.cell
      have x3f := X3.out.frozen
      clear hl3 st3 hb3 k0 k1 rr gb eb bx
      go_wp2
      go_roundw
      case rel =>
        have gb := GB.out
        exact ⟨c + 1, g3, q3, f3, c3, l3, a3, ca3, by omega, by go_num, rfl, H3.out, S3.out.set X3.out (by decide) (by decide), X3.out.set _, Rn.boxed_set T3.out (by omega), Rn.boxed_set V3.out (by omega), B3.out.setCell (p := ⟨bl, 0, none⟩) (by show w.heap.size ≤ bl; omega) _⟩
      case measure => simp [intOf]; omega
    · have ec : c = len1 := by omega
      subst ec
      go_wp2_with (go_at_call 16; refine (Rn.all_any g _).mono ?_; rintro e w' ⟨rfl, hww⟩; cases hww.symm; clear hww)
      have rl := SR.out.1.lt
      have glt : g < wr.heap.size ∧ q < wr.heap.size := rl
      obtain ⟨bn, ebn⟩ : ∃ b, wr.heap.size = b := ⟨_, rfl⟩
      have gb := GB.out
      have bll : bl < bn := by have := BX.out.lt; omega
      have AB : Hid (0 < L.length → ∀ x, a = some x → x.block < bn) := fun hl x ex => by rw [← ebn]; exact Rn.lst_in SR.out.2.1 hl x ex
      have l60 : L.length ≤ 60 := by have := SR.out.1.nums.1; omega
      obtain ⟨W0, hW0⟩ : ∃ W0, (wr.alloc (.cells #[.int .i64 0] 3)).alloc (.cells #[.pointer (some ⟨g, 0, none⟩)] 24) = W0 := ⟨_, rfl⟩
      have hsz : W0.heap.size = bn + 2 := by rw [← hW0, ← ebn]; simp
      have hB0 : Below wr.heap.size wr W0 := by rw [← hW0]; exact Rn.two_boxes _ _ _
      have bN : Boxed W0 bn 3 (.int .i64 ((0 : Nat) : Int)) := by
        have := (Boxed.new wr 3 (.int .i64 ((0 : Nat) : Int))).alloc (.cells #[.pointer (some ⟨g, 0, none⟩)] 24)
        rw [ebn] at this
        rw [← hW0]
        exact this
      have bP : Boxed W0 (bn + 1) 24 (.pointer (some ⟨g, 0, none⟩)) := by
        have := Rn.box_snd wr (.cells #[.int .i64 0] 3) (.pointer (some ⟨g, 0, none⟩)) 24
        rw [ebn] at this
        rw [← hW0]
        exact this
      have bX : Boxed W0 bl 28 (.slice a k ca) := (hB0.block _ BX.out.lt).trans BX.out
      have bT : Boxed W0 w.heap.size 3 (.int .i64 st) := (hB0.block _ TX.out.lt).trans TX.out
      have bV : Boxed W0 (w.heap.size + 1) 4 (.bool false) := (hB0.block _ VX.out.lt).trans VX.out
      have lA : Lst .i64 W0 a L := SR.out.2.1.keep hB0
      have rW : Rn.RingAt W0 g q n f L := SR.out.1.keep hB0
      have bW : Below w.heap.size w W0 := below_then BR.out hB0
      rw [hW0, ebn]
      rw [ebn] at glt
      clear hW0 hB0 rl SR BX TX VX BR ebn HC
      refine (wpIn_wide (n := 6)).1 ?_
      refine' range_at (m := 6) (by omega) (gf := 22) (lb := #[.pointer (some ⟨bn + 1, 0, none⟩)]) rfl (enters_of Try.func22 (by kernel_rfl) rfl)
        (Rn.all_stops 5 (by omega) (bn + 1) g q n f L W0 (by omega) bP.cell rW) (fun h k => h.trans k) (Rn.kp_put (by omega) (by omega) (by omega)) (Below.refl _ _) (fun _ => rfl)
        (fun j W => j < st ∧ Boxed W bn 3 (.int .i64 j) ∧ Boxed W bl 28 (.slice a k ca) ∧ Boxed W w.heap.size 3 (.int .i64 st) ∧ Boxed W (w.heap.size + 1) 4 (.bool false) ∧ Boxed W (bn + 1) 24 (.pointer (some ⟨g, 0, none⟩)) ∧ Lst .i64 W a L ∧ Below w.heap.size w W)
        (fun c' j W => (c' = .exit 2 ∧ j = st) ∧ Boxed W bn 3 (.int .i64 st) ∧ Boxed W bl 28 (.slice a k ca) ∧ Boxed W w.heap.size 3 (.int .i64 st) ∧ Boxed W (w.heap.size + 1) 4 (.bool false) ∧ Boxed W (bn + 1) 24 (.pointer (some ⟨g, 0, none⟩)) ∧ Lst .i64 W a L ∧ Below w.heap.size w W)
        (OwnFrom.and (fun _ _ _ _ hs _ _ => hs) (OwnFrom.and (fun s A A' row hs hg hr => Rn.boxed_ownFrom (β := Unit) W0.heap.size bn 3 (.int .i64 s) () A A' row hs hg hr) (OwnFrom.and (Rn.boxed_ownFrom _ _ _ _) (OwnFrom.and (Rn.boxed_ownFrom _ _ _ _) (OwnFrom.and (Rn.boxed_ownFrom _ _ _ _) (OwnFrom.and (Rn.boxed_ownFrom _ _ _ _) (OwnFrom.and (Rn.lst_ownFrom _ _ _) (ownFrom_below (Nat.le_refl _) (by omega)))))))))
        (fun c' => OwnFrom.and (fun _ _ _ _ hs _ _ => hs) (OwnFrom.and (Rn.boxed_ownFrom _ _ _ _) (OwnFrom.and (Rn.boxed_ownFrom _ _ _ _) (OwnFrom.and (Rn.boxed_ownFrom _ _ _ _) (OwnFrom.and (Rn.boxed_ownFrom _ _ _ _) (OwnFrom.and (Rn.boxed_ownFrom _ _ _ _) (OwnFrom.and (Rn.lst_ownFrom _ _ _) (ownFrom_below (Nat.le_refl _) (by omega)))))))))
        ⟨hst, bN, bX, bT, bV, bP, lA, bW⟩ _ ?assign ?body ?done ?stop
      case assign =>
        intro lp j W K hK
        gi_wp2
        exact hK
      case body =>
        rintro lp j W hj ⟨hjs, hn, hx, ht, hv, hpp, hL, hB⟩
        have nc := hn.cell
        have nf := hn.frozen
        have xc := hx.cell
        have tc := ht.cell
        obtain ⟨ab, ao, ea, hget⟩ := hL.get hj
        have hcell := hget j hj
        have hab := AB.out (by omega) _ ea
        obtain ⟨x, ex⟩ : ∃ x, Ls.nth L j = x := ⟨_, rfl⟩
        rw [ex] at hcell
        have HLk := HL.out
        have d1 : decide ((k : Int) ≤ (j : Int)) = false := decide_eq_false (by omega)
        have hjk : j < k := by omega
        have hj60 : j ≤ 60 := by omega
        have hb' : ¬ bn = bl ∧ ¬ bl = bn ∧ ¬ w.heap.size = bn ∧ ¬ w.heap.size + 1 = bn := by omega
        have HB' : Hid (¬ bn = bl ∧ ¬ bl = bn ∧ ¬ w.heap.size = bn ∧ ¬ w.heap.size + 1 = bn) := hb'
        subst ea
        have EX : Hid (Ls.nth L j = x) := ex
        clear ex hget HLk hb'
        first | rw [EX.out] | skip
        have nxt : ∀ y : Value, Boxed (W.setCell ⟨bn, 0, none⟩ y) bn 3 y ∧ Boxed (W.setCell ⟨bn, 0, none⟩ y) bl 28 (.slice (some ⟨ab, ao, none⟩) k ca) ∧ Boxed (W.setCell ⟨bn, 0, none⟩ y) w.heap.size 3 (.int .i64 st) ∧ Boxed (W.setCell ⟨bn, 0, none⟩ y) (w.heap.size + 1) 4 (.bool false) ∧ Boxed (W.setCell ⟨bn, 0, none⟩ y) (bn + 1) 24 (.pointer (some ⟨g, 0, none⟩)) ∧ Lst .i64 (W.setCell ⟨bn, 0, none⟩ y) (some ⟨ab, ao, none⟩) L ∧ Below w.heap.size w (W.setCell ⟨bn, 0, none⟩ y) ∧ Rn.Kp (bn + 1) g q W (W.setCell ⟨bn, 0, none⟩ y) := fun y =>
          ⟨hn.set y, Rn.boxed_set hx HB'.out.2.1, Rn.boxed_set ht HB'.out.2.2.1, Rn.boxed_set hv HB'.out.2.2.2, Rn.boxed_set hpp (by omega), Rn.lst_set hL (fun _ x e => by cases e; show ¬ ab = bn; have h9 : ab < bn := hab; omega), hB.setCell (p := ⟨bn, 0, none⟩) (by show w.heap.size ≤ bn; omega) _, Below.heap_setCell _ _ _ _ (show bn + 1 ≠ bn by omega), Below.heap_setCell _ _ _ _ (show g ≠ bn by omega), Below.heap_setCell _ _ _ _ (show q ≠ bn by omega)⟩
        have NXT : Hid (∀ y : Value, Boxed (W.setCell ⟨bn, 0, none⟩ y) bn 3 y ∧ Boxed (W.setCell ⟨bn, 0, none⟩ y) bl 28 (.slice (some ⟨ab, ao, none⟩) k ca) ∧ Boxed (W.setCell ⟨bn, 0, none⟩ y) w.heap.size 3 (.int .i64 st) ∧ Boxed (W.setCell ⟨bn, 0, none⟩ y) (w.heap.size + 1) 4 (.bool false) ∧ Boxed (W.setCell ⟨bn, 0, none⟩ y) (bn + 1) 24 (.pointer (some ⟨g, 0, none⟩)) ∧ Lst .i64 (W.setCell ⟨bn, 0, none⟩ y) (some ⟨ab, ao, none⟩) L ∧ Below w.heap.size w (W.setCell ⟨bn, 0, none⟩ y) ∧ Rn.Kp (bn + 1) g q W (W.setCell ⟨bn, 0, none⟩ y)) := nxt
        clear nxt
        have wn : ¬ w.heap.size = bn := HB'.out.2.2.1
        by_cases e : j + 1 = st
        · have d2 : ((j : Int) + 1 == (st : Int)) = true := by simp; omega
          have EV : Hid ((j : Int) + 1 = (st : Int)) := by show (j : Int) + 1 = (st : Int); omega
          have E1 : Hid (j + 1 = st) := e
          clear e
          gi_wp2
          have nx := NXT.out (.int .i64 ((j : Int) + 1))
          refine ⟨(KeepsOthers.setCell _ _ _).from _, .inr ⟨.exit 2, .inr ⟨2, rfl, rfl⟩, ⟨rfl, E1.out⟩, ?_⟩⟩
          rw [EV.out] at nx ⊢
          exact ⟨nx.1, nx.2.1, nx.2.2.1, nx.2.2.2.1, nx.2.2.2.2.1, nx.2.2.2.2.2.1, nx.2.2.2.2.2.2.1⟩
        · have d2 : ((j : Int) + 1 == (st : Int)) = false := by simp; omega
          gi_wp2
          have nx := NXT.out (.int .i64 ((j : Int) + 1))
          exact ⟨(KeepsOthers.setCell _ _ _).from _, .inl ⟨rfl, nx.2.2.2.2.2.2.2, by omega, nx.1, nx.2.1, nx.2.2.1, nx.2.2.2.1, nx.2.2.2.2.1, nx.2.2.2.2.2.1, nx.2.2.2.2.2.2.1⟩⟩
      case done =>
        rintro D W hD ⟨hjs, hn, hx, ht, hv, hpp, hL, hB⟩ hK
        rw [HL.out] at hn hjs
        have nc := hn.cell
        have xc := hx.cell
        have tc := ht.cell
        have hvl := hv.lt
        have hmin : (if (k : Int) < (st : Int) then (k : Int) else (st : Int)) = (k : Int) := if_pos (by omega)
        go_wp2_with (go_at_call 7; refine (Rn.awake_any _).mono ?_; rintro e wa ⟨rfl, hba⟩; have vc := (hba.cell (p := ⟨w.heap.size + 1, 0, none⟩) hv.lt).trans hv.cell; have vf := (hba.frozen (p := ⟨w.heap.size + 1, 0, none⟩) hv.lt).trans hv.frozen)
        have hKa : wa.heap[D]? = some (.deferred (some [])) := (hba.block D (Array.getElem?_eq_some_iff.1 hK).1).trans hK
        have hK' := (KeepsOthers.setCell wa ⟨w.heap.size + 1, 0, none⟩ (.bool true)).same D _ hKa rfl
        refine ⟨by simp, .inl ⟨_, _, rfl, run_takeDeferred hK', ?_⟩⟩
        have hc5 := cell_kept (World.cell?_setCell_same' wa ⟨w.heap.size + 1, 0, none⟩ (.bool true) (by rw [vc]; rfl)) (grownBy_putObj' _ D (.deferred none)) (fun r e => by cases e; exact ⟨_, hK', rfl⟩)
        have gb := GB.out
        refine ⟨.bool true, by simp [results, Try.f5, go_sem, hc5], rfl, ?_⟩
        exact ((below_then hB hba).setCell (p := ⟨w.heap.size + 1, 0, none⟩) (Nat.le_succ _) _).trans (belowK_b (w := w) (Nat.le_refl _) _ D _ _ (by omega) hK' rfl rfl)
      case stop =>
        rintro D c' j W hD hj ⟨⟨rfl, ej⟩, hn, hx, ht, hv, hpp, hL, hB⟩ hK
        have nc := hn.cell
        have xc := hx.cell
        have tc := ht.cell
        have hvl := hv.lt
        have hmin : (if (k : Int) < (st : Int) then (k : Int) else (st : Int)) = (st : Int) := if_neg (by have := HL.out; omega)
        clear ej
        refine wpIn_wide.2 ?_
        go_wp2_with (go_at_call 7; refine (Rn.awake_any _).mono ?_; rintro e wa ⟨rfl, hba⟩; have vc := (hba.cell (p := ⟨w.heap.size + 1, 0, none⟩) hv.lt).trans hv.cell; have vf := (hba.frozen (p := ⟨w.heap.size + 1, 0, none⟩) hv.lt).trans hv.frozen)
        have hKa : wa.heap[D]? = some (.deferred (some [])) := (hba.block D (Array.getElem?_eq_some_iff.1 hK).1).trans hK
        have hK' := (KeepsOthers.setCell wa ⟨w.heap.size + 1, 0, none⟩ (.bool true)).same D _ hKa rfl
        refine ⟨by simp, .inl ⟨_, _, rfl, run_takeDeferred hK', ?_⟩⟩
        have hc5 := cell_kept (World.cell?_setCell_same' wa ⟨w.heap.size + 1, 0, none⟩ (.bool true) (by rw [vc]; rfl)) (grownBy_putObj' _ D (.deferred none)) (fun r e => by cases e; exact ⟨_, hK', rfl⟩)
        have gb := GB.out
        refine ⟨.bool true, by simp [results, Try.f5, go_sem, hc5], rfl, ?_⟩
        exact ((below_then hB hba).setCell (p := ⟨w.heap.size + 1, 0, none⟩) (Nat.le_succ _) _).trans (belowK_b (w := w) (Nat.le_refl _) _ D _ _ (by omega) hK' rfl rfl)

set_option maxRecDepth 100000 in
theorem lifted (os : Os) (started : os.Started) (H : Type) (enc : TypeId × Value → H) :
    ReturnsInHanded {} Try.checked os 5 .any (Rows.ringAllSpec.pre6 enc Try.prog Try.f5 Rows.ringAllRow.domain false) (Rows.ringAllSpec.post enc Try.prog Try.f5 false true false false) := by
  refine returnsInHanded_of_change (C := Try.checked) own started (by kernel_rfl) Try.func5
    (ChangeSpec.witness6 (enc := enc) (C := Try.checked) false ⟨#[], #[.int .i64 0, .slice none 0 0, .int .i64 0], []⟩ 8 (by kernel_rfl) (by kernel_rfl) (by kernel_rfl) (by kernel_rfl)) ?_
  intro W base args ds gs before hval0 hW hcnd _
  have hval : ∀ (j : Nat) t v, Try.f5.params[j]? = some t → args[j]? = some v → Value.okWide Try.prog W .any base t v := hval0
  have hW' := hW
  obtain ⟨p, q, hA0, hV, rfl, hfz, hnd⟩ := hW
  have hA : DataW.TrodAll enc Try.prog W 0 (fun _ => true) true Try.f5.params.toList args.toList ds p := hA0
  rw [Try.params5] at hA hval
  obtain ⟨v0, vs0, d0, ds0, p0, q0, hargs, rfl, rfl, h0, r0⟩ := trodAll_cons hA
  obtain ⟨v1, vs1, d1, ds1, p1, q1, rfl, rfl, rfl, h1, r1⟩ := trodAll_cons r0
  obtain ⟨v2, vs2, d2, ds2, p2, q2, rfl, rfl, rfl, h2, r2⟩ := trodAll_cons r1
  obtain ⟨rfl, rfl, rfl⟩ := trodAll_nil r2
  obtain rfl : args = #[v0, v1, v2] := by cases args; simp_all
  obtain ⟨rfl, rfl⟩ := trodVars_none hV
  obtain ⟨a0, rfl, rfl, rfl, w0⟩ := open_int Try.underlying3 (hval 0 3 v0 rfl rfl) h0
  obtain ⟨a1, len1, cap1, rfl⟩ := okWide_slice Try.underlying22 (hval 1 22 v1 rfl rfl)
  have k1 := h1
  have lt1 : ∀ x ∈ p1, x.block < W.heap.size := by obtain ⟨m, hm⟩ := k1; exact DataW.trod_lt m _ _ _ hm
  have w1 : IsPairs W a1 len1 cap1 := by
    obtain ⟨fuel, hf⟩ := h1
    rcases Go.Deep.open_slice_pairs Try.underlying22 Try.underlying30 (by kernel_rfl) rfl rfl (by kernel_rfl) (by kernel_rfl) hf with ⟨hcs, _⟩ | ⟨x, l, c, m, n, V0, V1, D0, D1, P0, P1, hcs, _, hl, hm, hmm, _, hall⟩
    · simp [Value.cells] at hcs
      obtain ⟨rfl, rfl, rfl⟩ := hcs
      exact .inl ⟨rfl, rfl, rfl⟩
    · simp [Value.cells] at hcs
      obtain ⟨rfl, rfl, rfl⟩ := hcs
      simp only [if_true] at hmm
      refine .inr ⟨x, rfl, hl, hm, fun i hi => ?_⟩
      obtain ⟨q1, q2, q3, q4⟩ := hall i (by omega)
      obtain ⟨k, e1, _, _⟩ := DataW.trod_int Try.underlying3 q3
      obtain ⟨n', e2, _, hw⟩ := DataW.trod_int Try.underlying3 q4
      simp only [List.cons.injEq, and_true] at e1 e2
      rw [e1] at q1
      rw [e2] at q2
      exact ⟨k, n', q1, q2, bounds_i64 hw⟩
  obtain ⟨a2, rfl, rfl, rfl, w2⟩ := open_int Try.underlying3 (hval 2 3 v2 rfl rfl) h2
  clear hA0 hval0
  refine (walk a0 a1 len1 cap1 a2 W w0 w1 w2).mono fun e W' ⟨he, bel⟩ => ?_
  subst he
  exact ⟨_, rfl, _, _, _, [], _, [], hW', trodAll_mk1 (shut_bool Try.underlying4 _), (trodAll_cons_mk (shut_int Try.underlying3 w0) (trodAll_cons_mk (Below.trod laidOut (by kernel_rfl) (of_decide_eq_true (by kernel_rfl)) k1 bel lt1) (trodAll_cons_mk (shut_int Try.underlying3 w2) trodAll_mk0))), rfl, bel.frame _, fun h => by cases h⟩

theorem over : Rows.ringAllRow.holds Try.pinned (OpenSpec.ofChange Rows.ringAllSpec) :=
  OpenClaim.holds_of_wide 5 Try.f5 rfl rfl rfl rfl rfl rfl rfl ⟨rfl, rfl, rfl, rfl, rfl⟩ rfl rfl rfl rfl rfl (by kernel_rfl) Try.func5 (by kernel_rfl)
    (of_decide_eq_true (by kernel_rfl)) (by unfold Func.isWrapper; first | (rw [if_pos (by decide +kernel)]; kernel_rfl) | (rw [if_neg (by decide +kernel)]; exact ⟨rfl, rfl⟩))
    (fun os started H enc _ => lifted os started H enc)

theorem proved : Rows.RingAllSaid := over
end Go.Proofs.Ytgjghnbhpnflfaa.ringAll

namespace Go.Proofs.Ytgjghnbhpnflfaa
theorem ringAll_holds : Rows.RingAllSaid := ringAll.proved
#print axioms ringAll_holds
end Go.Proofs.Ytgjghnbhpnflfaa
