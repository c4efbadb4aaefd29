/- A row has its pages in the order in which they were added, whatever is added to other rows; a fork has them, too. -/
import Derived.Test.YtpifemahakbegaaRows
import Derived.Test.YtpifemahakbegaaBkD
import Derived.WalkKit
import Derived.ProofKit
import Derived.OpenShut
import Derived.ShutString
import Derived.ChangeOld
import Derived.Below
namespace Go.Proofs.Ytpifemahakbegaa.blockOrder
open Go.ChangeShapes Go.WideShapes Go.ChangeAt Go.RowKit
set_option linter.unusedVariables false

theorem own : ownKnob Try.prog.godebug = none := by kernel_rfl
theorem laidOut : laidOutB Try.prog = true := by kernel_rfl

/-- What the walk is told of a slice of integers that came in. -/
def IsRow (k : IntKind) (w : World) (a : Option Addr) (len cap : Nat) (zs : List Int) : Prop :=
  (a = none ∧ len = 0 ∧ cap = 0 ∧ zs = []) ∨
  ∃ x, a = some x ∧ len ≤ cap ∧ cap ≤ maxLen ∧ zs.length = cap ∧ (∀ i, i < zs.length → w.cell? (x.add i) = some (.int k (zs.getD i 0))) ∧ ∀ n ∈ zs, (Lit.int k n).wf = true

set_option maxRecDepth 100000 in
set_option maxHeartbeats 3200000 in
theorem walk (a0 : Int) (a1 : Option Addr) (len1 cap1 : Nat) (z1 : List Int) (w : World) (w0 : (Lit.int .i64 a0).wf = true) (w1 : IsRow .i64 w a1 len1 cap1 z1) :
    Calls Try.prog 6 #[.int .i64 a0, .slice a1 len1 cap1] w fun e w' => e = .returned (.bool true) ∧ Below w.heap.size w w' := by
  -- depth
  -- frame
  obtain ⟨l, hl, HLc, ML⟩ := row_openI2 w1
  have HL : Hid (Lst .i64 w a1 l) := HLc
  have LL : Hid (l.length = len1) := hl
  have hz0 := bounds_i64 w0
  unfold maxLen at ML
  clear w0 w1 HLc hl
  by_cases hm : a0 < 1 ∨ 16 < a0 ∨ 60 < len1
  · by_cases q1 : a0 < 1 <;> by_cases q2 : 16 < a0 <;> by_cases q3 : 60 < len1
    all_goals first
      | (exfalso; omega)
      | (go_enter Try.func6, Try.ntmps6
         go_wp2_with (go_at_call 7; refine (bkAwake_any _).mono ?_; rintro e wa ⟨rfl, hba⟩)
         go_ret
         exact ⟨rfl, hba⟩)
  obtain ⟨m, rfl⟩ : ∃ m : Nat, a0 = m := ⟨a0.toNat, by omega⟩
  have hm16 : m ≤ 16 := by omega
  have hl1 : len1 ≤ 60 := by omega
  have g1 : decide ((m : Int) < (1 : Int)) = false := decide_eq_false (by omega)
  have g2 : decide ((16 : Int) < (m : Int)) = false := decide_eq_false (by omega)
  have g3 : decide ((60 : Int) < (len1 : Int)) = false := decide_eq_false (by omega)
  obtain ⟨i0, hi0, hi1, hi2, hi3⟩ := info_parts Try.infoIntG
  have hmk := run_make_row' (P := Try.prog) 53 31 (.slice none 0 0) 24 Try.underlying53 Try.infoSlices rfl .i64 .i64 m (by omega) (by omega)
  clear hm hz0 ML
  go_enter Try.func6, Try.ntmps6
  go_wp2_with fail
  refine (newPool_ok 60 (by decide) _).mono ?_
  rintro e w1 ⟨g, b, rfl, hp, hg, hb, hbel⟩
  have P1 : Hid (PoolAt w1 g b 60 (Po.zeros 60) (Po.zeros 60) ∧ w.heap.size ≤ g ∧ w.heap.size ≤ b) := ⟨hp, hg, hb⟩
  have B1 : Hid (Below w.heap.size w w1) := hbel
  clear hp hg hb hbel
  go_wp2_with fail
  refine (newTable_ok g m hm16 _).mono ?_
  rintro e w2 ⟨T, rfl, ht, hT, hbel⟩
  have P2 : Hid (PoolAt w2 g b 60 (Po.zeros 60) (Po.zeros 60)) := P1.out.1.keep hbel
  have T2 : Hid (Tab w2 g T m (fun _ => []) (fun q => w1.heap.size ≤ q ∧ q < w2.heap.size)) := ht.mono fun q hl hq => ⟨hq, hl⟩
  have B2 : Hid (Below w.heap.size w w2) := below_then B1.out hbel
  have S1 : w.heap.size ≤ w1.heap.size := B1.out.size
  clear ht hT hbel
  go_wp2
  clear hmk
  obtain ⟨d, ed⟩ : ∃ d, w2.heap.size = d := ⟨_, rfl⟩
  obtain ⟨u, eu⟩ : ∃ u, w2.alloc (.cells (madeCells #[.slice none 0 0] m) 31) = u := ⟨_, rfl⟩
  have UB : Hid (Below w2.heap.size w2 u) := by rw [← eu]; exact (Below.refl _ _).alloc (Nat.le_refl _) _
  have US : u.heap.size = d + 1 := by rw [← eu, ← ed]; simp
  have UW : Hid (OrdW w.heap.size u g b T m (Po.zeros 60) (Po.zeros 60) (fun _ => []) (fun _ => []) (.slice (some ⟨d, 0, none⟩) m m)) :=
    ⟨P2.out.keep UB.out, _, (fun q => q = d), T2.out.keep UB.out, by rw [← eu, ← ed]; exact rws_made (World.rowIs_made w2 _ m _) rfl, fun q hq => ⟨by omega, by omega, by omega⟩, fun q hq => ⟨by have := B2.out.size; omega, by omega⟩, P1.out.2.1, P1.out.2.2, by have := B2.out.size; omega⟩
  have B3 : Hid (Below w.heap.size w u) := below_then B2.out UB.out
  rw [eu, ed]
  clear eu ed P1 P2 T2 B1 B2 UB S1 US
  go_loopw [61] (fun i wq => ∃ (c : Nat) (R M : List Int) (L W : Nat → List Int), c ≤ len1 ∧ i = .int .i64 c ∧ Hid (Ord m c R M L W) ∧ Hid (OrdW w.heap.size wq g b T m R M L W (.slice (some ⟨d, 0, none⟩) m m)) ∧ Hid (Below w.heap.size w wq)) (fun i _ => len1 - (intOf i).toNat)
  case atStart => exact ⟨0, _, _, _, _, Nat.zero_le _, rfl, ord_none m, UW.out, B3.out⟩
  case round =>
    clear UW B3
    obtain ⟨c, R, M, L, W, hc, rfl, HO, OW, BR⟩ := hrel
    by_cases hlt : c < len1
    · obtain ⟨ob, oo, rfl, hget⟩ := (HL.out.keep BR.out).get (show c < l.length by rw [LL.out]; exact hlt)
      have hcell := hget c (by rw [LL.out]; exact hlt)
      obtain ⟨x, ex⟩ : ∃ x, Ls.nth l c = x := ⟨_, rfl⟩
      rw [ex] at hcell
      clear hget ex
      by_cases hth : 0 ≤ x ∧ x < m
      · obtain ⟨r, rfl⟩ : ∃ r : Nat, x = r := ⟨x.toNat, by omega⟩
        have hr : r < m := by omega
        have t1 : decide ((r : Int) < (m : Int)) = true := decide_eq_true (by omega)
        have lR : R.length = 60 := OW.out.1.nums.2.1
        have lM : M.length = 60 := OW.out.1.nums.2.2.1
        have h60 := HO.out.1
        rcases Po.free_cases R with hf | ⟨k, hk, hz, hlow⟩
        · exfalso
          have := Po.cnt_zero hf
          omega
        have HK : Hid (k < 60 ∧ Ls.nth R k = 0 ∧ ∀ i, i < k → ¬ Ls.nth R i = 0) := ⟨by omega, hz, hlow⟩
        have HLen : Hid (R.length = 60 ∧ M.length = 60) := ⟨lR, lM⟩
        have hLr : Hid ((L r).length ≤ 100000) := by have := Bk.row_le L hr; have := HO.out.2.2.1; show (L r).length ≤ 100000; omega
        clear lR lM h60 hk hz hlow hth
        go_wp2_with fail
        refine (made_b c _).mono ?_
        rintro e w3 ⟨q3, rfl, hq, _, hb3⟩
        rw [Po.mk_small (by omega) (by omega)] at hq
        have O3 : Hid (OrdW w.heap.size w3 g b T m R M L W (.slice (some ⟨d, 0, none⟩) m m)) := OW.out.keep hb3
        have Q3 : Hid (PgM w3 q3 (c : Int)) := hq
        have B3 : Hid (Below w.heap.size w w3) := below_then BR.out hb3
        clear hq hb3
        go_wp2_with fail
        refine (order_add w.heap.size g b T m r k q3 c R M L W _ _ O3.out hr hLr.out HK.out.1 HK.out.2.1 HK.out.2.2 Q3.out).mono ?_
        rintro e w4 ⟨rfl, ho4, hb4⟩
        have O4 : Hid (OrdW w.heap.size w4 g b T m (R.set k 1) (M.set k (c : Int)) (Bk.up L r (L r ++ [(k : Int)])) W (.slice (some ⟨d, 0, none⟩) m m)) := ho4
        have B4 : Hid (Below w.heap.size w w4) := B3.out.trans hb4
        obtain ⟨d', cc', A, C, e', hcr, hrow, hfr, hdl, hne⟩ := O4.out.row hr
        cases e'
        obtain ⟨n0, en⟩ : ∃ q, (W r).length = q := ⟨_, rfl⟩
        have EN : Hid ((W r).length = n0) := en
        have hn60 : n0 ≤ 60 := by have := (HO.out.2.2.2 r hr).2.1; omega
        rw [en] at hcr hrow hne
        have HRow : Hid (w4.ownsRow 0 3 1 (.slice A n0 C) n0 ((W r).map (Value.int .i64))) := by have := hrow; unfold RowAt at this; rw [en] at this; exact this
        have HCr : Hid (w4.cell? ⟨d, r, none⟩ = some (.slice A n0 C)) := hcr
        have HFr : Hid (w4.frozen? ⟨d, r, none⟩ = false) := hfr
        have HNe : Hid (¬ Value.ownBlock (.slice A n0 C) = some d) := hne
        clear ho4 hb4 O3 Q3 B3 hrow hfr hne en OW BR
        go_wp2_with (at_builtin; refine wpList_append_lies _ rfl _ _ _ rfl 0 3 i0 _ 1 8 Try.underlying31 hi0 hi1 hi2 hi3 rfl (by omega) _ n0 _ (by rfl) (HRow.out.alloc _) ⟨w4.heap.size, 0, none⟩ 1 1 [.int .i64 (c : Int)] (by rfl) (by rfl) (World.news_of_block (cs := #[.int .i64 (c : Int)]) (t := 3) (fr := (0, 0)) (heap_alloc_new w4 _)) (by simp [Value.oneCell']) (by omega) (by unfold maxLen; omega) (by omega) (by omega) (w4.heap.size + 1) (by simp) ?_; intro gg cap w5 hown1 hgrow hat hlt1; have HA : Hid (w5.ownsRow 0 3 1 (.slice (some ⟨gg, 0, none⟩) (n0 + 1) cap) (n0 + 1) ((W r).map (Value.int .i64) ++ [.int .i64 (c : Int)])) := hown1; have HG : Hid ((w4.alloc (.cells #[.int .i64 (c : Int)] 3)).grownBy w5 (Value.ownBlock (.slice A n0 C))) := hgrow; have HAT : Hid (Value.ownBlock (.slice A n0 C) = some gg ∨ gg = w4.heap.size + 1) := hat; have rb : w5.heap[d]? = w4.heap[d]? := (HG.out.block d (by simp; omega) (fun e => HNe.out e.symm)).trans (heap_old hdl); have cc := (World.cell?_of_block (a := ⟨d, r, none⟩) rb).trans HCr.out; have ff := (World.frozen?_of_block (a := ⟨d, r, none⟩) rb).trans HFr.out; clear hown1 hgrow hat rb hcr)
        go_roundw
        case rel =>
          obtain ⟨q1, q2⟩ := O4.out.more hr EN.out HCr.out HA.out HG.out HAT.out
          exact ⟨c + 1, _, _, _, _, by omega, by go_num, HO.out.add HLen.out.1 HLen.out.2 HK.out.1 HK.out.2.1 hr, q1, B4.out.trans q2⟩
        case measure => simp [intOf]; omega
      · have HX : Hid (¬ (0 ≤ x ∧ x < m)) := hth
        by_cases x0 : x < 0
        · have t0 : decide (0 ≤ x) = false := decide_eq_false (by omega)
          clear hth
          go_wp2_with (first
            | (go_at_call 17; refine (made_b c _).mono ?_; rintro e w3 ⟨q3, rfl, _, _, hb3⟩; have O3 : Hid (OrdW w.heap.size w3 g b T m R M L W (.slice (some ⟨d, 0, none⟩) m m)) := OW.out.keep hb3; have B3 : Hid (Below w.heap.size w w3) := below_then BR.out hb3; clear hb3)
            | (go_at_call 16; obtain ⟨_, Q1, _, ht, _⟩ := O3.out; refine (add_no g T m x _ L Q1 _ ht HX.out).mono ?_; rintro e w' ⟨rfl, hww⟩; cases hww.symm; clear hww))
          go_roundw
          case rel => exact ⟨c + 1, _, _, _, _, by omega, by go_num, HO.out.skip, O3.out, B3.out⟩
          case measure => simp [intOf]; omega
        · have t0 : decide (0 ≤ x) = true := decide_eq_true (by omega)
          have t1 : decide (x < (m : Int)) = false := decide_eq_false (by omega)
          clear hth x0
          go_wp2_with (first
            | (go_at_call 17; refine (made_b c _).mono ?_; rintro e w3 ⟨q3, rfl, _, _, hb3⟩; have O3 : Hid (OrdW w.heap.size w3 g b T m R M L W (.slice (some ⟨d, 0, none⟩) m m)) := OW.out.keep hb3; have B3 : Hid (Below w.heap.size w w3) := below_then BR.out hb3; clear hb3)
            | (go_at_call 16; obtain ⟨_, Q1, _, ht, _⟩ := O3.out; refine (add_no g T m x _ L Q1 _ ht HX.out).mono ?_; rintro e w' ⟨rfl, hww⟩; cases hww.symm; clear hww))
          go_roundw
          case rel => exact ⟨c + 1, _, _, _, _, by omega, by go_num, HO.out.skip, O3.out, B3.out⟩
          case measure => simp [intOf]; omega
    · have ec : c = len1 := by omega
      subst ec
      obtain ⟨hp, Q1, Q2, ht, hw, hq1, hq2, hg, hb, hs⟩ := OW.out
      have A0 : Hid (PoolAt wr g b 60 R M) := hp
      have T0 : Hid (Tab wr g T m L Q1) := ht
      have W0 : Hid (Rws wr (.slice (some ⟨d, 0, none⟩) m m) m W Q2) := hw
      have GB : Hid (w.heap.size ≤ g ∧ w.heap.size ≤ b) := ⟨hg, hb⟩
      have hlen := HO.out.2.2.1
      have hone := HO.out.2.1
      clear hp ht hw hq1 hq2 hg hb hs OW HL LL
      go_wp2_with fail
      refine (fork_any g b 60 T m R M L Q1 _ A0.out T0.out hm16 (by omega) HO.out.held (fun k hk => by have := hone k; omega)).mono ?_
      rintro e w5 ⟨U, rfl, hp, hu, hU, hbt⟩
      have lR : R.length = 60 := A0.out.nums.2.1
      have hnth : ∀ x : Nat, x < 60 → Ls.nth (Bk.bump R 1 (Bk.flat L m)) x = Ls.nth R x + 1 * Bk.occ x (Bk.flat L m) := fun x hx => Bk.nth_bump 1 _ R (fun y hy => by rw [lR]; exact (HO.out.held y hy).1) x (by omega)
      obtain ⟨R5, eR5⟩ : ∃ r, Bk.bump R 1 (Bk.flat L m) = r := ⟨_, rfl⟩
      rw [eR5] at hp hnth
      have A5 : Hid (PoolAt w5 g b 60 R5 M) := hp
      have T5 : Hid (Tab w5 g T m L Q1) := A0.out.tab hbt T0.out
      have W5 : Hid (Rws w5 (.slice (some ⟨d, 0, none⟩) m m) m W Q2) := A0.out.rws hbt W0.out
      have U5 : Hid (Tab w5 g U m L (fun q => wr.heap.size ≤ q)) := hu
      have B5 : Hid (Below w.heap.size w w5) := BR.out.trans (hbt.below GB.out.1 GB.out.2)
      have H5 : Hid (∀ r, r < m → (L r).length = (W r).length ∧ ∀ j, j < (L r).length → ∃ x : Nat, Ls.nth (L r) j = x ∧ x < 60 ∧ 0 < Ls.nth R5 x ∧ Ls.nth M x = Ls.nth (W r) j) := fun r hr => by
        obtain ⟨q1, _, q3⟩ := HO.out.2.2.2 r hr
        refine ⟨q1, fun j hj => ?_⟩
        obtain ⟨x, p1, p2, p3, p4⟩ := q3 j hj
        exact ⟨x, p1, p2, by rw [hnth x p2]; omega, p4⟩
      have K5 : Hid (∀ r, r < m → (W r).length ≤ 60) := fun r hr => by have := (HO.out.2.2.2 r hr).2.1; omega
      clear hp hu hU hbt lR hnth eR5 A0 T0 W0 BR HO hlen hone
      go_wp2
      go_loopw [108] (fun i wq => ∃ r : Nat, r ≤ m ∧ i = .int .i64 r ∧ Hid (Below w5.heap.size w5 wq)) (fun i _ => m - (intOf i).toNat)
      case atStart => exact ⟨0, Nat.zero_le _, rfl, Below.refl _ _⟩
      case round =>
        obtain ⟨r, hr, rfl, BQ⟩ := hrel
        by_cases hlt2 : r < m
        · obtain ⟨d', c', A, C, e', hcr, _, hA, _⟩ := (W5.out.keep BQ.out).cell hlt2
          cases e'
          obtain ⟨q1, q2⟩ := H5.out r hlt2
          obtain ⟨kk, ek⟩ : ∃ q, (W r).length = q := ⟨_, rfl⟩
          have EK : Hid ((W r).length = kk) := ek
          have EL : Hid ((L r).length = kk) := q1.trans ek
          have HQ : Hid (∀ j, j < kk → ∃ x : Nat, Ls.nth (L r) j = x ∧ x < 60 ∧ 0 < Ls.nth R5 x ∧ Ls.nth M x = Ls.nth (W r) j) := fun j hj => q2 j (by rw [q1, ek]; exact hj)
          have hk60 : kk ≤ 60 := by have := K5.out r hlt2; omega
          have HA : Hid (Lst .i64 wr A (W r)) := hA
          rw [ek] at hcr
          clear q1 q2 ek hA
          go_wp2_with (first
            | (go_at_call 19; (with_reducible refine (len_yes g T m r kk L _ _ (T5.out.keep BQ.out) hlt2 EL.out).mono ?_); rintro e w' ⟨rfl, hww⟩; cases hww.symm; clear hww)
            | (go_at_call 19; (with_reducible refine (len_yes g U m r kk L _ _ (U5.out.keep BQ.out) hlt2 EL.out).mono ?_); rintro e w' ⟨rfl, hww⟩; cases hww.symm; clear hww))
          obtain ⟨s6, es6⟩ : ∃ s, wr.heap.size = s := ⟨_, rfl⟩
          have ES6 : Hid (wr.heap.size = s6) := es6
          clear es6
          go_loopw [129] (fun i wq => ∃ j : Nat, j ≤ kk ∧ i = .int .i64 j ∧ Hid (Below s6 wr wq)) (fun i _ => kk - (intOf i).toNat)
          case atStart => exact ⟨0, Nat.zero_le _, rfl, Below.refl _ _⟩
          case round =>
            obtain ⟨j, hj, rfl, BJ⟩ := hrel
            have BW : Hid (Below w5.heap.size w5 wr) := below_then BQ.out (ES6.out.symm ▸ BJ.out)
            by_cases hlt3 : j < kk
            · obtain ⟨ob, oo, rfl, hget⟩ := (HA.out.keep (ES6.out.symm ▸ BJ.out)).get (show j < (W r).length by rw [EK.out]; exact hlt3)
              have hcell := hget j (by rw [EK.out]; exact hlt3)
              obtain ⟨x, p1, p2, p3, p4⟩ := HQ.out j hlt3
              obtain ⟨y, ey⟩ : ∃ y, Ls.nth (W r) j = y := ⟨_, rfl⟩
              rw [ey] at hcell p4
              have EX : Hid (Ls.nth (L r) j = x ∧ 0 < Ls.nth R5 x ∧ Ls.nth M x = y) := ⟨p1, p3, p4⟩
              clear hget p1 p3 p4 ey
              go_wp2_with fail
              refine (at_ok g b 60 T m r j x R5 M L _ _ (A5.out.keep BW.out) (T5.out.keep BW.out) hlt2 (by rw [EL.out]; exact hlt3) EX.out.1 p2 EX.out.2.1).mono ?_
              rintro e w7 ⟨qa, rfl, hqa, hb7⟩
              rw [EX.out.2.2] at hqa
              have QA : Hid (PgM w7 qa y) := hqa
              have B7 : Hid (Below wr.heap.size wr w7) := hb7
              clear hqa hb7
              go_wp2_with fail
              refine (at_ok g b 60 U m r j x R5 M L _ _ (A5.out.keep (below_then BW.out B7.out)) (U5.out.keep (below_then BW.out B7.out)) hlt2 (by rw [EL.out]; exact hlt3) EX.out.1 p2 EX.out.2.1).mono ?_
              rintro e w8 ⟨qb, rfl, hqb, hb8⟩
              rw [EX.out.2.2] at hqb
              have QA8 : Hid (PgM w8 qa y) := QA.out.keep hb8
              have QB8 : Hid (PgM w8 qb y) := hqb
              have B8 : Hid (Below wr.heap.size wr w8) := below_then B7.out hb8
              clear hqb hb8 QA B7
              go_wp2_with fail
              refine (headM_any qa y _ QA8.out).mono ?_
              rintro e w9 ⟨x0, x1, x2, x3, x4, x5, rfl, hb9⟩
              have hfd := field_mark x0 x1 x2 x3 x4 x5 y
              have QB9 : Hid (PgM w9 qb y) := QB8.out.keep hb9
              have B9 : Hid (Below wr.heap.size wr w9) := below_then B8.out hb9
              clear hb9 QA8 QB8 B8
              go_wp2_with fail
              refine (headM_any qb y _ QB9.out).mono ?_
              rintro e w10 ⟨z0, z1, z2, z3, z4, z5, rfl, hb10⟩
              have hfd2 := field_mark z0 z1 z2 z3 z4 z5 y
              have B10 : Hid (Below wr.heap.size wr w10) := below_then B9.out hb10
              clear hb10 QB9 B9
              go_wp2
              go_roundw
              case rel => exact ⟨j + 1, by omega, by go_num, BJ.out.trans (B10.out.mono (by have := BJ.out.size; have := ES6.out; omega))⟩
              case measure => simp [intOf]; omega
            · have ej : j = kk := by omega
              subst ej
              go_wp2
              go_roundw
              case rel => exact ⟨r + 1, by omega, by go_num, BW.out⟩
              case measure => simp [intOf]; omega
        · have er : r = m := by omega
          subst er
          go_wp2_with (go_at_call 7; refine (bkAwake_any _).mono ?_; rintro e w9 ⟨rfl, hb9⟩; have Z9 : Hid (Below wr.heap.size wr w9) := hb9; clear hb9)
          go_ret
          exact ⟨rfl, below_then (below_then B5.out BQ.out) Z9.out⟩

set_option maxRecDepth 100000 in
theorem lifted (os : Os) (started : os.Started) (H : Type) (enc : TypeId × Value → H) :
    ReturnsInHanded {} Try.checked os 6 .any (Rows.blockOrderSpec.pre6 enc Try.prog Try.f6 Rows.blockOrderRow.domain false) (Rows.blockOrderSpec.post enc Try.prog Try.f6 false true false false) := by
  refine returnsInHanded_of_change (C := Try.checked) own started (by kernel_rfl) Try.func6
    (ChangeSpec.witness6 (enc := enc) (C := Try.checked) false ⟨#[], #[.int .i64 0, .slice none 0 0], []⟩ 8 (by kernel_rfl) (by kernel_rfl) (by kernel_rfl) (by kernel_rfl)) ?_
  intro W base args ds gs before hval0 hW hcnd _
  have hval : ∀ (j : Nat) t v, Try.f6.params[j]? = some t → args[j]? = some v → Value.okWide Try.prog W .any base t v := hval0
  have hW' := hW
  obtain ⟨p, q, hA0, hV, rfl, hfz, hnd⟩ := hW
  have hA : DataW.TrodAll enc Try.prog W 0 (fun _ => true) true Try.f6.params.toList args.toList ds p := hA0
  rw [Try.params6] at hA hval
  obtain ⟨v0, vs0, d0, ds0, p0, q0, hargs, rfl, rfl, h0, r0⟩ := trodAll_cons hA
  obtain ⟨v1, vs1, d1, ds1, p1, q1, rfl, rfl, rfl, h1, r1⟩ := trodAll_cons r0
  obtain ⟨rfl, rfl, rfl⟩ := trodAll_nil r1
  obtain rfl : args = #[v0, v1] := by cases args; simp_all
  obtain ⟨rfl, rfl⟩ := trodVars_none hV
  obtain ⟨a0, rfl, rfl, rfl, w0⟩ := open_int Try.underlying3 (hval 0 3 v0 rfl rfl) h0
  obtain ⟨a1, len1, cap1, rfl⟩ := okWide_slice Try.underlying31 (hval 1 31 v1 rfl rfl)
  have k1 := h1
  have lt1 : ∀ x ∈ p1, x.block < W.heap.size := by obtain ⟨m, hm⟩ := k1; exact DataW.trod_lt m _ _ _ hm
  obtain ⟨z1, w1⟩ : ∃ zs, IsRow .i64 W a1 len1 cap1 zs := by
    obtain ⟨fuel, hf⟩ := h1
    rcases open_ints Try.underlying31 Try.underlying3 (by kernel_rfl) hf with ⟨hcs, _⟩ | ⟨x, l, c, zs, hcs, _, hl, hm, hz, _, hcell, hwz⟩
    · simp [Value.cells] at hcs
      obtain ⟨rfl, rfl, rfl⟩ := hcs
      exact ⟨[], .inl ⟨rfl, rfl, rfl, rfl⟩⟩
    · simp [Value.cells] at hcs
      obtain ⟨rfl, rfl, rfl⟩ := hcs
      exact ⟨zs, .inr ⟨_, rfl, hl, hm, by simpa using hz, hcell, hwz⟩⟩
  clear hA0 hval0
  refine (walk a0 a1 len1 cap1 z1 W w0 w1).mono fun e W' ⟨he, bel⟩ => ?_
  subst he
  exact ⟨_, rfl, _, _, _, [], _, [], hW', trodAll_mk1 (shut_bool Try.underlying4 _), (trodAll_cons_mk (shut_int Try.underlying3 w0) (trodAll_cons_mk (Below.trod laidOut (by kernel_rfl) (of_decide_eq_true (by kernel_rfl)) k1 bel lt1) trodAll_mk0)), rfl, bel.frame _, fun h => by cases h⟩

theorem over : Rows.blockOrderRow.holds Try.pinned (OpenSpec.ofChange Rows.blockOrderSpec) :=
  OpenClaim.holds_of_wide 6 Try.f6 rfl rfl rfl rfl rfl rfl rfl ⟨rfl, rfl, rfl, rfl, rfl⟩ rfl rfl rfl rfl rfl (by kernel_rfl) Try.func6 (by kernel_rfl)
    (of_decide_eq_true (by kernel_rfl)) (by unfold Func.isWrapper; first | (rw [if_pos (by decide +kernel)]; kernel_rfl) | (rw [if_neg (by decide +kernel)]; exact ⟨rfl, rfl⟩))
    (fun os started H enc _ => lifted os started H enc)

theorem proved : Rows.BlockOrderSaid := over
end Go.Proofs.Ytpifemahakbegaa.blockOrder

namespace Go.Proofs.Ytpifemahakbegaa
theorem blockOrder_holds : Rows.BlockOrderSaid := blockOrder.proved
#print axioms blockOrder_holds
end Go.Proofs.Ytpifemahakbegaa
