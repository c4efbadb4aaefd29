/- A fork has the same pages; what is put to one of both, or cleared, leaves the other one, whatever was done before. -/
import Derived.Test.YtpifemahakbegaaRows
import Derived.Test.YtpifemahakbegaaBkB
import Derived.WalkKit
import Derived.ProofKit
import Derived.OpenShut
import Derived.ShutString
import Derived.ChangeOld
import Derived.Below
namespace Go.Proofs.Ytpifemahakbegaa.blockForks
open Go.ChangeShapes Go.WideShapes Go.ChangeAt Go.RowKit
set_option linter.unusedVariables false

theorem own : ownKnob Try.prog.godebug = none := by kernel_rfl
theorem laidOut : laidOutB Try.prog = true := by kernel_rfl

/-- What the walk is told of a slice of integers that came in. -/
def IsRow (k : IntKind) (w : World) (a : Option Addr) (len cap : Nat) (zs : List Int) : Prop :=
  (a = none ∧ len = 0 ∧ cap = 0 ∧ zs = []) ∨
  ∃ x, a = some x ∧ len ≤ cap ∧ cap ≤ maxLen ∧ zs.length = cap ∧ (∀ i, i < zs.length → w.cell? (x.add i) = some (.int k (zs.getD i 0))) ∧ ∀ n ∈ zs, (Lit.int k n).wf = true

set_option maxRecDepth 100000 in
set_option maxHeartbeats 3200000 in
theorem walk (a0 : Int) (a1 : Int) (a2 : Option Addr) (len2 cap2 : Nat) (w : World) (w0 : (Lit.int .i64 a0).wf = true) (w1 : (Lit.int .i64 a1).wf = true) (w2 : IsCalls w a2 len2 cap2) :
    Calls Try.prog 5 #[.int .i64 a0, .int .i64 a1, .slice a2 len2 cap2] w fun e w' => e = .returned (.bool true) ∧ Below w.heap.size w w' := by
  -- depth
  obtain ⟨K, HKc, ML⟩ := calls_open w2
  have HC : Hid (Cls w a2 len2 K) := HKc
  have hz0 := bounds_i64 w0
  have hz1 := bounds_i64 w1
  unfold maxLen at ML
  clear w0 w1 w2 HKc
  by_cases hm : 50 < len2 ∨ a0 < 1 ∨ 60 < a0 ∨ a1 < 1 ∨ 16 < a1
  · by_cases q1 : 50 < len2 <;> by_cases q2 : a0 < 1 <;> by_cases q3 : 60 < a0 <;> by_cases q4 : a1 < 1 <;> by_cases q5 : 16 < a1
    all_goals first
      | (exfalso; omega)
      | (go_enter Try.func5, Try.ntmps5
         go_wp2_with (go_at_call 7; refine (bkAwake_any _).mono ?_; rintro e wa ⟨rfl, hba⟩)
         go_ret
         exact ⟨rfl, hba⟩)
  obtain ⟨n, rfl⟩ : ∃ n : Nat, a0 = n := ⟨a0.toNat, by omega⟩
  obtain ⟨m, rfl⟩ : ∃ m : Nat, a1 = m := ⟨a1.toNat, by omega⟩
  have hn : n ≤ 60 := by omega
  have hm16 : m ≤ 16 := by omega
  have hm1 : 0 < m := by omega
  have hl1 : len2 ≤ 50 := by omega
  have g1 : decide ((50 : Int) < (len2 : Int)) = false := decide_eq_false (by omega)
  have g2 : decide ((n : Int) < (1 : Int)) = false := decide_eq_false (by omega)
  have g3 : decide ((60 : Int) < (n : Int)) = false := decide_eq_false (by omega)
  have g4 : decide ((m : Int) < (1 : Int)) = false := decide_eq_false (by omega)
  have g5 : decide ((16 : Int) < (m : Int)) = false := decide_eq_false (by omega)
  clear hm hz0 hz1 ML
  go_enter Try.func5, Try.ntmps5
  go_wp2_with (go_at_call 8; refine (begun_ok n m hn hm16 _).mono ?_; rintro e w1 ⟨P, rfl, hp, hb⟩; have P1 : Hid (PlayP w.heap.size w1 P n m 1 0) := hp; have B1 : Hid (Below w.heap.size w w1) := hb; clear hp hb)
  go_loopw [46] (fun i wq => ∃ (c k : Nat), c ≤ len2 ∧ i = .int .i64 c ∧ Hid (PlayP w.heap.size wq P n m k c) ∧ Hid (Below w.heap.size w wq)) (fun i _ => len2 - (intOf i).toNat)
  case atStart => exact ⟨0, 1, Nat.zero_le _, rfl, P1.out, B1.out⟩
  case round =>
    obtain ⟨c, k, hc, rfl, PR, BR⟩ := hrel
    by_cases hlt : c < len2
    · obtain ⟨ob, oo, e, k0, k1, k2, k3⟩ := (HC.out.keep BR.out) c hlt
      subst e
      obtain ⟨x0, x1, x2, x3, ek⟩ : ∃ a b d e, K c = (a, b, d, e) := ⟨(K c).1, (K c).2.1, (K c).2.2.1, (K c).2.2.2, rfl⟩
      rw [ek] at k0 k1 k2 k3
      have k0' : wr.cell? ⟨ob, oo + c * 4, none⟩ = some (.int .i64 x0) := k0
      have k1' : wr.cell? ⟨ob, oo + c * 4 + 1, none⟩ = some (.int .i64 x1) := k1
      have k2' : wr.cell? ⟨ob, oo + c * 4 + 2, none⟩ = some (.int .i64 x2) := k2
      have k3' : wr.cell? ⟨ob, oo + c * 4 + 3, none⟩ = some (.int .i64 x3) := k3
      clear k0 k1 k2 k3 ek
      go_wp2_with (go_at_call 9; refine (step_any w.heap.size P n m k c x0 x1 x2 x3 _ (PR.out.keep (box_below _ _)) (by omega) hm16 hn).mono ?_; rintro e w3 ⟨rfl, ⟨k', hp⟩, hb⟩; have P3 : Hid (PlayP w.heap.size w3 P n m k' (c + 1)) := hp; have B3 : Hid (Below w.heap.size w w3) := (BR.out.trans ((box_below _ _).mono BR.out.size)).trans hb; clear hp hb)
      go_roundw
      case rel => exact ⟨c + 1, k', by omega, by go_num, P3.out, B3.out⟩
      case measure => simp [intOf]; omega
    · have ec : c = len2 := by omega
      subst ec
      obtain ⟨g, b, R, M, s1, s2, va, vr, T, D, L, col, hC, hD, hB, hF, hG⟩ := PR.out
      have hk := hG.2.2.2.1
      obtain ⟨ab, ac, rb, rc, rfl, rfl, pc, _⟩ := hB.cells hk
      obtain ⟨⟨_, _, _, p3, _⟩, _⟩ := pl_cells hB.1
      obtain ⟨l0, el⟩ : ∃ l, L 0 = l := ⟨_, rfl⟩
      obtain ⟨t0, et⟩ : ∃ t, T 0 = t := ⟨_, rfl⟩
      have hcol := hB.2.2.2.1
      have X0 := (hC.2.1 0 hk).1
      have hlen := hG.2.2.1 0 hk
      have hin := hG.2.1 0 hk
      have hheld := hG.held hk
      have hocc := hG.occs hk
      have htop := hG.top hl1
      rw [el] at X0 hlen hin hheld hocc
      rw [et] at X0 pc
      obtain ⟨s0, es⟩ : ∃ s, wr.heap.size = s := ⟨_, rfl⟩
      have A0 : Hid (PoolAt wr g b n R M) := hC.1
      have T0 : Hid (Tab wr g t0 m l0 (fun q => w.heap.size ≤ q ∧ q < s0 ∧ ¬ q = P)) := X0.mono fun q hl hq => ⟨hF.2.1 q (by have : col q = 0 + 1 := hq; omega), by omega, fun e => by have : col q = 0 + 1 := hq; rw [e, hcol] at this; omega⟩
      have Y0 : Hid (PlG wr P g) := ⟨_, hB.1, rfl⟩
      have BG : Hid (w.heap.size ≤ g ∧ w.heap.size ≤ b ∧ w.heap.size ≤ s0 ∧ P < s0) := ⟨hF.2.1 g (by have := hC.2.2.1; omega), hF.2.1 b (by have := hC.2.2.2; omega), by have := hF.2.2; omega, by have := hB.1.lt; omega⟩
      have HI : Hid (∀ x, x ∈ Bk.flat l0 m → 0 ≤ x ∧ x < n) := hin
      have HH : Hid (∀ x, x ∈ Bk.flat l0 m → (0 ≤ x ∧ x < n) ∧ 0 < Ls.nth R x.toNat) := hheld
      have HO : Hid (∀ t : Nat, t < n → (Bk.occ t (Bk.flat l0 m) : Int) ≤ Ls.nth R t) := hocc
      have HT : Hid (∀ t, t < n → Ls.nth R t ≤ 300) := htop
      obtain ⟨N, eN⟩ : ∃ N, Bk.len l0 m = N := ⟨_, rfl⟩
      have EN : Hid (Bk.len l0 m = N) := eN
      have hN : N ≤ 50 := by omega
      have ES : Hid (wr.heap.size = s0) := es
      clear hC hD hB hF hG PR X0 hlen hin hheld hocc htop eN es el et hcol HC
      go_wp2_with fail
      refine (fork_any g b n t0 m R M l0 _ _ A0.out T0.out hm16 (by rw [EN.out]; omega) HH.out (fun k hk => by have := HT.out k hk; omega)).mono ?_
      rintro e w1 ⟨U, rfl, hp, hu, hU, hbt⟩
      have lR : R.length = n := A0.out.nums.2.1
      have hnth : ∀ x : Nat, x < n → Ls.nth (Bk.bump R 1 (Bk.flat l0 m)) x = Ls.nth R x + 1 * Bk.occ x (Bk.flat l0 m) := fun x hx => Bk.nth_bump 1 _ R (fun y hy => by rw [lR]; exact HI.out y hy) x (by omega)
      obtain ⟨R1, eR1⟩ : ∃ r, Bk.bump R 1 (Bk.flat l0 m) = r := ⟨_, rfl⟩
      rw [eR1] at hp hnth
      have A1 : Hid (PoolAt w1 g b n R1 M) := hp
      have T1 : Hid (Tab w1 g t0 m l0 (fun q => w.heap.size ≤ q ∧ q < s0 ∧ ¬ q = P)) := A0.out.tab hbt T0.out
      have sz1 : s0 ≤ w1.heap.size := by have := hbt.1.size; have := ES.out; omega
      have U1 : Hid (Tab w1 g U m l0 (fun q => s0 ≤ q ∧ q < w1.heap.size)) := by have := ES.out; exact hu.mono fun q hl hq => ⟨by omega, hl⟩
      have Y1 : Hid (PlG w1 P g) := Y0.out.but A0.out (ButQ.of_but2 (Q := fun _ => False) hbt) (fun h => h)
      have UU : Hid (s0 ≤ U ∧ U < w1.heap.size) := ⟨by have := ES.out; omega, hu.lt⟩
      have B1 : Hid (Below w.heap.size w w1) := BR.out.trans (hbt.below BG.out.1 BG.out.2.1)
      have HU : Hid ((∀ x : Nat, x < n → ((Bk.occ x (Bk.flat l0 m) + Bk.occ x (Bk.flat l0 m) : Nat) : Int) ≤ Ls.nth R1 x) ∧ ∀ x, x < n → Ls.nth R1 x ≤ 900) := ⟨fun x hx => by rw [hnth x hx]; have := HO.out x hx; omega, fun x hx => by rw [hnth x hx]; have := HT.out x hx; have h2 := Bk.occ_le (x : Int) (Bk.flat l0 m); have h3 : (Bk.flat l0 m).length = N := EN.out; omega⟩
      obtain ⟨s1', es1⟩ : ∃ s, w1.heap.size = s := ⟨_, rfl⟩
      have ES1 : Hid (w1.heap.size = s1') := es1
      rw [es1] at U1 UU sz1
      clear hp hu hU hbt A0 T0 Y0 BR hnth eR1 HT HO HH es1 p3 pc ES
      go_wp2_with fail
      refine (slots_any' g t0 m N l0 _ _ T1.out (by omega) EN.out (by omega)).mono ?_
      rintro e w2 ⟨a1, c1, rfl, ho2, _, hb2⟩
      have A2 : Hid (PoolAt w2 g b n R1 M) := A1.out.keep hb2
      have T2 : Hid (Tab w2 g t0 m l0 (fun q => w.heap.size ≤ q ∧ q < s0 ∧ ¬ q = P)) := T1.out.keep hb2
      have U2 : Hid (Tab w2 g U m l0 (fun q => s0 ≤ q ∧ q < s1')) := U1.out.keep hb2
      have Y2 : Hid (PlG w2 P g) := Y1.out.keep hb2
      have B2 : Hid (Below w.heap.size w w2) := below_then B1.out hb2
      have O2 : Hid (w2.ownsRow s1' 3 1 (.slice a1 N c1) N ((Bk.flat l0 m).map (Value.int .i64))) := by rw [ES1.out] at ho2; exact ho2
      have Z2 : Hid (s1' ≤ w2.heap.size) := by have := hb2.size; have := ES1.out; show s1' ≤ w2.heap.size; omega
      clear ho2 hb2 A1 T1 U1 Y1 B1 ES1
      go_wp2_with fail
      refine (made_b 1 _).mono ?_
      rintro e w3 ⟨q3, rfl, hq, _, hb3⟩
      have A3 : Hid (PoolAt w3 g b n R1 M) := A2.out.keep hb3
      have T3 : Hid (Tab w3 g t0 m l0 (fun q => w.heap.size ≤ q ∧ q < s0 ∧ ¬ q = P)) := T2.out.keep hb3
      have U3 : Hid (Tab w3 g U m l0 (fun q => s0 ≤ q ∧ q < s1')) := U2.out.keep hb3
      have Y3 : Hid (PlG w3 P g) := Y2.out.keep hb3
      have B3 : Hid (Below w.heap.size w w3) := below_then B2.out hb3
      have O3 : Hid (w3.ownsRow s1' 3 1 (.slice a1 N c1) N ((Bk.flat l0 m).map (Value.int .i64))) := own_below O2.out hb3
      have Z3 : Hid (s1' ≤ w3.heap.size) := by have := hb3.size; have := Z2.out; show s1' ≤ w3.heap.size; omega
      have Q3 : Hid (PgM w3 q3 (Po.mk 1)) := hq
      obtain ⟨s3', es3⟩ : ∃ s, w3.heap.size = s := ⟨_, rfl⟩
      have ES3 : Hid (w3.heap.size = s3') := es3
      have V3 : Hid (∀ q, Value.ownBlock (.slice a1 N c1) = some q → s1' ≤ q ∧ q < s3') := fun q hq => by have := O3.out.lt q hq; omega
      clear hq hb3 A2 T2 U2 Y2 B2 O2 Z2 es3
      go_wp2_with fail
      refine (add_one g b n t0 m 0 q3 _ R1 M l0 (fun x => Bk.occ x (Bk.flat l0 m)) _ _ A3.out T3.out hm1 (by rw [EN.out]; omega) Q3.out HI.out HU.out.1 HU.out.2).mono ?_
      rintro e w4 ⟨sv, R4, M4, l4, rfl, hp, ht, hbt, f1, f2, f3, f4⟩
      have A4 : Hid (PoolAt w4 g b n R4 M4) := hp
      have T4 : Hid (Tab w4 g t0 m l4 (fun q => (w.heap.size ≤ q ∧ q < s0 ∧ ¬ q = P) ∨ s3' ≤ q)) := by have := ES3.out; exact ht.mono fun q _ hq => by omega
      have U4 : Hid (Tab w4 g U m l0 (fun q => s0 ≤ q ∧ q < s1')) := U3.out.other A3.out hbt (fun hq => by have := UU.out; omega) (fun q h1 h2 => by omega)
      have Y4 : Hid (PlG w4 P g) := Y3.out.but A3.out hbt (fun h => h.2.2 rfl)
      have B4 : Hid (Below w.heap.size w w4) := B3.out.trans (hbt.below BG.out.1 BG.out.2.1 B3.out.size (fun q hq => hq.1))
      have O4 : Hid (w4.ownsRow s1' 3 1 (.slice a1 N c1) N ((Bk.flat l0 m).map (Value.int .i64))) := own_but O3.out A3.out hbt (fun q e h => by have := V3.out q e; omega)
      have F4 : Hid (Bk.len l4 m ≤ 1000 ∧ (∀ x, x ∈ Bk.flat l4 m → 0 ≤ x ∧ x < n) ∧ (∀ x : Nat, x < n → ((Bk.occ x (Bk.flat l4 m) + Bk.occ x (Bk.flat l0 m) : Nat) : Int) ≤ Ls.nth R4 x) ∧ ∀ x, x < n → Ls.nth R4 x ≤ 1000) := ⟨f1, f2, f3, f4⟩
      have Z4 : Hid (s1' ≤ s3' ∧ s3' ≤ w4.heap.size) := by have := hbt.size; have := Z3.out; have := ES3.out; show _ ∧ _; omega
      clear hp ht hbt f1 f2 f3 f4 A3 T3 U3 Y3 B3 O3 Z3 Q3 ES3 HU
      go_wp2_with fail
      refine (clear_any g b n t0 m R4 M4 l4 _ _ A4.out T4.out hm16 F4.out.1 F4.out.2.1 (fun x hx => by have := F4.out.2.2.1 x hx; omega) F4.out.2.2.2).mono ?_
      rintro e w5 ⟨rfl, hp, ht, hbt⟩
      have lR4 : R4.length = n := A4.out.nums.2.1
      have hn5 : ∀ x : Nat, x < n → Ls.nth (Bk.bump R4 (-1) (Bk.flat l4 m)) x = Ls.nth R4 x + (-1) * Bk.occ x (Bk.flat l4 m) := fun x hx => Bk.nth_bump (-1) _ R4 (fun y hy => by rw [lR4]; exact F4.out.2.1 y hy) x (by omega)
      obtain ⟨R5, eR5⟩ : ∃ r, Bk.bump R4 (-1) (Bk.flat l4 m) = r := ⟨_, rfl⟩
      rw [eR5] at hp hn5
      have A5 : Hid (PoolAt w5 g b n R5 M4) := hp
      have U5 : Hid (Tab w5 g U m l0 (fun q => s0 ≤ q ∧ q < s1')) := U4.out.other A4.out hbt (fun hq => by have := UU.out; have := Z4.out; omega) (fun q h1 h2 => by have := Z4.out; omega)
      have Y5 : Hid (PlG w5 P g) := Y4.out.but A4.out hbt (fun h => by have := BG.out; have := UU.out; have := Z4.out; omega)
      have B5 : Hid (Below w.heap.size w w5) := B4.out.trans (hbt.below BG.out.1 BG.out.2.1 B4.out.size (fun q hq => by have := BG.out; have := UU.out; have := Z4.out; omega))
      have O5 : Hid (w5.ownsRow s1' 3 1 (.slice a1 N c1) N ((Bk.flat l0 m).map (Value.int .i64))) := own_but O4.out A4.out hbt (fun q e h => by have := V3.out q e; have := UU.out; omega)
      have H5 : Hid (∀ x : Nat, x < n → (Bk.occ x (Bk.flat l0 m) : Int) ≤ Ls.nth R5 x) := fun x hx => by rw [hn5 x hx]; have := F4.out.2.2.1 x hx; omega
      clear hp ht hbt hn5 eR5 A4 T4 U4 Y4 B4 O4 F4
      go_wp2_with fail
      refine (slots_any' g U m N l0 _ _ U5.out (by omega) EN.out (by omega)).mono ?_
      rintro e w6 ⟨a2, c2, rfl, ho6, hl6, hb6⟩
      have A6 : Hid (PoolAt w6 g b n R5 M4) := A5.out.keep hb6
      have U6 : Hid (Tab w6 g U m l0 (fun q => s0 ≤ q ∧ q < s1')) := U5.out.keep hb6
      have Y6 : Hid (PlG w6 P g) := Y5.out.keep hb6
      have B6 : Hid (Below w.heap.size w w6) := below_then B5.out hb6
      have W6 : Hid (Lst .i64 w6 a1 (Bk.flat l0 m)) := own_lst (own_below O5.out hb6) EN.out
      have G6 : Hid (Lst .i64 w6 a2 (Bk.flat l0 m)) := hl6
      have H6 : Hid (∀ y, y < N → ∃ x : Nat, x < n ∧ Ls.nth (Bk.flat l0 m) y = x ∧ 0 < Ls.nth R5 x) := fun y hy => by
        have hm := Bk.mem_nth (l := Bk.flat l0 m) (show y < (Bk.flat l0 m).length by have := EN.out; unfold Bk.len at this; omega)
        have hi := HI.out _ hm
        refine ⟨(Ls.nth (Bk.flat l0 m) y).toNat, by omega, by omega, ?_⟩
        have ho := Bk.occ_pos hm
        have h5 := H5.out (Ls.nth (Bk.flat l0 m) y).toNat (by omega)
        rw [show (((Ls.nth (Bk.flat l0 m) y).toNat : Nat) : Int) = Ls.nth (Bk.flat l0 m) y by omega] at h5
        omega
      clear ho6 hl6 hb6 A5 U5 Y5 B5 O5 V3
      go_wp2
      go_loopw [81] (fun i wq => ∃ y : Nat, y ≤ N ∧ i = .int .i64 y ∧ Hid (Below w6.heap.size w6 wq)) (fun i _ => N - (intOf i).toNat)
      case atStart => exact ⟨0, Nat.zero_le _, rfl, Below.refl _ _⟩
      case round =>
        obtain ⟨y, hy, rfl, BQ⟩ := hrel
        by_cases hlt2 : y < N
        · have p0 := (Y6.out.keep BQ.out).cell
          have lN : (Bk.flat l0 m).length = N := EN.out
          obtain ⟨b1, o1, rfl, hg1⟩ := (W6.out.keep BQ.out).get (show y < _ by omega)
          obtain ⟨b2, o2, rfl, hg2⟩ := (G6.out.keep BQ.out).get (show y < _ by omega)
          obtain ⟨x, hx, ex, hpos⟩ := H6.out y hlt2
          have d1 := hg1 y (by omega)
          have d2 := hg2 y (by omega)
          rw [ex] at d1 d2
          obtain ⟨rx, erx⟩ : ∃ r, Ls.nth R5 x = r := ⟨_, rfl⟩
          have ER : Hid (Ls.nth R5 x = rx) := erx
          have dd : decide (rx < 1) = false := decide_eq_false (by omega)
          have HP1 : Hid (0 < rx) := by show 0 < rx; omega
          clear hg1 hg2 ex hpos lN erx
          go_wp2
          go_quiet ((go_at_call 18; exact (refs_some g b n x rx R5 M4 _ ((A6.out.keep BQ.out).keep (below_drewN (Below.refl _ _) _)) hx ER.out HP1.out).mono fun _ _ ⟨he, hw⟩ => ⟨he, _, hw⟩))
          go_wp2
          go_roundw
          case rel => exact ⟨y + 1, by omega, by go_num, BQ.out.trans (below_drewN (Below.refl _ _) _)⟩
          case measure => simp [intOf]; omega
        · have ey : y = N := by omega
          subst ey
          have A7 : Hid (PoolAt wr g b n R5 M4) := A6.out.keep BQ.out
          have U7 : Hid (Tab wr g U m l0 (fun q => s0 ≤ q ∧ q < s1')) := U6.out.keep BQ.out
          have B7 : Hid (Below w.heap.size w wr) := below_then B6.out BQ.out
          have H7 : Hid (∀ r, r < m → ∀ i, i < (l0 r).length → ∃ x : Nat, x < n ∧ Ls.nth (l0 r) i = x ∧ 0 < Ls.nth R5 x) := fun r hr i hi => by
            have e := Bk.nth_flat l0 hr hi
            have h1 := H6.out (Bk.len l0 r + i) (by have := Bk.len_mono l0 (show r + 1 ≤ m by omega); rw [Bk.len_succ] at this; have := EN.out; omega)
            rw [e] at h1
            exact h1
          clear A6 U6 B6 Y6 W6 G6 H6 BQ
          go_wp2
          go_loopw [107] (fun i wq => ∃ r : Nat, r ≤ m ∧ i = .int .i64 r ∧ Hid (PoolAt wq g b n R5 M4) ∧ Hid (Tab wq g U m l0 (fun q => s0 ≤ q ∧ q < s1')) ∧ Hid (Below w.heap.size w wq)) (fun i _ => m - (intOf i).toNat)
          case atStart => exact ⟨0, Nat.zero_le _, rfl, A7.out, U7.out, B7.out⟩
          case round =>
            clear A7 U7 B7
            obtain ⟨r, hr, rfl, A7, U7, B7⟩ := hrel
            by_cases hlt3 : r < m
            · obtain ⟨k, ek⟩ : ∃ k, (l0 r).length = k := ⟨_, rfl⟩
              have EK : Hid ((l0 r).length = k) := ek
              have hk9 : k ≤ 50 := by have := Bk.row_le l0 hlt3; have := EN.out; omega
              clear ek
              go_wp2_with (go_at_call 19; refine (len_yes g U m r k l0 _ _ U7.out hlt3 EK.out).mono ?_; rintro e w' ⟨rfl, hww⟩; cases hww.symm; clear hww)
              go_loopw [113] (fun i wq => ∃ c : Nat, c ≤ k ∧ i = .int .i64 c ∧ Hid (PoolAt wq g b n R5 M4) ∧ Hid (Tab wq g U m l0 (fun q => s0 ≤ q ∧ q < s1')) ∧ Hid (Below w.heap.size w wq)) (fun i _ => k - (intOf i).toNat)
              case atStart => exact ⟨0, Nat.zero_le _, rfl, A7.out, U7.out, B7.out⟩
              case round =>
                clear A7 U7 B7
                obtain ⟨c, hc9, rfl, A7, U7, B7⟩ := hrel
                by_cases hlt4 : c < k
                · obtain ⟨x, hx, ex, hpos⟩ := H7.out r hlt3 c (by have := EK.out; omega)
                  have EX : Hid (Ls.nth (l0 r) c = x ∧ 0 < Ls.nth R5 x) := ⟨ex, hpos⟩
                  clear ex hpos
                  go_wp2_with fail
                  refine (at_ok g b n U m r c x R5 M4 l0 _ _ A7.out U7.out hlt3 (by rw [EK.out]; exact hlt4) EX.out.1 hx EX.out.2).mono ?_
                  rintro e w8 ⟨q8, rfl, _, hb8⟩
                  have Z8 : Hid (Below wr.heap.size wr w8) := hb8
                  clear hb8
                  go_wp2
                  go_roundw
                  case rel => exact ⟨c + 1, by omega, by go_num, A7.out.keep Z8.out, U7.out.keep Z8.out, below_then B7.out Z8.out⟩
                  case measure => simp [intOf]; omega
                · have ec : c = k := by omega
                  subst ec
                  go_wp2
                  go_roundw
                  case rel => exact ⟨r + 1, by omega, by go_num, A7.out, U7.out, B7.out⟩
                  case measure => simp [intOf]; omega
            · have er : r = m := by omega
              subst er
              go_wp2_with (go_at_call 7; refine (bkAwake_any _).mono ?_; rintro e w9 ⟨rfl, hb9⟩; have Z9 : Hid (Below wr.heap.size wr w9) := hb9; clear hb9)
              go_ret
              exact ⟨rfl, below_then B7.out Z9.out⟩

set_option maxRecDepth 100000 in
theorem lifted (os : Os) (started : os.Started) (H : Type) (enc : TypeId × Value → H) :
    ReturnsInHanded {} Try.checked os 5 .any (Rows.blockForksSpec.pre6 enc Try.prog Try.f5 Rows.blockForksRow.domain false) (Rows.blockForksSpec.post enc Try.prog Try.f5 false true false false) := by
  refine returnsInHanded_of_change (C := Try.checked) own started (by kernel_rfl) Try.func5
    (ChangeSpec.witness6 (enc := enc) (C := Try.checked) false ⟨#[], #[.int .i64 0, .int .i64 0, .slice none 0 0], []⟩ 8 (by kernel_rfl) (by kernel_rfl) (by kernel_rfl) (by kernel_rfl)) ?_
  intro W base args ds gs before hval0 hW hcnd _
  have hval : ∀ (j : Nat) t v, Try.f5.params[j]? = some t → args[j]? = some v → Value.okWide Try.prog W .any base t v := hval0
  have hW' := hW
  obtain ⟨p, q, hA0, hV, rfl, hfz, hnd⟩ := hW
  have hA : DataW.TrodAll enc Try.prog W 0 (fun _ => true) true Try.f5.params.toList args.toList ds p := hA0
  rw [Try.params5] at hA hval
  obtain ⟨v0, vs0, d0, ds0, p0, q0, hargs, rfl, rfl, h0, r0⟩ := trodAll_cons hA
  obtain ⟨v1, vs1, d1, ds1, p1, q1, rfl, rfl, rfl, h1, r1⟩ := trodAll_cons r0
  obtain ⟨v2, vs2, d2, ds2, p2, q2, rfl, rfl, rfl, h2, r2⟩ := trodAll_cons r1
  obtain ⟨rfl, rfl, rfl⟩ := trodAll_nil r2
  obtain rfl : args = #[v0, v1, v2] := by cases args; simp_all
  obtain ⟨rfl, rfl⟩ := trodVars_none hV
  obtain ⟨a0, rfl, rfl, rfl, w0⟩ := open_int Try.underlying3 (hval 0 3 v0 rfl rfl) h0
  obtain ⟨a1, rfl, rfl, rfl, w1⟩ := open_int Try.underlying3 (hval 1 3 v1 rfl rfl) h1
  obtain ⟨a2, len2, cap2, rfl⟩ := okWide_slice Try.underlying22 (hval 2 22 v2 rfl rfl)
  have k2 := h2
  have lt2 : ∀ x ∈ p2, x.block < W.heap.size := by obtain ⟨m, hm⟩ := k2; exact DataW.trod_lt m _ _ _ hm
  have w2 : IsCalls W a2 len2 cap2 := by
    obtain ⟨fuel, hf⟩ := h2
    exact open_calls Try.underlying22 Try.underlying27 Try.underlying3 (by kernel_rfl) (by kernel_rfl) rfl rfl rfl rfl rfl rfl rfl rfl (by simpa [Value.cells] using hf)
  clear hA0 hval0
  refine (walk a0 a1 a2 len2 cap2 W w0 w1 w2).mono fun e W' ⟨he, bel⟩ => ?_
  subst he
  exact ⟨_, rfl, _, _, _, [], _, [], hW', trodAll_mk1 (shut_bool Try.underlying4 _), (trodAll_cons_mk (shut_int Try.underlying3 w0) (trodAll_cons_mk (shut_int Try.underlying3 w1) (trodAll_cons_mk (Below.trod laidOut (by kernel_rfl) (of_decide_eq_true (by kernel_rfl)) k2 bel lt2) trodAll_mk0))), rfl, bel.frame _, fun h => by cases h⟩

theorem over : Rows.blockForksRow.holds Try.pinned (OpenSpec.ofChange Rows.blockForksSpec) :=
  OpenClaim.holds_of_wide 5 Try.f5 rfl rfl rfl rfl rfl rfl rfl ⟨rfl, rfl, rfl, rfl, rfl⟩ rfl rfl rfl rfl rfl (by kernel_rfl) Try.func5 (by kernel_rfl)
    (of_decide_eq_true (by kernel_rfl)) (by unfold Func.isWrapper; first | (rw [if_pos (by decide +kernel)]; kernel_rfl) | (rw [if_neg (by decide +kernel)]; exact ⟨rfl, rfl⟩))
    (fun os started H enc _ => lifted os started H enc)

theorem proved : Rows.BlockForksSaid := over
end Go.Proofs.Ytpifemahakbegaa.blockForks

namespace Go.Proofs.Ytpifemahakbegaa
theorem blockForks_holds : Rows.BlockForksSaid := blockForks.proved
#print axioms blockForks_holds
end Go.Proofs.Ytpifemahakbegaa
