/- Whatever was done, when all tables are cleared, all slots are free, and none is held; for every number of slots, rows and calls. -/
import Derived.Test.YtpifemahakbegaaRows
import Derived.Test.YtpifemahakbegaaBkB
import Derived.WalkKit
import Derived.ProofKit
import Derived.OpenShut
import Derived.ShutString
import Derived.ChangeOld
import Derived.Below
namespace Go.Proofs.Ytpifemahakbegaa.blockFrees
open Go.ChangeShapes Go.WideShapes Go.ChangeAt Go.RowKit
set_option linter.unusedVariables false

theorem own : ownKnob Try.prog.godebug = none := by kernel_rfl
theorem laidOut : laidOutB Try.prog = true := by kernel_rfl

/-- What the walk is told of a slice of integers that came in. -/
def IsRow (k : IntKind) (w : World) (a : Option Addr) (len cap : Nat) (zs : List Int) : Prop :=
  (a = none ∧ len = 0 ∧ cap = 0 ∧ zs = []) ∨
  ∃ x, a = some x ∧ len ≤ cap ∧ cap ≤ maxLen ∧ zs.length = cap ∧ (∀ i, i < zs.length → w.cell? (x.add i) = some (.int k (zs.getD i 0))) ∧ ∀ n ∈ zs, (Lit.int k n).wf = true

set_option maxRecDepth 100000 in
set_option maxHeartbeats 3200000 in
theorem walk (a0 : Int) (a1 : Int) (a2 : Option Addr) (len2 cap2 : Nat) (w : World) (w0 : (Lit.int .i64 a0).wf = true) (w1 : (Lit.int .i64 a1).wf = true) (w2 : IsCalls w a2 len2 cap2) :
    Calls Try.prog 4 #[.int .i64 a0, .int .i64 a1, .slice a2 len2 cap2] w fun e w' => e = .returned (.bool true) ∧ Below w.heap.size w w' := by
  -- depth
  obtain ⟨K, HKc, ML⟩ := calls_open w2
  have HC : Hid (Cls w a2 len2 K) := HKc
  have hz0 := bounds_i64 w0
  have hz1 := bounds_i64 w1
  unfold maxLen at ML
  clear w0 w1 w2 HKc
  by_cases hm : 50 < len2 ∨ a0 < 0 ∨ 60 < a0 ∨ a1 < 0 ∨ 16 < a1
  · by_cases q1 : 50 < len2 <;> by_cases q2 : a0 < 0 <;> by_cases q3 : 60 < a0 <;> by_cases q4 : a1 < 0 <;> by_cases q5 : 16 < a1
    all_goals first
      | (exfalso; omega)
      | (go_enter Try.func4, Try.ntmps4
         go_wp2_with (go_at_call 7; refine (bkAwake_any _).mono ?_; rintro e wa ⟨rfl, hba⟩)
         go_ret
         exact ⟨rfl, hba⟩)
  obtain ⟨n, rfl⟩ : ∃ n : Nat, a0 = n := ⟨a0.toNat, by omega⟩
  obtain ⟨m, rfl⟩ : ∃ m : Nat, a1 = m := ⟨a1.toNat, by omega⟩
  have hn : n ≤ 60 := by omega
  have hm16 : m ≤ 16 := by omega
  have hl1 : len2 ≤ 50 := by omega
  have g1 : decide ((50 : Int) < (len2 : Int)) = false := decide_eq_false (by omega)
  have g3 : decide ((60 : Int) < (n : Int)) = false := decide_eq_false (by omega)
  have g5 : decide ((16 : Int) < (m : Int)) = false := decide_eq_false (by omega)
  clear hm hz0 hz1 ML
  go_enter Try.func4, Try.ntmps4
  go_wp2_with (go_at_call 8; refine (begun_ok n m hn hm16 _).mono ?_; rintro e w1 ⟨P, rfl, hp, hb⟩; have P1 : Hid (PlayP w.heap.size w1 P n m 1 0) := hp; have B1 : Hid (Below w.heap.size w w1) := hb; clear hp hb)
  go_loopw [39] (fun i wq => ∃ (c k : Nat), c ≤ len2 ∧ i = .int .i64 c ∧ Hid (PlayP w.heap.size wq P n m k c) ∧ Hid (Below w.heap.size w wq)) (fun i _ => len2 - (intOf i).toNat)
  case atStart => exact ⟨0, 1, Nat.zero_le _, rfl, P1.out, B1.out⟩
  case round =>
    obtain ⟨c, k, hc, rfl, PR, BR⟩ := hrel
    by_cases hlt : c < len2
    · obtain ⟨ob, oo, e, k0, k1, k2, k3⟩ := (HC.out.keep BR.out) c hlt
      subst e
      obtain ⟨x0, x1, x2, x3, ek⟩ : ∃ a b d e, K c = (a, b, d, e) := ⟨(K c).1, (K c).2.1, (K c).2.2.1, (K c).2.2.2, rfl⟩
      rw [ek] at k0 k1 k2 k3
      have k0' : wr.cell? ⟨ob, oo + c * 4, none⟩ = some (.int .i64 x0) := k0
      have k1' : wr.cell? ⟨ob, oo + c * 4 + 1, none⟩ = some (.int .i64 x1) := k1
      have k2' : wr.cell? ⟨ob, oo + c * 4 + 2, none⟩ = some (.int .i64 x2) := k2
      have k3' : wr.cell? ⟨ob, oo + c * 4 + 3, none⟩ = some (.int .i64 x3) := k3
      clear k0 k1 k2 k3 ek
      go_wp2_with (go_at_call 9; refine (step_any w.heap.size P n m k c x0 x1 x2 x3 _ (PR.out.keep (box_below _ _)) (by omega) hm16 hn).mono ?_; rintro e w3 ⟨rfl, ⟨k', hp⟩, hb⟩; have P3 : Hid (PlayP w.heap.size w3 P n m k' (c + 1)) := hp; have B3 : Hid (Below w.heap.size w w3) := (BR.out.trans ((box_below _ _).mono BR.out.size)).trans hb; clear hp hb)
      go_roundw
      case rel => exact ⟨c + 1, k', by omega, by go_num, P3.out, B3.out⟩
      case measure => simp [intOf]; omega
    · have ec : c = len2 := by omega
      subst ec
      obtain ⟨g, b, R, M, s1, s2, va, vr, T, D, L, col, hC, hD, hB, hF, hG⟩ := PR.out
      have hk := hG.2.2.2.1
      have hk6 := hG.2.2.2.2
      obtain ⟨ab, ac, rb, rc, rfl, rfl, _⟩ := hB.cells hk
      obtain ⟨⟨_, _, _, p3, _⟩, _⟩ := pl_cells hB.1
      have C0 : Hid (Core wr n m k g b R M T L col) := hC
      have B0 : Hid (Box w.heap.size wr P g k s1 s2 (.slice (some ⟨ab, 0, none⟩) k ac) (.slice (some ⟨rb, 0, none⟩) k rc) T D col) := hB
      have F0 : Hid (Fresh w.heap.size wr col) := hF
      have G0 : Hid (Good n m k 60 R L) := hG.mono (by omega)
      clear hC hD hB hF hG PR
      go_wp2
      go_loopw [53] (fun i wq => ∃ (t : Nat) (R : List Int) (L : Nat → Nat → List Int), t ≤ k ∧ i = .int .i64 t ∧ Hid (Core wq n m k g b R M T L col) ∧ Hid (Box w.heap.size wq P g k s1 s2 (.slice (some ⟨ab, 0, none⟩) k ac) (.slice (some ⟨rb, 0, none⟩) k rc) T D col) ∧ Hid (Fresh w.heap.size wq col) ∧ Hid (Good n m k 60 R L ∧ ∀ i, i < t → L i = fun _ => []) ∧ Hid (Below w.heap.size w wq)) (fun i _ => k - (intOf i).toNat)
      case atStart => exact ⟨0, R, L, Nat.zero_le _, rfl, C0.out, B0.out, F0.out, ⟨G0.out, fun i hi => by omega⟩, BR.out⟩
      case round =>
        clear C0 B0 F0 G0 BR p3
        obtain ⟨t, R, L, ht, rfl, C0, B0, F0, G0, BR⟩ := hrel
        by_cases hlt2 : t < k
        · obtain ⟨_, _, _, _, ea, eb, tc, _, la, _⟩ := B0.out.cells hlt2
          cases ea
          cases eb
          go_wp2_with fail
          refine (clear_play w.heap.size P n m k 60 t g b R M s1 s2 _ _ T D L col _ C0.out B0.out F0.out G0.out.1 hlt2 hm16 (Nat.le_refl _)).mono ?_
          rintro e w4 ⟨rfl, R1, c1, b1, f1, g1, z1⟩
          have C1 : Hid (Core w4 n m k g b R1 M T (Bk.put L t (fun _ => [])) col) := c1
          have X1 : Hid (Box w.heap.size w4 P g k s1 s2 (.slice (some ⟨ab, 0, none⟩) k ac) (.slice (some ⟨rb, 0, none⟩) k rc) T D col) := b1
          have F1 : Hid (Fresh w.heap.size w4 col) := f1
          have G1 : Hid (Good n m k 60 R1 (Bk.put L t (fun _ => []))) := g1
          have Z1 : Hid (Below w.heap.size w w4) := BR.out.trans z1
          clear c1 b1 f1 g1 z1
          go_wp2_with fail
          refine (clear_play w.heap.size P n m k 60 t g b R1 M s1 s2 _ _ T D _ col _ C1.out X1.out F1.out G1.out hlt2 hm16 (Nat.le_refl _)).mono ?_
          rintro e w5 ⟨rfl, R2, c2, b2, f2, g2, z2⟩
          have C2 : Hid (Core w5 n m k g b R2 M T (Bk.put (Bk.put L t (fun _ => [])) t (fun _ => [])) col) := c2
          have X2 : Hid (Box w.heap.size w5 P g k s1 s2 (.slice (some ⟨ab, 0, none⟩) k ac) (.slice (some ⟨rb, 0, none⟩) k rc) T D col) := b2
          have F2 : Hid (Fresh w.heap.size w5 col) := f2
          have G2 : Hid (Good n m k 60 R2 (Bk.put (Bk.put L t (fun _ => [])) t (fun _ => []))) := g2
          have Z2 : Hid (Below w.heap.size w w5) := Z1.out.trans z2
          clear c2 b2 f2 g2 z2
          go_wp2_with fail
          refine (slots_any' g (T t) m 0 (fun _ => []) _ _ (by have := (C2.out.2.1 t hlt2).1; rw [Bk.put_at] at this; exact this) (by omega) (by unfold Bk.len; rw [Bk.flat_nil]; rfl) (by omega)).mono ?_
          rintro e w6 ⟨a, c, rfl, _, _, hb6⟩
          have Z6 : Hid (Below w5.heap.size w5 w6) := hb6
          clear hb6
          go_wp2
          go_roundw
          case rel =>
            refine ⟨t + 1, R2, _, by omega, by go_num, C2.out.keep Z6.out, X2.out.keep Z6.out, F2.out.keep Z6.out.size, ⟨G2.out, fun i hi => ?_⟩, Z2.out.trans (Z6.out.mono F2.out.2.2)⟩
            by_cases e : i = t
            · rw [e, Bk.put_at]
            · rw [Bk.put_off _ _ e, Bk.put_off _ _ e]; exact G0.out.2 i (by omega)
          case measure => simp [intOf]; omega
        · have et : t = k := by omega
          subst et
          obtain ⟨hcn, hus⟩ := G0.out.1.none C0.out.1.nums.2.1 G0.out.2
          have HN : Hid (Po.cnt R = n ∧ Po.used R = []) := ⟨hcn, hus⟩
          obtain ⟨⟨p0, _, _, _, _⟩, _⟩ := pl_cells B0.out.1
          clear hcn hus
          have plt : P < wr.heap.size := B0.out.1.lt
          go_wp2_with (first
            | (go_at_call 13; refine (free_any g b n n R M _ C0.out.1 HN.out.1).mono ?_; rintro e w' ⟨rfl, hww⟩; cases hww.symm; clear hww)
            | (go_at_call 14; refine (used_any g b n 0 R M _ C0.out.1 (by rw [HN.out.2]; rfl)).mono ?_; rintro e w7 ⟨au, cu, rfl, _, _, hb7⟩; have Z7 : Hid (Below wr.heap.size wr w7) := hb7; clear hb7)
            | (go_at_call 7; refine (bkAwake_any _).mono ?_; rintro e w8 ⟨rfl, hb8⟩; have Z8 : Hid (Below w7.heap.size w7 w8) := hb8; clear hb8))
          go_ret
          exact ⟨rfl, BR.out.trans ((Z7.out.mono F0.out.2.2).trans (Z8.out.mono (by have := F0.out.2.2; have := Z7.out.size; omega)))⟩

set_option maxRecDepth 100000 in
theorem lifted (os : Os) (started : os.Started) (H : Type) (enc : TypeId × Value → H) :
    ReturnsInHanded {} Try.checked os 4 .any (Rows.blockFreesSpec.pre6 enc Try.prog Try.f4 Rows.blockFreesRow.domain false) (Rows.blockFreesSpec.post enc Try.prog Try.f4 false true false false) := by
  refine returnsInHanded_of_change (C := Try.checked) own started (by kernel_rfl) Try.func4
    (ChangeSpec.witness6 (enc := enc) (C := Try.checked) false ⟨#[], #[.int .i64 0, .int .i64 0, .slice none 0 0], []⟩ 8 (by kernel_rfl) (by kernel_rfl) (by kernel_rfl) (by kernel_rfl)) ?_
  intro W base args ds gs before hval0 hW hcnd _
  have hval : ∀ (j : Nat) t v, Try.f4.params[j]? = some t → args[j]? = some v → Value.okWide Try.prog W .any base t v := hval0
  have hW' := hW
  obtain ⟨p, q, hA0, hV, rfl, hfz, hnd⟩ := hW
  have hA : DataW.TrodAll enc Try.prog W 0 (fun _ => true) true Try.f4.params.toList args.toList ds p := hA0
  rw [Try.params4] at hA hval
  obtain ⟨v0, vs0, d0, ds0, p0, q0, hargs, rfl, rfl, h0, r0⟩ := trodAll_cons hA
  obtain ⟨v1, vs1, d1, ds1, p1, q1, rfl, rfl, rfl, h1, r1⟩ := trodAll_cons r0
  obtain ⟨v2, vs2, d2, ds2, p2, q2, rfl, rfl, rfl, h2, r2⟩ := trodAll_cons r1
  obtain ⟨rfl, rfl, rfl⟩ := trodAll_nil r2
  obtain rfl : args = #[v0, v1, v2] := by cases args; simp_all
  obtain ⟨rfl, rfl⟩ := trodVars_none hV
  obtain ⟨a0, rfl, rfl, rfl, w0⟩ := open_int Try.underlying3 (hval 0 3 v0 rfl rfl) h0
  obtain ⟨a1, rfl, rfl, rfl, w1⟩ := open_int Try.underlying3 (hval 1 3 v1 rfl rfl) h1
  obtain ⟨a2, len2, cap2, rfl⟩ := okWide_slice Try.underlying22 (hval 2 22 v2 rfl rfl)
  have k2 := h2
  have lt2 : ∀ x ∈ p2, x.block < W.heap.size := by obtain ⟨m, hm⟩ := k2; exact DataW.trod_lt m _ _ _ hm
  have w2 : IsCalls W a2 len2 cap2 := by
    obtain ⟨fuel, hf⟩ := h2
    exact open_calls Try.underlying22 Try.underlying27 Try.underlying3 (by kernel_rfl) (by kernel_rfl) rfl rfl rfl rfl rfl rfl rfl rfl (by simpa [Value.cells] using hf)
  clear hA0 hval0
  refine (walk a0 a1 a2 len2 cap2 W w0 w1 w2).mono fun e W' ⟨he, bel⟩ => ?_
  subst he
  exact ⟨_, rfl, _, _, _, [], _, [], hW', trodAll_mk1 (shut_bool Try.underlying4 _), (trodAll_cons_mk (shut_int Try.underlying3 w0) (trodAll_cons_mk (shut_int Try.underlying3 w1) (trodAll_cons_mk (Below.trod laidOut (by kernel_rfl) (of_decide_eq_true (by kernel_rfl)) k2 bel lt2) trodAll_mk0))), rfl, bel.frame _, fun h => by cases h⟩

theorem over : Rows.blockFreesRow.holds Try.pinned (OpenSpec.ofChange Rows.blockFreesSpec) :=
  OpenClaim.holds_of_wide 4 Try.f4 rfl rfl rfl rfl rfl rfl rfl ⟨rfl, rfl, rfl, rfl, rfl⟩ rfl rfl rfl rfl rfl (by kernel_rfl) Try.func4 (by kernel_rfl)
    (of_decide_eq_true (by kernel_rfl)) (by unfold Func.isWrapper; first | (rw [if_pos (by decide +kernel)]; kernel_rfl) | (rw [if_neg (by decide +kernel)]; exact ⟨rfl, rfl⟩))
    (fun os started H enc _ => lifted os started H enc)

theorem proved : Rows.BlockFreesSaid := over
end Go.Proofs.Ytpifemahakbegaa.blockFrees

namespace Go.Proofs.Ytpifemahakbegaa
theorem blockFrees_holds : Rows.BlockFreesSaid := blockFrees.proved
#print axioms blockFrees_holds
end Go.Proofs.Ytpifemahakbegaa
