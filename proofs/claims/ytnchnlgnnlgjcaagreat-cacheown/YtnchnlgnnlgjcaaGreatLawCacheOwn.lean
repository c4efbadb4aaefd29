/- What is told of a cache is its own: spoilt, the cache stays as it is; where there is no such layer or head, nothing is told: for every case, whatever its slots, shape and calls are. -/
import Derived.Test.YtnchnlgnnlgjcaaGreatRows
import Derived.Test.YtnchnlgnnlgjcaaGreatCoCcOwn
import Derived.WalkKit
import Derived.ProofKit
import Derived.OpenShut
import Derived.ShutString
import Derived.ChangeOld
import Derived.Below
import Derived.SizedLaws
namespace Go.Proofs.YtnchnlgnnlgjcaaGreat.cacheOwn
open Go.ChangeShapes Go.WideShapes Go.ChangeAt Go.RowKit
set_option linter.unusedVariables false

theorem own : ownKnob Tryz.prog.godebug = none := by kernel_rfl
theorem laidOut : laidOutB Tryz.prog = true := by kernel_rfl

/-- What the walk is told of a slice of integers that came in. -/
def IsRow (k : IntKind) (w : World) (a : Option Addr) (len cap : Nat) (zs : List Int) : Prop :=
  (a = none ∧ len = 0 ∧ cap = 0 ∧ zs = []) ∨
  ∃ x, a = some x ∧ len ≤ cap ∧ cap ≤ maxLen ∧ zs.length = cap ∧ (∀ i, i < zs.length → w.cell? (x.add i) = some (.int k (zs.getD i 0))) ∧ ∀ n ∈ zs, (Lit.int k n).wf = true

set_option maxHeartbeats 800000 in
theorem walk (b00 : Int) (b01 : Int) (b02 : Int) (b03 : Int) (b04 : Int) (a05 : Option Addr) (len05 cap05 : Nat) (a06 : Option Addr) (len06 cap06 : Nat) (w : World) (w00 : (Lit.int .i64 b00).wf = true) (w01 : (Lit.int .i64 b01).wf = true) (w02 : (Lit.int .i64 b02).wf = true) (w03 : (Lit.int .i64 b03).wf = true) (w04 : (Lit.int .i64 b04).wf = true) (w05 : Cc.IsPairs w a05 len05 cap05) (w06 : Cc.IsOps w a06 len06 cap06) (wz : Cc.IsFit w a06 len06) :
    Calls Tryz.prog 6 #[.agg #[.int .i64 b00, .int .i64 b01, .int .i64 b02, .int .i64 b03, .int .i64 b04, .slice a05 len05 cap05, .slice a06 len06 cap06]] w fun e w' => e = .returned (.bool true) ∧ Below w.heap.size w w' := by
  obtain ⟨K, hO, hl⟩ := Cc.ops_open w06
  obtain ⟨ls, e, hP, hls⟩ := Cc.bits_open w05
  have hK := Cc.ops_short hO wz
  subst e
  exact Cc.own_any b00 b01 b02 b03 b04 a05 cap05 ls a06 len06 cap06 K w hO hl hP hls hK

set_option maxRecDepth 100000 in
set_option maxHeartbeats 3200000 in
theorem lifted (os : Os) (started : os.Started) (H : Type) (enc : TypeId × Value → H) :
    ReturnsInHanded {} Tryz.checked os 6 .any (Rows.cacheOwnSpec.pre6 enc Tryz.prog Tryz.f6 Rows.cacheOwnRow.domain false) (Rows.cacheOwnSpec.post enc Tryz.prog Tryz.f6 false true false false) := by
  refine returnsInHanded_of_change_sized (C := Tryz.checked) own started (by kernel_rfl) Tryz.func6
    (ChangeSpec.witness6 (enc := enc) (C := Tryz.checked) false ⟨#[], #[.agg #[.int .i64 0, .int .i64 0, .int .i64 0, .int .i64 0, .int .i64 0, .slice none 0 0, .slice none 0 0]], []⟩ 8 (by kernel_rfl) (by kernel_rfl) (by kernel_rfl) (by kernel_rfl)) ?_
  intro W base args ds gs before hval0 hW hcnd hsz0 _
  have hsz : (DataW.weightsEach Tryz.prog (Tryz.f6.params.toList ++ Rows.cacheOwnSpec.plain.varTypes Tryz.prog) (ds ++ gs)).all (· ≤ reachBytes) = true := hsz0
  have hval : ∀ (j : Nat) t v, Tryz.f6.params[j]? = some t → args[j]? = some v → Value.okWide Tryz.prog W .any base t v := hval0
  have hW' := hW
  obtain ⟨p, q, hA0, hV, rfl, hfz, hnd⟩ := hW
  have hA : DataW.TrodAll enc Tryz.prog W 0 (fun _ => true) true Tryz.f6.params.toList args.toList ds p := hA0
  rw [Tryz.params6] at hA hval hsz
  obtain ⟨v0, vs0, d0, ds0, p0, q0, hargs, rfl, rfl, h0, r0⟩ := trodAll_cons hA
  obtain ⟨rfl, rfl, rfl⟩ := trodAll_nil r0
  obtain rfl : args = #[v0] := by cases args; simp_all
  obtain ⟨rfl, rfl⟩ := trodVars_none hV
  obtain ⟨cs0, rfl, hsz0⟩ := okWide_struct Tryz.underlying29 (hval 0 29 v0 rfl rfl)
  have k0 := h0
  have lt0 : ∀ x ∈ p0, x.block < W.heap.size := by obtain ⟨m, hm⟩ := k0; exact DataW.trod_lt m _ _ _ hm
  rw [show Tryz.prog.cellsOf 29 = 7 by kernel_rfl] at hsz0
  obtain ⟨c00, c01, c02, c03, c04, c05, c06, rfl⟩ := cells7 hsz0
  obtain ⟨fuel0, hf0⟩ := h0
  have hg0 : DataW.trod enc Tryz.prog W 0 (fun _ => true) true fuel0 29 [c00, c01, c02, c03, c04, c05, c06] = some _ := hf0
  obtain ⟨n0f, hn0f⟩ := open_wide Tryz.underlying29 hg0
  obtain ⟨y0f0, hhy0f0⟩ := hn0f 0 _ rfl
  have hy0f0 : DataW.trod enc Tryz.prog W 0 (fun _ => true) true n0f 3 [c00] = some y0f0 := by
    have e : Tryz.prog.cellsOf 3 = 1 := by kernel_rfl
    have h : DataW.trod enc Tryz.prog W 0 (fun _ => true) true n0f 3 ((([c00, c01, c02, c03, c04, c05, c06] : List Value).drop 0).take (Tryz.prog.cellsOf 3)) = some y0f0 := hhy0f0
    rw [e] at h
    exact h
  obtain ⟨y0f1, hhy0f1⟩ := hn0f 1 _ rfl
  have hy0f1 : DataW.trod enc Tryz.prog W 0 (fun _ => true) true n0f 26 [c01, c02, c03, c04, c05] = some y0f1 := by
    have e : Tryz.prog.cellsOf 26 = 5 := by kernel_rfl
    have h : DataW.trod enc Tryz.prog W 0 (fun _ => true) true n0f 26 ((([c00, c01, c02, c03, c04, c05, c06] : List Value).drop 1).take (Tryz.prog.cellsOf 26)) = some y0f1 := hhy0f1
    rw [e] at h
    exact h
  obtain ⟨n0f1x, hn0f1x⟩ := open_wide Tryz.underlying26 hy0f1
  obtain ⟨y0f1x0, hhy0f1x0⟩ := hn0f1x 0 _ rfl
  have hy0f1x0 : DataW.trod enc Tryz.prog W 0 (fun _ => true) true n0f1x 3 [c01] = some y0f1x0 := by
    have e : Tryz.prog.cellsOf 3 = 1 := by kernel_rfl
    have h : DataW.trod enc Tryz.prog W 0 (fun _ => true) true n0f1x 3 ((([c01, c02, c03, c04, c05] : List Value).drop 0).take (Tryz.prog.cellsOf 3)) = some y0f1x0 := hhy0f1x0
    rw [e] at h
    exact h
  obtain ⟨y0f1x1, hhy0f1x1⟩ := hn0f1x 1 _ rfl
  have hy0f1x1 : DataW.trod enc Tryz.prog W 0 (fun _ => true) true n0f1x 3 [c02] = some y0f1x1 := by
    have e : Tryz.prog.cellsOf 3 = 1 := by kernel_rfl
    have h : DataW.trod enc Tryz.prog W 0 (fun _ => true) true n0f1x 3 ((([c01, c02, c03, c04, c05] : List Value).drop 1).take (Tryz.prog.cellsOf 3)) = some y0f1x1 := hhy0f1x1
    rw [e] at h
    exact h
  obtain ⟨y0f1x2, hhy0f1x2⟩ := hn0f1x 2 _ rfl
  have hy0f1x2 : DataW.trod enc Tryz.prog W 0 (fun _ => true) true n0f1x 24 [c03, c04, c05] = some y0f1x2 := by
    have e : Tryz.prog.cellsOf 24 = 3 := by kernel_rfl
    have h : DataW.trod enc Tryz.prog W 0 (fun _ => true) true n0f1x 24 ((([c01, c02, c03, c04, c05] : List Value).drop 2).take (Tryz.prog.cellsOf 24)) = some y0f1x2 := hhy0f1x2
    rw [e] at h
    exact h
  obtain ⟨n0f1x2x, hn0f1x2x⟩ := open_wide Tryz.underlying24 hy0f1x2
  obtain ⟨y0f1x2x0, hhy0f1x2x0⟩ := hn0f1x2x 0 _ rfl
  have hy0f1x2x0 : DataW.trod enc Tryz.prog W 0 (fun _ => true) true n0f1x2x 3 [c03] = some y0f1x2x0 := by
    have e : Tryz.prog.cellsOf 3 = 1 := by kernel_rfl
    have h : DataW.trod enc Tryz.prog W 0 (fun _ => true) true n0f1x2x 3 ((([c03, c04, c05] : List Value).drop 0).take (Tryz.prog.cellsOf 3)) = some y0f1x2x0 := hhy0f1x2x0
    rw [e] at h
    exact h
  obtain ⟨y0f1x2x1, hhy0f1x2x1⟩ := hn0f1x2x 1 _ rfl
  have hy0f1x2x1 : DataW.trod enc Tryz.prog W 0 (fun _ => true) true n0f1x2x 3 [c04] = some y0f1x2x1 := by
    have e : Tryz.prog.cellsOf 3 = 1 := by kernel_rfl
    have h : DataW.trod enc Tryz.prog W 0 (fun _ => true) true n0f1x2x 3 ((([c03, c04, c05] : List Value).drop 1).take (Tryz.prog.cellsOf 3)) = some y0f1x2x1 := hhy0f1x2x1
    rw [e] at h
    exact h
  obtain ⟨y0f1x2x2, hhy0f1x2x2⟩ := hn0f1x2x 2 _ rfl
  have hy0f1x2x2 : DataW.trod enc Tryz.prog W 0 (fun _ => true) true n0f1x2x 22 [c05] = some y0f1x2x2 := by
    have e : Tryz.prog.cellsOf 22 = 1 := by kernel_rfl
    have h : DataW.trod enc Tryz.prog W 0 (fun _ => true) true n0f1x2x 22 ((([c03, c04, c05] : List Value).drop 2).take (Tryz.prog.cellsOf 22)) = some y0f1x2x2 := hhy0f1x2x2
    rw [e] at h
    exact h
  obtain ⟨y0f2, hhy0f2⟩ := hn0f 2 _ rfl
  have hy0f2 : DataW.trod enc Tryz.prog W 0 (fun _ => true) true n0f 27 [c06] = some y0f2 := by
    have e : Tryz.prog.cellsOf 27 = 1 := by kernel_rfl
    have h : DataW.trod enc Tryz.prog W 0 (fun _ => true) true n0f 27 ((([c00, c01, c02, c03, c04, c05, c06] : List Value).drop 6).take (Tryz.prog.cellsOf 27)) = some y0f2 := hhy0f2
    rw [e] at h
    exact h
  obtain ⟨b00, e00, _, w00⟩ := DataW.trod_int Tryz.underlying3 hy0f0
  simp only [List.cons.injEq, and_true] at e00
  subst e00
  obtain ⟨b01, e01, _, w01⟩ := DataW.trod_int Tryz.underlying3 hy0f1x0
  simp only [List.cons.injEq, and_true] at e01
  subst e01
  obtain ⟨b02, e02, _, w02⟩ := DataW.trod_int Tryz.underlying3 hy0f1x1
  simp only [List.cons.injEq, and_true] at e02
  subst e02
  obtain ⟨b03, e03, _, w03⟩ := DataW.trod_int Tryz.underlying3 hy0f1x2x0
  simp only [List.cons.injEq, and_true] at e03
  subst e03
  obtain ⟨b04, e04, _, w04⟩ := DataW.trod_int Tryz.underlying3 hy0f1x2x1
  simp only [List.cons.injEq, and_true] at e04
  subst e04
  obtain ⟨a05, len05, cap05, e05, w05⟩ := Cc.pairs_in hy0f1x2x2
  subst e05
  obtain ⟨a06, len06, cap06, e06, w06⟩ := Cc.ops_in hy0f2
  subst e06
  have wz : Cc.IsFit W a06 len06 := Cc.case_fit hg0 fun n hn => by
    have h2 := List.all_eq_true.1 hsz n (DataW.weights_mem_each (j := 0) rfl rfl n hn)
    exact of_decide_eq_true h2
  clear hA0 hval0
  refine (walk b00 b01 b02 b03 b04 a05 len05 cap05 a06 len06 cap06 W w00 w01 w02 w03 w04 w05 w06 wz).mono fun e W' ⟨he, bel⟩ => ?_
  subst he
  exact ⟨_, rfl, _, _, _, [], _, [], hW', trodAll_mk1 (shut_bool Tryz.underlying4 _), (trodAll_cons_mk (Below.trod laidOut (by kernel_rfl) (of_decide_eq_true (by kernel_rfl)) k0 bel lt0) trodAll_mk0), rfl, bel.frame _, fun h => by cases h⟩

theorem over : Rows.cacheOwnRow.holds Tryz.pinned (OpenSpec.ofChange Rows.cacheOwnSpec) :=
  OpenClaim.holds_of_wide 6 Tryz.f6 rfl rfl rfl rfl rfl rfl rfl ⟨rfl, rfl, rfl, rfl, rfl⟩ rfl rfl rfl rfl rfl (by kernel_rfl) Tryz.func6 (by kernel_rfl)
    (of_decide_eq_true (by kernel_rfl)) (by unfold Func.isWrapper; first | (rw [if_pos (by decide +kernel)]; kernel_rfl) | (rw [if_neg (by decide +kernel)]; exact ⟨rfl, rfl⟩))
    (fun os started H enc _ => lifted os started H enc)

theorem proved : Rows.CacheOwnSaid := over
end Go.Proofs.YtnchnlgnnlgjcaaGreat.cacheOwn

namespace Go.Proofs.YtnchnlgnnlgjcaaGreat
theorem cacheOwn_holds : Rows.CacheOwnSaid := cacheOwn.proved
#print axioms cacheOwn_holds
end Go.Proofs.YtnchnlgnnlgjcaaGreat
