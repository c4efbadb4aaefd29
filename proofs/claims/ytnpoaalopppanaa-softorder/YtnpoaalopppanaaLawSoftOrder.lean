/- A greater score never has a lesser weight, and the order of the lists plays no part in the mean: SoftOrder answers true for every input. -/
import Derived.Test.YtnpoaalopppanaaRows
import Derived.Test.YtnpoaalopppanaaSfTwo
import Derived.Deep.RegionWith
import Derived.WalkKit
import Derived.ProofKit
import Derived.OpenShut
import Derived.ShutString
import Derived.ChangeOld
import Derived.Below
namespace Go.Proofs.Ytnpoaalopppanaa.softOrder
open Go.ChangeShapes Go.WideShapes Go.ChangeAt Go.RowKit
set_option linter.unusedVariables false

theorem own : ownKnob Try.prog.godebug = none := by kernel_rfl
theorem laidOut : laidOutB Try.prog = true := by kernel_rfl

/-- What the walk is told of a slice of integers that came in. -/
def IsRow (k : IntKind) (w : World) (a : Option Addr) (len cap : Nat) (zs : List Int) : Prop :=
  (a = none ∧ len = 0 ∧ cap = 0 ∧ zs = []) ∨
  ∃ x, a = some x ∧ len ≤ cap ∧ cap ≤ maxLen ∧ zs.length = cap ∧ (∀ i, i < zs.length → w.cell? (x.add i) = some (.int k (zs.getD i 0))) ∧ ∀ n ∈ zs, (Lit.int k n).wf = true

set_option maxRecDepth 100000 in
set_option maxHeartbeats 3200000 in
theorem walk (a0 : Option Addr) (len0 cap0 : Nat) (z0 : List Int) (a1 : Option Addr) (len1 cap1 : Nat) (w : World) (w0 : IsRow .i32 w a0 len0 cap0 z0) (w1 : IsTable w a1 len1 cap1) :
    Calls Try.prog 7 #[.slice a0 len0 cap0, .slice a1 len1 cap1] w fun e w' => e = .returned (.bool true) ∧ Below w.heap.size w w' := by
  -- depth
  obtain ⟨x, hx, LX, IX, MX, CX, DX, _⟩ := row_open w0
  obtain ⟨ls, hls, TL, IL, ML, _⟩ := table_open w1
  subst hx hls
  have HX : Hid (Lst .i32 w a0 x) := LX
  have JX : Hid (Ls.In32 x) := IX
  have HT : Hid (Tbl w a1 ls) := TL
  have NL : Hid (ls.length ≤ maxLen) := ML
  clear w0 w1 LX MX DX CX TL IL ML IX
  by_cases h1 : x.length = 0
  · go_enter Try.func7, Try.ntmps7
    go_wp2_with (go_at_call 8; refine (sfAwake_any _).mono ?_; rintro e wa ⟨rfl, hb⟩)
    go_ret
    exact ⟨rfl, hb⟩
  by_cases h2 : 40 < x.length
  · go_enter Try.func7, Try.ntmps7
    go_wp2_with (go_at_call 8; refine (sfAwake_any _).mono ?_; rintro e wa ⟨rfl, hb⟩)
    go_ret
    exact ⟨rfl, hb⟩
  have g0 : ((x.length : Int) == 0) = false := beq_eq_false_iff_ne.2 (by omega)
  have g1 : decide (40 < (x.length : Int)) = false := by simp; omega
  by_cases h3 : ls.length = x.length
  case neg =>
    have g2 : ((ls.length : Int) != (x.length : Int)) = true := bne_iff_ne.2 (by omega)
    go_enter Try.func7, Try.ntmps7
    go_wp2_with (go_at_call 8; refine (sfAwake_any _).mono ?_; rintro e wa ⟨rfl, hb⟩)
    go_ret
    exact ⟨rfl, hb⟩
  have hp : 0 < x.length := by omega
  have hpl : 0 < ls.length := by omega
  have hl : x.length ≤ 40 := by omega
  have hll : ls.length ≤ 40 := by omega
  have HXL : Hid (ls.length = x.length) := h3
  have hxl1 : x.length ≤ ls.length := by omega
  have hxl2 : ls.length ≤ x.length := by omega
  have g2 : ((ls.length : Int) != (x.length : Int)) = false := by simp; omega
  clear h1 h2 h3
  have EL : Hid ((Tb.weights x).length = x.length) := Tb.weights_length x
  by_cases hr : Tb.right (Tb.weights x) ls = 0
  case neg =>
    obtain ⟨z, ez⟩ : ∃ z, Tb.right (Tb.weights x) ls = z := ⟨_, rfl⟩
    have hz : (z != 0) = true := bne_iff_ne.2 (by rw [← ez]; exact hr)
    have EZ : Hid (Tb.right (Tb.weights x) ls = z) := ez
    clear hr ez
    go_enter Try.func7, Try.ntmps7
    go_wp2_with fail
    refine (refWeights_any _ _ _ _ HX.out hp (by omega) JX.out).mono ?_
    rintro e u1 ⟨v1, rfl, h2, hB⟩
    obtain ⟨a2, c2, rfl, h3⟩ := lst_of_ownm h2 EL.out.symm
    have W1 : Hid (Below w.heap.size w u1) := hB
    have T1 : Hid (Tbl u1 a1 ls) := HT.out.keep hB
    have R1 : Hid (Lst .i64 u1 a2 (Tb.weights x)) := h3
    clear hB h2 h3 HX HT
    go_wp2_with fail
    refine (refRight_anym _ _ _ _ _ _ _ _ EL.out.symm R1.out T1.out (by rw [EL.out]; unfold maxLen; omega) NL.out).mono ?_
    rintro e u2 ⟨rfl, n2, hw2⟩
    rw [EZ.out]
    have W2 : Hid (Below w.heap.size w u2) := by show Below _ _ _; rw [hw2]; exact below_drewN W1.out n2
    clear hw2 W1 T1 R1
    go_wp2_with (go_at_call 8; refine (sfAwake_any _).mono ?_; rintro e wa ⟨rfl, hb⟩)
    go_ret
    exact ⟨rfl, below_then W2.out hb⟩
  have HR : Hid (Tb.right (Tb.weights x) ls = 0) := hr
  obtain ⟨hs, hf⟩ := Tb.right_zero hr
  have HS : Hid (Tb.shape (Tb.weights x).length ls = 0) := hs
  have HF : Hid (Tb.fit (Tb.weights x) ls = true) := hf
  clear hr hs hf
  go_enter Try.func7, Try.ntmps7
  go_wp2_with fail
  refine (refWeights_any _ _ _ _ HX.out hp (by omega) JX.out).mono ?_
  rintro e u1 ⟨v1, rfl, h2, hB⟩
  obtain ⟨a2, c2, rfl, h3⟩ := lst_of_ownm h2 EL.out.symm
  have W1 : Hid (Below w.heap.size w u1) := hB
  have X1 : Hid (Lst .i32 u1 a0 x) := HX.out.keep hB
  have T1 : Hid (Tbl u1 a1 ls) := HT.out.keep hB
  have R1 : Hid (Lst .i64 u1 a2 (Tb.weights x)) := h3
  clear hB h2 h3 HX HT
  go_wp2_with fail
  refine (refRight_anym _ _ _ _ _ _ _ _ EL.out.symm R1.out T1.out (by rw [EL.out]; unfold maxLen; omega) NL.out).mono ?_
  rintro e u2 ⟨rfl, n2, hw2⟩
  rw [HR.out]
  have hB : Below u1.heap.size u1 u2 := by rw [hw2]; exact below_drewN (Below.refl _ _) n2
  have W2 : Hid (Below w.heap.size w u2) := below_then W1.out hB
  have X2 : Hid (Lst .i32 u2 a0 x) := X1.out.keep hB
  have T2 : Hid (Tbl u2 a1 ls) := T1.out.keep hB
  clear hw2 hB W1 T1 R1 X1 HR
  go_wp2_with fail
  refine (weights_ok _ _ _ _ X2.out hp (by omega) JX.out).mono ?_
  rintro e u3 ⟨gw, rfl, _, h1, hB⟩
  have W3 : Hid (Below w.heap.size w u3) := below_then W2.out hB
  have X3 : Hid (Lst .i32 u3 a0 x) := X2.out.keep hB
  have T3 : Hid (Tbl u3 a1 ls) := T2.out.keep hB
  have P3 : Hid (Lst .i64 u3 (some ⟨gw, 0, none⟩) (Tb.weights x)) := h1
  clear hB h1 W2 X2 T2
  obtain ⟨bt, ot, A, C, rfl, hct⟩ := Tbl.funs T3.out hpl
  have HC : Hid (∀ j, j < ls.length → u3.cell? ⟨bt, ot + j, none⟩ = some (.slice (A j) (Tb.row ls j).length (C j)) ∧ Lst .i32 u3 (A j) (Tb.row ls j) ∧ (Tb.row ls j).length ≤ maxLen) := hct
  clear hct
  obtain ⟨b0, o0, rfl, hc0⟩ := X3.out.get hp
  have HD : Hid (∀ j, j < x.length → u3.cell? ⟨b0, o0 + j, none⟩ = some (.int .i32 (Ls.nth x j))) := hc0
  clear hc0
  obtain ⟨i0, hi0, hz0, hz1, hz2⟩ := info_parts Try.infoInt
  obtain ⟨j0, hj0, hy0, hy1, hy2⟩ := info_parts Try.infoRow
  go_wp2
  clear g0 g1 g2
  go_loopw [7, 8, 54] (fun v t i wr => ∃ k : Nat, k ≤ x.length ∧ i = .int .i64 k ∧ wr.ownsRow u3.heap.size 3 1 v k ((Ls.gen k fun i => Ls.nth (Tb.weights x) (x.length - 1 - i)).map (Value.int .i64)) ∧
    wr.ownsRow u3.heap.size 22 1 t k ((List.range k).map fun i => Value.slice (A (x.length - 1 - i)) (Tb.row ls (x.length - 1 - i)).length (C (x.length - 1 - i))) ∧ Apart t v ∧ Below u3.heap.size u3 wr) (fun _ _ i _ => x.length - (intOf i).toNat)
  case atStart => exact ⟨0, Nat.zero_le _, rfl, World.ownsRow_nil _ _ _ _, World.ownsRow_nil _ _ _ _, .inl rfl, Below.refl _ _⟩
  case round =>
    obtain ⟨k, hk, rfl, hown7, hown8, hap, hbel⟩ := hrel
    have H7 : Hid (wr.ownsRow u3.heap.size 3 1 u7 k ((Ls.gen k fun i => Ls.nth (Tb.weights x) (x.length - 1 - i)).map (Value.int .i64))) := hown7
    have H8 : Hid (wr.ownsRow u3.heap.size 22 1 u8 k ((List.range k).map fun i => Value.slice (A (x.length - 1 - i)) (Tb.row ls (x.length - 1 - i)).length (C (x.length - 1 - i)))) := hown8
    have HAP : Hid (Apart u8 u7) := hap
    have HB : Hid (Below u3.heap.size u3 wr) := hbel
    have hsz := hbel.size
    clear hown7 hown8 hap hbel
    by_cases hlt : k < x.length
    · obtain ⟨j, ej⟩ : ∃ j, j = x.length - 1 - k := ⟨_, rfl⟩
      have EJ : Hid (j = x.length - 1 - k) := ej
      have hjx : j < x.length := by omega
      have hjl : j < ls.length := by omega
      have ej2 : (x.length : Int) - 1 - (k : Int) = (j : Int) := by omega
      clear ej
      have hk1 := P3.out.cell0 (i := j) (by rw [EL.out]; exact hjx)
      have hk2 := (HC.out j hjl).1
      have l1 : gw < u3.heap.size := World.block_lt_of_cell? u3 ⟨gw, j, none⟩ hk1
      have l2 : bt < u3.heap.size := World.block_lt_of_cell? u3 ⟨bt, ot + j, none⟩ hk2
      have hck1 : wr.cell? ⟨gw, j, none⟩ = some (.int .i64 (Ls.nth (Tb.weights x) j)) := by rw [HB.out.cell (p := ⟨gw, j, none⟩) l1]; exact hk1
      have hck2 : wr.cell? ⟨bt, ot + j, none⟩ = some (.slice (A j) (Tb.row ls j).length (C j)) := by rw [HB.out.cell (p := ⟨bt, ot + j, none⟩) l2]; exact hk2
      clear hk1 hk2
      obtain ⟨y, ey⟩ : ∃ y, Ls.nth (Tb.weights x) j = y := ⟨_, rfl⟩
      rw [ey] at hck1
      have EY : Hid (Ls.nth (Tb.weights x) j = y) := ey
      clear ey
      obtain ⟨m, em⟩ : ∃ m, (Tb.row ls j).length = m := ⟨_, rfl⟩
      rw [em] at hck2
      have EM : Hid ((Tb.row ls j).length = m) := em
      clear em
      obtain ⟨Aj, eA⟩ : ∃ q, A j = q := ⟨_, rfl⟩
      obtain ⟨Cj, eC⟩ : ∃ q, C j = q := ⟨_, rfl⟩
      rw [eA, eC] at hck2
      have EA : Hid (A j = Aj) := eA
      have EC : Hid (C j = Cj) := eC
      clear eA eC
      have f1 : some gw ≠ u7.ownBlock := own_farG H7.out l1
      have f2 : some bt ≠ u7.ownBlock := own_farG H7.out l2
      have f3 : some gw ≠ u8.ownBlock := own_farG H8.out l1
      have f4 : some bt ≠ u8.ownBlock := own_farG H8.out l2
      have F1 : Hid (some gw ≠ u7.ownBlock) := f1
      have F2 : Hid (some bt ≠ u7.ownBlock) := f2
      have F3 : Hid (some gw ≠ u8.ownBlock) := f3
      have F4 : Hid (some bt ≠ u8.ownBlock) := f4
      clear f1 f2 f3 f4
      have e0 : (0 : Int) ≤ (j : Int) := by omega
      have e1 : (j : Int) < (x.length : Int) := by omega
      have e2 : (j : Int) < (ls.length : Int) := by omega
      go_wp2_with fail
      go_region_held3 (fun w' => w'.cell? ⟨gw, j, none⟩ = some (.int .i64 y) ∧ w'.cell? ⟨bt, ot + j, none⟩ = some (.slice Aj m Cj))
        (first
          | go_keep
          | (go_split_ands
             refine ⟨?_, ?_⟩
             · (rw [hgrow2.cell_far _ (by simp; omega) F3.out]; assumption)
             · (rw [hgrow2.cell_far _ (by simp; omega) F4.out]; assumption))
          | (go_split_ands
             refine ⟨?_, ?_⟩
             · (rw [hgrow.cell_far _ (by simp; omega) F1.out]; assumption)
             · (rw [hgrow.cell_far _ (by simp; omega) F2.out]; assumption)))
        (first
          | (refine step_append_lies _ (by rfl) _ _ _ (by rfl) u3.heap.size 3 i0 _ 1 8 Try.underlying24 hi0 hz0 hz1 hz2 rfl (by omega) _ k _ (by rfl) ((H7.out.alloc _).drew) ⟨wr.heap.size, 0, none⟩ 1 1 [.int .i64 y] (by rfl) (by rfl) (World.news_of_block (cs := #[.int .i64 y]) (t := 3) (fr := (0, 0)) (heap_alloc_new wr _)) (by simp [Value.oneCell']) (by omega) (by unfold maxLen; omega) (by omega) (by simp; omega) (wr.heap.size + 1) (by simp) ?_; intro g7 cap7 w1 h7 hgrow hat7 hlt7
             have hs1 : wr.heap.size < w1.heap.size := by have := hgrow.size; simp at this; omega
             have K8 : Hid (w1.ownsRow u3.heap.size 22 1 u8 k ((List.range k).map (fun i => Value.slice (A (x.length - 1 - i)) (Tb.row ls (x.length - 1 - i)).length (C (x.length - 1 - i))))) := ((H8.out.alloc _).drew).kept hgrow HAP.out
             have G8 : Hid (some g7 ≠ u8.ownBlock) := apart_new H8.out HAP.out hat7 (by omega)
             have KB : Hid (Below u3.heap.size u3 w1) := ((HB.out.alloc (by omega) _).drew).grown hgrow (by simp; omega) (fun q hq => (H7.out.lt q hq).1)
             have K7 : Hid (w1.ownsRow u3.heap.size 3 1 (.slice (some ⟨g7, 0, none⟩) (k + 1) cap7) (k + 1) (((Ls.gen k fun i => Ls.nth (Tb.weights x) (x.length - 1 - i)).map (Value.int .i64)) ++ [.int .i64 y])) := h7
             clear h7 hat7)
          | (refine step_append_lies _ (by rfl) _ _ _ (by rfl) u3.heap.size 3 i0 _ 1 8 Try.underlying24 hi0 hz0 hz1 hz2 rfl (by omega) _ k _ (by rfl) (((H7.out.alloc _).alloc _).drew) ⟨wr.heap.size, 0, none⟩ 1 1 [.int .i64 y] (by rfl) (by rfl) (World.news_of_block (cs := #[.int .i64 y]) (t := 3) (fr := (0, 0)) (heap_two wr _ _)) (by simp [Value.oneCell']) (by omega) (by unfold maxLen; omega) (by omega) (by simp; omega) (wr.heap.size + 1 + 1) (by simp) ?_; intro g7 cap7 w1 h7 hgrow hat7 hlt7
             have hs1 : wr.heap.size < w1.heap.size := by have := hgrow.size; simp at this; omega
             have K8 : Hid (w1.ownsRow u3.heap.size 22 1 u8 k ((List.range k).map (fun i => Value.slice (A (x.length - 1 - i)) (Tb.row ls (x.length - 1 - i)).length (C (x.length - 1 - i))))) := (((H8.out.alloc _).alloc _).drew).kept hgrow HAP.out
             have G8 : Hid (some g7 ≠ u8.ownBlock) := apart_new H8.out HAP.out hat7 (by omega)
             have KB : Hid (Below u3.heap.size u3 w1) := (((HB.out.alloc (by omega) _).alloc (by simp; omega) _).drew).grown hgrow (by simp; omega) (fun q hq => (H7.out.lt q hq).1)
             have K7 : Hid (w1.ownsRow u3.heap.size 3 1 (.slice (some ⟨g7, 0, none⟩) (k + 1) cap7) (k + 1) (((Ls.gen k fun i => Ls.nth (Tb.weights x) (x.length - 1 - i)).map (Value.int .i64)) ++ [.int .i64 y])) := h7
             have N8 : Hid (w1.heap[wr.heap.size + 1]? = some (.cells #[.slice Aj m Cj] 22)) := (hgrow.block _ (by simp) (own_past H7.out (by omega))).trans (heap_snd wr _ _)
             clear h7 hat7)
          | (refine step_append_lies _ (by rfl) _ _ _ (by rfl) u3.heap.size 3 i0 _ 1 8 Try.underlying24 hi0 hz0 hz1 hz2 rfl (by omega) _ k _ (by rfl) (((H7.out.alloc _).alloc _).drew) ⟨wr.heap.size + 1, 0, none⟩ 1 1 [.int .i64 y] (by rfl) (by rfl) (World.news_of_block (cs := #[.int .i64 y]) (t := 3) (fr := (0, 0)) (heap_snd wr _ _)) (by simp [Value.oneCell']) (by omega) (by unfold maxLen; omega) (by omega) (by simp; omega) (wr.heap.size + 1 + 1) (by simp) ?_; intro g7 cap7 w1 h7 hgrow hat7 hlt7
             have hs1 : wr.heap.size < w1.heap.size := by have := hgrow.size; simp at this; omega
             have K8 : Hid (w1.ownsRow u3.heap.size 22 1 u8 k ((List.range k).map (fun i => Value.slice (A (x.length - 1 - i)) (Tb.row ls (x.length - 1 - i)).length (C (x.length - 1 - i))))) := (((H8.out.alloc _).alloc _).drew).kept hgrow HAP.out
             have G8 : Hid (some g7 ≠ u8.ownBlock) := apart_new H8.out HAP.out hat7 (by omega)
             have KB : Hid (Below u3.heap.size u3 w1) := (((HB.out.alloc (by omega) _).alloc (by simp; omega) _).drew).grown hgrow (by simp; omega) (fun q hq => (H7.out.lt q hq).1)
             have K7 : Hid (w1.ownsRow u3.heap.size 3 1 (.slice (some ⟨g7, 0, none⟩) (k + 1) cap7) (k + 1) (((Ls.gen k fun i => Ls.nth (Tb.weights x) (x.length - 1 - i)).map (Value.int .i64)) ++ [.int .i64 y])) := h7
             have N8 : Hid (w1.heap[wr.heap.size]? = some (.cells #[.slice Aj m Cj] 22)) := (hgrow.block _ (by simp; omega) (own_past H7.out (by omega))).trans (heap_two wr _ _)
             clear h7 hat7)
          | (refine step_append_lies _ (by rfl) _ _ _ (by rfl) u3.heap.size 22 j0 _ 1 24 Try.underlying33 hj0 hy0 hy1 hy2 rfl (by omega) _ k _ (by rfl) (K8.out.alloc _) ⟨w1.heap.size, 0, none⟩ 1 1 [.slice Aj m Cj] (by rfl) (by rfl) (World.news_of_block (cs := #[.slice Aj m Cj]) (t := 22) (fr := (0, 0)) (heap_alloc_new w1 _)) (by simp [Value.oneCell']) (by omega) (by unfold maxLen; omega) (by omega) (by first | omega | (simp; omega)) (w1.heap.size + 1) (by first | rfl | simp) ?_; intro g8 cap8 w2 h8 hgrow2 hat8 hlt8
             have KK7 : Hid (w2.ownsRow u3.heap.size 3 1 (.slice (some ⟨g7, 0, none⟩) (k + 1) cap7) (k + 1) (((Ls.gen k fun i => Ls.nth (Tb.weights x) (x.length - 1 - i)).map (Value.int .i64)) ++ [.int .i64 y])) := (K7.out.alloc _).kept hgrow2 (.inr G8.out)
             have KAP : Hid (Apart (.slice (some ⟨g8, 0, none⟩) (k + 1) cap8) (.slice (some ⟨g7, 0, none⟩) (k + 1) cap7)) := apart_next G8.out hat8 hlt7 (by omega)
             have KKB : Hid (Below u3.heap.size u3 w2) := (KB.out.alloc (by omega) _).grown hgrow2 (by first | omega | (simp; omega)) (fun q hq => (K8.out.lt q hq).1)
             have KK8 : Hid (w2.ownsRow u3.heap.size 22 1 (.slice (some ⟨g8, 0, none⟩) (k + 1) cap8) (k + 1) ((List.range k).map (fun i => Value.slice (A (x.length - 1 - i)) (Tb.row ls (x.length - 1 - i)).length (C (x.length - 1 - i))) ++ [.slice Aj m Cj])) := h8
             clear h8 hat8)
          | (refine step_append_lies _ (by rfl) _ _ _ (by rfl) u3.heap.size 22 j0 _ 1 24 Try.underlying33 hj0 hy0 hy1 hy2 rfl (by omega) _ k _ (by rfl) K8.out ⟨wr.heap.size + 1, 0, none⟩ 1 1 [.slice Aj m Cj] (by rfl) (by rfl) (World.news_of_block (cs := #[.slice Aj m Cj]) (t := 22) (fr := (0, 0)) (N8.out)) (by simp [Value.oneCell']) (by omega) (by unfold maxLen; omega) (by omega) (by first | omega | (simp; omega)) (w1.heap.size) (by first | rfl | simp) ?_; intro g8 cap8 w2 h8 hgrow2 hat8 hlt8
             have KK7 : Hid (w2.ownsRow u3.heap.size 3 1 (.slice (some ⟨g7, 0, none⟩) (k + 1) cap7) (k + 1) (((Ls.gen k fun i => Ls.nth (Tb.weights x) (x.length - 1 - i)).map (Value.int .i64)) ++ [.int .i64 y])) := K7.out.kept hgrow2 (.inr G8.out)
             have KAP : Hid (Apart (.slice (some ⟨g8, 0, none⟩) (k + 1) cap8) (.slice (some ⟨g7, 0, none⟩) (k + 1) cap7)) := apart_next G8.out hat8 hlt7 (by omega)
             have KKB : Hid (Below u3.heap.size u3 w2) := KB.out.grown hgrow2 (by first | omega | (simp; omega)) (fun q hq => (K8.out.lt q hq).1)
             have KK8 : Hid (w2.ownsRow u3.heap.size 22 1 (.slice (some ⟨g8, 0, none⟩) (k + 1) cap8) (k + 1) ((List.range k).map (fun i => Value.slice (A (x.length - 1 - i)) (Tb.row ls (x.length - 1 - i)).length (C (x.length - 1 - i))) ++ [.slice Aj m Cj])) := h8
             clear h8 hat8)
          | (refine step_append_lies _ (by rfl) _ _ _ (by rfl) u3.heap.size 22 j0 _ 1 24 Try.underlying33 hj0 hy0 hy1 hy2 rfl (by omega) _ k _ (by rfl) K8.out ⟨wr.heap.size, 0, none⟩ 1 1 [.slice Aj m Cj] (by rfl) (by rfl) (World.news_of_block (cs := #[.slice Aj m Cj]) (t := 22) (fr := (0, 0)) (N8.out)) (by simp [Value.oneCell']) (by omega) (by unfold maxLen; omega) (by omega) (by first | omega | (simp; omega)) (w1.heap.size) (by first | rfl | simp) ?_; intro g8 cap8 w2 h8 hgrow2 hat8 hlt8
             have KK7 : Hid (w2.ownsRow u3.heap.size 3 1 (.slice (some ⟨g7, 0, none⟩) (k + 1) cap7) (k + 1) (((Ls.gen k fun i => Ls.nth (Tb.weights x) (x.length - 1 - i)).map (Value.int .i64)) ++ [.int .i64 y])) := K7.out.kept hgrow2 (.inr G8.out)
             have KAP : Hid (Apart (.slice (some ⟨g8, 0, none⟩) (k + 1) cap8) (.slice (some ⟨g7, 0, none⟩) (k + 1) cap7)) := apart_next G8.out hat8 hlt7 (by omega)
             have KKB : Hid (Below u3.heap.size u3 w2) := KB.out.grown hgrow2 (by first | omega | (simp; omega)) (fun q hq => (K8.out.lt q hq).1)
             have KK8 : Hid (w2.ownsRow u3.heap.size 22 1 (.slice (some ⟨g8, 0, none⟩) (k + 1) cap8) (k + 1) ((List.range k).map (fun i => Value.slice (A (x.length - 1 - i)) (Tb.row ls (x.length - 1 - i)).length (C (x.length - 1 - i))) ++ [.slice Aj m Cj])) := h8
             clear h8 hat8))
      all_goals
        have hx2 : w2.cell? ⟨b0, o0 + k, none⟩ = some (.int .i32 (Ls.nth x k)) := by rw [KKB.out.cell (p := ⟨b0, o0 + k, none⟩) (World.block_lt_of_cell? u3 _ (HD.out k hlt))]; exact HD.out k hlt
        have hx0 : w2.cell? ⟨b0, o0, none⟩ = some (.int .i32 (Ls.nth x 0)) := by
          have h0 := HD.out 0 hp
          rw [Nat.add_zero] at h0
          rw [KKB.out.cell (p := ⟨b0, o0, none⟩) (World.block_lt_of_cell? u3 _ h0)]
          exact h0
        have hw2 := (P3.out.keep KKB.out).cell0 (i := k) (by rw [EL.out]; exact hlt)
        have hw0 := (P3.out.keep KKB.out).cell0 (i := 0) (by rw [EL.out]; exact hp)
        rw [Tb.nth_weights hlt] at hw2
        rw [Tb.nth_weights hp] at hw0
        have m1 : Ls.nth x k ≤ Ls.nth x 0 → Tb.wt x k ≤ Tb.wt x 0 := Tb.wt_mono
        have m2 : Ls.nth x 0 ≤ Ls.nth x k → Tb.wt x 0 ≤ Tb.wt x k := Tb.wt_mono
        obtain ⟨p, ep⟩ : ∃ p, Ls.nth x k = p := ⟨_, rfl⟩
        obtain ⟨p0, ep0⟩ : ∃ p, Ls.nth x 0 = p := ⟨_, rfl⟩
        obtain ⟨q, eq⟩ : ∃ q, Tb.wt x k = q := ⟨_, rfl⟩
        obtain ⟨q0, eq0⟩ : ∃ q, Tb.wt x 0 = q := ⟨_, rfl⟩
        rw [ep, ep0, eq, eq0] at m1 m2
        rw [ep] at hx2
        rw [ep0] at hx0
        rw [eq] at hw2
        rw [eq0] at hw0
        clear ep ep0 eq eq0 hgrow hgrow2 K8 K7 KB G8 hs1 hlt7 hlt8
        have RJ : Hid (∀ nq, (w2.drewN nq).ownsRow u3.heap.size 3 1 (.slice (some ⟨g7, 0, none⟩) (k + 1) cap7) (k + 1) ((Ls.gen (k + 1) fun i => Ls.nth (Tb.weights x) (x.length - 1 - i)).map (Value.int .i64))) := fun nq =>
          gen_snoc_own64 (own_drewN KK7.out nq) (by show y = Ls.nth (Tb.weights x) (x.length - 1 - k); rw [← EJ.out]; exact EY.out.symm)
        have RK : Hid (∀ nq, (w2.drewN nq).ownsRow u3.heap.size 22 1 (.slice (some ⟨g8, 0, none⟩) (k + 1) cap8) (k + 1) ((List.range (k + 1)).map fun i => Value.slice (A (x.length - 1 - i)) (Tb.row ls (x.length - 1 - i)).length (C (x.length - 1 - i)))) := fun nq =>
          vals_snoc (own_drewN KK8.out nq) (by show Value.slice Aj m Cj = Value.slice (A (x.length - 1 - k)) (Tb.row ls (x.length - 1 - k)).length (C (x.length - 1 - k)); rw [← EJ.out, EA.out, EC.out, EM.out])
        clear hck1 hck2 ej2 e0 e1 e2
        have e0 : (0 : Int) ≤ (k : Int) := by omega
        have e1 : (k : Int) < (x.length : Int) := by omega
        have e2 : (0 : Int) < (x.length : Int) := by omega
        by_cases c1 : p ≤ p0
        · have d1 : decide (p ≤ p0) = true := decide_eq_true c1
          have d2 : decide (q0 < q) = false := decide_eq_false (by have := m1 c1; omega)
          by_cases c2 : p0 ≤ p
          · have d3 : decide (p0 ≤ p) = true := decide_eq_true c2
            have d4 : decide (q < q0) = false := decide_eq_false (by have := m2 c2; omega)
            clear m1 m2 c1 c2
            go_wp2
            go_quiet (fail)
            go_wp2
            go_roundw
            case rel => exact ⟨k + 1, by omega, by go_num, RJ.out _, RK.out _, KAP.out, below_drewN KKB.out _⟩
            case measure => simp [intOf]; omega
          · have d3 : decide (p0 ≤ p) = false := decide_eq_false c2
            clear m1 m2 c1 c2
            go_wp2
            go_quiet (fail)
            go_wp2
            go_roundw
            case rel => exact ⟨k + 1, by omega, by go_num, RJ.out _, RK.out _, KAP.out, below_drewN KKB.out _⟩
            case measure => simp [intOf]; omega
        · have c2 : p0 ≤ p := by omega
          have d1 : decide (p ≤ p0) = false := decide_eq_false c1
          have d3 : decide (p0 ≤ p) = true := decide_eq_true c2
          have d4 : decide (q < q0) = false := decide_eq_false (by have := m2 c2; omega)
          clear m1 m2 c1 c2
          go_wp2
          go_quiet (fail)
          go_wp2
          go_roundw
          case rel => exact ⟨k + 1, by omega, by go_num, RJ.out _, RK.out _, KAP.out, below_drewN KKB.out _⟩
          case measure => simp [intOf]; omega
    · have e : k = x.length := by omega
      subst e
      have ET : Hid ((Tb.turn ls).length = x.length) := (Tb.turn_length ls).trans HXL.out
      have EB : Hid ((Tb.back (Tb.weights x)).length = x.length) := (Tb.back_length _).trans EL.out
      have hb7 : wr.ownsRow u3.heap.size 3 1 u7 x.length ((Tb.back (Tb.weights x)).map (Value.int .i64)) := by
        have h := H7.out
        unfold Tb.back
        rw [EL.out]
        exact h
      obtain ⟨a7, c7, rfl, h7⟩ := lst_of_ownm hb7 EB.out.symm
      obtain ⟨a8, c8, rfl, h8⟩ := tbl_of_own (ls := Tb.turn ls) (A := fun i => A (x.length - 1 - i)) (C := fun i => C (x.length - 1 - i)) H8.out ET.out.symm (fun i hi => by
        rw [ET.out] at hi
        have hj : x.length - 1 - i < ls.length := by omega
        have hc := HC.out (x.length - 1 - i) hj
        have er : Tb.row (Tb.turn ls) i = Tb.row ls (x.length - 1 - i) := by rw [Tb.row_turn (by omega), HXL.out]
        rw [er]
        exact ⟨by simp [hi], hc.2.1.keep HB.out, hc.2.2⟩)
      have W4 : Hid (Below w.heap.size w wr) := below_then W3.out HB.out
      have T4 : Hid (Tbl wr (some ⟨bt, ot, none⟩) ls) := T3.out.keep HB.out
      have P4 : Hid (Lst .i64 wr (some ⟨gw, 0, none⟩) (Tb.weights x)) := P3.out.keep HB.out
      have Q4 : Hid (Lst .i64 wr a7 (Tb.back (Tb.weights x))) := h7
      have U4 : Hid (Tbl wr a8 (Tb.turn ls)) := h8
      clear h7 h8 hb7 H7 H8 HAP HB HC HD W3 T3 P3 X3
      obtain ⟨z1, z2, z3, z4⟩ := Tb.shape_zero HS.out
      have EE : Hid (Tb.mean (Tb.back (Tb.weights x)) (Tb.turn ls) = Tb.mean (Tb.weights x) ls) := Tb.mean_back z3 z1 z4
      have ER : Hid ((Tb.row (Tb.turn ls) 0).length = (Tb.row ls 0).length) := Tb.row_turn_zero z1 z4
      have hr0 := Ls.mild_len (Tb.milds_all (Tb.fit_both HF.out).2 0)
      clear z1 z2 z3 z4
      have EQ : Hid ((Tb.mean (Tb.weights x) ls).length = (Tb.row ls 0).length) := Tb.mean_length _ _
      go_wp2_with fail
      refine (mix_okm _ _ _ _ _ _ _ _ EL.out.symm P4.out T4.out HS.out HF.out).mono ?_
      rintro e u4 ⟨g4, rfl, _, h1, hB⟩
      have W5 : Hid (Below w.heap.size w u4) := below_then W4.out hB
      have Q5 : Hid (Lst .i64 u4 a7 (Tb.back (Tb.weights x))) := Q4.out.keep hB
      have U5 : Hid (Tbl u4 a8 (Tb.turn ls)) := U4.out.keep hB
      have M5 : Hid (Lst .i32 u4 (some ⟨g4, 0, none⟩) (Tb.mean (Tb.weights x) ls)) := h1
      clear hB h1 W4 T4 P4 Q4 U4
      go_wp2_with fail
      refine (mix_okmm _ _ _ _ _ _ _ _ _ EB.out.symm ET.out.symm Q5.out U5.out (Tb.shape_back HS.out) (Tb.fit_back HF.out)).mono ?_
      rintro e u5 ⟨g5, rfl, _, h1, hB⟩
      have W6 : Hid (Below w.heap.size w u5) := below_then W5.out hB
      have M6 : Hid (Lst .i32 u5 (some ⟨g4, 0, none⟩) (Tb.mean (Tb.weights x) ls)) := M5.out.keep hB
      have N6 : Hid (Lst .i32 u5 (some ⟨g5, 0, none⟩) (Tb.mean (Tb.back (Tb.weights x)) (Tb.turn ls))) := h1
      clear hB h1 W5 Q5 U5 M5
      go_wp2_with fail
      refine (same_anym _ _ _ _ _ _ _ _ _ EQ.out.symm (ER.out.trans EQ.out.symm) M6.out N6.out (by rw [EQ.out]; omega) EE.out.symm).mono ?_
      rintro e u6 ⟨rfl, hB⟩
      have W7 : Hid (Below w.heap.size w u6) := below_then W6.out hB
      clear hB W6 M6 N6
      go_wp2_with (go_at_call 8; refine (sfAwake_any _).mono ?_; rintro e wa ⟨rfl, hb⟩)
      go_ret
      exact ⟨rfl, below_then W7.out hb⟩

set_option maxRecDepth 100000 in
theorem lifted (os : Os) (started : os.Started) (H : Type) (enc : TypeId × Value → H) :
    ReturnsInHanded {} Try.checked os 7 .any (Rows.softOrderSpec.pre6 enc Try.prog Try.f7 Rows.softOrderRow.domain false) (Rows.softOrderSpec.post enc Try.prog Try.f7 false true false false) := by
  refine returnsInHanded_of_change (C := Try.checked) own started (by kernel_rfl) Try.func7
    (ChangeSpec.witness6 (enc := enc) (C := Try.checked) false ⟨#[], #[.slice none 0 0, .slice none 0 0], []⟩ 8 (by kernel_rfl) (by kernel_rfl) (by kernel_rfl) (by kernel_rfl)) ?_
  intro W base args ds gs before hval0 hW hcnd _
  have hval : ∀ (j : Nat) t v, Try.f7.params[j]? = some t → args[j]? = some v → Value.okWide Try.prog W .any base t v := hval0
  have hW' := hW
  obtain ⟨p, q, hA0, hV, rfl, hfz, hnd⟩ := hW
  have hA : DataW.TrodAll enc Try.prog W 0 (fun _ => true) true Try.f7.params.toList args.toList ds p := hA0
  rw [Try.params7] at hA hval
  obtain ⟨v0, vs0, d0, ds0, p0, q0, hargs, rfl, rfl, h0, r0⟩ := trodAll_cons hA
  obtain ⟨v1, vs1, d1, ds1, p1, q1, rfl, rfl, rfl, h1, r1⟩ := trodAll_cons r0
  obtain ⟨rfl, rfl, rfl⟩ := trodAll_nil r1
  obtain rfl : args = #[v0, v1] := by cases args; simp_all
  obtain ⟨rfl, rfl⟩ := trodVars_none hV
  obtain ⟨a0, len0, cap0, rfl⟩ := okWide_slice Try.underlying22 (hval 0 22 v0 rfl rfl)
  have k0 := h0
  have lt0 : ∀ x ∈ p0, x.block < W.heap.size := by obtain ⟨m, hm⟩ := k0; exact DataW.trod_lt m _ _ _ hm
  obtain ⟨z0, w0⟩ : ∃ zs, IsRow .i32 W a0 len0 cap0 zs := by
    obtain ⟨fuel, hf⟩ := h0
    rcases open_ints Try.underlying22 Try.underlying21 (by kernel_rfl) hf with ⟨hcs, _⟩ | ⟨x, l, c, zs, hcs, _, hl, hm, hz, _, hcell, hwz⟩
    · simp [Value.cells] at hcs
      obtain ⟨rfl, rfl, rfl⟩ := hcs
      exact ⟨[], .inl ⟨rfl, rfl, rfl, rfl⟩⟩
    · simp [Value.cells] at hcs
      obtain ⟨rfl, rfl, rfl⟩ := hcs
      exact ⟨zs, .inr ⟨_, rfl, hl, hm, by simpa using hz, hcell, hwz⟩⟩
  obtain ⟨a1, len1, cap1, rfl⟩ := okWide_slice Try.underlying33 (hval 1 33 v1 rfl rfl)
  have k1 := h1
  have lt1 : ∀ x ∈ p1, x.block < W.heap.size := by obtain ⟨m, hm⟩ := k1; exact DataW.trod_lt m _ _ _ hm
  have w1 : IsTable W a1 len1 cap1 := by
    obtain ⟨fuel, hf⟩ := h1
    rcases Go.Deep.open_int_rows Try.underlying33 Try.underlying22 Try.underlying21 (by kernel_rfl) (by kernel_rfl) hf with ⟨hcs, _⟩ | ⟨x, l, c, A, L, C, Z, hcs, _, hl, hm, _, hr⟩
    · simp [Value.cells] at hcs
      obtain ⟨rfl, rfl, rfl⟩ := hcs
      exact .inl ⟨rfl, rfl, rfl⟩
    · simp [Value.cells] at hcs
      obtain ⟨rfl, rfl, rfl⟩ := hcs
      refine .inr ⟨x, A, L, C, Z, rfl, hl, hm, fun r hr' => ?_⟩
      obtain ⟨q1, q2, q3, q4, q5, q6, q7⟩ := hr r hr'
      exact ⟨q1, q2, q3, q4, q5, q6, fun a' ha => (q7 a' ha).2⟩
  clear hA0 hval0
  refine (walk a0 len0 cap0 z0 a1 len1 cap1 W w0 w1).mono fun e W' ⟨he, bel⟩ => ?_
  subst he
  exact ⟨_, rfl, _, _, _, [], _, [], hW', trodAll_mk1 (shut_bool Try.underlying4 _), (trodAll_cons_mk (Below.trod laidOut (by kernel_rfl) (of_decide_eq_true (by kernel_rfl)) k0 bel lt0) (trodAll_cons_mk (Below.trod laidOut (by kernel_rfl) (of_decide_eq_true (by kernel_rfl)) k1 bel lt1) trodAll_mk0)), rfl, bel.frame _, fun h => by cases h⟩

theorem over : Rows.softOrderRow.holds Try.pinned (OpenSpec.ofChange Rows.softOrderSpec) :=
  OpenClaim.holds_of_wide 7 Try.f7 rfl rfl rfl rfl rfl rfl rfl ⟨rfl, rfl, rfl, rfl, rfl⟩ rfl rfl rfl rfl rfl (by kernel_rfl) Try.func7 (by kernel_rfl)
    (of_decide_eq_true (by kernel_rfl)) (by unfold Func.isWrapper; first | (rw [if_pos (by decide +kernel)]; kernel_rfl) | (rw [if_neg (by decide +kernel)]; exact ⟨rfl, rfl⟩))
    (fun os started H enc _ => lifted os started H enc)

theorem proved : Rows.SoftOrderSaid := over
end Go.Proofs.Ytnpoaalopppanaa.softOrder

namespace Go.Proofs.Ytnpoaalopppanaa
theorem softOrder_holds : Rows.SoftOrderSaid := softOrder.proved
#print axioms softOrder_holds
end Go.Proofs.Ytnpoaalopppanaa
