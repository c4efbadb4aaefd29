/- Any two lists are added, and multiplied, place by place as the document says, and any list by any number, and what is handed in stays: DotEach answers true for every input. -/
import Derived.Test.YtjeekibddmdgmaaRows
import Derived.Test.YtjeekibddmdgmaaDtAwake
import Derived.Deep.RegionWith
import Derived.WalkKit
import Derived.ProofKit
import Derived.OpenShut
import Derived.ShutString
import Derived.ChangeOld
import Derived.Below
namespace Go.Proofs.Ytjeekibddmdgmaa.dotEach
open Go.ChangeShapes Go.WideShapes Go.ChangeAt Go.RowKit
open Go.ChangeMaps (open_string shut_string)
set_option linter.unusedVariables false

theorem own : ownKnob Try.prog.godebug = none := by kernel_rfl
theorem laidOut : laidOutB Try.prog = true := by kernel_rfl

/-- WHAT THE WALK IS TOLD OF A SLICE OF INTEGERS THAT CAME IN: it is nil; or it leads to a row of 'cap' cells, the numbers 'zs' (the first 'len' are its elements, the rest its spare room), each fitting its kind. -/
def IsRow (k : IntKind) (w : World) (a : Option Addr) (len cap : Nat) (zs : List Int) : Prop :=
  (a = none ∧ len = 0 ∧ cap = 0 ∧ zs = []) ∨
  ∃ x, a = some x ∧ len ≤ cap ∧ cap ≤ maxLen ∧ zs.length = cap ∧ (∀ i, i < zs.length → w.cell? (x.add i) = some (.int k (zs.getD i 0))) ∧ ∀ n ∈ zs, (Lit.int k n).wf = true

set_option maxHeartbeats 3200000 in
theorem walk (a0 : Option Addr) (len0 cap0 : Nat) (z0 : List Int) (a1 : Option Addr) (len1 cap1 : Nat) (z1 : List Int) (a2 : Int) (w : World) (w0 : IsRow .i32 w a0 len0 cap0 z0) (w1 : IsRow .i32 w a1 len1 cap1 z1) (w2 : (Lit.int .i32 a2).wf = true) :
    Calls Try.prog 4 #[.slice a0 len0 cap0, .slice a1 len1 cap1, .int .i32 a2] w fun e w' => e = .returned (.bool true) ∧ Below w.heap.size w w' := by
  obtain ⟨x, hx, LX, IX, MX, CX, DX, FX⟩ := row_open w0
  obtain ⟨y, hy, LY, IY, MY, CY, DY, FY⟩ := row_open w1
  subst hx hy
  have b2 := bounds_i32 w2
  have HX : Hid (Lst .i32 w a0 x) := LX
  have HY : Hid (Lst .i32 w a1 y) := LY
  have JX : Hid (Ls.In32 x) := IX
  have JY : Hid (Ls.In32 y) := IY
  have GX : Hid (a0 = none → cap0 = 0) := FX
  have GY : Hid (a1 = none → cap1 = 0) := FY
  clear w0 w1 w2 LX LY MX MY IX IY DX DY CX CY FX FY
  by_cases hm1 : 2000 < x.length
  · go_enter Try.func4, Try.ntmps4
    go_wp2_with (go_at_call 10; refine (dtAwake_any _).mono ?_; rintro e wa ⟨rfl, hb⟩)
    all_goals
      go_ret
      exact ⟨rfl, hb⟩
  by_cases hm2 : 2000 < y.length
  · go_enter Try.func4, Try.ntmps4
    go_wp2_with (go_at_call 10; refine (dtAwake_any _).mono ?_; rintro e wa ⟨rfl, hb⟩)
    all_goals
      go_ret
      exact ⟨rfl, hb⟩
  have k1 : x.length ≤ 2000 := by omega
  have k2 : y.length ≤ 2000 := by omega
  clear hm1 hm2
  by_cases k3 : 1024 < x.length
  · have HS : Hid (¬ x.length = y.length ∨ 1024 < x.length) := Or.inr k3
    have hs : (shapeN x.length y.length == 0) = false := by unfold shapeN; rw [if_pos k3]; split <;> rfl
    have hs2 : (shapeN x.length y.length != 0) = true := by unfold shapeN; rw [if_pos k3]; split <;> rfl
    go_enter Try.func4, Try.ntmps4
    go_wp2_with (first
      | (at_builtin; refine wpList_append_lst rfl (.tmp 25) (.tmp 26) 22 rfl w.heap.size 21 .i32 4 Try.underlying22 Try.infoInt32 _ 0 [] (by rfl) (World.ownsRow_made w #[] 0 (Nat.le_refl _) (by decide) rfl) a0 x cap0 (by rfl) (HX.out.keep (box_below _ _)) GX.out (by unfold maxLen; omega) (by omega) (by simp) ?_; intro v1 u1 ho1 hg1; simp only [Nat.zero_add, List.nil_append] at ho1; obtain ⟨ac, cc, rfl, LC⟩ := lst_of_ownm ho1 rfl; have B1 : Hid (Below w.heap.size w u1) := (box_below w _).grown hg1 (by simp) (fun j hj => by simp [Value.ownBlock] at hj; omega); have HC : Hid (Lst .i32 u1 ac x) := LC; clear LC ho1 hg1)
      | (at_builtin; refine wpList_append_lst rfl (.tmp 28) (.tmp 29) 22 rfl u1.heap.size 21 .i32 4 Try.underlying22 Try.infoInt32 _ 0 [] (by rfl) (World.ownsRow_made u1 #[] 0 (Nat.le_refl _) (by decide) rfl) a1 y cap1 (by rfl) ((HY.out.keep B1.out).keep (box_below _ _)) GY.out (by unfold maxLen; omega) (by omega) (by simp) ?_; intro v2 u2 ho2 hg2; simp only [Nat.zero_add, List.nil_append] at ho2; obtain ⟨ad, cd, rfl, LD⟩ := lst_of_ownm ho2 rfl; have B2 : Hid (Below u1.heap.size u1 u2) := (box_below u1 _).grown hg2 (by simp) (fun j hj => by simp [Value.ownBlock] at hj; omega); have HD : Hid (Lst .i32 u2 ad y) := LD; clear LD ho2 hg2))
    have X2 : Hid (Lst .i32 u2 a0 x) := (HX.out.keep B1.out).keep B2.out
    have Y2 : Hid (Lst .i32 u2 a1 y) := (HY.out.keep B1.out).keep B2.out
    have C2 : Hid (Lst .i32 u2 ac x) := HC.out.keep B2.out
    have D2 : Hid (Lst .i32 u2 ad y) := HD.out
    have W2 : Hid (Below w.heap.size w u2) := below_then B1.out B2.out
    clear HX HY HC HD B1 B2
    go_wp2_with fail
    refine (add_bad _ _ _ _ _ _ _ HS.out).mono ?_
    rintro e u3 ⟨rfl, hB⟩
    have W3 : Hid (Below w.heap.size w u3) := below_then W2.out hB
    have X3 : Hid (Lst .i32 u3 a0 x) := X2.out.keep hB
    have Y3 : Hid (Lst .i32 u3 a1 y) := Y2.out.keep hB
    have C3 : Hid (Lst .i32 u3 ac x) := C2.out.keep hB
    have D3 : Hid (Lst .i32 u3 ad y) := D2.out.keep hB
    clear X2 Y2 C2 D2 W2 hB
    go_wp2_with fail
    refine (by_bad _ _ _ _ _ _ _ HS.out).mono ?_
    rintro e u4 ⟨rfl, hB⟩
    have W4 : Hid (Below w.heap.size w u4) := below_then W3.out hB
    have X4 : Hid (Lst .i32 u4 a0 x) := X3.out.keep hB
    have Y4 : Hid (Lst .i32 u4 a1 y) := Y3.out.keep hB
    have C4 : Hid (Lst .i32 u4 ac x) := C3.out.keep hB
    have D4 : Hid (Lst .i32 u4 ad y) := D3.out.keep hB
    clear X3 Y3 C3 D3 W3 hB
    go_wp2_with fail
    refine (times_many _ _ _ _ _ k3).mono ?_
    rintro e u5 ⟨rfl, hB⟩
    have W5 : Hid (Below w.heap.size w u5) := below_then W4.out hB
    have X5 : Hid (Lst .i32 u5 a0 x) := X4.out.keep hB
    have Y5 : Hid (Lst .i32 u5 a1 y) := Y4.out.keep hB
    have C5 : Hid (Lst .i32 u5 ac x) := C4.out.keep hB
    have D5 : Hid (Lst .i32 u5 ad y) := D4.out.keep hB
    clear X4 Y4 C4 D4 W4 hB
    go_wp2_with fail
    refine (same_anym _ _ _ _ _ _ _ _ _ rfl rfl X5.out C5.out (by omega) rfl).mono ?_
    rintro e u6 ⟨rfl, hB⟩
    have W6 : Hid (Below w.heap.size w u6) := below_then W5.out hB
    have X6 : Hid (Lst .i32 u6 a0 x) := X5.out.keep hB
    have Y6 : Hid (Lst .i32 u6 a1 y) := Y5.out.keep hB
    have C6 : Hid (Lst .i32 u6 ac x) := C5.out.keep hB
    have D6 : Hid (Lst .i32 u6 ad y) := D5.out.keep hB
    clear X5 Y5 C5 D5 W5 hB
    go_wp2_with fail
    refine (same_anym _ _ _ _ _ _ _ _ _ rfl rfl Y6.out D6.out (by omega) rfl).mono ?_
    rintro e u7 ⟨rfl, hB⟩
    have W7 : Hid (Below w.heap.size w u7) := below_then W6.out hB
    have X7 : Hid (Lst .i32 u7 a0 x) := X6.out.keep hB
    have Y7 : Hid (Lst .i32 u7 a1 y) := Y6.out.keep hB
    have C7 : Hid (Lst .i32 u7 ac x) := C6.out.keep hB
    have D7 : Hid (Lst .i32 u7 ad y) := D6.out.keep hB
    clear X6 Y6 C6 D6 W6 hB
    go_wp2_with fail
    refine (refShape_any _ _ _ _ _ _ _).mono ?_
    rintro e u' ⟨rfl, hu⟩
    cases hu.symm
    clear hu
    go_wp2_with (go_at_call 10; refine (dtAwake_any _).mono ?_; rintro e wa ⟨rfl, hb⟩)
    go_ret
    exact ⟨rfl, below_then W7.out hb⟩
  · have k3 : x.length ≤ 1024 := by omega
    by_cases hl : x.length = y.length
    · have E1 : Hid (x.length = y.length) := hl
      have hs : shapeN x.length y.length = 0 := by rw [← hl]; exact shapeN_ok (by omega)
      clear hl
      go_enter Try.func4, Try.ntmps4
      go_wp2_with (first
        | (at_builtin; refine wpList_append_lst rfl (.tmp 25) (.tmp 26) 22 rfl w.heap.size 21 .i32 4 Try.underlying22 Try.infoInt32 _ 0 [] (by rfl) (World.ownsRow_made w #[] 0 (Nat.le_refl _) (by decide) rfl) a0 x cap0 (by rfl) (HX.out.keep (box_below _ _)) GX.out (by unfold maxLen; omega) (by omega) (by simp) ?_; intro v1 u1 ho1 hg1; simp only [Nat.zero_add, List.nil_append] at ho1; obtain ⟨ac, cc, rfl, LC⟩ := lst_of_ownm ho1 rfl; have B1 : Hid (Below w.heap.size w u1) := (box_below w _).grown hg1 (by simp) (fun j hj => by simp [Value.ownBlock] at hj; omega); have HC : Hid (Lst .i32 u1 ac x) := LC; clear LC ho1 hg1)
        | (at_builtin; refine wpList_append_lst rfl (.tmp 28) (.tmp 29) 22 rfl u1.heap.size 21 .i32 4 Try.underlying22 Try.infoInt32 _ 0 [] (by rfl) (World.ownsRow_made u1 #[] 0 (Nat.le_refl _) (by decide) rfl) a1 y cap1 (by rfl) ((HY.out.keep B1.out).keep (box_below _ _)) GY.out (by unfold maxLen; omega) (by omega) (by simp) ?_; intro v2 u2 ho2 hg2; simp only [Nat.zero_add, List.nil_append] at ho2; obtain ⟨ad, cd, rfl, LD⟩ := lst_of_ownm ho2 rfl; have B2 : Hid (Below u1.heap.size u1 u2) := (box_below u1 _).grown hg2 (by simp) (fun j hj => by simp [Value.ownBlock] at hj; omega); have HD : Hid (Lst .i32 u2 ad y) := LD; clear LD ho2 hg2))
      have X2 : Hid (Lst .i32 u2 a0 x) := (HX.out.keep B1.out).keep B2.out
      have Y2 : Hid (Lst .i32 u2 a1 y) := (HY.out.keep B1.out).keep B2.out
      have C2 : Hid (Lst .i32 u2 ac x) := HC.out.keep B2.out
      have D2 : Hid (Lst .i32 u2 ad y) := HD.out
      have W2 : Hid (Below w.heap.size w u2) := below_then B1.out B2.out
      clear HX HY HC HD B1 B2
      go_wp2_with fail
      refine (add_ok _ _ _ _ _ _ _ X2.out Y2.out E1.out k3 JX.out JY.out).mono ?_
      rintro e u3 ⟨g1, rfl, _, h1, hB⟩
      have W3 : Hid (Below w.heap.size w u3) := below_then W2.out hB
      have X3 : Hid (Lst .i32 u3 a0 x) := X2.out.keep hB
      have Y3 : Hid (Lst .i32 u3 a1 y) := Y2.out.keep hB
      have C3 : Hid (Lst .i32 u3 ac x) := C2.out.keep hB
      have D3 : Hid (Lst .i32 u3 ad y) := D2.out.keep hB
      clear X2 Y2 C2 D2 W2 hB
      have S3 : Hid (Lst .i32 u3 (some ⟨g1, 0, none⟩) (Ls.add x y)) := h1
      clear h1
      go_wp2_with fail
      refine (by_ok _ _ _ _ _ _ _ X3.out Y3.out E1.out k3 JX.out JY.out).mono ?_
      rintro e u4 ⟨g2, rfl, _, h2, hB⟩
      have W4 : Hid (Below w.heap.size w u4) := below_then W3.out hB
      have X4 : Hid (Lst .i32 u4 a0 x) := X3.out.keep hB
      have Y4 : Hid (Lst .i32 u4 a1 y) := Y3.out.keep hB
      have C4 : Hid (Lst .i32 u4 ac x) := C3.out.keep hB
      have D4 : Hid (Lst .i32 u4 ad y) := D3.out.keep hB
      have S4 : Hid (Lst .i32 u4 (some ⟨g1, 0, none⟩) (Ls.add x y)) := S3.out.keep hB
      clear X3 Y3 C3 D3 S3 W3 hB
      have P4 : Hid (Lst .i32 u4 (some ⟨g2, 0, none⟩) (Ls.by x y)) := h2
      clear h2
      go_wp2_with fail
      refine (times_ok _ _ _ _ _ X4.out k3 JX.out b2.1 b2.2).mono ?_
      rintro e u5 ⟨g3, rfl, _, h3, hB⟩
      have W5 : Hid (Below w.heap.size w u5) := below_then W4.out hB
      have X5 : Hid (Lst .i32 u5 a0 x) := X4.out.keep hB
      have Y5 : Hid (Lst .i32 u5 a1 y) := Y4.out.keep hB
      have C5 : Hid (Lst .i32 u5 ac x) := C4.out.keep hB
      have D5 : Hid (Lst .i32 u5 ad y) := D4.out.keep hB
      have S5 : Hid (Lst .i32 u5 (some ⟨g1, 0, none⟩) (Ls.add x y)) := S4.out.keep hB
      have P5 : Hid (Lst .i32 u5 (some ⟨g2, 0, none⟩) (Ls.by x y)) := P4.out.keep hB
      clear X4 Y4 C4 D4 S4 P4 W4 hB
      have T5 : Hid (Lst .i32 u5 (some ⟨g3, 0, none⟩) (Ls.times x a2)) := h3
      clear h3
      go_wp2_with fail
      refine (same_anym _ _ _ _ _ _ _ _ _ rfl rfl X5.out C5.out (by omega) rfl).mono ?_
      rintro e u6 ⟨rfl, hB⟩
      have W6 : Hid (Below w.heap.size w u6) := below_then W5.out hB
      have X6 : Hid (Lst .i32 u6 a0 x) := X5.out.keep hB
      have Y6 : Hid (Lst .i32 u6 a1 y) := Y5.out.keep hB
      have C6 : Hid (Lst .i32 u6 ac x) := C5.out.keep hB
      have D6 : Hid (Lst .i32 u6 ad y) := D5.out.keep hB
      have S6 : Hid (Lst .i32 u6 (some ⟨g1, 0, none⟩) (Ls.add x y)) := S5.out.keep hB
      have P6 : Hid (Lst .i32 u6 (some ⟨g2, 0, none⟩) (Ls.by x y)) := P5.out.keep hB
      have T6 : Hid (Lst .i32 u6 (some ⟨g3, 0, none⟩) (Ls.times x a2)) := T5.out.keep hB
      clear X5 Y5 C5 D5 S5 P5 T5 W5 hB
      go_wp2_with fail
      refine (same_anym _ _ _ _ _ _ _ _ _ rfl rfl Y6.out D6.out (by omega) rfl).mono ?_
      rintro e u7 ⟨rfl, hB⟩
      have W7 : Hid (Below w.heap.size w u7) := below_then W6.out hB
      have X7 : Hid (Lst .i32 u7 a0 x) := X6.out.keep hB
      have Y7 : Hid (Lst .i32 u7 a1 y) := Y6.out.keep hB
      have C7 : Hid (Lst .i32 u7 ac x) := C6.out.keep hB
      have D7 : Hid (Lst .i32 u7 ad y) := D6.out.keep hB
      have S7 : Hid (Lst .i32 u7 (some ⟨g1, 0, none⟩) (Ls.add x y)) := S6.out.keep hB
      have P7 : Hid (Lst .i32 u7 (some ⟨g2, 0, none⟩) (Ls.by x y)) := P6.out.keep hB
      have T7 : Hid (Lst .i32 u7 (some ⟨g3, 0, none⟩) (Ls.times x a2)) := T6.out.keep hB
      clear X6 Y6 C6 D6 S6 P6 T6 W6 hB
      go_wp2_with fail
      refine (refTimes_any _ _ _ _ _ X7.out k3 JX.out b2.1 b2.2).mono ?_
      rintro e u8 ⟨v4, rfl, h4, hB⟩
      have W8 : Hid (Below w.heap.size w u8) := below_then W7.out hB
      have X8 : Hid (Lst .i32 u8 a0 x) := X7.out.keep hB
      have Y8 : Hid (Lst .i32 u8 a1 y) := Y7.out.keep hB
      have C8 : Hid (Lst .i32 u8 ac x) := C7.out.keep hB
      have D8 : Hid (Lst .i32 u8 ad y) := D7.out.keep hB
      have S8 : Hid (Lst .i32 u8 (some ⟨g1, 0, none⟩) (Ls.add x y)) := S7.out.keep hB
      have P8 : Hid (Lst .i32 u8 (some ⟨g2, 0, none⟩) (Ls.by x y)) := P7.out.keep hB
      have T8 : Hid (Lst .i32 u8 (some ⟨g3, 0, none⟩) (Ls.times x a2)) := T7.out.keep hB
      clear X7 Y7 C7 D7 S7 P7 T7 W7 hB
      obtain ⟨a4, c4, rfl, h5⟩ := lst_of_ownm h4 (Ls.times_length x a2).symm
      have R8 : Hid (Lst .i32 u8 a4 (Ls.times x a2)) := h5
      clear h4 h5
      go_wp2_with fail
      refine (same_anym _ _ _ _ _ _ _ _ _ (Ls.times_length x a2).symm (Ls.times_length x a2).symm T8.out R8.out (by rw [Ls.times_length]; omega) rfl).mono ?_
      rintro e u9 ⟨rfl, hB⟩
      have W9 : Hid (Below w.heap.size w u9) := below_then W8.out hB
      have X9 : Hid (Lst .i32 u9 a0 x) := X8.out.keep hB
      have Y9 : Hid (Lst .i32 u9 a1 y) := Y8.out.keep hB
      have C9 : Hid (Lst .i32 u9 ac x) := C8.out.keep hB
      have D9 : Hid (Lst .i32 u9 ad y) := D8.out.keep hB
      have S9 : Hid (Lst .i32 u9 (some ⟨g1, 0, none⟩) (Ls.add x y)) := S8.out.keep hB
      have P9 : Hid (Lst .i32 u9 (some ⟨g2, 0, none⟩) (Ls.by x y)) := P8.out.keep hB
      have T9 : Hid (Lst .i32 u9 (some ⟨g3, 0, none⟩) (Ls.times x a2)) := T8.out.keep hB
      have R9 : Hid (Lst .i32 u9 a4 (Ls.times x a2)) := R8.out.keep hB
      clear X8 Y8 C8 D8 S8 P8 T8 R8 W8 hB
      go_wp2_with fail
      refine (refShape_any _ _ _ _ _ _ _).mono ?_
      rintro e u' ⟨rfl, hu⟩
      cases hu.symm
      clear hu
      go_wp2_with fail
      refine (refAdd_any _ _ _ _ _ _ _ X9.out Y9.out E1.out k3 JX.out JY.out).mono ?_
      rintro e u10 ⟨v6, rfl, h6, hB⟩
      have W10 : Hid (Below w.heap.size w u10) := below_then W9.out hB
      have X10 : Hid (Lst .i32 u10 a0 x) := X9.out.keep hB
      have Y10 : Hid (Lst .i32 u10 a1 y) := Y9.out.keep hB
      have C10 : Hid (Lst .i32 u10 ac x) := C9.out.keep hB
      have D10 : Hid (Lst .i32 u10 ad y) := D9.out.keep hB
      have S10 : Hid (Lst .i32 u10 (some ⟨g1, 0, none⟩) (Ls.add x y)) := S9.out.keep hB
      have P10 : Hid (Lst .i32 u10 (some ⟨g2, 0, none⟩) (Ls.by x y)) := P9.out.keep hB
      have T10 : Hid (Lst .i32 u10 (some ⟨g3, 0, none⟩) (Ls.times x a2)) := T9.out.keep hB
      have R10 : Hid (Lst .i32 u10 a4 (Ls.times x a2)) := R9.out.keep hB
      clear X9 Y9 C9 D9 S9 P9 T9 R9 W9 hB
      obtain ⟨a6, c6, rfl, h7⟩ := lst_of_ownm h6 (Ls.add_length x y).symm
      have Q10 : Hid (Lst .i32 u10 a6 (Ls.add x y)) := h7
      clear h6 h7
      go_wp2_with fail
      refine (same_anym _ _ _ _ _ _ _ _ _ (Ls.add_length x y).symm (Ls.add_length x y).symm S10.out Q10.out (by rw [Ls.add_length]; omega) rfl).mono ?_
      rintro e u11 ⟨rfl, hB⟩
      have W11 : Hid (Below w.heap.size w u11) := below_then W10.out hB
      have X11 : Hid (Lst .i32 u11 a0 x) := X10.out.keep hB
      have Y11 : Hid (Lst .i32 u11 a1 y) := Y10.out.keep hB
      have C11 : Hid (Lst .i32 u11 ac x) := C10.out.keep hB
      have D11 : Hid (Lst .i32 u11 ad y) := D10.out.keep hB
      have S11 : Hid (Lst .i32 u11 (some ⟨g1, 0, none⟩) (Ls.add x y)) := S10.out.keep hB
      have P11 : Hid (Lst .i32 u11 (some ⟨g2, 0, none⟩) (Ls.by x y)) := P10.out.keep hB
      have T11 : Hid (Lst .i32 u11 (some ⟨g3, 0, none⟩) (Ls.times x a2)) := T10.out.keep hB
      have R11 : Hid (Lst .i32 u11 a4 (Ls.times x a2)) := R10.out.keep hB
      have Q11 : Hid (Lst .i32 u11 a6 (Ls.add x y)) := Q10.out.keep hB
      clear X10 Y10 C10 D10 S10 P10 T10 R10 Q10 W10 hB
      go_wp2_with fail
      refine (refBy_any _ _ _ _ _ _ _ X11.out Y11.out E1.out k3 JX.out JY.out).mono ?_
      rintro e u12 ⟨v8, rfl, h8, hB⟩
      have W12 : Hid (Below w.heap.size w u12) := below_then W11.out hB
      have X12 : Hid (Lst .i32 u12 a0 x) := X11.out.keep hB
      have Y12 : Hid (Lst .i32 u12 a1 y) := Y11.out.keep hB
      have C12 : Hid (Lst .i32 u12 ac x) := C11.out.keep hB
      have D12 : Hid (Lst .i32 u12 ad y) := D11.out.keep hB
      have S12 : Hid (Lst .i32 u12 (some ⟨g1, 0, none⟩) (Ls.add x y)) := S11.out.keep hB
      have P12 : Hid (Lst .i32 u12 (some ⟨g2, 0, none⟩) (Ls.by x y)) := P11.out.keep hB
      have T12 : Hid (Lst .i32 u12 (some ⟨g3, 0, none⟩) (Ls.times x a2)) := T11.out.keep hB
      have R12 : Hid (Lst .i32 u12 a4 (Ls.times x a2)) := R11.out.keep hB
      have Q12 : Hid (Lst .i32 u12 a6 (Ls.add x y)) := Q11.out.keep hB
      clear X11 Y11 C11 D11 S11 P11 T11 R11 Q11 W11 hB
      obtain ⟨a8, c8, rfl, h9⟩ := lst_of_ownm h8 (Ls.by_length x y).symm
      have V12 : Hid (Lst .i32 u12 a8 (Ls.by x y)) := h9
      clear h8 h9
      go_wp2_with fail
      refine (same_anym _ _ _ _ _ _ _ _ _ (Ls.by_length x y).symm (Ls.by_length x y).symm P12.out V12.out (by rw [Ls.by_length]; omega) rfl).mono ?_
      rintro e u13 ⟨rfl, hB⟩
      have W13 : Hid (Below w.heap.size w u13) := below_then W12.out hB
      have X13 : Hid (Lst .i32 u13 a0 x) := X12.out.keep hB
      have Y13 : Hid (Lst .i32 u13 a1 y) := Y12.out.keep hB
      have C13 : Hid (Lst .i32 u13 ac x) := C12.out.keep hB
      have D13 : Hid (Lst .i32 u13 ad y) := D12.out.keep hB
      have S13 : Hid (Lst .i32 u13 (some ⟨g1, 0, none⟩) (Ls.add x y)) := S12.out.keep hB
      have P13 : Hid (Lst .i32 u13 (some ⟨g2, 0, none⟩) (Ls.by x y)) := P12.out.keep hB
      have T13 : Hid (Lst .i32 u13 (some ⟨g3, 0, none⟩) (Ls.times x a2)) := T12.out.keep hB
      have R13 : Hid (Lst .i32 u13 a4 (Ls.times x a2)) := R12.out.keep hB
      have Q13 : Hid (Lst .i32 u13 a6 (Ls.add x y)) := Q12.out.keep hB
      have V13 : Hid (Lst .i32 u13 a8 (Ls.by x y)) := V12.out.keep hB
      clear X12 Y12 C12 D12 S12 P12 T12 R12 Q12 V12 W12 hB
      go_wp2_with (go_at_call 10; refine (dtAwake_any _).mono ?_; rintro e wa ⟨rfl, hb⟩)
      go_ret
      exact ⟨rfl, below_then W13.out hb⟩
    · have HS : Hid (¬ x.length = y.length ∨ 1024 < x.length) := Or.inl hl
      have hs : shapeN x.length y.length = 25 := shapeN_ne hl
      clear hl
      go_enter Try.func4, Try.ntmps4
      go_wp2_with (first
        | (at_builtin; refine wpList_append_lst rfl (.tmp 25) (.tmp 26) 22 rfl w.heap.size 21 .i32 4 Try.underlying22 Try.infoInt32 _ 0 [] (by rfl) (World.ownsRow_made w #[] 0 (Nat.le_refl _) (by decide) rfl) a0 x cap0 (by rfl) (HX.out.keep (box_below _ _)) GX.out (by unfold maxLen; omega) (by omega) (by simp) ?_; intro v1 u1 ho1 hg1; simp only [Nat.zero_add, List.nil_append] at ho1; obtain ⟨ac, cc, rfl, LC⟩ := lst_of_ownm ho1 rfl; have B1 : Hid (Below w.heap.size w u1) := (box_below w _).grown hg1 (by simp) (fun j hj => by simp [Value.ownBlock] at hj; omega); have HC : Hid (Lst .i32 u1 ac x) := LC; clear LC ho1 hg1)
        | (at_builtin; refine wpList_append_lst rfl (.tmp 28) (.tmp 29) 22 rfl u1.heap.size 21 .i32 4 Try.underlying22 Try.infoInt32 _ 0 [] (by rfl) (World.ownsRow_made u1 #[] 0 (Nat.le_refl _) (by decide) rfl) a1 y cap1 (by rfl) ((HY.out.keep B1.out).keep (box_below _ _)) GY.out (by unfold maxLen; omega) (by omega) (by simp) ?_; intro v2 u2 ho2 hg2; simp only [Nat.zero_add, List.nil_append] at ho2; obtain ⟨ad, cd, rfl, LD⟩ := lst_of_ownm ho2 rfl; have B2 : Hid (Below u1.heap.size u1 u2) := (box_below u1 _).grown hg2 (by simp) (fun j hj => by simp [Value.ownBlock] at hj; omega); have HD : Hid (Lst .i32 u2 ad y) := LD; clear LD ho2 hg2))
      have X2 : Hid (Lst .i32 u2 a0 x) := (HX.out.keep B1.out).keep B2.out
      have Y2 : Hid (Lst .i32 u2 a1 y) := (HY.out.keep B1.out).keep B2.out
      have C2 : Hid (Lst .i32 u2 ac x) := HC.out.keep B2.out
      have D2 : Hid (Lst .i32 u2 ad y) := HD.out
      have W2 : Hid (Below w.heap.size w u2) := below_then B1.out B2.out
      clear HX HY HC HD B1 B2
      go_wp2_with fail
      refine (add_bad _ _ _ _ _ _ _ HS.out).mono ?_
      rintro e u3 ⟨rfl, hB⟩
      have W3 : Hid (Below w.heap.size w u3) := below_then W2.out hB
      have X3 : Hid (Lst .i32 u3 a0 x) := X2.out.keep hB
      have Y3 : Hid (Lst .i32 u3 a1 y) := Y2.out.keep hB
      have C3 : Hid (Lst .i32 u3 ac x) := C2.out.keep hB
      have D3 : Hid (Lst .i32 u3 ad y) := D2.out.keep hB
      clear X2 Y2 C2 D2 W2 hB
      go_wp2_with fail
      refine (by_bad _ _ _ _ _ _ _ HS.out).mono ?_
      rintro e u4 ⟨rfl, hB⟩
      have W4 : Hid (Below w.heap.size w u4) := below_then W3.out hB
      have X4 : Hid (Lst .i32 u4 a0 x) := X3.out.keep hB
      have Y4 : Hid (Lst .i32 u4 a1 y) := Y3.out.keep hB
      have C4 : Hid (Lst .i32 u4 ac x) := C3.out.keep hB
      have D4 : Hid (Lst .i32 u4 ad y) := D3.out.keep hB
      clear X3 Y3 C3 D3 W3 hB
      go_wp2_with fail
      refine (times_ok _ _ _ _ _ X4.out k3 JX.out b2.1 b2.2).mono ?_
      rintro e u5 ⟨g3, rfl, _, h3, hB⟩
      have W5 : Hid (Below w.heap.size w u5) := below_then W4.out hB
      have X5 : Hid (Lst .i32 u5 a0 x) := X4.out.keep hB
      have Y5 : Hid (Lst .i32 u5 a1 y) := Y4.out.keep hB
      have C5 : Hid (Lst .i32 u5 ac x) := C4.out.keep hB
      have D5 : Hid (Lst .i32 u5 ad y) := D4.out.keep hB
      clear X4 Y4 C4 D4 W4 hB
      have T5 : Hid (Lst .i32 u5 (some ⟨g3, 0, none⟩) (Ls.times x a2)) := h3
      clear h3
      go_wp2_with fail
      refine (same_anym _ _ _ _ _ _ _ _ _ rfl rfl X5.out C5.out (by omega) rfl).mono ?_
      rintro e u6 ⟨rfl, hB⟩
      have W6 : Hid (Below w.heap.size w u6) := below_then W5.out hB
      have X6 : Hid (Lst .i32 u6 a0 x) := X5.out.keep hB
      have Y6 : Hid (Lst .i32 u6 a1 y) := Y5.out.keep hB
      have C6 : Hid (Lst .i32 u6 ac x) := C5.out.keep hB
      have D6 : Hid (Lst .i32 u6 ad y) := D5.out.keep hB
      have T6 : Hid (Lst .i32 u6 (some ⟨g3, 0, none⟩) (Ls.times x a2)) := T5.out.keep hB
      clear X5 Y5 C5 D5 T5 W5 hB
      go_wp2_with fail
      refine (same_anym _ _ _ _ _ _ _ _ _ rfl rfl Y6.out D6.out (by omega) rfl).mono ?_
      rintro e u7 ⟨rfl, hB⟩
      have W7 : Hid (Below w.heap.size w u7) := below_then W6.out hB
      have X7 : Hid (Lst .i32 u7 a0 x) := X6.out.keep hB
      have Y7 : Hid (Lst .i32 u7 a1 y) := Y6.out.keep hB
      have C7 : Hid (Lst .i32 u7 ac x) := C6.out.keep hB
      have D7 : Hid (Lst .i32 u7 ad y) := D6.out.keep hB
      have T7 : Hid (Lst .i32 u7 (some ⟨g3, 0, none⟩) (Ls.times x a2)) := T6.out.keep hB
      clear X6 Y6 C6 D6 T6 W6 hB
      go_wp2_with fail
      refine (refTimes_any _ _ _ _ _ X7.out k3 JX.out b2.1 b2.2).mono ?_
      rintro e u8 ⟨v4, rfl, h4, hB⟩
      have W8 : Hid (Below w.heap.size w u8) := below_then W7.out hB
      have X8 : Hid (Lst .i32 u8 a0 x) := X7.out.keep hB
      have Y8 : Hid (Lst .i32 u8 a1 y) := Y7.out.keep hB
      have C8 : Hid (Lst .i32 u8 ac x) := C7.out.keep hB
      have D8 : Hid (Lst .i32 u8 ad y) := D7.out.keep hB
      have T8 : Hid (Lst .i32 u8 (some ⟨g3, 0, none⟩) (Ls.times x a2)) := T7.out.keep hB
      clear X7 Y7 C7 D7 T7 W7 hB
      obtain ⟨a4, c4, rfl, h5⟩ := lst_of_ownm h4 (Ls.times_length x a2).symm
      have R8 : Hid (Lst .i32 u8 a4 (Ls.times x a2)) := h5
      clear h4 h5
      go_wp2_with fail
      refine (same_anym _ _ _ _ _ _ _ _ _ (Ls.times_length x a2).symm (Ls.times_length x a2).symm T8.out R8.out (by rw [Ls.times_length]; omega) rfl).mono ?_
      rintro e u9 ⟨rfl, hB⟩
      have W9 : Hid (Below w.heap.size w u9) := below_then W8.out hB
      have X9 : Hid (Lst .i32 u9 a0 x) := X8.out.keep hB
      have Y9 : Hid (Lst .i32 u9 a1 y) := Y8.out.keep hB
      have C9 : Hid (Lst .i32 u9 ac x) := C8.out.keep hB
      have D9 : Hid (Lst .i32 u9 ad y) := D8.out.keep hB
      have T9 : Hid (Lst .i32 u9 (some ⟨g3, 0, none⟩) (Ls.times x a2)) := T8.out.keep hB
      have R9 : Hid (Lst .i32 u9 a4 (Ls.times x a2)) := R8.out.keep hB
      clear X8 Y8 C8 D8 T8 R8 W8 hB
      go_wp2_with fail
      refine (refShape_any _ _ _ _ _ _ _).mono ?_
      rintro e u' ⟨rfl, hu⟩
      cases hu.symm
      clear hu
      go_wp2_with (go_at_call 10; refine (dtAwake_any _).mono ?_; rintro e wa ⟨rfl, hb⟩)
      go_ret
      exact ⟨rfl, below_then W9.out hb⟩

set_option maxRecDepth 100000 in
theorem lifted (os : Os) (started : os.Started) (H : Type) (enc : TypeId × Value → H) :
    ReturnsInHanded {} Try.checked os 4 .any (Rows.dotEachSpec.pre6 enc Try.prog Try.f4 Rows.dotEachRow.domain false) (Rows.dotEachSpec.post enc Try.prog Try.f4 false true false false) := by
  refine returnsInHanded_of_change (C := Try.checked) own started (by kernel_rfl) Try.func4
    (ChangeSpec.witness6 (enc := enc) (C := Try.checked) false ⟨#[], #[.slice none 0 0, .slice none 0 0, .int .i32 0], []⟩ 8 (by kernel_rfl) (by kernel_rfl) (by kernel_rfl) (by kernel_rfl)) ?_
  intro W base args ds gs before hval0 hW hcnd _
  have hval : ∀ (j : Nat) t v, Try.f4.params[j]? = some t → args[j]? = some v → Value.okWide Try.prog W .any base t v := hval0
  have hW' := hW
  obtain ⟨p, q, hA0, hV, rfl, hfz, hnd⟩ := hW
  have hA : DataW.TrodAll enc Try.prog W 0 (fun _ => true) true Try.f4.params.toList args.toList ds p := hA0
  rw [Try.params4] at hA hval
  obtain ⟨v0, vs0, d0, ds0, p0, q0, hargs, rfl, rfl, h0, r0⟩ := trodAll_cons hA
  obtain ⟨v1, vs1, d1, ds1, p1, q1, rfl, rfl, rfl, h1, r1⟩ := trodAll_cons r0
  obtain ⟨v2, vs2, d2, ds2, p2, q2, rfl, rfl, rfl, h2, r2⟩ := trodAll_cons r1
  obtain ⟨rfl, rfl, rfl⟩ := trodAll_nil r2
  obtain rfl : args = #[v0, v1, v2] := by cases args; simp_all
  obtain ⟨rfl, rfl⟩ := trodVars_none hV
  obtain ⟨a0, len0, cap0, rfl⟩ := okWide_slice Try.underlying22 (hval 0 22 v0 rfl rfl)
  have k0 := h0
  have lt0 : ∀ x ∈ p0, x.block < W.heap.size := by obtain ⟨m, hm⟩ := k0; exact DataW.trod_lt m _ _ _ hm
  obtain ⟨z0, w0⟩ : ∃ zs, IsRow .i32 W a0 len0 cap0 zs := by
    obtain ⟨fuel, hf⟩ := h0
    rcases open_ints Try.underlying22 Try.underlying21 (by kernel_rfl) hf with ⟨hcs, _⟩ | ⟨x, l, c, zs, hcs, _, hl, hm, hz, _, hcell, hwz⟩
    · simp [Value.cells] at hcs
      obtain ⟨rfl, rfl, rfl⟩ := hcs
      exact ⟨[], .inl ⟨rfl, rfl, rfl, rfl⟩⟩
    · simp [Value.cells] at hcs
      obtain ⟨rfl, rfl, rfl⟩ := hcs
      exact ⟨zs, .inr ⟨_, rfl, hl, hm, by simpa using hz, hcell, hwz⟩⟩
  obtain ⟨a1, len1, cap1, rfl⟩ := okWide_slice Try.underlying22 (hval 1 22 v1 rfl rfl)
  have k1 := h1
  have lt1 : ∀ x ∈ p1, x.block < W.heap.size := by obtain ⟨m, hm⟩ := k1; exact DataW.trod_lt m _ _ _ hm
  obtain ⟨z1, w1⟩ : ∃ zs, IsRow .i32 W a1 len1 cap1 zs := by
    obtain ⟨fuel, hf⟩ := h1
    rcases open_ints Try.underlying22 Try.underlying21 (by kernel_rfl) hf with ⟨hcs, _⟩ | ⟨x, l, c, zs, hcs, _, hl, hm, hz, _, hcell, hwz⟩
    · simp [Value.cells] at hcs
      obtain ⟨rfl, rfl, rfl⟩ := hcs
      exact ⟨[], .inl ⟨rfl, rfl, rfl, rfl⟩⟩
    · simp [Value.cells] at hcs
      obtain ⟨rfl, rfl, rfl⟩ := hcs
      exact ⟨zs, .inr ⟨_, rfl, hl, hm, by simpa using hz, hcell, hwz⟩⟩
  obtain ⟨a2, rfl, rfl, rfl, w2⟩ := open_int Try.underlying21 (hval 2 21 v2 rfl rfl) h2
  clear hA0 hval0
  refine (walk a0 len0 cap0 z0 a1 len1 cap1 z1 a2 W w0 w1 w2).mono fun e W' ⟨he, bel⟩ => ?_
  subst he
  exact ⟨_, rfl, _, _, _, [], _, [], hW', trodAll_mk1 (shut_bool Try.underlying4 _), (trodAll_cons_mk (Below.trod laidOut (by kernel_rfl) (of_decide_eq_true (by kernel_rfl)) k0 bel lt0) (trodAll_cons_mk (Below.trod laidOut (by kernel_rfl) (of_decide_eq_true (by kernel_rfl)) k1 bel lt1) (trodAll_cons_mk (shut_int Try.underlying21 w2) trodAll_mk0))), rfl, bel.frame _, fun h => by cases h⟩

theorem over : Rows.dotEachRow.holds Try.pinned (OpenSpec.ofChange Rows.dotEachSpec) :=
  OpenClaim.holds_of_wide 4 Try.f4 rfl rfl rfl rfl rfl rfl rfl ⟨rfl, rfl, rfl, rfl, rfl⟩ rfl rfl rfl rfl rfl (by kernel_rfl) Try.func4 (by kernel_rfl)
    (of_decide_eq_true (by kernel_rfl)) (by unfold Func.isWrapper; first | (rw [if_pos (by decide +kernel)]; kernel_rfl) | (rw [if_neg (by decide +kernel)]; exact ⟨rfl, rfl⟩))
    (fun os started H enc _ => lifted os started H enc)

theorem proved : Rows.DotEachSaid := over
end Go.Proofs.Ytjeekibddmdgmaa.dotEach

namespace Go.Proofs.Ytjeekibddmdgmaa
theorem dotEach_holds : Rows.DotEachSaid := dotEach.proved
#print axioms dotEach_holds
end Go.Proofs.Ytjeekibddmdgmaa
