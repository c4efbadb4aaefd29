/- Codes that fill whole words are packed side by side with any that come behind them: PackJoins answers true for every input. -/
import Derived.Test.YtggclllegbiokaaRows
import Derived.Test.YtggclllegbiokaaPkLists
import Derived.WalkKit
import Derived.ProofKit
import Derived.OpenShut
import Derived.ShutString
import Derived.ChangeOld
import Derived.Below
namespace Go.Proofs.Ytggclllegbiokaa.packJoins
open Go.ChangeShapes Go.WideShapes Go.ChangeAt Go.RowKit
open Go.ChangeMaps (open_string shut_string)
set_option linter.unusedVariables false

theorem own : ownKnob Try.prog.godebug = none := by kernel_rfl
theorem laidOut : laidOutB Try.prog = true := by kernel_rfl

/-- WHAT THE WALK IS TOLD OF A SLICE OF INTEGERS THAT CAME IN: it is nil; or it leads to a row of 'cap' cells, the numbers 'zs' (the first 'len' are its elements, the rest its spare room), each fitting its kind. -/
def IsRow (k : IntKind) (w : World) (a : Option Addr) (len cap : Nat) (zs : List Int) : Prop :=
  (a = none ∧ len = 0 ∧ cap = 0 ∧ zs = []) ∨
  ∃ x, a = some x ∧ len ≤ cap ∧ cap ≤ maxLen ∧ zs.length = cap ∧ (∀ i, i < zs.length → w.cell? (x.add i) = some (.int k (zs.getD i 0))) ∧ ∀ n ∈ zs, (Lit.int k n).wf = true

set_option maxHeartbeats 1600000 in
theorem walk (a0 : Option Addr) (len0 cap0 : Nat) (z0 : List Int) (a1 : Option Addr) (len1 cap1 : Nat) (z1 : List Int) (a2 : Int) (w : World) (w0 : IsRow .i64 w a0 len0 cap0 z0) (w1 : IsRow .i64 w a1 len1 cap1 z1) (w2 : (Lit.int .i64 a2).wf = true) :
    Calls Try.prog 7 #[.slice a0 len0 cap0, .slice a1 len1 cap1, .int .i64 a2] w fun e w' => e = .returned (.bool true) ∧ Below w.heap.size w w' := by
  obtain ⟨x, hx, LX, MX, CX, DX, FX⟩ := row_openI w0
  obtain ⟨y, hy, LY, MY, CY, DY, FY⟩ := row_openI w1
  subst hx hy
  have HX : Hid (Lst .i64 w a0 x) := LX
  have HY : Hid (Lst .i64 w a1 y) := LY
  have GX : Hid (a0 = none → cap0 = 0) := FX
  have GY : Hid (a1 = none → cap1 = 0) := FY
  have mx : x.length ≤ 9223372036854775807 := MX
  have my : y.length ≤ 9223372036854775807 := MY
  clear w0 w1 w2 LX LY MX MY DX DY CX CY FX FY
  by_cases hov : 9223372036854775807 < x.length + y.length
  · obtain ⟨S, eS⟩ : ∃ S, wrap64 ((x.length : Int) + (y.length : Int)) = S := ⟨_, rfl⟩
    have hS : S < 0 := by rw [← eS]; unfold wrap64; omega
    rcases ok_or a2 with hb | ⟨b, rfl, hb⟩
    · have H : Hid (NotOk a2) := hb
      clear hb
      go_enter Try.func7, Try.ntmps7
      go_wp2_with (first
        | (go_at_call 16; refine (refBits_no _ H.out _).mono ?_; rintro e w' ⟨rfl, hww⟩; cases hww.symm; clear hww)
        | (go_at_call 8; refine (pkAwake_any _).mono ?_; rintro e wa ⟨rfl, hba⟩))
      go_ret
      exact ⟨rfl, hba⟩
    have H : Hid (Pk.Ok b) := hb
    have hb8 := ok_le hb
    clear hb
    by_cases h1 : 256 < x.length
    · obtain ⟨P, eP⟩ : ∃ P, wrap64 ((x.length : Int) * (b : Int)) = P := ⟨_, rfl⟩
      by_cases hP : P.tmod 64 = 0
      · go_enter Try.func7, Try.ntmps7
        go_wp2_with (first
          | (go_at_call 16; refine (refBits_yes _ H.out _).mono ?_; rintro e w' ⟨rfl, hww⟩; cases hww.symm; clear hww)
          | (go_at_call 10; refine (refRight_many _ _ _ _ H.out h1 _).mono ?_; rintro e w' ⟨rfl, hww⟩; cases hww.symm; clear hww)
          | (go_at_call 8; refine (pkAwake_any _).mono ?_; rintro e wa ⟨rfl, hba⟩))
        go_ret
        exact ⟨rfl, hba⟩
      · have gP : (P.tmod 64 != 0) = true := by rw [bne_iff_ne]; exact hP
        go_enter Try.func7, Try.ntmps7
        go_wp2_with (first
          | (go_at_call 16; refine (refBits_yes _ H.out _).mono ?_; rintro e w' ⟨rfl, hww⟩; cases hww.symm; clear hww)
          | (go_at_call 8; refine (pkAwake_any _).mono ?_; rintro e wa ⟨rfl, hba⟩))
        go_ret
        exact ⟨rfl, hba⟩
    · have h1 : x.length ≤ 256 := by omega
      have h2 : 256 < y.length := by omega
      obtain ⟨p, ep⟩ : ∃ p, x.length * b = p := ⟨_, rfl⟩
      have hp : p ≤ 256 * 8 := by rw [← ep]; exact Nat.mul_le_mul h1 hb8.2
      have hpi : (x.length : Int) * (b : Int) = (p : Int) := by rw [← ep]; exact (Int.natCast_mul _ _).symm
      clear ep
      by_cases hP : p % 64 = 0
      · have gP : (p : Int) % 64 = 0 := by omega
        cases hc : Pk.cds b x
        · have HR : Hid (Pk.right b x = 11) := Pk.right_no hc
          clear hc
          go_enter Try.func7, Try.ntmps7
          go_wp2_with (first
            | (go_at_call 16; refine (refBits_yes _ H.out _).mono ?_; rintro e w' ⟨rfl, hww⟩; cases hww.symm; clear hww)
            | (go_at_call 10; refine (refRight_any _ _ _ x H.out h1 _ HX.out).mono ?_; rintro e w' ⟨rfl, hww⟩; cases hww.symm; clear hww; rw [HR.out])
            | (go_at_call 8; refine (pkAwake_any _).mono ?_; rintro e wa ⟨rfl, hba⟩))
          go_ret
          exact ⟨rfl, hba⟩
        · have HR : Hid (Pk.right b x = 0) := Pk.right_yes hc
          clear hc
          go_enter Try.func7, Try.ntmps7
          go_wp2_with fail
          refine (refBits_yes _ H.out _).mono ?_
          rintro e w' ⟨rfl, hww⟩
          cases hww.symm
          clear hww
          go_wp2_with fail
          refine (refRight_any _ _ _ x H.out h1 _ HX.out).mono ?_
          rintro e w' ⟨rfl, hww⟩
          cases hww.symm
          clear hww
          rw [HR.out]
          go_wp2_with fail
          refine (refRight_many _ _ _ _ H.out h2 _).mono ?_
          rintro e w' ⟨rfl, hww⟩
          cases hww.symm
          clear hww
          go_wp2_with (go_at_call 8; refine (pkAwake_any _).mono ?_; rintro e wa ⟨rfl, hba⟩)
          go_ret
          exact ⟨rfl, hba⟩
      · have gP : ((p : Int) % 64 != 0) = true := by rw [bne_iff_ne]; omega
        go_enter Try.func7, Try.ntmps7
        go_wp2_with (first
          | (go_at_call 16; refine (refBits_yes _ H.out _).mono ?_; rintro e w' ⟨rfl, hww⟩; cases hww.symm; clear hww)
          | (go_at_call 8; refine (pkAwake_any _).mono ?_; rintro e wa ⟨rfl, hba⟩))
        go_ret
        exact ⟨rfl, hba⟩
  by_cases hs : 256 < x.length + y.length
  · go_enter Try.func7, Try.ntmps7
    go_wp2_with (go_at_call 8; refine (pkAwake_any _).mono ?_; rintro e wa ⟨rfl, hba⟩)
    go_ret
    exact ⟨rfl, hba⟩
  have hs : x.length + y.length ≤ 256 := by omega
  clear hov mx my
  rcases ok_or a2 with hb | ⟨b, rfl, hb⟩
  · have H : Hid (NotOk a2) := hb
    clear hb
    go_enter Try.func7, Try.ntmps7
    go_wp2_with (first
      | (go_at_call 16; refine (refBits_no _ H.out _).mono ?_; rintro e w' ⟨rfl, hww⟩; cases hww.symm; clear hww)
      | (go_at_call 8; refine (pkAwake_any _).mono ?_; rintro e wa ⟨rfl, hba⟩))
    go_ret
    exact ⟨rfl, hba⟩
  have H : Hid (Pk.Ok b) := hb
  have hb8 := ok_le hb
  obtain ⟨p, ep⟩ : ∃ p, x.length * b = p := ⟨_, rfl⟩
  have hp : p ≤ 256 * 8 := by rw [← ep]; exact Nat.mul_le_mul (by omega) hb8.2
  have hpi : (x.length : Int) * (b : Int) = (p : Int) := by rw [← ep]; exact (Int.natCast_mul _ _).symm
  by_cases hP : p % 64 = 0
  · have gP : (p : Int) % 64 = 0 := by omega
    have hs0 : Pk.shift b x.length = 0 := Pk.shift_even hb (by rw [ep]; exact hP)
    clear ep
    cases hc : Pk.cds b x
    · have HR : Hid (Pk.right b x = 11) := Pk.right_no hc
      clear hc hb hs0
      go_enter Try.func7, Try.ntmps7
      go_wp2_with (first
        | (go_at_call 16; refine (refBits_yes _ H.out _).mono ?_; rintro e w' ⟨rfl, hww⟩; cases hww.symm; clear hww)
        | (go_at_call 10; refine (refRight_any _ _ _ x H.out (by omega) _ HX.out).mono ?_; rintro e w' ⟨rfl, hww⟩; cases hww.symm; clear hww; rw [HR.out])
        | (go_at_call 8; refine (pkAwake_any _).mono ?_; rintro e wa ⟨rfl, hba⟩))
      go_ret
      exact ⟨rfl, hba⟩
    cases hd : Pk.cds b y
    · have HR : Hid (Pk.right b x = 0) := Pk.right_yes hc
      have HQ : Hid (Pk.right b y = 11) := Pk.right_no hd
      clear hc hb hd hs0
      go_enter Try.func7, Try.ntmps7
      go_wp2_with fail
      refine (refBits_yes _ H.out _).mono ?_
      rintro e w' ⟨rfl, hww⟩
      cases hww.symm
      clear hww
      go_wp2_with fail
      refine (refRight_any _ _ _ x H.out (by omega) _ HX.out).mono ?_
      rintro e w' ⟨rfl, hww⟩
      cases hww.symm
      clear hww
      rw [HR.out]
      go_wp2_with fail
      refine (refRight_any _ _ _ y H.out (by omega) _ HY.out).mono ?_
      rintro e w' ⟨rfl, hww⟩
      cases hww.symm
      clear hww
      rw [HQ.out]
      go_wp2_with (go_at_call 8; refine (pkAwake_any _).mono ?_; rintro e wa ⟨rfl, hba⟩)
      go_ret
      exact ⟨rfl, hba⟩
    have HR : Hid (Pk.right b x = 0) := Pk.right_yes hc
    have HQ : Hid (Pk.right b y = 0) := Pk.right_yes hd
    have HC : Hid (Pk.Cds b x) := Pk.cds_Cds hc
    have HD : Hid (Pk.Cds b y) := Pk.cds_Cds hd
    have HE : Hid (Pk.Cds b (x ++ y)) := Pk.cds_Cds (Pk.cds_append hc hd)
    have EJ : Hid (Pk.pack b (x ++ y) = Pk.pack b x ++ Pk.pack b y) := Pk.pack_append x y hb hs0 HC.out
    have zx := Pk.size_le hb (show x.length ≤ 256 by omega)
    have zy := Pk.size_le hb (show y.length ≤ 256 by omega)
    obtain ⟨m, em⟩ : ∃ m, Pk.size b x.length = m := ⟨_, rfl⟩
    obtain ⟨n, en⟩ : ∃ n, Pk.size b y.length = n := ⟨_, rfl⟩
    have EM : Hid (Pk.size b x.length = m) := em
    have EN : Hid (Pk.size b y.length = n) := en
    rw [em] at zx
    rw [en] at zy
    have LM : Hid ((Pk.pack b x).length = m) := by show _ = _; rw [Pk.pack_length, em]
    have LN : Hid ((Pk.pack b y).length = n) := by show _ = _; rw [Pk.pack_length, en]
    have EMN : Hid (Pk.size b (x ++ y).length = m + n) := by
      show _ = _
      rw [List.length_append, (Pk.word_add y.length hb hs0).2.2, en, ← em, (Pk.size_even hb hs0).1]
    have LMN : Hid ((Pk.pack b (x ++ y)).length = m + n) := by show _ = _; rw [Pk.pack_length, EMN.out]
    have LXY : Hid ((x ++ y).length = x.length + y.length) := List.length_append
    clear hc hb hd hs0 em en
    go_enter Try.func7, Try.ntmps7
    go_wp2_with fail
    refine (refBits_yes _ H.out _).mono ?_
    rintro e w' ⟨rfl, hww⟩
    cases hww.symm
    clear hww
    go_wp2_with fail
    refine (refRight_any _ _ _ x H.out (by omega) _ HX.out).mono ?_
    rintro e w' ⟨rfl, hww⟩
    cases hww.symm
    clear hww
    rw [HR.out]
    go_wp2_with fail
    refine (refRight_any _ _ _ y H.out (by omega) _ HY.out).mono ?_
    rintro e w' ⟨rfl, hww⟩
    cases hww.symm
    clear hww
    rw [HQ.out]
    go_wp2_with fail
    refine (pack_okz _ _ _ _ m x rfl H.out (by omega) EM.out _ HX.out HC.out).mono ?_
    rintro e u1 ⟨g1, rfl, P1, hB⟩
    have W1 : Hid (Below w.heap.size w u1) := hB
    have X1 : Hid (Lst .i64 u1 a0 x) := HX.out.keep hB
    have Y1 : Hid (Lst .i64 u1 a1 y) := HY.out.keep hB
    have P1 : Hid (Lst .u64 u1 (some ⟨g1, 0, none⟩) (Pk.pack b x)) := P1
    clear hB HX HY
    go_wp2_with fail
    refine (pack_okz _ _ _ _ n y rfl H.out (by omega) EN.out _ Y1.out HD.out).mono ?_
    rintro e u2 ⟨g2, rfl, Q2, hB⟩
    have W2 : Hid (Below w.heap.size w u2) := below_then W1.out hB
    have X2 : Hid (Lst .i64 u2 a0 x) := X1.out.keep hB
    have Y2 : Hid (Lst .i64 u2 a1 y) := Y1.out.keep hB
    have P2 : Hid (Lst .u64 u2 (some ⟨g1, 0, none⟩) (Pk.pack b x)) := P1.out.keep hB
    have Q2 : Hid (Lst .u64 u2 (some ⟨g2, 0, none⟩) (Pk.pack b y)) := Q2
    clear hB X1 Y1 P1 W1
    go_wp2_with (first
      | (at_builtin; refine wpList_append_lst rfl (.tmp 58) (.tmp 59) 22 rfl u2.heap.size 3 .i64 8 Try.underlying22 Try.infoI64 _ 0 [] (by rfl) (World.ownsRow_made u2 #[] 0 (Nat.le_refl _) (by decide) rfl) a0 x cap0 (by rfl) (X2.out.keep (box_under _ _)) GX.out (by unfold maxLen; omega) (by omega) (by simp) ?_; intro v1 u3 ho1 hg1; simp only [Nat.zero_add, List.nil_append] at ho1; have B3 : Hid (Below u2.heap.size u2 u3) := (box_under u2 _).grown hg1 (by simp) (fun j hj => by simp [Value.ownBlock] at hj; omega); have O1 : Hid (u3.ownsRow u2.heap.size 3 1 v1 x.length (x.map (Value.int .i64))) := ho1; clear ho1 hg1)
      | (at_builtin; refine wpList_append_lst rfl (.tmp 60) (.tmp 61) 22 rfl u2.heap.size 3 .i64 8 Try.underlying22 Try.infoI64 v1 x.length _ (by rfl) O1.out a1 y cap1 (by rfl) (Y2.out.keep B3.out) GY.out (by unfold maxLen; omega) (by omega) B3.out.size ?_; intro v2 u4 ho2 hg2; have B4 : Hid (Below u2.heap.size u2 u4) := B3.out.grown hg2 B3.out.size (fun j hj => (O1.out.lt j hj).1); rw [← List.map_append] at ho2; obtain ⟨ac, cc, rfl, LC⟩ := lst_of_ownm ho2 LXY.out.symm; have C4 : Hid (Lst .i64 u4 ac (x ++ y)) := LC; clear LC ho2 hg2 O1 B3))
    refine (pack_okz _ _ _ _ (m + n) (x ++ y) LXY.out.symm H.out (by rw [LXY.out]; omega) EMN.out _ C4.out HE.out).mono ?_
    rintro e u5 ⟨g3, rfl, R5, hB⟩
    have B5 := below_then B4.out hB
    have W5 : Hid (Below w.heap.size w u5) := below_then W2.out B5
    have P5 : Hid (Lst .u64 u5 (some ⟨g1, 0, none⟩) (Pk.pack b x)) := P2.out.keep B5
    have Q5 : Hid (Lst .u64 u5 (some ⟨g2, 0, none⟩) (Pk.pack b y)) := Q2.out.keep B5
    have R5 : Hid (Lst .u64 u5 (some ⟨g3, 0, none⟩) (Pk.pack b (x ++ y))) := R5
    clear hB X2 Y2 P2 Q2 W2 B4 B5 C4
    go_wp2_with (first
      | (at_builtin; refine wpList_append_lst_g (by rfl) (.tmp 79) (.tmp 80) 24 rfl u5.heap.size 41 .u64 8 Try.underlying24 Try.infoU64 _ 0 [] (by rfl) (World.ownsRow_made u5 #[] 0 (Nat.le_refl _) (by decide) rfl) _ _ m m LM.out.symm (by rfl) (P5.out.keep (box_under _ _)) (fun h => by cases h) (by rw [LM.out]; unfold maxLen; omega) (by rw [LM.out]; omega) (by simp) ?_; intro v3 u6 ho3 hg3; simp only [Nat.zero_add, List.nil_append] at ho3; have B6 : Hid (Below u5.heap.size u5 u6) := (box_under u5 _).grown hg3 (by simp) (fun j hj => by simp [Value.ownBlock] at hj; omega); have O3 : Hid (u6.ownsRow u5.heap.size 41 1 v3 m ((Pk.pack b x).map (Value.int .u64))) := (by rw [LM.out] at ho3; exact ho3); clear ho3 hg3)
      | (at_builtin; refine wpList_append_lst_g (by rfl) (.tmp 81) (.tmp 82) 24 rfl u5.heap.size 41 .u64 8 Try.underlying24 Try.infoU64 v3 m _ (by rfl) O3.out _ _ n n LN.out.symm (by rfl) (Q5.out.keep B6.out) (fun h => by cases h) (by rw [LN.out]; unfold maxLen; omega) (by rw [LN.out]; omega) B6.out.size ?_; intro v4 u7 ho4 hg4; have B7 : Hid (Below u5.heap.size u5 u7) := B6.out.grown hg4 B6.out.size (fun j hj => (O3.out.lt j hj).1); rw [← List.map_append, LN.out, ← EJ.out] at ho4; obtain ⟨ae, ce, rfl, LE⟩ := lst_of_ownm ho4 LMN.out.symm; have E7 : Hid (Lst .u64 u7 ae (Pk.pack b (x ++ y))) := LE; have R7 : Hid (Lst .u64 u7 (some ⟨g3, 0, none⟩) (Pk.pack b (x ++ y))) := R5.out.keep B7.out; have W7 : Hid (Below w.heap.size w u7) := below_then W5.out B7.out; clear LE ho4 hg4 O3 B6)
      | (go_at_call 12; refine (refSame_anym _ _ _ _ _ _ _ _ _ LMN.out.symm LMN.out.symm R7.out E7.out (by rw [LMN.out]; omega) rfl).mono ?_; rintro e u8 ⟨rfl, hB⟩; have W8 : Hid (Below w.heap.size w u8) := below_then W7.out hB; clear hB)
      | (go_at_call 8; refine (pkAwake_any _).mono ?_; rintro e wa ⟨rfl, hba⟩))
    go_ret
    exact ⟨rfl, below_then W8.out hba⟩
  · have gP : ((p : Int) % 64 != 0) = true := by rw [bne_iff_ne]; omega
    clear ep hb
    go_enter Try.func7, Try.ntmps7
    go_wp2_with (first
      | (go_at_call 16; refine (refBits_yes _ H.out _).mono ?_; rintro e w' ⟨rfl, hww⟩; cases hww.symm; clear hww)
      | (go_at_call 8; refine (pkAwake_any _).mono ?_; rintro e wa ⟨rfl, hba⟩))
    go_ret
    exact ⟨rfl, hba⟩

set_option maxRecDepth 100000 in
theorem lifted (os : Os) (started : os.Started) (H : Type) (enc : TypeId × Value → H) :
    ReturnsInHanded {} Try.checked os 7 .any (Rows.packJoinsSpec.pre6 enc Try.prog Try.f7 Rows.packJoinsRow.domain false) (Rows.packJoinsSpec.post enc Try.prog Try.f7 false true false false) := by
  refine returnsInHanded_of_change (C := Try.checked) own started (by kernel_rfl) Try.func7
    (ChangeSpec.witness6 (enc := enc) (C := Try.checked) false ⟨#[], #[.slice none 0 0, .slice none 0 0, .int .i64 0], []⟩ 8 (by kernel_rfl) (by kernel_rfl) (by kernel_rfl) (by kernel_rfl)) ?_
  intro W base args ds gs before hval0 hW hcnd _
  have hval : ∀ (j : Nat) t v, Try.f7.params[j]? = some t → args[j]? = some v → Value.okWide Try.prog W .any base t v := hval0
  have hW' := hW
  obtain ⟨p, q, hA0, hV, rfl, hfz, hnd⟩ := hW
  have hA : DataW.TrodAll enc Try.prog W 0 (fun _ => true) true Try.f7.params.toList args.toList ds p := hA0
  rw [Try.params7] at hA hval
  obtain ⟨v0, vs0, d0, ds0, p0, q0, hargs, rfl, rfl, h0, r0⟩ := trodAll_cons hA
  obtain ⟨v1, vs1, d1, ds1, p1, q1, rfl, rfl, rfl, h1, r1⟩ := trodAll_cons r0
  obtain ⟨v2, vs2, d2, ds2, p2, q2, rfl, rfl, rfl, h2, r2⟩ := trodAll_cons r1
  obtain ⟨rfl, rfl, rfl⟩ := trodAll_nil r2
  obtain rfl : args = #[v0, v1, v2] := by cases args; simp_all
  obtain ⟨rfl, rfl⟩ := trodVars_none hV
  obtain ⟨a0, len0, cap0, rfl⟩ := okWide_slice Try.underlying22 (hval 0 22 v0 rfl rfl)
  have k0 := h0
  have lt0 : ∀ x ∈ p0, x.block < W.heap.size := by obtain ⟨m, hm⟩ := k0; exact DataW.trod_lt m _ _ _ hm
  obtain ⟨z0, w0⟩ : ∃ zs, IsRow .i64 W a0 len0 cap0 zs := by
    obtain ⟨fuel, hf⟩ := h0
    rcases open_ints Try.underlying22 Try.underlying3 (by kernel_rfl) hf with ⟨hcs, _⟩ | ⟨x, l, c, zs, hcs, _, hl, hm, hz, _, hcell, hwz⟩
    · simp [Value.cells] at hcs
      obtain ⟨rfl, rfl, rfl⟩ := hcs
      exact ⟨[], .inl ⟨rfl, rfl, rfl, rfl⟩⟩
    · simp [Value.cells] at hcs
      obtain ⟨rfl, rfl, rfl⟩ := hcs
      exact ⟨zs, .inr ⟨_, rfl, hl, hm, by simpa using hz, hcell, hwz⟩⟩
  obtain ⟨a1, len1, cap1, rfl⟩ := okWide_slice Try.underlying22 (hval 1 22 v1 rfl rfl)
  have k1 := h1
  have lt1 : ∀ x ∈ p1, x.block < W.heap.size := by obtain ⟨m, hm⟩ := k1; exact DataW.trod_lt m _ _ _ hm
  obtain ⟨z1, w1⟩ : ∃ zs, IsRow .i64 W a1 len1 cap1 zs := by
    obtain ⟨fuel, hf⟩ := h1
    rcases open_ints Try.underlying22 Try.underlying3 (by kernel_rfl) hf with ⟨hcs, _⟩ | ⟨x, l, c, zs, hcs, _, hl, hm, hz, _, hcell, hwz⟩
    · simp [Value.cells] at hcs
      obtain ⟨rfl, rfl, rfl⟩ := hcs
      exact ⟨[], .inl ⟨rfl, rfl, rfl, rfl⟩⟩
    · simp [Value.cells] at hcs
      obtain ⟨rfl, rfl, rfl⟩ := hcs
      exact ⟨zs, .inr ⟨_, rfl, hl, hm, by simpa using hz, hcell, hwz⟩⟩
  obtain ⟨a2, rfl, rfl, rfl, w2⟩ := open_int Try.underlying3 (hval 2 3 v2 rfl rfl) h2
  clear hA0 hval0
  refine (walk a0 len0 cap0 z0 a1 len1 cap1 z1 a2 W w0 w1 w2).mono fun e W' ⟨he, bel⟩ => ?_
  subst he
  exact ⟨_, rfl, _, _, _, [], _, [], hW', trodAll_mk1 (shut_bool Try.underlying4 _), (trodAll_cons_mk (Below.trod laidOut (by kernel_rfl) (of_decide_eq_true (by kernel_rfl)) k0 bel lt0) (trodAll_cons_mk (Below.trod laidOut (by kernel_rfl) (of_decide_eq_true (by kernel_rfl)) k1 bel lt1) (trodAll_cons_mk (shut_int Try.underlying3 w2) trodAll_mk0))), rfl, bel.frame _, fun h => by cases h⟩

theorem over : Rows.packJoinsRow.holds Try.pinned (OpenSpec.ofChange Rows.packJoinsSpec) :=
  OpenClaim.holds_of_wide 7 Try.f7 rfl rfl rfl rfl rfl rfl rfl ⟨rfl, rfl, rfl, rfl, rfl⟩ rfl rfl rfl rfl rfl (by kernel_rfl) Try.func7 (by kernel_rfl)
    (of_decide_eq_true (by kernel_rfl)) (by unfold Func.isWrapper; first | (rw [if_pos (by decide +kernel)]; kernel_rfl) | (rw [if_neg (by decide +kernel)]; exact ⟨rfl, rfl⟩))
    (fun os started H enc _ => lifted os started H enc)

theorem proved : Rows.PackJoinsSaid := over
end Go.Proofs.Ytggclllegbiokaa.packJoins

namespace Go.Proofs.Ytggclllegbiokaa
theorem packJoins_holds : Rows.PackJoinsSaid := packJoins.proved
#print axioms packJoins_holds
end Go.Proofs.Ytggclllegbiokaa
