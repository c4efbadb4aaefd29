/- Of what is pushed only the oldest so many stay, if a ring is cut; what is pushed then stands behind these; a copy that was made ahead has all. -/
import Derived.Test.YtgjghnbhpnflfaaRows
import Derived.Test.YtgjghnbhpnflfaaRnLaw
import Derived.WalkKit
import Derived.ProofKit
import Derived.OpenShut
import Derived.ShutString
import Derived.ChangeOld
import Derived.Below
namespace Go.Proofs.Ytgjghnbhpnflfaa.ringCuts
open Go.ChangeShapes Go.WideShapes Go.ChangeAt Go.RowKit
set_option linter.unusedVariables false

theorem own : ownKnob Try.prog.godebug = none := by kernel_rfl
theorem laidOut : laidOutB Try.prog = true := by kernel_rfl

/-- What the walk is told of a slice of integers that came in. -/
def IsRow (k : IntKind) (w : World) (a : Option Addr) (len cap : Nat) (zs : List Int) : Prop :=
  (a = none ∧ len = 0 ∧ cap = 0 ∧ zs = []) ∨
  ∃ x, a = some x ∧ len ≤ cap ∧ cap ≤ maxLen ∧ zs.length = cap ∧ (∀ i, i < zs.length → w.cell? (x.add i) = some (.int k (zs.getD i 0))) ∧ ∀ n ∈ zs, (Lit.int k n).wf = true

set_option maxRecDepth 100000 in
set_option maxHeartbeats 3200000 in
theorem walk (b00 : Int) (b01 : Int) (b02 : Int) (a03 : Option Addr) (len03 cap03 : Nat) (z03 : List Int) (w : World) (w00 : (Lit.int .i64 b00).wf = true) (w01 : (Lit.int .i64 b01).wf = true) (w02 : (Lit.int .i64 b02).wf = true) (w03 : IsRow .i64 w a03 len03 cap03 z03) :
    Calls Try.prog 6 #[.agg #[.int .i64 b00, .int .i64 b01, .int .i64 b02, .slice a03 len03 cap03]] w fun e w' => e = .returned (.bool true) ∧ Below w.heap.size w w' := by
  -- depth
  -- frame
  obtain ⟨ls, hl, HLc, ML⟩ := row_openI w03
  have HL : Hid (Lst .i64 w a03 ls) := HLc
  have LL : Hid (ls.length = len03) := hl
  have hz0 := bounds_i64 w00
  have hz1 := bounds_i64 w01
  have hz2 := bounds_i64 w02
  unfold maxLen at ML
  clear w00 w01 w02 w03 HLc hl
  obtain ⟨q1, e1⟩ : ∃ q, decide (b00 < 1) = q := ⟨_, rfl⟩
  obtain ⟨q2, e2⟩ : ∃ q, decide (60 < b00) = q := ⟨_, rfl⟩
  obtain ⟨q3, e3⟩ : ∃ q, decide (b01 < 0) = q := ⟨_, rfl⟩
  obtain ⟨q4, e4⟩ : ∃ q, decide (b00 < b01) = q := ⟨_, rfl⟩
  obtain ⟨q5, e5⟩ : ∃ q, decide (b02 < 0) = q := ⟨_, rfl⟩
  obtain ⟨q6, e6⟩ : ∃ q, decide (b01 < b02) = q := ⟨_, rfl⟩
  obtain ⟨q7, e7⟩ : ∃ q, decide ((60 : Int) < (len03 : Int)) = q := ⟨_, rfl⟩
  by_cases hq : q1 = true ∨ q2 = true ∨ q3 = true ∨ q4 = true ∨ q5 = true ∨ q6 = true ∨ q7 = true
  · have hf : q1 = true ∨ (q1 = false ∧ q2 = true) ∨ (q1 = false ∧ q2 = false ∧ q3 = true) ∨ (q1 = false ∧ q2 = false ∧ q3 = false ∧ q4 = true) ∨ (q1 = false ∧ q2 = false ∧ q3 = false ∧ q4 = false ∧ q5 = true) ∨ (q1 = false ∧ q2 = false ∧ q3 = false ∧ q4 = false ∧ q5 = false ∧ q6 = true) ∨ (q1 = false ∧ q2 = false ∧ q3 = false ∧ q4 = false ∧ q5 = false ∧ q6 = false ∧ q7 = true) := by
      cases q1 <;> cases q2 <;> cases q3 <;> cases q4 <;> cases q5 <;> cases q6 <;> cases q7 <;> simp_all
    clear hq hz0 hz1 hz2 ML HL LL
    rcases hf with rfl | ⟨rfl, rfl⟩ | ⟨rfl, rfl, rfl⟩ | ⟨rfl, rfl, rfl, rfl⟩ | ⟨rfl, rfl, rfl, rfl, rfl⟩ | ⟨rfl, rfl, rfl, rfl, rfl, rfl⟩ | ⟨rfl, rfl, rfl, rfl, rfl, rfl, rfl⟩
    all_goals
      go_enter Try.func6, Try.ntmps6
      go_wp2
      go_quiet (fail)
      go_wp2_with (go_at_call 7; refine (Rn.awake_any _).mono ?_; rintro e wa ⟨rfl, hba⟩)
      go_ret
      exact ⟨rfl, below_then (Rn.below_drewN (Rn.box_below _ _) _) hba⟩
  have hall : q1 = false ∧ q2 = false ∧ q3 = false ∧ q4 = false ∧ q5 = false ∧ q6 = false ∧ q7 = false := by
    cases q1 <;> cases q2 <;> cases q3 <;> cases q4 <;> cases q5 <;> cases q6 <;> cases q7 <;> simp_all
  obtain ⟨rfl, rfl, rfl, rfl, rfl, rfl, rfl⟩ := hall
  have j1 := of_decide_eq_false e1
  have j2 := of_decide_eq_false e2
  have j3 := of_decide_eq_false e3
  have j4 := of_decide_eq_false e4
  have j5 := of_decide_eq_false e5
  have j6 := of_decide_eq_false e6
  have j7 := of_decide_eq_false e7
  obtain ⟨n, rfl⟩ : ∃ n : Nat, b00 = n := ⟨b00.toNat, by omega⟩
  obtain ⟨m, rfl⟩ : ∃ n : Nat, b01 = n := ⟨b01.toNat, by omega⟩
  obtain ⟨k, rfl⟩ : ∃ n : Nat, b02 = n := ⟨b02.toNat, by omega⟩
  have hn : n ≤ 60 := by omega
  have hmn : m ≤ n := by omega
  have hkm : k ≤ m := by omega
  have hl60 : len03 ≤ 60 := by omega
  obtain ⟨i0, hi0, hi1, hi2, hi3⟩ := info_parts Try.infoIntR
  clear hq hz0 hz1 hz2 ML j1 j2 j3 j4 j5 j6 j7
  go_enter Try.func6, Try.ntmps6
  go_wp2
  go_quiet (fail)
  go_wp2_with fail
  refine (Rn.new_ok n (by omega) _).mono ?_
  rintro e w1 ⟨g, q, rfl, hr, hg, hq, hb⟩
  have R1 : Hid (Rn.RingAt w1 g q n 0 []) := hr
  have GQ : Hid (w.heap.size ≤ g ∧ w.heap.size ≤ q) := by simp at hg hq; exact ⟨by omega, by omega⟩
  have B1 : Hid (Below w.heap.size w w1) := below_then (Rn.below_drewN (Rn.box_below _ _) _) hb
  obtain ⟨s1, es⟩ : ∃ s, w1.heap.size = s := ⟨_, rfl⟩
  have ES : Hid (w1.heap.size = s1) := es
  have LT : Hid (g < s1 ∧ q < s1 ∧ w.heap.size ≤ s1) := by have := hr.lt; have := B1.out.size; show _ ∧ _ ∧ _; omega
  clear hr hg hq hb es e1 e2 e3 e4 e5 e6
  go_wp2
  go_loopw [9, 66] (fun v i wq => ∃ y : Nat, y ≤ m ∧ i = .int .i64 y ∧ Hid (wq.ownsRow s1 3 1 v y ((Ls.gen y fun j => 1000 + (j : Int)).map (Value.int .i64))) ∧ Hid (Rn.RingAt wq g q n 0 (Ls.gen y fun j => 1000 + (j : Int))) ∧ Hid (Below w.heap.size w wq) ∧ Hid (s1 ≤ wq.heap.size)) (fun _ i _ => m - (intOf i).toNat)
  case atStart => exact ⟨0, Nat.zero_le _, rfl, World.ownsRow_nil _ _ _ _, R1.out, B1.out, by have := ES.out; show s1 ≤ w1.heap.size; omega⟩
  case round =>
    clear R1 B1
    obtain ⟨y, hy, rfl, HO, RR, BR, SZ⟩ := hrel
    by_cases hlt : y < m
    · go_wp2_with (first
        | (go_at_call 14; refine (Rn.push_ok g q n 0 (1000 + (y : Int)) _ _ RR.out (by rw [Ls.gen_length]; omega)).mono ?_; rintro e w3 ⟨rfl, hr, hb⟩; have R3 : Hid (Rn.RingAt w3 g q n 0 ((Ls.gen y fun j => 1000 + (j : Int)) ++ [1000 + (y : Int)])) := hr; have O3 : Hid (w3.ownsRow s1 3 1 u9 y ((Ls.gen y fun j => 1000 + (j : Int)).map (Value.int .i64))) := Rn.own_at HO.out (fun z hz => hb.2 z (HO.out.lt z hz).2 (by have := (HO.out.lt z hz).1; have := LT.out; omega) (by have := (HO.out.lt z hz).1; have := LT.out; omega)); have B3 : Hid (Below w.heap.size w w3) := BR.out.trans (hb.below GQ.out.1 GQ.out.2 BR.out.size); have S3 : s1 ≤ w3.heap.size := Nat.le_trans SZ.out hb.size; clear hr hb)
        | (at_builtin; refine wpList_append_lies _ rfl _ _ _ rfl s1 3 i0 _ 1 8 Try.underlying28 hi0 hi1 hi2 hi3 rfl (by omega) _ y _ (by rfl) (O3.out.alloc _) ⟨w3.heap.size, 0, none⟩ 1 1 [.int .i64 (1000 + (y : Int))] (by rfl) (by rfl) (World.news_of_block (cs := #[.int .i64 (1000 + (y : Int))]) (t := 3) (fr := (0, 0)) (heap_alloc_new w3 _)) (by simp [Value.oneCell']) (by omega) (by unfold maxLen; omega) (by omega) (by simp; omega) (w3.heap.size + 1) (by simp) ?_; intro gg cap w4 hown1 hgrow hat hlt1; have O4 : Hid (w4.ownsRow s1 3 1 (.slice (some ⟨gg, 0, none⟩) (y + 1) cap) (y + 1) ((Ls.gen y fun j => 1000 + (j : Int)).map (Value.int .i64) ++ [.int .i64 (1000 + (y : Int))])) := hown1; have BL : Hid (Below s1 w3 w4) := ((Below.refl s1 w3).alloc S3 _).grown hgrow (by simp; omega) (fun z hz => (O3.out.lt z hz).1); clear hown1 hgrow hat))
      go_roundw
      case rel =>
        refine ⟨y + 1, by omega, by go_num, ?_, ?_, B3.out.trans (BL.out.mono LT.out.2.2), Nat.le_trans S3 BL.out.size⟩
        · rw [Ls.gen_succ, List.map_append]; exact O4.out
        · rw [Ls.gen_succ]
          exact R3.out.of_block (BL.out.block g LT.out.1) (BL.out.block q LT.out.2.1)
      case measure => simp [intOf]; omega
    · have ey : y = m := by omega
      subst ey
      obtain ⟨L, eL⟩ : ∃ L, (Ls.gen y fun j => 1000 + (j : Int)) = L := ⟨_, rfl⟩
      have LM : Hid (L.length = y) := by rw [← eL]; exact Ls.gen_length _ _
      rw [eL] at HO RR
      have ho := HO.out
      rw [← LM.out] at ho
      obtain ⟨va, vc, ev, hva, hvc, hvm⟩ := lst_of_own ho
      rw [LM.out] at ev hvc
      subst ev
      have HO1 : Hid (wr.ownsRow s1 3 1 (.slice va y vc) y (L.map (Value.int .i64))) := HO.out
      have NN : Hid (va = none → vc = 0) := Rn.own_none HO1.out rfl
      unfold maxLen at hvm
      clear eL ho hva HO
      go_wp2_with fail
      refine (Rn.copy_any g q n 0 L _ RR.out).mono ?_
      rintro e w2 ⟨o, oq, rfl, hr, ho, hoq, hb⟩
      have C2 : Hid (Rn.RingAt w2 o oq n 0 L) := hr
      have R2 : Hid (Rn.RingAt w2 g q n 0 L) := RR.out.keep hb
      have O2 : Hid (w2.ownsRow s1 3 1 (.slice va y vc) y (L.map (Value.int .i64))) := Rn.own_below HO1.out hb
      have OO : Hid (g < o ∧ q < o ∧ g < oq ∧ q < oq ∧ s1 ≤ o ∧ s1 ≤ oq) := by have := LT.out; have := SZ.out; show _ ∧ _ ∧ _ ∧ _ ∧ _ ∧ _; omega
      have B2 : Hid (Below w.heap.size w w2) := below_then BR.out hb
      have S2 : Hid (s1 ≤ w2.heap.size) := Nat.le_trans SZ.out hb.size
      clear hr ho hoq hb RR HO1 BR SZ
      go_wp2_with fail
      refine (Rn.cut_yes g q n 0 k L _ R2.out (by have := LM.out; omega)).mono ?_
      rintro e w3 ⟨rfl, hr, hb⟩
      have R3 : Hid (Rn.RingAt w3 g q n 0 (L.take k)) := hr
      have C3 : Hid (Rn.RingAt w3 o oq n 0 L) := C2.out.of_block (hb.2 o C2.out.lt.1 (by have := OO.out; omega) (by have := OO.out; omega)) (hb.2 oq C2.out.lt.2 (by have := OO.out; omega) (by have := OO.out; omega))
      have O3 : Hid (w3.ownsRow s1 3 1 (.slice va y vc) y (L.map (Value.int .i64))) := Rn.own_at O2.out (fun z hz => hb.2 z (O2.out.lt z hz).2 (by have := (O2.out.lt z hz).1; have := LT.out; omega) (by have := (O2.out.lt z hz).1; have := LT.out; omega))
      have B3 : Hid (Below w.heap.size w w3) := B2.out.trans (hb.below GQ.out.1 GQ.out.2 B2.out.size)
      have L3 : Hid (Lst .i64 w3 va L) := Rn.own_list O3.out LM.out
      obtain ⟨s3, es3⟩ : ∃ s, w3.heap.size = s := ⟨_, rfl⟩
      have ES3 : Hid (w3.heap.size = s3) := es3
      have S3 : Hid (s1 ≤ s3 ∧ o < s3 ∧ oq < s3 ∧ ∀ z, Value.ownBlock (.slice va y vc) = some z → z < s3) := ⟨by have := S2.out; have := hb.size; omega, by have := C3.out.lt; omega, by have := C3.out.lt; omega, fun z hz => by have := (O3.out.lt z hz).2; omega⟩
      have TK : Hid ((L.take k).length = k) := by show _ = _; rw [List.length_take]; have := LM.out; omega
      clear hr hb R2 C2 O2 B2 S2 es3
      go_wp2_with (at_builtin; refine wpList_append_lst rfl _ _ 28 rfl s3 3 .i64 8 Try.underlying28 Try.infoIntR _ 0 [] (by rfl) (World.ownsRow_made w3 #[] 0 (by have := ES3.out; omega) (by decide) rfl) va (L.take k) vc (by rw [TK.out]; rfl) ((L3.out.to k).keep (Rn.box_below _ _)) NN.out (by rw [TK.out]; unfold maxLen; omega) (by rw [TK.out]; omega) (by have := ES3.out; simp; omega) ?_; intro v1 w4 ho1 hg1; simp only [Nat.zero_add, List.nil_append] at ho1; rw [TK.out] at ho1; have O4 : Hid (w4.ownsRow s3 3 1 v1 k ((L.take k).map (Value.int .i64))) := ho1; have BL : Hid (Below s3 w3 w4) := ((Below.refl s3 w3).alloc (by have := ES3.out; omega) _).grown hg1 (by have := ES3.out; simp; omega) (fun z hz => by have e : w3.heap.size = z := Option.some.inj hz; have := ES3.out; omega); clear ho1 hg1)
      have R4 : Hid (Rn.RingAt w4 g q n 0 (L.take k)) := R3.out.of_block (BL.out.block g (by have := LT.out; have := S3.out.1; omega)) (BL.out.block q (by have := LT.out; have := S3.out.1; omega))
      have C4 : Hid (Rn.RingAt w4 o oq n 0 L) := C3.out.of_block (BL.out.block o S3.out.2.1) (BL.out.block oq S3.out.2.2.1)
      have A4 : Hid (w4.ownsRow s1 3 1 (.slice va y vc) y (L.map (Value.int .i64))) := Rn.own_at O3.out (fun z hz => BL.out.block z (S3.out.2.2.2 z hz))
      have B4 : Hid (Below w.heap.size w w4) := B3.out.trans (BL.out.mono (by have := LT.out; have := S3.out.1; omega))
      have Z4 : Hid (s3 ≤ w4.heap.size) := by have := BL.out.size; have := ES3.out; show s3 ≤ w4.heap.size; omega
      clear R3 C3 O3 B3 L3 BL
      go_loopw [12, 97] (fun v i wq => ∃ (t x : Nat) (W : List Int), t ≤ len03 ∧ i = .int .i64 t ∧ x ≤ n ∧ Hid (W.length = x) ∧ Hid (wq.ownsRow s3 3 1 v x (W.map (Value.int .i64))) ∧ Hid (Rn.RingAt wq g q n 0 W) ∧ Hid (Rn.RingAt wq o oq n 0 L) ∧ Hid (wq.ownsRow s1 3 1 (.slice va y vc) y (L.map (Value.int .i64))) ∧ Hid (Below w.heap.size w wq) ∧ Hid (s3 ≤ wq.heap.size)) (fun _ i _ => len03 - (intOf i).toNat)
      case atStart => exact ⟨0, k, L.take k, Nat.zero_le _, rfl, by omega, TK.out, O4.out, R4.out, C4.out, A4.out, B4.out, Z4.out⟩
      case round =>
        clear R4 C4 A4 B4 Z4 O4
        obtain ⟨t, x, W, ht, rfl, hx, HW, O5, R5, C5, A5, B5, Z5⟩ := hrel
        obtain ⟨wa, wc, rfl⟩ := Rn.own_slice O5.out
        by_cases hlt2 : t < len03
        · obtain ⟨ob, oo, rfl, hget⟩ := (HL.out.keep B5.out).get (show t < ls.length by rw [LL.out]; exact hlt2)
          have hcell := hget t (by rw [LL.out]; exact hlt2)
          obtain ⟨z, ez⟩ : ∃ z, Ls.nth ls t = z := ⟨_, rfl⟩
          rw [ez] at hcell
          clear hget ez
          by_cases hf : x = n
          · have WN : Hid (W.length = n) := by show _ = _; rw [HW.out]; exact hf
            subst hf
            go_wp2_with (go_at_call 14; refine (Rn.push_full g q x 0 z W _ R5.out WN.out).mono ?_; rintro e w6 ⟨rfl, p, hp⟩; have BP : Hid (Below wr.heap.size wr w6) := (by rw [hp]; exact Rn.below_drewN (Below.refl _ _) _); clear hp)
            go_roundw
            case rel => exact ⟨t + 1, x, W, by omega, by go_num, by omega, HW.out, Rn.own_below O5.out BP.out, R5.out.keep BP.out, C5.out.keep BP.out, Rn.own_below A5.out BP.out, below_then B5.out BP.out, Nat.le_trans Z5.out BP.out.size⟩
            case measure => simp [intOf]; omega
          · have dx : ((x : Int) == (n : Int)) = false := by simp; omega
            have hx2 : x < n := by omega
            clear hf
            go_wp2_with (first
              | (go_at_call 14; refine (Rn.push_ok g q n 0 z W _ R5.out (by have := HW.out; omega)).mono ?_; rintro e w6 ⟨rfl, hr, hb⟩; have R6 : Hid (Rn.RingAt w6 g q n 0 (W ++ [z])) := hr; have BU : Hid (Rn.But g q wr w6) := hb; have O6 : Hid (w6.ownsRow s3 3 1 (.slice wa x wc) x (W.map (Value.int .i64))) := Rn.own_at O5.out (fun p hp => hb.2 p (O5.out.lt p hp).2 (by have := (O5.out.lt p hp).1; have := LT.out; have := S3.out.1; omega) (by have := (O5.out.lt p hp).1; have := LT.out; have := S3.out.1; omega)); have S6 : s3 ≤ w6.heap.size := Nat.le_trans Z5.out hb.size; clear hr hb)
              | (at_builtin; refine wpList_append_lies _ rfl _ _ _ rfl s3 3 i0 _ 1 8 Try.underlying28 hi0 hi1 hi2 hi3 rfl (by omega) _ x _ (by rfl) (O6.out.alloc _) ⟨w6.heap.size, 0, none⟩ 1 1 [.int .i64 z] (by rfl) (by rfl) (World.news_of_block (cs := #[.int .i64 z]) (t := 3) (fr := (0, 0)) (heap_alloc_new w6 _)) (by simp [Value.oneCell']) (by omega) (by unfold maxLen; omega) (by omega) (by simp; omega) (w6.heap.size + 1) (by simp) ?_; intro gg cap w7 hown1 hgrow hat hlt1; have O7 : Hid (w7.ownsRow s3 3 1 (.slice (some ⟨gg, 0, none⟩) (x + 1) cap) (x + 1) (W.map (Value.int .i64) ++ [.int .i64 z])) := hown1; have BL : Hid (Below s3 w6 w7) := ((Below.refl s3 w6).alloc S6 _).grown hgrow (by simp; omega) (fun p hp => (O6.out.lt p hp).1); clear hown1 hgrow hat))
            go_roundw
            case rel =>
              have lt := LT.out
              have oo := OO.out
              have s3' := S3.out
              have far : ∀ p, p < s3 → ¬ p = g → ¬ p = q → w7.heap[p]? = wr.heap[p]? := fun p h1 h2 h3 => (BL.out.block p h1).trans (BU.out.2 p (Nat.lt_of_lt_of_le h1 Z5.out) h2 h3)
              refine ⟨t + 1, x + 1, W ++ [z], by omega, by go_num, by omega, ?_, ?_, R6.out.of_block (BL.out.block g (by omega)) (BL.out.block q (by omega)), C5.out.of_block (far o (by omega) (by omega) (by omega)) (far oq (by omega) (by omega) (by omega)), Rn.own_at A5.out (fun p hp => far p (s3'.2.2.2 p hp) (by have := (A5.out.lt p hp).1; omega) (by have := (A5.out.lt p hp).1; omega)), (B5.out.trans (BU.out.below GQ.out.1 GQ.out.2 B5.out.size)).trans (BL.out.mono (by omega)), Nat.le_trans S6 BL.out.size⟩
              · show _ = _; rw [List.length_append, HW.out]; rfl
              · rw [List.map_append]; exact O7.out
            case measure => simp [intOf]; omega
        · have et : t = len03 := by omega
          subst et
          have hlx : x ≤ 100000 := by omega
          have hly : y ≤ 100000 := by omega
          go_wp2_with fail
          refine (Rn.list_any g q n 0 W _ R5.out).mono ?_
          rintro e w6 ⟨v, rfl, ho, hb⟩
          rw [HW.out] at ho
          obtain ⟨ra, rb, rfl⟩ := Rn.own_slice ho
          have L6 : Hid (Lst .i64 w6 ra W) := Rn.own_list ho HW.out
          have W6 : Hid (Lst .i64 w6 wa W) := Rn.own_list (Rn.own_below O5.out hb) HW.out
          have C6 : Hid (Rn.RingAt w6 o oq n 0 L) := C5.out.keep hb
          have A6 : Hid (Lst .i64 w6 va L) := Rn.own_list (Rn.own_below A5.out hb) LM.out
          have B6 : Hid (Below w.heap.size w w6) := below_then B5.out hb
          clear ho hb O5 R5 C5 A5 B5
          go_wp2_with fail
          refine (Rn.same_yes ra wa x rb wc W _ L6.out W6.out HW.out hlx).mono ?_
          rintro e w7 ⟨rfl, p, hp⟩
          have BP : Hid (Below w6.heap.size w6 w7) := by rw [hp]; exact Rn.below_drewN (Below.refl _ _) _
          have C7 : Hid (Rn.RingAt w7 o oq n 0 L) := C6.out.keep BP.out
          have A7 : Hid (Lst .i64 w7 va L) := A6.out.keep BP.out
          have B7 : Hid (Below w.heap.size w w7) := below_then B6.out BP.out
          clear hp L6 W6 C6 A6 B6 BP
          go_wp2_with fail
          refine (Rn.list_any o oq n 0 L _ C7.out).mono ?_
          rintro e w8 ⟨v, rfl, ho, hb⟩
          rw [LM.out] at ho
          obtain ⟨ra, rb, rfl⟩ := Rn.own_slice ho
          have L8 : Hid (Lst .i64 w8 ra L) := Rn.own_list ho LM.out
          have A8 : Hid (Lst .i64 w8 va L) := A7.out.keep hb
          have B8 : Hid (Below w.heap.size w w8) := below_then B7.out hb
          clear ho hb C7 A7 B7
          go_wp2_with fail
          refine (Rn.same_yes ra va y rb vc L _ L8.out A8.out LM.out hly).mono ?_
          rintro e w9 ⟨rfl, p, hp⟩
          have B9 : Hid (Below w.heap.size w w9) := by rw [hp]; exact Rn.below_drewN B8.out _
          clear hp L8 A8 B8
          go_wp2_with (go_at_call 7; refine (Rn.awake_any _).mono ?_; rintro e w10 ⟨rfl, hb⟩; have Z10 : Hid (Below w9.heap.size w9 w10) := hb; clear hb)
          go_ret
          exact ⟨rfl, below_then B9.out Z10.out⟩

set_option maxRecDepth 100000 in
set_option maxHeartbeats 3200000 in
theorem lifted (os : Os) (started : os.Started) (H : Type) (enc : TypeId × Value → H) :
    ReturnsInHanded {} Try.checked os 6 .any (Rows.ringCutsSpec.pre6 enc Try.prog Try.f6 Rows.ringCutsRow.domain false) (Rows.ringCutsSpec.post enc Try.prog Try.f6 false true false false) := by
  refine returnsInHanded_of_change (C := Try.checked) own started (by kernel_rfl) Try.func6
    (ChangeSpec.witness6 (enc := enc) (C := Try.checked) false ⟨#[], #[.agg #[.int .i64 0, .int .i64 0, .int .i64 0, .slice none 0 0]], []⟩ 8 (by kernel_rfl) (by kernel_rfl) (by kernel_rfl) (by kernel_rfl)) ?_
  intro W base args ds gs before hval0 hW hcnd _
  have hval : ∀ (j : Nat) t v, Try.f6.params[j]? = some t → args[j]? = some v → Value.okWide Try.prog W .any base t v := hval0
  have hW' := hW
  obtain ⟨p, q, hA0, hV, rfl, hfz, hnd⟩ := hW
  have hA : DataW.TrodAll enc Try.prog W 0 (fun _ => true) true Try.f6.params.toList args.toList ds p := hA0
  rw [Try.params6] at hA hval
  obtain ⟨v0, vs0, d0, ds0, p0, q0, hargs, rfl, rfl, h0, r0⟩ := trodAll_cons hA
  obtain ⟨rfl, rfl, rfl⟩ := trodAll_nil r0
  obtain rfl : args = #[v0] := by cases args; simp_all
  obtain ⟨rfl, rfl⟩ := trodVars_none hV
  obtain ⟨cs0, rfl, hsz0⟩ := okWide_struct Try.underlying45 (hval 0 45 v0 rfl rfl)
  have k0 := h0
  have lt0 : ∀ x ∈ p0, x.block < W.heap.size := by obtain ⟨m, hm⟩ := k0; exact DataW.trod_lt m _ _ _ hm
  rw [show Try.prog.cellsOf 45 = 4 by kernel_rfl] at hsz0
  obtain ⟨c00, c01, c02, c03, rfl⟩ := cells4 hsz0
  obtain ⟨fuel0, hf0⟩ := h0
  obtain ⟨n0, hn0⟩ := open_fields Try.underlying45 (by kernel_rfl) (cs := [c00, c01, c02, c03]) rfl hf0
  obtain ⟨y00, hy00⟩ := hn0 0 _ _ rfl rfl
  obtain ⟨b00, e00, _, w00⟩ := DataW.trod_int Try.underlying3 hy00
  simp only [List.cons.injEq, and_true] at e00
  subst e00
  obtain ⟨y01, hy01⟩ := hn0 1 _ _ rfl rfl
  obtain ⟨b01, e01, _, w01⟩ := DataW.trod_int Try.underlying3 hy01
  simp only [List.cons.injEq, and_true] at e01
  subst e01
  obtain ⟨y02, hy02⟩ := hn0 2 _ _ rfl rfl
  obtain ⟨b02, e02, _, w02⟩ := DataW.trod_int Try.underlying3 hy02
  simp only [List.cons.injEq, and_true] at e02
  subst e02
  obtain ⟨y03, hy03⟩ := hn0 3 _ _ rfl rfl
  obtain ⟨a03, len03, cap03, z03, e03, w03⟩ : ∃ a len cap zs, c03 = .slice a len cap ∧ IsRow .i64 W a len cap zs := by
    rcases open_ints Try.underlying28 Try.underlying3 (by kernel_rfl) hy03 with ⟨hcs, _⟩ | ⟨x, l, c, zs, hcs, _, hl, hm, hz, _, hcell, hwz⟩
    · simp only [List.cons.injEq, and_true] at hcs
      exact ⟨none, 0, 0, [], hcs, .inl ⟨rfl, rfl, rfl, rfl⟩⟩
    · simp only [List.cons.injEq, and_true] at hcs
      exact ⟨some _, l, c, zs, hcs, .inr ⟨_, rfl, hl, hm, by simpa using hz, hcell, hwz⟩⟩
  subst e03
  clear hA0 hval0
  refine (walk b00 b01 b02 a03 len03 cap03 z03 W w00 w01 w02 w03).mono fun e W' ⟨he, bel⟩ => ?_
  subst he
  exact ⟨_, rfl, _, _, _, [], _, [], hW', trodAll_mk1 (shut_bool Try.underlying4 _), (trodAll_cons_mk (Below.trod laidOut (by kernel_rfl) (of_decide_eq_true (by kernel_rfl)) k0 bel lt0) trodAll_mk0), rfl, bel.frame _, fun h => by cases h⟩

theorem over : Rows.ringCutsRow.holds Try.pinned (OpenSpec.ofChange Rows.ringCutsSpec) :=
  OpenClaim.holds_of_wide 6 Try.f6 rfl rfl rfl rfl rfl rfl rfl ⟨rfl, rfl, rfl, rfl, rfl⟩ rfl rfl rfl rfl rfl (by kernel_rfl) Try.func6 (by kernel_rfl)
    (of_decide_eq_true (by kernel_rfl)) (by unfold Func.isWrapper; first | (rw [if_pos (by decide +kernel)]; kernel_rfl) | (rw [if_neg (by decide +kernel)]; exact ⟨rfl, rfl⟩))
    (fun os started H enc _ => lifted os started H enc)

theorem proved : Rows.RingCutsSaid := over
end Go.Proofs.Ytgjghnbhpnflfaa.ringCuts

namespace Go.Proofs.Ytgjghnbhpnflfaa
theorem ringCuts_holds : Rows.RingCutsSaid := ringCuts.proved
#print axioms ringCuts_holds
end Go.Proofs.Ytgjghnbhpnflfaa
