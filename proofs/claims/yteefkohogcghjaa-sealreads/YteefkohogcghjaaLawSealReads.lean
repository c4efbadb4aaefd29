/- A reader over any bytes answers any calls as the document says; once short it tells nothing more. -/
import Derived.Test.YteefkohogcghjaaRows
import Derived.Test.YteefkohogcghjaaRgTake
import Derived.Test.YteefkohogcghjaaSlReads
import Derived.Deep.RegionHeld3
import Derived.WalkKit
import Derived.ProofKit
import Derived.OpenShut
import Derived.ShutString
import Derived.ChangeOld
import Derived.Below
namespace Go.Proofs.Yteefkohogcghjaa.sealReads
open Go.ChangeShapes Go.WideShapes Go.ChangeAt Go.RowKit
set_option linter.unusedVariables false

theorem own : ownKnob Try.prog.godebug = none := by kernel_rfl
theorem laidOut : laidOutB Try.prog = true := by kernel_rfl

/-- What the walk is told of a slice of integers that came in. -/
def IsRow (k : IntKind) (w : World) (a : Option Addr) (len cap : Nat) (zs : List Int) : Prop :=
  (a = none ∧ len = 0 ∧ cap = 0 ∧ zs = []) ∨
  ∃ x, a = some x ∧ len ≤ cap ∧ cap ≤ maxLen ∧ zs.length = cap ∧ (∀ i, i < zs.length → w.cell? (x.add i) = some (.int k (zs.getD i 0))) ∧ ∀ n ∈ zs, (Lit.int k n).wf = true

set_option maxRecDepth 100000 in
set_option maxHeartbeats 1600000 in
theorem walk (a0 : Option Addr) (len0 cap0 : Nat) (z0 : List Int) (a1 : Option Addr) (len1 cap1 : Nat) (w : World) (w0 : IsRow .u8 w a0 len0 cap0 z0) (w1 : IsPairs w a1 len1 cap1) :
    Calls Try.prog 7 #[.slice a0 len0 cap0, .slice a1 len1 cap1] w fun e w' => e = .returned (.bool true) ∧ Below w.heap.size w w' := by
  -- depth
  obtain ⟨x, hx, LX, BX, MX, CX, DX, FX⟩ := row_open8 w0
  obtain ⟨K, N, PL, NB, ML⟩ := pairs_open w1
  subst hx
  have HX : Hid (Lst .u8 w a0 x) := LX
  have HB : Hid (Sl.Byt x) := BX
  have HF : Hid (a0 = none → cap0 = 0) := FX
  have HP : Hid (Prs w a1 len1 K N) := PL
  have HN : Hid (∀ i, i < len1 → -9223372036854775808 ≤ N i ∧ N i ≤ 9223372036854775807) := NB
  unfold maxLen at ML
  clear w0 w1 LX BX MX DX FX CX PL NB
  by_cases hm : 200 < x.length
  · go_enter Try.func7, Try.ntmps7
    go_wp2_with (go_at_call 8; refine (slAwake_any _).mono ?_; rintro e wa ⟨rfl, hba⟩)
    go_ret
    exact ⟨rfl, hba⟩
  by_cases hm2 : 40 < len1
  · go_enter Try.func7, Try.ntmps7
    go_wp2_with (go_at_call 8; refine (slAwake_any _).mono ?_; rintro e wa ⟨rfl, hba⟩)
    go_ret
    exact ⟨rfl, hba⟩
  have hl : x.length ≤ 200 := by omega
  have hl1 : len1 ≤ 40 := by omega
  have g0 : decide ((200 : Int) < (x.length : Int)) = false := decide_eq_false (by omega)
  have g1 : decide ((40 : Int) < (len1 : Int)) = false := decide_eq_false (by omega)
  clear hm hm2 ML
  obtain ⟨sx, esx⟩ : ∃ sx, strOfNums x = sx := ⟨_, rfl⟩
  have ESX : Hid (strOfNums x = sx) := esx
  have zx : sx.size ≤ 200 := by rw [← esx, strOfNums_size]; exact hl
  obtain ⟨z, ez⟩ : ∃ z, ByteArray.empty = z := ⟨_, rfl⟩
  have EZ : Hid (ByteArray.empty = z) := ez
  clear esx ez
  go_enter Try.func7, Try.ntmps7
  go_wp2_with (at_builtin; refine wpList_append_lst rfl (.tmp 24) (.tmp 25) 22 rfl w.heap.size 5 .u8 1 Try.underlying22 Try.infoU8 _ 0 [] (by rfl) (World.ownsRow_made w #[] 0 (Nat.le_refl _) (by decide) rfl) a0 x cap0 (by rfl) (HX.out.keep (box_over _ _)) HF.out (by unfold maxLen; omega) (by omega) (by simp) ?_; intro v1 u1 ho1 hg1; simp only [Nat.zero_add, List.nil_append] at ho1; have O1 : Hid (u1.ownsRow w.heap.size 5 1 v1 x.length (x.map (Value.int .u8))) := ho1; have B1 : Hid (Below w.heap.size w u1) := (box_over _ _).grown hg1 (by simp) (by intro k hk; cases hk; exact Nat.le_refl _); clear ho1 hg1)
  obtain ⟨a5, c5, rfl, hL5, hc5, hm5, hn5, hk5⟩ := lst_of_own2 O1.out rfl
  have L5 : Hid (Lst .u8 u1 a5 x) := hL5
  have N5 : Hid (a5 = none → c5 = 0) := hn5
  have K5 : Hid (∀ y, a5 = some y → y.block < u1.heap.size) := hk5
  clear hL5 hn5 hk5 hm5 hc5
  go_wp2_with fail
  refine (newReader_new a5 x.length c5 x rfl (by omega) _ L5.out HB.out N5.out).mono ?_
  rintro e u2 ⟨g, rfl, hg, hg2, hown, hb2⟩
  have B2 : Hid (Below w.heap.size w u2) := below_then B1.out hb2
  have O2 : Hid (u2.ownsRow w.heap.size 5 1 (.slice a5 x.length c5) x.length (x.map (Value.int .u8))) := O1.out.below hb2 K5.out
  have RO : Hid (∀ u, (∀ j, u1.heap.size ≤ j → u.heap[j]? = u2.heap[j]?) → Rdr u g x false) := hown
  have G0 : Hid (w.heap.size ≤ g) := Nat.le_trans B1.out.size hg
  clear hb2 hown hg hg2 O1 B1 L5
  go_wp2_with fail
  go_loopw [33] (fun i wr => ∃ (k : Nat) (zs : List Int), k ≤ x.length ∧ i = .int .i64 k ∧ Hid (wr.ownsRow w.heap.size 5 1 (.slice a5 x.length c5) x.length (zs.map (Value.int .u8))) ∧ Hid (∀ j, u1.heap.size ≤ j → wr.heap[j]? = u2.heap[j]?) ∧ Hid (Below w.heap.size w wr)) (fun i _ => x.length - (intOf i).toNat)
  case atStart => exact ⟨0, x, Nat.zero_le _, rfl, O2.out, (fun _ _ => rfl), B2.out⟩
  case round =>
    obtain ⟨k, zs, hk, rfl, OW, FW, BW⟩ := hrel
    by_cases hlt : k < x.length
    · obtain ⟨go, y, e5, hcell, hfro, hst⟩ := ow_step OW.out hlt
      have GB := K5.out _ e5
      subst e5
      have HST : Hid (w.heap.size ≤ go ∧ ∀ y', (wr.setCell ⟨go, k, none⟩ (.int .u8 y')).ownsRow w.heap.size 5 1 (.slice (some ⟨go, 0, none⟩) x.length c5) x.length ((zs.set k y').map (Value.int .u8))) := hst
      clear hst
      go_wp2
      go_roundw
      case rel => exact ⟨k + 1, zs.set k ((y + 1) % 256), by omega, by go_num, HST.out.2 _, (fun j hj => (by rw [Below.heap_setCell _ _ _ _ (by simp; simp at GB; omega)]; exact FW.out j hj)), BW.out.setCell (by simp; exact HST.out.1) _⟩
      case measure => simp [intOf]; omega
    · have e : k = x.length := by omega
      subst e
      clear hlt hk
      have RW : Hid (Rdr wr g x false) := RO.out _ FW.out
      have cvX : (convert 22 9 (.slice a0 x.length cap0)).run Try.prog wr = .ok (.string sx) wr := by
        rw [← ESX.out]; exact conv_text _ _ _ Try.underlying22 Try.underlying5 Try.underlying9 (HX.out.keep BW.out) HB.out _ _ rfl
      clear OW FW O2 RO B2 K5 N5
      go_wp2_with fail
      go_loopw [8, 9, 47] (fun t b i wr => ∃ (k : Nat) (y : List Int) (sh : Bool) (sy : ByteArray), k ≤ len1 ∧ i = .int .i64 k ∧ t = .string sy ∧ b = .bool sh ∧ sy.size ≤ 200 ∧ Hid (strOfNums y = sy) ∧ Hid (Rdr wr g y sh) ∧ Hid (Below w.heap.size w wr)) (fun _ _ i _ => len1 - (intOf i).toNat)
      case atStart => exact ⟨0, x, false, sx, Nat.zero_le _, rfl, rfl, rfl, zx, ESX.out, RW.out, BW.out⟩
      case round =>
        clear cvX RW BW
        obtain ⟨i, y, sh, sy, hi, rfl, rfl, rfl, zy, ESY, RR, BR⟩ := hrel
        by_cases hlt : i < len1
        · obtain ⟨b1, o1, rfl, hc1, hc2⟩ := HP.out.keep BR.out i hlt
          have hnb := HN.out i hlt
          obtain ⟨kd, ekd⟩ : ∃ kd, K i = kd := ⟨_, rfl⟩
          obtain ⟨n, en⟩ : ∃ n, N i = n := ⟨_, rfl⟩
          rw [ekd] at hc1
          rw [en] at hc2 hnb
          clear ekd en
          have zyl : Hid (sy.size = y.length) := by show _ = _; rw [← ESY.out, strOfNums_size]
          by_cases k1 : kd = 1
          · subst k1
            obtain ⟨m, em⟩ : ∃ m : Int, (if n < 0 then 0 else n) = m := ⟨_, rfl⟩
            obtain ⟨k, ek⟩ : ∃ k, Sl.wid n = k := ⟨_, rfl⟩
            have emk : (if 8 < m then 8 else m) = (k : Int) := Sl.wid_cases n m k em (by rw [ek])
            have EK : Hid (Sl.wid n = k) := ek
            have hk8 : k ≤ 8 := by rw [← ek]; exact Sl.wid_le n
            clear ek
            by_cases hky : k ≤ sy.size
            · have DK : decide ((sy.size : Int) < (k : Int)) = false := decide_eq_false (by omega)
              obtain ⟨sg, esg⟩ : ∃ sg, strOfNums (y.take k) = sg := ⟨_, rfl⟩
              obtain ⟨sr, esr⟩ : ∃ sr, strOfNums (y.drop k) = sr := ⟨_, rfl⟩
              have ESG : Hid (strOfNums (y.take k) = sg) := esg
              have ESR : Hid (strOfNums (y.drop k) = sr) := esr
              have x1 : sy.extract 0 k = sg := by rw [← ESY.out, Sl.text_take, esg]
              have x2 : sy.extract k sy.size = sr := by rw [← ESY.out, strOfNums_size, Sl.text_drop, esr]
              have zr : sr.size ≤ 200 := by rw [← esr, strOfNums_size, List.length_drop]; have := zyl.out; omega
              have ELR : Hid ((y.drop k).length = sr.size) := by show _ = _; rw [← esr, strOfNums_size]
              have hky2 : Hid (k ≤ y.length) := by rw [zyl.out] at hky; exact hky
              have GOT : Hid (Sl.got y k = (y.take k)) := Sl.got_yes hky2.out
              have RST : Hid (Sl.rest y k = (y.drop k)) := Sl.rest_yes hky2.out
              have LCK : Hid (Sl.lack y k sh = sh) := Sl.lack_yes hky2.out
              have BG : Hid (Sl.Byt (y.take k)) := Sl.byt_take RR.out.byt k
              clear esg esr
              obtain ⟨v, ev⟩ : ∃ v, Sl.num (y.take k) = v := ⟨_, rfl⟩
              have EV : Hid (Sl.num (y.take k) = v) := ev
              clear ev
              have KB : Hid (Below wr.heap.size wr (wr.alloc (.cells #[.int .i64 1, .int .i64 n] 50))) := box_over wr _
              go_wp2_with fail
              go_quiet (fail)
              go_wp2_with (first
                | (go_at_call 19; refine (num_any g y sh n k v EK.out (by rw [GOT.out]; exact EV.out) _ (RR.out.keep (below_drewN KB.out _))).mono ?_; rintro e u ⟨rfl, hr, hb⟩; rw [RST.out, LCK.out] at hr; have RU : Hid (Rdr u g (y.drop k) sh) := hr; have BU : Hid (Below w.heap.size w u) := (below_then BR.out (below_drewN KB.out _)).trans (hb.mono G0.out); clear hr hb)
                | (go_at_call 20; refine (refNumber_any sg (y.take k) v ESG.out (by rw [List.length_take]; have := Sl.wid_le n; have := EK.out; omega) EV.out _ BG.out).mono ?_; rintro e w' ⟨rfl, hww⟩; cases hww.symm; clear hww)
                | (go_at_call 21; refine (left_any g (y.drop k) sh sr.size ELR.out _ RU.out).mono ?_; rintro e w' ⟨rfl, hww⟩; cases hww.symm; clear hww)
                | (go_at_call 22; refine (short_any g (y.drop k) sh _ RU.out).mono ?_; rintro e w' ⟨rfl, hww⟩; cases hww.symm; clear hww))
              go_roundw
              case rel => exact ⟨i + 1, (y.drop k), sh, sr, by omega, by go_num, rfl, rfl, zr, ESR.out, RU.out, BU.out⟩
              case measure => simp [intOf]; omega
            · have DK : decide ((sy.size : Int) < (k : Int)) = true := decide_eq_true (by omega)
              have hky2 : Hid (y.length < k) := by rw [zyl.out] at hky; show _ < _; omega
              have GOT : Hid (Sl.got y k = []) := Sl.got_no hky2.out
              have RST : Hid (Sl.rest y k = []) := Sl.rest_no hky2.out
              have LCK : Hid (Sl.lack y k sh = true) := Sl.lack_no hky2.out
              have ESG : Hid (strOfNums [] = ⟨#[]⟩) := rfl
              have ELR : Hid (([] : List Int).length = 0) := rfl
              have BG : Hid (Sl.Byt []) := Sl.byt_nil
              obtain ⟨v, ev⟩ : ∃ v, Sl.num [] = v := ⟨_, rfl⟩
              have EV : Hid (Sl.num [] = v) := ev
              clear ev
              have KB : Hid (Below wr.heap.size wr (wr.alloc (.cells #[.int .i64 1, .int .i64 n] 50))) := box_over wr _
              go_wp2_with (first
                | (go_at_call 19; refine (num_any g y sh n k v EK.out (by rw [GOT.out]; exact EV.out) _ (RR.out.keep KB.out)).mono ?_; rintro e u ⟨rfl, hr, hb⟩; rw [RST.out, LCK.out] at hr; have RU : Hid (Rdr u g [] true) := hr; have BU : Hid (Below w.heap.size w u) := (below_then BR.out KB.out).trans (hb.mono G0.out); clear hr hb)
                | (go_at_call 20; refine (refNumber_any ⟨#[]⟩ [] v ESG.out (by decide) EV.out _ BG.out).mono ?_; rintro e w' ⟨rfl, hww⟩; cases hww.symm; clear hww)
                | (go_at_call 21; refine (left_any g [] true 0 ELR.out _ RU.out).mono ?_; rintro e w' ⟨rfl, hww⟩; cases hww.symm; clear hww)
                | (go_at_call 22; refine (short_any g [] true _ RU.out).mono ?_; rintro e w' ⟨rfl, hww⟩; cases hww.symm; clear hww))
              go_roundw
              case rel => exact ⟨i + 1, [], true, ⟨#[]⟩, by omega, by go_num, rfl, rfl, by decide, rfl, RU.out, BU.out⟩
              case measure => simp [intOf]; omega
          by_cases k2 : kd = 2
          · subst k2
            obtain ⟨m, em⟩ : ∃ m : Int, (if n < 0 then 0 else n) = m := ⟨_, rfl⟩
            clear k1
            by_cases hky : 4 ≤ sy.size
            · have DK : decide ((sy.size : Int) < 4) = false := decide_eq_false (by omega)
              obtain ⟨sg, esg⟩ : ∃ sg, strOfNums (y.take 4) = sg := ⟨_, rfl⟩
              obtain ⟨sr, esr⟩ : ∃ sr, strOfNums (y.drop 4) = sr := ⟨_, rfl⟩
              have ESG : Hid (strOfNums (y.take 4) = sg) := esg
              have ESR : Hid (strOfNums (y.drop 4) = sr) := esr
              have x1 : sy.extract 0 4 = sg := by rw [← ESY.out, Sl.text_take, esg]
              have x2 : sy.extract 4 sy.size = sr := by rw [← ESY.out, strOfNums_size, Sl.text_drop, esr]
              have zr : sr.size ≤ 200 := by rw [← esr, strOfNums_size, List.length_drop]; have := zyl.out; omega
              have ELR : Hid ((y.drop 4).length = sr.size) := by show _ = _; rw [← esr, strOfNums_size]
              have hky2 : Hid (4 ≤ y.length) := by rw [zyl.out] at hky; exact hky
              have GOT : Hid (Sl.got y 4 = (y.take 4)) := Sl.got_yes hky2.out
              have RST : Hid (Sl.rest y 4 = (y.drop 4)) := Sl.rest_yes hky2.out
              have LCK : Hid (Sl.lack y 4 sh = sh) := Sl.lack_yes hky2.out
              have BG : Hid (Sl.Byt (y.take 4)) := Sl.byt_take RR.out.byt 4
              clear esg esr
              obtain ⟨v, ev⟩ : ∃ v, Sl.sgn (Sl.num (y.take 4)) = v := ⟨_, rfl⟩
              have EV : Hid (Sl.sgn (Sl.num (y.take 4)) = v) := ev
              clear ev
              have KB : Hid (Below wr.heap.size wr (wr.alloc (.cells #[.int .i64 2, .int .i64 n] 50))) := box_over wr _
              go_wp2_with fail
              go_quiet (fail)
              go_wp2_with (first
                | (go_at_call 24; refine (signed_any g y sh v (by rw [GOT.out]; exact EV.out) _ (RR.out.keep (below_drewN KB.out _))).mono ?_; rintro e u ⟨rfl, hr, hb⟩; rw [RST.out, LCK.out] at hr; have RU : Hid (Rdr u g (y.drop 4) sh) := hr; have BU : Hid (Below w.heap.size w u) := (below_then BR.out (below_drewN KB.out _)).trans (hb.mono G0.out); clear hr hb)
                | (go_at_call 25; refine (refSigned_any sg (y.take 4) v ESG.out (by rw [List.length_take]; omega) EV.out _ BG.out).mono ?_; rintro e w' ⟨rfl, hww⟩; cases hww.symm; clear hww)
                | (go_at_call 21; refine (left_any g (y.drop 4) sh sr.size ELR.out _ RU.out).mono ?_; rintro e w' ⟨rfl, hww⟩; cases hww.symm; clear hww)
                | (go_at_call 22; refine (short_any g (y.drop 4) sh _ RU.out).mono ?_; rintro e w' ⟨rfl, hww⟩; cases hww.symm; clear hww))
              go_roundw
              case rel => exact ⟨i + 1, (y.drop 4), sh, sr, by omega, by go_num, rfl, rfl, zr, ESR.out, RU.out, BU.out⟩
              case measure => simp [intOf]; omega
            · have DK : decide ((sy.size : Int) < 4) = true := decide_eq_true (by omega)
              have hky2 : Hid (y.length < 4) := by rw [zyl.out] at hky; show _ < _; omega
              have GOT : Hid (Sl.got y 4 = []) := Sl.got_no hky2.out
              have RST : Hid (Sl.rest y 4 = []) := Sl.rest_no hky2.out
              have LCK : Hid (Sl.lack y 4 sh = true) := Sl.lack_no hky2.out
              have ESG : Hid (strOfNums [] = ⟨#[]⟩) := rfl
              have ELR : Hid (([] : List Int).length = 0) := rfl
              have BG : Hid (Sl.Byt []) := Sl.byt_nil
              obtain ⟨v, ev⟩ : ∃ v, Sl.sgn (Sl.num []) = v := ⟨_, rfl⟩
              have EV : Hid (Sl.sgn (Sl.num []) = v) := ev
              clear ev
              have KB : Hid (Below wr.heap.size wr (wr.alloc (.cells #[.int .i64 2, .int .i64 n] 50))) := box_over wr _
              go_wp2_with (first
                | (go_at_call 24; refine (signed_any g y sh v (by rw [GOT.out]; exact EV.out) _ (RR.out.keep KB.out)).mono ?_; rintro e u ⟨rfl, hr, hb⟩; rw [RST.out, LCK.out] at hr; have RU : Hid (Rdr u g [] true) := hr; have BU : Hid (Below w.heap.size w u) := (below_then BR.out KB.out).trans (hb.mono G0.out); clear hr hb)
                | (go_at_call 25; refine (refSigned_any ⟨#[]⟩ [] v ESG.out (by decide) EV.out _ BG.out).mono ?_; rintro e w' ⟨rfl, hww⟩; cases hww.symm; clear hww)
                | (go_at_call 21; refine (left_any g [] true 0 ELR.out _ RU.out).mono ?_; rintro e w' ⟨rfl, hww⟩; cases hww.symm; clear hww)
                | (go_at_call 22; refine (short_any g [] true _ RU.out).mono ?_; rintro e w' ⟨rfl, hww⟩; cases hww.symm; clear hww))
              go_roundw
              case rel => exact ⟨i + 1, [], true, ⟨#[]⟩, by omega, by go_num, rfl, rfl, by decide, rfl, RU.out, BU.out⟩
              case measure => simp [intOf]; omega
          · have e1 : (kd == 1) = false := beq_eq_false_iff_ne.2 k1
            have e2 : (kd == 2) = false := beq_eq_false_iff_ne.2 k2
            obtain ⟨k, ek⟩ : ∃ k, Sl.ask n = k := ⟨_, rfl⟩
            have em : (if n < 0 then 0 else n) = (k : Int) := by rw [Sl.ask_eq, ek]
            have EK : Hid (Sl.ask n = k) := ek
            have hkm : (k : Int) ≤ 9223372036854775807 := by rw [← em]; split <;> omega
            clear ek k1 k2
            by_cases hky : k ≤ sy.size
            · have DK : decide ((sy.size : Int) < (k : Int)) = false := decide_eq_false (by omega)
              obtain ⟨sg, esg⟩ : ∃ sg, strOfNums (y.take k) = sg := ⟨_, rfl⟩
              obtain ⟨sr, esr⟩ : ∃ sr, strOfNums (y.drop k) = sr := ⟨_, rfl⟩
              have ESG : Hid (strOfNums (y.take k) = sg) := esg
              have ESR : Hid (strOfNums (y.drop k) = sr) := esr
              have x1 : sy.extract 0 k = sg := by rw [← ESY.out, Sl.text_take, esg]
              have x2 : sy.extract k sy.size = sr := by rw [← ESY.out, strOfNums_size, Sl.text_drop, esr]
              have zr : sr.size ≤ 200 := by rw [← esr, strOfNums_size, List.length_drop]; have := zyl.out; omega
              have ELR : Hid ((y.drop k).length = sr.size) := by show _ = _; rw [← esr, strOfNums_size]
              have hky2 : Hid (k ≤ y.length) := by rw [zyl.out] at hky; exact hky
              have GOT : Hid (Sl.got y k = (y.take k)) := Sl.got_yes hky2.out
              have RST : Hid (Sl.rest y k = (y.drop k)) := Sl.rest_yes hky2.out
              have LCK : Hid (Sl.lack y k sh = sh) := Sl.lack_yes hky2.out
              have BG : Hid (Sl.Byt (y.take k)) := Sl.byt_take RR.out.byt k
              clear esg esr
              obtain ⟨t, et⟩ : ∃ t, (y.take k).length = t := ⟨_, rfl⟩
              have EN : Hid ((y.take k).length = t) := et
              clear et
              have KB : Hid (Below wr.heap.size wr (wr.alloc (.cells #[.int .i64 kd, .int .i64 n] 50))) := box_over wr _
              go_wp2_with fail
              go_quiet (fail)
              go_wp2_with (first
                | (go_at_call 18; refine (take_any g y sh n k t EK.out (by unfold maxLen; omega) (by rw [GOT.out]; exact EN.out) _ (RR.out.keep (below_drewN KB.out _))).mono ?_; rintro e u ⟨a6, c6, rfl, hL, hr, hb⟩; rw [RST.out, LCK.out] at hr; have RU : Hid (Rdr u g (y.drop k) sh) := hr; have BU : Hid (Below w.heap.size w u) := (below_then BR.out (below_drewN KB.out _)).trans (hb.mono G0.out); rw [GOT.out] at hL; have cv6 : (convert 22 9 (.slice a6 t c6)).run Try.prog u = .ok (.string sg) u := (by rw [← ESG.out]; exact conv_text _ _ _ Try.underlying22 Try.underlying5 Try.underlying9 hL BG.out _ _ EN.out.symm); clear hr hb hL)
                | (go_at_call 21; refine (left_any g (y.drop k) sh sr.size ELR.out _ RU.out).mono ?_; rintro e w' ⟨rfl, hww⟩; cases hww.symm; clear hww)
                | (go_at_call 22; refine (short_any g (y.drop k) sh _ RU.out).mono ?_; rintro e w' ⟨rfl, hww⟩; cases hww.symm; clear hww))
              go_roundw
              case rel => exact ⟨i + 1, (y.drop k), sh, sr, by omega, by go_num, rfl, rfl, zr, ESR.out, RU.out, BU.out⟩
              case measure => simp [intOf]; omega
            · have DK : decide ((sy.size : Int) < (k : Int)) = true := decide_eq_true (by omega)
              have hky2 : Hid (y.length < k) := by rw [zyl.out] at hky; show _ < _; omega
              have GOT : Hid (Sl.got y k = []) := Sl.got_no hky2.out
              have RST : Hid (Sl.rest y k = []) := Sl.rest_no hky2.out
              have LCK : Hid (Sl.lack y k sh = true) := Sl.lack_no hky2.out
              have ESG : Hid (strOfNums [] = ⟨#[]⟩) := rfl
              have ELR : Hid (([] : List Int).length = 0) := rfl
              have BG : Hid (Sl.Byt []) := Sl.byt_nil
              obtain ⟨t, et⟩ : ∃ t, ([] : List Int).length = t := ⟨_, rfl⟩
              have EN : Hid (([] : List Int).length = t) := et
              clear et
              have KB : Hid (Below wr.heap.size wr (wr.alloc (.cells #[.int .i64 kd, .int .i64 n] 50))) := box_over wr _
              go_wp2_with (first
                | (go_at_call 18; refine (take_any g y sh n k t EK.out (by unfold maxLen; omega) (by rw [GOT.out]; exact EN.out) _ (RR.out.keep KB.out)).mono ?_; rintro e u ⟨a6, c6, rfl, hL, hr, hb⟩; rw [RST.out, LCK.out] at hr; have RU : Hid (Rdr u g [] true) := hr; have BU : Hid (Below w.heap.size w u) := (below_then BR.out KB.out).trans (hb.mono G0.out); rw [GOT.out] at hL; have cv6 : (convert 22 9 (.slice a6 t c6)).run Try.prog u = .ok (.string ⟨#[]⟩) u := (by rw [← ESG.out]; exact conv_text _ _ _ Try.underlying22 Try.underlying5 Try.underlying9 hL BG.out _ _ EN.out.symm); clear hr hb hL)
                | (go_at_call 21; refine (left_any g [] true 0 ELR.out _ RU.out).mono ?_; rintro e w' ⟨rfl, hww⟩; cases hww.symm; clear hww)
                | (go_at_call 22; refine (short_any g [] true _ RU.out).mono ?_; rintro e w' ⟨rfl, hww⟩; cases hww.symm; clear hww))
              go_roundw
              case rel => exact ⟨i + 1, [], true, ⟨#[]⟩, by omega, by go_num, rfl, rfl, by decide, rfl, RU.out, BU.out⟩
              case measure => simp [intOf]; omega
        · go_wp2_with (go_at_call 8; refine (slAwake_any _).mono ?_; rintro e wa ⟨rfl, hba⟩)
          go_ret
          exact ⟨rfl, below_then BR.out hba⟩

set_option maxRecDepth 100000 in
theorem lifted (os : Os) (started : os.Started) (H : Type) (enc : TypeId × Value → H) :
    ReturnsInHanded {} Try.checked os 7 .any (Rows.sealReadsSpec.pre6 enc Try.prog Try.f7 Rows.sealReadsRow.domain false) (Rows.sealReadsSpec.post enc Try.prog Try.f7 false true false false) := by
  refine returnsInHanded_of_change (C := Try.checked) own started (by kernel_rfl) Try.func7
    (ChangeSpec.witness6 (enc := enc) (C := Try.checked) false ⟨#[], #[.slice none 0 0, .slice none 0 0], []⟩ 8 (by kernel_rfl) (by kernel_rfl) (by kernel_rfl) (by kernel_rfl)) ?_
  intro W base args ds gs before hval0 hW hcnd _
  have hval : ∀ (j : Nat) t v, Try.f7.params[j]? = some t → args[j]? = some v → Value.okWide Try.prog W .any base t v := hval0
  have hW' := hW
  obtain ⟨p, q, hA0, hV, rfl, hfz, hnd⟩ := hW
  have hA : DataW.TrodAll enc Try.prog W 0 (fun _ => true) true Try.f7.params.toList args.toList ds p := hA0
  rw [Try.params7] at hA hval
  obtain ⟨v0, vs0, d0, ds0, p0, q0, hargs, rfl, rfl, h0, r0⟩ := trodAll_cons hA
  obtain ⟨v1, vs1, d1, ds1, p1, q1, rfl, rfl, rfl, h1, r1⟩ := trodAll_cons r0
  obtain ⟨rfl, rfl, rfl⟩ := trodAll_nil r1
  obtain rfl : args = #[v0, v1] := by cases args; simp_all
  obtain ⟨rfl, rfl⟩ := trodVars_none hV
  obtain ⟨a0, len0, cap0, rfl⟩ := okWide_slice Try.underlying22 (hval 0 22 v0 rfl rfl)
  have k0 := h0
  have lt0 : ∀ x ∈ p0, x.block < W.heap.size := by obtain ⟨m, hm⟩ := k0; exact DataW.trod_lt m _ _ _ hm
  obtain ⟨z0, w0⟩ : ∃ zs, IsRow .u8 W a0 len0 cap0 zs := by
    obtain ⟨fuel, hf⟩ := h0
    rcases open_ints Try.underlying22 Try.underlying5 (by kernel_rfl) hf with ⟨hcs, _⟩ | ⟨x, l, c, zs, hcs, _, hl, hm, hz, _, hcell, hwz⟩
    · simp [Value.cells] at hcs
      obtain ⟨rfl, rfl, rfl⟩ := hcs
      exact ⟨[], .inl ⟨rfl, rfl, rfl, rfl⟩⟩
    · simp [Value.cells] at hcs
      obtain ⟨rfl, rfl, rfl⟩ := hcs
      exact ⟨zs, .inr ⟨_, rfl, hl, hm, by simpa using hz, hcell, hwz⟩⟩
  obtain ⟨a1, len1, cap1, rfl⟩ := okWide_slice Try.underlying48 (hval 1 48 v1 rfl rfl)
  have k1 := h1
  have lt1 : ∀ x ∈ p1, x.block < W.heap.size := by obtain ⟨m, hm⟩ := k1; exact DataW.trod_lt m _ _ _ hm
  have w1 : IsPairs W a1 len1 cap1 := by
    obtain ⟨fuel, hf⟩ := h1
    rcases Go.Deep.open_slice_pairs Try.underlying48 Try.underlying50 (by kernel_rfl) rfl rfl (by kernel_rfl) (by kernel_rfl) hf with ⟨hcs, _⟩ | ⟨x, l, c, m, n, V0, V1, D0, D1, P0, P1, hcs, _, hl, hm, hmm, _, hall⟩
    · simp [Value.cells] at hcs
      obtain ⟨rfl, rfl, rfl⟩ := hcs
      exact .inl ⟨rfl, rfl, rfl⟩
    · simp [Value.cells] at hcs
      obtain ⟨rfl, rfl, rfl⟩ := hcs
      simp only [if_true] at hmm
      refine .inr ⟨x, rfl, hl, hm, fun i hi => ?_⟩
      obtain ⟨q1, q2, q3, q4⟩ := hall i (by omega)
      obtain ⟨k, e1, _, _⟩ := DataW.trod_int Try.underlying3 q3
      obtain ⟨n', e2, _, hw⟩ := DataW.trod_int Try.underlying3 q4
      simp only [List.cons.injEq, and_true] at e1 e2
      rw [e1] at q1
      rw [e2] at q2
      exact ⟨k, n', q1, q2, bounds_i64 hw⟩
  clear hA0 hval0
  refine (walk a0 len0 cap0 z0 a1 len1 cap1 W w0 w1).mono fun e W' ⟨he, bel⟩ => ?_
  subst he
  exact ⟨_, rfl, _, _, _, [], _, [], hW', trodAll_mk1 (shut_bool Try.underlying4 _), (trodAll_cons_mk (Below.trod laidOut (by kernel_rfl) (of_decide_eq_true (by kernel_rfl)) k0 bel lt0) (trodAll_cons_mk (Below.trod laidOut (by kernel_rfl) (of_decide_eq_true (by kernel_rfl)) k1 bel lt1) trodAll_mk0)), rfl, bel.frame _, fun h => by cases h⟩

theorem over : Rows.sealReadsRow.holds Try.pinned (OpenSpec.ofChange Rows.sealReadsSpec) :=
  OpenClaim.holds_of_wide 7 Try.f7 rfl rfl rfl rfl rfl rfl rfl ⟨rfl, rfl, rfl, rfl, rfl⟩ rfl rfl rfl rfl rfl (by kernel_rfl) Try.func7 (by kernel_rfl)
    (of_decide_eq_true (by kernel_rfl)) (by unfold Func.isWrapper; first | (rw [if_pos (by decide +kernel)]; kernel_rfl) | (rw [if_neg (by decide +kernel)]; exact ⟨rfl, rfl⟩))
    (fun os started H enc _ => lifted os started H enc)

theorem proved : Rows.SealReadsSaid := over
end Go.Proofs.Yteefkohogcghjaa.sealReads

namespace Go.Proofs.Yteefkohogcghjaa
theorem sealReads_holds : Rows.SealReadsSaid := sealReads.proved
#print axioms sealReads_holds
end Go.Proofs.Yteefkohogcghjaa
