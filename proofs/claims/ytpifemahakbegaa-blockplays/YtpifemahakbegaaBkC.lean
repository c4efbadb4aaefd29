/- Layer 11's law: the play's own look at all that its tables and the document's lists hold. -/
import Derived.Test.YtpifemahakbegaaBkB
import Derived.Deep.QuietTactic
import Derived.BigQuiet
namespace Go.Proofs.Ytpifemahakbegaa
set_option linter.unusedVariables false
set_option linter.unusedSimpArgs false
open Go.RowKit

theorem Bk.occ_take1 (x : Int) (l : List Int) {y : Nat} (h : y < l.length) : Bk.occ x (l.take (y + 1)) = Bk.occ x (l.take y) + if Ls.nth l y = x then 1 else 0 := by rw [Bk.take_snoc h, Bk.occ_append, Bk.occ_one]
/-- All that the look reads, as it lies. -/
def IsB (w : World) (P n m k g b : Nat) (R M : List Int) (T : Nat → Nat) (D : Nat → Value) (L : Nat → Nat → List Int) (a1 : Option Addr) (c1 : Nat) (s2 : Value) (ab ac rb rc : Nat) : Prop :=
  PoolAt w g b n R M ∧ (∀ i, i < k → Tab w g (T i) m (L i) (fun _ => True)) ∧ Lst .i64 w a1 R ∧ (∀ i, i < k → Rws w (D i) m (L i) (fun _ => True)) ∧
  w.rowIs P 37 5 (plc g (.slice a1 n c1) s2 (.slice (some ⟨ab, 0, none⟩) k ac) (.slice (some ⟨rb, 0, none⟩) k rc)) ∧
  (∀ i, i < k → w.cell? ⟨ab, i, none⟩ = some (.pointer (some ⟨T i, 0, none⟩)) ∧ w.cell? ⟨rb, i, none⟩ = some (D i)) ∧ ab < w.heap.size ∧ rb < w.heap.size
theorem IsB.keep {w w' : World} {P n m k g b : Nat} {R M : List Int} {T : Nat → Nat} {D : Nat → Value} {L : Nat → Nat → List Int} {a1 : Option Addr} {c1 : Nat} {s2 : Value} {ab ac rb rc : Nat} (h : IsB w P n m k g b R M T D L a1 c1 s2 ab ac rb rc) (hb : Below w.heap.size w w') : IsB w' P n m k g b R M T D L a1 c1 s2 ab ac rb rc := by
  obtain ⟨h1, h2, h3, h4, h5, h6, h7, h8⟩ := h
  exact ⟨h1.keep hb, fun i hi => (h2 i hi).keep hb, h3.keep hb, fun i hi => (h4 i hi).keep hb, h5.of_block (hb.block _ h5.lt), fun i hi => ⟨(hb.cell (p := ⟨ab, i, none⟩) h7).trans (h6 i hi).1, (hb.cell (p := ⟨rb, i, none⟩) h8).trans (h6 i hi).2⟩, by have := hb.size; omega, by have := hb.size; omega⟩
/-- The counts of the entries of the first c tables, and of the first y of the next one. -/
def cnts (L : Nat → Nat → List Int) (m c : Nat) (l : List Int) (x : Nat) : Value := .int .i64 ((Bk.tot L m x c + Bk.occ x l : Nat) : Int)

set_option maxRecDepth 100000 in
set_option maxHeartbeats 3200000 in
theorem is_any (B P n m k j : Nat) (w : World) (h : PlayP B w P n m k j) (hj : j ≤ 60) (hm : m ≤ 16) (hn : n ≤ 60) :
    Calls Try.prog 10 #[.pointer (some ⟨P, 0, none⟩)] w fun e w' => e = .returned (.bool true) ∧ Below w.heap.size w w' := by
  have hmk := run_make_row' (P := Try.prog) 31 3 (.int .i64 0) 8 Try.underlying31 Try.infoIntG rfl .i64 .i64 n (by omega) (by omega)
  obtain ⟨g, b, R, M, s1, s2, va, vr, T, D, L, col, hC, hD, hB, hF, hG⟩ := h
  have hk := hG.2.2.2.1
  have hk6 := hG.2.2.2.2
  obtain ⟨ab, ac, rb, rc, rfl, rfl, _, _, lab, lrb⟩ := hB.cells hk
  obtain ⟨⟨a1, c1, a2, c2, rfl, rfl, hl1, hl2, n1, n2, _, _, lR, lM⟩, hrows⟩ := hD
  have HI : Hid (IsB w P n m k g b R M T D L a1 c1 (.slice a2 n c2) ab ac rb rc) := ⟨hC.1, fun i hi => (hC.2.1 i hi).1.mono fun _ _ _ => trivial, hl1, fun i hi => (hrows i hi).mono fun _ _ _ => trivial, hB.1, fun i hi => by
    obtain ⟨_, _, _, _, e1, e2, q1, q2, _⟩ := hB.cells hi
    cases e1
    cases e2
    exact ⟨q1, q2⟩, lab, lrb⟩
  have plt : P < w.heap.size := hB.1.lt
  have HG : Hid (Good n m k j R L) := hG
  have HB : Hid (∀ t, t < n → Ls.nth R t ≤ 1000) := hG.bound hj
  have HR : Hid (R.length = n) := lR
  obtain ⟨⟨p0, p1, p2, p3, p4⟩, _⟩ := pl_cells hB.1
  clear hC hB hF hG hl1 hl2 n1 n2 hrows lR lM lab lrb
  go_enter Try.func10, Try.ntmps10
  go_wp2
  clear hmk
  obtain ⟨d, ed⟩ : ∃ d, w.heap.size = d := ⟨_, rfl⟩
  have ED : Hid (w.heap.size = d) := ed
  obtain ⟨u, eu⟩ : ∃ u, w.alloc (.cells (madeCells #[.int .i64 0] n) 3) = u := ⟨_, rfl⟩
  have UR : Hid (u.rowIs d 3 n (cnts L m 0 [])) := by rw [← eu, ← ed]; exact World.rowIs_made w _ n _
  have UB : Hid (Below d w u) := by rw [← eu, ← ed]; exact (Below.refl _ _).alloc (Nat.le_refl _) _
  rw [eu, ed]
  clear ed eu p0 p1 p2 p3 p4
  go_loopw [26] (fun i wq => ∃ c : Nat, c ≤ k ∧ i = .int .i64 c ∧ Hid (wq.rowIs d 3 n (cnts L m c [])) ∧ Hid (Below d w wq)) (fun i _ => k - (intOf i).toNat)
  case atStart => exact ⟨0, Nat.zero_le _, rfl, UR.out, UB.out⟩
  case round =>
    clear UR UB
    obtain ⟨c, hc, rfl, WR, WB⟩ := hrel
    have IR : Hid (IsB wr P n m k g b R M T D L a1 c1 (.slice a2 n c2) ab ac rb rc) := HI.out.keep (ED.out.symm ▸ WB.out)
    obtain ⟨⟨p0, p1, p2, p3, p4⟩, _⟩ := pl_cells IR.out.2.2.2.2.1
    by_cases hlt : c < k
    · obtain ⟨pa, pr⟩ := IR.out.2.2.2.2.2.1 c hlt
      obtain ⟨tc, etc⟩ : ∃ t, T c = t := ⟨_, rfl⟩
      obtain ⟨l, el⟩ : ∃ l, L c = l := ⟨_, rfl⟩
      obtain ⟨v, ev⟩ : ∃ v, D c = v := ⟨_, rfl⟩
      have TT := IR.out.2.1 c hlt
      have DD := IR.out.2.2.2.1 c hlt
      rw [etc, el] at TT
      rw [ev, el] at DD
      rw [etc] at pa
      rw [ev] at pr
      obtain ⟨A, C, rfl⟩ := DD.slice
      have T0 : Hid (Tab wr g tc m l (fun _ => True)) := TT
      have D0 : Hid (Rws wr (.slice A m C) m l (fun _ => True)) := DD
      have EL : Hid (L c = l) := el
      have LN : Hid (Bk.len l m ≤ 60) := by have := HG.out.2.2.1 c hlt; rw [el] at this; show Bk.len l m ≤ 60; omega
      obtain ⟨s0, es⟩ : ∃ s, wr.heap.size = s := ⟨_, rfl⟩
      have ES : Hid (wr.heap.size = s0) := es
      have hds : d < s0 := by have := WR.out.lt; omega
      clear TT DD el etc ev es
      go_wp2
      go_loopw [6, 39] (fun s i wq => ∃ r : Nat, r ≤ m ∧ i = .int .i64 r ∧ Hid (wq.ownsRow s0 3 1 s (Bk.len l r) ((Bk.flat l r).map (Value.int .i64))) ∧ Hid (Below s0 wr wq)) (fun _ i _ => m - (intOf i).toNat)
      case atStart => exact ⟨0, Nat.zero_le _, rfl, World.ownsRow_nil _ _ _ _, Below.refl _ _⟩
      case round =>
        obtain ⟨r, hr, rfl, HO, BQ⟩ := hrel
        have hsz := BQ.out.size
        rw [ES.out] at hsz
        have t3 := Bk.len_mono l hr
        have lN := LN.out
        by_cases hlt2 : r < m
        · obtain ⟨d9, c9, A9, C9, e9, hc9, _, hA9, hn9⟩ := (D0.out.keep (ES.out.symm ▸ BQ.out)).cell hlt2
          cases e9
          obtain ⟨kr, ekr⟩ : ∃ q, (l r).length = q := ⟨_, rfl⟩
          have EKR : Hid ((l r).length = kr) := ekr
          rw [ekr] at hc9
          have HA : Hid (Lst .i64 wr A9 (l r)) := hA9
          have HN : Hid (A9 = none → C9 = 0) := hn9
          have t4 := Bk.len_mono l (show r + 1 ≤ m by omega)
          rw [Bk.len_succ] at t4
          have T1 : Hid (Tab wr g tc m l (fun _ => True)) := T0.out.keep (ES.out.symm ▸ BQ.out)
          have hkr : Bk.len l r + kr ≤ 60 := by omega
          clear hA9 hn9 ekr t4
          go_wp2_with (first
            | (go_at_call 19; refine (len_yes g tc m r kr l _ _ T1.out hlt2 EKR.out).mono ?_; rintro e w' ⟨rfl, hww⟩; cases hww.symm; clear hww)
            | (at_builtin; refine wpList_append_lst rfl _ _ 31 rfl s0 3 .i64 8 Try.underlying31 Try.infoIntG _ (Bk.len l r) _ (by rfl) HO.out A9 (l r) C9 (by rw [EKR.out]; rfl) HA.out HN.out (by have := EKR.out; unfold maxLen; omega) (by have := EKR.out; omega) hsz ?_; intro v2 u2 ho2 hg2; have O2 : Hid (u2.ownsRow s0 3 1 v2 (Bk.len l r + (l r).length) ((Bk.flat l r).map (Value.int .i64) ++ (l r).map (Value.int .i64))) := ho2; have B2 : Hid (Below s0 _ u2) := BQ.out.grown hg2 hsz (fun q hq => (HO.out.lt q hq).1); clear ho2 hg2))
          go_roundw
          case rel => exact ⟨r + 1, by omega, by go_num, by have := O2.out; rw [← Bk.len_succ, ← List.map_append] at this; exact this, B2.out⟩
          case measure => simp [intOf]; omega
        · have er : r = m := by omega
          subst er
          obtain ⟨aw, cw, rfl⟩ := own_slice HO.out
          have T1 : Hid (Tab wr g tc r l (fun _ => True)) := T0.out.keep (ES.out.symm ▸ BQ.out)
          have I1 : Hid (IsB wr P n r k g b R M T D L a1 c1 (.slice a2 n c2) ab ac rb rc) := IR.out.keep (ES.out.symm ▸ BQ.out)
          have W1 : Hid (wr.rowIs d 3 n (cnts L r c [])) := WR.out.of_block (BQ.out.block d hds)
          have B1 : Hid (Below d w wr) := WB.out.trans (BQ.out.mono (by omega))
          obtain ⟨N, eN⟩ : ∃ N, Bk.len l r = N := ⟨_, rfl⟩
          have EN : Hid (Bk.len l r = N) := eN
          have HW : Hid (wr.ownsRow s0 3 1 (.slice aw N cw) N ((Bk.flat l r).map (Value.int .i64))) := by have := HO.out; rw [eN] at this; exact this
          rw [eN] at t3 lN ⊢
          clear t3 WR WB BQ HO IR T0 D0 eN p0 p1 p2 p3 p4 pa pr
          go_wp2_with fail
          refine (slots_any' g tc r N l _ _ T1.out (by omega) EN.out (by omega)).mono ?_
          rintro e w2 ⟨ag, cg, rfl, hog, hlg, hb2⟩
          have T2 : Hid (Tab w2 g tc r l (fun _ => True)) := T1.out.keep hb2
          have I2 : Hid (IsB w2 P n r k g b R M T D L a1 c1 (.slice a2 n c2) ab ac rb rc) := I1.out.keep hb2
          have W2 : Hid (w2.rowIs d 3 n (cnts L r c [])) := W1.out.of_block (hb2.block d W1.out.lt)
          have B2 : Hid (Below d w w2) := B1.out.trans (hb2.mono (by have := W1.out.lt; omega))
          have G2 : Hid (w2.ownsRow s0 3 1 (.slice ag N cg) N ((Bk.flat l r).map (Value.int .i64))) := own_mono hog (by omega)
          have HW2 : Hid (w2.ownsRow s0 3 1 (.slice aw N cw) N ((Bk.flat l r).map (Value.int .i64))) := own_below HW.out hb2
          obtain ⟨⟨p0, p1, p2, p3, p4⟩, _⟩ := pl_cells I2.out.2.2.2.2.1
          obtain ⟨pa, pr⟩ := I2.out.2.2.2.2.2.1 c hlt
          obtain ⟨A5, C5, e5⟩ := (I2.out.2.2.2.1 c hlt).slice
          rw [e5] at pr
          clear hog hlg hb2 T1 I1 W1 B1 HW e5
          go_wp2
          have Q1 : Hid (∀ q, Calls Try.prog 19 #[.pointer (some ⟨tc, 0, none⟩), .int .i64 (-1)] (w2.drewN q) fun e w' => e = .returned (.int .i64 0) ∧ ∃ n, w' = w2.drewN n) := fun q => (len_no g tc r (-1) l _ _ (T2.out.keep (below_drewN (Below.refl _ _) _)) (by omega)).mono fun _ _ ⟨he, hw⟩ => ⟨he, _, hw⟩
          have Q2 : Hid (∀ q, Calls Try.prog 19 #[.pointer (some ⟨tc, 0, none⟩), .int .i64 r] (w2.drewN q) fun e w' => e = .returned (.int .i64 0) ∧ ∃ n, w' = w2.drewN n) := fun q => (len_no g tc r r l _ _ (T2.out.keep (below_drewN (Below.refl _ _) _)) (by omega)).mono fun _ _ ⟨he, hw⟩ => ⟨he, _, hw⟩
          have Q3 : Hid (∀ q, Calls Try.prog 24 #[.pointer (some ⟨tc, 0, none⟩)] (w2.drewN q) fun e w' => e = .returned (.int .i64 r) ∧ ∃ n, w' = w2.drewN n) := fun q => (rows_any g tc r l _ _ (T2.out.keep (below_drewN (Below.refl _ _) _))).mono fun _ _ ⟨he, hw⟩ => ⟨he, _, hw⟩
          go_quiet (first
            | (go_at_call 24; with_reducible exact Q3.out _)
            | (go_at_call 19; with_reducible exact Q1.out _)
            | (go_at_call 19; with_reducible exact Q2.out _))
          clear Q1 Q2 Q3
          clear p0 p1 p2 p3 p4 pa pr
          go_wp2
          go_loopw [88] (fun i wq => ∃ y : Nat, y ≤ N ∧ i = .int .i64 y ∧ Hid (wq.rowIs d 3 n (cnts L r c ((Bk.flat l r).take y))) ∧ Hid (wq.ownsRow s0 3 1 (.slice aw N cw) N ((Bk.flat l r).map (Value.int .i64))) ∧ Hid (wq.ownsRow s0 3 1 (.slice ag N cg) N ((Bk.flat l r).map (Value.int .i64))) ∧ Hid (Below d w wq)) (fun i _ => N - (intOf i).toNat)
          case atStart => exact ⟨0, Nat.zero_le _, rfl, W2.out.of_block ((below_drewN (Below.refl _ _) _).block d W2.out.lt), own_below HW2.out (below_drewN (Below.refl _ _) _), own_below G2.out (below_drewN (Below.refl _ _) _), B2.out.trans (below_drewN (Below.refl _ _) _)⟩
          case round =>
            clear T2 I2 W2 B2 G2 HW2
            obtain ⟨y, hy, rfl, W3, HW3, G3, B3⟩ := hrel
            have lF : (Bk.flat l r).length = N := EN.out
            by_cases hlt3 : y < N
            · obtain ⟨b1, o1, rfl, hg1⟩ := (own_lst HW3.out lF).get (show y < _ by omega)
              obtain ⟨b2, o2, rfl, hg2⟩ := (own_lst G3.out lF).get (show y < _ by omega)
              have d1 := hg1 y (by omega)
              have d2 := hg2 y (by omega)
              have hin := HG.out.2.1 c hlt (Ls.nth (Bk.flat l r) y) (by rw [EL.out]; exact Bk.mem_nth (by omega))
              obtain ⟨t, et⟩ : ∃ t : Nat, Ls.nth (Bk.flat l r) y = t := ⟨(Ls.nth (Bk.flat l r) y).toNat, by omega⟩
              have ET : Hid (Ls.nth (Bk.flat l r) y = t) := et
              rw [et] at d1 d2 hin
              have htn : t < n := by omega
              have e3 := W3.out.cell htn
              obtain ⟨z, ez⟩ : ∃ z : Nat, Bk.tot L r t c + Bk.occ t ((Bk.flat l r).take y) = z := ⟨_, rfl⟩
              have EZ : Hid (Bk.tot L r t c + Bk.occ t ((Bk.flat l r).take y) = z) := ez
              have hz : z ≤ 1000 := by
                have q1 := Bk.tot_le (L := L) (m := r) (k := c) (t : Int) (fun i hi => HG.out.2.2.1 i (by omega))
                have q2 : c * j ≤ 6 * 60 := Nat.mul_le_mul (by omega) hj
                have q3 := Bk.occ_le (t : Int) ((Bk.flat l r).take y)
                have q4 : ((Bk.flat l r).take y).length ≤ N := by rw [List.length_take, lF]; omega
                omega
              have e4 : wr.cell? ⟨d, t, none⟩ = some (.int .i64 z) := by rw [e3]; show some (Value.int .i64 ((Bk.tot L r t c + Bk.occ t ((Bk.flat l r).take y) : Nat) : Int)) = _; rw [ez]
              have f4 := W3.out.frozen t
              clear hg1 hg2 et ez e3 lF hin
              go_wp2
              go_roundw
              case rel =>
                refine ⟨y + 1, by omega, by go_num, ?_, own_set HW3.out hds _, own_set G3.out hds _, B3.out.setCell (p := ⟨d, t, none⟩) (Nat.le_refl _) _⟩
                refine (W3.out.set t _).congr fun i hi => ?_
                by_cases e : i = t
                · rw [if_pos e, e]
                  show Value.int .i64 _ = Value.int .i64 _
                  rw [Bk.occ_take1 _ _ (show y < (Bk.flat l r).length by have := EN.out; unfold Bk.len at this; omega), if_pos ET.out]
                  have := EZ.out
                  congr 1
                  omega
                · rw [if_neg e]
                  show Value.int .i64 _ = Value.int .i64 _
                  rw [Bk.occ_take1 _ _ (show y < (Bk.flat l r).length by have := EN.out; unfold Bk.len at this; omega), if_neg (by rw [ET.out]; omega)]
                  rfl
              case measure => simp [intOf]; omega
            · have ey : y = N := by omega
              subst ey
              go_wp2
              go_roundw
              case rel =>
                refine ⟨c + 1, by omega, by go_num, W3.out.congr fun i hi => ?_, B3.out⟩
                show Value.int .i64 _ = Value.int .i64 _
                rw [← lF, List.take_length]
                show _ = Value.int .i64 (((Bk.tot L r i c + Bk.occ i (Bk.flat (L c) r)) + 0 : Nat) : Int)
                rw [EL.out]
                rfl
              case measure => simp [intOf]; omega
    · have ec : c = k := by omega
      subst ec
      have W3 : Hid (wr.rowIs d 3 n (fun x => .int .i64 (Ls.nth R x))) := WR.out.congr fun i hi => by
        show Value.int .i64 _ = _
        rw [HG.out.1 i hi]
        rfl
      clear WR
      go_wp2
      go_loop [109] (fun i => ∃ x : Nat, x ≤ n ∧ i = .int .i64 x) (fun i => n - (intOf i).toNat)
      case atStart => exact ⟨0, Nat.zero_le _, rfl⟩
      case round =>
        obtain ⟨x, hx, rfl⟩ := hrel
        by_cases hlt3 : x < n
        · have q1 := W3.out.cell hlt3
          obtain ⟨v, ev⟩ : ∃ v, Ls.nth R x = v := ⟨_, rfl⟩
          have EV : Hid (Ls.nth R x = v) := ev
          obtain ⟨b1, o1, rfl, hg1⟩ := IR.out.2.2.1.get (show x < _ by rw [HR.out]; exact hlt3)
          have q2 := hg1 x (by rw [HR.out]; exact hlt3)
          have q3 := IR.out.1.nums.2.2.2.2 x
          rw [ev] at q1 q2 q3
          clear hg1 ev
          have QR : Hid (Calls Try.prog 18 #[.pointer (some ⟨g, 0, none⟩), .int .i64 x] wr fun e w' => e = .returned (.int .i64 v) ∧ w' = wr) := by
            by_cases e : 0 < v
            · exact refs_some g b n x v R M _ IR.out.1 hlt3 EV.out e
            · have := refs_none g b n x R M _ IR.out.1 (by have := EV.out; rw [show ((x : Int)).toNat = x by omega]; omega)
              rw [show v = 0 by omega]
              exact this
          go_wp2_with (go_at_call 18; refine QR.out.mono ?_; rintro e w' ⟨rfl, hww⟩; cases hww.symm; clear hww)
          go_round
          case rel => exact ⟨x + 1, by omega, by go_num⟩
          case measure => simp [intOf]; omega
        · have ex : x = n := by omega
          subst ex
          obtain ⟨cn, ecn⟩ : ∃ c, Po.cnt R = c := ⟨_, rfl⟩
          have EC : Hid (Po.cnt R = cn) := ecn
          clear ecn
          go_wp2
          go_region_with (first
            | (go_at_call 13; refine (free_any g b x cn R M _ (IR.out.1.keep (by first | exact Below.refl _ _ | exact (Below.refl _ _).drew | exact HZ.out)) EC.out).mono ?_; rintro e w' ⟨rfl, hww⟩; cases hww.symm; clear hww)
            | (go_at_call 29; refine (refFree_any a1 a2 x c1 x c2 cn R _ (IR.out.2.2.1.keep (by first | exact Below.refl _ _ | exact (Below.refl _ _).drew)) HR.out EC.out (by omega)).mono ?_; rintro e w4 ⟨rfl, hb4⟩; have HZ : Hid (Below wr.heap.size wr w4) := ((Below.refl wr.heap.size wr).drew).trans hb4; clear hb4))
          all_goals
            go_wp2
            go_ret
            exact ⟨rfl, (ED.out ▸ WB.out).trans (HZ.out.mono (by have := WB.out.size; have := ED.out; omega))⟩
end Go.Proofs.Ytpifemahakbegaa
