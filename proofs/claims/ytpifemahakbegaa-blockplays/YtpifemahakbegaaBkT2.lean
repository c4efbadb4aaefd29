/- One call of layer 11's law: Fork. -/
import Derived.Test.YtpifemahakbegaaBkT0
import Derived.Deep.RegionLawGrows
import Derived.Deep.CutRange
import Derived.Deep.DeepCutAuto
namespace Go.Proofs.Ytpifemahakbegaa
set_option linter.unusedVariables false
set_option linter.unusedSimpArgs false
open Go.RowKit

set_option maxRecDepth 100000 in
set_option maxHeartbeats 3200000 in
theorem step2_ok (B P n m k g b at' : Nat) (tb row N : Int) (R M : List Int) (s1 s2 va vr : Value) (T : Nat → Nat) (D : Nat → Value) (L : Nat → Nat → List Int) (col : Nat → Nat) (w : World) (hC : Core w n m k g b R M T L col) (hD : Docs w n m k R M s1 s2 D L col) (hB : Box B w P g k s1 s2 va vr T D col) (hF : Fresh B w col)
    (hmx : max tb 0 % (k : Int) = (at' : Int)) (hk : 0 < k) (hk6 : k ≤ 6) (hm : m ≤ 16) (hn : n ≤ 16384) (hx : ∀ x, x ∈ Bk.flat (L at') m → (0 ≤ x ∧ x < n) ∧ 0 < Ls.nth R x.toNat) (hb : ∀ t, t < n → Ls.nth R t ≤ 1000) (hl : Bk.len (L at') m ≤ 1000) (hk5 : k < 6) :
    Calls Try.prog 9 #[.pointer (some ⟨P, 0, none⟩), .agg #[.int .i64 2, .int .i64 tb, .int .i64 row, .int .i64 N]] w fun e w' => e = .returned (.bool true) ∧ ∃ t1 va' vr' T' D' L' col', (∀ i, i < k → L' i = L i) ∧ L' k = L at' ∧ Core w' n m (k + 1) g b (Bk.bump R 1 (Bk.flat (L at') m)) M T' L' col' ∧ Docs w' n m (k + 1) (Bk.bump R 1 (Bk.flat (L at') m)) M t1 s2 D' L' col' ∧
      Box B w' P g (k + 1) t1 s2 va' vr' T' D' col' ∧ Fresh B w' col' ∧ Below B w w' := by
  have hlt : at' < k := by have := Int.emod_lt_of_pos (max tb 0) (show (0 : Int) < k by omega); omega
  obtain ⟨ab, ac, rb, rc, rfl, rfl, t0, d0, l1, l2⟩ := hB.cells hlt
  obtain ⟨da, dc, ed⟩ := (hD.2 at' hlt).slice
  rw [ed] at d0
  obtain ⟨⟨p0, p1, p2, p3, p4⟩, _⟩ := pl_cells hB.1
  obtain ⟨a1, c1, a2, c2, ei, ej, _⟩ := hD.1
  subst ei ej
  have plt : P < w.heap.size := hB.1.lt
  have HC : Hid (Core w n m k g b R M T L col) := hC
  have HD : Hid (Docs w n m k R M (.slice a1 n c1) (.slice a2 n c2) D L col) := hD
  have HB : Hid (Box B w P g k (.slice a1 n c1) (.slice a2 n c2) (.slice (some ⟨ab, 0, none⟩) k ac) (.slice (some ⟨rb, 0, none⟩) k rc) T D col) := hB
  have HF : Hid (Fresh B w col) := hF
  have HE : Hid (D at' = .slice da m dc) := ed
  have HX : Hid ((∀ x, x ∈ Bk.flat (L at') m → (0 ≤ x ∧ x < n) ∧ 0 < Ls.nth R x.toNat) ∧ (∀ t, t < n → Ls.nth R t ≤ 1000) ∧ Bk.len (L at') m ≤ 1000) := ⟨hx, hb, hl⟩
  have z6 : decide ((6 : Int) ≤ (k : Int)) = false := decide_eq_false (by omega)
  clear hx hb hl
  clear hC hD hB hF p0 ed
  obtain ⟨H, eH⟩ : ∃ H, w.heap.size = H := ⟨_, rfl⟩
  have EH : Hid (w.heap.size = H) := eH
  go_enter Try.func9, Try.ntmps9
  clear eH
  go_wp2
  go_region
  go_wp2
  go_region
  obtain ⟨u, hu⟩ : ∃ u, (w.alloc (.cells #[.int .i64 2, .int .i64 tb, .int .i64 row, .int .i64 N] 27)).drew.drew = u := ⟨_, rfl⟩
  have UB : Hid (Below w.heap.size w u) := by rw [← hu]; exact (box_below _ _).drew.drew
  have UO : Hid (u.rowIs H 27 4 (opc 2 tb row N)) := by rw [← hu, ← EH.out]; exact (op_alloc w 2 tb row N).drew.drew
  have US : u.heap.size = H + 1 := by rw [← hu, ← EH.out]; simp
  have CU : Hid (Core u n m k g b R M T L col) := HC.out.keep UB.out
  have DU : Hid (Docs u n m k R M (.slice a1 n c1) (.slice a2 n c2) D L col) := HD.out.keep UB.out
  have BU : Hid (Box B u P g k (.slice a1 n c1) (.slice a2 n c2) (.slice (some ⟨ab, 0, none⟩) k ac) (.slice (some ⟨rb, 0, none⟩) k rc) T D col) := HB.out.keep UB.out
  have FU : Hid (Fresh B u col) := HF.out.keep UB.out.size
  have q0 : u.cell? ⟨H, 0, none⟩ = some (.int .i64 2) := UO.out.cell (show 0 < 4 by decide)
  have q2 : u.cell? ⟨H, 2, none⟩ = some (.int .i64 row) := UO.out.cell (show 2 < 4 by decide)
  have q3 : u.cell? ⟨H, 3, none⟩ = some (.int .i64 N) := UO.out.cell (show 3 < 4 by decide)
  have Q2 : Hid (u.cell? ⟨H, 2, none⟩ = some (.int .i64 row)) := q2
  have Q3 : Hid (u.cell? ⟨H, 3, none⟩ = some (.int .i64 N)) := q3
  have Hlt : H < u.heap.size := by omega
  clear t0 d0 p1 p2 p3 p4 l1 l2
  rw [hu, EH.out]
  clear hu
  have BP : Hid (B ≤ P ∧ B ≤ g ∧ B ≤ b) := ⟨FU.out.2.1 P (by have := BU.out.2.2.2.1; omega), FU.out.2.1 g (by have := CU.out.2.2.1; omega), FU.out.2.1 b (by have := CU.out.2.2.2; omega)⟩
  have p3 := (pl_cells BU.out.1).1.2.2.2.1
  go_upto_region 3 with (fail)
  rw [hmx]
  go_cut [8] from 38 to 47 (fun v wc => (∃ q : Bool, v = .bool q) ∧ wc = u)
  case first =>
    go_wp2
    all_goals
      go_meet
      case rel => exact ⟨⟨_, rfl⟩, rfl⟩
  case rest =>
    obtain ⟨⟨tq, rfl⟩, hwc⟩ := hcut
    have hwc2 := hwc.symm
    clear hwc
    subst hwc2
    go_wp2_with (first
      | (go_at_call 15; refine (fork_any g b n (T at') m R M (L at') _ _ CU.out.1 (CU.out.2.1 at' hlt).1 hm HX.out.2.2 HX.out.1 HX.out.2.1).mono ?_; rintro e w1 ⟨U, rfl, hp, ht, hU, hbt⟩; have GU : Hid (u.heap.size ≤ U ∧ U < w1.heap.size) := ⟨hU, ht.lt⟩; obtain ⟨col', ecol⟩ : ∃ col', recol2 U u.heap.size w1.heap.size (k + 1) col = col' := ⟨_, rfl⟩; have hcc : Hid (∀ q, q < u.heap.size → col' q = col q) := fun q hq => (by rw [← ecol]; exact recol2_old hU hq); have C1 : Hid (Core w1 n m (k + 1) g b (Bk.bump R 1 (Bk.flat (L at') m)) M (tn T k U) (Bk.put L k (L at')) col') := (by rw [← ecol]; exact CU.out.fork hbt hp ht hU); have D1 : Hid (Docs w1 n m k R M (.slice a1 n c1) (.slice a2 n c2) D L col') := (DU.out.recol hcc.out).but (c := 7) ((ButQ.of_but2 hbt : ButQ g b (fun q => col' q = 7) u w1)) C1.out.2.2.1 C1.out.2.2.2 (by omega); have X1 : Hid (Box B w1 P g k (.slice a1 n c1) (.slice a2 n c2) (.slice (some ⟨ab, 0, none⟩) k ac) (.slice (some ⟨rb, 0, none⟩) k rc) T D col') := (BU.out.recol hcc.out).but (c := 7) CU.out.1 ((ButQ.of_but2 hbt : ButQ g b (fun q => col' q = 7) u w1)) (by omega); have F1 : Hid (Fresh B w1 col') := (by rw [← ecol]; exact FU.out.fork hbt.size hU ht.lt); have Z1 : Hid (Below B u w1) := (hbt.below BP.out.2.1 BP.out.2.2); clear hp ht hU hbt ecol hcc)
      | (go_at_call 28; refine (change_any P g m n _ a1 c1 _ _ _ 1 R (L at') _ _ X1.out.1 (HE.out ▸ D1.out.2 at' hlt) (d_list D1.out).1 (d_list D1.out).2.1 (d_list D1.out).2.2.1 ⟨a2, n, c2, rfl⟩ hm hn HX.out.2.2 (Or.inl rfl) (turns_up (d_list D1.out).2.1 HX.out.1 HX.out.2.1 HX.out.2.2)).mono ?_; rintro e w2 ⟨rfl, a3, c3, hr2, hl2, hn2, hc2, hbp⟩; have R2 : Hid (w2.rowIs P 37 5 (plc g (.slice a3 n c3) (.slice a2 n c2) (.slice (some ⟨ab, 0, none⟩) k ac) (.slice (some ⟨rb, 0, none⟩) k rc))) := hr2; have L2 : Hid (Lst .i64 w2 a3 (Bk.bump R 1 (Bk.flat (L at') m)) ∧ (a3 = none → c3 = 0) ∧ ∀ x, a3 = some x → a1 = some x ∨ w1.heap.size ≤ x.block) := ⟨hl2, hn2, hc2⟩; have P2 : Hid (ButP P w1 w2) := hbp; clear hr2 hl2 hn2 hc2 hbp))
    have C2 : Hid (Core w2 n m (k + 1) g b (Bk.bump R 1 (Bk.flat (L at') m)) M (tn T k U) (Bk.put L k (L at')) col') := C1.out.one (ty_row X1.out.1) (by decide) (fun q hq hn => P2.out.block hq hn hn id)
    have D2 : Hid (Docs w2 n m k (Bk.bump R 1 (Bk.flat (L at') m)) M (.slice a3 n c3) (.slice a2 n c2) D L col') := (D1.out.one (H := P) (by have := X1.out.2.2.2.1; omega) (fun q hq hn => P2.out.block hq hn hn id)).list1 L2.out.1 L2.out.2.1 (fun x ex hp => by
      rcases L2.out.2.2 x ex with q | q
      · exact (d_list D1.out).2.2.2 x q hp
      · exact F1.out.1 _ q) (by rw [Bk.bump_length]; exact (d_list D1.out).2.1)
    have X2 : Hid (Box B w2 P g k (.slice a3 n c3) (.slice a2 n c2) (.slice (some ⟨ab, 0, none⟩) k ac) (.slice (some ⟨rb, 0, none⟩) k rc) T D col') := X1.out.ButP P2.out R2.out
    have F2 : Hid (Fresh B w2 col') := F1.out.keep P2.out.size
    have Z2 : Hid (Below B u w2) := Z1.out.trans (P2.out.below BP.out.1 F1.out.2.2)
    obtain ⟨⟨_, _, _, p3, p4⟩, pf⟩ := pl_cells X2.out.1
    have HRr : Hid (Rws w2 (.slice da m dc) m (L at') (fun q => col' q = 0)) := by have := D2.out.2 at' hlt; rw [HE.out] at this; exact this
    have VA : Hid (w2.ownsRow B 38 1 (.slice (some ⟨ab, 0, none⟩) k ac) k (ptrs T k)) := X2.out.2.1
    have VR : Hid (w2.ownsRow B 53 1 (.slice (some ⟨rb, 0, none⟩) k rc) k ((List.range k).map D)) := X2.out.2.2.1
    have abn : Hid (¬ ab = P ∧ ¬ rb = P ∧ ¬ rb = ab ∧ B ≤ ab ∧ B ≤ rb ∧ B ≤ w2.heap.size ∧ ab < w2.heap.size ∧ rb < w2.heap.size) := ⟨(ty_own VA.out (q := ab) rfl).ne (ty_row X2.out.1) (by decide), (ty_own VR.out (q := rb) rfl).ne (ty_row X2.out.1) (by decide), (ty_own VR.out (q := rb) rfl).ne (ty_own VA.out (q := ab) rfl) (by decide), (VA.out.lt ab rfl).1, (VR.out.lt rb rfl).1, F2.out.2.2, (VA.out.lt ab rfl).2, (VR.out.lt rb rfl).2⟩
    have P34 : Hid (w2.cell? ⟨P, 3, none⟩ = some (.slice (some ⟨ab, 0, none⟩) k ac) ∧ w2.cell? ⟨P, 4, none⟩ = some (.slice (some ⟨rb, 0, none⟩) k rc) ∧ ∀ i, w2.frozen? ⟨P, i, none⟩ = false) := ⟨p3, p4, pf⟩
    have pl2 : P < w2.heap.size := X2.out.1.lt
    obtain ⟨i1, hi10, hi11, hi12, hi13⟩ := info_parts Try.infoTab
    obtain ⟨i2, hi20, hi21, hi22, hi23⟩ := info_parts Try.infoRows
    clear pf C1 D1 X1 F1 Z1 P2 L2 R2
    go_wp2
    go_region_law (first
      | (refine step_append_lies _ (by rfl) _ _ _ (by rfl) B 38 i1 _ 1 8 Try.underlying34 hi10 hi11 hi12 hi13 rfl (by omega) _ k _ (by rfl) (VA.out.drew.alloc _) ⟨w2.heap.size, 0, none⟩ 1 1 [.pointer (some ⟨U, 0, none⟩)] (by rfl) (by rfl) (World.news_of_block (cs := #[.pointer (some ⟨U, 0, none⟩)]) (t := 38) (fr := (0, 0)) (heap_alloc_new w2.drew _)) (by simp [Value.oneCell']) (by omega) (by unfold maxLen; omega) (by omega) (by have := abn.out.2.2.2.2.2.1; simp; omega) (w2.heap.size + 1) (by simp) ?_; intro ga ca w3 hown3 hgrow3 hat3 hlt3; have A3 : Hid (w3.ownsRow B 38 1 (.slice (some ⟨ga, 0, none⟩) (k + 1) ca) (k + 1) (ptrs T k ++ [.pointer (some ⟨U, 0, none⟩)])) := hown3; have T3 : Hid (ab = ga ∨ ga = w2.heap.size + 1) := hat3.imp (fun e => by cases e; rfl) id; have G3 := grown_one hgrow3 ((Below.refl w2.heap.size w2).drew.alloc (Nat.le_refl _) _) (H := ab) rfl; have J3 : Hid ((∀ q, q < w2.heap.size → ¬ q = ab → w3.heap[q]? = w2.heap[q]?) ∧ w2.heap.size ≤ w3.heap.size ∧ ∀ B, B ≤ ab → B ≤ w2.heap.size → Below B w2 w3) := G3; have p33 := (World.cell?_of_block (a := ⟨P, 3, none⟩) (J3.out.1 P pl2 (fun e => abn.out.1 e.symm))).trans P34.out.1; have p43 := (World.cell?_of_block (a := ⟨P, 4, none⟩) (J3.out.1 P pl2 (fun e => abn.out.1 e.symm))).trans P34.out.2.1; have pl3 : P < w3.heap.size := Nat.lt_of_lt_of_le pl2 J3.out.2.1; clear hown3 hgrow3 hat3 G3)
      | (go_simp; go_at_call 27; refine (copied_any _ m (L at') (fun q => col' q = 0) _ (HRr.out.stand fun q hq ht => J3.out.1 q (by rcases ht with t | t <;> exact t.lt) (by rcases ht with t | t <;> exact t.ne (ty_own VA.out (q := ab) rfl) (by decide))) hm (by have := HX.out.2.2; omega)).mono ?_; rintro e w4 ⟨lv, rfl, hrl, hb4⟩; obtain ⟨la, lc, rfl⟩ := hrl.slice; have L4 : Hid (Rws w4 (.slice la m lc) m (L at') (fun q => w3.heap.size ≤ q)) := hrl; have B4 : Hid (Below w3.heap.size w3 w4) := hb4; have S4 : w3.heap.size ≤ w4.heap.size := hb4.size; have rb3 : Hid (rb < w3.heap.size) := Nat.lt_of_lt_of_le abn.out.2.2.2.2.2.2.2 J3.out.2.1; have VR4 : Hid (w4.ownsRow B 53 1 (.slice (some ⟨rb, 0, none⟩) k rc) k ((List.range k).map D)) := own_at VR.out (fun q hq => (by cases hq; rw [B4.out.block rb rb3.out, J3.out.1 rb abn.out.2.2.2.2.2.2.2 abn.out.2.2.1])); have p34 := (B4.out.cell (p := ⟨P, 3, none⟩) pl3).trans p33; have p44 := (B4.out.cell (p := ⟨P, 4, none⟩) pl3).trans p43; have P44 : Hid (w4.cell? ⟨P, 3, none⟩ = some (.slice (some ⟨ab, 0, none⟩) k ac) ∧ w4.cell? ⟨P, 4, none⟩ = some (.slice (some ⟨rb, 0, none⟩) k rc)) := ⟨p34, p44⟩; have pl4 : P < w4.heap.size := Nat.lt_of_lt_of_le pl3 S4; have F44 : Hid (∀ i, w4.frozen? ⟨P, i, none⟩ = false) := (fun i => ((B4.out.frozen (p := ⟨P, i, none⟩) pl3).trans (World.frozen?_of_block (a := ⟨P, i, none⟩) (J3.out.1 P pl2 (fun e => abn.out.1 e.symm)))).trans (P34.out.2.2 i)); clear hrl hb4)
      | (refine step_append_lies _ (by rfl) _ _ _ (by rfl) B 53 i2 _ 1 24 Try.underlying35 hi20 hi21 hi22 hi23 rfl (by omega) _ k _ (by rfl) (VR4.out.alloc _) ⟨w4.heap.size, 0, none⟩ 1 1 [.slice la m lc] (by rfl) (by rfl) (World.news_of_block (cs := #[.slice la m lc]) (t := 53) (fr := (0, 0)) (heap_alloc_new w4 _)) (by simp [Value.oneCell']) (by omega) (by unfold maxLen; omega) (by omega) (by have := abn.out.2.2.2.2.2.1; have := J3.out.2.1; simp; omega) (w4.heap.size + 1) (by simp) ?_; intro gr cr w5 hown5 hgrow5 hat5 hlt5; have A5 : Hid (w5.ownsRow B 53 1 (.slice (some ⟨gr, 0, none⟩) (k + 1) cr) (k + 1) ((List.range k).map D ++ [.slice la m lc])) := hown5; have T5 : Hid (rb = gr ∨ gr = w4.heap.size + 1) := hat5.imp (fun e => by cases e; rfl) id; have G5 := grown_one hgrow5 (box_below w4 _) (H := rb) rfl; have J5 : Hid ((∀ q, q < w4.heap.size → ¬ q = rb → w5.heap[q]? = w4.heap[q]?) ∧ w4.heap.size ≤ w5.heap.size ∧ ∀ B, B ≤ rb → B ≤ w4.heap.size → Below B w4 w5) := G5; have p35 := (World.cell?_of_block (a := ⟨P, 3, none⟩) (J5.out.1 P pl4 (fun e => abn.out.2.1 e.symm))).trans P44.out.1; have p45 := (World.cell?_of_block (a := ⟨P, 4, none⟩) (J5.out.1 P pl4 (fun e => abn.out.2.1 e.symm))).trans P44.out.2; have f35 := (World.frozen?_of_block (a := ⟨P, 3, none⟩) (J5.out.1 P pl4 (fun e => abn.out.2.1 e.symm))).trans (F44.out 3); have f45 := (World.frozen?_of_block (a := ⟨P, 4, none⟩) (J5.out.1 P pl4 (fun e => abn.out.2.1 e.symm))).trans (F44.out 4); clear hown5 hgrow5 hat5 hlt5 G5))
    all_goals
      go_wp2
      go_ret
      have ha2 : col' ab = 1000 := X2.out.2.2.2.2.1 ab rfl
      have hr2 : col' rb = 1000 := X2.out.2.2.2.2.2 rb rfl
      have hal := abn.out
      have s5 := J5.out.2.1
      have s3 := J3.out.2.1
      have hcc2 : ∀ q, q < w2.heap.size → two ga gr col' q = col' q := fun q hq => by
        by_cases e1 : q = ga
        · rw [e1, two_x]; rcases T3.out with t | t
          · rw [← t, ha2]
          · omega
        · by_cases e2 : q = gr
          · rw [e2, two_y]; rcases T5.out with t | t
            · rw [← t, hr2]
            · omega
          · exact two_off _ e1 e2
      have tA3 := ty_own A3.out (q := ga) rfl
      have tA4 : Ty w4 ga 38 := tA3.of_block (B4.out.block ga tA3.lt)
      have tR4 := ty_own VR4.out (q := rb) rfl
      have tP5 : Ty w5 P 37 := (((ty_row X2.out.1).of_block (J3.out.1 P pl2 (fun e => hal.1 e.symm))).of_block (B4.out.block P pl3)).of_block (J5.out.1 P pl4 (fun e => hal.2.1 e.symm))
      have far6 : ∀ (x y : Value) q, q < w5.heap.size → ¬ q = P → ((w5.setCell ⟨P, 3, none⟩ x).setCell ⟨P, 4, none⟩ y).heap[q]? = w5.heap[q]? := fun x y q _ hn => by rw [Below.heap_setCell _ _ _ _ (show q ≠ P from hn), Below.heap_setCell _ _ _ _ (show q ≠ P from hn)]
      have cF := ((((C2.out.recol hcc2).one (ty_own VA.out (q := ab) rfl) (by decide) J3.out.1).keep B4.out).one tR4 (by decide) J5.out.1).one tP5 (by decide) (far6 (.slice (some ⟨ga, 0, none⟩) (k + 1) ca) (.slice (some ⟨gr, 0, none⟩) (k + 1) cr))
      have hP0 : two ga gr col' P = 1000 := (hcc2 P pl2).trans X2.out.2.2.2.1
      have r4 : Rws w4 (.slice la m lc) m (L at') (fun q => two ga gr col' q = 0) := L4.out.mono2 fun q hl ht hq => by
        have n1 : ¬ q = ga := by rcases ht with t | t <;> exact t.ne tA4 (by decide)
        have n2 : ¬ q = gr := by
          rcases T5.out with t | t
          · rw [← t]; rcases ht with t | t <;> exact t.ne tR4 (by decide)
          · omega
        show two ga gr col' q = 0
        rw [two_off _ n1 n2]
        exact F2.out.1 q (by omega)
      have r6 : Rws ((w5.setCell ⟨P, 3, none⟩ (.slice (some ⟨ga, 0, none⟩) (k + 1) ca)).setCell ⟨P, 4, none⟩ (.slice (some ⟨gr, 0, none⟩) (k + 1) cr)) (.slice la m lc) m (L at') (fun q => two ga gr col' q = 0) := by
        have r5 := r4.stand (w' := w5) fun q _ ht => J5.out.1 q (by rcases ht with t | t <;> exact t.lt) (by rcases ht with t | t <;> exact t.ne tR4 (by decide))
        exact r5.stand fun q _ ht => far6 _ _ q (by rcases ht with t | t <;> exact t.lt) (by rcases ht with t | t <;> exact t.ne tP5 (by decide))
      have dF := (((((D2.out.recol hcc2).one (H := ab) (by rw [hcc2 ab hal.2.2.2.2.2.2.1, ha2]; decide) J3.out.1).keep B4.out).one (H := rb) (by rw [hcc2 rb hal.2.2.2.2.2.2.2, hr2]; decide) J5.out.1).one (H := P) (by rw [hP0]; decide) (far6 (.slice (some ⟨ga, 0, none⟩) (k + 1) ca) (.slice (some ⟨gr, 0, none⟩) (k + 1) cr))).more r6
      have P5 : w5.rowIs P 37 5 (plc g (.slice a3 n c3) (.slice a2 n c2) (.slice (some ⟨ab, 0, none⟩) k ac) (.slice (some ⟨rb, 0, none⟩) k rc)) := ((X2.out.1.of_block (J3.out.1 P pl2 (fun e => hal.1 e.symm))).of_block (B4.out.block P pl3)).of_block (J5.out.1 P pl4 (fun e => hal.2.1 e.symm))
      have a6 : ((w5.setCell ⟨P, 3, none⟩ (.slice (some ⟨ga, 0, none⟩) (k + 1) ca)).setCell ⟨P, 4, none⟩ (.slice (some ⟨gr, 0, none⟩) (k + 1) cr)).ownsRow B 38 1 (.slice (some ⟨ga, 0, none⟩) (k + 1) ca) (k + 1) (ptrs (tn T k U) (k + 1)) := by
        rw [← ptrs_snoc]
        refine own_at A3.out fun q hq => ?_
        cases hq
        rw [far6 _ _ ga (by have := tA4.lt; omega) (((tA4.of_block (J5.out.1 ga tA4.lt (tA4.ne tR4 (by decide))))).ne tP5 (by decide)), J5.out.1 ga tA4.lt (tA4.ne tR4 (by decide)), B4.out.block ga tA3.lt]
      have v6 : ((w5.setCell ⟨P, 3, none⟩ (.slice (some ⟨ga, 0, none⟩) (k + 1) ca)).setCell ⟨P, 4, none⟩ (.slice (some ⟨gr, 0, none⟩) (k + 1) cr)).ownsRow B 53 1 (.slice (some ⟨gr, 0, none⟩) (k + 1) cr) (k + 1) ((List.range (k + 1)).map (upd D k (.slice la m lc))) := by
        rw [← upd_snoc]
        refine own_at A5.out fun q hq => ?_
        cases hq
        exact far6 _ _ gr (A5.out.lt gr rfl).2 ((ty_own A5.out (q := gr) rfl).ne tP5 (by decide))
      have gaB := A3.out.lt ga rfl
      have grB := A5.out.lt gr rfl
      refine ⟨rfl, .slice a3 n c3, .slice (some ⟨ga, 0, none⟩) (k + 1) ca, .slice (some ⟨gr, 0, none⟩) (k + 1) cr, tn T k U, upd D k (.slice la m lc), Bk.put L k (L at'), two ga gr col', fun i hi => Bk.put_off L _ (by omega), Bk.put_at _ _ _, cF, dF, ⟨((P5.set 3 _).congr (fun i hi => plc_set3 _ _ _ _ _ _ i hi)).set 4 _ |>.congr (fun i hi => plc_set4 _ _ _ _ _ _ i hi), a6, v6, hP0, fun q hq => by cases hq; exact two_x _ _ _, fun q hq => by cases hq; exact two_y _ _ _⟩, ⟨fun q hq => ?_, fun q hq => ?_, ?_⟩, ?_⟩
      · have hs : w5.heap.size ≤ q := by simpa using hq
        have s4 := S4
        rw [two_off _ (by omega) (by omega)]
        exact F2.out.1 q (by omega)
      · by_cases e1 : q = ga
        · rw [e1]; exact gaB.1
        · by_cases e2 : q = gr
          · rw [e2]; exact grB.1
          · rw [two_off _ e1 e2] at hq
            exact F2.out.2.1 q hq
      · have := F2.out.2.2
        simp
        omega
      · refine (UB.out.mono HF.out.2.2).trans ?_
        refine (((Z2.out.trans (J3.out.2.2 B hal.2.2.2.1 hal.2.2.2.2.2.1)).trans (B4.out.mono (by omega))).trans (J5.out.2.2 B hal.2.2.2.2.1 (by omega))).setCell (p := ⟨P, 3, none⟩) BP.out.1 _ |>.setCell (p := ⟨P, 4, none⟩) BP.out.1 _
end Go.Proofs.Ytpifemahakbegaa
