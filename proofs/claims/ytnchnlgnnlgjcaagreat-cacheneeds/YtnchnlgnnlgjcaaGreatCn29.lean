/- Layer 13: CcView. -/
import Derived.Test.YtnchnlgnnlgjcaaGreatCn28
namespace Go.Proofs.YtnchnlgnnlgjcaaGreat
set_option linter.unusedVariables false
set_option linter.unusedSimpArgs false
open Go.RowKit
namespace Cc
/-- What a head's tokens mean. -/
def vk (ls : List (Int × Int)) (G D ly hd : Nat) (l : List Tok) (q : Nat) : List (List Int) := Ca.flat G (Ca.keyAt (mk ls ly) (mv ls ly) (top (mk ls ly)) (top (mv ls ly)) G D ly hd l) q ++ Ca.ksOf (l.drop (q * G)) hd
def vv (ls : List (Int × Int)) (G D ly hd : Nat) (l : List Tok) (q : Nat) : List (List Int) := Ca.flat G (Ca.valAt (mk ls ly) (mv ls ly) (top (mk ls ly)) (top (mv ls ly)) G D ly hd l) q ++ Ca.vsOf (l.drop (q * G)) hd
set_option maxRecDepth 100000 in
set_option maxHeartbeats 3200000 in
theorem view_c (C c g b n H D G W ly hd r q0 : Nat) (ls : List (Int × Int)) (R M : List Int) (L : Nat → List Int) (t k : Nat) (tk : Nat → List Tok) (q : Nat → Nat) (col : Nat → Nat) (w : World) (hp : PoolAt w g b n R M) (h : CaAt w col c g C H D G W ls M L (cn ls.length t k) tk q) (sh : ShOk H D G W ls)
    (hly : ly < ls.length) (hhd : hd < H) (hr : ly * H + hd = r) (hq0 : q r = q0) (hlen : (tk r).length ≤ 1000) (hT : ∀ i (h : i < (tk r).length), TokOk H D (tk r)[i]) (hL : ∀ i, i < ls.length * H → ∀ x, x ∈ L i → 0 ≤ x ∧ x < n ∧ 0 < Ls.nth R x.toNat) :
    Calls Tryz.prog 22 #[.pointer (some ⟨C, 0, none⟩), .int .i64 (ly : Int), .int .i64 (hd : Int)] w fun e w' => ∃ (v1 v2 : Value) (xs ys : List Value), e = .returned (.tuple #[v1, v2]) ∧
      TwoN w.heap.size w' v1 v2 (tk r).length (tk r).length (vk ls G D ly hd (tk r) q0) (vv ls G D ly hd (tk r) q0) xs ys ∧ Below w.heap.size w w' := by
  obtain ⟨sH, sH2, sD, sD2, -⟩ := id sh
  obtain ⟨sG, sG2, -, sl, sl2, -⟩ := sh.nums
  obtain ⟨-, -, st0, st1⟩ := sh.bits hly
  have b0 : mk ls ly = 2 ∨ mk ls ly = 4 ∨ mk ls ly = 8 := by rcases st0 with h | h | h; exact .inl h.1; exact .inr (.inl h.1); exact .inr (.inr h.1)
  have b1 : mv ls ly = 2 ∨ mv ls ly = 4 ∨ mv ls ly = 8 := by rcases st1 with h | h | h; exact .inl h.1; exact .inr (.inl h.1); exact .inr (.inr h.1)
  have rlt : r < ls.length * H := by
    have h1 : (ly + 1) * H ≤ ls.length * H := Nat.mul_le_mul_right H (by omega)
    rw [Nat.add_mul] at h1
    omega
  have HP := Ca.hid hp
  have HC := Ca.hid h
  have HL := Ca.hid hL
  have HT := Ca.hid hT
  have SH := Ca.hid sh
  obtain ⟨al, cl, T, pb, pc, ct, cc, rg, rs, F, -, -, -, -, -, -, hrow⟩ := h.in
  obtain ⟨-, hqG, hpg, -⟩ := hrow r rlt
  rw [hq0] at hqG hpg
  have hdv := up_row ly hd H hhd
  rw [hr] at hdv
  rw [hdv.1, hdv.2] at hpg
  have PG := Ca.hid hpg
  have QG := Ca.hid hqG
  have HQ0 := Ca.hid hq0
  have q1000 : q0 ≤ 1000 := by have := Nat.le_mul_of_pos_right q0 (show 0 < G by omega); omega
  have HR := Ca.hid hr
  clear h hp hrow hpg hL hT sh hdv hq0 hr
  go_enter Tryz.func22, Tryz.ntmps22
  go_wp2_with (go_at_call 24; refine (pages_c C c g b n H D G W ly hd r q0 ls R M L t k tk q col _ HP.out HC.out SH.out hly hhd HR.out HQ0.out q1000 HL.out).mono ?_; rintro e w1 ⟨v, rfl, ho, hb⟩; obtain ⟨pa, pcp, rfl⟩ := Ca.own_slice ho; have OP := Ca.hid ho; have B1 := Ca.hid hb; have hs1 := hb.size; clear ho hb)
  go_loopw [6, 7, 17] (fun kv vw i wq => ∃ (j : Nat) (xs ys : List Value), j ≤ q0 ∧ i = .int .i64 j ∧ Hid (TwoN w1.heap.size wq kv vw (j * G) (j * G) (Ca.flat G (Ca.keyAt (mk ls ly) (mv ls ly) (top (mk ls ly)) (top (mv ls ly)) G D ly hd (tk r)) j) (Ca.flat G (Ca.valAt (mk ls ly) (mv ls ly) (top (mk ls ly)) (top (mv ls ly)) G D ly hd (tk r)) j) xs ys) ∧ Hid (Below w1.heap.size w1 wq)) (fun _ _ i _ => q0 - (intOf i).toNat)
  case atStart => exact ⟨0, [], [], Nat.zero_le _, rfl, by rw [Nat.zero_mul]; exact twoN_nil _ _, Below.refl _ _⟩
  case round =>
    obtain ⟨j, xs, ys, hj, rfl, TW, B2⟩ := hrel
    by_cases hlt : j < q0
    · have hjG : j * G + G ≤ 1000 := by have := mul_next (G := G) hlt; have := QG.out; omega
      have eN : (j + 1) * G = j * G + G := by rw [Nat.add_mul, Nat.one_mul]
      have EN := Ca.hid eN
      obtain ⟨gp, cap, Fp, ep, hgp, hrp, hcap, hcp⟩ := row_of_own OP.out (by omega)
      cases ep
      obtain ⟨p, ep, hz⟩ := PG.out j hlt
      have fp : Fp j = .pointer (some ⟨p, 0, none⟩) := by
        have h1 := hcp j hlt
        rw [ptrs_at hlt] at h1
        have h2 : pgb M (L r) j = p := by unfold pgb; rw [ep]; rfl
        rw [h2] at h1
        exact Option.some.inj h1
      have hB1r : Below w.heap.size w wr := B1.out.trans (B2.out.mono hs1)
      have PA := Ca.hid (fun (v : World) (hv : Below w.heap.size w v) => (hz.carry (Z' := fun x => col x = 0) (fun x hx h0 => ⟨h0, hv.block x hx⟩)).at)
      have BR := Ca.hid hB1r
      obtain ⟨_, _, _, _, _, hpage, _⟩ := hz
      obtain ⟨lk, lvv, dk, dv⟩ := page_deep hpage b0 b1
      have TK := Ca.hid (keys_tab (mk ls ly) (mv ls ly) (top (mk ls ly)) (top (mv ls ly)) G D ly hd (tk r) j lk)
      have TV := Ca.hid (vals_tab (mk ls ly) (mv ls ly) (top (mk ls ly)) (top (mv ls ly)) G D ly hd (tk r) j lvv dv)
      have hcell : wr.cell? ⟨gp, j, none⟩ = some (.pointer (some ⟨p, 0, none⟩)) := by
        rw [B2.out.cell (p := ⟨gp, j, none⟩) hrp.lt, hrp.cell (by omega), fp]
      have hs2 := B2.out.size
      have LG : Hid (G = (Pg.tab G D (Pg.keyAt (Ca.pg (mk ls ly) (mv ls ly) (top (mk ls ly)) (top (mv ls ly)) G D ly hd (tk r) j).2.1)).length ∧ G = (Pg.tab G D (Pg.valAt (Ca.pg (mk ls ly) (mv ls ly) (top (mk ls ly)) (top (mv ls ly)) G D ly hd (tk r) j).2.2)).length) := ⟨(Pg.tab_length _ _ _).symm, (Pg.tab_length _ _ _).symm⟩
      clear ep hcp hpage lk lvv dk dv hB1r hrp fp eN
      go_wp2_with (first
        | (go_at_call 64; (with_reducible refine (keys_any p _ _ _ _ _ _ _ _ _ _ (PA.out _ BR.out)).mono ?_); rintro e w2 ⟨g1, b1, rfl, hg1, ht, hb⟩; have SK := Ca.hid (trow_slq ht (by omega)); have B3 := Ca.hid hb; have hs3 := hb.size; have G1 := Ca.hid hg1; clear ht hb hg1)
        | (at_builtin; refine wpList_append_rows rfl _ _ 42 rfl w1.heap.size 74 Tryz.underlying42 Ca.infoRow _ (j * G) G ((j + 1) * G) xs (by rfl) ((TW.out.to B3.out).own) (some ⟨g1, 0, none⟩) _ G LG.out.1 EN.out (by rfl) SK.out (by omega) (by omega) (by omega) ?_; intro gk ck w3 news hnl hne hown hgrow hat; have T3 := Ca.hid ((TW.out.to B3.out).rest LG.out.1 hnl (fun q hq hq2 => ⟨by have := G1.out; omega, fun e => by have := TW.out.own.lt q e; have := G1.out; omega, fun e => by have := TW.out.swap.own.lt q e; have := G1.out; omega⟩) hown hgrow hat hne); have B4 : Hid (Below w1.heap.size w1 w3) := (B2.out.trans (B3.out.mono hs2)).grown hgrow (by omega) (fun q hq => (TW.out.own.lt q hq).1); have s4 := hgrow.size; clear hne hown hgrow hat hnl)
        | (go_at_call 65; (with_reducible refine (values_any p _ _ _ _ _ _ _ _ _ _ (PA.out _ (B1.out.trans (B4.out.mono hs1)))).mono ?_); rintro e w4 ⟨g2, b2, rfl, hg2, ht, hb⟩; have SV := Ca.hid (trow_slq ht (by omega)); have B6 := Ca.hid hb; have hs6 := hb.size; have G2 := Ca.hid hg2; clear ht hb hg2)
        | (at_builtin; refine wpList_append_rows rfl _ _ 42 rfl w1.heap.size 74 Tryz.underlying42 Ca.infoRow _ (j * G) G ((j + 1) * G) ys (by rfl) ((T3.out.swap.to B6.out).own) (some ⟨g2, 0, none⟩) _ G LG.out.2 EN.out (by rfl) SV.out (by omega) (by omega) (by omega) ?_; intro gv cv w5 news2 hnl hne hown hgrow hat; have T5 := Ca.hid (((T3.out.swap.to B6.out).rest LG.out.2 hnl (fun q hq hq2 => ⟨by have := G2.out; omega, fun e => by have := T3.out.swap.own.lt q e; have := G2.out; omega, fun e => by have := T3.out.own.lt q e; have := G2.out; omega⟩) hown hgrow hat hne).swap); have B7 : Hid (Below w1.heap.size w1 w5) := (B4.out.trans (B6.out.mono (by omega))).grown hgrow (by omega) (fun q hq => (T3.out.swap.own.lt q hq).1); clear hne hown hgrow hat hnl))
      go_roundw
      case rel =>
        have T6 := T5.out
        rw [TK.out, TV.out] at T6
        refine ⟨j + 1, xs ++ news, ys ++ news2, by omega, by go_num, ?_, B7.out⟩
        rw [Ca.flat_succ, Ca.flat_succ, EN.out]
        exact T6
      case measure => simp [intOf]; omega
    · have ej : j = q0 := by omega
      subst ej
      obtain ⟨m, em⟩ : ∃ m, (tk r).length - j * G = m := ⟨_, rfl⟩
      have EL : Hid ((tk r).length = j * G + m) := by show _ = _; have := QG.out; omega
      have hk1 : (Ca.ksOf ((tk r).drop (j * G)) hd).length = m := (List.length_map _).trans ((List.length_drop).trans em)
      have hv1 : (Ca.vsOf ((tk r).drop (j * G)) hd).length = m := (List.length_map _).trans ((List.length_drop).trans em)
      have EK := Ca.hid hk1
      have EV := Ca.hid hv1
      have BR : Hid (Below w.heap.size w wr) := B1.out.trans (B2.out.mono hs1)
      have hsr := B2.out.size
      have hm : j * G + m ≤ 1000 := by have := EL.out; omega
      obtain ⟨ka, kc, rfl⟩ := Ca.own_slice TW.out.own
      obtain ⟨va, vc, rfl⟩ := Ca.own_slice TW.out.swap.own
      obtain ⟨i1, hi10, hi11, hi12, hi13⟩ := info_parts Ca.infoRow
      clear hk1 hv1 em
      by_cases hz : m = 0
      · go_wp2_with (first
          | (go_at_call 30; refine (plain_c C c g H D G W ly hd r j ls M L t k tk q col _ (HC.out.below BR.out) SH.out hly hhd HR.out HQ0.out HT.out).mono ?_; rintro e w2 ⟨S, v1, v2, xs2, ys2, rfl, -, -, -, -, hn1, hn2, hb⟩; obtain rfl := hn1 (List.length_eq_zero_iff.1 (EK.out.trans hz)); obtain rfl := hn2 (List.length_eq_zero_iff.1 (EV.out.trans hz)); have BL := Ca.hid hb; clear hb hn1 hn2)
          | (at_builtin; refine wpList_append_own_none rfl _ _ _ rfl w1.heap.size 74 i1 1 Tryz.underlying42 hi10 _ _ xs (by rfl) ((TW.out.to BL.out).own) (by rfl) ?_)
          | (at_builtin; refine wpList_append_own_none rfl _ _ _ rfl w1.heap.size 74 i1 1 Tryz.underlying42 hi10 _ _ ys (by rfl) ((TW.out.swap.to BL.out).own) (by rfl) ?_))
        go_ret2
        refine ⟨_, _, xs, ys, rfl, ?_, BR.out.trans (BL.out.mono (by omega))⟩
        have e0 := EL.out
        rw [hz] at e0
        unfold vk vv
        rw [List.length_eq_zero_iff.1 (EK.out.trans hz), List.length_eq_zero_iff.1 (EV.out.trans hz), List.append_nil, List.append_nil, e0, Nat.add_zero]
        exact (TW.out.to BL.out).mono hs1
      · have hm0 : 0 < m := by omega
        go_wp2_with (first
          | (go_at_call 30; refine (plain_c C c g H D G W ly hd r j ls M L t k tk q col _ (HC.out.below BR.out) SH.out hly hhd HR.out HQ0.out HT.out).mono ?_; rintro e w2 ⟨S, v1, v2, xs2, ys2, rfl, hS, A1, A2, -, -, -, hb⟩; rw [EK.out] at A1; rw [EV.out] at A2; obtain ⟨a1, c1, rfl, s1, -⟩ := A1.slq carry_row (Q' := fun q => wr.heap.size ≤ q) (fun _ h => h) (fun q h => (hS q h).1); obtain ⟨a2, c2, rfl, s2, -⟩ := A2.slq carry_row (Q' := fun q => wr.heap.size ≤ q) (fun _ h => h) (fun q h => (hS q h).1); have S1 : Hid (SlQ (fun q => wr.heap.size ≤ q ∧ q < w2.heap.size) 1 eRow w2 a1 (Ca.ksOf ((tk r).drop (j * G)) hd)) := s1.carry carry_row (fun q q1 q2 => ⟨⟨q2, q1⟩, rfl⟩) (Nat.le_refl _); have S2 : Hid (SlQ (fun q => wr.heap.size ≤ q ∧ q < w2.heap.size) 1 eRow w2 a2 (Ca.vsOf ((tk r).drop (j * G)) hd)) := s2.carry carry_row (fun q q1 q2 => ⟨⟨q2, q1⟩, rfl⟩) (Nat.le_refl _); have BL := Ca.hid hb; have sl := hb.size; clear hb A1 A2 hS s1 s2)
          | (at_builtin; refine wpList_append_rows rfl _ _ 42 rfl w1.heap.size 74 Tryz.underlying42 Ca.infoRow _ (j * G) m ((tk r).length) xs (by rfl) ((TW.out.to BL.out).own) a1 (Ca.ksOf ((tk r).drop (j * G)) hd) c1 EK.out.symm EL.out (by rfl) S1.out (by omega) (by omega) hm0 ?_; intro gp cp wp news hnl hne hown hgrow hat; have T3 := Ca.hid ((TW.out.to BL.out).rest EK.out.symm hnl (fun q hq hq2 => ⟨by omega, fun e => by have := TW.out.own.lt q e; omega, fun e => by have := TW.out.swap.own.lt q e; omega⟩) hown hgrow hat hne); have S2p : Hid (SlQ (fun q => wr.heap.size ≤ q ∧ q < w2.heap.size) 1 eRow wp a2 (Ca.vsOf ((tk r).drop (j * G)) hd)) := S2.out.carry carry_row (fun q q1 q2 => ⟨q2, hgrow.block q q1 fun e => by have := TW.out.own.lt q e.symm; omega⟩) hgrow.size; have BP : Hid (Below w1.heap.size w1 wp) := (B2.out.trans (BL.out.mono hsr)).grown hgrow (by omega) (fun q hq => (TW.out.own.lt q hq).1); have gpl : Hid ((Value.slice ka (j * G) kc).ownBlock = some gp ∨ gp = w2.heap.size) := hat; have spl := hgrow.size; clear hne hown hgrow hat hnl)
          | (at_builtin; refine wpList_append_rows rfl _ _ 42 rfl w1.heap.size 74 Tryz.underlying42 Ca.infoRow _ (j * G) m ((tk r).length) ys (by rfl) (T3.out.swap.own) a2 (Ca.vsOf ((tk r).drop (j * G)) hd) c2 EV.out.symm EL.out (by rfl) S2p.out (by omega) (by omega) hm0 ?_; intro gq cq wq news2 hnl hne hown hgrow hat; have T4 := Ca.hid ((T3.out.swap.rest EV.out.symm hnl (fun q hq hq2 => ⟨by omega, fun e => by have := TW.out.swap.own.lt q e; omega, fun e => by
              have e : gp = q := by injection e
              rcases gpl.out with f | f
              · have := TW.out.own.lt gp f; omega
              · omega⟩) hown hgrow hat hne).swap); have BQ : Hid (Below w1.heap.size w1 wq) := BP.out.grown hgrow (by omega) (fun q hq => (TW.out.swap.own.lt q hq).1); clear hne hown hgrow hat hnl))
        go_ret2
        refine ⟨.slice (some ⟨gp, 0, none⟩) (tk r).length cp, .slice (some ⟨gq, 0, none⟩) (tk r).length cq, xs ++ news, ys ++ news2, rfl, ?_, B1.out.trans (BQ.out.mono hs1)⟩
        have T4 := T4.out
        unfold vk vv
        rw [EL.out]
        exact T4.mono hs1
end Cc
end Go.Proofs.YtnchnlgnnlgjcaaGreat
