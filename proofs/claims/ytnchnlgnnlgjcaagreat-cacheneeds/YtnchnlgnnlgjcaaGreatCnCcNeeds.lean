/- Layer 13: CcNeeds. -/
import Derived.Test.YtnchnlgnnlgjcaaGreatCn38
import Derived.Test.YtnchnlgnnlgjcaaGreatCn26
namespace Go.Proofs.YtnchnlgnnlgjcaaGreat
set_option linter.unusedVariables false
set_option linter.unusedSimpArgs false
open Go.RowKit
namespace Cc
theorem Begun.nd {w v : World} {P g b C vb vr z n H D G W : Nat} {a3 : Option Addr} {c3 : Nat} {ls : List (Int × Int)} {col : Nat → Nat} (h : Begun w v P g b C vb vr z a3 c3 n H D G W ls col) (h0 : 0 < ls.length) :
    Nd w.heap.size w v P g b C n H D G W ls (List.replicate ls.length []) 0 0 n (.slice a3 ls.length c3) vb 1 (.slice (some ⟨vr, 0, none⟩) 1 1) col := by
  obtain ⟨h1, h2, h3, h4, h5, h6, h7, ⟨c1, c2, c3, c4⟩, h9, h10, h11⟩ := h
  have nt : ∀ i, Ca.nt (List.replicate ls.length ([] : List Tok)) i = [] := fun i => by
    unfold Ca.nt
    rw [List.getD_eq_getElem?_getD]
    by_cases hi : i < ls.length
    · rw [List.getElem?_eq_getElem (by simpa using hi)]; simp
    · rw [List.getElem?_eq_none (by simp; omega)]; rfl
  refine ⟨Po.zeros n, Po.zeros n, fun _ => [], h1, h2, h6, h7.congr fun r hr => ⟨rfl, ?_, ?_⟩, ⟨⟨by simp, h0, fun i hi => ?_⟩, fun i j hj => ?_⟩, by rw [Po.cnt_zeros], fun i _ x hx => by simp at hx, ⟨c1, c2, c3, c4⟩, h9, h9.size⟩
  · unfold tkD; rw [nt]
  · unfold qD; rw [nt]; unfold gn; simp
  · rw [nt]; unfold lv; rw [if_neg (by omega)]; rfl
  · exact absurd hj (by rw [nt]; simp)
theorem Nd.bd {B P g b C n H D G W t k f vb vc : Nat} {w0 w : World} {ls : List (Int × Int)} {T : List (List Tok)} {vl vr : Value} {col : Nat → Nat} (h : Nd B w0 w P g b C n H D G W ls T t k f vl vb vc vr col) : Bd w C g H D G W ls t k := by
  obtain ⟨R, M, L, h1, h2, h3, h4, _⟩ := h
  exact h4.bd
theorem Nd.below {B P g b C n H D G W t k f vb vc : Nat} {w0 w : World} {ls : List (Int × Int)} {T : List (List Tok)} {vl vr : Value} {col : Nat → Nat} (h : Nd B w0 w P g b C n H D G W ls T t k f vl vb vc vr col) : Below B w0 w := by
  obtain ⟨R, M, L, h1, h2, h3, h4, h5, h6, h7, h8, h10, h11⟩ := h
  exact h10
/-- The loop over the layers: k of them were put. -/
def ndF (nl t k : Nat) : Nat := if k = nl then t + 1 else t
def ndK (nl k : Nat) : Nat := if k = nl then 0 else k
theorem ndF_put {nl t k : Nat} (h : k < nl) : layT nl (ndF nl t k) (ndK nl k) = ndF nl t (k + 1) ∧ layN nl (ndK nl k) = ndK nl (k + 1) := by
  unfold layT layN ndF ndK
  rw [if_neg (by omega : ¬ k = nl), if_neg (by omega : ¬ k = nl)]
  exact ⟨rfl, rfl⟩
theorem nd_room {B P g b C n H D G W t f vb vc nd : Nat} {w0 w : World} {ls : List (Int × Int)} {T : List (List Tok)} {vl vr : Value} {col : Nat → Nat} {q : Bool} (h : Nd B w0 w P g b C n H D G W ls T t 0 f vl vb vc vr col) (hk : 0 < ls.length) (hl : ls.length ≤ 4) (hH : H ≤ 4) (hG : 1 ≤ G) (hG2 : G ≤ 16) (hW : W ≤ 64) (ht : t ≤ 1000) (hq : decide (gn G W t < gn G W (t + 1)) = q)
    (hn : (if q = true then ls.length * H else 0) = nd) : Calls Tryz.prog 34 #[.pointer (some ⟨C, 0, none⟩)] w fun e w' => e = .returned (.bool (decide (nd ≤ f))) ∧ Below w.heap.size w w' := by
  obtain ⟨R, M, L, h1, h2, hp, hc, h5, h7, _⟩ := h
  refine room_c C g b n H D G W f ls R M t 0 q _ w hp h7 hc.bd hk hl hH hG hG2 hW ht hq ?_
  cases q with
  | false => simp at hn; subst hn; simp
  | true => simp at hn; subst hn; simp
theorem nd_free {B P g b C n H D G W t k f vb vc : Nat} {w0 w : World} {ls : List (Int × Int)} {T : List (List Tok)} {vl vr : Value} {col : Nat → Nat} (h : Nd B w0 w P g b C n H D G W ls T t k f vl vb vc vr col) :
    Calls Tryz.prog 29 #[.pointer (some ⟨g, 0, none⟩)] w fun e w' => e = .returned (.int .i64 (f : Int)) ∧ Below w.heap.size w w' := by
  obtain ⟨R, M, L, h1, h2, hp, hc, h5, h7, _⟩ := h
  exact (free_any g b n f R M w hp h7).mono fun _ _ ⟨x1, x2⟩ => ⟨x1, by rw [x2]; exact Below.refl _ _⟩
theorem nd_full {B P g b C n H D G W t f vb vc : Nat} {w0 w : World} {ls : List (Int × Int)} {T : List (List Tok)} {vl vr : Value} {col : Nat → Nat} {a1 a2 : Option Addr} {k1 k2 : Nat} {ks vs : List (List Int)} (h : Nd B w0 w P g b C n H D G W ls T t 0 f vl vb vc vr col) (hk : 0 < ls.length) (hl : ls.length ≤ 4) (hH : H ≤ 4) (hD : D ≤ 16) (hG : 1 ≤ G) (hG2 : G ≤ 16) (hW : W ≤ 64) (ht : t ≤ 500)
    (hks : Tbl w a1 ks) (hvs : Tbl w a2 vs) (kl : ks.length ≤ 1000) (vl' : vs.length ≤ 1000) (f1 : Ca.fit H D ks = true) (f2 : Ca.fit H D vs = true) (hd : gn G W t < gn G W (t + 1)) (hf : f < H) :
    Calls Tryz.prog 20 #[.pointer (some ⟨C, 0, none⟩), .int .i64 0, .slice a1 ks.length k1, .slice a2 vs.length k2] w fun e w' => e = .returned (.int .i64 23) ∧ Below w.heap.size w w' := by
  obtain ⟨R, M, L, h1, h2, hp, hc, h5, h7, _⟩ := h
  exact put_full_c C g b n H D G W ls R M t 0 a1 a2 k1 k2 ks vs w hp hc.bd hk hl hH hD hG hG2 hW ht hks hvs kl vl' f1 f2 hd (by rw [h7]; exact hf)
theorem nd_gb {B P g b C n H D G W t k f vb vc : Nat} {w0 w : World} {ls : List (Int × Int)} {T : List (List Tok)} {vl vr : Value} {col : Nat → Nat} (h : Nd B w0 w P g b C n H D G W ls T t k f vl vb vc vr col) : col g = 1000 ∧ col b = 1000 := by
  obtain ⟨R, M, L, h1, h2, hp, hc, h5, h7, h8, h9, _⟩ := h
  exact h9.2.2
theorem keep_lt {B B' : Nat} {w0 w : World} {a : Option Addr} {l : List (List Int)} (h1 : Below B w0 w) (hB : B ≤ B') (h : SlQ (fun q => q < B) 1 eRow w0 a l) : SlQ (fun q => q < B') 1 eRow w a l := h.carry carry_row (fun q _ hq => ⟨Nat.lt_of_lt_of_le hq hB, h1.block q hq⟩) h1.size
theorem nd_cell {B P g b C n H D G W t k f vb vc : Nat} {w0 w : World} {ls : List (Int × Int)} {T : List (List Tok)} {vl vr : Value} {col : Nat → Nat} (h : Nd B w0 w P g b C n H D G W ls T t k f vl vb vc vr col) {i : Nat} (hi : i < 8) : w.cell? ⟨P, i, none⟩ = some (plb g H D G W vl (.slice (some ⟨vb, 0, none⟩) 1 vc) vr i) := by
  obtain ⟨R, M, L, h1, _⟩ := h
  exact h1.1.cell hi
theorem nd_fresh {B P g b C n H D G W t k f vb vc : Nat} {w0 w : World} {ls : List (Int × Int)} {T : List (List Tok)} {vl vr : Value} {col : Nat → Nat} (h : Nd B w0 w P g b C n H D G W ls T t k f vl vb vc vr col) {x : Nat} (hx : w.heap.size ≤ x) : col x = 0 := by
  obtain ⟨R, M, L, h1, h2, hp, hc, h5, h7, h8, h9, _⟩ := h
  exact h9.1 x hx
set_option maxRecDepth 100000 in
set_option maxHeartbeats 6400000 in
theorem needs_any (n H D G W : Int) (al : Option Addr) (cl : Nat) (ls : List (Int × Int)) (ao : Option Addr) (len co : Nat) (K : Nat → Rec) (w : World) (hO : Ops w.heap.size w ao len K) (hl : len ≤ maxLen) (hP : PsB w.heap.size w al ls) (hls : ls.length ≤ maxLen) :
    Calls Tryz.prog 7 #[.agg #[.int .i64 n, .int .i64 H, .int .i64 D, .int .i64 G, .int .i64 W, .slice al ls.length cl, .slice ao len co]] w fun e w' => e = .returned (.bool true) ∧ Below w.heap.size w w' := by
  have B0 := Ca.hid (box_below w (.cells #[.int .i64 n, .int .i64 H, .int .i64 D, .int .i64 G, .int .i64 W, .slice al ls.length cl, .slice ao len co] 29))
  have HO := Ca.hid hO
  have HP := Ca.hid hP
  have s00 : (w.alloc (.cells #[.int .i64 n, .int .i64 H, .int .i64 D, .int .i64 G, .int .i64 W, .slice al ls.length cl, .slice ao len co] 29)).heap.size = w.heap.size + 1 := by simp
  obtain ⟨w0, hw0⟩ : ∃ w0, w.alloc (.cells #[.int .i64 n, .int .i64 H, .int .i64 D, .int .i64 G, .int .i64 W, .slice al ls.length cl, .slice ao len co] 29) = w0 := ⟨_, rfl⟩
  rw [hw0] at s00 B0
  have k0 : Hid (∀ v, Below (w.heap.size + 1) w0 v → v.heap[w.heap.size]? = some (.cells #[.int .i64 n, .int .i64 H, .int .i64 D, .int .i64 G, .int .i64 W, .slice al ls.length cl, .slice ao len co] 29)) := fun v hv => by
    rw [hv.block _ (Nat.lt_succ_self _), ← hw0]; exact heap_alloc_new w _
  have z00 := k0.out w0 (Below.refl _ _)
  have x0 : w0.cell? ⟨w.heap.size, 0, none⟩ = some (.int .i64 n) := cell_of_row _ _ _ _ _ _ z00
  have x1 : w0.cell? ⟨w.heap.size, 1, none⟩ = some (.int .i64 H) := cell_of_row _ _ _ _ _ _ z00
  have x2 : w0.cell? ⟨w.heap.size, 2, none⟩ = some (.int .i64 D) := cell_of_row _ _ _ _ _ _ z00
  have x3 : w0.cell? ⟨w.heap.size, 3, none⟩ = some (.int .i64 G) := cell_of_row _ _ _ _ _ _ z00
  have x4 : w0.cell? ⟨w.heap.size, 4, none⟩ = some (.int .i64 W) := cell_of_row _ _ _ _ _ _ z00
  have x5 : w0.cell? ⟨w.heap.size, 5, none⟩ = some (.slice al ls.length cl) := cell_of_row _ _ _ _ _ _ z00
  have x6 : w0.cell? ⟨w.heap.size, 6, none⟩ = some (.slice ao len co) := cell_of_row _ _ _ _ _ _ z00
  clear z00
  obtain ⟨qs, eqs⟩ : ∃ qs, smallB K len ls.length n = qs := ⟨_, rfl⟩
  have SM := Ca.hid (small_any w.heap.size n H D G W al cl ls.length ao len co K qs w0 (HO.out.keep B0.out) B0.out.size hl eqs)
  clear hO hP
  cases qs with
  | false =>
    go_enter Tryz.func7, Tryz.ntmps7
    go_wp2_with (first
      | (go_at_call 8; refine SM.out.mono ?_; rintro e w1 ⟨rfl, hb⟩; have B1 := Ca.hid (B0.out.trans (hb.mono B0.out.size)); clear hb)
      | (go_at_call 9; refine (caAwake_any _).mono ?_; rintro e w2 ⟨rfl, hb⟩; have B2 := Ca.hid (B1.out.trans (hb.mono B1.out.size)); clear hb))
    go_ret
    exact ⟨rfl, B2.out⟩
  | true =>
    obtain ⟨sm1, sm2, sm3, sm4, sm5⟩ := smallB_true eqs
    have SM1 := Ca.hid sm1
    clear sm1 eqs
    obtain ⟨qr, eqr⟩ : ∃ qr, decide (1 ≤ H ∧ H ≤ 4 ∧ 1 ≤ D ∧ D ≤ 16 ∧ Tn.Tr.right G W ls = 0) = qr := ⟨_, rfl⟩
    have QR := Ca.hid eqr
    clear eqr
    cases qr with
    | false =>
      go_enter Tryz.func7, Tryz.ntmps7
      go_wp2_with (first
        | (go_at_call 8; refine SM.out.mono ?_; rintro e w1 ⟨rfl, hb⟩; have B1 := Ca.hid hb; have z0 := k0.out _ (hb.mono (by omega)); have y1 : w1.cell? ⟨w.heap.size, 1, none⟩ = some (.int .i64 H) := cell_of_row _ _ _ _ _ _ z0; have y2 : w1.cell? ⟨w.heap.size, 2, none⟩ = some (.int .i64 D) := cell_of_row _ _ _ _ _ _ z0; have y3 : w1.cell? ⟨w.heap.size, 3, none⟩ = some (.int .i64 G) := cell_of_row _ _ _ _ _ _ z0; have y4 : w1.cell? ⟨w.heap.size, 4, none⟩ = some (.int .i64 W) := cell_of_row _ _ _ _ _ _ z0; have y5 : w1.cell? ⟨w.heap.size, 5, none⟩ = some (.slice al ls.length cl) := cell_of_row _ _ _ _ _ _ z0; have B1w := Ca.hid (B0.out.trans (hb.mono B0.out.size)); clear hb z0)
        | (go_at_call 12; refine (Tn.refShape_any _ _ _ _ al cl ls _ (HP.out.keep B1w.out).1 (by omega)).mono ?_; rintro e w2 ⟨a3, c3, rfl, hps, hb, -⟩; have P3 := Ca.hid hps; have B2 := Ca.hid (B1w.out.trans (hb.mono B1w.out.size)); clear hps hb)
        | (go_at_call 11; refine (Tn.refRight13_any _ _ _ _ a3 c3 ls false _ P3.out (by unfold maxLen; omega) QR.out).mono ?_; rintro e w3 ⟨rfl, hb⟩; have B3 := Ca.hid (B2.out.trans (hb.mono B2.out.size)); clear hb)
        | (go_at_call 9; refine (caAwake_any _).mono ?_; rintro e w4 ⟨rfl, hb⟩; have B4 := Ca.hid (B3.out.trans (hb.mono B3.out.size)); clear hb))
      go_ret
      exact ⟨rfl, B4.out⟩
    | true =>
      have rr := of_decide_eq_true QR.out
      obtain ⟨r1, r2, r3, r4, r5⟩ := rr
      obtain ⟨g1, g2, g3, g4, g5, g6, g7⟩ := Tn.Tr.right_zero r5
      obtain ⟨n, rfl⟩ := Int.eq_ofNat_of_zero_le sm3
      obtain ⟨H, rfl⟩ := Int.eq_ofNat_of_zero_le (by omega : 0 ≤ H)
      obtain ⟨D, rfl⟩ := Int.eq_ofNat_of_zero_le (by omega : 0 ≤ D)
      obtain ⟨G, rfl⟩ := Int.eq_ofNat_of_zero_le (by omega : 0 ≤ G)
      obtain ⟨W, rfl⟩ := Int.eq_ofNat_of_zero_le (by omega : 0 ≤ W)
      have SH : Hid (ShOk H D G W ls) := ⟨by omega, by omega, by omega, by omega, r5⟩
      have g1' : 1 ≤ G := by omega
      have g2' : G ≤ 16 := by omega
      have g4' : W ≤ 64 := by omega
      have h1' : 1 ≤ H := by omega
      have h2' : H ≤ 4 := by omega
      have h3' : 1 ≤ D := by omega
      have h4' : D ≤ 16 := by omega
      clear r5 g7 g1 g2 g3 g4 r1 r2 r3 r4
      go_enter Tryz.func7, Tryz.ntmps7
      go_wp2_with (first
        | (go_at_call 8; refine SM.out.mono ?_; rintro e w1 ⟨rfl, hb⟩; have B1 := Ca.hid hb; have z0 := k0.out _ (hb.mono (by omega)); have y1 : w1.cell? ⟨w.heap.size, 1, none⟩ = some (.int .i64 (H : Int)) := cell_of_row _ _ _ _ _ _ z0; have y2 : w1.cell? ⟨w.heap.size, 2, none⟩ = some (.int .i64 (D : Int)) := cell_of_row _ _ _ _ _ _ z0; have y3 : w1.cell? ⟨w.heap.size, 3, none⟩ = some (.int .i64 (G : Int)) := cell_of_row _ _ _ _ _ _ z0; have y4 : w1.cell? ⟨w.heap.size, 4, none⟩ = some (.int .i64 (W : Int)) := cell_of_row _ _ _ _ _ _ z0; have y5 : w1.cell? ⟨w.heap.size, 5, none⟩ = some (.slice al ls.length cl) := cell_of_row _ _ _ _ _ _ z0; have B1w := Ca.hid (B0.out.trans (hb.mono B0.out.size)); have hs1 := hb.size; clear hb z0)
        | (go_at_call 12; refine (Tn.refShape_any _ _ _ _ al cl ls _ (HP.out.keep B1w.out).1 (by omega)).mono ?_; rintro e w2 ⟨a3, c3, rfl, hps, hb, -⟩; have P3 := Ca.hid hps; have B2 := Ca.hid (B1.out.trans (hb.mono (by omega))); have B2w := Ca.hid (B1w.out.trans (hb.mono B1w.out.size)); have hs2 := hb.size; clear hps hb)
        | (go_at_call 11; refine (Tn.refRight13_any _ _ _ _ a3 c3 ls true _ P3.out (by unfold maxLen; omega) QR.out).mono ?_; rintro e w3 ⟨rfl, hb⟩; clear y1 y2 y3 y4 y5; have z0 := k0.out _ ((B2.out.trans (hb.mono (by omega))).mono (by omega)); have y0 : w3.cell? ⟨w.heap.size, 0, none⟩ = some (.int .i64 (n : Int)) := cell_of_row _ _ _ _ _ _ z0; have y1 : w3.cell? ⟨w.heap.size, 1, none⟩ = some (.int .i64 (H : Int)) := cell_of_row _ _ _ _ _ _ z0; have y2 : w3.cell? ⟨w.heap.size, 2, none⟩ = some (.int .i64 (D : Int)) := cell_of_row _ _ _ _ _ _ z0; have y3 : w3.cell? ⟨w.heap.size, 3, none⟩ = some (.int .i64 (G : Int)) := cell_of_row _ _ _ _ _ _ z0; have y4 : w3.cell? ⟨w.heap.size, 4, none⟩ = some (.int .i64 (W : Int)) := cell_of_row _ _ _ _ _ _ z0; have y5 : w3.cell? ⟨w.heap.size, 5, none⟩ = some (.slice al ls.length cl) := cell_of_row _ _ _ _ _ _ z0; have y6 : w3.cell? ⟨w.heap.size, 6, none⟩ = some (.slice ao len co) := cell_of_row _ _ _ _ _ _ z0; have Z3 := Ca.hid z0; have B3 := Ca.hid (B2w.out.trans (hb.mono B2w.out.size)); have hs3 := hb.size; clear hb z0)
        | (go_at_call 10; refine (begun_ok n H D G W al cl ls ao len co _ (by omega) (HP.out.keep B3.out).1 SH.out).mono ?_; rintro e w4 ⟨P, g, b, C, vb, vr, z, a4, c4, col, rfl, hb⟩; have ND := Ca.hid (hb.nd (by omega)); have y66 : w4.cell? ⟨w.heap.size, 6, none⟩ = some (.slice ao len co) := cell_of_row _ _ _ _ _ _ ((ND.out.below.block _ (by omega)).trans Z3.out); clear hb))
      clear y0 y1 y2 y3 y4 y5 y6 x0 x1 x2 x3 x4 x5 x6
      go_loopw [29] (fun i wq => ∃ (j t f : Nat) (T : List (List Tok)) (cl : Nat → Nat), j ≤ len ∧ i = .int .i64 j ∧ t ≤ j ∧ Hid (Nd w3.heap.size w3 wq P g b C n H D G W ls T t 0 f (.slice a4 ls.length c4) vb 1 (.slice (some ⟨vr, 0, none⟩) 1 1) cl)) (fun i _ => len - (intOf i).toNat)
      case atStart => exact ⟨0, 0, n, _, col, Nat.zero_le _, rfl, Nat.zero_le _, ND.out⟩
      case round =>
        obtain ⟨j, t, f, T, cl, hj, rfl, htj, AJ⟩ := hrel
        have BWr : Hid (Below w.heap.size w wr) := B3.out.trans (AJ.out.below.mono B3.out.size)
        by_cases hlt : j < len
        · obtain ⟨ob, oo, rfl, hob, h6⟩ := (HO.out.keep BWr.out).get hlt
          obtain ⟨⟨q0, q1, q2, q3, q4, q5⟩, s1, s2, i1, i2⟩ := h6 j hlt
          obtain ⟨_, _, -, -, h60⟩ := HO.out.get hlt
          have s10 := (h60 j hlt).2.1
          have s20 := (h60 j hlt).2.2.1
          obtain ⟨lk1, lk2⟩ := SM1.out j hlt
          obtain ⟨z0, ez0⟩ : ∃ z, (K j).1 = z := ⟨_, rfl⟩
          obtain ⟨z1, ez1⟩ : ∃ z, (K j).2.1 = z := ⟨_, rfl⟩
          obtain ⟨z2, ez2⟩ : ∃ z, (K j).2.2.1 = z := ⟨_, rfl⟩
          obtain ⟨z3, ez3⟩ : ∃ z, (K j).2.2.2.1 = z := ⟨_, rfl⟩
          obtain ⟨ks, eks⟩ : ∃ z, (K j).2.2.2.2.2.2.1 = z := ⟨_, rfl⟩
          obtain ⟨vs, evs⟩ : ∃ z, (K j).2.2.2.2.2.2.2 = z := ⟨_, rfl⟩
          obtain ⟨⟨p1, d1⟩, ep1⟩ : ∃ z, (K j).2.2.2.2.1 = z := ⟨_, rfl⟩
          obtain ⟨⟨p2, d2⟩, ep2⟩ : ∃ z, (K j).2.2.2.2.2.1 = z := ⟨_, rfl⟩
          rw [ez0] at q0
          rw [ez1] at q1
          rw [ez2] at q2
          rw [ez3] at q3
          rw [eks, ep1] at q4
          rw [evs, ep2] at q5
          rw [eks, ep1] at s1 s10
          rw [evs, ep2] at s2 s20
          have S10 := Ca.hid s10
          have S20 := Ca.hid s20
          rw [eks] at i1 lk1
          rw [evs] at i2 lk2
          have S1 := Ca.hid s1
          have S2 := Ca.hid s2
          have I1 := Ca.hid i1
          have I2 := Ca.hid i2
          have hob2 : ob < wr.heap.size := by have := BWr.out.size; omega
          have e0 : (0 : Int) ≤ (j : Int) := by omega
          have e1 : (j : Int) < (len : Int) := by omega
          clear ez0 ez1 ez2 ez3 eks evs ep1 ep2 h6 h60 s1 s2 s10 s20 i1 i2
          go_upto_region 9 with fail
          obtain ⟨W1, hW1⟩ : ∃ W1, wr.alloc (.cells #[.int .i64 z0, .int .i64 z1, .int .i64 z2, .int .i64 z3, .slice p1 ks.length d1, .slice p2 vs.length d2] 44) = W1 := ⟨_, rfl⟩
          have BW1 : Hid (Below wr.heap.size wr W1) := by rw [← hW1]; exact box_below _ _
          have OB : Hid (W1.heap[wr.heap.size]? = some (.cells #[.int .i64 z0, .int .i64 z1, .int .i64 z2, .int .i64 z3, .slice p1 ks.length d1, .slice p2 vs.length d2] 44)) := by rw [← hW1]; exact heap_alloc_new wr _
          rw [hW1]
          clear hW1 q0 q1 q2 q3 q4 q5
          have A1 := Ca.hid (AJ.out.keep BW1.out)
          have hsr : w.heap.size ≤ wr.heap.size := BWr.out.size
          have T1 : Hid (SlQ (fun q => q < w.heap.size) 1 eRow W1 p1 ks) := S1.out.carry carry_row (fun q _ hq => ⟨hq, BW1.out.block q (by omega)⟩) BW1.out.size
          have T2 : Hid (SlQ (fun q => q < w.heap.size) 1 eRow W1 p2 vs) := S2.out.carry carry_row (fun q _ hq => ⟨hq, BW1.out.block q (by omega)⟩) BW1.out.size
          obtain ⟨R, M, L, ⟨hPr, cP⟩, ⟨hvb, cvb⟩, hp, hc, hlay, hcnt, hL, hcol, hbb, hsz⟩ := id A1.out
          have hf60 : f ≤ 60 := by
            have := Po.cnt_le R
            have := hp.nums.2.1
            omega
          have pc0 : W1.cell? ⟨P, 0, none⟩ = some (.pointer (some ⟨g, 0, none⟩)) := hPr.cell (show 0 < 8 by decide)
          have pc1 : W1.cell? ⟨P, 1, none⟩ = some (.int .i64 (H : Int)) := hPr.cell (show 1 < 8 by decide)
          have pc2 : W1.cell? ⟨P, 2, none⟩ = some (.int .i64 (D : Int)) := hPr.cell (show 2 < 8 by decide)
          have pc6 : W1.cell? ⟨P, 6, none⟩ = some (.slice (some ⟨vb, 0, none⟩) 1 1) := hPr.cell (show 6 < 8 by decide)
          have vc0 : W1.cell? ⟨vb, 0, none⟩ = some (.pointer (some ⟨C, 0, none⟩)) := hvb.cell
          have oc4 : W1.cell? ⟨wr.heap.size, 4, none⟩ = some (.slice p1 ks.length d1) := cell_of_row _ _ _ _ _ _ OB.out
          have oc5 : W1.cell? ⟨wr.heap.size, 5, none⟩ = some (.slice p2 vs.length d2) := cell_of_row _ _ _ _ _ _ OB.out
          have SHA := Ca.hid (shapedP_any P H D p1 d1 ks W1 pc1 pc2 T1.out.tbl (by omega) h2' h4')
          have SHB := Ca.hid (shapedP_any P H D p2 d2 vs W1 pc1 pc2 T2.out.tbl (by omega) h2' h4')
          clear hPr hvb hp hc hlay hcnt hL hcol hbb hsz cP cvb
          have stay : ∀ (W2 : World), Below W1.heap.size W1 W2 → Nd w3.heap.size w3 W2 P g b C n H D G W ls T t 0 f (.slice a4 ls.length c4) vb 1 (.slice (some ⟨vr, 0, none⟩) 1 1) cl := fun W2 hb => A1.out.keep hb
          cases f1 : Ca.fit H D ks with
          | false =>
            rw [f1] at SHA
            go_wp2_with (go_at_call 32; refine SHA.out.mono ?_; rintro e w' ⟨rfl, hww⟩; cases hww.symm; clear hww)
            go_roundw
            case rel => exact ⟨j + 1, t, f, T, cl, by omega, by go_num, by omega, A1.out⟩
            case measure => simp [intOf]; omega
          | true =>
            rw [f1] at SHA
            cases f2 : Ca.fit H D vs with
            | false =>
              rw [f2] at SHB
              go_wp2_with (first
                | (go_at_call 32; (with_reducible refine SHA.out.mono ?_); rintro e w' ⟨rfl, hww⟩; cases hww.symm; clear hww)
                | (go_at_call 32; (with_reducible refine SHB.out.mono ?_); rintro e w' ⟨rfl, hww⟩; cases hww.symm; clear hww))
              go_roundw
              case rel => exact ⟨j + 1, t, f, T, cl, by omega, by go_num, by omega, A1.out⟩
              case measure => simp [intOf]; omega
            | true =>
              rw [f2] at SHB
              have ht80 : t ≤ 80 := by omega
              obtain ⟨qd, eqd⟩ : ∃ qd, decide (gn G W t < gn G W (t + 1)) = qd := ⟨_, rfl⟩
              obtain ⟨nd, end'⟩ : ∃ nd, (if qd = true then ls.length * H else 0) = nd := ⟨_, rfl⟩
              have QD := Ca.hid eqd
              have NDE := Ca.hid end'
              clear eqd end'
              have nd16 : nd ≤ 16 := by
                rw [← NDE.out]
                split
                · exact Nat.le_trans (Nat.mul_le_mul g6 h2') (by decide)
                · omega
              go_upto_region 11 with (first
                | (go_at_call 32; (with_reducible refine SHA.out.mono ?_); rintro e w' ⟨rfl, hww⟩; cases hww.symm; clear hww)
                | (go_at_call 32; (with_reducible refine SHB.out.mono ?_); rintro e w' ⟨rfl, hww⟩; cases hww.symm; clear hww))
              have hnl : 0 < ls.length := by omega
              have g6' : ls.length ≤ 4 := g6
              have cN := Tn.reg_of (u := W1) fun v hv => need_c C g H D G W ls t 0 nd qd v (A1.out.keep hv).bd hnl g6' h2' g1' g2' g4' (by omega) QD.out NDE.out
              have cR := Tn.reg_of (u := W1) fun v hv => nd_room (A1.out.keep hv) hnl g6' h2' g1' g2' g4' (by omega) QD.out NDE.out
              have cF := Tn.reg_of (u := W1) fun v hv => nd_free (A1.out.keep hv)
              have pk0 := cell_regrown pc0
              refine wp_region_quiet_below (by kernel_rfl) (by kernel_rfl) ?_
              repeat (go_big_quiet_step (first | (with_reducible exact cN _ _) | (with_reducible exact cR _ _) | (with_reducible exact cF _ _)))
              refine wpQuiet_nil ?_
              intro W2 hw'
              have BQ : Hid (Below W1.heap.size W1 W2) := by obtain ⟨⟨dq, osq⟩, hw''⟩ := hw'; rw [hw'']; exact below_regrown W1 dq osq
              clear hw' cN cR cF pk0 SHA SHB pc0 pc1 pc2 pc6 vc0 oc4 oc5
              have A2 := Ca.hid (A1.out.keep BQ.out)
              have BW2 : Hid (Below wr.heap.size wr W2) := BW1.out.trans (BQ.out.mono BW1.out.size)
              have hs12 := BW1.out.size
              have hs22 := BQ.out.size
              have OB1 : wr.heap.size < W1.heap.size := (Array.getElem?_eq_some_iff.1 OB.out).1
              have OB2 : Hid (W2.heap[wr.heap.size]? = some (.cells #[.int .i64 z0, .int .i64 z1, .int .i64 z2, .int .i64 z3, .slice p1 ks.length d1, .slice p2 vs.length d2] 44)) := by
                show _ = _
                rw [BQ.out.block _ OB1]; exact OB.out
              have ov4 : W2.cell? ⟨wr.heap.size, 4, none⟩ = some (.slice p1 ks.length d1) := cell_of_row _ _ _ _ _ _ OB2.out
              have ov5 : W2.cell? ⟨wr.heap.size, 5, none⟩ = some (.slice p2 vs.length d2) := cell_of_row _ _ _ _ _ _ OB2.out
              have hw3 : w.heap.size ≤ w3.heap.size := B3.out.size
              have U1 : Hid (SlQ (fun q => q < w3.heap.size) 1 eRow W2 p1 ks) := T1.out.carry carry_row (fun q hq1 hq => ⟨by omega, BQ.out.block q hq1⟩) BQ.out.size
              have U2 : Hid (SlQ (fun q => q < w3.heap.size) 1 eRow W2 p2 vs) := T2.out.carry carry_row (fun q hq1 hq => ⟨by omega, BQ.out.block q hq1⟩) BQ.out.size
              by_cases c : nd ≤ f
              · have c' : (nd : Int) ≤ (f : Int) := by omega
                have cd : decide (nd ≤ f) = true := decide_eq_true c
                have pw5 : W2.cell? ⟨P, 5, none⟩ = some (.slice a4 ls.length c4) := nd_cell A2.out (show 5 < 8 by decide)
                have OC : Hid (cl wr.heap.size = 0) := nd_fresh AJ.out (Nat.le_refl _)
                have hdn : ls.length * dn qd H = nd := by
                  rw [← NDE.out]; unfold dn
                  cases qd with
                  | false => simp
                  | true => simp
                have HDN := Ca.hid hdn
                have hdn4 : dn qd H ≤ 4 := by unfold dn; split <;> omega
                clear hdn ov4 ov5
                rw [cd]
                go_wp2
                clear pw5
                obtain ⟨nr, hnr⟩ : ∃ nr, wr.heap.size = nr := ⟨_, rfl⟩
                rw [hnr] at OC OB2 ⊢
                clear hnr
                go_loopw [90] (fun i wq => ∃ (k : Nat) (T' : List (List Tok)) (cl' : Nat → Nat), k ≤ ls.length ∧ i = .int .i64 k ∧ Hid (Nd w3.heap.size w3 wq P g b C n H D G W ls T' (ndF ls.length t k) (ndK ls.length k) (f - k * dn qd H) (.slice a4 ls.length c4) vb 1 (.slice (some ⟨vr, 0, none⟩) 1 1) cl') ∧
                  Hid (cl' nr = 0 ∧ wq.heap[nr]? = some (.cells #[.int .i64 z0, .int .i64 z1, .int .i64 z2, .int .i64 z3, .slice p1 ks.length d1, .slice p2 vs.length d2] 44))) (fun i _ => ls.length - (intOf i).toNat)
                case atStart =>
                  refine ⟨0, T, cl, Nat.zero_le _, rfl, ?_, OC.out, OB2.out⟩
                  have e1 : ndF ls.length t 0 = t := if_neg (by omega)
                  have e2 : ndK ls.length 0 = 0 := if_neg (by omega)
                  rw [e1, e2, Nat.zero_mul, Nat.sub_zero]
                  exact A2.out
                case round =>
                  obtain ⟨k, T', cl', hk, rfl, AK, OK⟩ := hrel
                  by_cases hkl : k < ls.length
                  · have kn : ndK ls.length k = k := if_neg (by omega)
                    have ft : ndF ls.length t k = t := if_neg (by omega)
                    have hsub : (k + 1) * dn qd H ≤ nd := by rw [← HDN.out]; exact Nat.mul_le_mul_right _ hkl
                    rw [Nat.add_mul, Nat.one_mul] at hsub
                    have AK2 := AK.out
                    rw [kn, ft] at AK2
                    have AK3 := Ca.hid AK2
                    have BWk : Hid (Below w3.heap.size w3 wr) := AK.out.below
                    have ov4 : wr.cell? ⟨nr, 4, none⟩ = some (.slice p1 ks.length d1) := cell_of_row _ _ _ _ _ _ OK.out.2
                    have ov5 : wr.cell? ⟨nr, 5, none⟩ = some (.slice p2 vs.length d2) := cell_of_row _ _ _ _ _ _ OK.out.2
                    have V1 : Hid (SlQ (fun q => q < w3.heap.size) 1 eRow wr p1 ks) := keep_lt (B3.out.trans (BWk.out.mono B3.out.size)) hw3 S10.out
                    have V2 : Hid (SlQ (fun q => q < w3.heap.size) 1 eRow wr p2 vs) := keep_lt (B3.out.trans (BWk.out.mono B3.out.size)) hw3 S20.out
                    have gbl := nd_gb AK3.out
                    have hnr : nr < wr.heap.size := (Array.getElem?_eq_some_iff.1 OK.out.2).1
                    have ngb : ¬ nr = g ∧ ¬ nr = b := ⟨fun e => by have h1 := gbl.1; rw [← e, OK.out.1] at h1; omega, fun e => by have h1 := gbl.2; rw [← e, OK.out.1] at h1; omega⟩
                    have hff : qd = true → H ≤ f - k * dn qd H := fun e => by
                      subst e
                      have : dn true H = H := rfl
                      rw [this] at hsub ⊢
                      omega
                    go_wp2_with (go_at_call 20; refine (nd_put w3.heap.size P g b C n H D G W w3 ls T' t k (f - k * dn qd H) vb 1 _ _ cl' p1 p2 d1 d2 ks vs qd wr AK3.out SH.out (by omega) V1.out V2.out f1 f2 I1.out I2.out QD.out hff).mono ?_; rintro e w5 ⟨rfl, cl5, T5, a5, x5, y5⟩; have A5 := Ca.hid a5; have X5 := Ca.hid x5; have Y5 := Ca.hid y5; clear a5 x5 y5)
                    go_roundw
                    case rel =>
                      refine ⟨k + 1, T5, cl5, by omega, by go_num, ?_, ?_, ?_⟩
                      · have A6 := A5.out
                        have hp := ndF_put (t := t) hkl
                        rw [kn, ft] at hp
                        rw [hp.1, hp.2, Nat.sub_sub] at A6
                        rw [Nat.add_mul, Nat.one_mul]
                        exact A6
                      · rw [Y5.out nr hnr]; exact OK.out.1
                      · rw [X5.out.block hnr ngb.1 ngb.2 (fun e => by have e : cl' nr = 1 := e; have := OK.out.1; omega)]; exact OK.out.2
                    case measure => simp [intOf]; omega
                  · have ek : k = ls.length := by omega
                    subst ek
                    have kn : ndK ls.length ls.length = 0 := if_pos rfl
                    have ft : ndF ls.length t ls.length = t + 1 := if_pos rfl
                    have AK2 := AK.out
                    rw [kn, ft, HDN.out] at AK2
                    have AK3 := Ca.hid AK2
                    have pw0 : wr.cell? ⟨P, 0, none⟩ = some (.pointer (some ⟨g, 0, none⟩)) := nd_cell AK3.out (show 0 < 8 by decide)
                    have hwrap : IntKind.i64.wrap ((f : Int) - (nd : Int)) = ((f - nd : Nat) : Int) := by
                      have : (f : Int) - (nd : Int) = ((f - nd : Nat) : Int) := by omega
                      rw [this]
                      exact Tn.i64_same9 (by omega) (by omega)
                    clear AK2 AK
                    go_wp2_with (first
                      | (go_at_call 29; refine (nd_free AK3.out).mono ?_; rintro e w6 ⟨rfl, hb⟩; have A6 := Ca.hid (AK3.out.keep hb); clear hb)
                      | (go_at_call 21; refine (next_c C g H D G W ls (t + 1) 0 _ A6.out.bd hnl g6').mono ?_; rintro e w7 ⟨rfl, hx⟩; have A7 : Hid (Nd w3.heap.size w3 w7 P g b C n H D G W ls T' (t + 1) 0 (f - nd) (.slice a4 ls.length c4) vb 1 (.slice (some ⟨vr, 0, none⟩) 1 1) cl') := A6.out.keep (by obtain ⟨nq, rfl⟩ := hx; exact Rt.below_drewN (Below.refl _ _) _); clear hx))
                    go_roundw
                    case rel => exact ⟨j + 1, t + 1, f - nd, T', cl', by omega, by go_num, by omega, A7.out⟩
                    case measure => simp [intOf]; omega
              · have c' : ¬ (nd : Int) ≤ (f : Int) := by omega
                have cd : decide (nd ≤ f) = false := decide_eq_false c
                obtain rfl : qd = true := by
                  cases qd with
                  | false => exact absurd NDE.out (by show ¬ (if false = true then ls.length * H else 0) = nd; simp; omega)
                  | true => rfl
                rw [cd]
                by_cases hH : H ≤ f
                · have hgt : ¬ ((f : Int) < ((f - dn true H : Nat) : Int)) := by omega
                  go_wp2_with (first
                    | (go_at_call 20; refine (nd_put w3.heap.size P g b C n H D G W w3 ls T t 0 f vb 1 _ _ cl p1 p2 d1 d2 ks vs true W2 A2.out SH.out (by omega) U1.out U2.out f1 f2 I1.out I2.out QD.out (fun _ => hH)).mono ?_; rintro e w5 ⟨rfl, cl5, T5, a5, -, -⟩; have A5 := Ca.hid a5; have pv0 : w5.cell? ⟨P, 0, none⟩ = some (.pointer (some ⟨g, 0, none⟩)) := nd_cell a5 (show 0 < 8 by decide); clear a5)
                    | (go_at_call 29; refine (nd_free A5.out).mono ?_; rintro e w6 ⟨rfl, hb⟩; have BW6 := Ca.hid (B3.out.trans ((A5.out.keep hb).below.mono B3.out.size)); clear hb)
                    | (go_at_call 9; refine (caAwake_any _).mono ?_; rintro e w7 ⟨rfl, hb⟩; have B7 := Ca.hid (BW6.out.trans (hb.mono BW6.out.size)); clear hb))
                  go_ret
                  exact ⟨rfl, B7.out⟩
                · go_wp2_with (first
                    | (go_at_call 20; refine (nd_full A2.out hnl g6' h2' h4' g1' g2' g4' (by omega) (U1.out.tbl) (U2.out.tbl) (by omega) (by omega) f1 f2 (of_decide_eq_true QD.out) (by omega)).mono ?_; rintro e w6 ⟨rfl, hb⟩; have BW6 := Ca.hid (B3.out.trans ((A2.out.keep hb).below.mono B3.out.size)); clear hb)
                    | (go_at_call 9; refine (caAwake_any _).mono ?_; rintro e w7 ⟨rfl, hb⟩; have B7 := Ca.hid (BW6.out.trans (hb.mono BW6.out.size)); clear hb))
                  go_ret
                  exact ⟨rfl, B7.out⟩
        · have ej : j = len := by omega
          subst ej
          go_wp2_with (go_at_call 9; refine (caAwake_any _).mono ?_; rintro e w5 ⟨rfl, hb⟩; have B5 := Ca.hid (BWr.out.trans (hb.mono BWr.out.size)); clear hb)
          go_ret
          exact ⟨rfl, B5.out⟩
end Cc
end Go.Proofs.YtnchnlgnnlgjcaaGreat
