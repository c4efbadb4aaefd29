/- Layer 13: CcPutNo, CcTrim, CcClear. -/
import Derived.Test.YtnchnlgnnlgjcaaGreatCn32
import Derived.Test.YtnchnlgnnlgjcaaGreatCn28
import Derived.Test.YtnchnlgnnlgjcaaGreatCn21
namespace Go.Proofs.YtnchnlgnnlgjcaaGreat
set_option linter.unusedVariables false
set_option linter.unusedSimpArgs false
open Go.RowKit
namespace Cc
/-- Not the layer that is next. -/
theorem put_open_c (C g H D G W : Nat) (ls : List (Int × Int)) (t k : Nat) (ly : Int) (v1 v2 : Value) (w : World) (h : Bd w C g H D G W ls t k) (hk : k < ls.length) (hl : ls.length ≤ 4) (ht : t ≤ 500) (hly : ¬ ly = k) :
    Calls Tryz.prog 20 #[.pointer (some ⟨C, 0, none⟩), .int .i64 ly, v1, v2] w fun e w' => e = .returned (.int .i64 24) ∧ Below w.heap.size w w' := by
  have HB : Hid (Bd w C g H D G W ls t k) := h
  have ht1024 : ((t : Int) == 1024) = false := by simp; omega
  have hn : (ly != (k : Int)) = true := by simpa using hly
  clear h hly
  go_enter Tryz.func20, Tryz.ntmps20
  go_wp2_with (first
    | (go_at_call 26; refine (tokens_c C g H D G W ls t k _ HB.out hk hl).mono ?_; rintro e w1 ⟨rfl, hx⟩; have B1 : Hid (Below w.heap.size w w1) := (by obtain ⟨nq, rfl⟩ := hx; exact Rt.below_drewN (Below.refl _ _) _); clear hx)
    | (go_at_call 21; refine (next_c C g H D G W ls t k _ (HB.out.keep B1.out) hk hl).mono ?_; rintro e w2 ⟨rfl, hx⟩; have B2 : Hid (Below w.heap.size w w2) := (by obtain ⟨nq, rfl⟩ := hx; exact Rt.below_drewN B1.out _); clear hx))
  go_ret
  exact ⟨rfl, B2.out⟩
/-- Not as many keys, or values, or numbers. -/
theorem put_shape_c (C g H D G W : Nat) (ls : List (Int × Int)) (t k : Nat) (a1 a2 : Option Addr) (k1 k2 : Nat) (ks vs : List (List Int)) (w : World) (h : Bd w C g H D G W ls t k) (hk : k < ls.length) (hl : ls.length ≤ 4) (hH : H ≤ 4) (hD : D ≤ 16) (ht : t ≤ 500)
    (hks : Tbl w a1 ks) (hvs : Tbl w a2 vs) (kl : ks.length ≤ 1000) (vl : vs.length ≤ 1000) (hf : (Ca.fit H D ks && Ca.fit H D vs) = false) :
    Calls Tryz.prog 20 #[.pointer (some ⟨C, 0, none⟩), .int .i64 (k : Int), .slice a1 ks.length k1, .slice a2 vs.length k2] w fun e w' => e = .returned (.int .i64 25) ∧ Below w.heap.size w w' := by
  have HB : Hid (Bd w C g H D G W ls t k) := h
  have ht1024 : ((t : Int) == 1024) = false := by simp; omega
  have KT : Hid (Tbl w a1 ks) := hks
  have VT : Hid (Tbl w a2 vs) := hvs
  clear h hks hvs
  obtain ⟨q1, e1⟩ : ∃ q, Ca.fit H D ks = q := ⟨_, rfl⟩
  obtain ⟨q2, e2⟩ : ∃ q, Ca.fit H D vs = q := ⟨_, rfl⟩
  rw [e1, e2] at hf
  have E1 := Ca.hid e1
  have E2 := Ca.hid e2
  clear e1 e2
  cases q1 with
  | false =>
    clear hf
    go_enter Tryz.func20, Tryz.ntmps20
    go_wp2_with (first
      | (go_at_call 26; refine (tokens_c C g H D G W ls t k _ HB.out hk hl).mono ?_; rintro e w1 ⟨rfl, hx⟩; have B1 : Hid (Below w.heap.size w w1) := (by obtain ⟨nq, rfl⟩ := hx; exact Rt.below_drewN (Below.refl _ _) _); clear hx)
      | (go_at_call 21; refine (next_c C g H D G W ls t k _ (HB.out.keep B1.out) hk hl).mono ?_; rintro e w2 ⟨rfl, hx⟩; have B2 : Hid (Below w.heap.size w w2) := (by obtain ⟨nq, rfl⟩ := hx; exact Rt.below_drewN B1.out _); clear hx)
      | (go_at_call_of 57 (a1); refine (fits_c C g H D G W ls t k a1 k1 ks _ (HB.out.keep B2.out) (KT.out.keep B2.out) (by omega) hH hD).mono ?_; rintro e w' ⟨rfl, hww⟩; cases hww.symm; clear hww; rw [E1.out]))
    go_ret
    exact ⟨rfl, B2.out⟩
  | true =>
    have e : q2 = false := by simpa using hf
    subst e
    clear hf
    go_enter Tryz.func20, Tryz.ntmps20
    go_wp2_with (first
      | (go_at_call 26; refine (tokens_c C g H D G W ls t k _ HB.out hk hl).mono ?_; rintro e w1 ⟨rfl, hx⟩; have B1 : Hid (Below w.heap.size w w1) := (by obtain ⟨nq, rfl⟩ := hx; exact Rt.below_drewN (Below.refl _ _) _); clear hx)
      | (go_at_call 21; refine (next_c C g H D G W ls t k _ (HB.out.keep B1.out) hk hl).mono ?_; rintro e w2 ⟨rfl, hx⟩; have B2 : Hid (Below w.heap.size w w2) := (by obtain ⟨nq, rfl⟩ := hx; exact Rt.below_drewN B1.out _); clear hx)
      | (go_at_call_of 57 (k1); refine (fits_c C g H D G W ls t k a1 k1 ks _ (HB.out.keep B2.out) (KT.out.keep B2.out) (by omega) hH hD).mono ?_; rintro e w' ⟨rfl, hww⟩; cases hww.symm; clear hww; rw [E1.out])
      | (go_at_call_of 57 (k2); refine (fits_c C g H D G W ls t k a2 k2 vs _ (HB.out.keep B2.out) (VT.out.keep B2.out) (by omega) hH hD).mono ?_; rintro e w' ⟨rfl, hww⟩; cases hww.symm; clear hww; rw [E2.out]))
    go_ret
    exact ⟨rfl, B2.out⟩
set_option maxHeartbeats 800000 in
/-- Pages are needed, and the pool has fewer free slots than heads. -/
theorem put_full_c (C g b n H D G W : Nat) (ls : List (Int × Int)) (R M : List Int) (t k : Nat) (a1 a2 : Option Addr) (k1 k2 : Nat) (ks vs : List (List Int)) (w : World) (hp : PoolAt w g b n R M) (h : Bd w C g H D G W ls t k) (hk : k < ls.length) (hl : ls.length ≤ 4) (hH : H ≤ 4) (hD : D ≤ 16) (hG : 1 ≤ G) (hG2 : G ≤ 16) (hW : W ≤ 64) (ht : t ≤ 500)
    (hks : Tbl w a1 ks) (hvs : Tbl w a2 vs) (kl : ks.length ≤ 1000) (vl : vs.length ≤ 1000) (f1 : Ca.fit H D ks = true) (f2 : Ca.fit H D vs = true) (hdue : gn G W t < gn G W (t + 1)) (hfree : Po.cnt R < H) :
    Calls Tryz.prog 20 #[.pointer (some ⟨C, 0, none⟩), .int .i64 (k : Int), .slice a1 ks.length k1, .slice a2 vs.length k2] w fun e w' => e = .returned (.int .i64 23) ∧ Below w.heap.size w w' := by
  have HB : Hid (Bd w C g H D G W ls t k) := h
  have HP : Hid (PoolAt w g b n R M) := hp
  have ht1024 : ((t : Int) == 1024) = false := by simp; omega
  have KT : Hid (Tbl w a1 ks) := hks
  have VT : Hid (Tbl w a2 vs) := hvs
  have E1 := Ca.hid f1
  have E2 := Ca.hid f2
  have DU : Hid (decide (gn G W t < gn G W (t + 1)) = true) := decide_eq_true hdue
  obtain ⟨cf, ecf⟩ : ∃ cf, Po.cnt R = cf := ⟨_, rfl⟩
  have ECF := Ca.hid ecf
  have hlt : decide ((cf : Int) < (H : Int)) = true := decide_eq_true (by omega)
  have hlt2 : decide (cf < H) = true := decide_eq_true (by omega)
  have hlt3 : cf < H := by omega
  clear hp h hks hvs f1 f2 hdue hfree ecf
  go_enter Tryz.func20, Tryz.ntmps20
  go_upto_region 7 with (first
    | (go_at_call 26; refine (tokens_c C g H D G W ls t k _ HB.out hk hl).mono ?_; rintro e w1 ⟨rfl, hx⟩; have B1 : Hid (Below w.heap.size w w1) := (by obtain ⟨nq, rfl⟩ := hx; exact Rt.below_drewN (Below.refl _ _) _); clear hx)
    | (go_at_call 21; refine (next_c C g H D G W ls t k _ (HB.out.keep B1.out) hk hl).mono ?_; rintro e w2 ⟨rfl, hx⟩; have B2 : Hid (Below w.heap.size w w2) := (by obtain ⟨nq, rfl⟩ := hx; exact Rt.below_drewN B1.out _); clear hx)
    | (go_at_call_of 57 (k1); refine (fits_c C g H D G W ls t k a1 k1 ks _ (HB.out.keep B2.out) (KT.out.keep B2.out) (by omega) hH hD).mono ?_; rintro e w' ⟨rfl, hww⟩; cases hww.symm; clear hww; rw [E1.out])
    | (go_at_call_of 57 (k2); refine (fits_c C g H D G W ls t k a2 k2 vs _ (HB.out.keep B2.out) (VT.out.keep B2.out) (by omega) hH hD).mono ?_; rintro e w' ⟨rfl, hww⟩; cases hww.symm; clear hww; rw [E2.out]))
  obtain ⟨al, cl, T, pb, m, pc, ct, cc, x0, x1, -, -, -, -, -, -, -, -, -⟩ := (HB.out.keep B2.out).cells
  have k0 := cell_regrown x0
  have k1 := cell_regrown x1
  have cD := Tn.reg_of (u := w2) fun v hv => due_c C g H D G W ls t k true v ((HB.out.keep B2.out).keep hv) hk hl hG hG2 hW (by omega) DU.out
  have cF := Tn.reg_of (u := w2) fun v hv => (free_any g b n cf R M v ((HP.out.keep B2.out).keep hv) ECF.out).mono fun _ _ ⟨h1, h2⟩ => ⟨h1, by rw [h2]; exact Below.refl _ _⟩
  clear x0 x1
  refine wp_region_quiet_below (by kernel_rfl) (by kernel_rfl) ?_
  repeat (go_big_quiet_step (first | (with_reducible exact cD _ _) | (with_reducible exact cF _ _)))
  refine wpQuiet_nil ?_
  intro wq hw'
  have BQ : Hid (Below w.heap.size w wq) := by obtain ⟨⟨dq, osq⟩, hw''⟩ := hw'; rw [hw'']; exact B2.out.trans ((below_regrown w2 dq osq).mono B2.out.size)
  clear hw'
  go_wp2
  go_ret
  exact ⟨rfl, BQ.out⟩
end Cc
end Go.Proofs.YtnchnlgnnlgjcaaGreat
namespace Go.Proofs.YtnchnlgnnlgjcaaGreat
set_option linter.unusedVariables false
open Go.RowKit
namespace Cc
theorem piece_take (G : Nat) (L : List Tok) {i N : Nat} (h : i * G + G ≤ N) : Ca.piece G (L.take N) i = Ca.piece G L i := by
  unfold Ca.piece
  rw [List.drop_take, List.take_take, Nat.min_eq_left (by omega)]
theorem pg_take (m0 m1 s0 s1 G D ly hd : Nat) (L : List Tok) {i N : Nat} (h : i * G + G ≤ N) : Ca.pg m0 m1 s0 s1 G D ly hd (L.take N) i = Ca.pg m0 m1 s0 s1 G D ly hd L i := by
  unfold Ca.pg
  rw [piece_take G L h]
/-- A HEAD's RING IS CUT. -/
theorem CaIn.trim {w w3 : World} {col : Nat → Nat} {c g b C H D G W : Nat} {ls : List (Int × Int)} {M : List Int} {L : Nat → List Int} {cnt : List Int} {tk : Nat → List Tok} {q : Nat → Nat}
    {al : Option Addr} {cl T pb pc ct cc : Nat} {rg rs : Nat → Nat} {F : Nat → Value} (h : CaIn w col c g C H D G W ls M L cnt tk q al cl T pb pc ct cc rg rs F)
    (hfr : ∀ x, w.heap.size ≤ x → col x = 0) (c0 : ¬ c = 0) {r f kk : Nat} {l : List Rt.Tv} (rlt : r < ls.length * H)
    (hlen : l.length + q r * G = (tk r).length) (htv : ∀ i (h : q r * G + i < (tk r).length), TvAt col w (Rt.nth l i) (tk r)[q r * G + i] (r % H))
    (hbt : Rt.But (rg r) (rs r) w w3) (hring : Rt.RingAt w3 (rg r) (rs r) (W + G) f (l.take kk)) (hk : kk ≤ l.length) :
    CaAt w3 col c g C H D G W ls M L cnt (fun i => if i = r then (tk r).take (q r * G + kk) else tk i) q ∧ Chg c g b w w3 col col := by
  obtain ⟨⟨hC, zC⟩, ⟨hl, hln⟩, ⟨hT, zT⟩, ⟨hc, hcl, zc⟩, ⟨hpb, hF, hpc, zp⟩, hdis, hrow⟩ := h
  have hs3 := hbt.size
  obtain ⟨_, _, _, _, l0, hrg0, _, _, crg, crs⟩ := hrow r rlt
  have trg := hrg0.tys
  have tct : Ty w ct 3 := ty_own hc rfl
  have far : ∀ y, y < w.heap.size → ¬ y = rg r → ¬ y = rs r → w3.heap[y]? = w.heap[y]? := fun y hy n1 n2 => hbt.2 y hy n1 n2
  have f0 : ∀ y, y < w.heap.size → col y = 0 → w3.heap[y]? = w.heap[y]? := fun y hy h0 => far y hy (fun e => c0 (by rw [← crg, ← e]; exact h0)) (fun e => c0 (by rw [← crs, ← e]; exact h0))
  have k0 : ∀ y, y < w.heap.size → col y = 0 → col y = 0 ∧ w3.heap[y]? = w.heap[y]? := fun y hy h0 => ⟨h0, f0 y hy h0⟩
  have bg : Chg c g b w w3 col col := by
    refine Chg.of_but ⟨hbt.1.os, hbt.1.tape, hbt.1.output, hs3, fun j h0 _ _ h3 => ?_⟩ hfr
    have h3 : ¬ col j = c := h3
    exact far j h0 (fun e => h3 (by rw [e]; exact crg)) (fun e => h3 (by rw [e]; exact crs))
  refine ⟨⟨al, cl, T, pb, pc, ct, cc, rg, rs, F, ⟨hC.of_block (f0 C hC.lt zC), zC⟩, ⟨hl.carry k0 (by omega), hln⟩, ⟨?_, zT⟩, ⟨?_, hcl, zc⟩, ⟨hpb.of_block (f0 pb hpb.lt zp), hF, hpc, zp⟩, hdis, fun i hi => ?_⟩, bg⟩
  · exact hT.stand (f0 T hT.lt zT) fun y _ ht => far y (by rcases ht with t | t <;> exact t.lt) (by rcases ht with t | t <;> exact t.ne trg.1 (by decide)) (by rcases ht with t | t <;> exact t.ne trg.2 (by decide))
  · exact own_at hc fun y ey => by cases ey; exact far ct tct.lt (tct.ne trg.1 (by decide)) (tct.ne trg.2 (by decide))
  · by_cases ei : i = r
    · subst ei
      show RowIn w3 col c M G D (W + G) ls (i / H) (i % H) (rg i) (rs i) (L i) (if i = i then (tk i).take (q i * G + kk) else tk i) (q i)
      rw [if_pos rfl]
      obtain ⟨h1, h2, h3, _⟩ := hrow i hi
      refine ⟨h1, by rw [List.length_take]; omega, fun j hj => ?_, f, l.take kk, hring, by rw [List.length_take, List.length_take]; omega, fun j hj => ?_, crg, crs⟩
      · obtain ⟨p, e, hp⟩ := h3 j hj
        refine ⟨p, e, ?_⟩
        rw [pg_take _ _ _ _ _ _ _ _ _ (Nat.le_trans (mul_next hj) (Nat.le_add_right _ _))]
        exact hp.carry k0
      · rw [List.length_take] at hj
        rw [Rt.nth_take (by omega), List.getElem_take]
        exact (htv j (by omega)).carry k0 (by omega)
    · show RowIn w3 col c M G D (W + G) ls (i / H) (i % H) (rg i) (rs i) (L i) (if i = r then (tk r).take (q r * G + kk) else tk i) (q i)
      rw [if_neg ei]
      obtain ⟨_, _, _, fi, li, hri, _, _, ci, ci2⟩ := hrow i hi
      have n1 : ¬ rg i = rg r := fun e => ei (hdis i r hi rlt (.inl e))
      have n2 : ¬ rs i = rs r := fun e => ei (hdis i r hi rlt (.inr e))
      have n3 : ¬ rg i = rs r := hri.tys.1.ne trg.2 (by decide)
      have n4 : ¬ rs i = rg r := hri.tys.2.ne trg.1 (by decide)
      exact (hrow i hi).carry k0 (by omega) ⟨rfl, far _ hri.lt.1 n1 n3⟩ ⟨rfl, far _ hri.lt.2 n4 n2⟩ fun _ _ => rfl
end Cc
end Go.Proofs.YtnchnlgnnlgjcaaGreat
namespace Go.Proofs.YtnchnlgnnlgjcaaGreat
set_option linter.unusedVariables false
set_option linter.unusedSimpArgs false
open Go.RowKit
namespace Cc
theorem CaAt.congr {w : World} {col : Nat → Nat} {c g C H D G W : Nat} {ls : List (Int × Int)} {M : List Int} {L L' : Nat → List Int} {cnt : List Int} {tk tk' : Nat → List Tok} {q q' : Nat → Nat} (h : CaAt w col c g C H D G W ls M L cnt tk q) (he : ∀ r, r < ls.length * H → L r = L' r ∧ tk r = tk' r ∧ q r = q' r) : CaAt w col c g C H D G W ls M L' cnt tk' q' := by
  obtain ⟨al, cl, T, pb, pc, ct, cc, rg, rs, F, h1, h2, h3, h4, h5, h6, h7⟩ := h
  refine ⟨al, cl, T, pb, pc, ct, cc, rg, rs, F, h1, h2, ⟨h3.1.congr fun j hj => (he j hj).1, h3.2⟩, h4, h5, h6, fun r hr => ?_⟩
  have := h7 r hr
  rw [(he r hr).1, (he r hr).2.1, (he r hr).2.2] at this
  exact this
end Cc
end Go.Proofs.YtnchnlgnnlgjcaaGreat
