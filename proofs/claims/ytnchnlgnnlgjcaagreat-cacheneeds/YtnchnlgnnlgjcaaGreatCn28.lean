/- Layer 13: CcFork, CcTwo, CcPush. -/
import Derived.Test.YtnchnlgnnlgjcaaGreatCn27
import Derived.Test.YtnchnlgnnlgjcaaGreatCn22
import Derived.Test.YtnchnlgnnlgjcaaGreatCn24
import Derived.Test.YtnchnlgnnlgjcaaGreatCn25
import Derived.Test.YtnchnlgnnlgjcaaGreatCn11
import Derived.Test.YtnchnlgnnlgjcaaGreatCn20
namespace Go.Proofs.YtnchnlgnnlgjcaaGreat
set_option linter.unusedVariables false
set_option linter.unusedSimpArgs false
open Go.RowKit
namespace Cc
/-- A row of the call's own, as a row in place. -/
theorem row_of_own {w : World} {B : Nat} {t : TypeId} {v : Value} {n : Nat} {xs : List Value} (h : w.ownsRow B t 1 v n xs) (h0 : 0 < n) : ∃ g cap F, v = .slice (some ⟨g, 0, none⟩) n cap ∧ B ≤ g ∧ w.rowIs g t cap F ∧ n ≤ cap ∧ ∀ i (hi : i < n), some (F i) = xs[i]? := by
  rcases h.2 with ⟨_, e⟩ | ⟨g, cap, cur, e, hb, hg, h1, h2, h3, h4⟩
  · omega
  · refine ⟨g, cap, fun i => cur[i]!, e, hb, ⟨cur, hg, by omega, fun i hi => ?_⟩, h1, fun i hi => ?_⟩
    · show cur[i]? = some cur[i]!
      rw [getElem!_pos cur i (by omega)]; exact Array.getElem?_eq_getElem _
    · rw [← h4, List.getElem?_take, if_pos (by omega)]
      show some cur[i]! = _
      rw [getElem!_pos cur i (by omega)]
      simp [show i < cur.size by omega]
end Cc
end Go.Proofs.YtnchnlgnnlgjcaaGreat
namespace Go.Proofs.YtnchnlgnnlgjcaaGreat
set_option linter.unusedVariables false
set_option linter.unusedSimpArgs false
open Go.RowKit
namespace Cc
/-- TWO SLICES OF ROWS of the call's own, all behind block B: neither's block is the other's, or one that a row lies in. -/
def TwoN (B : Nat) (w : World) (v1 v2 : Value) (n1 n2 : Nat) (l1 l2 : List (List Int)) (xs ys : List Value) : Prop :=
  ∃ K : Nat → Prop, AccQ K B 1 74 eRow w v1 n1 l1 xs ∧ AccQ K B 1 74 eRow w v2 n2 l2 ys ∧ (∀ q, K q → B ≤ q ∧ q < w.heap.size ∧ ¬ v1.ownBlock = some q ∧ ¬ v2.ownBlock = some q) ∧ ∀ q, v1.ownBlock = some q → ¬ v2.ownBlock = some q
theorem twoN_nil (B : Nat) (w : World) : TwoN B w (.slice none 0 0) (.slice none 0 0) 0 0 [] [] [] [] :=
  ⟨fun _ => False, acc_nil _ _ _ _ _ _, acc_nil _ _ _ _ _ _, (fun q h => h.elim), (fun q e => absurd (show (none : Option Nat) = some q from e) (by simp))⟩
theorem TwoN.swap {B : Nat} {w : World} {v1 v2 : Value} {n1 n2 : Nat} {l1 l2 : List (List Int)} {xs ys : List Value} (h : TwoN B w v1 v2 n1 n2 l1 l2 xs ys) : TwoN B w v2 v1 n2 n1 l2 l1 ys xs := by
  obtain ⟨K, h1, h2, h3, h4⟩ := h
  exact ⟨K, h2, h1, fun q hq => ⟨(h3 q hq).1, (h3 q hq).2.1, (h3 q hq).2.2.2, (h3 q hq).2.2.1⟩, fun q e f => h4 q f e⟩
theorem TwoN.to {B : Nat} {w u : World} {v1 v2 : Value} {n1 n2 : Nat} {l1 l2 : List (List Int)} {xs ys : List Value} (h : TwoN B w v1 v2 n1 n2 l1 l2 xs ys) (hb : Below w.heap.size w u) : TwoN B u v1 v2 n1 n2 l1 l2 xs ys := by
  obtain ⟨K, h1, h2, h3, h4⟩ := h
  exact ⟨K, h1.to carry_row hb, h2.to carry_row hb, fun q hq => ⟨(h3 q hq).1, by have := (h3 q hq).2.1; have := hb.size; omega, (h3 q hq).2.2⟩, h4⟩
theorem TwoN.own {B : Nat} {w : World} {v1 v2 : Value} {n1 n2 : Nat} {l1 l2 : List (List Int)} {xs ys : List Value} (h : TwoN B w v1 v2 n1 n2 l1 l2 xs ys) : w.ownsRow B 74 1 v1 n1 xs := by
  obtain ⟨K, h1, _⟩ := h
  exact h1.1
/-- Some rows more, that were there, on the left. -/
theorem TwoN.rest {B : Nat} {w w3 : World} {v1 v2 : Value} {n1 n2 m gg cap : Nat} {l1 l2 r : List (List Int)} {xs ys news : List Value} {R : Nat → Prop} (h : TwoN B w v1 v2 n1 n2 l1 l2 xs ys) (hm : m = r.length) (hn : news.length = r.length * 1)
    (hR : ∀ q, R q → q < w.heap.size → B ≤ q ∧ ¬ v1.ownBlock = some q ∧ ¬ v2.ownBlock = some q) (ho : w3.ownsRow B 74 1 (.slice (some ⟨gg, 0, none⟩) (n1 + m) cap) (n1 + m) (xs ++ news)) (hg : w.grownBy w3 v1.ownBlock) (hat : v1.ownBlock = some gg ∨ gg = w.heap.size)
    (hx : ∀ i (hi : i < r.length) (c : Nat → Option Value), (∀ j, j < 1 → c j = news[i * 1 + j]?) → eRow R w c r[i]) : TwoN B w3 (.slice (some ⟨gg, 0, none⟩) (n1 + m) cap) v2 (n1 + m) n2 (l1 ++ r) l2 (xs ++ news) ys := by
  obtain ⟨K, h1, h2, h3, h4⟩ := h
  have hs2 := hg.size
  have own1 : ∀ q, v1.ownBlock = some q → q < w.heap.size := fun q e => (h1.1.lt q e).2
  have own2 : ∀ q, v2.ownBlock = some q → q < w.heap.size := fun q e => (h2.1.lt q e).2
  have hK : ∀ q, K q → (K q ∨ (R q ∧ q < w.heap.size)) := fun q hq => .inl hq
  refine ⟨fun q => K q ∨ (R q ∧ q < w.heap.size), ?_, ?_, fun q hq => ⟨?_, ?_, fun e => ?_, fun e => ?_⟩, fun q e f => ?_⟩
  · exact (h1.mono carry_row hK).more carry_row ho hm hn hg hat fun i hi c hc => carry_row _ _ w w c c _ (fun q hq hr => ⟨⟨.inr ⟨hr, hq⟩, hq, (hR q hr hq).2.1⟩, rfl⟩) (Nat.le_refl _) (fun _ _ _ h => h) (hx i hi c hc)
  · exact (h2.mono carry_row hK).far carry_row hg fun q e => ⟨fun hq => by
      rcases hq with hq | hq
      · exact (h3 q hq).2.2.1 e
      · exact (hR q hq.1 hq.2).2.1 e, fun f => h4 q e f⟩
  · rcases hq with hq | hq
    · exact (h3 q hq).1
    · exact (hR q hq.1 hq.2).1
  · rcases hq with hq | hq
    · have := (h3 q hq).2.1; omega
    · omega
  · have e : gg = q := by injection e
    subst e
    rcases hq with hq | hq
    · rcases hat with f | f
      · exact (h3 gg hq).2.2.1 f
      · have := (h3 gg hq).2.1; omega
    · rcases hat with f | f
      · exact (hR gg hq.1 hq.2).2.1 f
      · omega
  · rcases hq with hq | hq
    · exact (h3 q hq).2.2.2 e
    · exact (hR q hq.1 hq.2).2.2 e
  · have e : gg = q := by injection e
    subst e
    rcases hat with g | g
    · exact h4 gg g f
    · have := own2 gg f; omega
theorem own_monoB {w : World} {B B' s : Nat} {t : TypeId} {v : Value} {n : Nat} {xs : List Value} (h : w.ownsRow B t s v n xs) (hB : B' ≤ B) : w.ownsRow B' t s v n xs := by
  refine ⟨h.1, ?_⟩
  rcases h.2 with h0 | ⟨g, cap, cur, e, h1, h2⟩
  · exact .inl h0
  · exact .inr ⟨g, cap, cur, e, Nat.le_trans hB h1, h2⟩
theorem TwoN.mono {B B' : Nat} {w : World} {v1 v2 : Value} {n1 n2 : Nat} {l1 l2 : List (List Int)} {xs ys : List Value} (h : TwoN B w v1 v2 n1 n2 l1 l2 xs ys) (hB : B' ≤ B) : TwoN B' w v1 v2 n1 n2 l1 l2 xs ys := by
  obtain ⟨K, h1, h2, h3, h4⟩ := h
  exact ⟨K, ⟨own_monoB h1.1 hB, h1.2⟩, ⟨own_monoB h2.1 hB, h2.2⟩, fun q hq => ⟨by have := (h3 q hq).1; omega, (h3 q hq).2⟩, h4⟩
theorem TwoN.tbl {B : Nat} {w : World} {v1 v2 : Value} {n1 n2 : Nat} {l1 l2 : List (List Int)} {xs ys : List Value} (h : TwoN B w v1 v2 n1 n2 l1 l2 xs ys) : ∃ a1 c1, v1 = .slice a1 n1 c1 ∧ Tbl w a1 l1 ∧ n1 = l1.length ∧ n1 ≤ c1 := by
  obtain ⟨K, h1, _⟩ := h
  have e := h1.2.1
  obtain ⟨a1, c1, e1, s1, h5, _⟩ := h1.slq carry_row (Q' := fun _ => True) (fun _ _ => trivial) (fun _ _ => trivial)
  exact ⟨a1, c1, e1, s1.tbl, e, h5⟩
theorem trow_slq {w : World} {g n d B : Nat} {F : Nat → Nat → Int} (h : TRow w g 74 n (Pg.tab n d F) n B) (hd : d ≤ 256) : SlQ (fun q => g ≤ q) 1 eRow w (some ⟨g, 0, none⟩) (Pg.tab n d F) := fun i hi => by
  have hi2 : i < n := by rw [Pg.tab_length] at hi; exact hi
  obtain ⟨f, hr, hc⟩ := h
  obtain ⟨b, e, h1, h2, h3⟩ := hc i hi2
  have er : Tb.row (Pg.tab n d F) i = (Pg.tab n d F)[i] := by simp [Tb.row, hi]
  have el : (Tb.row (Pg.tab n d F) i).length = d := by rw [Pg.row_tab hi2, Ls.gen_length]
  rw [er] at e h3 el
  refine ⟨g, 0, rfl, hr.lt, Nat.le_refl _, some ⟨b, 0, none⟩, _, ?_, Nat.le_refl _, by rw [el]; unfold maxLen; omega, (fun e => nomatch e), fun j hj => ⟨b, 0, rfl, h3.lt, Nat.le_of_lt h1, ?_⟩⟩
  · show w.cell? ⟨g, 0 + (i * 1 + 0), none⟩ = _
    rw [show 0 + (i * 1 + 0) = i by omega, hr.cell hi2, e]
  · show w.cell? ⟨b, 0 + (j * 1 + 0), none⟩ = _
    rw [show 0 + (j * 1 + 0) = j by omega, h3.cell hj]
    simp [Ls.nth, hj]
theorem keys_tab (m0 m1 s0 s1 g D ly hd : Nat) (L : List Tok) (i : Nat) (h : (Ca.pg m0 m1 s0 s1 g D ly hd L i).2.1.length = D) :
    Pg.tab g D (Pg.keyAt (Ca.pg m0 m1 s0 s1 g D ly hd L i).2.1) = (List.range g).map (Ca.keyAt m0 m1 s0 s1 g D ly hd L i) := by
  unfold Pg.tab Ca.keyAt Pg.key
  rw [h]
  rfl
theorem vals_tab (m0 m1 s0 s1 g D ly hd : Nat) (L : List Tok) (i : Nat) (hl : (Ca.pg m0 m1 s0 s1 g D ly hd L i).2.2.length = g) (h : Pg.Deep D (Ca.pg m0 m1 s0 s1 g D ly hd L i).2.2) :
    Pg.tab g D (Pg.valAt (Ca.pg m0 m1 s0 s1 g D ly hd L i).2.2) = (List.range g).map (Ca.valAt m0 m1 s0 s1 g D ly hd L i) := by
  unfold Pg.tab
  refine List.map_congr_left fun t ht => ?_
  have ht : t < g := by simpa using ht
  unfold Ca.valAt Gp.means
  rw [(h t (by omega)).1]
  rfl
theorem page_deep {m0 m1 g D : Nat} {h4 h5 h6 : Int} {ks vs : List (Int × Int × List Int)} (h : Pg.Page [(m0 : Int), m1, g, D, h4, h5, h6] ks vs) (b0 : m0 = 2 ∨ m0 = 4 ∨ m0 = 8) (b1 : m1 = 2 ∨ m1 = 4 ∨ m1 = 8) : ks.length = D ∧ vs.length = g ∧ Pg.Deep g ks ∧ Pg.Deep D vs := by
  obtain ⟨_, _, h1, h2, h3, h4, _⟩ := h
  exact ⟨h1, h2, Pg.deep_of b0 h3, Pg.deep_of b1 h4⟩
theorem ptrs_at {M sl : List Int} {k i : Nat} (h : i < k) : (ptrs M sl k)[i]? = some (.pointer (some ⟨pgb M sl i, 0, none⟩)) := by simp [ptrs, h]
end Cc
end Go.Proofs.YtnchnlgnnlgjcaaGreat
namespace Go.Proofs.YtnchnlgnnlgjcaaGreat
set_option linter.unusedVariables false
open Go.RowKit
namespace Cc
theorem piece_snoc (G : Nat) (L : List Tok) (x : Tok) {i : Nat} (h : i * G + G ≤ L.length) : Ca.piece G (L ++ [x]) i = Ca.piece G L i := by
  unfold Ca.piece
  rw [List.drop_append_of_le_length (by omega), List.take_append_of_le_length (by rw [List.length_drop]; omega)]
theorem pg_snoc (m0 m1 s0 s1 G D ly hd : Nat) (L : List Tok) (x : Tok) {i : Nat} (h : i * G + G ≤ L.length) : Ca.pg m0 m1 s0 s1 G D ly hd (L ++ [x]) i = Ca.pg m0 m1 s0 s1 G D ly hd L i := by
  unfold Ca.pg
  rw [piece_snoc G L x h]
theorem mul_next {i q G : Nat} (h : i < q) : i * G + G ≤ q * G := by
  have := Nat.mul_le_mul_right G (show i + 1 ≤ q by omega)
  rw [Nat.add_mul] at this
  omega
/-- ONE HEAD's TOKEN MORE, in its ring. -/
theorem CaIn.push {w w2 w3 : World} {col : Nat → Nat} {c g b C H D G W : Nat} {ls : List (Int × Int)} {M : List Int} {L : Nat → List Int} {cnt : List Int} {tk : Nat → List Tok} {q : Nat → Nat}
    {al : Option Addr} {cl T pb pc ct cc : Nat} {rg rs : Nat → Nat} {F : Nat → Value} (h : CaIn w col c g C H D G W ls M L cnt tk q al cl T pb pc ct cc rg rs F)
    (hfr : ∀ x, w.heap.size ≤ x → col x = 0) (c0 : ¬ c = 0) {r f : Nat} {l : List Rt.Tv} {x : Rt.Tv} {tok : Tok} (rlt : r < ls.length * H)
    (hlen : l.length + q r * G = (tk r).length) (htv : ∀ i (h : q r * G + i < (tk r).length), TvAt col w (Rt.nth l i) (tk r)[q r * G + i] (r % H))
    (hb : Below w.heap.size w w2) (hbt : Rt.But (rg r) (rs r) w2 w3) (hring : Rt.RingAt w3 (rg r) (rs r) (W + G) f (l ++ [x])) (hx : TvAt col w2 x tok (r % H)) :
    CaAt w3 col c g C H D G W ls M L cnt (fun i => if i = r then tk r ++ [tok] else tk i) q ∧ Chg c g b w w3 col col := by
  obtain ⟨⟨hC, zC⟩, ⟨hl, hln⟩, ⟨hT, zT⟩, ⟨hc, hcl, zc⟩, ⟨hpb, hF, hpc, zp⟩, hdis, hrow⟩ := h
  have hs2 := hb.size
  have hs3 := hbt.size
  obtain ⟨_, _, _, _, l0, hrg0, _, _, crg, crs⟩ := hrow r rlt
  have trg := hrg0.tys
  have tct : Ty w ct 3 := ty_own hc rfl
  have far : ∀ y, y < w.heap.size → ¬ y = rg r → ¬ y = rs r → w3.heap[y]? = w.heap[y]? := fun y hy n1 n2 => (hbt.2 y (by omega) n1 n2).trans (hb.block y hy)
  have f0 : ∀ y, y < w.heap.size → col y = 0 → w3.heap[y]? = w.heap[y]? := fun y hy h0 => far y hy (fun e => c0 (by rw [← crg, ← e]; exact h0)) (fun e => c0 (by rw [← crs, ← e]; exact h0))
  have k0 : ∀ y, y < w.heap.size → col y = 0 → col y = 0 ∧ w3.heap[y]? = w.heap[y]? := fun y hy h0 => ⟨h0, f0 y hy h0⟩
  have hc2 : col (rg r) = c ∧ col (rs r) = c := ⟨crg, crs⟩
  have bg : Chg c g b w w3 col col := by
    refine Chg.of_but ⟨hbt.1.os.trans hb.os, hbt.1.tape.trans hb.tape, hbt.1.output.trans hb.output, by omega, fun j h0 _ _ h3 => ?_⟩ hfr
    have h3 : ¬ col j = c := h3
    exact far j h0 (fun e => h3 (by rw [e]; exact crg)) (fun e => h3 (by rw [e]; exact crs))
  refine ⟨⟨al, cl, T, pb, pc, ct, cc, rg, rs, F, ⟨hC.of_block (f0 C hC.lt zC), zC⟩, ⟨hl.carry k0 (by omega), hln⟩, ⟨?_, zT⟩, ⟨?_, hcl, zc⟩, ⟨hpb.of_block (f0 pb hpb.lt zp), hF, hpc, zp⟩, hdis, fun i hi => ?_⟩, bg⟩
  · exact hT.stand (f0 T hT.lt zT) fun y _ ht => far y (by rcases ht with t | t <;> exact t.lt) (by rcases ht with t | t <;> exact t.ne trg.1 (by decide)) (by rcases ht with t | t <;> exact t.ne trg.2 (by decide))
  · exact own_at hc fun y ey => by cases ey; exact far ct tct.lt (tct.ne trg.1 (by decide)) (tct.ne trg.2 (by decide))
  · by_cases ei : i = r
    · subst ei
      show RowIn w3 col c M G D (W + G) ls (i / H) (i % H) (rg i) (rs i) (L i) (if i = i then tk i ++ [tok] else tk i) (q i)
      rw [if_pos rfl]
      obtain ⟨h1, h2, h3, _⟩ := hrow i hi
      refine ⟨h1, by rw [List.length_append]; omega, fun j hj => ?_, f, l ++ [x], hring, by rw [List.length_append, List.length_append]; show l.length + 1 + _ = _ + 1; omega, fun j hj => ?_, crg, crs⟩
      · obtain ⟨p, e, hp⟩ := h3 j hj
        refine ⟨p, e, ?_⟩
        rw [pg_snoc _ _ _ _ _ _ _ _ _ _ (Nat.le_trans (mul_next hj) h2)]
        exact hp.carry k0
      · by_cases ej : q i * G + j < (tk i).length
        · rw [Rt.nth_left (by omega)]
          rw [List.getElem_append_left ej]
          exact (htv j ej).carry k0 (by omega)
        · have hj' : q i * G + j < (tk i).length + 1 := by rw [List.length_append] at hj; exact hj
          rw [Rt.nth_last (by omega)]
          rw [List.getElem_append_right (by omega)]
          simp only [show q i * G + j - (tk i).length = 0 by omega, List.getElem_cons_zero]
          refine hx.carry (fun y hy h0 => ⟨h0, ?_⟩) hs3
          exact hbt.2 y hy (fun e => c0 (by rw [← crg, ← e]; exact h0)) (fun e => c0 (by rw [← crs, ← e]; exact h0))
    · show RowIn w3 col c M G D (W + G) ls (i / H) (i % H) (rg i) (rs i) (L i) (if i = r then tk r ++ [tok] else tk i) (q i)
      rw [if_neg ei]
      obtain ⟨_, _, _, fi, li, hri, _, _, ci, ci2⟩ := hrow i hi
      have n1 : ¬ rg i = rg r := fun e => ei (hdis i r hi rlt (.inl e))
      have n2 : ¬ rs i = rs r := fun e => ei (hdis i r hi rlt (.inr e))
      have n3 : ¬ rg i = rs r := hri.tys.1.ne trg.2 (by decide)
      have n4 : ¬ rs i = rg r := hri.tys.2.ne trg.1 (by decide)
      exact (hrow i hi).carry k0 (by omega) ⟨rfl, far _ hri.lt.1 n1 n3⟩ ⟨rfl, far _ hri.lt.2 n4 n2⟩ fun _ _ => rfl
theorem cn_set {n t k : Nat} (hk : k < n) : (cn n t k).set k ((t : Int) + 1) = if k + 1 = n then cn n (t + 1) 0 else cn n t (k + 1) := by
  refine Ls.ext_nth (by split <;> simp [cn]) fun i hi => ?_
  have hi : i < n := by simpa [cn] using hi
  rw [Po.nth_set (by rw [cn_length]; exact hk)]
  by_cases e : k + 1 = n
  · rw [if_pos e, nth_cn hi, nth_cn hi]
    unfold lv
    by_cases e2 : i = k
    · rw [if_pos e2, if_neg (Nat.not_lt_zero _)]; omega
    · rw [if_neg e2, if_pos (by omega), if_neg (Nat.not_lt_zero _)]
  · rw [if_neg e, nth_cn hi, nth_cn hi]
    unfold lv
    by_cases e2 : i = k
    · rw [if_pos e2, if_pos (by omega)]; omega
    · rw [if_neg e2]
      by_cases e3 : i < k
      · rw [if_pos e3, if_pos (by omega)]
      · rw [if_neg e3, if_neg (by omega)]
/-- A layer's count is written. -/
theorem CaIn.count {w : World} {col : Nat → Nat} {c g b C H D G W : Nat} {ls : List (Int × Int)} {M : List Int} {L : Nat → List Int} {cnt : List Int} {tk : Nat → List Tok} {q : Nat → Nat}
    {al : Option Addr} {cl T pb pc ct cc : Nat} {rg rs : Nat → Nat} {F : Nat → Value} (h : CaIn w col c g C H D G W ls M L cnt tk q al cl T pb pc ct cc rg rs F) (hfr : ∀ x, w.heap.size ≤ x → col x = 0) (c0 : ¬ c = 0) (k : Nat) (x : Int) :
    CaAt (w.setCell ⟨ct, k, none⟩ (.int .i64 x)) col c g C H D G W ls M L (cnt.set k x) tk q ∧ Chg c g b w (w.setCell ⟨ct, k, none⟩ (.int .i64 x)) col col := by
  obtain ⟨⟨hC, zC⟩, ⟨hl, hln⟩, ⟨hT, zT⟩, ⟨hc, hcl, zc⟩, ⟨hpb, hF, hpc, zp⟩, hdis, hrow⟩ := h
  have tct : Ty w ct 3 := ty_own hc rfl
  have far : ∀ y, ¬ y = ct → (w.setCell ⟨ct, k, none⟩ (.int .i64 x)).heap[y]? = w.heap[y]? := fun y n => Below.heap_setCell _ _ _ _ (show y ≠ ct from n)
  have f0 : ∀ y, col y = 0 → (w.setCell ⟨ct, k, none⟩ (.int .i64 x)).heap[y]? = w.heap[y]? := fun y h0 => far y fun e => c0 (by rw [← zc, ← e]; exact h0)
  have k0 : ∀ y, y < w.heap.size → col y = 0 → col y = 0 ∧ (w.setCell ⟨ct, k, none⟩ (.int .i64 x)).heap[y]? = w.heap[y]? := fun y _ h0 => ⟨h0, f0 y h0⟩
  have hs : w.heap.size ≤ (w.setCell ⟨ct, k, none⟩ (.int .i64 x)).heap.size := ((Below.refl 0 w).setCell (p := ⟨ct, k, none⟩) (Nat.zero_le _) _).size
  refine ⟨⟨al, cl, T, pb, pc, ct, cc, rg, rs, F, ⟨hC.of_block (f0 C zC), zC⟩, ⟨hl.carry k0 hs, hln⟩, ⟨?_, zT⟩, ⟨?_, by rw [List.length_set]; exact hcl, zc⟩, ⟨hpb.of_block (f0 pb zp), hF, hpc, zp⟩, hdis, fun i hi => ?_⟩, ?_⟩
  · exact hT.stand (f0 T zT) fun y hq _ => far y hq.2
  · have := (hc.stored k (.int .i64 x)).1
    rw [← List.map_set] at this
    exact this
  · obtain ⟨_, _, _, fi, li, hri, _, _, ci, ci2⟩ := hrow i hi
    exact (hrow i hi).carry k0 hs ⟨rfl, far _ (hri.tys.1.ne tct (by decide))⟩ ⟨rfl, far _ (hri.tys.2.ne tct (by decide))⟩ fun _ _ => rfl
  · have hb := (Below.refl 0 w).setCell (p := ⟨ct, k, none⟩) (Nat.zero_le _) (.int .i64 x)
    exact Chg.of_but ⟨hb.os, hb.tape, hb.output, hs, fun j _ _ _ h3 => far j fun e => h3 (show col j = c by rw [e]; exact zc)⟩ hfr
/-- HOW THE POOL's COUNTS GO ON behind pages added: a of them. -/
def Flow (n m : Nat) (R M : List Int) (L : Nat → List Int) (R' M' : List Int) (L' : Nat → List Int) (a : Nat) : Prop :=
  R'.length = n ∧ M'.length = n ∧ Po.cnt R' + a = Po.cnt R ∧ (∀ x : Nat, x < n → Ls.nth R' x + Bk.occ x (Bk.flat L m) = Ls.nth R x + Bk.occ x (Bk.flat L' m)) ∧ (∀ i, i < m → ∀ x, x ∈ L' i → 0 ≤ x ∧ x < n ∧ 0 < Ls.nth R' x.toNat) ∧
    (∀ x : Nat, x < n → 0 < Ls.nth R x → Ls.nth R' x = Ls.nth R x ∧ Ls.nth M' x = Ls.nth M x) ∧ Bk.len L' m = Bk.len L m + a ∧ ∀ x : Nat, x < n → Ls.nth R x ≤ 0 → Ls.nth R' x ≤ 1
theorem Flow.refl {n m : Nat} {R M : List Int} {L : Nat → List Int} (hR : R.length = n) (hM : M.length = n) (hL : ∀ i, i < m → ∀ x, x ∈ L i → 0 ≤ x ∧ x < n ∧ 0 < Ls.nth R x.toNat) : Flow n m R M L R M L 0 :=
  ⟨hR, hM, rfl, fun _ _ => rfl, hL, fun _ _ _ => ⟨rfl, rfl⟩, rfl, fun _ _ h => Int.le_trans h (by decide)⟩
theorem Flow.step {n m : Nat} {R M R' M' : List Int} {L L' : Nat → List Int} {a : Nat} (h : Flow n m R M L R' M' L' a) (h0 : ∀ i, 0 ≤ Ls.nth R i) {kf r : Nat} (hk : kf < n) (hz : Ls.nth R' kf = 0) (hr : r < m) (y : Int) :
    Flow n m R M L (R'.set kf 1) (M'.set kf y) (Bk.up L' r (L' r ++ [(kf : Int)])) (a + 1) := by
  obtain ⟨h1, h2, h3, h4, h5, h6, h7, h8⟩ := h
  have hk1 : kf < R'.length := by omega
  have hk2 : kf < M'.length := by omega
  refine ⟨by simp [h1], by simp [h2], ?_, fun x hx => ?_, fun i hi x hx => ?_, fun x hx hp => ?_, ?_, fun x hx hp => ?_⟩
  · have := Po.cnt_set hk1 1
    rw [if_pos hz, if_neg (by decide)] at this
    omega
  · rw [Po.nth_set hk1, Bk.occ_up L' hr]
    have := h4 x hx
    by_cases e : x = kf
    · subst e
      rw [if_pos rfl, if_pos rfl]
      rw [hz] at this
      omega
    · rw [if_neg e, if_neg (by omega)]
      omega
  · by_cases ei : i = r
    · subst ei
      rw [Bk.up_at] at hx
      rcases List.mem_append.1 hx with hx | hx
      · obtain ⟨x0, x1, x2⟩ := h5 i hi x hx
        refine ⟨x0, x1, ?_⟩
        rw [Po.nth_set hk1]
        split
        · decide
        · exact x2
      · have e := List.mem_singleton.1 hx
        subst e
        refine ⟨by omega, by omega, ?_⟩
        rw [Int.toNat_natCast, Po.nth_set hk1, if_pos rfl]
        decide
    · rw [Bk.up_off L' _ ei] at hx
      obtain ⟨x0, x1, x2⟩ := h5 i hi x hx
      refine ⟨x0, x1, ?_⟩
      rw [Po.nth_set hk1]
      split
      · decide
      · exact x2
  · obtain ⟨e1, e2⟩ := h6 x hx hp
    have n1 : ¬ x = kf := fun e => by subst e; rw [hz] at e1; omega
    rw [Po.nth_set hk1, if_neg n1, Po.nth_set hk2, if_neg n1]
    exact ⟨e1, e2⟩
  · rw [Bk.len_up L' hr, h7]
    omega
  · rw [Po.nth_set hk1]
    split
    · decide
    · exact h8 x hx hp
end Cc
end Go.Proofs.YtnchnlgnnlgjcaaGreat
