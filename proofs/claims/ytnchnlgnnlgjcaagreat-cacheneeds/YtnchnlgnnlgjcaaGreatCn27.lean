/- Layer 13: CcForked, CcFork, CcTwo. -/
import Derived.Test.YtnchnlgnnlgjcaaGreatCn20
import Derived.Test.YtnchnlgnnlgjcaaGreatCn26
import Derived.Test.YtnchnlgnnlgjcaaGreatCn22
import Derived.Test.YtnchnlgnnlgjcaaGreatCn23
import Derived.Test.YtnchnlgnnlgjcaaGreatCn25
import Derived.Test.YtnchnlgnnlgjcaaGreatCn11
namespace Go.Proofs.YtnchnlgnnlgjcaaGreat
set_option linter.unusedVariables false
set_option linter.unusedSimpArgs false
open Go.RowKit
namespace Cc
/-- A row of the call's own, as a row in place. -/
theorem row_of_own {w : World} {B : Nat} {t : TypeId} {v : Value} {n : Nat} {xs : List Value} (h : w.ownsRow B t 1 v n xs) (h0 : 0 < n) : ∃ g cap F, v = .slice (some ⟨g, 0, none⟩) n cap ∧ B ≤ g ∧ w.rowIs g t cap F ∧ n ≤ cap ∧ ∀ i (hi : i < n), some (F i) = xs[i]? := by
  rcases h.2 with ⟨_, e⟩ | ⟨g, cap, cur, e, hb, hg, h1, h2, h3, h4⟩
  · omega
  · refine ⟨g, cap, fun i => cur[i]!, e, hb, ⟨cur, hg, by omega, fun i hi => ?_⟩, h1, fun i hi => ?_⟩
    · show cur[i]? = some cur[i]!
      rw [getElem!_pos cur i (by omega)]; exact Array.getElem?_eq_getElem _
    · rw [← h4, List.getElem?_take, if_pos (by omega)]
      show some cur[i]! = _
      rw [getElem!_pos cur i (by omega)]
      simp [show i < cur.size by omega]
end Cc
end Go.Proofs.YtnchnlgnnlgjcaaGreat
namespace Go.Proofs.YtnchnlgnnlgjcaaGreat
set_option linter.unusedVariables false
set_option linter.unusedSimpArgs false
open Go.RowKit
namespace Cc
/-- TWO SLICES OF ROWS of the call's own, all behind block B: neither's block is the other's, or one that a row lies in. -/
def TwoN (B : Nat) (w : World) (v1 v2 : Value) (n1 n2 : Nat) (l1 l2 : List (List Int)) (xs ys : List Value) : Prop :=
  ∃ K : Nat → Prop, AccQ K B 1 74 eRow w v1 n1 l1 xs ∧ AccQ K B 1 74 eRow w v2 n2 l2 ys ∧ (∀ q, K q → B ≤ q ∧ q < w.heap.size ∧ ¬ v1.ownBlock = some q ∧ ¬ v2.ownBlock = some q) ∧ ∀ q, v1.ownBlock = some q → ¬ v2.ownBlock = some q
theorem twoN_nil (B : Nat) (w : World) : TwoN B w (.slice none 0 0) (.slice none 0 0) 0 0 [] [] [] [] :=
  ⟨fun _ => False, acc_nil _ _ _ _ _ _, acc_nil _ _ _ _ _ _, (fun q h => h.elim), (fun q e => absurd (show (none : Option Nat) = some q from e) (by simp))⟩
theorem TwoN.swap {B : Nat} {w : World} {v1 v2 : Value} {n1 n2 : Nat} {l1 l2 : List (List Int)} {xs ys : List Value} (h : TwoN B w v1 v2 n1 n2 l1 l2 xs ys) : TwoN B w v2 v1 n2 n1 l2 l1 ys xs := by
  obtain ⟨K, h1, h2, h3, h4⟩ := h
  exact ⟨K, h2, h1, fun q hq => ⟨(h3 q hq).1, (h3 q hq).2.1, (h3 q hq).2.2.2, (h3 q hq).2.2.1⟩, fun q e f => h4 q f e⟩
theorem TwoN.to {B : Nat} {w u : World} {v1 v2 : Value} {n1 n2 : Nat} {l1 l2 : List (List Int)} {xs ys : List Value} (h : TwoN B w v1 v2 n1 n2 l1 l2 xs ys) (hb : Below w.heap.size w u) : TwoN B u v1 v2 n1 n2 l1 l2 xs ys := by
  obtain ⟨K, h1, h2, h3, h4⟩ := h
  exact ⟨K, h1.to carry_row hb, h2.to carry_row hb, fun q hq => ⟨(h3 q hq).1, by have := (h3 q hq).2.1; have := hb.size; omega, (h3 q hq).2.2⟩, h4⟩
theorem TwoN.own {B : Nat} {w : World} {v1 v2 : Value} {n1 n2 : Nat} {l1 l2 : List (List Int)} {xs ys : List Value} (h : TwoN B w v1 v2 n1 n2 l1 l2 xs ys) : w.ownsRow B 74 1 v1 n1 xs := by
  obtain ⟨K, h1, _⟩ := h
  exact h1.1
/-- Some rows more, that were there, on the left. -/
theorem TwoN.rest {B : Nat} {w w3 : World} {v1 v2 : Value} {n1 n2 m gg cap : Nat} {l1 l2 r : List (List Int)} {xs ys news : List Value} {R : Nat → Prop} (h : TwoN B w v1 v2 n1 n2 l1 l2 xs ys) (hm : m = r.length) (hn : news.length = r.length * 1)
    (hR : ∀ q, R q → q < w.heap.size → B ≤ q ∧ ¬ v1.ownBlock = some q ∧ ¬ v2.ownBlock = some q) (ho : w3.ownsRow B 74 1 (.slice (some ⟨gg, 0, none⟩) (n1 + m) cap) (n1 + m) (xs ++ news)) (hg : w.grownBy w3 v1.ownBlock) (hat : v1.ownBlock = some gg ∨ gg = w.heap.size)
    (hx : ∀ i (hi : i < r.length) (c : Nat → Option Value), (∀ j, j < 1 → c j = news[i * 1 + j]?) → eRow R w c r[i]) : TwoN B w3 (.slice (some ⟨gg, 0, none⟩) (n1 + m) cap) v2 (n1 + m) n2 (l1 ++ r) l2 (xs ++ news) ys := by
  obtain ⟨K, h1, h2, h3, h4⟩ := h
  have hs2 := hg.size
  have own1 : ∀ q, v1.ownBlock = some q → q < w.heap.size := fun q e => (h1.1.lt q e).2
  have own2 : ∀ q, v2.ownBlock = some q → q < w.heap.size := fun q e => (h2.1.lt q e).2
  have hK : ∀ q, K q → (K q ∨ (R q ∧ q < w.heap.size)) := fun q hq => .inl hq
  refine ⟨fun q => K q ∨ (R q ∧ q < w.heap.size), ?_, ?_, fun q hq => ⟨?_, ?_, fun e => ?_, fun e => ?_⟩, fun q e f => ?_⟩
  · exact (h1.mono carry_row hK).more carry_row ho hm hn hg hat fun i hi c hc => carry_row _ _ w w c c _ (fun q hq hr => ⟨⟨.inr ⟨hr, hq⟩, hq, (hR q hr hq).2.1⟩, rfl⟩) (Nat.le_refl _) (fun _ _ _ h => h) (hx i hi c hc)
  · exact (h2.mono carry_row hK).far carry_row hg fun q e => ⟨fun hq => by
      rcases hq with hq | hq
      · exact (h3 q hq).2.2.1 e
      · exact (hR q hq.1 hq.2).2.1 e, fun f => h4 q e f⟩
  · rcases hq with hq | hq
    · exact (h3 q hq).1
    · exact (hR q hq.1 hq.2).1
  · rcases hq with hq | hq
    · have := (h3 q hq).2.1; omega
    · omega
  · have e : gg = q := by injection e
    subst e
    rcases hq with hq | hq
    · rcases hat with f | f
      · exact (h3 gg hq).2.2.1 f
      · have := (h3 gg hq).2.1; omega
    · rcases hat with f | f
      · exact (hR gg hq.1 hq.2).2.1 f
      · omega
  · rcases hq with hq | hq
    · exact (h3 q hq).2.2.2 e
    · exact (hR q hq.1 hq.2).2.2 e
  · have e : gg = q := by injection e
    subst e
    rcases hat with g | g
    · exact h4 gg g f
    · have := own2 gg f; omega
theorem own_monoB {w : World} {B B' s : Nat} {t : TypeId} {v : Value} {n : Nat} {xs : List Value} (h : w.ownsRow B t s v n xs) (hB : B' ≤ B) : w.ownsRow B' t s v n xs := by
  refine ⟨h.1, ?_⟩
  rcases h.2 with h0 | ⟨g, cap, cur, e, h1, h2⟩
  · exact .inl h0
  · exact .inr ⟨g, cap, cur, e, Nat.le_trans hB h1, h2⟩
theorem TwoN.mono {B B' : Nat} {w : World} {v1 v2 : Value} {n1 n2 : Nat} {l1 l2 : List (List Int)} {xs ys : List Value} (h : TwoN B w v1 v2 n1 n2 l1 l2 xs ys) (hB : B' ≤ B) : TwoN B' w v1 v2 n1 n2 l1 l2 xs ys := by
  obtain ⟨K, h1, h2, h3, h4⟩ := h
  exact ⟨K, ⟨own_monoB h1.1 hB, h1.2⟩, ⟨own_monoB h2.1 hB, h2.2⟩, fun q hq => ⟨by have := (h3 q hq).1; omega, (h3 q hq).2⟩, h4⟩
theorem TwoN.tbl {B : Nat} {w : World} {v1 v2 : Value} {n1 n2 : Nat} {l1 l2 : List (List Int)} {xs ys : List Value} (h : TwoN B w v1 v2 n1 n2 l1 l2 xs ys) : ∃ a1 c1, v1 = .slice a1 n1 c1 ∧ Tbl w a1 l1 ∧ n1 = l1.length ∧ n1 ≤ c1 := by
  obtain ⟨K, h1, _⟩ := h
  have e := h1.2.1
  obtain ⟨a1, c1, e1, s1, h5, _⟩ := h1.slq carry_row (Q' := fun _ => True) (fun _ _ => trivial) (fun _ _ => trivial)
  exact ⟨a1, c1, e1, s1.tbl, e, h5⟩
theorem trow_slq {w : World} {g n d B : Nat} {F : Nat → Nat → Int} (h : TRow w g 74 n (Pg.tab n d F) n B) (hd : d ≤ 256) : SlQ (fun q => g ≤ q) 1 eRow w (some ⟨g, 0, none⟩) (Pg.tab n d F) := fun i hi => by
  have hi2 : i < n := by rw [Pg.tab_length] at hi; exact hi
  obtain ⟨f, hr, hc⟩ := h
  obtain ⟨b, e, h1, h2, h3⟩ := hc i hi2
  have er : Tb.row (Pg.tab n d F) i = (Pg.tab n d F)[i] := by simp [Tb.row, hi]
  have el : (Tb.row (Pg.tab n d F) i).length = d := by rw [Pg.row_tab hi2, Ls.gen_length]
  rw [er] at e h3 el
  refine ⟨g, 0, rfl, hr.lt, Nat.le_refl _, some ⟨b, 0, none⟩, _, ?_, Nat.le_refl _, by rw [el]; unfold maxLen; omega, (fun e => nomatch e), fun j hj => ⟨b, 0, rfl, h3.lt, Nat.le_of_lt h1, ?_⟩⟩
  · show w.cell? ⟨g, 0 + (i * 1 + 0), none⟩ = _
    rw [show 0 + (i * 1 + 0) = i by omega, hr.cell hi2, e]
  · show w.cell? ⟨b, 0 + (j * 1 + 0), none⟩ = _
    rw [show 0 + (j * 1 + 0) = j by omega, h3.cell hj]
    simp [Ls.nth, hj]
theorem keys_tab (m0 m1 s0 s1 g D ly hd : Nat) (L : List Tok) (i : Nat) (h : (Ca.pg m0 m1 s0 s1 g D ly hd L i).2.1.length = D) :
    Pg.tab g D (Pg.keyAt (Ca.pg m0 m1 s0 s1 g D ly hd L i).2.1) = (List.range g).map (Ca.keyAt m0 m1 s0 s1 g D ly hd L i) := by
  unfold Pg.tab Ca.keyAt Pg.key
  rw [h]
  rfl
theorem vals_tab (m0 m1 s0 s1 g D ly hd : Nat) (L : List Tok) (i : Nat) (hl : (Ca.pg m0 m1 s0 s1 g D ly hd L i).2.2.length = g) (h : Pg.Deep D (Ca.pg m0 m1 s0 s1 g D ly hd L i).2.2) :
    Pg.tab g D (Pg.valAt (Ca.pg m0 m1 s0 s1 g D ly hd L i).2.2) = (List.range g).map (Ca.valAt m0 m1 s0 s1 g D ly hd L i) := by
  unfold Pg.tab
  refine List.map_congr_left fun t ht => ?_
  have ht : t < g := by simpa using ht
  unfold Ca.valAt Gp.means
  rw [(h t (by omega)).1]
  rfl
theorem page_deep {m0 m1 g D : Nat} {h4 h5 h6 : Int} {ks vs : List (Int × Int × List Int)} (h : Pg.Page [(m0 : Int), m1, g, D, h4, h5, h6] ks vs) (b0 : m0 = 2 ∨ m0 = 4 ∨ m0 = 8) (b1 : m1 = 2 ∨ m1 = 4 ∨ m1 = 8) : ks.length = D ∧ vs.length = g ∧ Pg.Deep g ks ∧ Pg.Deep D vs := by
  obtain ⟨_, _, h1, h2, h3, h4, _⟩ := h
  exact ⟨h1, h2, Pg.deep_of b0 h3, Pg.deep_of b1 h4⟩
theorem ptrs_at {M sl : List Int} {k i : Nat} (h : i < k) : (ptrs M sl k)[i]? = some (.pointer (some ⟨pgb M sl i, 0, none⟩)) := by simp [ptrs, h]
end Cc
end Go.Proofs.YtnchnlgnnlgjcaaGreat
