/- Layer 13: CaBoth, CaMore, CaView. -/
import Derived.Test.YtnchnlgnnlgjcaaGreatCn17
namespace Go.Proofs.YtnchnlgnnlgjcaaGreat
set_option linter.unusedVariables false
open Go.RowKit
theorem AccQ.mono {α : Type} {E : El α} {s : Nat} (hE : Carries s E) {Q Q' : Nat → Prop} {B : Nat} {t : TypeId} {w : World} {v : Value} {n : Nat} {l : List α} {xs : List Value} (h : AccQ Q B s t E w v n l xs) (hq : ∀ q, Q q → Q' q) : AccQ Q' B s t E w v n l xs := by
  obtain ⟨h1, h2, h3, h4⟩ := h
  exact ⟨h1, h2, h3, fun i hi c hc => hE _ _ w w c c _ (fun q _ hh => ⟨⟨hq q hh.1, hh.2⟩, rfl⟩) (Nat.le_refl _) (fun _ _ _ h => h) (h4 i hi c hc)⟩
end Go.Proofs.YtnchnlgnnlgjcaaGreat
namespace Go.Proofs.YtnchnlgnnlgjcaaGreat
set_option linter.unusedVariables false
open Go.RowKit
/-- 'append(own, l...)' once more, l not empty: and where it lies then. -/
theorem wpList_append_slq2 {α : Type} {E : El α} {s : Nat} {P : Program} {w : World} {ops : Array Oper} {rest : List Oper} {o : Oper} {a : Act} {K : Exit → Act → World → Prop} (hE : Carries s E) (hF : Full s E) (hgd : o.guard = none) (so x : Operand) (t : TypeId)
    (ho : o.op = .call { callee := .builtin .append, args := #[so, x], argTypes := #[t, t] })
    (base : Nat) (e : TypeId) (z : Value) (bytes : Nat) (ht : P.underlying t = some (.slice e)) (hinfo : (P.info? e).map (fun i => (i.zero, i.size, i.bytes)) = some (some z, s, bytes)) (hzs : z.cells.size = s) (hsz : 0 < s)
    (v : Value) (n : Nat) (xs : List Value) (hs : a.eval so = v) (hown : w.ownsRow base e s v n xs)
    {Q : Nat → Prop} (ao : Option Addr) (l : List α) (c : Nat) (hx : a.eval x = .slice ao l.length c) (hL : SlQ Q s E w ao l)
    (h63 : n + l.length ≤ maxLen) (hbytes : (n + l.length) * bytes ≤ 140737488355328) (hbase : base ≤ w.heap.size) (hne : 0 < l.length)
    (h : ∀ g cap w' news, news.length = l.length * s → (∀ i (hi : i < l.length) (c : Nat → Option Value), (∀ j, j < s → c j = news[i * s + j]?) → E Q w c l[i]) → w'.ownsRow base e s (.slice (some ⟨g, 0, none⟩) (n + l.length) cap) (n + l.length) (xs ++ news) → w.grownBy w' v.ownBlock → (v.ownBlock = some g ∨ g = w.heap.size) → wpList P ops K rest (a.put o.dst (.slice (some ⟨g, 0, none⟩) (n + l.length) cap)) w') : wpList P ops K (o :: rest) a w := by
  obtain ⟨i, hi, hz0, hz1, hz2⟩ := info_parts hinfo
  obtain ⟨b, oo, ee, hb, hq, hget⟩ := hL.get hne
  subst ee
  have hcell : ∀ j, j < l.length * s → ∃ u, w.cell? ⟨b, oo + j, none⟩ = some u ∧ u.oneCell' = true := fun j hj => by
    have h1 : j / s < l.length := Nat.div_lt_of_lt_mul (by rw [Nat.mul_comm]; exact hj)
    obtain ⟨u, hu, h2⟩ := hF _ _ _ _ (hget (j / s) h1) (j % s) (Nat.mod_lt _ hsz)
    have hu : w.cell? ⟨b, oo + (j / s * s + j % s), none⟩ = some u := hu
    rw [Nat.div_add_mod' j s] at hu
    exact ⟨u, hu, h2⟩
  obtain ⟨news, hnews⟩ : ∃ news : List Value, news = (List.range (l.length * s)).map fun j => (w.cell? ⟨b, oo + j, none⟩).getD (.int .i64 0) := ⟨_, rfl⟩
  have hlen : news.length = l.length * s := by rw [hnews]; simp
  have hat : ∀ j, j < l.length * s → news[j]? = w.cell? ⟨b, oo + j, none⟩ := fun j hj => by
    obtain ⟨u, hu, _⟩ := hcell j hj
    rw [hnews, List.getElem?_map, List.getElem?_range hj]
    simp [hu]
  refine wpList_append_lies _ hgd so x t ho base e i z s bytes ht hi hz0 hz1 hz2 hzs hsz v n xs hs hown ⟨b, oo, none⟩ l.length c news hx hlen (fun j u hu => ?_) (fun u hu => ?_) hne h63 hbytes hbase w.heap.size rfl
    (fun g cap w' h1 h2 h3 _ => h g cap w' news hlen (fun i hi c hc => hE Q Q w w _ c _ (fun q _ hq => ⟨hq, rfl⟩) (Nat.le_refl _) (fun j hj v hv => ?_) (hget i hi)) h1 h2 h3)
  · have hj : j < l.length * s := by rw [← hlen]; exact (List.getElem?_eq_some_iff.1 hu).1
    rw [Addr.add_lit, ← hat j hj]; exact hu
  · obtain ⟨j, hj, rfl⟩ := List.getElem_of_mem hu
    have hj2 : j < l.length * s := by rw [← hlen]; exact hj
    obtain ⟨u, hu, h2⟩ := hcell j hj2
    have := hat j hj2
    rw [List.getElem?_eq_getElem hj, hu] at this
    cases this
    exact h2
  · have : i * s + j < l.length * s := by
      have := Nat.mul_le_mul_right s (show i + 1 ≤ l.length by omega)
      rw [Nat.add_mul, Nat.one_mul] at this
      omega
    rw [hc j hj, hat _ this]
    exact hv
/-- SOME MORE: v has become longer by r in u' (in its own block, or in a new one). -/
theorem AccQ.more {α : Type} {E : El α} {s : Nat} (hE : Carries s E) {Q : Nat → Prop} {B m : Nat} {t : TypeId} {u u' : World} {v : Value} {n : Nat} {l r : List α} {xs news : List Value} {g cap : Nat} (h : AccQ Q B s t E u v n l xs)
    (ho : u'.ownsRow B t s (.slice (some ⟨g, 0, none⟩) (n + m) cap) (n + m) (xs ++ news)) (hm : m = r.length) (hn : news.length = r.length * s) (hg : u.grownBy u' v.ownBlock) (hat : v.ownBlock = some g ∨ g = u.heap.size)
    (hx : ∀ i (hi : i < r.length) (c : Nat → Option Value), (∀ j, j < s → c j = news[i * s + j]?) → E (fun q => Q q ∧ q < u.heap.size ∧ ¬ v.ownBlock = some q) u c r[i]) : AccQ Q B s t E u' (.slice (some ⟨g, 0, none⟩) (n + m) cap) (n + m) (l ++ r) (xs ++ news) := by
  obtain ⟨h1, h2, hl, h4⟩ := h
  have hsz : u.heap.size ≤ u'.heap.size := hg.size
  have hk : ∀ q, q < u.heap.size → (Q q ∧ q < u.heap.size ∧ ¬ v.ownBlock = some q) → (Q q ∧ q < u'.heap.size ∧ ¬ (Value.slice (some ⟨g, 0, none⟩) (n + m) cap).ownBlock = some q) ∧ u'.heap[q]? = u.heap[q]? := fun q hq ⟨q1, q2, q3⟩ => by
    refine ⟨⟨q1, by omega, fun e => ?_⟩, hg.block q hq fun e => q3 e.symm⟩
    have e : g = q := by injection e
    subst e
    rcases hat with e | e
    · exact q3 e
    · omega
  refine ⟨ho, by simp [h2, hm], by rw [List.length_append, hl, hn, Nat.add_mul, hm], fun i hi c hc => ?_⟩
  by_cases hlt2 : i < l.length
  · rw [List.getElem_append_left hlt2]
    refine hE _ _ u u' c c _ hk hsz (fun _ _ _ h => h) (h4 i hlt2 c fun j hj => ?_)
    rw [hc j hj]
    have : i * s + j < xs.length := by
      rw [hl, h2]
      have := Nat.mul_le_mul_right s (show i + 1 ≤ l.length by omega)
      rw [Nat.add_mul, Nat.one_mul] at this
      omega
    rw [List.getElem?_append_left this]
  · have hi2 : i - l.length < r.length := by simp at hi; omega
    rw [List.getElem_append_right (by omega)]
    refine hE _ _ u u' c c _ hk hsz (fun _ _ _ h => h) (hx _ hi2 c fun j hj => ?_)
    have h5 : l.length * s ≤ i * s := Nat.mul_le_mul_right s (by omega)
    rw [hc j hj, List.getElem?_append_right (by rw [hl, h2]; omega), hl, h2, Nat.sub_mul]
    congr 1
    omega
end Go.Proofs.YtnchnlgnnlgjcaaGreat
namespace Go.Proofs.YtnchnlgnnlgjcaaGreat
set_option linter.unusedVariables false
open Go.RowKit
namespace Ca
/-- g rows for each of the first n. -/
def flat (g : Nat) (f : Nat → Nat → List Int) (n : Nat) : List (List Int) := (List.range n).flatMap fun i => (List.range g).map (f i)
theorem flat_succ (g : Nat) (f : Nat → Nat → List Int) (n : Nat) : flat g f (n + 1) = flat g f n ++ (List.range g).map (f n) := by simp [flat, List.range_succ, List.flatMap_append]
/-- A page's keys, and values, token by token. -/
def keyAt (m0 m1 s0 s1 g D ly hd : Nat) (L : List Tok) (i t : Nat) : List Int := Pg.key (pg m0 m1 s0 s1 g D ly hd L i).2.1 t
def valAt (m0 m1 s0 s1 g D ly hd : Nat) (L : List Tok) (i t : Nat) : List Int := Gp.means (Pg.gz (Pg.nth (pg m0 m1 s0 s1 g D ly hd L i).2.2 t)) (Pg.gs (Pg.nth (pg m0 m1 s0 s1 g D ly hd L i).2.2 t)) (Pg.gc (Pg.nth (pg m0 m1 s0 s1 g D ly hd L i).2.2 t))
end Ca
def NineAt (w : World) (b o k : Nat) (m0 m1 n d h4 h5 h6 : Int) (A : Option Addr) (nk C : Nat) (A2 : Option Addr) (nv C2 : Nat) : Prop :=
  w.cell? ⟨b, o + k * 9, none⟩ = some (.int .i64 m0) ∧ w.cell? ⟨b, o + k * 9 + 1, none⟩ = some (.int .i64 m1) ∧ w.cell? ⟨b, o + k * 9 + 2, none⟩ = some (.int .i64 n) ∧ w.cell? ⟨b, o + k * 9 + 3, none⟩ = some (.int .i64 d) ∧
      w.cell? ⟨b, o + k * 9 + 4, none⟩ = some (.int .i64 h4) ∧ w.cell? ⟨b, o + k * 9 + 5, none⟩ = some (.int .i64 h5) ∧ w.cell? ⟨b, o + k * 9 + 6, none⟩ = some (.int .i64 h6) ∧ w.cell? ⟨b, o + k * 9 + 7, none⟩ = some (.slice A nk C) ∧ w.cell? ⟨b, o + k * 9 + 8, none⟩ = some (.slice A2 nv C2)
theorem NineAt.keep {w w' : World} {b o k : Nat} {m0 m1 n d h4 h5 h6 : Int} {A A2 : Option Addr} {nk C nv C2 : Nat} (h : NineAt w b o k m0 m1 n d h4 h5 h6 A nk C A2 nv C2) (hb : Below w.heap.size w w') : NineAt w' b o k m0 m1 n d h4 h5 h6 A nk C A2 nv C2 := by
  obtain ⟨q0, q1, q2, q3, q4, q5, q6, q7, q8⟩ := h
  have hl := World.block_lt_of_cell? w _ q0
  refine ⟨?_, ?_, ?_, ?_, ?_, ?_, ?_, ?_, ?_⟩ <;> (rw [hb.cell (by exact hl)]; assumption)
theorem SlQ.rest {α : Type} {E : El α} {Q : Nat → Prop} {s : Nat} {w : World} {a a' : Option Addr} {l : List α} (h : SlQ Q s E w a l) (t : Nat) (ha : t < l.length → ∀ b o, a = some ⟨b, o, none⟩ → a' = some ⟨b, o + t * s, none⟩) : SlQ Q s E w a' (l.drop t) := by
  have h2 := h.from t l.length ha
  rwa [List.take_of_length_le (by simp)] at h2
/-- 'append(own, rows...)', by the lengths' names. -/
theorem wpList_append_rows {P : Program} {w : World} {ops : Array Oper} {rest : List Oper} {o : Oper} {a : Act} {K : Exit → Act → World → Prop} (hgd : o.guard = none) (so x : Operand) (t : TypeId)
    (ho : o.op = .call { callee := .builtin .append, args := #[so, x], argTypes := #[t, t] })
    (base : Nat) (e : TypeId) (ht : P.underlying t = some (.slice e)) (hinfo : (P.info? e).map (fun i => (i.zero, i.size, i.bytes)) = some (some (.slice none 0 0), 1, 24))
    (v : Value) (n m N : Nat) (xs : List Value) (hs : a.eval so = v) (hown : w.ownsRow base e 1 v n xs)
    {Q : Nat → Prop} (ao : Option Addr) (l : List (List Int)) (c : Nat) (hm : m = l.length) (hN : N = n + m) (hx : a.eval x = .slice ao m c) (hL : SlQ Q 1 eRow w ao l)
    (hsm : n + m ≤ 100000) (hbase : base ≤ w.heap.size) (hne : 0 < m)
    (h : ∀ g cap w' news, news.length = l.length * 1 → (∀ i (hi : i < l.length) (c : Nat → Option Value), (∀ j, j < 1 → c j = news[i * 1 + j]?) → eRow Q w c l[i]) → w'.ownsRow base e 1 (.slice (some ⟨g, 0, none⟩) (n + m) cap) (n + m) (xs ++ news) → w.grownBy w' v.ownBlock → (v.ownBlock = some g ∨ g = w.heap.size) → wpList P ops K rest (a.put o.dst (.slice (some ⟨g, 0, none⟩) N cap)) w') : wpList P ops K (o :: rest) a w := by
  subst hm hN
  exact wpList_append_slq2 carry_row (full_sl 1 (eNum .i32)) hgd so x t ho base e (.slice none 0 0) 24 ht hinfo rfl (by decide) v n xs hs hown ao l c hx hL (by unfold maxLen; omega) (by omega) hbase hne h
/-- The nine cells of a page of a slice. -/
theorem SlQ.page {Q : Nat → Prop} {w : World} {a : Option Addr} {l : List (List Int × List G3 × List G3)} (h : SlQ Q 9 ePg w a l) {k : Nat} (hk : k < l.length) {m0 m1 n d h4 h5 h6 : Int} {ks vs : List G3} (e : l[k] = ([m0, m1, n, d, h4, h5, h6], ks, vs)) :
    ∃ b o A C A2 C2, a = some ⟨b, o, none⟩ ∧ NineAt w b o k m0 m1 n d h4 h5 h6 A ks.length C A2 vs.length C2 ∧ Gps w A ks ∧ Gps w A2 vs := by
  obtain ⟨b, o, ea, _, _, h0, ⟨A, C, c7, s7⟩, A2, C2, c8, s8⟩ := h k hk
  rw [e] at h0 c7 s7 c8 s8
  exact ⟨b, o, A, C, A2, C2, ea, ⟨h0 0 (by decide), h0 1 (by decide), h0 2 (by decide), h0 3 (by decide), h0 4 (by decide), h0 5 (by decide), h0 6 (by decide), c7, c8⟩, s7.gps, s8.gps⟩
end Go.Proofs.YtnchnlgnnlgjcaaGreat
