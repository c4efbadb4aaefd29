/- Layer 13: CaAcc, CaMake, CaCopy, CaLists, CaQuant, TrMath. -/
import Derived.Test.YtnchnlgnnlgjcaaGreatCn14
import Derived.Laws.AppendOwnNone
import Derived.Deep.AppendLies
import Derived.Test.YtnchnlgnnlgjcaaGreatCn05
import Derived.Test.YtnchnlgnnlgjcaaGreatCn06
import Derived.Lib.AtoiAll
import Derived.Lib.ItoaMem
import Derived.Lib.CutLaws
import Derived.Lib.Strings
namespace Go.Proofs.YtnchnlgnnlgjcaaGreat
set_option linter.unusedVariables false
open Go.RowKit
/-- THE SLICE v, of the call's own (behind block B), reads as l; what its elements point at is of kind Q, and not its own block. -/
def AccQ {α : Type} (Q : Nat → Prop) (B s : Nat) (t : TypeId) (E : El α) (w : World) (v : Value) (n : Nat) (l : List α) (xs : List Value) : Prop :=
  w.ownsRow B t s v n xs ∧ n = l.length ∧ xs.length = n * s ∧
    ∀ i (h : i < l.length) (c : Nat → Option Value), (∀ j, j < s → c j = xs[i * s + j]?) → E (fun q => Q q ∧ q < w.heap.size ∧ ¬ v.ownBlock = some q) w c l[i]
theorem acc_nil {α : Type} (Q : Nat → Prop) (B s : Nat) (t : TypeId) (E : El α) (w : World) : AccQ Q B s t E w (.slice none 0 0) 0 [] [] :=
  ⟨World.ownsRow_nil _ _ _ _, rfl, by simp, fun i h => by simp at h⟩
theorem AccQ.slq {α : Type} {E : El α} {s : Nat} (hE : Carries s E) {Q Q' : Nat → Prop} {B : Nat} {t : TypeId} {w : World} {v : Value} {n : Nat} {l : List α} {xs : List Value} (h : AccQ Q B s t E w v n l xs) (hB : ∀ q, B ≤ q → Q' q) (hQ : ∀ q, Q q → Q' q) :
    ∃ a cap, v = .slice a n cap ∧ SlQ Q' s E w a l ∧ n ≤ cap ∧ cap ≤ maxLen ∧ (a = none → cap = 0) := by
  obtain ⟨h1, h2, _, h4⟩ := h
  exact slq_of_own h1 h2 (fun q hq => hB q (h1.lt q hq).1) fun i hi c hc => hE _ _ w w c c _ (fun q _ hq => ⟨hQ q hq.1, rfl⟩) (Nat.le_refl _) (fun _ _ _ h => h) (h4 i hi c hc)
/-- Nothing of what it hangs on is turned. -/
theorem AccQ.other {α : Type} {E : El α} {s : Nat} (hE : Carries s E) {Q : Nat → Prop} {B : Nat} {t : TypeId} {w u : World} {v : Value} {n : Nat} {l : List α} {xs : List Value} (h : AccQ Q B s t E w v n l xs)
    (hk : ∀ q, q < w.heap.size → Q q ∨ v.ownBlock = some q → u.heap[q]? = w.heap[q]?) (hs : w.heap.size ≤ u.heap.size) : AccQ Q B s t E u v n l xs := by
  obtain ⟨h1, h2, hx, h4⟩ := h
  have ho : u.ownsRow B t s v n xs := by
    refine ⟨h1.1, ?_⟩
    rcases h1.2 with h0 | ⟨g, cap, cur, e, h1, h2, h3⟩
    · exact Or.inl h0
    · refine Or.inr ⟨g, cap, cur, e, h1, ?_, h3⟩
      rw [hk g (Array.getElem?_eq_some_iff.1 h2).1 (.inr (by rw [e]; rfl))]
      exact h2
  refine ⟨ho, h2, hx, fun i hi c hc => ?_⟩
  exact hE _ _ w u c c _ (fun q hq h => ⟨⟨h.1, by omega, h.2.2⟩, hk q hq (.inl h.1)⟩) hs (fun _ _ _ h => h) (h4 i hi c hc)
theorem AccQ.to {α : Type} {E : El α} {s : Nat} (hE : Carries s E) {Q : Nat → Prop} {B : Nat} {t : TypeId} {w u : World} {v : Value} {n : Nat} {l : List α} {xs : List Value} (h : AccQ Q B s t E w v n l xs) (hb : Below w.heap.size w u) : AccQ Q B s t E u v n l xs :=
  h.other hE (fun q hq _ => hb.block q hq) hb.size
/-- Another row is turned. -/
theorem AccQ.far {α : Type} {E : El α} {s : Nat} (hE : Carries s E) {Q : Nat → Prop} {B : Nat} {t : TypeId} {w u : World} {v : Value} {n : Nat} {l : List α} {xs : List Value} {row : Option Nat} (h : AccQ Q B s t E w v n l xs) (hg : w.grownBy u row)
    (hr : ∀ q, row = some q → ¬ Q q ∧ ¬ v.ownBlock = some q) : AccQ Q B s t E u v n l xs :=
  h.other hE (fun q hq hh => hg.block q hq fun e => by
    obtain ⟨r1, r2⟩ := hr q e.symm
    rcases hh with hh | hh
    · exact r1 hh
    · exact r2 hh) hg.size
/-- ONE MORE: v has become one longer in u' (in its own block, or in a new one). -/
theorem AccQ.snoc {α : Type} {E : El α} {s : Nat} (hE : Carries s E) {Q : Nat → Prop} {B : Nat} {t : TypeId} {u u' : World} {v : Value} {n : Nat} {l : List α} {xs news : List Value} {g cap : Nat} {x : α} (h : AccQ Q B s t E u v n l xs)
    (ho : u'.ownsRow B t s (.slice (some ⟨g, 0, none⟩) (n + 1) cap) (n + 1) (xs ++ news)) (hn : news.length = s) (hg : u.grownBy u' v.ownBlock) (hat : v.ownBlock = some g ∨ g = u.heap.size)
    (hx : ∀ c : Nat → Option Value, (∀ j, j < s → c j = news[j]?) → E (fun q => Q q ∧ q < u.heap.size ∧ ¬ v.ownBlock = some q) u c x) : AccQ Q B s t E u' (.slice (some ⟨g, 0, none⟩) (n + 1) cap) (n + 1) (l ++ [x]) (xs ++ news) := by
  obtain ⟨h1, h2, hl, h4⟩ := h
  have hsz : u.heap.size ≤ u'.heap.size := hg.size
  have hk : ∀ q, q < u.heap.size → (Q q ∧ q < u.heap.size ∧ ¬ v.ownBlock = some q) → (Q q ∧ q < u'.heap.size ∧ ¬ (Value.slice (some ⟨g, 0, none⟩) (n + 1) cap).ownBlock = some q) ∧ u'.heap[q]? = u.heap[q]? := fun q hq ⟨q1, q2, q3⟩ => by
    refine ⟨⟨q1, by omega, fun e => ?_⟩, hg.block q hq fun e => q3 e.symm⟩
    have e : g = q := by injection e
    subst e
    rcases hat with e | e
    · exact q3 e
    · omega
  refine ⟨ho, by simp [h2], by rw [List.length_append, hl, hn, Nat.add_mul, Nat.one_mul], fun i hi c hc => ?_⟩
  by_cases hlt2 : i < l.length
  · rw [List.getElem_append_left hlt2]
    refine hE _ _ u u' c c _ hk hsz (fun _ _ _ h => h) (h4 i hlt2 c fun j hj => ?_)
    rw [hc j hj]
    have : i * s + j < xs.length := by
      rw [hl, h2]
      have := Nat.mul_le_mul_right s (show i + 1 ≤ l.length by omega)
      rw [Nat.add_mul, Nat.one_mul] at this
      omega
    rw [List.getElem?_append_left this]
  · have ei : i = l.length := by simp at hi; omega
    subst ei
    rw [List.getElem_append_right (Nat.le_refl _)]
    simp only [Nat.sub_self, List.getElem_cons_zero]
    refine hE _ _ u u' c c _ hk hsz (fun _ _ _ h => h) (hx c fun j hj => ?_)
    rw [hc j hj, List.getElem?_append_right (by rw [hl, h2]; omega)]
    congr 1
    rw [hl, h2]; omega
/-- 'append(own, l...)': own is of the call's own, l any slice of elements of s cells. -/
theorem wpList_append_slq {α : Type} {E : El α} {s : Nat} {P : Program} {w : World} {ops : Array Oper} {rest : List Oper} {o : Oper} {a : Act} {K : Exit → Act → World → Prop} (hE : Carries s E) (hF : Full s E) (hgd : o.guard = none) (so x : Operand) (t : TypeId)
    (ho : o.op = .call { callee := .builtin .append, args := #[so, x], argTypes := #[t, t] })
    (base : Nat) (e : TypeId) (z : Value) (bytes : Nat) (ht : P.underlying t = some (.slice e)) (hinfo : (P.info? e).map (fun i => (i.zero, i.size, i.bytes)) = some (some z, s, bytes)) (hzs : z.cells.size = s) (hsz : 0 < s)
    (v : Value) (n : Nat) (xs : List Value) (hs : a.eval so = v) (hown : w.ownsRow base e s v n xs)
    {Q : Nat → Prop} (ao : Option Addr) (l : List α) (c : Nat) (hx : a.eval x = .slice ao l.length c) (hL : SlQ Q s E w ao l) (hc : ao = none → c = 0)
    (h63 : n + l.length ≤ maxLen) (hbytes : (n + l.length) * bytes ≤ 140737488355328) (hbase : base ≤ w.heap.size)
    (h : ∀ v' w' news, news.length = l.length * s → (∀ i (hi : i < l.length) (c : Nat → Option Value), (∀ j, j < s → c j = news[i * s + j]?) → E Q w c l[i]) → w'.ownsRow base e s v' (n + l.length) (xs ++ news) → w.grownBy w' v.ownBlock → wpList P ops K rest (a.put o.dst v') w') : wpList P ops K (o :: rest) a w := by
  obtain ⟨i, hi, hz0, hz1, hz2⟩ := info_parts hinfo
  cases ao with
  | none =>
    have e0 : l = [] := by
      cases l with
      | nil => rfl
      | cons y l =>
        obtain ⟨b, o, e, _⟩ := hL 0 (by simp)
        cases e
    subst e0
    have hc0 := hc rfl
    subst hc0
    exact wpList_append_own_none hgd so x t ho base e i s ht hi v n xs hs hown hx (h v w [] (by simp) (fun i hi => by simp at hi) (by simpa using hown) (World.grownBy.refl _ _))
  | some ad =>
    by_cases hl0 : l.length = 0
    · have e0 : l = [] := List.length_eq_zero_iff.1 hl0
      subst e0
      refine wpList_append_own w hgd so x t ho base e i z s bytes ht hi hz0 hz1 hz2 hzs hsz v n xs hs hown ad 0 c [] hx (by simp) (fun j u hu => by simp at hu) (fun u hu => by simp at hu) h63 hbytes hbase (fun v' w' h1 h2 _ => h v' w' [] (by simp) (fun i hi => by simp at hi) h1 h2)
    · obtain ⟨b, oo, ee, hb, hq, hget⟩ := hL.get (show 0 < l.length by omega)
      cases ee
      have hcell : ∀ j, j < l.length * s → ∃ u, w.cell? ⟨b, oo + j, none⟩ = some u ∧ u.oneCell' = true := fun j hj => by
        have h1 : j / s < l.length := Nat.div_lt_of_lt_mul (by rw [Nat.mul_comm]; exact hj)
        obtain ⟨u, hu, h2⟩ := hF _ _ _ _ (hget (j / s) h1) (j % s) (Nat.mod_lt _ hsz)
        have hu : w.cell? ⟨b, oo + (j / s * s + j % s), none⟩ = some u := hu
        rw [Nat.div_add_mod' j s] at hu
        exact ⟨u, hu, h2⟩
      obtain ⟨news, hnews⟩ : ∃ news : List Value, news = (List.range (l.length * s)).map fun j => (w.cell? ⟨b, oo + j, none⟩).getD (.int .i64 0) := ⟨_, rfl⟩
      have hlen : news.length = l.length * s := by rw [hnews]; simp
      have hat : ∀ j, j < l.length * s → news[j]? = w.cell? ⟨b, oo + j, none⟩ := fun j hj => by
        obtain ⟨u, hu, _⟩ := hcell j hj
        rw [hnews, List.getElem?_map, List.getElem?_range hj]
        simp [hu]
      refine wpList_append_own w hgd so x t ho base e i z s bytes ht hi hz0 hz1 hz2 hzs hsz v n xs hs hown ⟨b, oo, none⟩ l.length c news hx hlen (fun j u hu => ?_) (fun u hu => ?_) h63 hbytes hbase
        (fun v' w' h1 h2 _ => h v' w' news hlen (fun i hi c hc => hE Q Q w w _ c _ (fun q _ hq => ⟨hq, rfl⟩) (Nat.le_refl _) (fun j hj v hv => ?_) (hget i hi)) h1 h2)
      · have hj : j < l.length * s := by rw [← hlen]; exact (List.getElem?_eq_some_iff.1 hu).1
        rw [Addr.add_lit, ← hat j hj]; exact hu
      · obtain ⟨j, hj, rfl⟩ := List.getElem_of_mem hu
        have hj2 : j < l.length * s := by rw [← hlen]; exact hj
        obtain ⟨u, hu, h2⟩ := hcell j hj2
        have := hat j hj2
        rw [List.getElem?_eq_getElem hj, hu] at this
        cases this
        exact h2
      · have : i * s + j < l.length * s := by
          have := Nat.mul_le_mul_right s (show i + 1 ≤ l.length by omega)
          rw [Nat.add_mul, Nat.one_mul] at this
          omega
        rw [hc j hj, hat _ this]
        exact hv
end Go.Proofs.YtnchnlgnnlgjcaaGreat
namespace Go.Proofs.YtnchnlgnnlgjcaaGreat
set_option linter.unusedVariables false
open Go.RowKit
namespace Ca
theorem infoRow : (Tryz.prog.info? 74).map (fun i => (i.zero, i.size, i.bytes)) = some (some (.slice none 0 0), 1, 24) := by kernel_rfl
theorem infoToks : (Tryz.prog.info? 60).map (fun i => (i.zero, i.size, i.bytes)) = some (some (.slice none 0 0), 1, 24) := by kernel_rfl
theorem own_at {w w' : World} {base s : Nat} {t : TypeId} {v : Value} {n : Nat} {xs : List Value} (h : w.ownsRow base t s v n xs) (hb : ∀ g, v.ownBlock = some g → w'.heap[g]? = w.heap[g]?) : w'.ownsRow base t s v n xs := by
  refine ⟨h.1, ?_⟩
  rcases h.2 with h0 | ⟨g, cap, cur, e, h1, h2, h3⟩
  · exact Or.inl h0
  · refine Or.inr ⟨g, cap, cur, e, h1, ?_, h3⟩
    subst e
    rw [hb g rfl]
    exact h2
theorem own_slice {w : World} {base s : Nat} {t : TypeId} {v : Value} {n : Nat} {xs : List Value} (h : w.ownsRow base t s v n xs) : ∃ a c, v = .slice a n c := by
  rcases h.2 with ⟨e, hn⟩ | ⟨g, cap, cur, e, _⟩
  · exact ⟨none, 0, by rw [e, hn]⟩
  · exact ⟨_, _, e⟩
end Ca
end Go.Proofs.YtnchnlgnnlgjcaaGreat
namespace Go.Proofs.YtnchnlgnnlgjcaaGreat
set_option linter.unusedVariables false
open Go.RowKit
/-- No two values own one block. -/
theorem Ca.hid {p : Prop} (h : p) : Hid p := h
end Go.Proofs.YtnchnlgnnlgjcaaGreat
namespace Go.Proofs.YtnchnlgnnlgjcaaGreat
set_option linter.unusedVariables false
open Go.RowKit
namespace Ca
/-- The keys, and the values, of a head. -/
def ksOf (L : List Tok) (h : Nat) : List (List Int) := L.map fun t => nt t.1 h
def vsOf (L : List Tok) (h : Nat) : List (List Int) := L.map fun t => nt t.2 h
theorem take_map_succ {α β : Type} (f : α → β) (l : List α) {k : Nat} (hk : k < l.length) : (l.map f).take (k + 1) = (l.map f).take k ++ [f l[k]] := by
  rw [List.take_succ_eq_append_getElem (by simpa using hk), List.getElem_map]
end Ca
/-- A token's cells, and those of a head. -/
theorem SlQ.tok {Q : Nat → Prop} {w : World} {a : Option Addr} {L : List Tok} (h : SlQ Q 2 eTok w a L) {k : Nat} (hk : k < L.length) :
    ∃ b o A1 C1 A2 C2, a = some ⟨b, o, none⟩ ∧ Q b ∧ w.cell? ⟨b, o + k * 2, none⟩ = some (.slice A1 (L[k]).1.length C1) ∧ w.cell? ⟨b, o + k * 2 + 1, none⟩ = some (.slice A2 (L[k]).2.length C2) ∧ SlQ Q 1 eRow w A1 (L[k]).1 ∧ SlQ Q 1 eRow w A2 (L[k]).2 := by
  obtain ⟨b, o, e, _, hq, h1, h2⟩ := h k hk
  obtain ⟨A1, C1, c1, _, _, _, s1⟩ := h1
  obtain ⟨A2, C2, c2, _, _, _, s2⟩ := h2
  exact ⟨b, o, A1, C1, A2, C2, e, hq, c1, c2, s1, s2⟩
/-- An element that was there: a row, of another table. -/
theorem eRow_old {Q : Nat → Prop} {w : World} {A : Option Addr} {C : Nat} {l : List Int} (h2 : l.length ≤ C) (h3 : l.length ≤ maxLen) (h4 : A = none → C = 0) (h5 : SlQ Q 1 (eNum .i32) w A l)
    {c : Nat → Option Value} (hc : c 0 = some (.slice A l.length C)) : eRow Q w c l := ⟨A, C, hc, h2, h3, h4, h5⟩
/-- One more row, that was there. -/
theorem lists_snoc {K : Nat → Prop} {B : Nat} {t : TypeId} {w w1 : World} {v : Value} {k g cap f : Nat} {e : Option Addr} {m : List Int} {l l' : List (List Int)} {xs : List Value} {o : Obj} (h : AccQ K B 1 t eRow w v k l xs)
    (ho : w1.ownsRow B t 1 (.slice (some ⟨g, 0, none⟩) (k + 1) cap) (k + 1) (xs ++ [.slice e m.length f])) (hg : (w.alloc o).grownBy w1 v.ownBlock) (hat : v.ownBlock = some g ∨ g = w.heap.size + 1)
    (T : m.length ≤ f ∧ m.length ≤ maxLen ∧ (e = none → f = 0) ∧ SlQ K 1 (eNum .i32) w e m) (hl : l' = l ++ [m]) (hB : ∀ q, K q → q < B) : AccQ K B 1 t eRow w1 (.slice (some ⟨g, 0, none⟩) (k + 1) cap) (k + 1) l' (xs ++ [.slice e m.length f]) := by
  subst hl
  refine (h.to carry_row (box_below w o)).snoc carry_row ho rfl hg ?_ fun c hc => ?_
  · rcases hat with q | q
    · exact .inl q
    · right; simp; exact q
  · refine eRow_old T.1 T.2.1 T.2.2.1 (T.2.2.2.carry (carry_num _) (fun q h1 h2 => ⟨⟨h2, by simp; omega, fun e => ?_⟩, (box_below w o).block q h1⟩) (box_below w o).size) (by rw [hc 0 (by decide)]; rfl)
    have := (h.1.lt q e).1
    have := hB q h2
    omega
end Go.Proofs.YtnchnlgnnlgjcaaGreat
namespace Go.Proofs.YtnchnlgnnlgjcaaGreat
set_option linter.unusedVariables false
namespace Tr
def Dig (c : UInt8) : Prop := 48 ≤ c.toNat ∧ c.toNat ≤ 57
instance (c : UInt8) : Decidable (Dig c) := by unfold Dig; infer_instance
/-- What digits say. -/
def dg (c : UInt8) : Nat := c.toNat - 48
def st (a : Nat) (c : UInt8) : Nat := a * 10 + dg c
def val (a : Nat) (l : List UInt8) : Nat := l.foldl st a
theorem occ_one {l : List UInt8} {i : Nat} {c : UInt8} (h : l[i]? = some c) : l = l.take i ++ c :: l.drop (i + 1) := by
  obtain ⟨hi, rfl⟩ := List.getElem?_eq_some_iff.1 h
  simp
end Tr
end Go.Proofs.YtnchnlgnnlgjcaaGreat
