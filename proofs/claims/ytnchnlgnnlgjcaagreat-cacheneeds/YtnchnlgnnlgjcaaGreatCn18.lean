/- Layer 13: CcWorld. -/
import Derived.Test.YtnchnlgnnlgjcaaGreatCn13
import Derived.Test.YtnchnlgnnlgjcaaGreatCn14
import Derived.Test.YtnchnlgnnlgjcaaGreatCn17
namespace Go.Proofs.YtnchnlgnnlgjcaaGreat
set_option linter.unusedVariables false
open Go.RowKit
/-- Lists hang on the blocks that they lie in alone; where one has nothing, on none. -/
theorem Lst.stand {w w' : World} {k : IntKind} {a : Option Addr} {l : List Int} (h : Lst k w a l) (hk : ∀ x, a = some x → 0 < l.length → x.block < w.heap.size → w'.heap[x.block]? = w.heap[x.block]?) : Lst k w' a l := fun i hi => by
  obtain ⟨b, o, e, hc⟩ := h i hi
  refine ⟨b, o, e, ?_⟩
  rw [World.cell?_of_block (a := ⟨b, o + i, none⟩) (hk ⟨b, o, none⟩ e (by omega) (show b < _ from World.block_lt_of_cell? w ⟨b, o + i, none⟩ hc))]
  exact hc
theorem lst_lt {w : World} {k : IntKind} {a : Option Addr} {l : List Int} (h : Lst k w a l) (hl : 0 < l.length) : ∀ x, a = some x → x.block < w.heap.size := fun x e => by
  obtain ⟨b, o, e2, hc⟩ := h 0 hl
  rw [e2] at e
  cases e
  exact World.block_lt_of_cell? w _ hc
/-- Packed groups, and a page, on blocks of kind Z. -/
def PksZ (Z : Nat → Prop) (w : World) (g b : Nat) (l : List (Int × Int × List Int)) : Prop := ∀ i, i < l.length → Z g ∧ ∃ a c, PkAt w g i b (Pg.nth l i) a c ∧ ∀ x, a = some x → 0 < (Pk.pack b (Pg.gc (Pg.nth l i))).length → Z x.block
theorem PksZ.pks {Z : Nat → Prop} {w : World} {g b : Nat} {l : List (Int × Int × List Int)} (h : PksZ Z w g b l) : Pks w g b l := fun i hi => by
  obtain ⟨_, a, c, h1, _⟩ := h i hi
  exact ⟨a, c, h1⟩
theorem PksZ.carry {Z Z' : Nat → Prop} {w w' : World} {g b : Nat} {l : List (Int × Int × List Int)} (h : PksZ Z w g b l) (hk : ∀ q, q < w.heap.size → Z q → Z' q ∧ w'.heap[q]? = w.heap[q]?) : PksZ Z' w' g b l := fun i hi => by
  obtain ⟨hg, a, c, ⟨h0, h1, h2, h3, h4⟩, hz1⟩ := h i hi
  have gl : g < w.heap.size := World.block_lt_of_cell? w _ h0
  have e := (hk g gl hg).2
  refine ⟨(hk g gl hg).1, a, c, ⟨?_, ?_, ?_, ?_, h4.stand fun x ex hl hx => (hk _ hx (hz1 x ex hl)).2⟩, fun x ex hl => (hk _ (lst_lt h4 hl x ex) (hz1 x ex hl)).1⟩
  · rw [World.cell?_of_block (a := ⟨g, i * 4, none⟩) e]; exact h0
  · rw [World.cell?_of_block (a := ⟨g, i * 4 + 1, none⟩) e]; exact h1
  · rw [World.cell?_of_block (a := ⟨g, i * 4 + 2, none⟩) e]; exact h2
  · rw [World.cell?_of_block (a := ⟨g, i * 4 + 3, none⟩) e]; exact h3
def PageZ (Z : Nat → Prop) (w : World) (p m0 m1 n d : Nat) (h4 h5 h6 : Int) (ks vs : List (Int × Int × List Int)) : Prop :=
  ∃ g1 g2, w.rowIs p 176 9 (pgc m0 m1 n d h4 h5 h6 (.slice (some ⟨g1, 0, none⟩) d d) (.slice (some ⟨g2, 0, none⟩) n n)) ∧ PksZ Z w g1 m0 ks ∧ PksZ Z w g2 m1 vs ∧ Pg.Page [(m0 : Int), m1, n, d, h4, h5, h6] ks vs ∧ Z p
theorem PageZ.at {Z : Nat → Prop} {w : World} {p m0 m1 n d : Nat} {h4 h5 h6 : Int} {ks vs : List (Int × Int × List Int)} (h : PageZ Z w p m0 m1 n d h4 h5 h6 ks vs) : PageAt w p m0 m1 n d h4 h5 h6 ks vs := by
  obtain ⟨g1, g2, hr, hk, hv, hp, _⟩ := h
  exact ⟨g1, g2, hr, hk.pks, hv.pks, hp⟩
theorem PageZ.carry {Z Z' : Nat → Prop} {w w' : World} {p m0 m1 n d : Nat} {h4 h5 h6 : Int} {ks vs : List (Int × Int × List Int)} (h : PageZ Z w p m0 m1 n d h4 h5 h6 ks vs) (hk : ∀ q, q < w.heap.size → Z q → Z' q ∧ w'.heap[q]? = w.heap[q]?) : PageZ Z' w' p m0 m1 n d h4 h5 h6 ks vs := by
  obtain ⟨g1, g2, hr, h1, h2, hp, z0⟩ := h
  exact ⟨g1, g2, hr.of_block (hk p hr.lt z0).2, h1.carry hk, h2.carry hk, hp, (hk p hr.lt z0).1⟩
theorem pageZ_of {Z : Nat → Prop} {s : Nat} {w : World} {p m0 m1 n d : Nat} {h4 h5 h6 : Int} {ks vs : List (Int × Int × List Int)} (h : PageAt w p m0 m1 n d h4 h5 h6 ks vs) (hn : PgN s w p) (hz : ∀ q, s ≤ q → Z q) : PageZ Z w p m0 m1 n d h4 h5 h6 ks vs := by
  obtain ⟨g1, g2, hr, hk, hv, hp⟩ := h
  obtain ⟨z0, hn⟩ := hn
  obtain ⟨a1, k1⟩ := hn ⟨g1, 0, none⟩ d d (.inl (by rw [hr.cell (show 7 < 9 by decide)]; rfl))
  obtain ⟨a2, k2⟩ := hn ⟨g2, 0, none⟩ n n (.inr (by rw [hr.cell (show 8 < 9 by decide)]; rfl))
  have a1 : s ≤ g1 := a1
  have a2 : s ≤ g2 := a2
  have k1 : PkN w g1 := k1
  have k2 : PkN w g2 := k2
  refine ⟨g1, g2, hr, fun i hi => ⟨hz _ a1, ?_⟩, fun i hi => ⟨hz _ a2, ?_⟩, hp, hz _ z0⟩
  · obtain ⟨a, c, q⟩ := hk i hi
    refine ⟨a, c, q, fun x ex _ => hz _ ?_⟩
    subst ex
    have := k1 i x _ _ q.2.2.2.1
    omega
  · obtain ⟨a, c, q⟩ := hv i hi
    refine ⟨a, c, q, fun x ex _ => hz _ ?_⟩
    subst ex
    have := k2 i x _ _ q.2.2.2.1
    omega
namespace Cc
/-- How many groups are quantized of t tokens. -/
def gn (G W t : Nat) : Nat := (t - W) / G
theorem grp_gn {G W t : Nat} (ht : t ≤ 1024) : Tn.Tr.grp G W t = (gn G W t : Int) := by
  unfold Tn.Tr.grp Tn.Tr.over Tn.Tr.near gn
  rw [if_neg (by omega : ¬ (t : Int) < 0), if_neg (by omega : ¬ 1024 < (t : Int)), Int.natCast_ediv]
  congr 1
  split <;> omega
theorem gn_le {G W t : Nat} (hG : 1 ≤ G) : gn G W t * G + W ≤ t ∨ gn G W t = 0 := by
  by_cases h : t ≤ W
  · right; unfold gn; rw [show t - W = 0 by omega]; exact Nat.zero_div _
  · left
    have := Nat.div_mul_le_self (t - W) G
    unfold gn
    omega
theorem gn_mul {G W t : Nat} (hG : 1 ≤ G) : gn G W t * G ≤ t := by
  rcases gn_le (W := W) (t := t) hG with h | h
  · omega
  · rw [h]; omega
theorem gn_lt {G W t : Nat} (hG : 1 ≤ G) : t < gn G W t * G + G + W := by
  have h := Nat.div_add_mod (t - W) G
  have h2 := Nat.mod_lt (t - W) (show 0 < G by omega)
  unfold gn
  rw [Nat.mul_comm] at h
  omega
theorem gn_mono {G W t u : Nat} (h : t ≤ u) : gn G W t ≤ gn G W u := Nat.div_le_div_right (by omega)
theorem gn_succ {G W t : Nat} (hG : 1 ≤ G) : gn G W (t + 1) = gn G W t ∨ gn G W (t + 1) = gn G W t + 1 := by
  have h1 : gn G W t ≤ gn G W (t + 1) := gn_mono (by omega)
  by_cases h : gn G W (t + 1) ≤ gn G W t + 1
  · omega
  · exfalso
    have h2 := gn_lt (W := W) (t := t) hG
    rcases gn_le (W := W) (t := t + 1) hG with h3 | h3
    · have h4 : (gn G W t + 2) * G ≤ gn G W (t + 1) * G := Nat.mul_le_mul_right G (by omega)
      rw [Nat.add_mul] at h4
      omega
    · omega
/-- The bits of a layer. -/
def mk (ls : List (Int × Int)) (ly : Nat) : Nat := (Tn.Tr.fst ls ly).toNat
def mv (ls : List (Int × Int)) (ly : Nat) : Nat := (Tn.Tr.snd ls ly).toNat
def top (b : Nat) : Nat := 2 ^ b - 1
/-- A SHAPE MAY BE. -/
def ShOk (H D G W : Nat) (ls : List (Int × Int)) : Prop := 1 ≤ H ∧ H ≤ 4 ∧ 1 ≤ D ∧ D ≤ 16 ∧ Tn.Tr.right G W ls = 0
theorem ShOk.nums {H D G W : Nat} {ls : List (Int × Int)} (h : ShOk H D G W ls) : 1 ≤ G ∧ G ≤ 16 ∧ W ≤ 64 ∧ 1 ≤ ls.length ∧ ls.length ≤ 4 ∧ Tn.Tr.allB ls = true := by
  obtain ⟨_, _, _, _, h5⟩ := h
  obtain ⟨a, b, c, d, e, f, g⟩ := Tn.Tr.right_zero h5
  exact ⟨by omega, by omega, by omega, e, f, g⟩
theorem ShOk.bits {H D G W : Nat} {ls : List (Int × Int)} (h : ShOk H D G W ls) {ly : Nat} (hl : ly < ls.length) :
    Tn.Tr.fst ls ly = (mk ls ly : Int) ∧ Tn.Tr.snd ls ly = (mv ls ly : Int) ∧ Gp.St (mk ls ly) (top (mk ls ly)) ∧ Gp.St (mv ls ly) (top (mv ls ly)) := by
  have := (Tn.Tr.allB_iff ls).1 h.nums.2.2.2.2.2 ly hl
  unfold Tn.Tr.okP at this
  rw [Bool.and_eq_true] at this
  obtain ⟨a, b⟩ := this
  have st : ∀ x : Int, Tn.Tr.okB x = true → x = (x.toNat : Int) ∧ Gp.St x.toNat (top x.toNat) := fun x hx => by
    rcases Tn.Tr.okB_cases hx with e | e | e <;> subst e <;> exact ⟨rfl, by unfold Gp.St top; decide⟩
  exact ⟨(st _ a).1, (st _ b).1, (st _ a).2, (st _ b).2⟩
/-- A token has a key and a value for each head, each of D numbers. -/
def TokOk (H D : Nat) (t : Tok) : Prop := t.1.length = H ∧ t.2.length = H ∧ ∀ h, h < H → (Ca.nt t.1 h).length = D ∧ (Ca.nt t.2 h).length = D ∧ Ls.In32 (Ca.nt t.1 h) ∧ Ls.In32 (Ca.nt t.2 h)
/-- A list of D numbers at a slice, on blocks that stay. -/
def KAt (col : Nat → Nat) (w : World) (y : Option Addr × Nat × Nat) (l : List Int) : Prop := y.2.1 = l.length ∧ SlQ (fun q => col q = 0) 1 (eNum .i32) w y.1 l ∧ l.length ≤ y.2.2 ∧ l.length ≤ maxLen ∧ (y.1 = none → y.2.2 = 0)
def TvAt (col : Nat → Nat) (w : World) (x : Rt.Tv) (t : Tok) (hd : Nat) : Prop := KAt col w x.1 (Ca.nt t.1 hd) ∧ KAt col w x.2 (Ca.nt t.2 hd)
theorem KAt.carry {col col' : Nat → Nat} {w w' : World} {y : Option Addr × Nat × Nat} {l : List Int} (h : KAt col w y l) (hk : ∀ q, q < w.heap.size → col q = 0 → col' q = 0 ∧ w'.heap[q]? = w.heap[q]?) (hs : w.heap.size ≤ w'.heap.size) : KAt col' w' y l :=
  ⟨h.1, h.2.1.carry (carry_num _) hk hs, h.2.2⟩
theorem TvAt.carry {col col' : Nat → Nat} {w w' : World} {x : Rt.Tv} {t : Tok} {hd : Nat} (h : TvAt col w x t hd) (hk : ∀ q, q < w.heap.size → col q = 0 → col' q = 0 ∧ w'.heap[q]? = w.heap[q]?) (hs : w.heap.size ≤ w'.heap.size) : TvAt col' w' x t hd :=
  ⟨h.1.carry hk hs, h.2.carry hk hs⟩
/-- A HEAD's ROW: q pages at the slots sl, the other tokens in a ring. -/
def RowIn (w : World) (col : Nat → Nat) (c : Nat) (M : List Int) (G D n0 : Nat) (ls : List (Int × Int)) (ly hd rg rs : Nat) (sl : List Int) (tk : List Tok) (q : Nat) : Prop :=
  sl.length = q ∧ q * G ≤ tk.length ∧
  (∀ i, i < q → ∃ p : Nat, Ls.nth M (Ls.nth sl i).toNat = (p : Int) ∧ PageZ (fun x => col x = 0) w p (mk ls ly) (mv ls ly) G D ly hd i (Ca.pg (mk ls ly) (mv ls ly) (top (mk ls ly)) (top (mv ls ly)) G D ly hd tk i).2.1 (Ca.pg (mk ls ly) (mv ls ly) (top (mk ls ly)) (top (mv ls ly)) G D ly hd tk i).2.2) ∧
  ∃ f l, Rt.RingAt w rg rs n0 f l ∧ l.length + q * G = tk.length ∧ (∀ i (h : q * G + i < tk.length), TvAt col w (Rt.nth l i) tk[q * G + i] hd) ∧ col rg = c ∧ col rs = c
theorem RowIn.carry {w w' : World} {col col' : Nat → Nat} {c : Nat} {M M' : List Int} {G D n0 : Nat} {ls : List (Int × Int)} {ly hd rg rs : Nat} {sl : List Int} {tk : List Tok} {q : Nat} (h : RowIn w col c M G D n0 ls ly hd rg rs sl tk q)
    (hk : ∀ x, x < w.heap.size → col x = 0 → col' x = 0 ∧ w'.heap[x]? = w.heap[x]?) (hs : w.heap.size ≤ w'.heap.size) (hg : col' rg = col rg ∧ w'.heap[rg]? = w.heap[rg]?) (hr : col' rs = col rs ∧ w'.heap[rs]? = w.heap[rs]?)
    (hM : ∀ x, x ∈ sl → Ls.nth M' x.toNat = Ls.nth M x.toNat) : RowIn w' col' c M' G D n0 ls ly hd rg rs sl tk q := by
  obtain ⟨h1, h2, h3, f, l, h4, h5, h6, h7, h8⟩ := h
  refine ⟨h1, h2, fun i hi => ?_, f, l, h4.of_block hg.2 hr.2, h5, fun i hi => (h6 i hi).carry hk hs, hg.1.trans h7, hr.1.trans h8⟩
  obtain ⟨p, e, hp⟩ := h3 i hi
  refine ⟨p, ?_, hp.carry hk⟩
  rw [hM _ (by
    rw [show Ls.nth sl i = sl[i]'(by omega) by simp [Ls.nth, show i < sl.length by omega]]
    exact List.getElem_mem _)]
  exact e
/-- The nine cells of a cache. -/
def cac (g H D G W : Nat) (vl : Value) (T : Nat) (vp vc : Value) (i : Nat) : Value :=
  if i = 0 then .pointer (some ⟨g, 0, none⟩) else if i = 1 then .int .i64 H else if i = 2 then .int .i64 D else if i = 3 then .int .i64 G else if i = 4 then .int .i64 W else if i = 5 then vl else if i = 6 then .pointer (some ⟨T, 0, none⟩) else if i = 7 then vp else vc
/-- The plan's layers at a slice, on blocks that stay. -/
def PsZ (col : Nat → Nat) (w : World) (a : Option Addr) (ls : List (Int × Int)) : Prop := Tn.Tr.Ps w a ls ∧ ∀ x, a = some x → x.block < w.heap.size ∧ col x.block = 0
theorem PsZ.carry {col col' : Nat → Nat} {w w' : World} {a : Option Addr} {ls : List (Int × Int)} (h : PsZ col w a ls) (hk : ∀ x, x < w.heap.size → col x = 0 → col' x = 0 ∧ w'.heap[x]? = w.heap[x]?) (hs : w.heap.size ≤ w'.heap.size) : PsZ col' w' a ls := by
  refine ⟨fun i hi => ?_, fun x ex => ⟨Nat.lt_of_lt_of_le (h.2 x ex).1 hs, (hk _ (h.2 x ex).1 (h.2 x ex).2).1⟩⟩
  obtain ⟨b, o, e, h1, h2⟩ := h.1 i hi
  have eb := (hk b (h.2 _ e).1 (h.2 _ e).2).2
  refine ⟨b, o, e, ?_, ?_⟩
  · rw [World.cell?_of_block (a := ⟨b, o + i * 2, none⟩) eb]; exact h1
  · rw [World.cell?_of_block (a := ⟨b, o + i * 2 + 1, none⟩) eb]; exact h2
/-- A CACHE LIES AT BLOCK C, over the pool at g: row r has the slots L r and the tokens tk r, q r groups of them quantized; a layer's count is cnt's. What it turns is of colour c, all else that it hangs on of colour 0. -/
def CaAt (w : World) (col : Nat → Nat) (c g C H D G W : Nat) (ls : List (Int × Int)) (M : List Int) (L : Nat → List Int) (cnt : List Int) (tk : Nat → List Tok) (q : Nat → Nat) : Prop :=
  ∃ (al : Option Addr) (cl T pb pc ct cc : Nat) (rg rs : Nat → Nat) (F : Nat → Value),
    (w.rowIs C 104 9 (cac g H D G W (.slice al ls.length cl) T (.slice (some ⟨pb, 0, none⟩) (ls.length * H) pc) (.slice (some ⟨ct, 0, none⟩) ls.length cc)) ∧ col C = 0) ∧
    (PsZ col w al ls ∧ (al = none → cl = 0)) ∧
    (Tab w g T (ls.length * H) L (fun x => col x = c ∧ ¬ x = ct) ∧ col T = 0) ∧
    (w.ownsRow 0 3 1 (.slice (some ⟨ct, 0, none⟩) ls.length cc) ls.length (cnt.map (Value.int .i64)) ∧ cnt.length = ls.length ∧ col ct = c) ∧
    (w.rowIs pb 107 pc F ∧ (∀ r, r < ls.length * H → F r = .pointer (some ⟨rg r, 0, none⟩)) ∧ ls.length * H ≤ pc ∧ col pb = 0) ∧
    (∀ i j, i < ls.length * H → j < ls.length * H → rg i = rg j ∨ rs i = rs j → i = j) ∧
    ∀ r, r < ls.length * H → RowIn w col c M G D (W + G) ls (r / H) (r % H) (rg r) (rs r) (L r) (tk r) (q r)
/-- What keeps a cache: nothing of its colour, and nothing of colour 0, is turned. -/
theorem CaAt.carry {w w' : World} {col col' : Nat → Nat} {c g C H D G W : Nat} {ls : List (Int × Int)} {M M' : List Int} {L : Nat → List Int} {cnt : List Int} {tk : Nat → List Tok} {q : Nat → Nat} (h : CaAt w col c g C H D G W ls M L cnt tk q)
    (hk : ∀ x, x < w.heap.size → col x = 0 ∨ col x = c → col' x = col x ∧ w'.heap[x]? = w.heap[x]?) (hs : w.heap.size ≤ w'.heap.size)
    (hM : ∀ r, r < ls.length * H → ∀ x, x ∈ L r → Ls.nth M' x.toNat = Ls.nth M x.toNat) : CaAt w' col' c g C H D G W ls M' L cnt tk q := by
  obtain ⟨al, cl, T, pb, pc, ct, cc, rg, rs, F, ⟨hC, zC⟩, ⟨hl, hln⟩, ⟨hT, zT⟩, ⟨hc, hcl, zc⟩, ⟨hp, hF, hpc, zp⟩, hd, hr⟩ := h
  have k0 : ∀ x, x < w.heap.size → col x = 0 → col' x = 0 ∧ w'.heap[x]? = w.heap[x]? := fun x hx h0 => ⟨((hk x hx (.inl h0)).1).trans h0, (hk x hx (.inl h0)).2⟩
  have lct : ct < w.heap.size := (hc.lt ct rfl).2
  refine ⟨al, cl, T, pb, pc, ct, cc, rg, rs, F, ⟨hC.of_block (k0 C hC.lt zC).2, (k0 C hC.lt zC).1⟩, ⟨hl.carry k0 hs, hln⟩, ⟨?_, (k0 T hT.lt zT).1⟩, ⟨?_, hcl, by rw [(hk ct lct (.inr zc)).1]; exact zc⟩, ⟨hp.of_block (k0 pb hp.lt zp).2, hF, hpc, (k0 pb hp.lt zp).1⟩, hd, fun r hr1 => ?_⟩
  · exact ((hT.mono (Q' := fun x => (col' x = c ∧ ¬ x = ct) ∧ x < w.heap.size ∧ col x = c) fun x hx hq => ⟨⟨by rw [(hk x hx (.inr hq.1)).1]; exact hq.1, hq.2⟩, hx, hq.1⟩).stand (k0 T hT.lt zT).2 fun x hq ht => (hk x hq.2.1 (.inr hq.2.2)).2).mono fun x _ hq => hq.1
  · exact own_at hc fun x ex => by cases ex; exact (hk ct lct (.inr zc)).2
  · have hrr := hr r hr1
    obtain ⟨_, _, _, f, l, h4, _, _, h7, h8⟩ := hrr
    exact (hr r hr1).carry k0 hs (hk _ h4.lt.1 (.inr h7)) (hk _ h4.lt.2 (.inr h8)) (hM r hr1)
end Cc
end Go.Proofs.YtnchnlgnnlgjcaaGreat
