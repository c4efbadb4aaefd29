/- Pages: plain arithmetic (layer 8). No Go text in it. A group is its zero, its scale and its codes. -/
import Derived.Test.YtpifemahakbegaaGpMath
import Derived.Test.YtpifemahakbegaaPkMath
import Derived.Test.YtpifemahakbegaaSlMath
namespace Go.Proofs.Ytpifemahakbegaa
set_option linter.unusedVariables false
namespace Pg

def gz (g : Int × Int × List Int) : Int := g.1
def gs (g : Int × Int × List Int) : Int := g.2.1
def gc (g : Int × Int × List Int) : List Int := g.2.2
theorem g_ext {g h : Int × Int × List Int} (h1 : gz g = gz h) (h2 : gs g = gs h) (h3 : gc g = gc h) : g = h := by
  obtain ⟨a, b, c⟩ := g
  obtain ⟨d, e, f⟩ := h
  unfold gz gs gc at *
  simp at h1 h2 h3
  rw [h1, h2, h3]

/-- The group at a place of a list; a list made place by place. -/
def nth (l : List (Int × Int × List Int)) (i : Nat) : Int × Int × List Int := l.getD i (0, 0, [])
theorem nth_of_lt {l : List (Int × Int × List Int)} {i : Nat} (h : i < l.length) : nth l i = l[i] := by unfold nth; simp [h]
theorem ext_nth {l m : List (Int × Int × List Int)} (hl : l.length = m.length) (h : ∀ i, i < l.length → nth l i = nth m i) : l = m := by
  apply List.ext_getElem hl
  intro i h1 h2
  have := h i h1
  rw [nth_of_lt h1, nth_of_lt h2] at this
  exact this
def gen (n : Nat) (f : Nat → Int × Int × List Int) : List (Int × Int × List Int) := (List.range n).map f
theorem gen_length (n : Nat) (f : Nat → Int × Int × List Int) : (gen n f).length = n := by simp [gen]
theorem nth_gen {n i : Nat} {f : Nat → Int × Int × List Int} (h : i < n) : nth (gen n f) i = f i := by unfold nth gen; simp [h]
theorem gen_succ (n : Nat) (f : Nat → Int × Int × List Int) : gen (n + 1) f = gen n f ++ [f n] := by simp [gen, List.range_succ]

/-- A list in pieces of d. -/
def piece (d i : Nat) (l : List Int) : List Int := (l.drop (d * i)).take d
theorem piece_length {d i : Nat} {l : List Int} (h : d * (i + 1) ≤ l.length) : (piece d i l).length = d := by
  unfold piece
  rw [Nat.mul_succ] at h
  simp
  omega
theorem nth_piece {d i j : Nat} {l : List Int} (h : j < d) : Ls.nth (piece d i l) j = Ls.nth l (d * i + j) := by
  unfold piece
  rw [Ls.nth_take h, Ls.nth_drop]
theorem piece_byt {d i : Nat} {l : List Int} (h : Sl.Byt l) : Sl.Byt (piece d i l) := by
  apply Sl.byt_mk
  intro j hj
  have : j < d := by unfold piece at hj; simp at hj; omega
  rw [nth_piece this]
  exact h _

/-- Words, each in eight bytes: the first n of them. -/
def wbN (ws : List Int) : Nat → List Int
  | 0 => []
  | n + 1 => wbN ws n ++ Sl.be 8 (Ls.nth ws n).toNat
theorem wbN_length (ws : List Int) (n : Nat) : (wbN ws n).length = 8 * n := by
  induction n with
  | zero => rfl
  | succ n ih => simp only [wbN]; rw [List.length_append, ih, Sl.be_length]; omega
theorem nth_append (a c : List Int) (i : Nat) : Ls.nth (a ++ c) i = if i < a.length then Ls.nth a i else Ls.nth c (i - a.length) := by
  unfold Ls.nth
  by_cases h : i < a.length
  · rw [if_pos h]; simp [List.getElem?_append_left h]
  · rw [if_neg h]; simp [List.getElem?_append_right (show a.length ≤ i by omega)]
theorem nth_wbN {ws : List Int} {n i j : Nat} (hi : i < n) (hj : j < 8) : Ls.nth (wbN ws n) (8 * i + j) = Ls.nth (Sl.be 8 (Ls.nth ws i).toNat) j := by
  induction n with
  | zero => omega
  | succ n ih =>
    simp only [wbN]
    rw [nth_append, wbN_length]
    by_cases e : i = n
    · subst e; rw [if_neg (by omega)]; congr 1; omega
    · rw [if_pos (by omega)]; exact ih (by omega)
theorem wbN_byt (ws : List Int) (n : Nat) : Sl.Byt (wbN ws n) := by
  apply Sl.byt_mk
  intro j hj
  rw [wbN_length] at hj
  have := nth_wbN (ws := ws) (n := n) (i := j / 8) (j := j % 8) (by omega) (by omega)
  rw [show 8 * (j / 8) + j % 8 = j by omega] at this
  rw [this]
  exact Sl.be_byt _ _ _
/-- k words out of bytes. -/
def words (k : Nat) (l : List Int) : List Int := Ls.gen k fun i => (Sl.num (piece 8 i l) : Int)
theorem words_length (k : Nat) (l : List Int) : (words k l).length = k := Ls.gen_length _ _
theorem nth_words {k i : Nat} {l : List Int} (h : i < k) : Ls.nth (words k l) i = (Sl.num (piece 8 i l) : Int) := Ls.nth_gen h
theorem eight : 256 ^ 8 = 18446744073709551616 := by decide
theorem num_lt {l : List Int} (h : Sl.Byt l) (hl : l.length = 8) : Sl.num l < 18446744073709551616 := by
  have := Sl.numN_lt h l.length
  unfold Sl.num
  rw [hl] at this ⊢
  rw [eight] at this
  exact this
theorem words_wds {k : Nat} {l : List Int} (h : Sl.Byt l) (hl : 8 * k ≤ l.length) : Pk.Wds (words k l) := by
  intro i
  by_cases hi : i < k
  · rw [nth_words hi]
    have := num_lt (piece_byt (d := 8) (i := i) h) (piece_length (by omega))
    omega
  · rw [Ls.nth_past (by rw [words_length]; omega)]; omega
theorem words_wbN {ws : List Int} {k : Nat} (rest : List Int) (hw : Pk.Wds ws) (hk : ws.length = k) : words k (wbN ws k ++ rest) = ws := by
  apply Ls.ext_nth (by rw [words_length, hk])
  intro i hi
  rw [words_length] at hi
  rw [nth_words hi]
  have e : piece 8 i (wbN ws k ++ rest) = Sl.be 8 (Ls.nth ws i).toNat := by
    apply Ls.ext_nth
    · rw [Sl.be_length]; apply piece_length; rw [List.length_append, wbN_length]; omega
    · intro j hj
      have hj8 : j < 8 := by unfold piece at hj; simp at hj; omega
      rw [nth_piece hj8, nth_append, wbN_length, if_pos (by omega), nth_wbN hi hj8]
  rw [e, Sl.num_be, eight]
  have := hw i
  omega
theorem wbN_words {l : List Int} {k : Nat} (h : Sl.Byt l) (hl : 8 * k ≤ l.length) : wbN (words k l) k = l.take (8 * k) := by
  apply Ls.ext_nth
  · rw [wbN_length]; simp; omega
  · intro j hj
    rw [wbN_length] at hj
    have := nth_wbN (ws := words k l) (n := k) (i := j / 8) (j := j % 8) (by omega) (by omega)
    rw [show 8 * (j / 8) + j % 8 = j by omega] at this
    rw [this, nth_words (by omega), Int.toNat_natCast, Ls.nth_take hj]
    have hp := piece_length (d := 8) (i := j / 8) (l := l) (by omega)
    have hb := Sl.be_num (piece_byt (d := 8) (i := j / 8) h)
    rw [hp] at hb
    rw [hb, nth_piece (by omega)]
    congr 1
    omega

/-- A group's bytes, its codes of b bits; how many there are. -/
def word4 (x : Int) : List Int := Sl.be 4 (x + 4294967296).toNat
def gb (b : Nat) (g : Int × Int × List Int) : List Int := word4 (gz g) ++ (Sl.be 4 (gs g).toNat ++ wbN (Pk.pack b (gc g)) (Pk.size b (gc g).length))
def gsize (b n : Nat) : Nat := 8 + 8 * Pk.size b n
theorem gb_length (b : Nat) (g : Int × Int × List Int) : (gb b g).length = gsize b (gc g).length := by
  unfold gb word4 gsize
  rw [List.length_append, List.length_append, Sl.be_length, Sl.be_length, wbN_length]
  omega
theorem byt_append {l m : List Int} (hl : Sl.Byt l) (hm : Sl.Byt m) : Sl.Byt (l ++ m) := fun i => by
  rw [nth_append]
  split
  · exact hl _
  · exact hm _
theorem gb_byt (b : Nat) (g : Int × Int × List Int) : Sl.Byt (gb b g) := byt_append (Sl.be_byt _ _) (byt_append (Sl.be_byt _ _) (wbN_byt _ _))
/-- A group out of bytes: n codes of b bits. -/
def gread (b n : Nat) (l : List Int) : Int × Int × List Int := (Sl.sgn (Sl.num (l.take 4)), (Sl.num ((l.drop 4).take 4) : Int), Pk.unpack b n (words (Pk.size b n) (l.drop 8)))
/-- An error's number of a group that is read: bits that no code has; else layer 7's. -/
def gerr (b n : Nat) (l : List Int) : Int := if Pk.stray b n (words (Pk.size b n) (l.drop 8)) = true then 10 else Gp.right ((2 ^ b - 1 : Nat) : Int) (gs (gread b n l)) (gc (gread b n l))
/-- A group that may be: as many codes, each of b bits; zero and scale in their ranges. -/
def Fits (b n : Nat) (g : Int × Int × List Int) : Prop := (gc g).length = n ∧ Pk.Cds b (gc g) ∧ -2147483648 ≤ gz g ∧ gz g ≤ 2147483647 ∧ 0 ≤ gs g ∧ gs g ≤ 4294967295
theorem take_append {l m : List Int} {n : Nat} (h : l.length = n) : (l ++ m).take n = l := by subst h; simp
theorem drop_append {l m : List Int} {n : Nat} (h : l.length = n) : (l ++ m).drop n = m := by subst h; simp
theorem gread_gb {b n : Nat} {g : Int × Int × List Int} (rest : List Int) (hb : Pk.Ok b) (h : Fits b n g) : gread b n (gb b g ++ rest) = g := by
  obtain ⟨hn, hc, z0, z1, s0, s1⟩ := h
  subst hn
  have e4 : (word4 (gz g)).length = 4 := Sl.be_length _ _
  have f4 : (Sl.be 4 (gs g).toNat).length = 4 := Sl.be_length _ _
  have d1 : gb b g ++ rest = word4 (gz g) ++ (Sl.be 4 (gs g).toNat ++ (wbN (Pk.pack b (gc g)) (Pk.size b (gc g).length) ++ rest)) := by
    unfold gb
    rw [List.append_assoc, List.append_assoc]
  have t1 : (gb b g ++ rest).take 4 = word4 (gz g) := by rw [d1, take_append e4]
  have t2 : ((gb b g ++ rest).drop 4).take 4 = Sl.be 4 (gs g).toNat := by rw [d1, drop_append e4, take_append f4]
  have t3 : (gb b g ++ rest).drop 8 = wbN (Pk.pack b (gc g)) (Pk.size b (gc g).length) ++ rest := by
    rw [d1, show (8 : Nat) = 4 + 4 from rfl, ← List.drop_drop, drop_append e4, drop_append f4]
  apply g_ext
  · show Sl.sgn (Sl.num ((gb b g ++ rest).take 4)) = gz g
    rw [t1]
    exact Sl.sgn_word z0 z1 (by omega)
  · show (Sl.num (((gb b g ++ rest).drop 4).take 4) : Int) = gs g
    rw [t2, Sl.num_be, Sl.four]
    omega
  · show Pk.unpack b (gc g).length (words (Pk.size b (gc g).length) ((gb b g ++ rest).drop 8)) = gc g
    rw [t3, words_wbN rest (Pk.pack_wds hb hc) (Pk.pack_length _ _), Pk.unpack_pack hb hc]
theorem stray_gb {b n : Nat} {g : Int × Int × List Int} (rest : List Int) (hb : Pk.Ok b) (h : Fits b n g) : Pk.stray b n (words (Pk.size b n) ((gb b g ++ rest).drop 8)) = false := by
  obtain ⟨hn, hc, z0, z1, s0, s1⟩ := h
  subst hn
  have e4 : (word4 (gz g)).length = 4 := Sl.be_length _ _
  have f4 : (Sl.be 4 (gs g).toNat).length = 4 := Sl.be_length _ _
  have d1 : gb b g ++ rest = word4 (gz g) ++ (Sl.be 4 (gs g).toNat ++ (wbN (Pk.pack b (gc g)) (Pk.size b (gc g).length) ++ rest)) := by
    unfold gb
    rw [List.append_assoc, List.append_assoc]
  rw [d1, show (8 : Nat) = 4 + 4 from rfl, ← List.drop_drop, drop_append e4, drop_append f4, words_wbN rest (Pk.pack_wds hb hc) (Pk.pack_length _ _)]
  exact Pk.stray_pack hb hc
/-- What is read fits; its bytes are those that were read. -/
theorem sgn_in (n : Nat) (h : n < 4294967296) : -2147483648 ≤ Sl.sgn n ∧ Sl.sgn n ≤ 2147483647 := by unfold Sl.sgn; split <;> omega
theorem num4_lt {l : List Int} (h : Sl.Byt l) (hl : l.length ≤ 4) : Sl.num l < 4294967296 := Nat.lt_of_lt_of_le (Sl.numN_lt h l.length) (Nat.le_trans (Nat.pow_le_pow_right (by decide) hl) (by decide))
theorem byt_take {l : List Int} (h : Sl.Byt l) (k : Nat) : Sl.Byt (l.take k) := by
  apply Sl.byt_mk
  intro i hi
  simp at hi
  rw [Ls.nth_take (by omega)]
  exact h i
theorem byt_drop {l : List Int} (h : Sl.Byt l) (k : Nat) : Sl.Byt (l.drop k) := fun i => by rw [Ls.nth_drop]; exact h _
theorem gread_fits {b n : Nat} {l : List Int} (hl : Sl.Byt l) : Fits b n (gread b n l) := by
  refine ⟨Pk.unpack_length _ _ _, Pk.unpack_cds _ _ _, ?_, ?_, ?_, ?_⟩
  · exact (sgn_in _ (num4_lt (byt_take hl 4) (by simp; omega))).1
  · exact (sgn_in _ (num4_lt (byt_take hl 4) (by simp; omega))).2
  · exact Int.natCast_nonneg _
  · have := num4_lt (byt_take (byt_drop hl 4) 4) (by simp; omega)
    show ((Sl.num ((l.drop 4).take 4) : Nat) : Int) ≤ _
    omega
theorem be_mod (n v : Nat) : Sl.be n (v % 256 ^ n) = Sl.be n v := by
  apply Ls.ext_nth (by rw [Sl.be_length, Sl.be_length])
  intro i hi
  rw [Sl.be_length] at hi
  rw [Sl.nth_be hi, Sl.nth_be hi]
  congr 1
  have e : 256 ^ n = 256 ^ (n - 1 - i) * 256 ^ (i + 1) := by rw [← Nat.pow_add]; congr 1; omega
  have p : 0 < 256 ^ (n - 1 - i) := Nat.pow_pos (by decide)
  rw [e, Nat.mod_mul_right_div_self, Nat.pow_succ, Nat.mul_comm (256 ^ i) 256, Nat.mod_mul_right_mod]
theorem word4_sgn {l : List Int} (h : Sl.Byt l) (hl : l.length = 4) : word4 (Sl.sgn (Sl.num l)) = l := by
  have hn := num4_lt h (by omega)
  have e := Sl.be_num h
  rw [hl] at e
  unfold word4
  rw [← be_mod, show (Sl.sgn (Sl.num l) + 4294967296).toNat % 256 ^ 4 = Sl.num l by rw [Sl.four]; unfold Sl.sgn; split <;> omega, e]
theorem gb_gread {b n : Nat} {l : List Int} (hb : Pk.Ok b) (hl : Sl.Byt l) (hn : gsize b n ≤ l.length) (hs : Pk.stray b n (words (Pk.size b n) (l.drop 8)) = false) : gb b (gread b n l) = l.take (gsize b n) := by
  unfold gsize at *
  have hw := words_wds (k := Pk.size b n) (byt_drop hl 8) (by simp; omega)
  have e1 : Pk.pack b (gc (gread b n l)) = words (Pk.size b n) (l.drop 8) := Pk.pack_unpack hb hw (words_length _ _) hs
  have e2 : (gc (gread b n l)).length = n := Pk.unpack_length _ _ _
  have e3 : word4 (gz (gread b n l)) = l.take 4 := word4_sgn (byt_take hl 4) (by simp; omega)
  have e4 : Sl.be 4 (gs (gread b n l)).toNat = (l.drop 4).take 4 := by
    have := Sl.be_num (byt_take (byt_drop hl 4) 4)
    rw [show ((l.drop 4).take 4).length = 4 by simp; omega] at this
    show Sl.be 4 ((Sl.num ((l.drop 4).take 4) : Int)).toNat = _
    rw [Int.toNat_natCast, this]
  have e5 : wbN (words (Pk.size b n) (l.drop 8)) (Pk.size b n) = (l.drop 8).take (8 * Pk.size b n) := wbN_words (byt_drop hl 8) (by simp; omega)
  unfold gb
  rw [e1, e2, e3, e4, e5]
  rw [List.take_add (i := 8), show (8 : Nat) = 4 + 4 from rfl, List.take_add (i := 4), List.append_assoc]
end Pg
end Go.Proofs.Ytpifemahakbegaa
