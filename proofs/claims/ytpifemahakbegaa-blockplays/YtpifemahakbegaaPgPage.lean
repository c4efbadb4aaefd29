/- Pages: plain arithmetic (layer 8): rows of groups, heads, a page's bytes and back. No Go text in it. -/
import Derived.Test.YtpifemahakbegaaPgMath
namespace Go.Proofs.Ytpifemahakbegaa
set_option linter.unusedVariables false
namespace Pg

/-- The bytes of the first k groups of a row; of all. -/
def gbN (b : Nat) (l : List (Int × Int × List Int)) : Nat → List Int
  | 0 => []
  | k + 1 => gbN b l k ++ gb b (nth l k)
def gbs (b : Nat) (l : List (Int × Int × List Int)) : List Int := gbN b l l.length
/-- All groups of a row have n codes; all fit. -/
def Even (n : Nat) (l : List (Int × Int × List Int)) : Prop := ∀ i, i < l.length → (gc (nth l i)).length = n
def AllFit (b n : Nat) (l : List (Int × Int × List Int)) : Prop := ∀ i, i < l.length → Fits b n (nth l i)
theorem AllFit.even {b n : Nat} {l : List (Int × Int × List Int)} (h : AllFit b n l) : Even n l := fun i hi => (h i hi).1
theorem gbN_length {b n : Nat} {l : List (Int × Int × List Int)} (h : Even n l) (k : Nat) (hk : k ≤ l.length) : (gbN b l k).length = gsize b n * k := by
  induction k with
  | zero => rfl
  | succ k ih =>
    simp only [gbN]
    rw [List.length_append, ih (by omega), gb_length, h k (by omega), Nat.mul_succ]
theorem gbs_length {b n : Nat} {l : List (Int × Int × List Int)} (h : Even n l) : (gbs b l).length = gsize b n * l.length := gbN_length h _ (Nat.le_refl _)
theorem gbN_byt (b : Nat) (l : List (Int × Int × List Int)) (k : Nat) : Sl.Byt (gbN b l k) := by
  induction k with
  | zero => intro i; rw [show gbN b l 0 = [] from rfl, Ls.nth_nil]; omega
  | succ k ih => simp only [gbN]; exact byt_append ih (gb_byt _ _)
theorem gbs_byt (b : Nat) (l : List (Int × Int × List Int)) : Sl.Byt (gbs b l) := gbN_byt _ _ _
/-- What lies behind the first i groups begins with group i's bytes. -/
theorem gbN_at {b n : Nat} {l : List (Int × Int × List Int)} (h : Even n l) (k i : Nat) (hk : k ≤ l.length) (hi : i < k) (rest : List Int) : ∃ rest', (gbN b l k ++ rest).drop (gsize b n * i) = gb b (nth l i) ++ rest' := by
  induction k generalizing rest with
  | zero => omega
  | succ k ih =>
    simp only [gbN]
    rw [List.append_assoc]
    by_cases e : i = k
    · subst e
      exact ⟨rest, by rw [drop_append (gbN_length h i (by omega))]⟩
    · exact ih (by omega) (by omega) _

/-- k groups of n codes of b bits, out of bytes; the first error. -/
def greads (b n k : Nat) (l : List Int) : List (Int × Int × List Int) := gen k fun i => gread b n (l.drop (gsize b n * i))
def gerrN (b n : Nat) (l : List Int) : Nat → Int
  | 0 => 0
  | k + 1 => if gerrN b n l k = 0 then gerr b n (l.drop (gsize b n * k)) else gerrN b n l k
theorem gerrN_ok {b n : Nat} {l : List Int} {k : Nat} (h : gerrN b n l k = 0) : gerrN b n l (k + 1) = gerr b n (l.drop (gsize b n * k)) := by simp only [gerrN]; rw [if_pos h]
theorem gerrN_bad {b n : Nat} {l : List Int} {k : Nat} (h : ¬ gerrN b n l k = 0) : gerrN b n l (k + 1) = gerrN b n l k := by simp only [gerrN]; rw [if_neg h]
theorem gerrN_stop {b n : Nat} {l : List Int} {k : Nat} (h : ¬ gerrN b n l k = 0) (d : Nat) : gerrN b n l (k + d) = gerrN b n l k := by
  induction d with
  | zero => rfl
  | succ d ih => rw [← Nat.add_assoc, gerrN_bad (by rw [ih]; exact h), ih]
theorem gerrN_all {b n : Nat} {l : List Int} {k : Nat} (h : gerrN b n l k = 0) (i : Nat) (hi : i < k) : gerr b n (l.drop (gsize b n * i)) = 0 := by
  induction k with
  | zero => omega
  | succ k ih =>
    by_cases c : gerrN b n l k = 0
    · by_cases e : i = k
      · subst e; rw [gerrN_ok c] at h; exact h
      · exact ih c (by omega)
    · rw [gerrN_bad c] at h; exact absurd h c
theorem gerrN_zero {b n : Nat} {l : List Int} {k : Nat} (h : ∀ i, i < k → gerr b n (l.drop (gsize b n * i)) = 0) : gerrN b n l k = 0 := by
  induction k with
  | zero => rfl
  | succ k ih => rw [gerrN_ok (ih fun i hi => h i (by omega))]; exact h k (by omega)
theorem gerr_stray {b n : Nat} {l : List Int} (h : gerr b n l = 0) : Pk.stray b n (words (Pk.size b n) (l.drop 8)) = false := by
  unfold gerr at h
  cases hs : Pk.stray b n (words (Pk.size b n) (l.drop 8))
  · rfl
  · rw [if_pos hs] at h; cases h
theorem gerr_right {b n : Nat} {l : List Int} (h : gerr b n l = 0) : Gp.right ((2 ^ b - 1 : Nat) : Int) (gs (gread b n l)) (gc (gread b n l)) = 0 := by
  have := gerr_stray h
  unfold gerr at h
  rw [this, if_neg Bool.false_ne_true] at h
  exact h
theorem gerr_gb {b n : Nat} {g : Int × Int × List Int} (rest : List Int) (hb : Pk.Ok b) (h : Fits b n g) : gerr b n (gb b g ++ rest) = Gp.right ((2 ^ b - 1 : Nat) : Int) (gs g) (gc g) := by
  unfold gerr
  rw [stray_gb rest hb h, if_neg Bool.false_ne_true, gread_gb rest hb h]
theorem greads_length (b n k : Nat) (l : List Int) : (greads b n k l).length = k := gen_length _ _
theorem nth_greads {b n k i : Nat} {l : List Int} (h : i < k) : nth (greads b n k l) i = gread b n (l.drop (gsize b n * i)) := nth_gen h
theorem greads_fit {b n k : Nat} {l : List Int} (h : Sl.Byt l) : AllFit b n (greads b n k l) := fun i hi => by
  rw [greads_length] at hi
  rw [nth_greads hi]
  exact gread_fits (byt_drop h _)
/-- A row is read from its bytes again. -/
theorem greads_gbs {b n : Nat} {l : List (Int × Int × List Int)} (rest : List Int) (hb : Pk.Ok b) (h : AllFit b n l) : greads b n l.length (gbs b l ++ rest) = l := by
  apply ext_nth (greads_length _ _ _ _)
  intro i hi
  rw [greads_length] at hi
  rw [nth_greads hi]
  obtain ⟨rest', e⟩ := gbN_at (b := b) h.even l.length i (Nat.le_refl _) hi rest
  unfold gbs
  rw [e, gread_gb rest' hb (h i hi)]
theorem gerrN_gbs {b n : Nat} {l : List (Int × Int × List Int)} (rest : List Int) (hb : Pk.Ok b) (h : AllFit b n l) (hr : ∀ i, i < l.length → Gp.right ((2 ^ b - 1 : Nat) : Int) (gs (nth l i)) (gc (nth l i)) = 0) : gerrN b n (gbs b l ++ rest) l.length = 0 := by
  apply gerrN_zero
  intro i hi
  obtain ⟨rest', e⟩ := gbN_at (b := b) h.even l.length i (Nat.le_refl _) hi rest
  unfold gbs
  rw [e, gerr_gb rest' hb (h i hi), hr i hi]
/-- What is read has just the bytes that were read. -/
theorem gbs_greads {b n k : Nat} {l : List Int} (hb : Pk.Ok b) (h : Sl.Byt l) (hk : gsize b n * k ≤ l.length) (he : gerrN b n l k = 0) : gbs b (greads b n k l) = l.take (gsize b n * k) := by
  have key : ∀ j, j ≤ k → gbN b (greads b n k l) j = l.take (gsize b n * j) := by
    intro j
    induction j with
    | zero => intro _; simp [gbN]
    | succ j ih =>
      intro hj
      simp only [gbN]
      have hm : gsize b n * (j + 1) ≤ gsize b n * k := Nat.mul_le_mul_left _ hj
      rw [Nat.mul_succ] at hm
      rw [ih (by omega), nth_greads (by omega), gb_gread hb (byt_drop h _) (by simp; omega) (gerr_stray (gerrN_all he j (by omega))), Nat.mul_succ, List.take_add]
  unfold gbs
  rw [greads_length]
  exact key k (Nat.le_refl _)

/-- A head: seven numbers. Is it right? -/
def rightH (h : List Int) : Bool := Gp.okB (Ls.nth h 0) && Gp.okB (Ls.nth h 1) && decide (1 ≤ Ls.nth h 2) && decide (Ls.nth h 2 ≤ 16) && decide (1 ≤ Ls.nth h 3) && decide (Ls.nth h 3 ≤ 16) && decide (0 ≤ Ls.nth h 4) && decide (Ls.nth h 4 ≤ 3) && decide (0 ≤ Ls.nth h 5) && decide (Ls.nth h 5 ≤ 3) && decide (0 ≤ Ls.nth h 6) && decide (Ls.nth h 6 ≤ 1023)
theorem okB_or {b : Int} (h : Gp.okB b = true) : b = 2 ∨ b = 4 ∨ b = 8 := by unfold Gp.okB at h; simp at h; omega
theorem rightH_all {h : List Int} (hr : rightH h = true) : (Ls.nth h 0 = 2 ∨ Ls.nth h 0 = 4 ∨ Ls.nth h 0 = 8) ∧ (Ls.nth h 1 = 2 ∨ Ls.nth h 1 = 4 ∨ Ls.nth h 1 = 8) ∧ 1 ≤ Ls.nth h 2 ∧ Ls.nth h 2 ≤ 16 ∧ 1 ≤ Ls.nth h 3 ∧ Ls.nth h 3 ≤ 16 ∧ 0 ≤ Ls.nth h 4 ∧ Ls.nth h 4 ≤ 3 ∧ 0 ≤ Ls.nth h 5 ∧ Ls.nth h 5 ≤ 3 ∧ 0 ≤ Ls.nth h 6 ∧ Ls.nth h 6 ≤ 1023 := by
  unfold rightH at hr
  simp only [Bool.and_eq_true, decide_eq_true_eq] at hr
  obtain ⟨⟨⟨⟨⟨⟨⟨⟨⟨⟨⟨a, b⟩, c⟩, d⟩, e⟩, f⟩, g⟩, i⟩, j⟩, k⟩, l⟩, m⟩ := hr
  exact ⟨okB_or a, okB_or b, c, d, e, f, g, i, j, k, l, m⟩
theorem ok_of {b : Int} (h : b = 2 ∨ b = 4 ∨ b = 8) : Pk.Ok b.toNat := by rcases h with rfl | rfl | rfl <;> simp [Pk.Ok]

/-- A head's nine bytes, and back. -/
def hbytes (h : List Int) : List Int := [75, Ls.nth h 0, Ls.nth h 1, Ls.nth h 2, Ls.nth h 3, Ls.nth h 4, Ls.nth h 5] ++ Sl.be 2 (Ls.nth h 6).toNat
def hread (l : List Int) : List Int := [Ls.nth l 1, Ls.nth l 2, Ls.nth l 3, Ls.nth l 4, Ls.nth l 5, Ls.nth l 6, (Sl.num ((l.drop 7).take 2) : Int)]
theorem hbytes_length (h : List Int) : (hbytes h).length = 9 := by unfold hbytes; rw [List.length_append, Sl.be_length]; rfl
theorem hread_length (l : List Int) : (hread l).length = 7 := rfl
theorem hread_hbytes {h : List Int} (rest : List Int) (hl : h.length = 7) (hr : rightH h = true) : hread (hbytes h ++ rest) = h := by
  obtain ⟨_, _, _, _, _, _, _, _, _, _, a, b⟩ := rightH_all hr
  have e : ((hbytes h ++ rest).drop 7).take 2 = Sl.be 2 (Ls.nth h 6).toNat := by
    unfold hbytes
    rw [List.append_assoc, drop_append (by rfl), take_append (Sl.be_length _ _)]
  apply Ls.ext_nth (by rw [hread_length, hl])
  intro i hi
  match i, hi with
  | 0, _ => rfl
  | 1, _ => rfl
  | 2, _ => rfl
  | 3, _ => rfl
  | 4, _ => rfl
  | 5, _ => rfl
  | 6, _ =>
    show (Sl.num (((hbytes h ++ rest).drop 7).take 2) : Int) = Ls.nth h 6
    rw [e, Sl.num_be]
    omega
theorem hbytes_hread {l : List Int} (hb : Sl.Byt l) (hl : 9 ≤ l.length) (h0 : Ls.nth l 0 = 75) : hbytes (hread l) = l.take 9 := by
  have e : Sl.be 2 (Ls.nth (hread l) 6).toNat = (l.drop 7).take 2 := by
    show Sl.be 2 ((Sl.num ((l.drop 7).take 2) : Int)).toNat = _
    have := Sl.be_num (byt_take (byt_drop hb 7) 2)
    rw [show ((l.drop 7).take 2).length = 2 by simp; omega] at this
    rw [Int.toNat_natCast, this]
  unfold hbytes
  rw [e, show (9 : Nat) = 7 + 2 from rfl, List.take_add]
  congr 1
  apply Ls.ext_nth (by simp; omega)
  intro i hi
  match i, hi with
  | 0, _ => rw [Ls.nth_take (by omega), h0]; rfl
  | 1, _ => rw [Ls.nth_take (by omega)]; rfl
  | 2, _ => rw [Ls.nth_take (by omega)]; rfl
  | 3, _ => rw [Ls.nth_take (by omega)]; rfl
  | 4, _ => rw [Ls.nth_take (by omega)]; rfl
  | 5, _ => rw [Ls.nth_take (by omega)]; rfl
  | 6, _ => rw [Ls.nth_take (by omega)]; rfl
theorem hbytes_byt {h : List Int} (hr : rightH h = true) : Sl.Byt (hbytes h) := by
  obtain ⟨a, b, c, d, e, f, g, i, j, k, l, m⟩ := rightH_all hr
  apply byt_append _ (Sl.be_byt _ _)
  apply Sl.byt_mk
  intro n hn
  match n, hn with
  | 0, _ => show 0 ≤ (75 : Int) ∧ (75 : Int) < 256; omega
  | 1, _ => show 0 ≤ Ls.nth h 0 ∧ Ls.nth h 0 < 256; omega
  | 2, _ => show 0 ≤ Ls.nth h 1 ∧ Ls.nth h 1 < 256; omega
  | 3, _ => show 0 ≤ Ls.nth h 2 ∧ Ls.nth h 2 < 256; omega
  | 4, _ => show 0 ≤ Ls.nth h 3 ∧ Ls.nth h 3 < 256; omega
  | 5, _ => show 0 ≤ Ls.nth h 4 ∧ Ls.nth h 4 < 256; omega
  | 6, _ => show 0 ≤ Ls.nth h 5 ∧ Ls.nth h 5 < 256; omega

/-- A head's numbers by name (of a right one). -/
def kb (h : List Int) : Nat := (Ls.nth h 0).toNat
def vb (h : List Int) : Nat := (Ls.nth h 1).toNat
def tk (h : List Int) : Nat := (Ls.nth h 2).toNat
def dm (h : List Int) : Nat := (Ls.nth h 3).toNat
/-- How many bytes a page with this head has; its bytes. -/
def psize (h : List Int) : Nat := 9 + gsize (kb h) (tk h) * dm h + gsize (vb h) (dm h) * tk h + 4
def body (h : List Int) (ks vs : List (Int × Int × List Int)) : List Int := hbytes h ++ (gbs (kb h) ks ++ gbs (vb h) vs)
def bytes (h : List Int) (ks vs : List (Int × Int × List Int)) : List Int := Sl.close (body h ks vs)
/-- A page that may be. -/
def Page (h : List Int) (ks vs : List (Int × Int × List Int)) : Prop := h.length = 7 ∧ rightH h = true ∧ ks.length = dm h ∧ vs.length = tk h ∧ AllFit (kb h) (tk h) ks ∧ AllFit (vb h) (dm h) vs ∧
  (∀ i, i < ks.length → Gp.right ((2 ^ kb h - 1 : Nat) : Int) (gs (nth ks i)) (gc (nth ks i)) = 0) ∧ (∀ i, i < vs.length → Gp.right ((2 ^ vb h - 1 : Nat) : Int) (gs (nth vs i)) (gc (nth vs i)) = 0)
theorem body_length {h : List Int} {ks vs : List (Int × Int × List Int)} (hp : Page h ks vs) : (body h ks vs).length + 4 = psize h := by
  obtain ⟨_, _, hk, hv, fk, fv, _, _⟩ := hp
  unfold body psize
  rw [List.length_append, List.length_append, hbytes_length, gbs_length fk.even, gbs_length fv.even, hk, hv]
  omega
theorem body_byt {h : List Int} {ks vs : List (Int × Int × List Int)} (hp : Page h ks vs) : Sl.Byt (body h ks vs) := byt_append (hbytes_byt hp.2.1) (byt_append (gbs_byt _ _) (gbs_byt _ _))
theorem bytes_length {h : List Int} {ks vs : List (Int × Int × List Int)} (hp : Page h ks vs) : (bytes h ks vs).length = psize h := by
  unfold bytes
  rw [Sl.close_length, body_length hp]
theorem size_small {b n : Nat} (hb : b = 2 ∨ b = 4 ∨ b = 8) (hn : n ≤ 16) : Pk.size b n ≤ 2 := by
  unfold Pk.size
  rcases hb with rfl | rfl | rfl <;> omega
theorem gsize_small {b n : Nat} (hb : b = 2 ∨ b = 4 ∨ b = 8) (hn : n ≤ 16) : gsize b n ≤ 24 := by
  have := size_small hb hn
  unfold gsize
  omega
theorem psize_le {h : List Int} (hr : rightH h = true) : psize h ≤ 781 := by
  obtain ⟨a, b, c, d, e, f, _⟩ := rightH_all hr
  have h1 := gsize_small (b := kb h) (n := tk h) (by unfold kb; omega) (by unfold tk; omega)
  have h2 := gsize_small (b := vb h) (n := dm h) (by unfold vb; omega) (by unfold dm; omega)
  have m1 : gsize (kb h) (tk h) * dm h ≤ 24 * 16 := Nat.mul_le_mul h1 (by unfold dm; omega)
  have m2 : gsize (vb h) (dm h) * tk h ≤ 24 * 16 := Nat.mul_le_mul h2 (by unfold tk; omega)
  unfold psize
  omega

/-- What is read behind the head's nine bytes: keys, and then values. -/
def pkeys (l : List Int) : List (Int × Int × List Int) := greads (kb (hread l)) (tk (hread l)) (dm (hread l)) (l.drop 9)
def pvals (l : List Int) : List (Int × Int × List Int) := greads (vb (hread l)) (dm (hread l)) (tk (hread l)) (l.drop (9 + gsize (kb (hread l)) (tk (hread l)) * dm (hread l)))
/-- An error's number, of opened bytes of which there are n with their sum. -/
def perr (l : List Int) (n : Nat) : Int :=
  if l.length < 9 then 16 else if ¬ Ls.nth l 0 = 75 then 10 else if rightH (hread l) = false then 11 else if n < psize (hread l) then 16 else if psize (hread l) < n then 17 else
  if ¬ gerrN (kb (hread l)) (tk (hread l)) (l.drop 9) (dm (hread l)) = 0 then gerrN (kb (hread l)) (tk (hread l)) (l.drop 9) (dm (hread l)) else
  gerrN (vb (hread l)) (dm (hread l)) (l.drop (9 + gsize (kb (hread l)) (tk (hread l)) * dm (hread l))) (tk (hread l))
theorem perr_zero {l : List Int} {n : Nat} (h : perr l n = 0) : 9 ≤ l.length ∧ Ls.nth l 0 = 75 ∧ rightH (hread l) = true ∧ n = psize (hread l) ∧ gerrN (kb (hread l)) (tk (hread l)) (l.drop 9) (dm (hread l)) = 0 ∧
    gerrN (vb (hread l)) (dm (hread l)) (l.drop (9 + gsize (kb (hread l)) (tk (hread l)) * dm (hread l))) (tk (hread l)) = 0 := by
  unfold perr at h
  split at h
  · cases h
  · rename_i h1
    split at h
    · cases h
    · rename_i h2
      split at h
      · cases h
      · rename_i h3
        split at h
        · cases h
        · rename_i h4
          split at h
          · cases h
          · rename_i h5
            split at h
            · rename_i h6; exact absurd h h6
            · rename_i h6
              refine ⟨by omega, by simpa using h2, by simpa using h3, by omega, by simpa using h6, h⟩
/-- What is read is a page, and has just the bytes that were read. -/
theorem parse_page {l : List Int} {n : Nat} (hb : Sl.Byt l) (h : perr l n = 0) : Page (hread l) (pkeys l) (pvals l) := by
  obtain ⟨h1, h2, h3, h4, h5, h6⟩ := perr_zero h
  refine ⟨hread_length _, h3, greads_length _ _ _ _, greads_length _ _ _ _, greads_fit (byt_drop hb _), greads_fit (byt_drop hb _), ?_, ?_⟩
  · intro i hi
    rw [show (pkeys l).length = dm (hread l) from greads_length _ _ _ _] at hi
    unfold pkeys
    rw [nth_greads hi]
    exact gerr_right (gerrN_all h5 i hi)
  · intro i hi
    rw [show (pvals l).length = tk (hread l) from greads_length _ _ _ _] at hi
    unfold pvals
    rw [nth_greads hi]
    exact gerr_right (gerrN_all h6 i hi)
theorem parse_body {l : List Int} (hb : Sl.Byt l) (h : perr l (l.length + 4) = 0) : body (hread l) (pkeys l) (pvals l) = l := by
  obtain ⟨h1, h2, h3, h4, h5, h6⟩ := perr_zero h
  obtain ⟨a, b, _⟩ := rightH_all h3
  have hn : l.length = 9 + gsize (kb (hread l)) (tk (hread l)) * dm (hread l) + gsize (vb (hread l)) (dm (hread l)) * tk (hread l) := by unfold psize at h4; omega
  unfold body
  rw [hbytes_hread hb h1 h2]
  unfold pkeys pvals
  rw [gbs_greads (show Pk.Ok (kb (hread l)) from ok_of a) (byt_drop hb _) (by simp; omega) h5, gbs_greads (show Pk.Ok (vb (hread l)) from ok_of b) (byt_drop hb _) (by simp; omega) h6]
  rw [← List.drop_drop, show ((l.drop 9).drop (gsize (kb (hread l)) (tk (hread l)) * dm (hread l))).take (gsize (vb (hread l)) (dm (hread l)) * tk (hread l)) = (l.drop 9).drop (gsize (kb (hread l)) (tk (hread l)) * dm (hread l)) from List.take_of_length_le (by simp; omega)]
  rw [List.take_append_drop, List.take_append_drop]
/-- A page is read from its bytes again. -/
theorem page_parse {h : List Int} {ks vs : List (Int × Int × List Int)} (hp : Page h ks vs) : perr (body h ks vs) (psize h) = 0 ∧ hread (body h ks vs) = h ∧ pkeys (body h ks vs) = ks ∧ pvals (body h ks vs) = vs := by
  obtain ⟨h7, hr, hk, hv, fk, fv, rk, rv⟩ := hp
  obtain ⟨a, b, _⟩ := rightH_all hr
  have e1 : hread (body h ks vs) = h := hread_hbytes _ h7 hr
  have d1 : (body h ks vs).drop 9 = gbs (kb h) ks ++ gbs (vb h) vs := drop_append (hbytes_length _)
  have d2 : (body h ks vs).drop (9 + gsize (kb h) (tk h) * dm h) = gbs (vb h) vs := by
    rw [← List.drop_drop, d1, drop_append (by rw [gbs_length fk.even, hk])]
  have g1 : gerrN (kb h) (tk h) (gbs (kb h) ks ++ gbs (vb h) vs) (dm h) = 0 := by rw [← hk]; exact gerrN_gbs _ (ok_of a) fk rk
  have g2 : gerrN (vb h) (dm h) (gbs (vb h) vs) (tk h) = 0 := by
    have := gerrN_gbs (l := vs) [] (ok_of b) fv rv
    rw [List.append_nil, hv] at this
    exact this
  refine ⟨?_, e1, ?_, ?_⟩
  · unfold perr
    rw [e1, d1, d2, g1, g2]
    rw [if_neg (by unfold body; rw [List.length_append, hbytes_length]; omega), if_neg (by show ¬ ¬ (75 : Int) = 75; simp), if_neg (by rw [hr]; simp), if_neg (by omega), if_neg (by omega), if_neg (by simp)]
  · unfold pkeys
    rw [e1, d1, ← hk]
    exact greads_gbs _ (ok_of a) fk
  · unfold pvals
    rw [e1, d2, ← hv]
    have := greads_gbs (l := vs) [] (ok_of b) fv
    rw [List.append_nil] at this
    exact this
end Pg
end Go.Proofs.Ytpifemahakbegaa
