/- Keys and values, quantized: plain arithmetic (layer 8). No Go text in it. -/
import Derived.Test.YtpifemahakbegaaPgPage
import Derived.Test.YtpifemahakbegaaSfMath
namespace Go.Proofs.Ytpifemahakbegaa
set_option linter.unusedVariables false
namespace Pg

/-- Numbers as a group, the greatest code being s; what the keys of all tokens have at place i. -/
def grp (s : Int) (l : List Int) : Int × Int × List Int := (Gp.low l, Gp.scale s l, Gp.codes (Gp.low l) (Gp.scale s l) l)
def col (ls : List (List Int)) (i : Nat) : List Int := Ls.gen ls.length fun k => Ls.nth (Tb.row ls k) i
theorem col_length (ls : List (List Int)) (i : Nat) : (col ls i).length = ls.length := Ls.gen_length _ _
theorem nth_col {ls : List (List Int)} {i k : Nat} (h : k < ls.length) : Ls.nth (col ls i) k = Ls.nth (Tb.row ls k) i := Ls.nth_gen h
theorem col_in {ls : List (List Int)} (h : ∀ k, Ls.In32 (Tb.row ls k)) (i : Nat) : Ls.In32 (col ls i) := Ls.in32_mk fun k hk => by
  rw [col_length] at hk
  rw [nth_col hk]
  exact h k i
/-- The key groups, one a place; the value groups, one a token. -/
def qk (s : Int) (d : Nat) (ls : List (List Int)) : List (Int × Int × List Int) := gen d fun i => grp s (col ls i)
def qv (s : Int) (ls : List (List Int)) : List (Int × Int × List Int) := gen ls.length fun k => grp s (Tb.row ls k)
theorem qk_length (s : Int) (d : Nat) (ls : List (List Int)) : (qk s d ls).length = d := gen_length _ _
theorem qv_length (s : Int) (ls : List (List Int)) : (qv s ls).length = ls.length := gen_length _ _
theorem nth_qk {s : Int} {d i : Nat} {ls : List (List Int)} (h : i < d) : nth (qk s d ls) i = grp s (col ls i) := nth_gen h
theorem nth_qv {s : Int} {k : Nat} {ls : List (List Int)} (h : k < ls.length) : nth (qv s ls) k = grp s (Tb.row ls k) := nth_gen h
theorem grp_right {s : Int} {l : List Int} (h : Ls.In32 l) (hs : 3 ≤ s) : Gp.right s (gs (grp s l)) (gc (grp s l)) = 0 := Gp.grouped_right h hs
theorem pow_st {b s : Nat} (h : Gp.St b s) : 2 ^ b = s + 1 := by rcases h with ⟨rfl, rfl⟩ | ⟨rfl, rfl⟩ | ⟨rfl, rfl⟩ <;> rfl
theorem grp_fits {b s n : Nat} {l : List Int} (hst : Gp.St b s) (h : Ls.In32 l) (hn : l.length = n) : Fits b n (grp s l) := by
  have bs := hst.bd
  have sb := Gp.scale_bd (s := (s : Int)) h (by omega)
  have zb := Gp.lowN_in h l.length
  refine ⟨by show (Gp.codes _ _ l).length = n; rw [Gp.codes_length, hn], ?_, zb.1, zb.2, sb.1, ?_⟩
  · intro i
    show 0 ≤ Ls.nth (Gp.codes (Gp.low l) (Gp.scale s l) l) i ∧ (Ls.nth (Gp.codes (Gp.low l) (Gp.scale s l) l) i).toNat < 2 ^ b
    rw [pow_st hst]
    by_cases hi : i < l.length
    · have := Gp.codes_right (s := (s : Int)) h (by omega) hi
      omega
    · rw [Ls.nth_past (by rw [Gp.codes_length]; omega)]
      omega
  · have : gs (grp s l) ≤ 1431655765 := sb.2
    omega
/-- What is quantized is a page. -/
theorem quant_page {h : List Int} {b0 s0 b1 s1 : Nat} {ks vs : List (List Int)} (h7 : h.length = 7) (hr : rightH h = true) (e0 : Ls.nth h 0 = (b0 : Int)) (e1 : Ls.nth h 1 = (b1 : Int)) (st0 : Gp.St b0 s0) (st1 : Gp.St b1 s1)
    (ik : ∀ k, Ls.In32 (Tb.row ks k)) (iv : ∀ k, Ls.In32 (Tb.row vs k)) (nk : (ks.length : Int) = Ls.nth h 2) (nv : (vs.length : Int) = Ls.nth h 2) (dv : ∀ k, k < vs.length → ((Tb.row vs k).length : Int) = Ls.nth h 3) :
    Page h (qk s0 (dm h) ks) (qv s1 vs) := by
  have k0 : kb h = b0 := by unfold kb; omega
  have k1 : vb h = b1 := by unfold vb; omega
  have t0 : ks.length = tk h := by unfold tk; omega
  have t1 : vs.length = tk h := by unfold tk; omega
  have bs0 := st0.bd
  have bs1 := st1.bd
  have p0 := pow_st st0
  have p1 := pow_st st1
  have r0 : ((2 ^ b0 - 1 : Nat) : Int) = (s0 : Int) := by omega
  have r1 : ((2 ^ b1 - 1 : Nat) : Int) = (s1 : Int) := by omega
  refine ⟨h7, hr, qk_length _ _ _, by rw [qv_length, t1], fun i hi => ?_, fun i hi => ?_, fun i hi => ?_, fun i hi => ?_⟩
  · rw [qk_length] at hi
    rw [nth_qk hi, k0]
    exact grp_fits st0 (col_in ik i) (by rw [col_length, t0])
  · rw [qv_length] at hi
    rw [nth_qv hi, k1]
    exact grp_fits st1 (iv i) (by have := dv i hi; unfold dm; omega)
  · rw [qk_length] at hi
    rw [nth_qk hi, k0, r0]
    exact grp_right (col_in ik i) (by omega)
  · rw [qv_length] at hi
    rw [nth_qv hi, k1, r1]
    exact grp_right (iv i) (by omega)
/-- What a page means is no further from each key, each value, than half of the scale. -/
theorem near_key {s : Int} {d i k : Nat} {ls : List (List Int)} (ik : ∀ k, Ls.In32 (Tb.row ls k)) (hs : 3 ≤ s) (hi : i < d) (hk : k < ls.length) :
    2 * (Gp.mean (gz (nth (qk s d ls) i)) (gs (nth (qk s d ls) i)) (Ls.nth (gc (nth (qk s d ls) i)) k) - Ls.nth (Tb.row ls k) i) ≤ gs (nth (qk s d ls) i) ∧ -gs (nth (qk s d ls) i) ≤ 2 * (Gp.mean (gz (nth (qk s d ls) i)) (gs (nth (qk s d ls) i)) (Ls.nth (gc (nth (qk s d ls) i)) k) - Ls.nth (Tb.row ls k) i) := by
  rw [nth_qk hi]
  have h := Gp.grouped_near (s := s) (col_in ik i) hs (i := k) (by rw [col_length]; exact hk)
  rw [Gp.nth_means (by rw [Gp.codes_length, col_length]; exact hk), nth_col hk] at h
  exact h
theorem near_val {s : Int} {i k : Nat} {ls : List (List Int)} (iv : ∀ k, Ls.In32 (Tb.row ls k)) (hs : 3 ≤ s) (hk : k < ls.length) (hi : i < (Tb.row ls k).length) :
    2 * (Gp.mean (gz (nth (qv s ls) k)) (gs (nth (qv s ls) k)) (Ls.nth (gc (nth (qv s ls) k)) i) - Ls.nth (Tb.row ls k) i) ≤ gs (nth (qv s ls) k) ∧ -gs (nth (qv s ls) k) ≤ 2 * (Gp.mean (gz (nth (qv s ls) k)) (gs (nth (qv s ls) k)) (Ls.nth (gc (nth (qv s ls) k)) i) - Ls.nth (Tb.row ls k) i) := by
  rw [nth_qv hk]
  have h := Gp.grouped_near (s := s) (iv k) hs hi
  rw [Gp.nth_means (by rw [Gp.codes_length]; exact hi)] at h
  exact h
end Pg
end Go.Proofs.Ytpifemahakbegaa
