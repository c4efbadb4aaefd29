/- Layer 13: PgMath, PgPage, ExMath, SfMath, PgQuant, StFrame, LsWorld. -/
import Derived.Test.YtnchnlgnnlgjcaaGreatCn02
import Derived.Test.YtnchnlgnnlgjcaaGreatCn01
import Derived.Test.YtnchnlgnnlgjcaaGreatRows
import Derived.ChangeArms
import Derived.WideShapes
import Derived.OpenShut
import Derived.Deep.Fields
import Derived.WalkKit
import Derived.ProofKit
import Derived.Deep.OwnRows
import Derived.Deep.QuietTactic
import Derived.BigQuiet
import Derived.WalkSmall
import Derived.Laws.AppendOwnNone
namespace Go.Proofs.YtnchnlgnnlgjcaaGreat
set_option linter.unusedVariables false
namespace Pg
def gz (g : Int × Int × List Int) : Int := g.1
def gs (g : Int × Int × List Int) : Int := g.2.1
def gc (g : Int × Int × List Int) : List Int := g.2.2
/-- The group at a place of a list; a list made place by place. -/
def nth (l : List (Int × Int × List Int)) (i : Nat) : Int × Int × List Int := l.getD i (0, 0, [])
theorem nth_of_lt {l : List (Int × Int × List Int)} {i : Nat} (h : i < l.length) : nth l i = l[i] := by unfold nth; simp [h]
theorem ext_nth {l m : List (Int × Int × List Int)} (hl : l.length = m.length) (h : ∀ i, i < l.length → nth l i = nth m i) : l = m := by
  apply List.ext_getElem hl
  intro i h1 h2
  have := h i h1
  rw [nth_of_lt h1, nth_of_lt h2] at this
  exact this
def gen (n : Nat) (f : Nat → Int × Int × List Int) : List (Int × Int × List Int) := (List.range n).map f
theorem gen_length (n : Nat) (f : Nat → Int × Int × List Int) : (gen n f).length = n := by simp [gen]
theorem nth_gen {n i : Nat} {f : Nat → Int × Int × List Int} (h : i < n) : nth (gen n f) i = f i := by unfold nth gen; simp [h]
/-- A list in pieces of d. -/
def piece (d i : Nat) (l : List Int) : List Int := (l.drop (d * i)).take d
/-- Words, each in eight bytes: the first n of them. -/
def wbN (ws : List Int) : Nat → List Int
  | 0 => []
  | n + 1 => wbN ws n ++ Sl.be 8 (Ls.nth ws n).toNat
/-- A group's bytes, its codes of b bits; how many there are. -/
def word4 (x : Int) : List Int := Sl.be 4 (x + 4294967296).toNat
def gb (b : Nat) (g : Int × Int × List Int) : List Int := word4 (gz g) ++ (Sl.be 4 (gs g).toNat ++ wbN (Pk.pack b (gc g)) (Pk.size b (gc g).length))
/-- A group that may be: as many codes, each of b bits; zero and scale in their ranges. -/
def Fits (b n : Nat) (g : Int × Int × List Int) : Prop := (gc g).length = n ∧ Pk.Cds b (gc g) ∧ -2147483648 ≤ gz g ∧ gz g ≤ 2147483647 ∧ 0 ≤ gs g ∧ gs g ≤ 4294967295
end Pg
end Go.Proofs.YtnchnlgnnlgjcaaGreat
namespace Go.Proofs.YtnchnlgnnlgjcaaGreat
set_option linter.unusedVariables false
namespace Pg
/-- The bytes of the first k groups of a row; of all. -/
def gbN (b : Nat) (l : List (Int × Int × List Int)) : Nat → List Int
  | 0 => []
  | k + 1 => gbN b l k ++ gb b (nth l k)
def gbs (b : Nat) (l : List (Int × Int × List Int)) : List Int := gbN b l l.length
/-- All groups of a row have n codes; all fit. -/
def Even (n : Nat) (l : List (Int × Int × List Int)) : Prop := ∀ i, i < l.length → (gc (nth l i)).length = n
def AllFit (b n : Nat) (l : List (Int × Int × List Int)) : Prop := ∀ i, i < l.length → Fits b n (nth l i)
theorem AllFit.even {b n : Nat} {l : List (Int × Int × List Int)} (h : AllFit b n l) : Even n l := fun i hi => (h i hi).1
/-- A head: seven numbers. Is it right? -/
def rightH (h : List Int) : Bool := Gp.okB (Ls.nth h 0) && Gp.okB (Ls.nth h 1) && decide (1 ≤ Ls.nth h 2) && decide (Ls.nth h 2 ≤ 16) && decide (1 ≤ Ls.nth h 3) && decide (Ls.nth h 3 ≤ 16) && decide (0 ≤ Ls.nth h 4) && decide (Ls.nth h 4 ≤ 3) && decide (0 ≤ Ls.nth h 5) && decide (Ls.nth h 5 ≤ 3) && decide (0 ≤ Ls.nth h 6) && decide (Ls.nth h 6 ≤ 1023)
theorem okB_or {b : Int} (h : Gp.okB b = true) : b = 2 ∨ b = 4 ∨ b = 8 := by unfold Gp.okB at h; simp at h; omega
theorem rightH_all {h : List Int} (hr : rightH h = true) : (Ls.nth h 0 = 2 ∨ Ls.nth h 0 = 4 ∨ Ls.nth h 0 = 8) ∧ (Ls.nth h 1 = 2 ∨ Ls.nth h 1 = 4 ∨ Ls.nth h 1 = 8) ∧ 1 ≤ Ls.nth h 2 ∧ Ls.nth h 2 ≤ 16 ∧ 1 ≤ Ls.nth h 3 ∧ Ls.nth h 3 ≤ 16 ∧ 0 ≤ Ls.nth h 4 ∧ Ls.nth h 4 ≤ 3 ∧ 0 ≤ Ls.nth h 5 ∧ Ls.nth h 5 ≤ 3 ∧ 0 ≤ Ls.nth h 6 ∧ Ls.nth h 6 ≤ 1023 := by
  unfold rightH at hr
  simp only [Bool.and_eq_true, decide_eq_true_eq] at hr
  obtain ⟨⟨⟨⟨⟨⟨⟨⟨⟨⟨⟨a, b⟩, c⟩, d⟩, e⟩, f⟩, g⟩, i⟩, j⟩, k⟩, l⟩, m⟩ := hr
  exact ⟨okB_or a, okB_or b, c, d, e, f, g, i, j, k, l, m⟩
/-- A head's nine bytes, and back. -/
def hbytes (h : List Int) : List Int := [75, Ls.nth h 0, Ls.nth h 1, Ls.nth h 2, Ls.nth h 3, Ls.nth h 4, Ls.nth h 5] ++ Sl.be 2 (Ls.nth h 6).toNat
/-- A head's numbers by name (of a right one). -/
def kb (h : List Int) : Nat := (Ls.nth h 0).toNat
def vb (h : List Int) : Nat := (Ls.nth h 1).toNat
def tk (h : List Int) : Nat := (Ls.nth h 2).toNat
def dm (h : List Int) : Nat := (Ls.nth h 3).toNat
def body (h : List Int) (ks vs : List (Int × Int × List Int)) : List Int := hbytes h ++ (gbs (kb h) ks ++ gbs (vb h) vs)
def bytes (h : List Int) (ks vs : List (Int × Int × List Int)) : List Int := Sl.close (body h ks vs)
/-- A page that may be. -/
def Page (h : List Int) (ks vs : List (Int × Int × List Int)) : Prop := h.length = 7 ∧ rightH h = true ∧ ks.length = dm h ∧ vs.length = tk h ∧ AllFit (kb h) (tk h) ks ∧ AllFit (vb h) (dm h) vs ∧
  (∀ i, i < ks.length → Gp.right ((2 ^ kb h - 1 : Nat) : Int) (gs (nth ks i)) (gc (nth ks i)) = 0) ∧ (∀ i, i < vs.length → Gp.right ((2 ^ vb h - 1 : Nat) : Int) (gs (nth vs i)) (gc (nth vs i)) = 0)
end Pg
end Go.Proofs.YtnchnlgnnlgjcaaGreat
namespace Go.Proofs.YtnchnlgnnlgjcaaGreat
set_option linter.unusedVariables false
namespace Ex
def pa (f : Int) : Int := 14743 + f * 5180 / 65536
def pb (f : Int) : Int := 45613 + f * pa f / 65536
end Ex
end Go.Proofs.YtnchnlgnnlgjcaaGreat
namespace Go.Proofs.YtnchnlgnnlgjcaaGreat
set_option linter.unusedVariables false
namespace Tb
/-- The list at a place of a table (the empty one where there is none). -/
def row (ls : List (List Int)) (i : Nat) : List Int := ls.getD i []
theorem row_past {ls : List (List Int)} {i : Nat} (h : ls.length ≤ i) : row ls i = [] := by unfold row; simp [List.getElem?_eq_none h]
theorem row_map_range {n r : Nat} (f : Nat → List Int) (h : r < n) : row ((List.range n).map f) r = f r := by unfold row; simp [h]
/-- The sum of the first n weights. -/
def sumN (w : List Int) : Nat → Int
  | 0 => 0
  | n + 1 => sumN w n + Ls.nth w n
def sum (w : List Int) : Int := sumN w w.length
/-- The sum of the first n lists' numbers at a place, each by its weight. -/
def mixN (w : List Int) (ls : List (List Int)) (i : Nat) : Nat → Int
  | 0 => 0
  | n + 1 => mixN w ls i n + Ls.nth w n * Ls.nth (row ls n) i
def mix (w : List Int) (ls : List (List Int)) (i : Nat) : Int := mixN w ls i ls.length
/-- A place of the mean, and the mean. -/
def place (w : List Int) (ls : List (List Int)) (i : Nat) : Int := Fx.cut (Fx.rnd (mix w ls i) (sum w)) (-8388608) 8388608
def mean (w : List Int) (ls : List (List Int)) : List Int := Ls.gen (row ls 0).length (place w ls)
/-- Are all lists of one length? -/
def even (ls : List (List Int)) : Bool := decide (∀ i, i < ls.length → (row ls i).length = (row ls 0).length)
/-- What is wrong with how many there are: 14, 12, 25 or 0. -/
def shape (m : Nat) (ls : List (List Int)) : Int := if ls.length = 0 then 14 else if 1024 < ls.length then 12 else if m = ls.length then (if even ls = true then 0 else 25) else 25
/-- Can a mean be divided by these weights? -/
def weigh (w : List Int) : Bool := decide ((∀ i, i < w.length → 0 ≤ Ls.nth w i ∧ Ls.nth w i ≤ 65536) ∧ 0 < sum w)
/-- Are all lists mild? -/
def milds (ls : List (List Int)) : Bool := decide (∀ i, i < ls.length → Ls.mild (row ls i) = true)
/-- Can lists be mixed? An error's number. -/
def fit (w : List Int) (ls : List (List Int)) : Bool := weigh w && milds ls
def right (w : List Int) (ls : List (List Int)) : Int := if shape w.length ls = 0 then (if fit w ls = true then 0 else 11) else shape w.length ls
theorem right_zero {w : List Int} {ls : List (List Int)} (h : right w ls = 0) : shape w.length ls = 0 ∧ fit w ls = true := by
  unfold right at h
  by_cases hs : shape w.length ls = 0
  · rw [if_pos hs] at h
    cases hf : fit w ls
    · rw [hf] at h; simp at h
    · exact ⟨hs, rfl⟩
  · rw [if_neg hs] at h; exact absurd h hs
/-- A number put to all. -/
def shift (s : List Int) (z : Int) : List Int := Ls.gen s.length fun i => z + Ls.nth s i
/-- The least, and the greatest, of the first n lists' numbers at a place, and of the first list's. -/
def lo (ls : List (List Int)) (i : Nat) : Nat → Int
  | 0 => Ls.nth (row ls 0) i
  | n + 1 => if Ls.nth (row ls n) i < lo ls i n then Ls.nth (row ls n) i else lo ls i n
def hi (ls : List (List Int)) (i : Nat) : Nat → Int
  | 0 => Ls.nth (row ls 0) i
  | n + 1 => if hi ls i n < Ls.nth (row ls n) i then Ls.nth (row ls n) i else hi ls i n
end Tb
end Go.Proofs.YtnchnlgnnlgjcaaGreat
namespace Go.Proofs.YtnchnlgnnlgjcaaGreat
set_option linter.unusedVariables false
namespace Pg
/-- Numbers as a group, the greatest code being s; what the keys of all tokens have at place i. -/
def grp (s : Int) (l : List Int) : Int × Int × List Int := (Gp.low l, Gp.scale s l, Gp.codes (Gp.low l) (Gp.scale s l) l)
def col (ls : List (List Int)) (i : Nat) : List Int := Ls.gen ls.length fun k => Ls.nth (Tb.row ls k) i
theorem col_length (ls : List (List Int)) (i : Nat) : (col ls i).length = ls.length := Ls.gen_length _ _
theorem nth_col {ls : List (List Int)} {i k : Nat} (h : k < ls.length) : Ls.nth (col ls i) k = Ls.nth (Tb.row ls k) i := Ls.nth_gen h
theorem col_in {ls : List (List Int)} (h : ∀ k, Ls.In32 (Tb.row ls k)) (i : Nat) : Ls.In32 (col ls i) := Ls.in32_mk fun k hk => by
  rw [col_length] at hk
  rw [nth_col hk]
  exact h k i
/-- The key groups, one a place; the value groups, one a token. -/
def qk (s : Int) (d : Nat) (ls : List (List Int)) : List (Int × Int × List Int) := gen d fun i => grp s (col ls i)
def qv (s : Int) (ls : List (List Int)) : List (Int × Int × List Int) := gen ls.length fun k => grp s (Tb.row ls k)
theorem qk_length (s : Int) (d : Nat) (ls : List (List Int)) : (qk s d ls).length = d := gen_length _ _
theorem qv_length (s : Int) (ls : List (List Int)) : (qv s ls).length = ls.length := gen_length _ _
theorem nth_qk {s : Int} {d i : Nat} {ls : List (List Int)} (h : i < d) : nth (qk s d ls) i = grp s (col ls i) := nth_gen h
theorem nth_qv {s : Int} {k : Nat} {ls : List (List Int)} (h : k < ls.length) : nth (qv s ls) k = grp s (Tb.row ls k) := nth_gen h
theorem grp_right {s : Int} {l : List Int} (h : Ls.In32 l) (hs : 3 ≤ s) : Gp.right s (gs (grp s l)) (gc (grp s l)) = 0 := Gp.grouped_right h hs
theorem pow_st {b s : Nat} (h : Gp.St b s) : 2 ^ b = s + 1 := by rcases h with ⟨rfl, rfl⟩ | ⟨rfl, rfl⟩ | ⟨rfl, rfl⟩ <;> rfl
theorem grp_fits {b s n : Nat} {l : List Int} (hst : Gp.St b s) (h : Ls.In32 l) (hn : l.length = n) : Fits b n (grp s l) := by
  have bs := hst.bd
  have sb := Gp.scale_bd (s := (s : Int)) h (by omega)
  have zb := Gp.lowN_in h l.length
  refine ⟨by show (Gp.codes _ _ l).length = n; rw [Gp.codes_length, hn], ?_, zb.1, zb.2, sb.1, ?_⟩
  · intro i
    show 0 ≤ Ls.nth (Gp.codes (Gp.low l) (Gp.scale s l) l) i ∧ (Ls.nth (Gp.codes (Gp.low l) (Gp.scale s l) l) i).toNat < 2 ^ b
    rw [pow_st hst]
    by_cases hi : i < l.length
    · have := Gp.codes_right (s := (s : Int)) h (by omega) hi
      omega
    · rw [Ls.nth_past (by rw [Gp.codes_length]; omega)]
      omega
  · have : gs (grp s l) ≤ 1431655765 := sb.2
    omega
/-- What is quantized is a page. -/
theorem quant_page {h : List Int} {b0 s0 b1 s1 : Nat} {ks vs : List (List Int)} (h7 : h.length = 7) (hr : rightH h = true) (e0 : Ls.nth h 0 = (b0 : Int)) (e1 : Ls.nth h 1 = (b1 : Int)) (st0 : Gp.St b0 s0) (st1 : Gp.St b1 s1)
    (ik : ∀ k, Ls.In32 (Tb.row ks k)) (iv : ∀ k, Ls.In32 (Tb.row vs k)) (nk : (ks.length : Int) = Ls.nth h 2) (nv : (vs.length : Int) = Ls.nth h 2) (dv : ∀ k, k < vs.length → ((Tb.row vs k).length : Int) = Ls.nth h 3) :
    Page h (qk s0 (dm h) ks) (qv s1 vs) := by
  have k0 : kb h = b0 := by unfold kb; omega
  have k1 : vb h = b1 := by unfold vb; omega
  have t0 : ks.length = tk h := by unfold tk; omega
  have t1 : vs.length = tk h := by unfold tk; omega
  have bs0 := st0.bd
  have bs1 := st1.bd
  have p0 := pow_st st0
  have p1 := pow_st st1
  have r0 : ((2 ^ b0 - 1 : Nat) : Int) = (s0 : Int) := by omega
  have r1 : ((2 ^ b1 - 1 : Nat) : Int) = (s1 : Int) := by omega
  refine ⟨h7, hr, qk_length _ _ _, by rw [qv_length, t1], fun i hi => ?_, fun i hi => ?_, fun i hi => ?_, fun i hi => ?_⟩
  · rw [qk_length] at hi
    rw [nth_qk hi, k0]
    exact grp_fits st0 (col_in ik i) (by rw [col_length, t0])
  · rw [qv_length] at hi
    rw [nth_qv hi, k1]
    exact grp_fits st1 (iv i) (by have := dv i hi; unfold dm; omega)
  · rw [qk_length] at hi
    rw [nth_qk hi, k0, r0]
    exact grp_right (col_in ik i) (by omega)
  · rw [qv_length] at hi
    rw [nth_qv hi, k1, r1]
    exact grp_right (iv i) (by omega)
end Pg
end Go.Proofs.YtnchnlgnnlgjcaaGreat
namespace Go.Proofs.YtnchnlgnnlgjcaaGreat
set_option linter.unusedVariables false
open Go.ChangeShapes Go.WideShapes
theorem cells7 {cs : Array Value} (h : cs.size = 7) : ∃ a0 a1 a2 a3 a4 a5 a6, cs = #[a0, a1, a2, a3, a4, a5, a6] := by
  obtain ⟨l⟩ := cs
  simp only [List.size_toArray] at h
  match l, h with
  | [a0, a1, a2, a3, a4, a5, a6], _ => exact ⟨a0, a1, a2, a3, a4, a5, a6, rfl⟩
end Go.Proofs.YtnchnlgnnlgjcaaGreat
namespace Go.Proofs.YtnchnlgnnlgjcaaGreat
set_option linter.unusedVariables false
open Go.RowKit
theorem ret_bool {a b : Bool} (h : a = b) : Ending.returned (.bool a) = .returned (.bool b) := by rw [h]
theorem ret_num {k : IntKind} {a b : Int} (h : a = b) : Ending.returned (.int k a) = .returned (.int k b) := by rw [h]
/-- THE SLICE THAT BEGINS AT a READS AS THE LIST l, its numbers of kind k. -/
def Lst (k : IntKind) (w : World) (a : Option Addr) (l : List Int) : Prop :=
  ∀ i, i < l.length → ∃ b o, a = some ⟨b, o, none⟩ ∧ w.cell? ⟨b, o + i, none⟩ = some (.int k (Ls.nth l i))
theorem Lst.get {k : IntKind} {w : World} {a : Option Addr} {l : List Int} (h : Lst k w a l) {i : Nat} (hi : i < l.length) :
    ∃ b o, a = some ⟨b, o, none⟩ ∧ ∀ j, j < l.length → w.cell? ⟨b, o + j, none⟩ = some (.int k (Ls.nth l j)) := by
  obtain ⟨b, o, rfl, _⟩ := h i hi
  refine ⟨b, o, rfl, fun j hj => ?_⟩
  obtain ⟨b', o', e, hc⟩ := h j hj
  simp at e
  obtain ⟨rfl, rfl⟩ := e
  exact hc
theorem Lst.nil (k : IntKind) (w : World) (a : Option Addr) : Lst k w a [] := fun i hi => by simp at hi
theorem Lst.keep {k : IntKind} {w w' : World} {a : Option Addr} {l : List Int} (h : Lst k w a l) (hb : Below w.heap.size w w') : Lst k w' a l := fun i hi => by
  obtain ⟨b, o, e, hc⟩ := h i hi
  refine ⟨b, o, e, ?_⟩
  rw [hb.cell (p := ⟨b, o + i, none⟩) (World.block_lt_of_cell? w _ hc)]
  exact hc
theorem below_then {w0 w w' : World} (h : Below w0.heap.size w0 w) (k : Below w.heap.size w w') : Below w0.heap.size w0 w' := h.trans (k.mono h.size)
theorem lst_of_row {k : IntKind} {w : World} {g : Nat} {t : TypeId} {l : List Int} {f : Nat → Value} (h : w.rowIs g t l.length f) (hf : ∀ i, i < l.length → f i = .int k (Ls.nth l i)) : Lst k w (some ⟨g, 0, none⟩) l := by
  intro i hi
  refine ⟨g, 0, rfl, ?_⟩
  rw [Nat.zero_add, h.cell hi, hf i hi]
theorem lst_of_own {k : IntKind} {w : World} {base : Nat} {t : TypeId} {v : Value} {l : List Int} (h : w.ownsRow base t 1 v l.length (l.map (Value.int k))) :
    ∃ a cap, v = .slice a l.length cap ∧ Lst k w a l ∧ l.length ≤ cap ∧ cap ≤ maxLen := by
  have h' := h
  rcases h.2 with ⟨rfl, hn⟩ | ⟨g, cap, cur, rfl, hb, hg, h1, h2, h3, h4⟩
  · refine ⟨none, 0, by rw [hn], fun i hi => by omega, by omega, by omega⟩
  · refine ⟨_, cap, rfl, ?_, h1, h2⟩
    intro i hi
    refine ⟨g, 0, rfl, ?_⟩
    rw [Nat.zero_add, h'.cellAt i (by omega)]
    simp [Ls.nth, hi]
theorem lst_of_ownm {k : IntKind} {w : World} {base : Nat} {t : TypeId} {v : Value} {n : Nat} {l : List Int} (h : w.ownsRow base t 1 v n (l.map (Value.int k))) (hn : n = l.length) :
    ∃ a cap, v = .slice a n cap ∧ Lst k w a l := by
  subst hn
  obtain ⟨a, cap, h1, h2, _⟩ := lst_of_own h
  exact ⟨a, cap, h1, h2⟩
theorem Lst.none_nil {k : IntKind} {w : World} {l : List Int} (h : Lst k w none l) : l = [] := by
  cases l with
  | nil => rfl
  | cons x l =>
    obtain ⟨b, o, e, _⟩ := h 0 (by simp)
    cases e
/-- 'append(own, l...)', own a slice of numbers that the call itself made, l whatever list. -/
theorem wpList_append_lst {P : Program} {w : World} {ops : Array Oper} {rest : List Oper} {o : Oper} {a : Act} {Q : Exit → Act → World → Prop} (hgd : o.guard = none) (s x : Operand) (t : TypeId)
    (ho : o.op = .call { callee := .builtin .append, args := #[s, x], argTypes := #[t, t] })
    (base : Nat) (e : TypeId) (k : IntKind) (bytes : Nat) (ht : P.underlying t = some (.slice e)) (hinfo : (P.info? e).map (fun i => (i.zero, i.size, i.bytes)) = some (some (.int k 0), 1, bytes))
    (v : Value) (n : Nat) (xs : List Value) (hs : a.eval s = v) (hown : w.ownsRow base e 1 v n xs)
    (ao : Option Addr) (l : List Int) (c : Nat) (hx : a.eval x = .slice ao l.length c) (hL : Lst k w ao l) (hc : ao = none → c = 0)
    (h63 : n + l.length ≤ maxLen) (hbytes : (n + l.length) * bytes ≤ 140737488355328) (hbase : base ≤ w.heap.size)
    (h : ∀ v' w', w'.ownsRow base e 1 v' (n + l.length) (xs ++ l.map (Value.int k)) → w.grownBy w' v.ownBlock → wpList P ops Q rest (a.put o.dst v') w') : wpList P ops Q (o :: rest) a w := by
  obtain ⟨i, hi, hz0, hz1, hz2⟩ := info_parts hinfo
  cases ao with
  | none =>
    have e0 := hL.none_nil
    subst e0
    have hc0 := hc rfl
    subst hc0
    exact wpList_append_own_none hgd s x t ho base e i 1 ht hi v n xs hs hown hx (h v w (by simpa using hown) (World.grownBy.refl _ _))
  | some ad =>
    refine wpList_append_own w hgd s x t ho base e i (.int k 0) 1 bytes ht hi hz0 hz1 hz2 rfl (by omega) v n xs hs hown ad l.length c (l.map (Value.int k)) hx (by simp) ?_ (ints_oneCell k l) h63 hbytes hbase (fun v' w' h1 h2 _ => h v' w' h1 h2)
    intro j u hu
    have hj : j < l.length := by
      have := (List.getElem?_eq_some_iff.1 hu).1
      simpa using this
    obtain ⟨b, o1, e1, hcell⟩ := hL j hj
    simp at e1
    subst e1
    rw [Addr.add_lit, hcell]
    simpa [Ls.nth, hj] using hu
theorem Lst.to {k : IntKind} {w : World} {a : Option Addr} {l : List Int} (h : Lst k w a l) (t : Nat) : Lst k w a (l.take t) := fun i hi => by
  simp at hi
  obtain ⟨b, o, e, hc⟩ := h i (by omega)
  exact ⟨b, o, e, by rw [Ls.nth_take (by omega)]; exact hc⟩
theorem Lst.from {k : IntKind} {w : World} {a a' : Option Addr} {l : List Int} (h : Lst k w a l) (t cap : Nat) (hcap : l.length ≤ cap) (ha : ¬ cap = t → ∀ b o, a = some ⟨b, o, none⟩ → a' = some ⟨b, o + t, none⟩) : Lst k w a' (l.drop t) := fun i hi => by
  simp at hi
  obtain ⟨b, o, e, hc⟩ := h (t + i) (by omega)
  exact ⟨b, o + t, ha (by omega) b o e, by rw [Ls.nth_drop, Nat.add_assoc]; exact hc⟩
/-- The address of what is left behind a cut, as the walk writes it. -/
theorem addr_from {a : Option Addr} {cap t : Nat} : ¬ cap = t → ∀ b o, a = some ⟨b, o, none⟩ → (if cap = t then a else Option.map (fun x => x.add t) a) = some ⟨b, o + t, none⟩ := by
  intro h b o e
  subst e
  rw [if_neg h]
  simp only [Option.map_some, Addr.add]
  split
  · rename_i e; subst e; rfl
  · rfl
theorem Lst.left {k : IntKind} {w : World} {a : Option Addr} {l : List Int} {cap : Nat} (h : Lst k w a l) (hcap : l.length ≤ cap) (t : Nat) : Lst k w (if cap = t then a else Option.map (fun x => x.add t) a) (l.drop t) := h.from t cap hcap addr_from
end Go.Proofs.YtnchnlgnnlgjcaaGreat
