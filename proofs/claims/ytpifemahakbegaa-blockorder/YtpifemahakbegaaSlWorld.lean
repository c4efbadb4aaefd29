/- Bytes in memory and texts: conversions, copies, a made row (layer 6). -/
import Derived.Test.YtpifemahakbegaaLsWorld
import Derived.Test.YtpifemahakbegaaSlText
import Derived.Laws.IdiomStrings
import Derived.Laws.CopyOwn
import Derived.Laws.Cover3
namespace Go.Proofs.Ytpifemahakbegaa
set_option linter.unusedVariables false
open Go.RowKit

theorem Try.infoU8 : (Try.prog.info? 5).map (fun i => (i.zero, i.size, i.bytes)) = some (some (.int .u8 0), 1, 1) := by kernel_rfl
theorem Try.sizeU8 : (Try.prog.info? 5).map (·.size) = some 1 := by kernel_rfl

theorem lst_addr {k : IntKind} {w : World} {a : Addr} {l : List Int} (h : Lst k w (some a) l) {j : Nat} (hj : j < l.length) : w.cell? (a.add j) = some (.int k (Ls.nth l j)) := by
  obtain ⟨b, o1, e1, hcell⟩ := h j hj
  simp at e1
  subst e1
  rw [Addr.add_lit]
  exact hcell

/-- 'string(b)', b's bytes reading as l. -/
theorem conv_text {P : Program} (src e dst : TypeId) (hs : P.underlying src = some (.slice e)) (he : P.underlying e = some (.int .u8)) (hd : P.underlying dst = some .string) {w : World} {a : Option Addr} {l : List Int} (hL : Lst .u8 w a l) (hb : Sl.Byt l) (m c : Nat) (hm : m = l.length) :
    (convert src dst (.slice a m c)).run P w = .ok (.string (strOfNums l)) w := by
  subst hm
  cases a with
  | none =>
    have := hL.none_nil
    subst this
    exact run_convert_bytes_nil w src e hs he _ c dst hd
  | some a =>
    have h := run_convert_bytes_back (P := P) w src dst e a c (l.map fun n => UInt8.ofNat n.toNat) hs he hd (fun j hj => by
      simp at hj
      rw [lst_addr hL hj]
      have b := hb j
      simp only [List.getElem_map, UInt8.toNat_ofNat']
      rw [Ls.nth_of_lt hj] at b ⊢
      congr 2
      omega)
    rw [List.length_map] at h
    exact h

/-- 'copy(own, l)', own a row that is known whole, l whatever list that is no longer. -/
theorem wpList_copy_lst {P : Program} {w : World} {ops : Array Oper} {rest : List Oper} {o : Oper} {a : Act} {Q : Exit → Act → World → Prop} (hgd : o.guard = none) (d s : Operand) (t : TypeId)
    (ho : o.op = .call { callee := .builtin .copy, args := #[d, s], argTypes := #[t, t] }) (k : IntKind) (e : TypeId) (ht : P.underlying t = some (.slice e)) (hsz : (P.info? e).map (·.size) = some 1)
    (g n dc : Nat) (f : Nat → Value) (hrow : w.rowIs g e n f) (hd : a.eval d = .slice (some ⟨g, 0, none⟩) n dc)
    (ao : Option Addr) (l : List Int) (c : Nat) (hx : a.eval s = .slice ao l.length c) (hL : Lst k w ao l) (hln : l.length ≤ n) (B : Nat) (w0 : World) (hb : Below B w0 w) (hB : B ≤ g)
    (h : ∀ w', w'.rowIs g e n (fun j => if j < l.length then .int k (Ls.nth l j) else f j) → Below B w0 w' → wpList P ops Q rest (a.put o.dst (goInt l.length)) w') : wpList P ops Q (o :: rest) a w := by
  obtain ⟨cur, hg, hn, hc⟩ := hrow
  have hlc : (l.map (Value.int k)).length = l.length := List.length_map _
  refine wpList_copy_splice hgd d s t t ho e ht hsz (some ⟨g, 0, none⟩) ao n dc l.length c hd hx g 0 cur.toList e (by simpa using hg) (l.map (Value.int k)) (by rw [hlc]; exact (Nat.min_eq_left hln).symm) ?_ (by rw [hlc]; simp; omega) (ints_oneCell k l) B w0 hb hB ?_
  · intro h0
    rw [hlc] at h0
    obtain ⟨b, o1, e1, _⟩ := hL 0 h0
    refine ⟨rfl, _, e1, ?_⟩
    subst e1
    intro j v hv
    have hj : j < l.length := by
      have := (List.getElem?_eq_some_iff.1 hv).1
      simpa using this
    rw [lst_addr hL hj]
    simpa [Ls.nth, hj] using hv
  · intro w' hg' hb'
    rw [hlc]
    refine h w' ⟨_, hg'.out, ?_, ?_⟩ hb'
    · rw [List.size_toArray, length_splice _ _ _ (by rw [hlc]; simp; omega)]
      simpa using hn
    · intro i hi
      simp only [splice, List.take_zero, List.nil_append, Nat.zero_add, hlc]
      rw [List.getElem?_toArray, List.getElem?_append]
      rw [hlc]
      by_cases ci : i < l.length
      · rw [if_pos ci, if_pos ci]
        simp [Ls.nth, ci]
      · rw [if_neg ci, if_neg ci, List.getElem?_drop, show l.length + (i - l.length) = i by omega]
        simpa using hc i hi

theorem lst_of_own2 {k : IntKind} {w : World} {base : Nat} {t : TypeId} {v : Value} {n : Nat} {l : List Int} (h : w.ownsRow base t 1 v n (l.map (Value.int k))) (hn : n = l.length) :
    ∃ a cap, v = .slice a n cap ∧ Lst k w a l ∧ l.length ≤ cap ∧ cap ≤ maxLen ∧ (a = none → cap = 0) ∧ (∀ x, a = some x → x.block < w.heap.size) := by
  subst hn
  have h' := h
  rcases h.2 with ⟨rfl, hn⟩ | ⟨g, cap, cur, rfl, hb, hg, h1, h2, h3, h4⟩
  · exact ⟨none, 0, by rw [hn], fun i hi => by omega, by omega, by omega, fun _ => rfl, fun x e => by cases e⟩
  · refine ⟨_, cap, rfl, ?_, h1, h2, (fun e => nomatch e), fun x e => ?_⟩
    · intro i hi
      refine ⟨g, 0, rfl, ?_⟩
      rw [Nat.zero_add, h'.cellAt i (by omega)]
      simp [Ls.nth, hi]
    · cases e
      obtain ⟨hlt, _⟩ := Array.getElem?_eq_some_iff.1 hg
      exact hlt
/-- 's == nil' of a slice. -/
theorem slice_nil {P : Program} (w : World) (t e : TypeId) (a : Option Addr) (l c : Nat) (h : P.underlying t = some (.slice e)) : (binOp .eql t (.slice a l c) (.slice none 0 0)).run P w = .ok (.bool a.isNone) w := by
  simp only [binOp]
  simp [run_equal_slice_nil w t e a l c h]
theorem text_differ {a b : ByteArray} (h : ¬ a = b) : (a.toList == b.toList) = false := by
  rw [ByteArray.toList_eq, ByteArray.toList_eq]
  apply Bool.eq_false_iff.2
  intro e
  exact h (ByteArray.ext (Array.toList_inj.mp (eq_of_beq e)))
theorem box_over (w : World) (o : Obj) : Below w.heap.size w (w.alloc o) := (Below.refl _ _).alloc (Nat.le_refl _) o

/-- Out of the frame's own word of bytes that came in. -/
theorem row_open8 {w : World} {a : Option Addr} {len cap : Nat} {zs : List Int}
    (h : (a = none ∧ len = 0 ∧ cap = 0 ∧ zs = []) ∨ ∃ x, a = some x ∧ len ≤ cap ∧ cap ≤ maxLen ∧ zs.length = cap ∧ (∀ i, i < zs.length → w.cell? (x.add i) = some (.int .u8 (zs.getD i 0))) ∧ ∀ n ∈ zs, (Lit.int .u8 n).wf = true) :
    ∃ l : List Int, l.length = len ∧ Lst .u8 w a l ∧ Sl.Byt l ∧ len ≤ maxLen ∧ len ≤ cap ∧ cap ≤ maxLen ∧ (a = none → cap = 0) := by
  rcases h with ⟨rfl, rfl, rfl, rfl⟩ | ⟨x, rfl, h1, h2, h3, h4, h5⟩
  · exact ⟨[], rfl, Lst.nil _ _ _, fun i => by rw [Ls.nth_nil]; omega, Nat.zero_le _, Nat.zero_le _, Nat.zero_le _, fun _ => rfl⟩
  · refine ⟨zs.take len, by simp; omega, lst_of_cells (by omega) h4, ?_, by omega, h1, h2, fun e => by cases e⟩
    apply Sl.byt_mk
    intro i hi
    simp at hi
    rw [Ls.nth_take (by omega)]
    have hi2 : i < zs.length := by omega
    have := bounds_u8 (h5 _ (Ls.nth_mem hi2))
    omega
end Go.Proofs.Ytpifemahakbegaa
