/- Contracts of package seal's reader. -/
import Derived.Test.YtimkfkolkplpdaaGreatSlOpens
namespace Go.Proofs.YtimkfkolkplpdaaGreat
set_option linter.unusedVariables false
open Go.RowKit

/-- A reader's two cells. -/
def rdc (a : Option Addr) (n c : Nat) (sh : Bool) (i : Nat) : Value := if i = 0 then .slice a n c else .bool sh
/-- THE READER AT BLOCK g HAS THE BYTES l LEFT, and is short or not. -/
def Rdr (w : World) (g : Nat) (l : List Int) (sh : Bool) : Prop :=
  ∃ a c, w.rowIs g 125 2 (rdc a l.length c sh) ∧ Lst .u8 w a l ∧ Sl.Byt l ∧ l.length ≤ c ∧ c ≤ maxLen ∧ (a = none → c = 0) ∧ (∀ x, a = some x → x.block < g) ∧ l.length ≤ 10000
theorem Rdr.lt {w : World} {g : Nat} {l : List Int} {sh : Bool} (h : Rdr w g l sh) : g < w.heap.size := by
  obtain ⟨a, c, h, _⟩ := h
  exact h.lt
theorem Lst.keepUnder {k : IntKind} {w w' : World} {a : Option Addr} {l : List Int} {g : Nat} (h : Lst k w a l) (hg : ∀ x, a = some x → x.block < g) (hb : Below g w w') : Lst k w' a l := fun i hi => by
  obtain ⟨b, o, e, hc⟩ := h i hi
  refine ⟨b, o, e, ?_⟩
  rw [hb.cell (p := ⟨b, o + i, none⟩) (hg ⟨b, o, none⟩ e)]
  exact hc
theorem Rdr.keep {w w' : World} {g : Nat} {l : List Int} {sh : Bool} (h : Rdr w g l sh) (hb : Below w.heap.size w w') : Rdr w' g l sh := by
  have hlt := h.lt
  obtain ⟨a, c, h1, h2, h3⟩ := h
  exact ⟨a, c, h1.of_block (hb.block g hlt), h2.keep hb, h3⟩

theorem add_block (x : Addr) (n : Nat) : (x.add n).block = x.block := by unfold Addr.add; split <;> rfl
/-- A reader whose bytes are cut. -/
theorem Rdr.cut {w : World} {g : Nat} {a a' : Option Addr} {l m : List Int} {c c' : Nat} {sh : Bool} {v : Value} (hr : w.rowIs g 125 2 (rdc a l.length c sh)) (hv : v = .slice a' m.length c') (hm : Lst .u8 w a' m) (hb : Sl.Byt m) (h1 : m.length ≤ c') (h2 : c' ≤ maxLen) (h3 : a' = none → c' = 0) (h4 : ∀ x, a' = some x → x.block < g) (h5 : m.length ≤ 10000) :
    Rdr (w.setCell ⟨g, 0, none⟩ v) g m sh ∧ Below g w (w.setCell ⟨g, 0, none⟩ v) := by
  have hbel : Below g w (w.setCell ⟨g, 0, none⟩ v) := (Below.refl g w).setCell (p := ⟨g, 0, none⟩) (Nat.le_refl g) v
  refine ⟨⟨a', c', (hr.set 0 v).congr ?_, hm.keepUnder h4 hbel, hb, h1, h2, h3, h4, h5⟩, hbel⟩
  intro i hi
  unfold rdc
  by_cases e : i = 0
  · rw [if_pos e, if_pos e, hv]
  · rw [if_neg e, if_neg e, if_neg e]

theorem newReader_any (a : Option Addr) (m c : Nat) (l : List Int) (hm : m = l.length) (hl : l.length ≤ 10000) (w : World) (ha : Lst .u8 w a l) (hb : Sl.Byt l) (hc : a = none → c = 0) :
    Calls Tryz.prog 47 #[.slice a m c] w fun e w' => ∃ g, e = .returned (.pointer (some ⟨g, 0, none⟩)) ∧ w.heap.size ≤ g ∧ Rdr w' g l false ∧ Below w.heap.size w w' := by
  have HM : Hid (m = l.length) := hm
  have HA : Hid (Lst .u8 w a l) := ha
  have HB : Hid (Sl.Byt l) := hb
  have HC : Hid (a = none → c = 0) := hc
  clear hm ha hb hc
  go_enter Tryz.func47, Tryz.ntmps47
  go_wp2_with (go_at_call 76; refine (clone_any a m c l HM.out hl _ HA.out HC.out).mono ?_; rintro e w' ⟨a', c', rfl, h1, h2, h3, h4, h5, h6⟩; have R1 : Hid (Lst .u8 w' a' l ∧ m ≤ c' ∧ c' ≤ maxLen ∧ (a' = none → c' = 0) ∧ (∀ x, a' = some x → x.block < w'.heap.size) ∧ Below w.heap.size w w') := ⟨h1, h2, h3, h4, h5, h6⟩; clear h1 h2 h3 h4 h5 h6)
  go_ret
  obtain ⟨h1, h2, h3, h4, h5, h6⟩ := R1.out
  refine ⟨_, rfl, h6.size, ⟨a', c', ?_, h1.keep (box_over _ _), HB.out, ?_, h3, h4, h5, hl⟩, h6.alloc h6.size _⟩
  · refine (World.rowIs_alloc _ _ _ _ ?_).congr (fun i hi => rfl)
    intro i hi
    rw [← HM.out]
    match i, hi with
    | 0, _ => rfl
    | 1, _ => rfl
  · rw [← HM.out]; exact h2

theorem short_any (g : Nat) (l : List Int) (sh : Bool) (w : World) (h : Rdr w g l sh) :
    Calls Tryz.prog 78 #[.pointer (some ⟨g, 0, none⟩)] w fun e w' => e = .returned (.bool sh) ∧ w' = w := by
  obtain ⟨a, c, hr, h1, h2, h3, h4, h5, h6, h7⟩ := h
  have c0 : w.cell? ⟨g, 1, none⟩ = some (.bool sh) := by rw [hr.cell (show 1 < 2 by decide)]; rfl
  clear hr h1 h2 h3 h4 h5 h6
  go_enter Tryz.func78, Tryz.ntmps78
  go_wp2
  go_ret
  exact ⟨rfl, rfl⟩

theorem next_some (g : Nat) (l : List Int) (sh : Bool) (n : Nat) (hn : n ≤ l.length) (w : World) (h : Rdr w g l sh) :
    Calls Tryz.prog 101 #[.pointer (some ⟨g, 0, none⟩), .int .i64 n] w fun e w' => ∃ a' c', e = .returned (.slice a' n c') ∧ Lst .u8 w' a' (l.take n) ∧ (a' = none → c' = 0) ∧ Rdr w' g (l.drop n) sh ∧ Below g w w' := by
  obtain ⟨a, c, hr, h1, h2, h3, h4, h5, h6, h7⟩ := h
  have h40 := h4
  unfold maxLen at h4
  have c0 : w.cell? ⟨g, 0, none⟩ = some (.slice a l.length c) := by rw [hr.cell (show 0 < 2 by decide)]; rfl
  have c1 : w.cell? ⟨g, 1, none⟩ = some (.bool sh) := by rw [hr.cell (show 1 < 2 by decide)]; rfl
  have f0 : w.frozen? ⟨g, 0, none⟩ = false := hr.frozen 0
  have f1 : w.frozen? ⟨g, 1, none⟩ = false := hr.frozen 1
  have R : Hid (w.rowIs g 125 2 (rdc a l.length c sh) ∧ Lst .u8 w a l ∧ Sl.Byt l ∧ l.length ≤ c ∧ c ≤ maxLen ∧ (a = none → c = 0) ∧ (∀ x, a = some x → x.block < g) ∧ l.length ≤ 10000) := ⟨hr, h1, h2, h3, h40, h5, h6, h7⟩
  clear hr h1 h2 h40 h5 h6
  go_enter Tryz.func101, Tryz.ntmps101
  go_wp2
  · subst h
    obtain ⟨r1, r2, r3, r4, r5, r6, r7, r8⟩ := R.out
    have e0 : l.length = c := by omega
    have hd : l.drop c = [] := List.drop_of_length_le (by omega)
    obtain ⟨p1, p2⟩ := Rdr.cut (a' := a) (c' := 0) (m := l.drop c) (v := .slice a (l.length - c) 0) r1 (by rw [hd, e0, Nat.sub_self]; rfl) (by rw [hd]; exact Lst.nil _ _ _) (Sl.byt_dropn r3 c) (by rw [hd]; exact Nat.le_refl _) (by unfold maxLen; omega) (fun _ => rfl) r7 (by rw [hd]; exact Nat.zero_le _)
    go_ret
    exact ⟨a, c, rfl, (r2.to c).keepUnder r7 p2, r6, p1, p2⟩
  · obtain ⟨r1, r2, r3, r4, r5, r6, r7, r8⟩ := R.out
    obtain ⟨p1, p2⟩ := Rdr.cut (a' := Option.map (fun x => x.add n) a) (c' := c - n) (m := l.drop n) (v := .slice (Option.map (fun x => x.add n) a) (l.length - n) (c - n)) r1 (by rw [List.length_drop]) (r2.behind n) (Sl.byt_dropn r3 n) (by rw [List.length_drop]; omega) (by unfold maxLen; omega)
      (by intro e; cases a with | none => rw [r6 rfl]; exact Nat.zero_sub n | some x => cases e) (by intro x e; cases a with | none => cases e | some y => cases e; rw [add_block]; exact r7 y rfl) (by rw [List.length_drop]; omega)
    go_ret
    exact ⟨a, c, rfl, (r2.to n).keepUnder r7 p2, r6, p1, p2⟩
theorem next_none (g : Nat) (l : List Int) (sh : Bool) (n : Nat) (hn : l.length < n) (hn2 : n ≤ maxLen) (w : World) (h : Rdr w g l sh) :
    Calls Tryz.prog 101 #[.pointer (some ⟨g, 0, none⟩), .int .i64 n] w fun e w' => e = .returned (.slice none 0 0) ∧ Rdr w' g [] true ∧ Below g w w' := by
  obtain ⟨a, c, hr, h1, h2, h3, h4, h5, h6, h7⟩ := h
  unfold maxLen at h4 hn2
  have c0 : w.cell? ⟨g, 0, none⟩ = some (.slice a l.length c) := by rw [hr.cell (show 0 < 2 by decide)]; rfl
  have c1 : w.cell? ⟨g, 1, none⟩ = some (.bool sh) := by rw [hr.cell (show 1 < 2 by decide)]; rfl
  have f0 : w.frozen? ⟨g, 0, none⟩ = false := hr.frozen 0
  have f1 : w.frozen? ⟨g, 1, none⟩ = false := hr.frozen 1
  have R : Hid (w.rowIs g 125 2 (rdc a l.length c sh)) := hr
  clear hr h1 h2 h5 h6
  go_enter Tryz.func101, Tryz.ntmps101
  go_wp2
  have hbel : Below g w ((w.setCell ⟨g, 0, none⟩ (.slice none 0 0)).setCell ⟨g, 1, none⟩ (.bool true)) := ((Below.refl g w).setCell (p := ⟨g, 0, none⟩) (Nat.le_refl g) _).setCell (p := ⟨g, 1, none⟩) (Nat.le_refl g) _
  go_ret
  refine ⟨rfl, ⟨none, 0, ((R.out.set 0 (.slice none 0 0)).set 1 (.bool true)).congr ?_, Lst.nil _ _ _, (fun i => by rw [Ls.nth_nil]; omega), Nat.le_refl _, Nat.zero_le _, fun _ => rfl, (fun x e => nomatch e), Nat.zero_le _⟩, hbel⟩
  intro i hi
  match i, hi with
  | 0, _ => rfl
  | 1, _ => rfl

/-- What a reader gives when k bytes are asked for, what is left, and is it short then? -/
def Sl.got (l : List Int) (k : Nat) : List Int := if k ≤ l.length then l.take k else []
def Sl.rest (l : List Int) (k : Nat) : List Int := if k ≤ l.length then l.drop k else []
def Sl.lack (l : List Int) (k : Nat) (sh : Bool) : Bool := if k ≤ l.length then sh else true
theorem Sl.got_yes {l : List Int} {k : Nat} (h : k ≤ l.length) : Sl.got l k = l.take k := if_pos h
theorem Sl.got_no {l : List Int} {k : Nat} (h : l.length < k) : Sl.got l k = [] := if_neg (by omega)
theorem Sl.rest_yes {l : List Int} {k : Nat} (h : k ≤ l.length) : Sl.rest l k = l.drop k := if_pos h
theorem Sl.rest_no {l : List Int} {k : Nat} (h : l.length < k) : Sl.rest l k = [] := if_neg (by omega)
theorem Sl.lack_yes {l : List Int} {k : Nat} {sh : Bool} (h : k ≤ l.length) : Sl.lack l k sh = sh := if_pos h
theorem Sl.lack_no {l : List Int} {k : Nat} {sh : Bool} (h : l.length < k) : Sl.lack l k sh = true := if_neg (by omega)
theorem Sl.got_byt {l : List Int} (h : Sl.Byt l) (k : Nat) : Sl.Byt (Sl.got l k) := by
  unfold Sl.got; split
  · exact Sl.byt_take h k
  · intro i; rw [Ls.nth_nil]; omega
theorem Sl.got_le (l : List Int) (k : Nat) : (Sl.got l k).length ≤ k := by
  unfold Sl.got; split
  · simp; omega
  · exact Nat.zero_le _
theorem Sl.got_le2 (l : List Int) (k : Nat) : (Sl.got l k).length ≤ l.length := by
  unfold Sl.got; split
  · simp; omega
  · exact Nat.zero_le _
theorem Rdr.len {w : World} {g : Nat} {l : List Int} {sh : Bool} (h : Rdr w g l sh) : l.length ≤ 10000 := by
  obtain ⟨a, c, _, _, _, _, _, _, _, h⟩ := h
  exact h
theorem Rdr.byt {w : World} {g : Nat} {l : List Int} {sh : Bool} (h : Rdr w g l sh) : Sl.Byt l := by
  obtain ⟨a, c, _, _, h, _⟩ := h
  exact h

theorem next_any (g : Nat) (l : List Int) (sh : Bool) (k n : Nat) (hk : k ≤ maxLen) (hn : (Sl.got l k).length = n) (w : World) (h : Rdr w g l sh) :
    Calls Tryz.prog 101 #[.pointer (some ⟨g, 0, none⟩), .int .i64 k] w fun e w' => ∃ a' c', e = .returned (.slice a' n c') ∧ Lst .u8 w' a' (Sl.got l k) ∧ (a' = none → c' = 0) ∧ Rdr w' g (Sl.rest l k) (Sl.lack l k sh) ∧ Below g w w' := by
  by_cases c : k ≤ l.length
  · rw [Sl.got_yes c] at hn ⊢
    rw [Sl.rest_yes c, Sl.lack_yes c]
    obtain rfl : k = n := by rw [← hn]; simp; omega
    exact next_some g l sh k c w h
  · rw [Sl.got_no (by omega)] at hn ⊢
    rw [Sl.rest_no (by omega), Sl.lack_no (by omega)]
    subst hn
    refine (next_none g l sh k (by omega) hk w h).mono ?_
    rintro e w' ⟨rfl, h1, h2⟩
    exact ⟨none, 0, rfl, Lst.nil _ _ _, fun _ => rfl, h1, h2⟩

theorem num_any (g : Nat) (l : List Int) (sh : Bool) (n : Int) (k v : Nat) (hk : Sl.wid n = k) (hv : Sl.num (Sl.got l k) = v) (w : World) (h : Rdr w g l sh) :
    Calls Tryz.prog 103 #[.pointer (some ⟨g, 0, none⟩), .int .i64 n] w fun e w' => e = .returned (.int .u64 v) ∧ Rdr w' g (Sl.rest l k) (Sl.lack l k sh) ∧ Below g w w' := by
  have hk8 : k ≤ 8 := by rw [← hk]; exact Sl.wid_le n
  obtain ⟨z, ez⟩ : ∃ z, (Sl.got l k).length = z := ⟨_, rfl⟩
  have EZ : Hid ((Sl.got l k).length = z) := ez
  have HK : Hid (Sl.wid n = k) := hk
  have HV : Hid (Sl.num (Sl.got l k) = v) := hv
  have HR : Hid (Rdr w g l sh) := h
  clear ez hk hv h
  go_enter Tryz.func103, Tryz.ntmps103
  go_wp2_with (first
    | (go_at_call 100; refine (width_any n k HK.out _).mono ?_; rintro e w' ⟨rfl, hww⟩; cases hww.symm; clear hww)
    | (go_at_call 101; refine (next_any g l sh k z (by unfold maxLen; omega) EZ.out _ HR.out).mono ?_; rintro e w1 ⟨a', c', rfl, h1, h2, h3, h4⟩; have R1 : Hid (Lst .u8 w1 a' (Sl.got l k) ∧ Rdr w1 g (Sl.rest l k) (Sl.lack l k sh) ∧ Below g w w1) := ⟨h1, h3, h4⟩; clear h1 h2 h3 h4)
    | (go_at_call 75; refine (number_any a' z c' (Sl.got l k) v EZ.out.symm (Nat.le_trans (Sl.got_le l k) hk8) HV.out _ R1.out.1 (Sl.got_byt HR.out.byt k)).mono ?_; rintro e w' ⟨rfl, hww⟩; cases hww.symm; clear hww))
  go_ret
  exact ⟨rfl, R1.out.2⟩

theorem Sl.sgn_wrap32 (n : Nat) : wrap32 (n : Int) = Sl.sgn (n % 4294967296) := by
  unfold wrap32
  by_cases h : n % 4294967296 < 2147483648
  · rw [Sl.sgn_lo h]; omega
  · rw [Sl.sgn_hi (by omega)]; omega
theorem signed_any (g : Nat) (l : List Int) (sh : Bool) (x : Int) (hx : Sl.sgn (Sl.num (Sl.got l 4)) = x) (w : World) (h : Rdr w g l sh) :
    Calls Tryz.prog 102 #[.pointer (some ⟨g, 0, none⟩)] w fun e w' => e = .returned (.int .i32 x) ∧ Rdr w' g (Sl.rest l 4) (Sl.lack l 4 sh) ∧ Below g w w' := by
  obtain ⟨v, ev⟩ : ∃ v, Sl.num (Sl.got l 4) = v := ⟨_, rfl⟩
  have hv : v < 4294967296 := by
    rw [← ev]
    exact Nat.lt_of_lt_of_le (Sl.numN_lt (Sl.got_byt h.byt 4) _) (Nat.le_trans (Nat.pow_le_pow_right (by decide) (Sl.got_le l 4)) (by decide))
  rw [ev] at hx
  have HX : Hid (wrap32 (v : Int) = x) := by show _ = _; rw [Sl.sgn_wrap32, Nat.mod_eq_of_lt hv, hx]
  have EV : Hid (Sl.num (Sl.got l 4) = v) := ev
  have HR : Hid (Rdr w g l sh) := h
  clear ev hx h hv
  go_enter Tryz.func102, Tryz.ntmps102
  go_wp2_with (go_at_call 103; refine (num_any g l sh 4 4 v rfl EV.out _ HR.out).mono ?_; rintro e w1 ⟨rfl, h1, h2⟩; have R1 : Hid (Rdr w1 g (Sl.rest l 4) (Sl.lack l 4 sh) ∧ Below g w w1) := ⟨h1, h2⟩; clear h1 h2)
  go_ret
  exact ⟨ret_num HX.out, R1.out⟩

/-- How many bytes are taken, n being asked for. -/
def Sl.ask (n : Int) : Nat := if n < 0 then 0 else n.toNat
theorem Sl.ask_eq (n : Int) : (if n < 0 then 0 else n) = (Sl.ask n : Int) := by unfold Sl.ask; split <;> omega

theorem take_any (g : Nat) (l : List Int) (sh : Bool) (n : Int) (k z : Nat) (hk : Sl.ask n = k) (hn : n ≤ maxLen) (hz : (Sl.got l k).length = z) (w : World) (h : Rdr w g l sh) :
    Calls Tryz.prog 77 #[.pointer (some ⟨g, 0, none⟩), .int .i64 n] w fun e w' => ∃ a' c', e = .returned (.slice a' z c') ∧ Lst .u8 w' a' (Sl.got l k) ∧ Rdr w' g (Sl.rest l k) (Sl.lack l k sh) ∧ Below g w w' := by
  have hm : (if n < 0 then 0 else n) = (k : Int) := by rw [Sl.ask_eq, hk]
  have HKL : Hid (k ≤ maxLen) := by show _ ≤ _; rw [← hk]; unfold Sl.ask; unfold maxLen at hn ⊢; split <;> omega
  have hl := h.len
  have EZ : Hid ((Sl.got l k).length = z) := hz
  have HR : Hid (Rdr w g l sh) := h
  have HL : Hid ((Sl.got l k).length ≤ 10000) := Nat.le_trans (Sl.got_le2 l k) hl
  clear hk h hz hl hn
  go_enter Tryz.func77, Tryz.ntmps77
  go_wp2_with (first
    | (go_at_call 101; refine (next_any g l sh k z HKL.out EZ.out _ HR.out).mono ?_; rintro e w1 ⟨a', c', rfl, h1, h2, h3, h4⟩; have R1 : Hid (Lst .u8 w1 a' (Sl.got l k) ∧ (a' = none → c' = 0) ∧ Rdr w1 g (Sl.rest l k) (Sl.lack l k sh) ∧ Below g w w1) := ⟨h1, h2, h3, h4⟩; clear h1 h2 h3 h4)
    | (go_at_call 76; refine (clone_any a' z c' (Sl.got l k) EZ.out.symm HL.out _ R1.out.1 R1.out.2.1).mono ?_; rintro e w2 ⟨a2, c2, rfl, h1, h2, h3, h4, h5, h6⟩; have R2 : Hid (Lst .u8 w2 a2 (Sl.got l k) ∧ Rdr w2 g (Sl.rest l k) (Sl.lack l k sh) ∧ Below g w w2) := ⟨h1, R1.out.2.2.1.keep h6, R1.out.2.2.2.trans (h6.mono (Nat.le_of_lt R1.out.2.2.1.lt))⟩; clear h1 h2 h3 h4 h5 h6))
  go_ret
  exact ⟨a2, c2, rfl, R2.out⟩
end Go.Proofs.YtimkfkolkplpdaaGreat
