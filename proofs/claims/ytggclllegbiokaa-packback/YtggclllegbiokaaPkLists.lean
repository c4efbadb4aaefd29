/- The contracts of layer 5 in the forms that the laws ask for. -/
import Derived.Test.YtggclllegbiokaaPkAwake
namespace Go.Proofs.Ytggclllegbiokaa
set_option linter.unusedVariables false
open Go.RowKit

theorem refPack_lst (a : Option Addr) (c b z : Nat) (l : List Int) (h : Pk.Ok b) (hl : l.length ≤ 256) (hz : Pk.size b l.length = z) (w : World) (ha : Lst .i64 w a l) (hc : Pk.Cds b l) :
    Calls Try.prog 13 #[.slice a l.length c, .int .i64 b] w fun e w' => ∃ a' c', e = .returned (.slice a' z c') ∧ Lst .u64 w' a' (Pk.pack b l) ∧ Below w.heap.size w w' := by
  subst hz
  by_cases h0 : l.length = 0
  · have e0 : l = [] := List.length_eq_zero_iff.1 h0
    subst e0
    refine (refPack_nil a c b h w).mono ?_
    rintro e w' ⟨rfl, rfl⟩
    have hs : Pk.size b 0 = 0 := by unfold Pk.size; simp
    refine ⟨none, 0, by show _ = Ending.returned (.slice none (Pk.size b 0) 0); rw [hs], ?_, Below.refl _ _⟩
    rw [show Pk.pack b [] = [] from by unfold Pk.pack; show Ls.gen (Pk.size b 0) _ = []; rw [hs]; rfl]
    exact Lst.nil _ _ _
  · refine (refPack_any a c b l h (by omega) hl w ha hc).mono ?_
    rintro e w' ⟨v, rfl, ho, hb⟩
    obtain ⟨a', c', rfl, hL⟩ := lst_of_ownm ho (Pk.pack_length b l).symm
    exact ⟨a', c', rfl, hL, hb⟩

theorem pack_okz (a : Option Addr) (m c b z : Nat) (l : List Int) (hm : m = l.length) (h : Pk.Ok b) (hl : l.length ≤ 256) (hz : Pk.size b l.length = z) (w : World) (ha : Lst .i64 w a l) (hc : Pk.Cds b l) :
    Calls Try.prog 9 #[.slice a m c, .int .i64 b] w fun e w' => ∃ g, e = .returned (.tuple #[.slice (some ⟨g, 0, none⟩) z z, .int .i64 0]) ∧
      Lst .u64 w' (some ⟨g, 0, none⟩) (Pk.pack b l) ∧ Below w.heap.size w w' := by
  subst hz hm
  refine (pack_ok a c b l h hl w ha hc).mono ?_
  rintro e w' ⟨g, rfl, _, hL, hb⟩
  exact ⟨g, rfl, hL, hb⟩

theorem unpack_okm (a : Option Addr) (m c n b : Nat) (ws : List Int) (hm : m = ws.length) (h : Pk.Ok b) (hn : n ≤ 256) (w : World) (ha : Lst .u64 w a ws) (hw : Pk.Wds ws) (hl : ws.length = Pk.size b n) (hs : Pk.stray b n ws = false) :
    Calls Try.prog 11 #[.slice a m c, .int .i64 n, .int .i64 b] w fun e w' => ∃ g, e = .returned (.tuple #[.slice (some ⟨g, 0, none⟩) n n, .int .i64 0]) ∧
      Lst .i64 w' (some ⟨g, 0, none⟩) (Pk.unpack b n ws) ∧ Below w.heap.size w w' := by
  subst hm
  refine (unpack_ok a c n b ws h hn w ha hw hl hs).mono ?_
  rintro e w' ⟨g, rfl, _, hL, hb⟩
  exact ⟨g, rfl, hL, hb⟩

/-- 'append(own, l...)' under a guard that holds ('.. && f(append(own, l...))'). -/
theorem wpList_append_lst_g {P : Program} {w : World} {ops : Array Oper} {rest : List Oper} {o : Oper} {a : Act} {Q : Exit → Act → World → Prop} (hgd : Region.wanted o (yielded ops a.tmps) = true) (s x : Operand) (t : TypeId)
    (ho : o.op = .call { callee := .builtin .append, args := #[s, x], argTypes := #[t, t] })
    (base : Nat) (e : TypeId) (k : IntKind) (bytes : Nat) (ht : P.underlying t = some (.slice e)) (hinfo : (P.info? e).map (fun i => (i.zero, i.size, i.bytes)) = some (some (.int k 0), 1, bytes))
    (v : Value) (n : Nat) (xs : List Value) (hs : a.eval s = v) (hown : w.ownsRow base e 1 v n xs)
    (ao : Option Addr) (l : List Int) (m c : Nat) (hm : m = l.length) (hx : a.eval x = .slice ao m c) (hL : Lst k w ao l) (hc : ao = none → c = 0)
    (h63 : n + l.length ≤ maxLen) (hbytes : (n + l.length) * bytes ≤ 140737488355328) (hbase : base ≤ w.heap.size)
    (h : ∀ v' w', w'.ownsRow base e 1 v' (n + l.length) (xs ++ l.map (Value.int k)) → w.grownBy w' v.ownBlock → wpList P ops Q rest (a.put o.dst v') w') : wpList P ops Q (o :: rest) a w := by
  obtain ⟨i, hi, hz0, hz1, hz2⟩ := info_parts hinfo
  subst hm
  refine wpList_step fun K hK => ?_
  rw [if_pos hgd]
  cases ao with
  | none =>
    have e0 := hL.none_nil
    subst e0
    have hc0 := hc rfl
    subst hc0
    have hrun := run_append_owned_none (P := P) (w := w) base t o.type e i 1 ht hi v n xs hown
    unfold Oper.wp
    have hx : a.eval x = .slice none 0 0 := hx
    simp [execOp, ho, resolve, invoke, builtin, hs, hx, hrun, Result.andThen]
    exact hK _ _ (h v w (by simpa using hown) (World.grownBy.refl _ _))
  | some ad =>
    refine wp_append_own w s x t ho base e i (.int k 0) 1 bytes ht hi hz0 hz1 hz2 rfl (by omega) v n xs hs hown ad l.length c (l.map (Value.int k)) hx (by simp) ?_ (ints_oneCell k l) h63 hbytes hbase (fun v' w' h1 h2 _ => hK _ _ (h v' w' h1 h2))
    intro j u hu
    have hj : j < l.length := by
      have := (List.getElem?_eq_some_iff.1 hu).1
      simpa using this
    obtain ⟨b, o1, e1, hcell⟩ := hL j hj
    simp at e1
    subst e1
    rw [Addr.add_lit, hcell]
    simpa [Ls.nth, hj] using hu
end Go.Proofs.Ytggclllegbiokaa
