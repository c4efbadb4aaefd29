/- The contracts of layer 7 with lengths by name. -/
import Derived.Test.YtbiclpaakehgpaaGpAwake
namespace Go.Proofs.Ytbiclpaakehgpaa
set_option linter.unusedVariables false
open Go.RowKit

theorem refSame_anym (z1 s1 z2 s2 : Int) (a1 a2 : Option Addr) (m1 c1 m2 c2 : Nat) (x y : List Int) (w : World) (h1 : m1 = x.length) (h2 : m2 = y.length) (ha : Lst .i64 w a1 x) (hb : Lst .i64 w a2 y) (hl : x.length ≤ maxLen) (q : Bool) (hq : Gp.eqG z1 s1 x z2 s2 y = q) :
    Calls Try.prog 13 #[.agg #[.int .i32 z1, .int .u32 s1, .slice a1 m1 c1], .agg #[.int .i32 z2, .int .u32 s2, .slice a2 m2 c2]] w fun r w' => r = .returned (.bool q) ∧ Below w.heap.size w w' := by
  subst h1 h2
  exact refSame_any z1 s1 z2 s2 a1 a2 c1 c2 x y w ha hb hl q hq
theorem equal_anym (z1 s1 z2 s2 : Int) (a1 a2 : Option Addr) (m1 c1 m2 c2 : Nat) (x y : List Int) (w : World) (h1 : m1 = x.length) (h2 : m2 = y.length) (ha : Lst .i64 w a1 x) (hb : Lst .i64 w a2 y) (hl : x.length ≤ maxLen) (q : Bool) (hq : Gp.eqG z1 s1 x z2 s2 y = q) :
    Calls Try.prog 22 #[.agg #[.int .i32 z1, .int .u32 s1, .slice a1 m1 c1], .agg #[.int .i32 z2, .int .u32 s2, .slice a2 m2 c2]] w fun r w' => r = .returned (.bool q) ∧ Below w.heap.size w w' := by
  subst h1 h2
  exact equal_any z1 s1 z2 s2 a1 a2 c1 c2 x y w ha hb hl q hq
theorem right_anym (z sc : Int) (a : Option Addr) (n cp b s : Nat) (c : List Int) (e : Int) (w : World) (hn : n = c.length) (ha : Lst .i64 w a c) (hst : Gp.St b s) (h0 : 0 < n) (hl : n ≤ 256) (hs1 : 0 ≤ sc) (hs2 : sc ≤ 4294967295) (he : Gp.right s sc c = e) :
    Calls Try.prog 15 #[.agg #[.int .i32 z, .int .u32 sc, .slice a n cp], .int .i64 b] w fun r w' => r = .returned (.int .i64 e) ∧ Below w.heap.size w w' := by
  subst hn
  exact right_any z sc a cp b s c e w ha hst h0 hl hs1 hs2 he
theorem back_anym (z sc : Int) (a : Option Addr) (n cp : Nat) (c : List Int) (w : World) (hn : n = c.length) (ha : Lst .i64 w a c) (hl : n ≤ 256) (hf : Gp.fits 255 c = true) (hz1 : -2147483648 ≤ z) (hz2 : z ≤ 2147483647) (hs1 : 0 ≤ sc) (hs2 : sc ≤ 4294967295) :
    Calls Try.prog 17 #[.agg #[.int .i32 z, .int .u32 sc, .slice a n cp]] w fun e w' => ∃ g, e = .returned (.slice (some ⟨g, 0, none⟩) n n) ∧ w.heap.size ≤ g ∧
      Lst .i32 w' (some ⟨g, 0, none⟩) (Gp.means z sc c) ∧ Below w.heap.size w w' := by
  subst hn
  exact back_any z sc a cp c w ha hl hf hz1 hz2 hs1 hs2
theorem refBack_anym (z sc : Int) (a : Option Addr) (n cp : Nat) (c : List Int) (w : World) (hn : n = c.length) (ha : Lst .i64 w a c) (hl : n ≤ 256) (hf : Gp.fits 255 c = true) (hz1 : -2147483648 ≤ z) (hz2 : z ≤ 2147483647) (hs1 : 0 ≤ sc) (hs2 : sc ≤ 4294967295) :
    Calls Try.prog 18 #[.agg #[.int .i32 z, .int .u32 sc, .slice a n cp]] w fun e w' => ∃ a' c', e = .returned (.slice a' n c') ∧
      Lst .i32 w' a' (Gp.means z sc c) ∧ Below w.heap.size w w' := by
  subst hn
  exact refBack_any z sc a cp c w ha hl hf hz1 hz2 hs1 hs2
theorem of_okm (a : Option Addr) (n cp b s : Nat) (l : List Int) (w : World) (hn : n = l.length) (ha : Lst .i32 w a l) (hx : Ls.In32 l) (hst : Gp.St b s) (h0 : 0 < n) (hl : n ≤ 256) (z sc : Int) (ez : Gp.low l = z) (es : Gp.scale s l = sc) :
    Calls Try.prog 10 #[.slice a n cp, .int .i64 b] w fun e w' => ∃ g, e = .returned (.tuple #[.agg #[.int .i32 z, .int .u32 sc, .slice (some ⟨g, 0, none⟩) n n], .int .i64 0]) ∧ w.heap.size ≤ g ∧
      Lst .i64 w' (some ⟨g, 0, none⟩) (Gp.codes z sc l) ∧ Below w.heap.size w w' := by
  subst hn
  exact of_ok a cp b s l w ha hx hst h0 hl z sc ez es
theorem Lst.set_other {k : IntKind} {w : World} {a : Option Addr} {l : List Int} (h : Lst k w a l) {p : Addr} (hp : ∀ x, a = some x → ¬ x.block = p.block) (v : Value) : Lst k (w.setCell p v) a l := fun i hi => by
  obtain ⟨b, o, e, hc⟩ := h i hi
  refine ⟨b, o, e, ?_⟩
  rw [World.cell?_of_block (Go.Deep.blk_setCell_other w p v b (hp ⟨b, o, none⟩ e))]
  exact hc
/-- Out of the frame's own word of a slice of 64 bit numbers that came in. -/
theorem row_openG {w : World} {a : Option Addr} {len cap : Nat} {zs : List Int}
    (h : (a = none ∧ len = 0 ∧ cap = 0 ∧ zs = []) ∨ ∃ x, a = some x ∧ len ≤ cap ∧ cap ≤ maxLen ∧ zs.length = cap ∧ (∀ i, i < zs.length → w.cell? (x.add i) = some (.int .i64 (zs.getD i 0))) ∧ ∀ n ∈ zs, (Lit.int .i64 n).wf = true) :
    ∃ l : List Int, l.length = len ∧ Lst .i64 w a l ∧ len ≤ maxLen := by
  rcases h with ⟨rfl, rfl, rfl, rfl⟩ | ⟨x, rfl, h1, h2, h3, h4, h5⟩
  · exact ⟨[], rfl, Lst.nil _ _ _, Nat.zero_le _⟩
  · exact ⟨zs.take len, by simp; omega, lst_of_cells (by omega) h4, by omega⟩
end Go.Proofs.Ytbiclpaakehgpaa
