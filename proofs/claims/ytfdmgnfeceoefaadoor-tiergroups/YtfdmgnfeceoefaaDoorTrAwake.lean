/- Layer 9's fixed answers. -/
import Derived.Test.YtfdmgnfeceoefaaDoorTrText
namespace Go.Proofs.YtfdmgnfeceoefaaDoor
set_option linter.unusedVariables false
open Go.RowKit Go.Sort
open Tr

namespace Tr
theorem pis_ok {s : ByteArray} {e : Ending} {w' : World} {g i : Nat} {ls : List (Nat × Nat)} (h : PIs s e w') (hs : Says (bl s) g i ls) (hr : right g i (I ls) = 0) :
    ∃ a c, e = .returned (.tuple #[.agg #[.int .i64 g, .int .i64 i, .slice a ls.length c], .int .i64 0]) ∧ Ps w' a (I ls) ∧ ls.length ≤ c ∧ c ≤ maxLen := by
  rcases h with ⟨_, h⟩ | ⟨g', i', ls', hs', h⟩
  · exact absurd hs (h g i ls)
  · obtain ⟨rfl, rfl, rfl⟩ := hs'.uniq hs
    rcases h with ⟨h, _⟩ | ⟨_, a, c, q1, q2, q3, q4⟩
    · exact absurd hr h
    · exact ⟨a, c, q1, q2, q3, q4⟩
theorem pis_bad {s : ByteArray} {e : Ending} {w' : World} {g i : Nat} {ls : List (Nat × Nat)} (h : PIs s e w') (hs : Says (bl s) g i ls) (hr : ¬ right g i (I ls) = 0) :
    e = .returned (.tuple #[.agg #[.int .i64 0, .int .i64 0, .slice none 0 0], .int .i64 (right g i (I ls))]) := by
  rcases h with ⟨_, h⟩ | ⟨g', i', ls', hs', h⟩
  · exact absurd hs (h g i ls)
  · obtain ⟨rfl, rfl, rfl⟩ := hs'.uniq hs
    rcases h with ⟨_, h⟩ | ⟨h, _⟩
    · exact h
    · exact absurd h hr
theorem pis_none {s : ByteArray} {e : Ending} {w' : World} (h : PIs s e w') (hs : None (bl s)) : e = .returned (.tuple #[.agg #[.int .i64 0, .int .i64 0, .slice none 0 0], .int .i64 10]) := by
  rcases h with ⟨h, _⟩ | ⟨g', i', ls', hs', h⟩
  · exact h
  · exact absurd hs' (hs g' i' ls')
theorem d2 : dec 2 = [50] := dec_one (by omega)
theorem d3 : dec 3 = [51] := dec_one (by omega)
theorem d4 : dec 4 = [52] := dec_one (by omega)
theorem d8 : dec 8 = [56] := dec_one (by omega)
theorem txt1 : txt 4 2 [(8, 4), (2, 2)] = [103, 52, 32, 119, 50, 32, 56, 47, 52, 32, 50, 47, 50] := by simp [txt, tail, d2, d4, d8]
theorem txt2 : txt 4 2 [] = [103, 52, 32, 119, 50] := by simp [txt, tail, d2, d4]
theorem txt3 : txt 4 2 [(3, 4)] = [103, 52, 32, 119, 50, 32, 51, 47, 52] := by simp [txt, tail, d2, d3, d4]
theorem says1 : Says (bl ⟨#[103, 52, 32, 119, 50, 32, 56, 47, 52, 32, 50, 47, 50]⟩) 4 2 [(8, 4), (2, 2)] :=
  ⟨txt1.symm, by omega, by omega, (fun p hp => by simp at hp; rcases hp with rfl | rfl <;> exact ⟨by decide, by decide⟩), by simp⟩
theorem none2 : None (bl ⟨#[103, 52, 32, 119, 50]⟩) := by
  rintro g w ms ⟨h, _, _, _, hn⟩
  obtain ⟨_, _, e⟩ := txt_inj (txt2.trans h)
  exact hn e.symm
theorem says3 : Says (bl ⟨#[103, 52, 32, 119, 50, 32, 51, 47, 52]⟩) 4 2 [(3, 4)] :=
  ⟨txt3.symm, by omega, by omega, (fun p hp => by simp at hp; subst hp; exact ⟨by decide, by decide⟩), by simp⟩
theorem right1 : right 4 2 (I [(8, 4), (2, 2)]) = 0 := by decide
theorem right3 : right ((4 : Nat) : Int) ((2 : Nat) : Int) (I [(3, 4)]) = 20 := by decide
end Tr

set_option maxRecDepth 100000 in
set_option maxHeartbeats 3200000 in
theorem awake_any (w : World) (hv : Vars w) :
    Calls Tryd.prog 8 #[] w fun e w' => e = .returned (.bool true) ∧ Below w.heap.size w w' := by
  have HV : Hid (Vars w) := hv
  clear hv
  go_enter Tryd.func8, Tryd.ntmps8
  go_wp2_with fail
  refine (parse_any _ (by decide) _ HV.out).mono ?_
  rintro e w1 ⟨b1, h1⟩
  obtain ⟨a, c, rfl, hp, hc1, hc2⟩ := pis_ok h1 says1 right1
  have B1 : Hid (Below w.heap.size w w1) := b1
  have P1 : Hid (Ps w1 a (I [(8, 4), (2, 2)])) := hp
  clear h1 b1 hp
  go_wp2_with fail
  refine (text_ok 4 2 a 2 c [(8, 4), (2, 2)] rfl right1 _ (P1.out.keep (box_over _ _))).mono ?_
  rintro e w2 ⟨t, rfl, ht, -, b2⟩
  have et : t = ⟨#[103, 52, 32, 119, 50, 32, 56, 47, 52, 32, 50, 47, 50]⟩ := bl_inj (by rw [ht.out, txt1]; rfl)
  subst et
  have B2 : Hid (Below w1.heap.size w1 w2) := (box_over _ _).trans (b2.mono (by simp))
  have z2 : w1.heap.size < w2.heap.size := by have := b2.size; simp at this; omega
  have R2 : Hid (w2.rowIs w1.heap.size 24 3 (pcell 4 2 (.slice a 2 c))) := (pcell_alloc w1 4 2 (.slice a 2 c) 24).of_block (b2.block _ (by simp))
  clear ht b2
  go_wp2_with fail
  refine (parse_any _ (by decide) _ (HV.out.keep (below_then B1.out B2.out))).mono ?_
  rintro e w3 ⟨b3, h3⟩
  obtain rfl := pis_none h3 none2
  have B3 : Hid (Below w1.heap.size w1 w3) := below_then B2.out b3
  have R3 : Hid (w3.rowIs w1.heap.size 24 3 (pcell 4 2 (.slice a 2 c))) := R2.out.of_block (b3.block _ R2.out.lt)
  clear h3 b3
  go_wp2_with fail
  refine (parse_any _ (by decide) _ ((HV.out.keep (below_then B1.out B3.out)).keep (box_over _ _))).mono ?_
  rintro e w4 ⟨b4, h4⟩
  obtain rfl := pis_bad h4 says3 (by rw [right3]; decide)
  rw [right3]
  have B4 : Hid (Below w1.heap.size w1 w4) := (below_then B3.out (box_over _ _)).trans (b4.mono (by have := B3.out.size; simp; omega))
  have R4 : Hid (w4.rowIs w1.heap.size 24 3 (pcell 4 2 (.slice a 2 c))) := (R3.out.alloc _).of_block (b4.block _ (R3.out.alloc _).lt)
  clear h4 b4
  have z4 : w1.heap.size < w4.heap.size := R4.out.lt
  have c0 : w4.cell? ⟨w1.heap.size, 0, none⟩ = some (.int .i64 4) := R4.out.cell (show 0 < 3 by decide)
  have c1 : w4.cell? ⟨w1.heap.size, 1, none⟩ = some (.int .i64 2) := R4.out.cell (show 1 < 3 by decide)
  have c2 : w4.cell? ⟨w1.heap.size, 2, none⟩ = some (.slice a 2 c) := R4.out.cell (show 2 < 3 by decide)
  go_wp2_with fail
  refine (groups_any 4 2 6 1 a 2 c (by omega) (by omega) (by omega) (by omega) (by decide) _).mono ?_
  rintro e w5 ⟨rfl, b5⟩
  have B5 : Hid (Below w1.heap.size w1 w5) := (below_then B4.out (box_over _ _)).trans (b5.mono (by have := B4.out.size; simp; omega))
  have R5 : Hid (w5.rowIs w1.heap.size 24 3 (pcell 4 2 (.slice a 2 c))) := (R4.out.alloc _).of_block (b5.block _ (R4.out.alloc _).lt)
  clear b5 c0 c1 c2
  have c0 : w5.cell? ⟨w1.heap.size, 0, none⟩ = some (.int .i64 4) := R5.out.cell (show 0 < 3 by decide)
  have c1 : w5.cell? ⟨w1.heap.size, 1, none⟩ = some (.int .i64 2) := R5.out.cell (show 1 < 3 by decide)
  have c2 : w5.cell? ⟨w1.heap.size, 2, none⟩ = some (.slice a 2 c) := R5.out.cell (show 2 < 3 by decide)
  go_wp2_with fail
  refine (plain_any 4 2 6 2 a 2 c (by omega) (by omega) (by omega) (by omega) (by decide) _).mono ?_
  rintro e w6 ⟨rfl, b6⟩
  have B6 : Hid (Below w1.heap.size w1 w6) := below_then B5.out b6
  have R6 : Hid (w6.rowIs w1.heap.size 24 3 (pcell 4 2 (.slice a 2 c))) := R5.out.of_block (b6.block _ R5.out.lt)
  clear b6 c0 c1 c2
  have c0 : w6.cell? ⟨w1.heap.size, 0, none⟩ = some (.int .i64 4) := R6.out.cell (show 0 < 3 by decide)
  have c1 : w6.cell? ⟨w1.heap.size, 1, none⟩ = some (.int .i64 2) := R6.out.cell (show 1 < 3 by decide)
  have c2 : w6.cell? ⟨w1.heap.size, 2, none⟩ = some (.slice a 2 c) := R6.out.cell (show 2 < 3 by decide)
  go_wp2_with fail
  refine (groups_any 4 2 9 1 a 2 c (by omega) (by omega) (by omega) (by omega) (by decide) _).mono ?_
  rintro e w7 ⟨rfl, b7⟩
  have B7 : Hid (Below w1.heap.size w1 w7) := below_then B6.out b7
  have R7 : Hid (w7.rowIs w1.heap.size 24 3 (pcell 4 2 (.slice a 2 c))) := R6.out.of_block (b7.block _ R6.out.lt)
  clear b7 c0 c1 c2
  have c0 : w7.cell? ⟨w1.heap.size, 0, none⟩ = some (.int .i64 4) := R7.out.cell (show 0 < 3 by decide)
  have c1 : w7.cell? ⟨w1.heap.size, 1, none⟩ = some (.int .i64 2) := R7.out.cell (show 1 < 3 by decide)
  have c2 : w7.cell? ⟨w1.heap.size, 2, none⟩ = some (.slice a 2 c) := R7.out.cell (show 2 < 3 by decide)
  go_wp2_with fail
  refine (most_any 4 2 (.slice a 2 c) (by omega) (by omega) (by omega) (by omega) _).mono ?_
  rintro e w8 ⟨rfl, b8⟩
  have B8 : Hid (Below w1.heap.size w1 w8) := below_then B7.out b8
  have R8 : Hid (w8.rowIs w1.heap.size 24 3 (pcell 4 2 (.slice a 2 c))) := R7.out.of_block (b8.block _ R7.out.lt)
  clear b8 c0 c1 c2
  have c0 : w8.cell? ⟨w1.heap.size, 0, none⟩ = some (.int .i64 4) := R8.out.cell (show 0 < 3 by decide)
  have c1 : w8.cell? ⟨w1.heap.size, 1, none⟩ = some (.int .i64 2) := R8.out.cell (show 1 < 3 by decide)
  have c2 : w8.cell? ⟨w1.heap.size, 2, none⟩ = some (.slice a 2 c) := R8.out.cell (show 2 < 3 by decide)
  go_wp2_with fail
  refine (equal_any 4 2 4 2 a a c c (I [(8, 4), (2, 2)]) (I [(8, 4), (2, 2)]) true (by decide) _ (P1.out.keep B8.out) (P1.out.keep B8.out) (by decide)).mono ?_
  rintro e w9 ⟨rfl, b9⟩
  have B9 : Hid (Below w1.heap.size w1 w9) := below_then B8.out b9
  have R9 : Hid (w9.rowIs w1.heap.size 24 3 (pcell 4 2 (.slice a 2 c))) := R8.out.of_block (b9.block _ R8.out.lt)
  clear b9 c0 c1 c2
  have c0 : w9.cell? ⟨w1.heap.size, 0, none⟩ = some (.int .i64 4) := R9.out.cell (show 0 < 3 by decide)
  have c1 : w9.cell? ⟨w1.heap.size, 1, none⟩ = some (.int .i64 2) := R9.out.cell (show 1 < 3 by decide)
  have c2 : w9.cell? ⟨w1.heap.size, 2, none⟩ = some (.slice a 2 c) := R9.out.cell (show 2 < 3 by decide)
  go_wp2_with fail
  refine (right_any 4 2 a c (I [(8, 4), (2, 2)]) 0 right1 _ (P1.out.keep B9.out) (by decide)).mono ?_
  rintro e w10 ⟨rfl, b10⟩
  have B10 : Hid (Below w1.heap.size w1 w10) := below_then B9.out b10
  have R10 : Hid (w10.rowIs w1.heap.size 24 3 (pcell 4 2 (.slice a 2 c))) := R9.out.of_block (b10.block _ R9.out.lt)
  clear b10 c0 c1 c2
  have c0 : w10.cell? ⟨w1.heap.size, 0, none⟩ = some (.int .i64 4) := R10.out.cell (show 0 < 3 by decide)
  have c1 : w10.cell? ⟨w1.heap.size, 1, none⟩ = some (.int .i64 2) := R10.out.cell (show 1 < 3 by decide)
  have c2 : w10.cell? ⟨w1.heap.size, 2, none⟩ = some (.slice a 2 c) := R10.out.cell (show 2 < 3 by decide)
  go_wp2
  go_ret
  exact ⟨rfl, below_then B1.out B10.out⟩
end Go.Proofs.YtfdmgnfeceoefaaDoor
