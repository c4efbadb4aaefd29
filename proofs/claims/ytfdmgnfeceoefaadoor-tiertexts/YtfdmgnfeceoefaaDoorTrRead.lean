/- Contracts of layer 9: the document's Parse. -/
import Derived.Test.YtfdmgnfeceoefaaDoorTrNum
namespace Go.Proofs.YtfdmgnfeceoefaaDoor
set_option linter.unusedVariables false
open Go.RowKit Go.Sort
open Tr

namespace Tr
/-- If l says a plan, these layers are its first ones, and x is the others. -/
def Comp (l : List UInt8) (n m : Nat) (ls : List (Nat × Nat)) (x : List UInt8) : Prop := ∀ g w ms, Says l g w ms → g = n ∧ w = m ∧ ∃ ns, ms = ls ++ ns ∧ x = tail ns
theorem read_far {s s1 s2 s3 s4 : ByteArray} {a b c d : Bool} {n m : Nat} (h1 : Aft [103] s s1 a) (h2 : NumR s1 n s2 b) (h3 : Aft [32, 119] s2 s3 c) (h4 : NumR s3 m s4 d) (e1 : a = true) (e2 : b = true) (e3 : c = true) (e4 : d = true) : Far (bl s) n m [] (bl s4) := by
  obtain ⟨n1, q2⟩ := h2.1 e2
  obtain ⟨m1, q4⟩ := h4.1 e4
  refine ⟨?_, n1, m1, (fun p hp => by cases hp)⟩
  rw [h1.1 e1, q2, h3.1 e3, q4]
  simp [txt, tail]
theorem read_all {s s1 s2 s3 s4 : ByteArray} {a b c d : Bool} {n m : Nat} (h1 : Aft [103] s s1 a) (h2 : NumR s1 n s2 b) (h3 : Aft [32, 119] s2 s3 c) (h4 : NumR s3 m s4 d) {g w : Nat} {ms : List (Nat × Nat)} (h : Says (bl s) g w ms) : a = true ∧ b = true ∧ c = true ∧ d = true ∧ g = n ∧ w = m ∧ bl s4 = tail ms := by
  obtain ⟨e, hg, hw, _, _⟩ := h
  obtain ⟨q1, r1⟩ := h1.yes (x := dec g ++ 32 :: 119 :: (dec w ++ tail ms)) (by rw [e]; rfl)
  obtain ⟨q2, r2, t2⟩ := h2.2.2 g (32 :: 119 :: (dec w ++ tail ms)) hg (by simp [Sep, Dig]) r1
  obtain ⟨q3, r3⟩ := h3.yes (x := dec w ++ tail ms) (by rw [t2]; rfl)
  obtain ⟨q4, r4, t4⟩ := h4.2.2 w (tail ms) hw (sep_tail _) r3
  exact ⟨q1, q2, q3, q4, r2.symm, r4.symm, t4⟩
theorem read_comp {s s1 s2 s3 s4 : ByteArray} {a b c d : Bool} {n m : Nat} (h1 : Aft [103] s s1 a) (h2 : NumR s1 n s2 b) (h3 : Aft [32, 119] s2 s3 c) (h4 : NumR s3 m s4 d) : Comp (bl s) n m [] (bl s4) := fun g w ms h => by
  obtain ⟨-, -, -, -, e1, e2, e3⟩ := read_all h1 h2 h3 h4 h
  exact ⟨e1, e2, ms, rfl, e3⟩
theorem read_none {s s1 s2 s3 s4 : ByteArray} {a b c d : Bool} {n m : Nat} (h1 : Aft [103] s s1 a) (h2 : NumR s1 n s2 b) (h3 : Aft [32, 119] s2 s3 c) (h4 : NumR s3 m s4 d) (e : a = false ∨ b = false ∨ c = false ∨ d = false ∨ bl s4 = []) : None (bl s) := fun g w ms h => by
  obtain ⟨q1, q2, q3, q4, -, -, q5⟩ := read_all h1 h2 h3 h4 h
  rcases e with e | e | e | e | e
  · rw [q1] at e; cases e
  · rw [q2] at e; cases e
  · rw [q3] at e; cases e
  · rw [q4] at e; cases e
  · rw [e] at q5
    cases ms with
    | nil => exact h.2.2.2.2 rfl
    | cons p r => simp [tail] at q5
theorem lay_all {sb t1 t2 t3 t4 : ByteArray} {e f g h : Bool} {k v : Nat} (h1 : Aft [32] sb t1 e) (h2 : NumR t1 k t2 f) (h3 : Aft [47] t2 t3 g) (h4 : NumR t3 v t4 h) {p : Nat × Nat} {r : List (Nat × Nat)} (hp : p.1 < 2147483648 ∧ p.2 < 2147483648) (es : bl sb = tail (p :: r)) : e = true ∧ f = true ∧ g = true ∧ h = true ∧ k = p.1 ∧ v = p.2 ∧ bl t4 = tail r := by
  obtain ⟨q1, r1⟩ := h1.yes (x := dec p.1 ++ 47 :: (dec p.2 ++ tail r)) (by rw [es]; rfl)
  obtain ⟨q2, r2, u2⟩ := h2.2.2 p.1 _ hp.1 (by simp [Sep, Dig]) r1
  obtain ⟨q3, r3⟩ := h3.yes (x := dec p.2 ++ tail r) (by rw [u2]; rfl)
  obtain ⟨q4, r4, u4⟩ := h4.2.2 p.2 (tail r) hp.2 (sep_tail _) r3
  exact ⟨q1, q2, q3, q4, r2, r4, u4⟩
theorem lay_far {l : List UInt8} {n m : Nat} {ls : List (Nat × Nat)} {sb t1 t2 t3 t4 : ByteArray} {e f g h : Bool} {k v : Nat} (hf : Far l n m ls (bl sb)) (h1 : Aft [32] sb t1 e) (h2 : NumR t1 k t2 f) (h3 : Aft [47] t2 t3 g) (h4 : NumR t3 v t4 h) (e1 : e = true) (e2 : f = true) (e3 : g = true) (e4 : h = true) : Far l n m (ls ++ [(k, v)]) (bl t4) := by
  obtain ⟨k1, q2⟩ := h2.1 e2
  obtain ⟨v1, q4⟩ := h4.1 e4
  refine ⟨?_, hf.2.1, hf.2.2.1, small_snoc hf.2.2.2 k1 v1⟩
  rw [hf.1, txt_snoc, h1.1 e1, q2, h3.1 e3, q4]
  simp
theorem lay_size {sb t1 t2 t3 t4 : ByteArray} {e f g h : Bool} {k v : Nat} (h1 : Aft [32] sb t1 e) (h2 : NumR t1 k t2 f) (h3 : Aft [47] t2 t3 g) (h4 : NumR t3 v t4 h) (e1 : e = true) : t4.size < sb.size := by
  have q2 := h2.size
  have q3 := h3.size
  have q4 := h4.size
  have : sb.size = 1 + t1.size := by rw [bl_size sb, bl_size t1, h1.1 e1]; simp; omega
  omega
theorem lay_comp {l : List UInt8} {n m : Nat} {ls : List (Nat × Nat)} {sb t1 t2 t3 t4 : ByteArray} {e f g h : Bool} {k v : Nat} (hc : Comp l n m ls (bl sb)) (hn : bl sb ≠ []) (h1 : Aft [32] sb t1 e) (h2 : NumR t1 k t2 f) (h3 : Aft [47] t2 t3 g) (h4 : NumR t3 v t4 h) : Comp l n m (ls ++ [(k, v)]) (bl t4) := fun g' w' ms hs => by
  obtain ⟨e1, e2, ns, rfl, e4⟩ := hc g' w' ms hs
  cases ns with
  | nil => exact absurd e4 hn
  | cons p r =>
    obtain ⟨-, -, -, -, q1, q2, q3⟩ := lay_all h1 h2 h3 h4 (hs.2.2.2.1 p (by simp)) e4
    exact ⟨e1, e2, r, by rw [q1, q2]; simp, q3⟩
theorem lay_none {l : List UInt8} {n m : Nat} {ls : List (Nat × Nat)} {sb t1 t2 t3 t4 : ByteArray} {e f g h : Bool} {k v : Nat} (hc : Comp l n m ls (bl sb)) (hn : bl sb ≠ []) (h1 : Aft [32] sb t1 e) (h2 : NumR t1 k t2 f) (h3 : Aft [47] t2 t3 g) (h4 : NumR t3 v t4 h) (hb : e = false ∨ f = false ∨ g = false ∨ h = false) : None l := fun g' w' ms hs => by
  obtain ⟨e1, e2, ns, rfl, e4⟩ := hc g' w' ms hs
  cases ns with
  | nil => exact absurd e4 hn
  | cons p r =>
    obtain ⟨q1, q2, q3, q4, -, -, -⟩ := lay_all h1 h2 h3 h4 (hs.2.2.2.1 p (by simp)) e4
    rcases hb with hb | hb | hb | hb
    · rw [q1] at hb; cases hb
    · rw [q2] at hb; cases hb
    · rw [q3] at hb; cases hb
    · rw [q4] at hb; cases hb
theorem pcell_set01 (g i g' i' : Int) (v : Value) (j : Nat) (hj : j < 3) : (if j = 1 then .int .i64 i' else if j = 0 then .int .i64 g' else pcell g i v j) = pcell g' i' v j := by
  unfold pcell
  match j, hj with
  | 0, _ => rfl
  | 1, _ => rfl
  | 2, _ => rfl
theorem bl_empty {s : ByteArray} (h : s = ⟨#[]⟩) : bl s = [] := by rw [h]; rfl
theorem text_some {s : ByteArray} (h : ¬ s = ⟨#[]⟩) : s.toList.isEmpty = false := by
  rw [ByteArray.toList_eq]
  cases e : s.data.toList with
  | nil => exact absurd (bl_inj (show bl s = bl ⟨#[]⟩ from e)) h
  | cons c r => rfl
theorem bl_none {s : ByteArray} (h : ¬ s = ⟨#[]⟩) : bl s ≠ [] := fun e => h (bl_inj e)
end Tr

set_option maxRecDepth 100000 in
set_option maxHeartbeats 6400000 in
theorem refParse_any (s : ByteArray) (hs : s.size ≤ 1000000) (w : World) :
    Calls Tryd.prog 17 #[.string s] w fun e w' => Below w.heap.size w w' ∧ PIs s e w' := by
  obtain ⟨i0, hi0, hi1, hi2, hi3⟩ := info_parts Tryd.infoPair
  go_enter Tryd.func17, Tryd.ntmps17
  go_wp2_with fail
  refine (after_any s ⟨#[103]⟩ [103] rfl hs (by decide) _).mono ?_
  rintro e w' ⟨s1, a, rfl, A1, rfl⟩
  have z1 : s1.size ≤ 1000000 := by have := A1.out.size; omega
  go_wp2_with fail
  refine (refNumber_any s1 z1 _).mono ?_
  rintro e v1 ⟨n, s2, b, rfl, N1, b1⟩
  have z2 : s2.size ≤ 1000000 := by have := N1.out.size; omega
  go_wp2_with fail
  refine (after_any s2 ⟨#[32, 119]⟩ [32, 119] rfl z2 (by decide) _).mono ?_
  rintro e w' ⟨s3, c, rfl, A2, rfl⟩
  have z3 : s3.size ≤ 1000000 := by have := A2.out.size; omega
  go_wp2_with fail
  refine (refNumber_any s3 z3 _).mono ?_
  rintro e v2 ⟨m, s4, d, rfl, N2, b2⟩
  have z4 : s4.size ≤ 1000000 := by have := N2.out.size; omega
  have BA : Hid (Below w.heap.size w v2) := (((box_over _ _).trans ((box_over _ _).mono (by simp))).trans (b1.mono (by simp; omega))).trans (b2.mono (by have := b1.size; simp at this; omega))
  have BB : Hid (Below (w.heap.size + 1) (w.alloc (.cells #[.int .i64 0, .int .i64 0, .slice none 0 0] 32)) v2) := (((Below.refl _ _).alloc (by simp) _).trans (b1.mono (by simp))).trans (b2.mono (by have := b1.size; simp at this; omega))
  have R2 : Hid (v2.rowIs w.heap.size 32 3 (pcell 0 0 (.slice none 0 0))) := (pcell_alloc w 0 0 (.slice none 0 0) 32).of_block (BB.out.block _ (by simp))
  have P2 : Hid (v2.rowIs (w.heap.size + 1) 32 3 (pcell 0 0 (.slice none 0 0))) := by
    have h := pcell_alloc (w.alloc (.cells #[.int .i64 0, .int .i64 0, .slice none 0 0] 32)) 0 0 (.slice none 0 0) 32
    have h2 : ((w.alloc (.cells #[.int .i64 0, .int .i64 0, .slice none 0 0] 32)).alloc (.cells #[.int .i64 0, .int .i64 0, .slice none 0 0] 32)).rowIs (w.heap.size + 1) 32 3 (pcell 0 0 (.slice none 0 0)) := by simpa using h
    have h3 := h2.of_block (b1.block _ (by simp))
    exact h3.of_block (b2.block _ h3.lt)
  have zz : w.heap.size + 1 < v2.heap.size := P2.out.lt
  clear b1 b2
  have c0 : v2.cell? ⟨w.heap.size, 0, none⟩ = some (.int .i64 0) := R2.out.cell (show 0 < 3 by decide)
  have c1 : v2.cell? ⟨w.heap.size, 1, none⟩ = some (.int .i64 0) := R2.out.cell (show 1 < 3 by decide)
  have c2 : v2.cell? ⟨w.heap.size, 2, none⟩ = some (.slice none 0 0) := R2.out.cell (show 2 < 3 by decide)
  have f0 : v2.frozen? ⟨w.heap.size, 0, none⟩ = false := R2.out.frozen 0
  have f1 : v2.frozen? ⟨w.heap.size, 1, none⟩ = false := R2.out.frozen 1
  have f2 : v2.frozen? ⟨w.heap.size, 2, none⟩ = false := R2.out.frozen 2
  have d0 : v2.cell? ⟨w.heap.size + 1, 0, none⟩ = some (.int .i64 0) := P2.out.cell (show 0 < 3 by decide)
  have d1 : v2.cell? ⟨w.heap.size + 1, 1, none⟩ = some (.int .i64 0) := P2.out.cell (show 1 < 3 by decide)
  have d2 : v2.cell? ⟨w.heap.size + 1, 2, none⟩ = some (.slice none 0 0) := P2.out.cell (show 2 < 3 by decide)
  have g0 : v2.frozen? ⟨w.heap.size + 1, 0, none⟩ = false := P2.out.frozen 0
  have g1 : v2.frozen? ⟨w.heap.size + 1, 1, none⟩ = false := P2.out.frozen 1
  have g2 : v2.frozen? ⟨w.heap.size + 1, 2, none⟩ = false := P2.out.frozen 2
  by_cases hk : (a = true ∧ b = true ∧ c = true ∧ d = true) ∧ ¬ s4 = ⟨#[]⟩
  · obtain ⟨⟨rfl, rfl, rfl, rfl⟩, hne⟩ := hk
    have HF0 : Hid (Far (bl s) n m [] (bl s4)) := read_far A1.out N1.out A2.out N2.out rfl rfl rfl rfl
    have HC0 : Hid (Comp (bl s) n m [] (bl s4)) := read_comp A1.out N1.out A2.out N2.out
    have HE0 : Hid (bl s4 ≠ []) := bl_none hne
    have e4 : s4.toList.isEmpty = false := text_some hne
    clear A1 N1 A2 N2 hne
    go_wp2
    go_loopw [0] (fun s' wr => ∃ (sb : ByteArray) (ls : List (Nat × Nat)) (L : Nat) (v : Value), s' = .string sb ∧ L + sb.size ≤ 1000000 ∧ Hid (ls.length = L) ∧ Hid (Far (bl s) n m ls (bl sb)) ∧ Hid (Comp (bl s) n m ls (bl sb)) ∧ Hid (bl sb = [] → ls ≠ []) ∧ Hid (wr.rowIs (w.heap.size + 1) 32 3 (pcell n m v)) ∧ Hid (wr.ownsRow (w.heap.size + 2) 51 2 v L (pflat (I ls) L)) ∧ Hid (Below (w.heap.size + 1) (w.alloc (.cells #[.int .i64 0, .int .i64 0, .slice none 0 0] 32)) wr)) (fun s' _ => sz s')
    case atStart => exact ⟨s4, [], 0, .slice none 0 0, rfl, by omega, rfl, HF0.out, HC0.out, fun h => absurd h HE0.out, ((P2.out.set 0 _).set 1 _).congr (fun j hj => pcell_set01 0 0 n m _ j hj), World.ownsRow_nil _ _ _ _, (BB.out.setCell (by simp) _).setCell (by simp) _⟩
    case round =>
      obtain ⟨sb, ls, L, v, rfl, hL, HLN, HF, HC, HE, HR, HO, HB⟩ := hrel
      obtain ⟨va, vc, rfl⟩ := own2_slice HO.out
      have hsz : w.heap.size + 1 < wr.heap.size := HR.out.lt
      clear c0 c1 c2 f0 f1 f2 d0 d1 d2 g0 g1 g2 e4
      have r0 : wr.rowIs w.heap.size 32 3 (pcell 0 0 (.slice none 0 0)) := (pcell_alloc w 0 0 (.slice none 0 0) 32).of_block (HB.out.block _ (by simp))
      have HR0 : Hid (wr.rowIs w.heap.size 32 3 (pcell 0 0 (.slice none 0 0))) := r0
      have BW : Hid (Below w.heap.size w wr) := (box_over _ _).trans (HB.out.mono (by simp))
      clear r0
      by_cases hb : sb = ⟨#[]⟩
      · subst hb
        have SY : Hid (Says (bl s) n m ls) := Far.done (by have := HF.out; rw [show bl (⟨#[]⟩ : ByteArray) = [] from rfl] at this; exact this) (HE.out rfl)
        have hP : Hid (Ps wr va (I ls)) := (ps_of_own HO.out (by rw [I_length]; exact HLN.out.symm)).1
        obtain ⟨r, hr⟩ : ∃ r, right n m (I ls) = r := ⟨_, rfl⟩
        have HRT : Hid (right n m (I ls) = r) := hr
        have eL : L = (I ls).length := by rw [I_length]; exact HLN.out.symm
        clear hr
        have d0 : wr.cell? ⟨w.heap.size + 1, 0, none⟩ = some (.int .i64 n) := HR.out.cell (show 0 < 3 by decide)
        have d1 : wr.cell? ⟨w.heap.size + 1, 1, none⟩ = some (.int .i64 m) := HR.out.cell (show 1 < 3 by decide)
        have d2 : wr.cell? ⟨w.heap.size + 1, 2, none⟩ = some (.slice va L vc) := HR.out.cell (show 2 < 3 by decide)
        have g0 : wr.frozen? ⟨w.heap.size + 1, 0, none⟩ = false := HR.out.frozen 0
        have g1 : wr.frozen? ⟨w.heap.size + 1, 1, none⟩ = false := HR.out.frozen 1
        have g2 : wr.frozen? ⟨w.heap.size + 1, 2, none⟩ = false := HR.out.frozen 2
        have RC := (refRight_any n m va vc (I ls) r HRT.out wr hP.out (by unfold maxLen; omega))
        rw [← eL] at RC
        have HRC : Hid (Calls Tryd.prog 10 #[.agg #[.int .i64 n, .int .i64 m, .slice va L vc]] wr fun r' w' => r' = .returned (.int .i64 r) ∧ Below wr.heap.size wr w') := RC
        have HEL : Hid (L = (I ls).length) := eL
        clear RC eL
        go_wp2_with fail
        refine HRC.out.mono ?_
        rintro e x ⟨rfl, bx⟩
        have RX : Hid (x.rowIs w.heap.size 32 3 (pcell 0 0 (.slice none 0 0))) := HR0.out.of_block (bx.block _ HR0.out.lt)
        have PX : Hid (x.rowIs (w.heap.size + 1) 32 3 (pcell n m (.slice va L vc))) := HR.out.of_block (bx.block _ HR.out.lt)
        have OX : Hid (x.ownsRow (w.heap.size + 2) 51 2 (.slice va L vc) L (pflat (I ls) L)) := own2_at HO.out (fun j hj => bx.block _ (HO.out.lt j hj).2)
        have BX : Hid (Below w.heap.size w x) := below_then BW.out bx
        clear bx d0 d1 d2 g0 g1 g2
        have c0 : x.cell? ⟨w.heap.size, 0, none⟩ = some (.int .i64 0) := RX.out.cell (show 0 < 3 by decide)
        have c1 : x.cell? ⟨w.heap.size, 1, none⟩ = some (.int .i64 0) := RX.out.cell (show 1 < 3 by decide)
        have c2 : x.cell? ⟨w.heap.size, 2, none⟩ = some (.slice none 0 0) := RX.out.cell (show 2 < 3 by decide)
        have f0 : x.frozen? ⟨w.heap.size, 0, none⟩ = false := RX.out.frozen 0
        have f1 : x.frozen? ⟨w.heap.size, 1, none⟩ = false := RX.out.frozen 1
        have f2 : x.frozen? ⟨w.heap.size, 2, none⟩ = false := RX.out.frozen 2
        have d0 : x.cell? ⟨w.heap.size + 1, 0, none⟩ = some (.int .i64 n) := PX.out.cell (show 0 < 3 by decide)
        have d1 : x.cell? ⟨w.heap.size + 1, 1, none⟩ = some (.int .i64 m) := PX.out.cell (show 1 < 3 by decide)
        have d2 : x.cell? ⟨w.heap.size + 1, 2, none⟩ = some (.slice va L vc) := PX.out.cell (show 2 < 3 by decide)
        have g0 : x.frozen? ⟨w.heap.size + 1, 0, none⟩ = false := PX.out.frozen 0
        have g1 : x.frozen? ⟨w.heap.size + 1, 1, none⟩ = false := PX.out.frozen 1
        have g2 : x.frozen? ⟨w.heap.size + 1, 2, none⟩ = false := PX.out.frozen 2
        by_cases hr0 : r = 0
        · subst hr0
          go_wp2
          refine bodyPost_ret (v := .tuple #[.agg #[.int .i64 n, .int .i64 m, .slice va L vc], .int .i64 0]) (by simp [results, Tryd.results17, go_sem, c0, c1, c2]) rfl ⟨((BX.out.setCell (by simp) _).setCell (by simp) _).setCell (by simp) _, Or.inr ⟨n, m, ls, SY.out, Or.inr ⟨HRT.out, va, vc, ?_, ?_⟩⟩⟩
          · rw [HLN.out]
          · have ho := own2_set (own2_set (own2_set OX.out (p := ⟨w.heap.size, 0, none⟩) (by simp) (.int .i64 n)) (p := ⟨w.heap.size, 1, none⟩) (by simp) (.int .i64 m)) (p := ⟨w.heap.size, 2, none⟩) (by simp) (.slice va L vc)
            obtain ⟨q1, q2, q3, _⟩ := ps_of_own ho HEL.out
            exact ⟨q1, by rw [HLN.out]; exact q2, q3⟩
        · have g9 : (r != 0) = true := by simp [hr0]
          have H0 : Hid (¬ r = 0) := hr0
          clear hr0
          go_wp2
          refine bodyPost_ret (v := .tuple #[.agg #[.int .i64 0, .int .i64 0, .slice none 0 0], .int .i64 r]) (by simp [results, Tryd.results17, go_sem, c0, c1, c2]) rfl ⟨((BX.out.setCell (by simp) _).setCell (by simp) _).setCell (by simp) _, Or.inr ⟨n, m, ls, SY.out, Or.inl ⟨?_, ?_⟩⟩⟩
          · rw [HRT.out]; exact H0.out
          · rw [HRT.out]
      · have HNE : Hid (bl sb ≠ []) := bl_none hb
        have e5 : sb.toList.isEmpty = false := text_some hb
        have y0 : sb.size ≤ 1000000 := by omega
        clear hb
        go_wp2_with fail
        refine (after_any sb ⟨#[32]⟩ [32] rfl y0 (by decide) _).mono ?_
        rintro e w' ⟨t1, a1, rfl, A1, rfl⟩
        have y1 : t1.size ≤ 1000000 := by have := A1.out.size; omega
        go_wp2_with fail
        refine (refNumber_any t1 y1 _).mono ?_
        rintro e x1 ⟨k, t2, a2, rfl, N1, b1⟩
        have y2 : t2.size ≤ 1000000 := by have := N1.out.size; omega
        go_wp2_with fail
        refine (after_any t2 ⟨#[47]⟩ [47] rfl y2 (by decide) _).mono ?_
        rintro e w' ⟨t3, a3, rfl, A2, rfl⟩
        have y3 : t3.size ≤ 1000000 := by have := A2.out.size; omega
        go_wp2_with fail
        refine (refNumber_any t3 y3 _).mono ?_
        rintro e x ⟨vv, t4, a4, rfl, N2, b2⟩
        have bx := below_then b1 b2
        have RX : Hid (x.rowIs w.heap.size 32 3 (pcell 0 0 (.slice none 0 0))) := HR0.out.of_block (bx.block _ HR0.out.lt)
        have PX : Hid (x.rowIs (w.heap.size + 1) 32 3 (pcell n m (.slice va L vc))) := HR.out.of_block (bx.block _ HR.out.lt)
        have OX : Hid (x.ownsRow (w.heap.size + 2) 51 2 (.slice va L vc) L (pflat (I ls) L)) := own2_at HO.out (fun j hj => bx.block _ (HO.out.lt j hj).2)
        have BX : Hid (Below w.heap.size w x) := below_then BW.out bx
        have BY : Hid (Below (w.heap.size + 1) (w.alloc (.cells #[.int .i64 0, .int .i64 0, .slice none 0 0] 32)) x) := HB.out.trans (bx.mono (by omega))
        have zx : w.heap.size + 1 < x.heap.size := PX.out.lt
        clear b1 b2 bx
        have c0 : x.cell? ⟨w.heap.size, 0, none⟩ = some (.int .i64 0) := RX.out.cell (show 0 < 3 by decide)
        have c1 : x.cell? ⟨w.heap.size, 1, none⟩ = some (.int .i64 0) := RX.out.cell (show 1 < 3 by decide)
        have c2 : x.cell? ⟨w.heap.size, 2, none⟩ = some (.slice none 0 0) := RX.out.cell (show 2 < 3 by decide)
        have f0 : x.frozen? ⟨w.heap.size, 0, none⟩ = false := RX.out.frozen 0
        have f1 : x.frozen? ⟨w.heap.size, 1, none⟩ = false := RX.out.frozen 1
        have f2 : x.frozen? ⟨w.heap.size, 2, none⟩ = false := RX.out.frozen 2
        have d0 : x.cell? ⟨w.heap.size + 1, 0, none⟩ = some (.int .i64 n) := PX.out.cell (show 0 < 3 by decide)
        have d1 : x.cell? ⟨w.heap.size + 1, 1, none⟩ = some (.int .i64 m) := PX.out.cell (show 1 < 3 by decide)
        have d2 : x.cell? ⟨w.heap.size + 1, 2, none⟩ = some (.slice va L vc) := PX.out.cell (show 2 < 3 by decide)
        have g0 : x.frozen? ⟨w.heap.size + 1, 0, none⟩ = false := PX.out.frozen 0
        have g1 : x.frozen? ⟨w.heap.size + 1, 1, none⟩ = false := PX.out.frozen 1
        have g2 : x.frozen? ⟨w.heap.size + 1, 2, none⟩ = false := PX.out.frozen 2
        by_cases hk : a1 = true ∧ a2 = true ∧ a3 = true ∧ a4 = true
        · obtain ⟨rfl, rfl, rfl, rfl⟩ := hk
          have FS : Hid (Far (bl s) n m (ls ++ [(k, vv)]) (bl t4)) := lay_far HF.out A1.out N1.out A2.out N2.out rfl rfl rfl rfl
          have CS : Hid (Comp (bl s) n m (ls ++ [(k, vv)]) (bl t4)) := lay_comp HC.out HNE.out A1.out N1.out A2.out N2.out
          have ts : t4.size < sb.size := lay_size A1.out N1.out A2.out N2.out rfl
          clear A1 N1 A2 N2
          go_wp2_with (at_builtin; refine wpList_append_lies _ rfl _ _ _ rfl (w.heap.size + 2) 51 i0 _ 2 16 Tryd.underlying30 hi0 hi1 hi2 hi3 rfl (by omega) _ L _ (by rfl) (OX.out.alloc _) ⟨x.heap.size, 0, none⟩ 1 1 [.int .i64 (k : Int), .int .i64 (vv : Int)] (by rfl) (by rfl) (World.news_of_block (cs := #[.int .i64 (k : Int), .int .i64 (vv : Int)]) (t := 51) (fr := (0, 0)) (heap_alloc_new x _)) (by simp [Value.oneCell']) (by omega) (by unfold maxLen; omega) (by omega) (by simp; omega) (x.heap.size + 1) (by simp) ?_; intro gg cap x7 hown1 hgrow hat hlt1; have R7 : Hid (x7.rowIs (w.heap.size + 1) 32 3 (pcell n m (.slice va L vc))) := (PX.out.alloc _).of_block (hgrow.block _ (by simp; omega) (fun e => by have := (OX.out.lt _ e.symm).1; omega)); have B7 : Hid (Below (w.heap.size + 1) (w.alloc (.cells #[.int .i64 0, .int .i64 0, .slice none 0 0] 32)) x7) := (BY.out.alloc (by omega) _).grown hgrow (by simp; omega) (fun j hj => by have := (OX.out.lt j hj).1; omega); have O7 : Hid (x7.ownsRow (w.heap.size + 2) 51 2 (.slice (some ⟨gg, 0, none⟩) (L + 1) cap) (L + 1) (pflat (I ls) L ++ [.int .i64 (k : Int), .int .i64 (vv : Int)])) := hown1; have d2 : x7.cell? ⟨w.heap.size + 1, 2, none⟩ = some (.slice va L vc) := R7.out.cell (show 2 < 3 by decide); have g2 : x7.frozen? ⟨w.heap.size + 1, 2, none⟩ = false := R7.out.frozen 2; clear hown1 hgrow hat)
          go_roundw
          case rel => exact ⟨t4, ls ++ [(k, vv)], L + 1, _, rfl, by omega, by have := HLN.out; show _ = _; simp; omega, FS.out, CS.out, (fun _ => by simp), (R7.out.set 2 _).congr (fun j hj => pcell_set n m _ _ j hj), own2_set (by rw [← pflat_snoc HLN.out]; exact O7.out) (by simp) _, B7.out.setCell (by simp) _⟩
          case measure => simp only [sz]; omega
        · have NS : Hid (None (bl s)) := by
            refine lay_none HC.out HNE.out A1.out N1.out A2.out N2.out ?_
            cases a1
            · exact Or.inl rfl
            · cases a2
              · exact Or.inr (Or.inl rfl)
              · cases a3
                · exact Or.inr (Or.inr (Or.inl rfl))
                · cases a4
                  · exact Or.inr (Or.inr (Or.inr rfl))
                  · exact absurd ⟨rfl, rfl, rfl, rfl⟩ hk
          clear A1 N1 A2 N2
          cases a1 <;> cases a2 <;> cases a3 <;> cases a4
          all_goals
            first
              | (exact absurd ⟨rfl, rfl, rfl, rfl⟩ hk)
              | (clear hk
                 go_wp2
                 exact bodyPost_ret (v := .tuple #[.agg #[.int .i64 0, .int .i64 0, .slice none 0 0], .int .i64 10]) (by simp [results, Tryd.results17, go_sem, c0, c1, c2]) rfl ⟨((BX.out.setCell (by simp) _).setCell (by simp) _).setCell (by simp) _, Or.inl ⟨rfl, NS.out⟩⟩)
  · have NS : Hid (None (bl s)) := by
      refine read_none A1.out N1.out A2.out N2.out ?_
      cases a
      · exact Or.inl rfl
      · cases b
        · exact Or.inr (Or.inl rfl)
        · cases c
          · exact Or.inr (Or.inr (Or.inl rfl))
          · cases d
            · exact Or.inr (Or.inr (Or.inr (Or.inl rfl)))
            · refine Or.inr (Or.inr (Or.inr (Or.inr (bl_empty ?_))))
              rcases Classical.em (s4 = ⟨#[]⟩) with h | h
              · exact h
              · exact absurd ⟨⟨rfl, rfl, rfl, rfl⟩, h⟩ hk
    clear A1 N1 A2 N2
    cases a <;> cases b <;> cases c <;> cases d
    all_goals
      first
        | (rcases Classical.em (s4 = ⟨#[]⟩) with h | h
           rotate_left
           exact absurd ⟨⟨rfl, rfl, rfl, rfl⟩, h⟩ hk
           subst h)
        | skip
      clear hk
      go_wp2
      exact bodyPost_ret (v := .tuple #[.agg #[.int .i64 0, .int .i64 0, .slice none 0 0], .int .i64 10]) (by simp [results, Tryd.results17, go_sem, c0, c1, c2]) rfl ⟨((BA.out.setCell (by simp) _).setCell (by simp) _).setCell (by simp) _, Or.inl ⟨rfl, NS.out⟩⟩
end Go.Proofs.YtfdmgnfeceoefaaDoor
