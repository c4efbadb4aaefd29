/- Contracts of layer 9: the plan that a text says. -/
import Derived.Test.YtfdmgnfeceoefaaDoorTrGroups
namespace Go.Proofs.YtfdmgnfeceoefaaDoor
set_option linter.unusedVariables false
open Go.RowKit Go.Sort
open Tr

namespace Tr
def I (ls : List (Nat × Nat)) : List (Int × Int) := ls.map fun p => ((p.1 : Int), (p.2 : Int))
theorem I_length (ls : List (Nat × Nat)) : (I ls).length = ls.length := by unfold I; exact List.length_map _
theorem fst_I_snoc (ls : List (Nat × Nat)) (p : Nat × Nat) : fst (I (ls ++ [p])) ls.length = p.1 ∧ snd (I (ls ++ [p])) ls.length = p.2 := by
  rw [fst_of (by rw [I_length]; simp), snd_of (by rw [I_length]; simp)]
  simp [I]
theorem I_snoc_at (ls : List (Nat × Nat)) (p : Nat × Nat) (i : Nat) (h : i < ls.length) : fst (I ls) i = fst (I (ls ++ [p])) i ∧ snd (I ls) i = snd (I (ls ++ [p])) i := by
  rw [fst_of (by rw [I_length]; exact h), fst_of (by rw [I_length]; simp; omega), snd_of (by rw [I_length]; exact h), snd_of (by rw [I_length]; simp; omega)]
  simp [I, h]
theorem I_take (ls : List (Nat × Nat)) (n i : Nat) (h : i < n) (h2 : i < ls.length) : fst (I ls) i = fst (I (ls.take n)) i ∧ snd (I ls) i = snd (I (ls.take n)) i := by
  rw [fst_of (by rw [I_length]; exact h2), fst_of (by rw [I_length]; simp; omega), snd_of (by rw [I_length]; exact h2), snd_of (by rw [I_length]; simp; omega)]
  simp [I]
theorem tail_pre : ∀ (ls ms : List (Nat × Nat)) (x : List UInt8), Sep x → tail ls ++ x = tail ms → ∃ ns, ms = ls ++ ns ∧ x = tail ns
  | [], ms, x, _, h => ⟨ms, rfl, h⟩
  | p :: r, [], x, _, h => by simp [tail] at h
  | (k, v) :: r, (k', v') :: r', x, hx, h => by
    have h0 : 32 :: (dec k ++ 47 :: (dec v ++ (tail r ++ x))) = 32 :: (dec k' ++ 47 :: (dec v' ++ tail r')) := by simpa [tail] using h
    obtain ⟨rfl, h1⟩ := dec_span (by simp [Sep, Dig]) (by simp [Sep, Dig]) (List.cons.inj h0).2
    have hs : Sep (tail r ++ x) := by
      cases r with
      | nil => exact hx
      | cons p r => simp [tail, Sep, Dig]
    obtain ⟨rfl, h2⟩ := dec_span hs (sep_tail _) (List.cons.inj h1).2
    obtain ⟨ns, e1, e2⟩ := tail_pre r r' x hx h2
    exact ⟨ns, by rw [e1]; rfl, e2⟩
theorem txt_pre {g w g' w' : Nat} {ls ms : List (Nat × Nat)} {x : List UInt8} (hx : Sep x) (h : txt g w ls ++ x = txt g' w' ms) : g = g' ∧ w = w' ∧ ∃ ns, ms = ls ++ ns ∧ x = tail ns := by
  have h0 : 103 :: (dec g ++ 32 :: 119 :: (dec w ++ (tail ls ++ x))) = 103 :: (dec g' ++ 32 :: 119 :: (dec w' ++ tail ms)) := by simpa [txt] using h
  obtain ⟨rfl, h1⟩ := dec_span (by simp [Sep, Dig]) (by simp [Sep, Dig]) (List.cons.inj h0).2
  have hs : Sep (tail ls ++ x) := by
    cases ls with
    | nil => exact hx
    | cons p r => simp [tail, Sep, Dig]
  obtain ⟨rfl, h2⟩ := dec_span hs (sep_tail _) (List.cons.inj (List.cons.inj h1).2).2
  exact ⟨rfl, rfl, tail_pre ls ms x hx h2⟩
/-- So far the text l says group g, window w and the layers ls; behind it is x. -/
def Far (l : List UInt8) (g w : Nat) (ls : List (Nat × Nat)) (x : List UInt8) : Prop := l = txt g w ls ++ x ∧ g < 2147483648 ∧ w < 2147483648 ∧ Small ls
theorem Far.done {l : List UInt8} {g w : Nat} {ls : List (Nat × Nat)} (h : Far l g w ls []) (hn : ls ≠ []) : Says l g w ls := ⟨by simpa using h.1, h.2.1, h.2.2.1, h.2.2.2, hn⟩
theorem small_snoc {ls : List (Nat × Nat)} {k v : Nat} (h : Small ls) (hk : k < 2147483648) (hv : v < 2147483648) : Small (ls ++ [(k, v)]) := by
  intro p hp
  rcases List.mem_append.1 hp with h1 | h1
  · exact h p h1
  · rw [List.mem_singleton.1 h1]; exact ⟨hk, hv⟩
theorem Far.step {l : List UInt8} {g w : Nat} {ls : List (Nat × Nat)} {s a b : ByteArray} {q : Bool} {k v : Nat} (h : Far l g w ls (32 :: bl s)) (hc : Cut 32 s a b q) (hw : Word a k v true) : Far l g w (ls ++ [(k, v)]) (if q then 32 :: bl b else []) := by
  obtain ⟨k1, v1, e⟩ := hw.1 rfl
  refine ⟨?_, h.2.1, h.2.2.1, small_snoc h.2.2.2 k1 v1⟩
  rw [h.1, txt_snoc]
  cases q
  · obtain ⟨rfl, _⟩ := hc.2.2 rfl
    rw [e]; simp
  · rw [hc.2.1 rfl, e]; simp
theorem Far.none {l : List UInt8} {g w : Nat} {ls : List (Nat × Nat)} {s a b : ByteArray} {q : Bool} {k v : Nat} (h : Far l g w ls (32 :: bl s)) (hc : Cut 32 s a b q) (hw : Word a k v false) : None l := by
  rintro g' w' ms ⟨e, _, _, hs, _⟩
  obtain ⟨rfl, rfl, ns, rfl, e2⟩ := txt_pre (by simp [Sep, Dig]) (h.1.symm.trans e)
  cases ns with
  | nil => simp [tail] at e2
  | cons p r =>
    rw [tail_cut] at e2
    have e3 := (List.cons.inj e2).2
    have hp := hs p (by simp)
    have ha : bl a = dec p.1 ++ 47 :: dec p.2 := by
      cases r with
      | nil =>
        have e4 : bl s = dec p.1 ++ 47 :: dec p.2 := by simpa [tail] using e3
        obtain ⟨_, rfl⟩ := hc.no (by rw [e4]; exact word_free _ _)
        exact e4
      | cons p' r' =>
        rw [tail_cut] at e3
        exact (hc.yes (word_free _ _) e3).2.1
    exact (hw.2 rfl).2.2 p.1 p.2 hp.1 hp.2 ha
theorem far_start {s a0 b0 a1 b1 : ByteArray} {q0 q1 k0 k1 : Bool} {g w : Nat} (h0 : Cut 32 s a0 b0 q0) (h1 : Cut 32 b0 a1 b1 q1) (m0 : Mrk 103 a0 g k0) (m1 : Mrk 119 a1 w k1) (e0 : k0 = true) (e1 : k1 = true) (e2 : q1 = true) : Far (bl s) g w [] (32 :: bl b1) := by
  obtain ⟨g1, eg⟩ := m0.1 e0
  obtain ⟨w1, ew⟩ := m1.1 e1
  have eb := h1.2.1 e2
  have hq : q0 = true := by
    cases q0
    · have := (h0.2.2 rfl).2; rw [this] at eb; simp at eb
    · rfl
  refine ⟨?_, g1, w1, (fun p hp => by cases hp)⟩
  rw [h0.2.1 hq, eb, eg, ew]
  simp [txt, tail]
theorem none_start {s a0 b0 a1 b1 : ByteArray} {q0 q1 k0 k1 : Bool} {g w : Nat} (h0 : Cut 32 s a0 b0 q0) (h1 : Cut 32 b0 a1 b1 q1) (m0 : Mrk 103 a0 g k0) (m1 : Mrk 119 a1 w k1) (e : k0 = false ∨ k1 = false ∨ q1 = false) : None (bl s) := by
  rintro g' w' ms ⟨es, hg, hw, _, hn⟩
  cases ms with
  | nil => exact hn rfl
  | cons p r =>
    have e1 : bl s = (103 :: dec g') ++ 32 :: (119 :: (dec w' ++ tail (p :: r))) := by rw [es]; simp [txt]
    obtain ⟨_, ea, eb⟩ := h0.yes (by simp only [List.mem_cons, not_or]; exact ⟨by decide, not_dig (by simp [Dig])⟩) e1
    have e2 : bl b0 = (119 :: dec w') ++ 32 :: ((dec p.1 ++ 47 :: dec p.2) ++ tail r) := by rw [eb, tail_cut]; simp
    obtain ⟨eq, ea1, _⟩ := h1.yes (by simp only [List.mem_cons, not_or]; exact ⟨by decide, not_dig (by simp [Dig])⟩) e2
    rcases e with e | e | e
    · exact m0.2 e g' hg ea
    · exact m1.2 e w' hw ea1
    · rw [eq] at e; cases e
theorem pflat_snoc {ls : List (Nat × Nat)} {n k v : Nat} (h : ls.length = n) : pflat (I ls) n ++ [.int .i64 (k : Int), .int .i64 (v : Int)] = pflat (I (ls ++ [(k, v)])) (n + 1) := by
  subst h
  simp only [pflat]
  obtain ⟨e1, e2⟩ := fst_I_snoc ls (k, v)
  rw [e1, e2, pflat_congr ls.length (fun j hj => I_snoc_at ls (k, v) j hj)]
def sz : Value → Nat
  | .string s => s.size
  | _ => 0
def bo : Value → Nat
  | .bool true => 1
  | _ => 0
end Tr
theorem Tryd.infoBits : (Tryd.prog.info? 49).map (fun i => (i.zero, i.size, i.bytes)) = some (some (.agg #[.int .i64 0, .int .i64 0]), 2, 16) := by kernel_rfl

set_option maxRecDepth 100000 in
set_option maxHeartbeats 3200000 in
theorem said_any (s : ByteArray) (hs : s.size ≤ 1000000) (w : World) (hv : Vars w) :
    Calls Tryd.prog 27 #[.string s] w fun e w' => Below w.heap.size w w' ∧ ((e = .returned (.tuple #[.agg #[.int .i64 0, .int .i64 0, .slice none 0 0], .bool false]) ∧ None (bl s)) ∨
      ∃ (g i : Nat) (ls : List (Nat × Nat)) (a : Option Addr) (n c : Nat), e = .returned (.tuple #[.agg #[.int .i64 g, .int .i64 i, .slice a n c], .bool true]) ∧ Says (bl s) g i ls ∧ n = (ls.take 5).length ∧ Ps w' a (I (ls.take 5)) ∧ n ≤ c ∧ c ≤ maxLen ∧ ∀ x, a = some x → w.heap.size ≤ x.block) := by
  obtain ⟨i0, hi0, hi1, hi2, hi3⟩ := info_parts Tryd.infoBits
  have HV : Hid (Vars w) := hv
  clear hv
  go_enter Tryd.func27, Tryd.ntmps27
  go_wp2_with fail
  refine (cut_any s 32 _ hs (HV.out.keep (box_over _ _))).mono ?_
  rintro e w1 ⟨a0, b0, q0, rfl, C0, n0, rfl⟩
  have hb0 : b0.size ≤ 1000000 := by have := C0.out.size; omega
  have ha0 : a0.size ≤ 1000000 := by have := C0.out.size; omega
  go_wp2_with fail
  refine (cut_any b0 32 _ hb0 ((HV.out.keep (box_over _ _)).draws _)).mono ?_
  rintro e w2 ⟨a1, b1, q1, rfl, C1, n1, rfl⟩
  have hb1 : b1.size ≤ 1000000 := by have := C1.out.size; omega
  have ha1 : a1.size ≤ 1000000 := by have := C1.out.size; omega
  go_wp2_with fail
  refine (marked_any a0 103 ha0 _ ((HV.out.keep (box_over _ _)).draws _)).mono ?_
  rintro e w3 ⟨g, k0, rfl, M0, b3⟩
  have B3 : Hid (Below w.heap.size w w3) := ((box_over _ _).trans ((below_draws _ _).mono (by simp))).trans (b3.mono (by simp))
  have r3 : w3.rowIs w.heap.size 24 3 (pcell 0 0 (.slice none 0 0)) := (pcell_alloc w 0 0 (.slice none 0 0) 24).of_block (by rw [b3.block _ (by simp)]; simp)
  clear b3
  go_wp2_with fail
  refine (marked_any a1 119 ha1 _ (HV.out.keep B3.out)).mono ?_
  rintro e u ⟨i, k1, rfl, M1, b4⟩
  have BU : Hid (Below w.heap.size w u) := below_then B3.out b4
  have RU : Hid (u.rowIs w.heap.size 24 3 (pcell 0 0 (.slice none 0 0))) := r3.of_block (b4.block _ r3.lt)
  clear b4 r3 B3
  by_cases hk : k0 = true ∧ k1 = true ∧ q1 = true
  · obtain ⟨rfl, rfl, rfl⟩ := hk
    have FS : Hid (Far (bl s) g i [] (32 :: bl b1)) := far_start C0.out C1.out M0.out M1.out rfl rfl rfl
    clear C0 C1 M0 M1
    go_wp2
    go_loopw [0, 7] (fun s' m' wr => ∃ (sb : ByteArray) (mb : Bool) (ls : List (Nat × Nat)) (n : Nat) (v : Value), s' = .string sb ∧ m' = .bool mb ∧ sb.size ≤ 1000000 ∧ n ≤ 5 ∧ Hid (n = (ls.take 5).length) ∧ Hid (Far (bl s) g i ls (if mb then 32 :: bl sb else [])) ∧ Hid (mb = false → ls ≠ []) ∧ Hid (wr.rowIs u.heap.size 24 3 (pcell g i v)) ∧ Hid (wr.ownsRow (u.heap.size + 1) 49 2 v n (pflat (I ls) n)) ∧ Hid (Below u.heap.size u wr)) (fun s' m' _ => sz s' + bo m')
    case atStart =>
      refine ⟨b1, true, [], 0, .slice none 0 0, rfl, rfl, hb1, by omega, rfl, FS.out, (fun h => by cases h), ?_, World.ownsRow_nil _ _ _ _, box_over _ _⟩
      exact pcell_alloc u g i (.slice none 0 0) 24
    case round =>
      obtain ⟨sb, mb, ls, n, v, rfl, rfl, hsb, hn5, HN, HF, HL, HR, HO, HB⟩ := hrel
      obtain ⟨va, vc, rfl⟩ := own2_slice HO.out
      have hsz : u.heap.size < wr.heap.size := HR.out.lt
      cases mb
      · have r0 : wr.rowIs w.heap.size 24 3 (pcell 0 0 (.slice none 0 0)) := RU.out.of_block (HB.out.block _ RU.out.lt)
        have c0 : wr.cell? ⟨w.heap.size, 0, none⟩ = some (.int .i64 0) := r0.cell (show 0 < 3 by decide)
        have c1 : wr.cell? ⟨w.heap.size, 1, none⟩ = some (.int .i64 0) := r0.cell (show 1 < 3 by decide)
        have c2 : wr.cell? ⟨w.heap.size, 2, none⟩ = some (.slice none 0 0) := r0.cell (show 2 < 3 by decide)
        have f0 : wr.frozen? ⟨w.heap.size, 0, none⟩ = false := r0.frozen 0
        have f1 : wr.frozen? ⟨w.heap.size, 1, none⟩ = false := r0.frozen 1
        have f2 : wr.frozen? ⟨w.heap.size, 2, none⟩ = false := r0.frozen 2
        have d0 : wr.cell? ⟨u.heap.size, 0, none⟩ = some (.int .i64 g) := HR.out.cell (show 0 < 3 by decide)
        have d1 : wr.cell? ⟨u.heap.size, 1, none⟩ = some (.int .i64 i) := HR.out.cell (show 1 < 3 by decide)
        have d2 : wr.cell? ⟨u.heap.size, 2, none⟩ = some (.slice va n vc) := HR.out.cell (show 2 < 3 by decide)
        clear r0
        go_wp2
        refine bodyPost_ret (v := .tuple #[.agg #[.int .i64 g, .int .i64 i, .slice va n vc], .bool true]) (by simp [results, Tryd.results27, go_sem, c0, c1, c2]) rfl ⟨(((below_then BU.out HB.out).setCell (by simp) _).setCell (by simp) _).setCell (by simp) _, Or.inr ⟨g, i, ls, va, n, vc, rfl, Far.done (by have := HF.out; simpa using this) (HL.out (by trivial)), (by have := HN.out; simpa using this), ?_⟩⟩
        have wl : w.heap.size < u.heap.size + 1 := by have := BU.out.size; omega
        have hp : pflat (I ls) n = pflat (I (ls.take 5)) n := pflat_congr n (fun j hj => I_take ls 5 j (by omega) (by have := HN.out; simp at this; omega))
        have ho := own2_set (own2_set (own2_set HO.out (p := ⟨w.heap.size, 0, none⟩) wl (.int .i64 g)) (p := ⟨w.heap.size, 1, none⟩) wl (.int .i64 i)) (p := ⟨w.heap.size, 2, none⟩) wl (.slice va n vc)
        rw [hp] at ho
        obtain ⟨q1, q2, q3, _, q5⟩ := ps_of_own ho (by rw [I_length]; exact HN.out)
        exact ⟨q1, q2, q3, fun x hx => by have := q5 x hx; omega⟩
      · go_wp2_with fail
        refine (cut_any sb 32 _ hsb (HV.out.keep (below_then BU.out HB.out))).mono ?_
        rintro e w5 ⟨wd, rest, q2, rfl, C2, n2, rfl⟩
        have hwd : wd.size ≤ 1000000 := by have := C2.out.size; omega
        have hrs : rest.size ≤ 1000000 := by have := C2.out.size; omega
        have msr : rest.size + bo (.bool q2) < sb.size + 1 := by
          have h := C2.out
          cases q2
          · have := (h.2.2 rfl).2; rw [bl_size, this]; simp [bo]
          · have := h.2.1 rfl; rw [bl_size sb, this, bl_size rest]; simp [bo]; omega
        go_wp2_with fail
        refine (layer_any wd hwd _ ((HV.out.keep (below_then BU.out HB.out)).draws _)).mono ?_
        rintro e w6 ⟨k, vv, q3, rfl, W2, b6⟩
        have B6 : Hid (Below u.heap.size u w6) := (HB.out.trans ((below_draws _ _).mono (by omega))).trans (b6.mono (by simp; omega))
        have R6 : Hid (w6.rowIs u.heap.size 24 3 (pcell g i (.slice va n vc))) := HR.out.of_block (by rw [b6.block _ (by simp; omega)]; simp)
        have O6 : Hid (w6.ownsRow (u.heap.size + 1) 49 2 (.slice va n vc) n (pflat (I ls) n)) := own2_at HO.out (fun j hj => by rw [b6.block _ (by have := (HO.out.lt j hj).2; simp; omega)]; simp)
        have z6 : u.heap.size < w6.heap.size := R6.out.lt
        have d2 : w6.cell? ⟨u.heap.size, 2, none⟩ = some (.slice va n vc) := R6.out.cell (show 2 < 3 by decide)
        have g2 : w6.frozen? ⟨u.heap.size, 2, none⟩ = false := R6.out.frozen 2
        clear b6
        cases q3
        · have NS : Hid (None (bl s)) := HF.out.none C2.out W2.out
          have r0 : w6.rowIs w.heap.size 24 3 (pcell 0 0 (.slice none 0 0)) := RU.out.of_block (B6.out.block _ RU.out.lt)
          have c0 : w6.cell? ⟨w.heap.size, 0, none⟩ = some (.int .i64 0) := r0.cell (show 0 < 3 by decide)
          have c1 : w6.cell? ⟨w.heap.size, 1, none⟩ = some (.int .i64 0) := r0.cell (show 1 < 3 by decide)
          have c2 : w6.cell? ⟨w.heap.size, 2, none⟩ = some (.slice none 0 0) := r0.cell (show 2 < 3 by decide)
          have f0 : w6.frozen? ⟨w.heap.size, 0, none⟩ = false := r0.frozen 0
          have f1 : w6.frozen? ⟨w.heap.size, 1, none⟩ = false := r0.frozen 1
          have f2 : w6.frozen? ⟨w.heap.size, 2, none⟩ = false := r0.frozen 2
          have z7 : w.heap.size < w6.heap.size := r0.lt
          clear r0
          go_wp2
          exact bodyPost_ret (v := .tuple #[.agg #[.int .i64 0, .int .i64 0, .slice none 0 0], .bool false]) (by simp [results, Tryd.results27, go_sem, c0, c1, c2, z7]) rfl ⟨((((below_then BU.out B6.out).setCell (by simp) _).setCell (by simp) _).setCell (by simp) _).alloc (by have := (below_then BU.out B6.out).size; simp; omega) _, Or.inl ⟨rfl, NS.out⟩⟩
        · have FS2 : Hid (Far (bl s) g i (ls ++ [(k, vv)]) (if q2 then 32 :: bl rest else [])) := HF.out.step C2.out W2.out
          by_cases hn4 : n ≤ 4
          · have hln : ls.length = n := by have := HN.out; simp at this; omega
            have HLN : Hid (ls.length = n) := hln
            have hn4' : (n : Int) ≤ 4 := by omega
            clear hln
            go_wp2_with (at_builtin; refine wpList_append_lies _ rfl _ _ _ rfl (u.heap.size + 1) 49 i0 _ 2 16 Tryd.underlying22 hi0 hi1 hi2 hi3 rfl (by omega) _ n _ (by rfl) ((O6.out.alloc _).alloc _) ⟨w6.heap.size + 1, 0, none⟩ 1 1 [.int .i64 (k : Int), .int .i64 (vv : Int)] (by rfl) (by rfl) (World.news_of_block (cs := #[.int .i64 (k : Int), .int .i64 (vv : Int)]) (t := 49) (fr := (0, 0)) (by first | exact heap_alloc_new _ _ | (have := heap_alloc_new (w6.alloc (.cells #[.int .i64 (k : Int), .int .i64 (vv : Int)] 49)) (.cells #[.int .i64 (k : Int), .int .i64 (vv : Int)] 49); simpa using this))) (by simp [Value.oneCell']) (by omega) (by unfold maxLen; omega) (by omega) (by simp; omega) (w6.heap.size + 1 + 1) (by simp) ?_; intro gg cap w7 hown1 hgrow hat hlt1; have R7 : Hid (w7.rowIs u.heap.size 24 3 (pcell g i (.slice va n vc))) := ((R6.out.alloc _).alloc _).of_block (hgrow.block _ (by simp; omega) (fun e => by have := (O6.out.lt _ e.symm).1; omega)); have B7 : Hid (Below u.heap.size u w7) := ((B6.out.alloc (by omega) _).alloc (by simp; omega) _).grown hgrow (by simp; omega) (fun j hj => by have := (O6.out.lt j hj).1; omega); have O7 : Hid (w7.ownsRow (u.heap.size + 1) 49 2 (.slice (some ⟨gg, 0, none⟩) (n + 1) cap) (n + 1) (pflat (I ls) n ++ [.int .i64 (k : Int), .int .i64 (vv : Int)])) := hown1; have d2 : w7.cell? ⟨u.heap.size, 2, none⟩ = some (.slice va n vc) := R7.out.cell (show 2 < 3 by decide); have g2 : w7.frozen? ⟨u.heap.size, 2, none⟩ = false := R7.out.frozen 2; clear hown1 hgrow hat)
            go_roundw
            case rel => exact ⟨rest, q2, ls ++ [(k, vv)], n + 1, _, rfl, rfl, hrs, by omega, by have h := HN.out; have h2 := HLN.out; show _ = _; simp at h ⊢; omega, FS2.out, (fun _ => by simp), (R7.out.set 2 _).congr (fun j hj => pcell_set g i _ _ j hj), own2_set (by rw [← pflat_snoc HLN.out]; exact O7.out) (by simp) _, B7.out.setCell (by simp) _⟩
            case measure => simp only [sz, bo]; have := msr; simp only [bo] at this; omega
          · have hn5' : 5 ≤ ls.length := by have := HN.out; simp at this; omega
            have hn4' : ¬ (n : Int) ≤ 4 := by omega
            go_wp2
            go_roundw
            case rel => exact ⟨rest, q2, ls ++ [(k, vv)], n, .slice va n vc, rfl, rfl, hrs, hn5, by have h := HN.out; show _ = _; simp at h ⊢; omega, FS2.out, (fun _ => by simp), R6.out.alloc _, by rw [← pflat_congr n (fun j hj => I_snoc_at ls (k, vv) j (by omega))]; exact O6.out.alloc _, B6.out.alloc (by omega) _⟩
            case measure => simp only [sz, bo]; have := msr; simp only [bo] at this; omega
  · have HK : Hid (k0 = false ∨ k1 = false ∨ q1 = false) := by
      show _ ∨ _
      cases k0
      · exact Or.inl rfl
      · cases k1
        · exact Or.inr (Or.inl rfl)
        · cases q1
          · exact Or.inr (Or.inr rfl)
          · exact absurd ⟨rfl, rfl, rfl⟩ hk
    have c0 : u.cell? ⟨w.heap.size, 0, none⟩ = some (.int .i64 0) := RU.out.cell (show 0 < 3 by decide)
    have c1 : u.cell? ⟨w.heap.size, 1, none⟩ = some (.int .i64 0) := RU.out.cell (show 1 < 3 by decide)
    have c2 : u.cell? ⟨w.heap.size, 2, none⟩ = some (.slice none 0 0) := RU.out.cell (show 2 < 3 by decide)
    have f0 : u.frozen? ⟨w.heap.size, 0, none⟩ = false := RU.out.frozen 0
    have f1 : u.frozen? ⟨w.heap.size, 1, none⟩ = false := RU.out.frozen 1
    have f2 : u.frozen? ⟨w.heap.size, 2, none⟩ = false := RU.out.frozen 2
    have NS : Hid (None (bl s)) := none_start C0.out C1.out M0.out M1.out HK.out
    clear hk C0 C1 M0 M1
    cases k0 <;> cases k1 <;> cases q1
    all_goals
      first
        | (exfalso; have h := HK.out; simp at h; done)
        | (go_wp2
           exact bodyPost_ret (v := .tuple #[.agg #[.int .i64 0, .int .i64 0, .slice none 0 0], .bool false]) (by simp [results, Tryd.results27, go_sem, c0, c1, c2]) rfl ⟨((BU.out.setCell (by simp) _).setCell (by simp) _).setCell (by simp) _, Or.inl ⟨rfl, NS.out⟩⟩)
end Go.Proofs.YtfdmgnfeceoefaaDoor
