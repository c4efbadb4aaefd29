/- The iterator of package ring (layer 12): All, and its closure's contract. -/
import Derived.Test.YtgjghnbhpnflfaaRnCalls
import Derived.Test.YtgjghnbhpnflfaaRnRange
namespace Go.Proofs.Ytgjghnbhpnflfaa
set_option linter.unusedVariables false
set_option linter.unusedSimpArgs false
open Go.RowKit Go.Shelf
attribute [local go_sem] Oper.semAt_some

namespace Rn
theorem all_any (g : Nat) (w : World) :
    Calls Try.prog 16 #[.pointer (some ⟨g, 0, none⟩)] w fun e w' => e = .returned (.func (.func 22) #[] #[.pointer (some ⟨w.heap.size, 0, none⟩)]) ∧ w' = w.alloc (.cells #[.pointer (some ⟨g, 0, none⟩)] 24) := by
  go_enter Try.func16, Try.ntmps16
  go_wp2
  go_ret
  exact ⟨rfl, rfl⟩
/-- What a round keeps: the box, the ring's two blocks. -/
def Kp (Bs g r : Nat) (A B : World) : Prop := B.heap[Bs]? = A.heap[Bs]? ∧ B.heap[g]? = A.heap[g]? ∧ B.heap[r]? = A.heap[r]?
theorem Kp.trans {Bs g r : Nat} {A B C : World} (h : Kp Bs g r A B) (k : Kp Bs g r B C) : Kp Bs g r A C := ⟨k.1.trans h.1, k.2.1.trans h.2.1, k.2.2.trans h.2.2⟩
theorem kp_put {Bs g r : Nat} {w : World} (h1 : Bs < w.heap.size) (h2 : g < w.heap.size) (h3 : r < w.heap.size) (W : World) (l : Nat) (o o' : Obj) (hl : w.heap.size ≤ l) (_ : W.heap[l]? = some o) (_ : o.isCells = false) (_ : o.isWalk = false) : Kp Bs g r W (W.putObj l o') :=
  ⟨World.putObj_heap_other (by omega), World.putObj_heap_other (by omega), World.putObj_heap_other (by omega)⟩

set_option maxRecDepth 100000 in
set_option maxHeartbeats 2000000 in
theorem all1 (m : Nat) (hm : 1 ≤ m) (l Bs g r n f : Nat) (ls : List Int) (J Jx : Nat → World → Prop)
    (hJ : ∀ s A q, J s A → J s (A.drewN q))
    (hY : ∀ k W, k < ls.length → J k W → YieldAt Fence.wide (m - 1) Try.prog l #[.int .i64 (k : Int), .int .i64 (Ls.nth ls k)] W fun e W' =>
      (e = .returned (.bool true) ∧ J (k + 1) W' ∧ Kp Bs g r W W') ∨ (e = .returned (.bool false) ∧ Jx (k + 1) W'))
    (W : World) (hBs : W.cell? ⟨Bs, 0, none⟩ = some (.pointer (some ⟨g, 0, none⟩))) (hR : RingAt W g r n f ls) (h0 : J 0 W) :
    CallsIn Fence.wide m Try.prog 22 #[.func (.yield l) #[] #[], .pointer (some ⟨Bs, 0, none⟩)] W fun e W' => (∃ v, e = .returned v) ∧
      (J ls.length W' ∨ ∃ k, k ≤ ls.length ∧ Jx k W') := by
  have hmx : Try.prog.follows .mixedOrders = true := by kernel_rfl
  obtain ⟨c0, c1, c2, _⟩ := hR.cells
  obtain ⟨n0, n1, n2⟩ := hR.nums
  obtain ⟨c, ec⟩ : ∃ c, ls.length = c := ⟨_, rfl⟩
  have EC : Hid (ls.length = c) := ec
  have HH : Hid (RingAt W g r n f ls) := hR
  rw [ec] at c2 n0
  refine callsIn_of_wp Try.func22 rfl trivial ?_ rfl
  simp only [Try.ntmps22, List.size_toArray, List.length_cons, List.length_nil, Nat.reduceAdd, Nat.reduceSub, Array.replicate_succ, Array.replicate_zero, List.push_toArray, List.append_toArray, List.nil_append, List.cons_append]
  clear ec hR
  gi_wp2
  gi_loopw [8] (fun i wr => ∃ k : Nat, k ≤ c ∧ i = .int .i64 k ∧ Hid (J k wr) ∧ Hid (Kp Bs g r W wr)) (fun i _ => c - (intOf i).toNat)
  case atStart => exact ⟨0, Nat.zero_le _, rfl, h0, rfl, rfl, rfl⟩
  case round =>
    obtain ⟨k, hk, rfl, hJs, hnx⟩ := hrel
    by_cases hlt : k < c
    · have RW : Hid (RingAt wr g r n f ls) := HH.out.of_block hnx.out.2.1 hnx.out.2.2
      have b0 : wr.cell? ⟨Bs, 0, none⟩ = some (.pointer (some ⟨g, 0, none⟩)) := (World.cell?_of_block (a := ⟨Bs, 0, none⟩) hnx.out.1).trans hBs
      have d0 := RW.out.hd.c0
      have t := RW.out.thing (i := k) (by rw [EC.out]; exact hlt)
      have hp : pl f n k < n := pl_lt (by omega)
      obtain ⟨p, ep⟩ : ∃ p, pl f n k = p := ⟨_, rfl⟩
      have EP : Hid (pl f n k = p) := ep
      obtain ⟨x, ex⟩ : ∃ x, Ls.nth ls k = x := ⟨_, rfl⟩
      have EX : Hid (Ls.nth ls k = x) := ex
      rw [ep] at t hp
      rw [ex] at t
      clear ep ex c0 c1 c2 hBs
      gi_wp2
      gi_region_with_o (first
        | (refine ⟨trivial, ?_⟩; gi_at_call 20; refine (callsIn_wide.2 (place_any g r n f ls.length k p _ (RW.out.hd.keep ((Below.refl _ _).drew)) (by omega) n1 (by omega) (by omega) EP.out)).mono ?_; rintro e w' ⟨rfl, q, rfl⟩; obtain ⟨fn, tmps, assign, body, hy, hR⟩ := hY k (wr.drewN (1 + q)) (by rw [EC.out]; exact hlt) (hJ _ _ _ hJs.out); rw [EX.out] at hy)
        | (refine hR.mono ?_; rintro e W3 hpost; obtain ⟨bq, rfl, hb⟩ : ∃ bq : Bool, e = .returned (.bool bq) ∧ Hid ((bq = true → J (k + 1) W3 ∧ Kp Bs g r (wr.drewN (1 + q)) W3) ∧ (bq = false → Jx (k + 1) W3)) := by {rcases hpost with ⟨h1, h2, h3⟩ | ⟨h1, h2⟩; exact ⟨true, h1, fun _ => ⟨h2, h3⟩, fun h => absurd h (by decide)⟩; exact ⟨false, h1, fun h => absurd h (by decide), fun _ => h2⟩}; clear hpost))
      all_goals
        cases bq with
        | true =>
          obtain ⟨hj, hk3⟩ := hb.out.1 rfl
          have KW : Hid (Kp Bs g r wr W3) := hk3
          have JW : Hid (J (k + 1) W3) := hj
          clear hj hk3 hb
          gi_wp2
          go_roundw
          case rel => exact ⟨k + 1, by omega, by go_num, JW.out, hnx.out.trans KW.out⟩
          case measure => simp [intOf]; omega
        | false =>
          have hx := hb.out.2 rfl
          gi_wp2
          refine bodyPost_ret (results_none rfl _ _ _) rfl ?_
          exact ⟨⟨_, rfl⟩, .inr ⟨k + 1, by have := EC.out; omega, hx⟩⟩
    · have ek : k = c := by omega
      subst ek
      gi_wp2
      go_end0
      exact ⟨⟨_, rfl⟩, .inl (by rw [EC.out]; exact hJs.out)⟩
/-- THE ITERATOR's CONTRACT: all things with their numbers, in order; or the first ones. -/
theorem all_stops (m : Nat) (hm : 1 ≤ m) (Bs g r n f : Nat) (ls : List Int) (w : World) (hB : Bs < w.heap.size) (hBs : w.cell? ⟨Bs, 0, none⟩ = some (.pointer (some ⟨g, 0, none⟩))) (hR : RingAt w g r n f ls) :
    SeqAt m Try.prog 22 #[.pointer (some ⟨Bs, 0, none⟩)] (fun k => #[Value.int .i64 (k : Int), .int .i64 (Ls.nth ls k)]) (Kp Bs g r) ls.length w := fun l J Jx W hW hJ _ hY h0 =>
  all1 m hm l Bs g r n f ls J Jx (fun s A q h => hJ s A (A.drewN q) none h ⟨rfl, rfl, rfl, Nat.le_refl _, fun _ _ _ => rfl⟩ (fun r e => by cases e)) hY W ((hW.cell (p := ⟨Bs, 0, none⟩) hB).trans hBs) (hR.keep hW) h0
end Rn
end Go.Proofs.Ytgjghnbhpnflfaa
