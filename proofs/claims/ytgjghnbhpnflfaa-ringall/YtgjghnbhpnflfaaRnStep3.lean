/- Layer 12's law: the last two ways of one call (a whole list is shifted; a thing is pushed), and any call. -/
import Derived.Test.YtgjghnbhpnflfaaRnStep2
import Derived.Laws.AppendOwn
import Derived.Deep.CutRange
import Derived.Deep.RegionLaw
import Derived.Deep.RegionHeld3
namespace Go.Proofs.Ytgjghnbhpnflfaa
set_option linter.unusedVariables false
set_option linter.unusedSimpArgs false
open Go.RowKit

/-- 'append(own, l...)' at a step of a region that draws its order; l whatever list. -/
theorem step_append_lst {P : Program} {w : World} {ops : Array Oper} {o : Oper} {a : Act} {K : Act → World → Prop} {Q : Exit → Act → World → Prop} {E : Prop} (hgd : o.guard = none) (s x : Operand) (t : TypeId)
    (ho : o.op = .call { callee := .builtin .append, args := #[s, x], argTypes := #[t, t] })
    (base : Nat) (e : TypeId) (k : IntKind) (bytes : Nat) (ht : P.underlying t = some (.slice e)) (hinfo : (P.info? e).map (fun i => (i.zero, i.size, i.bytes)) = some (some (.int k 0), 1, bytes))
    (v : Value) (n : Nat) (xs : List Value) (hs : a.eval s = v) (hown : w.ownsRow base e 1 v n xs)
    (ao : Option Addr) (l : List Int) (c : Nat) (hx : a.eval x = .slice ao l.length c) (hL : Lst k w ao l) (hc : ao = none → c = 0)
    (h63 : n + l.length ≤ maxLen) (hbytes : (n + l.length) * bytes ≤ 140737488355328) (hbase : base ≤ w.heap.size)
    (h : ∀ v' w', w'.ownsRow base e 1 v' (n + l.length) (xs ++ l.map (Value.int k)) → w.grownBy w' v.ownBlock → K (a.put o.dst v') w') :
    if Region.wanted o (yielded ops a.tmps) = true then Oper.wp P o a w K Q else E := by
  have hw : Region.wanted o (yielded ops a.tmps) = true := by simp [Region.wanted, hgd]
  rw [if_pos hw]
  obtain ⟨i, hi, hz0, hz1, hz2⟩ := info_parts hinfo
  cases ao with
  | none =>
    have e0 := hL.none_nil
    subst e0
    have hc0 := hc rfl
    subst hc0
    have hrun := run_append_owned_none (P := P) (w := w) base t o.type e i 1 ht hi v n xs hown
    have hk := h v w (by simpa using hown) (World.grownBy.refl _ _)
    unfold Oper.wp
    simp at hx
    simp [execOp, ho, resolve, invoke, builtin, hs, hx, hrun, Result.andThen]
    exact hk
  | some ad =>
    refine wp_append_own w s x t ho base e i (.int k 0) 1 bytes ht hi hz0 hz1 hz2 rfl (by omega) v n xs hs hown ad l.length c (l.map (Value.int k)) hx (by simp) ?_ (ints_oneCell k l) h63 hbytes hbase (fun v' w' h1 h2 _ => h v' w' h1 h2)
    intro j u hu
    have hj : j < l.length := by
      have := (List.getElem?_eq_some_iff.1 hu).1
      simpa using this
    obtain ⟨b, o1, e1, hcell⟩ := hL j hj
    simp at e1
    subst e1
    rw [Addr.add_lit, hcell]
    simpa [Ls.nth, hj] using hu

namespace Rn
theorem own_second (u : World) (o : Obj) : (((u.alloc o).alloc (.cells #[] 3)).drew).ownsRow u.heap.size 3 1 (.slice (some ⟨u.heap.size + 1, 0, none⟩) 0 0) 0 [] := by
  have := World.ownsRow_made (base := u.heap.size) (e := 3) (size := 1) (u.alloc o) #[] 0 (by simp) (by decide) rfl
  rw [World.size_alloc] at this
  exact this.drew
theorem heap_fst2 (u : World) (o o' : Obj) : (((u.alloc o).alloc o').drew).heap[u.heap.size]? = some o := by
  show ((u.alloc o).alloc o').heap[u.heap.size]? = some o
  rw [Below.heap_alloc _ _ _ (by simp)]
  exact World.alloc_heap_new u o
theorem heap_snd2 (u : World) (o o' : Obj) : (((u.alloc o).alloc o').drew).heap[u.heap.size + 1]? = some o' := by
  have := World.alloc_heap_new (u.alloc o) o'
  rw [World.size_alloc] at this
  exact this
set_option maxRecDepth 100000 in
set_option maxHeartbeats 3200000 in
theorem step2_whole (B g q n f c ca : Nat) (a : Option Addr) (l : List Int) (w : World) (h : St B w g q n f l a ca) (hc : l.length = c) (hk0 : 1 ≤ c) (hne : ca = c) :
    Calls Try.prog 9 #[.pointer (some ⟨g, 0, none⟩), .slice a c ca, .int .i64 n, .agg #[.int .i64 2, .int .i64 c]] w fun e w' => Res2 B n g q w e w' := by
  have H : Hid (St B w g q n f l a ca) := h
  have C : Hid (l.length = c) := hc
  obtain ⟨cn, n1, _⟩ := h.1.nums
  rw [hc] at cn
  have cca : c ≤ ca := by have := h.2.2.1; omega
  have hca := h.2.2.2.1
  unfold maxLen at hca
  have H1 : Hid (St B (w.alloc (.cells #[.int .i64 2, .int .i64 c] 30)) g q n f l a ca) := H.out.keep (box_below _ _)
  have BW : Hid (B ≤ w.heap.size ∧ g < w.heap.size ∧ q < w.heap.size) := ⟨h.2.2.2.2.2.2.2.2, h.1.lt.1, h.1.lt.2⟩
  have OB : Hid (But g q w (w.alloc (.cells #[.int .i64 2, .int .i64 c] 30))) := But.of_below (box_below _ _)
  subst hne
  have d1 : decide ((ca : Int) < 1) = false := decide_eq_false (by omega)
  obtain ⟨p, ep⟩ : ∃ p, pl f n ca = p := ⟨_, rfl⟩
  have EP : Hid (pl f n ca = p) := ep
  clear ep
  clear h hc
  go_enter Try.func9, Try.ntmps9
  go_wp2_with fail
  refine (shift_yes g q n f ca p l _ H1.out.1 hk0 (by have := C.out; omega) EP.out).mono ?_
  rintro e w1 ⟨s, rfl, hs, hl, hr, hb⟩
  have HB : Hid (But g q (w.alloc (.cells #[.int .i64 2, .int .i64 ca] 30)) w1) := hb
  have LS : Hid (Lst .i64 w1 (some ⟨s, 0, none⟩) (l.take ca)) := hl
  have RR : Hid (RingAt w1 g q n p (l.drop ca)) := hr
  have LA : Hid (Lst .i64 w1 a l) := H1.out.lst hb
  have ob : w1.cell? ⟨w.heap.size, 1, none⟩ = some (.int .i64 ca) := (hb.cell (a := ⟨w.heap.size, 1, none⟩) (by simp) (by have := BW.out.2; show ¬ w.heap.size = g; omega) (by have := BW.out.2; show ¬ w.heap.size = q; omega)).trans (by simp)
  have lt : Hid ((l.take ca).length = ca) := by show _ = _; rw [List.length_take]; have := C.out; omega
  clear hs hl hr hb
  go_wp2
  go_quiet ((go_at_call 12; exact (same_yes (some ⟨s, 0, none⟩) a ca ca ca (l.take ca) _ (LS.out.draws _) ((LA.out.to ca).draws _) lt.out (by omega)).mono fun _ _ ⟨he, z, hw⟩ => ⟨he, _, drewN_then hw⟩))
  go_wp2
  refine bodyPost_ret (v := .tuple #[.pointer (some ⟨g, 0, none⟩), .slice a 0 0, .bool true]) (by simp [results, Try.results9, go_sem]) rfl ?_
  have h9 := H1.out.2.2.2.2.2
  have ld : (l.drop ca).length = 0 := by rw [List.length_drop, C.out]; omega
  exact ⟨g, q, p, 0, l.drop ca, a, 0, rfl, ld, ⟨RR.out.keep (below_drewN (Below.refl _ _) _), fun i hi => absurd hi (by omega), by omega, Nat.zero_le _, fun _ => rfl, fun hl => absurd hl (by omega), h9.2.1, h9.2.2.1, Nat.le_trans h9.2.2.2 HB.out.size⟩, (OB.out.trans HB.out).drew _⟩
set_option maxRecDepth 100000 in
set_option maxHeartbeats 3200000 in
theorem step1_ok (B g q n f c ca : Nat) (a : Option Addr) (N : Int) (l : List Int) (w : World) (h : St B w g q n f l a ca) (hc : l.length = c) (hn : c < n) :
    Calls Try.prog 9 #[.pointer (some ⟨g, 0, none⟩), .slice a c ca, .int .i64 n, .agg #[.int .i64 1, .int .i64 N]] w fun e w' => Res2 B n g q w e w' := by
  have H : Hid (St B w g q n f l a ca) := h
  have C : Hid (l.length = c) := hc
  obtain ⟨cn, n1, _⟩ := h.1.nums
  rw [hc] at cn
  have cca : c ≤ ca := by have := h.2.2.1; omega
  have hca := h.2.2.2.1
  unfold maxLen at hca
  have H1 : Hid (St B (w.alloc (.cells #[.int .i64 1, .int .i64 N] 30)) g q n f l a ca) := H.out.keep (box_below _ _)
  have BW : Hid (B ≤ w.heap.size ∧ g < w.heap.size ∧ q < w.heap.size) := ⟨h.2.2.2.2.2.2.2.2, h.1.lt.1, h.1.lt.2⟩
  have OB : Hid (But g q w (w.alloc (.cells #[.int .i64 1, .int .i64 N] 30))) := But.of_below (box_below _ _)
  obtain ⟨i0, hi0, hi1, hi2, hi3⟩ := info_parts Try.infoIntR
  have dcn : ((c : Int) == (n : Int)) = false := by simp; omega
  obtain ⟨u, eu⟩ : ∃ u, w.alloc (.cells #[.int .i64 1, .int .i64 N] 30) = u := ⟨_, rfl⟩
  have cu : u.cell? ⟨w.heap.size, 1, none⟩ = some (.int .i64 N) := by rw [← eu]; simp
  have c0 : u.cell? ⟨w.heap.size, 0, none⟩ = some (.int .i64 1) := by rw [← eu]; simp
  have WLT : Hid (w.heap.size < u.heap.size) := by show _ < _; rw [← eu]; simp
  have EU : Hid (w.alloc (.cells #[.int .i64 1, .int .i64 N] 30) = u) := eu
  rw [eu] at H1 OB
  clear eu
  clear h hc
  go_enter Try.func9, Try.ntmps9
  go_upto_region 5 with (fail)
  rw [EU.out]
  have nn : a = none → ca = 0 := H1.out.2.2.2.2.1
  have NN : Hid (a = none → ca = 0) := nn
  have LA : Hid (Lst .i64 u a l) := H1.out.2.1
  have CU : Hid (u.cell? ⟨w.heap.size, 1, none⟩ = some (.int .i64 N)) := cu
  clear nn c0
  go_region_held3 (fun w' => w'.cell? ⟨w.heap.size, 1, none⟩ = some (.int .i64 N))
    (first
      | go_keep
      | exact cu
      | exact k3
      | exact k2
      | exact k1)
    (first
      | (refine step_append_lst (by rfl) _ _ 28 (by rfl) u.heap.size 3 .i64 8 Try.underlying28 Try.infoIntR _ 0 [] (by rfl) ((World.ownsRow_made u #[] 0 (Nat.le_refl _) (by decide) rfl).drew) a l ca (by rw [C.out]; rfl) (LA.out.keep ((box_below u _).drew)) NN.out (by unfold maxLen; have := C.out; omega) (by have := C.out; omega) (by simp) ?_
         intro v1 w1 ho1 hg1
         simp only [Nat.zero_add, List.nil_append] at ho1
         rw [C.out] at ho1
         obtain ⟨va, vc, rfl⟩ := own_slice ho1
         have B1 : Hid (Below u.heap.size u w1) := ((box_below u _).drew).grown hg1 (by simp) (fun q hq => by cases hq; exact Nat.le_refl _)
         have O1 : Hid (w1.ownsRow u.heap.size 3 1 (.slice va c vc) c (l.map (Value.int .i64))) := ho1
         have k1 : w1.cell? ⟨w.heap.size, 1, none⟩ = some (.int .i64 N) := (B1.out.cell (p := ⟨w.heap.size, 1, none⟩) WLT.out).trans CU.out
         clear ho1 hg1)
      | (refine step_append_lst (by rfl) _ _ 28 (by rfl) u.heap.size 3 .i64 8 Try.underlying28 Try.infoIntR _ 0 [] (by rfl) (((World.ownsRow_made u #[] 0 (Nat.le_refl _) (by decide) rfl).alloc _).drew) a l ca (by rw [C.out]; rfl) (LA.out.keep ((two_boxes u _ _).drew)) NN.out (by unfold maxLen; have := C.out; omega) (by have := C.out; omega) (by simp <;> omega) ?_
         intro v1 w1 ho1 hg1
         simp only [Nat.zero_add, List.nil_append] at ho1
         rw [C.out] at ho1
         obtain ⟨va, vc, rfl⟩ := own_slice ho1
         have B1 : Hid (Below u.heap.size u w1) := ((two_boxes u _ _).drew).grown hg1 (by simp <;> omega) (fun q hq => by cases hq; exact Nat.le_refl _)
         have O1 : Hid (w1.ownsRow u.heap.size 3 1 (.slice va c vc) c (l.map (Value.int .i64))) := ho1
         have NL : Hid (w1.heap[u.heap.size + 1]? = some (.cells #[.int .i64 N] 3)) := (hg1.block (u.heap.size + 1) (by simp) (fun e => by have h : u.heap.size + 1 = u.heap.size := Option.some.inj e; omega)).trans (heap_snd2 u _ _)
         have k1 : w1.cell? ⟨w.heap.size, 1, none⟩ = some (.int .i64 N) := (B1.out.cell (p := ⟨w.heap.size, 1, none⟩) WLT.out).trans CU.out
         clear ho1 hg1)
      | (refine step_append_lst (by rfl) _ _ 28 (by rfl) u.heap.size 3 .i64 8 Try.underlying28 Try.infoIntR _ 0 [] (by rfl) (own_second u _) a l ca (by rw [C.out]; rfl) (LA.out.keep ((two_boxes u _ _).drew)) NN.out (by unfold maxLen; have := C.out; omega) (by have := C.out; omega) (by simp <;> omega) ?_
         intro v1 w1 ho1 hg1
         simp only [Nat.zero_add, List.nil_append] at ho1
         rw [C.out] at ho1
         obtain ⟨va, vc, rfl⟩ := own_slice ho1
         have B1 : Hid (Below u.heap.size u w1) := ((two_boxes u _ _).drew).grown hg1 (by simp <;> omega) (fun q hq => by cases hq; exact Nat.le_succ _)
         have O1 : Hid (w1.ownsRow u.heap.size 3 1 (.slice va c vc) c (l.map (Value.int .i64))) := ho1
         have NL : Hid (w1.heap[u.heap.size]? = some (.cells #[.int .i64 N] 3)) := (hg1.block u.heap.size (by simp <;> omega) (fun e => by have h : u.heap.size = u.heap.size + 1 := Option.some.inj e; omega)).trans (heap_fst2 u _ _)
         have k1 : w1.cell? ⟨w.heap.size, 1, none⟩ = some (.int .i64 N) := (B1.out.cell (p := ⟨w.heap.size, 1, none⟩) WLT.out).trans CU.out
         clear ho1 hg1)
      | (refine step_append_lies _ (by rfl) _ _ _ (by rfl) u.heap.size 3 i0 _ 1 8 Try.underlying28 hi0 hi1 hi2 hi3 rfl (by omega) _ c _ (by rfl) (O1.out.alloc _) ⟨w1.heap.size, 0, none⟩ 1 1 [.int .i64 N] (by rfl) (by rfl) (World.news_of_block (cs := #[.int .i64 N]) (t := 3) (fr := (0, 0)) (heap_alloc_new w1 _)) (by simp [Value.oneCell']) (by omega) (by unfold maxLen; omega) (by omega) (by have := B1.out.size; simp; omega) (w1.heap.size + 1) (by first | rfl | simp) ?_
         intro gg cap w2 ho2 hg2 hat2 hlt2
         have B2 : Hid (Below u.heap.size u w2) := (B1.out.alloc B1.out.size _).grown hg2 (by have := B1.out.size; simp; omega) (fun q hq => (O1.out.lt q hq).1)
         have O2 : Hid (w2.ownsRow u.heap.size 3 1 (.slice (some ⟨gg, 0, none⟩) (c + 1) cap) (c + 1) (l.map (Value.int .i64) ++ [.int .i64 N])) := ho2
         have k2 : w2.cell? ⟨w.heap.size, 1, none⟩ = some (.int .i64 N) := (B2.out.cell (p := ⟨w.heap.size, 1, none⟩) WLT.out).trans CU.out
         clear ho2 hg2 hat2)
      | (refine step_append_lies _ (by rfl) _ _ _ (by rfl) u.heap.size 3 i0 _ 1 8 Try.underlying28 hi0 hi1 hi2 hi3 rfl (by omega) _ c _ (by rfl) O1.out ⟨u.heap.size + 1, 0, none⟩ 1 1 [.int .i64 N] (by rfl) (by rfl) (World.news_of_block (cs := #[.int .i64 N]) (t := 3) (fr := (0, 0)) NL.out) (by simp [Value.oneCell']) (by omega) (by unfold maxLen; omega) (by omega) (by have := B1.out.size; omega) w1.heap.size (by first | rfl | simp) ?_
         intro gg cap w2 ho2 hg2 hat2 hlt2
         have B2 : Hid (Below u.heap.size u w2) := B1.out.grown hg2 B1.out.size (fun q hq => (O1.out.lt q hq).1)
         have O2 : Hid (w2.ownsRow u.heap.size 3 1 (.slice (some ⟨gg, 0, none⟩) (c + 1) cap) (c + 1) (l.map (Value.int .i64) ++ [.int .i64 N])) := ho2
         have k2 : w2.cell? ⟨w.heap.size, 1, none⟩ = some (.int .i64 N) := (B2.out.cell (p := ⟨w.heap.size, 1, none⟩) WLT.out).trans CU.out
         clear ho2 hg2 hat2)
      | (refine step_append_lies _ (by rfl) _ _ _ (by rfl) u.heap.size 3 i0 _ 1 8 Try.underlying28 hi0 hi1 hi2 hi3 rfl (by omega) _ c _ (by rfl) O1.out ⟨u.heap.size, 0, none⟩ 1 1 [.int .i64 N] (by rfl) (by rfl) (World.news_of_block (cs := #[.int .i64 N]) (t := 3) (fr := (0, 0)) NL.out) (by simp [Value.oneCell']) (by omega) (by unfold maxLen; omega) (by omega) (by have := B1.out.size; omega) w1.heap.size (by first | rfl | simp) ?_
         intro gg cap w2 ho2 hg2 hat2 hlt2
         have B2 : Hid (Below u.heap.size u w2) := B1.out.grown hg2 B1.out.size (fun q hq => (O1.out.lt q hq).1)
         have O2 : Hid (w2.ownsRow u.heap.size 3 1 (.slice (some ⟨gg, 0, none⟩) (c + 1) cap) (c + 1) (l.map (Value.int .i64) ++ [.int .i64 N])) := ho2
         have k2 : w2.cell? ⟨w.heap.size, 1, none⟩ = some (.int .i64 N) := (B2.out.cell (p := ⟨w.heap.size, 1, none⟩) WLT.out).trans CU.out
         clear ho2 hg2 hat2)
      | (go_at_call 14
         refine (push_ok g q n f N l _ (H1.out.1.keep B2.out) (by have := C.out; omega)).mono ?_
         rintro e w3 ⟨rfl, hr, hb⟩
         have R3 : Hid (RingAt w3 g q n f (l ++ [N])) := hr
         have HB : Hid (But g q w2 w3) := hb
         have k3 : w3.cell? ⟨w.heap.size, 1, none⟩ = some (.int .i64 N) := (hb.cell (a := ⟨w.heap.size, 1, none⟩) (by have := B2.out.size; have := WLT.out; show w.heap.size < w2.heap.size; omega) (by have := BW.out; show ¬ w.heap.size = g; omega) (by have := BW.out; show ¬ w.heap.size = q; omega)).trans k2
         clear hr hb))
  all_goals
    go_wp2
    refine bodyPost_ret (v := .tuple #[.pointer (some ⟨g, 0, none⟩), .slice (some ⟨gg, 0, none⟩) (c + 1) cap, .bool true]) (by simp [results, Try.results9, go_sem]) rfl ?_
    have h9 := H1.out.2.2.2.2.2
    have bw := BW.out
    have wlt := WLT.out
    have ggl : u.heap.size ≤ gg := (O2.out.lt gg rfl).1
    have e2 : l.map (Value.int .i64) ++ [.int .i64 N] = (l ++ [N]).map (Value.int .i64) := by simp
    have ll : (l ++ [N]).length = c + 1 := by simp; exact C.out
    have O3 := O2.out
    rw [e2, ← ll] at O3
    obtain ⟨a', cap', ea, hl, hc1, hc2⟩ := lst_of_own O3
    cases ea
    refine ⟨g, q, f, c + 1, l ++ [N], _, cap, rfl, ll, ⟨R3.out, (lst_but hl HB.out fun x ex => ?_), hc1, hc2, (fun e => by cases e), (fun _ x ex => ?_), h9.2.1, h9.2.2.1, ?_⟩, (OB.out.trans (But.of_below B2.out)).trans HB.out⟩
    · cases ex
      show ¬ gg = g ∧ ¬ gg = q
      omega
    · cases ex
      show ¬ gg = g ∧ ¬ gg = q
      omega
    · exact Nat.le_trans h9.2.2.2 (Nat.le_trans B2.out.size HB.out.size)
theorem step_any2 (B g q n f c ca : Nat) (a : Option Addr) (kd N : Int) (l : List Int) (w : World) (h : St B w g q n f l a ca) (hc : l.length = c) :
    Calls Try.prog 9 #[.pointer (some ⟨g, 0, none⟩), .slice a c ca, .int .i64 n, .agg #[.int .i64 kd, .int .i64 N]] w fun e w' => Res2 B n g q w e w' := by
  have cn : c ≤ n := by have := h.1.nums.1; omega
  have cca : c ≤ ca := by have := h.2.2.1; omega
  by_cases k1 : kd = 1
  · subst k1
    by_cases e : c = n
    · exact step1_full B g q n f c ca a N l w h hc e
    · exact step1_ok B g q n f c ca a N l w h hc (by omega)
  by_cases k2 : kd = 2
  · subst k2
    by_cases e : N < 1 ∨ c < N
    · exact step2_no B g q n f c ca a N l w h hc e
    · obtain ⟨k, rfl⟩ : ∃ k : Nat, N = k := ⟨N.toNat, by omega⟩
      by_cases e2 : ca = k
      · have e3 : k = c := by omega
        subst e3
        exact step2_whole B g q n f k ca a l w h hc (by omega) e2
      · exact step2_yes B g q n f c ca a k l w h hc (by omega) (by omega) e2
  by_cases k3 : kd = 3
  · subst k3
    by_cases e : N < 0 ∨ c < N
    · exact step3_no B g q n f c ca a N l w h hc e
    · obtain ⟨k, rfl⟩ : ∃ k : Nat, N = k := ⟨N.toNat, by omega⟩
      exact step3_yes B g q n f c ca a k l w h hc (by omega)
  by_cases k4 : kd = 4
  · subst k4
    by_cases e : c = 0
    · by_cases e2 : c = n
      · exact step4_empty_full B g q n f c ca a N l w h hc e e2
      · exact step4_empty_ok B g q n f c ca a N l w h hc e (by omega)
    · exact step4_more_ok B g q n f c ca a N l w h hc (by omega) (by omega)
  by_cases e : N < 0 ∨ c ≤ N
  · exact step5_no B g q n f c ca a kd N l w h hc ⟨k1, k2, k3, k4⟩ e
  · obtain ⟨k, rfl⟩ : ∃ k : Nat, N = k := ⟨N.toNat, by omega⟩
    exact step5_yes B g q n f c ca a kd k l w h hc ⟨k1, k2, k3, k4⟩ (by omega)
theorem step_any (B g q n f c ca : Nat) (a : Option Addr) (kd N : Int) (l : List Int) (w : World) (h : St B w g q n f l a ca) (hc : l.length = c) :
    Calls Try.prog 9 #[.pointer (some ⟨g, 0, none⟩), .slice a c ca, .int .i64 n, .agg #[.int .i64 kd, .int .i64 N]] w fun e w' => Res B n w e w' :=
  (step_any2 B g q n f c ca a kd N l w h hc).mono fun e w' ⟨g', q', f', c', l', a', ca', h1, h2, h3, h4⟩ => ⟨g', q', f', c', l', a', ca', h1, h2, h3, h4.below h.2.2.2.2.2.2.1 h.2.2.2.2.2.2.2.1 h.2.2.2.2.2.2.2.2⟩
end Rn
end Go.Proofs.Ytgjghnbhpnflfaa
