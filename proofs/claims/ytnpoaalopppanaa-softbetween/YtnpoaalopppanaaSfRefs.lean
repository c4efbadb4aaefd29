/- Contracts of the document's own weights and mean (layer 4), made element by element. -/
import Derived.Test.YtnpoaalopppanaaSfMix
namespace Go.Proofs.Ytnpoaalopppanaa
set_option linter.unusedVariables false
open Go.RowKit
attribute [local go_sem ↓] Go.wp_at_zero Go.wp_at_succ

theorem own_drewN {w : World} {base : Nat} {e : TypeId} {size : Nat} {v : Value} {n : Nat} {xs : List Value} (h : w.ownsRow base e size v n xs) (m : Nat) : (w.drewN m).ownsRow base e size v n xs := h
theorem gen_snoc_own64 {w : World} {base : Nat} {t : TypeId} {v : Value} {k : Nat} {F : Nat → Int} {y : Int} (h : w.ownsRow base t 1 v (k + 1) ((Ls.gen k F).map (Value.int .i64) ++ [.int .i64 y])) (e : y = F k) :
    w.ownsRow base t 1 v (k + 1) ((Ls.gen (k + 1) F).map (Value.int .i64)) := by
  rw [Ls.gen_succ, List.map_append]
  subst e
  exact h

set_option maxRecDepth 100000 in
set_option maxHeartbeats 1600000 in
theorem refWeights_any (a : Option Addr) (c : Nat) (x : List Int) (w : World) (ha : Lst .i32 w a x) (hp : 0 < x.length) (hl : x.length ≤ 1024) (hx : Ls.In32 x) :
    Calls Try.prog 10 #[.slice a x.length c] w fun e w' => ∃ v, e = .returned v ∧
      w'.ownsRow w.heap.size 3 1 v x.length ((Tb.weights x).map (Value.int .i64)) ∧ Below w.heap.size w w' := by
  obtain ⟨i0, hi0, hz0, hz1, hz2⟩ := info_parts Try.infoInt
  have HA : Hid (Lst .i32 w a x) := ha
  have HX : Hid (Ls.In32 x) := hx
  clear ha hx
  have pt := HX.out (Ls.top x)
  go_enter Try.func10, Try.ntmps10
  go_wp2_with fail
  refine (refTop_any _ _ _ _ HA.out (by omega)).mono ?_
  rintro e w' ⟨rfl, n, rfl⟩
  have htl := Ls.top_lt hp
  obtain ⟨t, et⟩ : ∃ t, Ls.top x = t := ⟨_, rfl⟩
  rw [et] at htl pt
  rw [et]
  have ET : Hid (Ls.top x = t) := et
  clear et
  obtain ⟨b1, o1, rfl, hc1⟩ := HA.out.get hp
  have hct := hc1 t htl
  have HC : Hid (∀ j, j < x.length → w.cell? ⟨b1, o1 + j, none⟩ = some (.int .i32 (Ls.nth x j))) := hc1
  clear hc1
  go_wp2
  go_loopw [4, 5] (fun v i wr => ∃ k : Nat, k ≤ x.length ∧ i = .int .i64 k ∧ wr.ownsRow w.heap.size 3 1 v k ((Ls.gen k (Tb.wt x)).map (Value.int .i64)) ∧ Below w.heap.size w wr) (fun _ i _ => x.length - (intOf i).toNat)
  case atStart => exact ⟨0, Nat.zero_le _, rfl, World.ownsRow_nil _ _ _ _, below_drewN (Below.refl _ _) n⟩
  case round =>
    obtain ⟨k, hk, rfl, hown, hbel⟩ := hrel
    clear hct
    by_cases hlt : k < x.length
    · have hk1 := HC.out k hlt
      have l1 := World.block_lt_of_cell? w _ hk1
      have hck1 : wr.cell? ⟨b1, o1 + k, none⟩ = some (.int .i32 (Ls.nth x k)) := by rw [hbel.cell (p := ⟨b1, o1 + k, none⟩) l1]; exact hk1
      have hsz := hbel.size
      clear hk1 l1
      have pa := HX.out k
      have hcut := Ls.cut_bd (Ls.nth x k - Ls.nth x t) (-2147483648) 2147483647 (by omega)
      go_wp2_with (first
        | (go_at_call 23; refine (refWide_any _ _).mono ?_; rintro e w' ⟨rfl, rfl⟩)
        | (go_at_call 22; refine (refExp_any _ hcut.1 hcut.2 _).mono ?_; rintro e w' ⟨rfl, rfl⟩)
        | (at_builtin; refine wpList_append_lies _ rfl _ _ _ rfl w.heap.size 3 i0 _ 1 8 Try.underlying24 hi0 hz0 hz1 hz2 rfl (by omega) _ k _ (by rfl) (hown.alloc _) ⟨w'.heap.size, 0, none⟩ 1 1 [.int .i64 (Ex.exp (Fx.cut (Ls.nth x k - Ls.nth x t) (-2147483648) 2147483647))] (by rfl) (by rfl) (World.news_of_block (cs := #[.int .i64 (Ex.exp (Fx.cut (Ls.nth x k - Ls.nth x t) (-2147483648) 2147483647))]) (t := 3) (fr := (0, 0)) (heap_alloc_new w' _)) (by simp [Value.oneCell']) (by omega) (by unfold maxLen; omega) (by omega) (by simp; omega) (w'.heap.size + 1) (by simp) ?_; intro gg cap w1 hown1 hgrow hat hlt1; have hb2 : Below w.heap.size w w1 := (hbel.alloc (by omega) _).grown hgrow (by simp; omega) (fun j hj => (hown.lt j hj).1); clear hgrow hown hbel hck1))
      go_roundw
      case rel => exact ⟨k + 1, by omega, by go_num, gen_snoc_own64 hown1 (by unfold Tb.wt; rw [ET.out]), hb2⟩
      case measure => simp [intOf]; omega
    · have e : k = x.length := by omega
      subst e
      go_wp2
      go_ret
      exact ⟨_, rfl, hown, hbel⟩

set_option maxRecDepth 100000 in
set_option maxHeartbeats 3200000 in
theorem refMix_any (a b : Option Addr) (c d : Nat) (x : List Int) (ls : List (List Int)) (w : World) (ha : Lst .i64 w a x) (hb : Tbl w b ls) (hs : Tb.shape x.length ls = 0) (h : Tb.fit x ls = true) :
    Calls Try.prog 18 #[.slice a x.length c, .slice b ls.length d] w fun e w' => ∃ v, e = .returned v ∧
      w'.ownsRow w.heap.size 21 1 v (Tb.row ls 0).length ((Tb.mean x ls).map (Value.int .i32)) ∧ Below w.heap.size w w' := by
  obtain ⟨i0, hi0, hz0, hz1, hz2⟩ := info_parts Try.infoInt32
  have HA : Hid (Lst .i64 w a x) := ha
  have HT : Hid (Tbl w b ls) := hb
  obtain ⟨hp, hl, hxl, he⟩ := Tb.shape_zero hs
  obtain ⟨hw, hm⟩ := Tb.fit_both h
  have hx1 : x.length ≤ ls.length := by omega
  have hx2 : ls.length ≤ x.length := by omega
  have HE : Hid (Tb.even ls = true) := he
  have HW : Hid (Tb.Wts x) := Tb.weigh_wts hw
  have HM : Hid (Tb.Milds ls) := Tb.milds_all hm
  have hs1 := Tb.weigh_sum hw
  have hs2 := Tb.sum_bd HW.out (by omega)
  have hr0 := Ls.mild_len (HM.out 0)
  clear ha hb hxl he h hw hm hs
  obtain ⟨bt, ot, rfl, hct⟩ := HT.out.get hp
  obtain ⟨A0, C0, hck0, _, _⟩ := hct 0 hp
  have H0 : Hid (w.cell? ⟨bt, ot, none⟩ = some (.slice A0 (Tb.row ls 0).length C0)) := by show _ = _; simpa using hck0
  clear hct hck0
  go_enter Try.func18, Try.ntmps18
  go_wp2
  go_loopw [5, 6] (fun v i wr => ∃ k : Nat, k ≤ (Tb.row ls 0).length ∧ i = .int .i64 k ∧ wr.ownsRow w.heap.size 21 1 v k ((Ls.gen k (Tb.place x ls)).map (Value.int .i32)) ∧ Below w.heap.size w wr) (fun _ i _ => (Tb.row ls 0).length - (intOf i).toNat)
  case atStart => exact ⟨0, Nat.zero_le _, rfl, World.ownsRow_nil _ _ _ _, Below.refl _ _⟩
  case round =>
    obtain ⟨k, hk, rfl, hown, hbel⟩ := hrel
    have hck0 : wr.cell? ⟨bt, ot, none⟩ = some (.slice A0 (Tb.row ls 0).length C0) := by rw [hbel.cell (p := ⟨bt, ot, none⟩) (World.block_lt_of_cell? w _ H0.out)]; exact H0.out
    by_cases hlt : k < (Tb.row ls 0).length
    · have hsz := hbel.size
      have HO : Hid (wr.ownsRow w.heap.size 21 1 u5 k ((Ls.gen k (Tb.place x ls)).map (Value.int .i32))) := hown
      have HB : Hid (Below w.heap.size w wr) := hbel
      clear hown hbel
      go_wp2
      clear hck0
      go_loopw [7, 8] (fun s j wr' => ∃ q n : Nat, q ≤ ls.length ∧ j = .int .i64 q ∧ s = .int .i64 (Tb.mixN x ls k q) ∧ wr' = wr.drewN n) (fun _ j _ => ls.length - (intOf j).toNat)
      case atStart => exact ⟨0, 0, Nat.zero_le _, rfl, rfl, rfl⟩
      case round =>
        obtain ⟨q, n, hq, rfl, rfl, rfl⟩ := hrel
        by_cases hql : q < ls.length
        · obtain ⟨bt', ot', et, hct⟩ := (HT.out.keep HB.out).get hql
          simp at et
          obtain ⟨rfl, rfl⟩ := et
          obtain ⟨A, C, hckq, hLq, _⟩ := hct q hql
          have hlen := Tb.even_at HE.out hql
          have hkq : k < (Tb.row ls q).length := by omega
          clear hct hlen
          obtain ⟨b2, o2, rfl, hc2⟩ := hLq.get hkq
          have hck2 := hc2 k hkq
          obtain ⟨b1, o1, rfl, hc1⟩ := (HA.out.keep HB.out).get (show q < x.length by omega)
          have hck1 := hc1 q (by omega)
          clear hc1 hc2 hLq
          have st := Tb.mixN_step (i := k) HW.out HM.out (show q < 1024 by omega)
          have e0 : (0 : Int) ≤ (q : Int) := by omega
          have e1 : (q : Int) < (ls.length : Int) := by omega
          have e2 : (0 : Int) ≤ (k : Int) := by omega
          have e3 : (k : Int) < ((Tb.row ls q).length : Int) := by omega
          have e4 : (q : Int) < (x.length : Int) := by omega
          go_wp2
          go_quiet (fail)
          go_wp2
          go_roundw
          case rel => exact ⟨q + 1, _, by omega, by go_num, rfl, rfl⟩
          case measure => simp [intOf]; omega
        · have e : q = ls.length := by omega
          subst e
          have hb := Tb.mix_bd HW.out HM.out hl k
          obtain ⟨z, ez⟩ : ∃ z, Tb.mixN x ls k ls.length = z := ⟨_, rfl⟩
          have EZ : Hid (Tb.mix x ls k = z) := ez
          rw [EZ.out] at hb
          rw [ez]
          clear ez
          go_wp2_with (first
            | (go_at_call 14; refine (refSum_any _ _ _ _ ((HA.out.keep HB.out).draws n) HW.out (by omega)).mono ?_; rintro e w' ⟨rfl, hww⟩; cases hww.symm; clear hww)
            | (go_at_call 32; refine (refRatio_any _ _ (by omega) (by omega) hs1 (by omega) _).mono ?_; rintro e w' ⟨rfl, hww⟩; cases hww.symm; clear hww)
            | (go_at_call 31; refine (refNarrow_any _ _).mono ?_; rintro e w' ⟨rfl, hww⟩; cases hww.symm; clear hww)
            | (at_builtin; refine wpList_append_lies _ rfl _ _ _ rfl w.heap.size 21 i0 _ 1 4 Try.underlying22 hi0 hz0 hz1 hz2 rfl (by omega) _ k _ (by rfl) ((own_drewN HO.out n).alloc _) ⟨wr.heap.size, 0, none⟩ 1 1 [.int .i32 (Fx.cut (Fx.rnd z (Tb.sum x)) (-8388608) 8388608)] (by rfl) (by rfl) (World.news_of_block (cs := #[.int .i32 (Fx.cut (Fx.rnd z (Tb.sum x)) (-8388608) 8388608)]) (t := 21) (fr := (0, 0)) (heap_alloc_new (wr.drewN n) _)) (by simp [Value.oneCell']) (by omega) (by unfold maxLen; omega) (by omega) (by simp; omega) (wr.heap.size + 1) (by simp) ?_; intro gg cap w1 hown1 hgrow hat hlt1; have hb2 : Below w.heap.size w w1 := ((below_drewN HB.out n).alloc (by simp; omega) _).grown hgrow (by simp; omega) (fun j hj => (HO.out.lt j hj).1); clear hgrow HO HB))
          go_roundw
          case rel => exact ⟨k + 1, by omega, by go_num, gen_snoc_own hown1 (by unfold Tb.place; rw [EZ.out]), hb2⟩
          case measure => simp [intOf]; omega
    · have e : k = (Tb.row ls 0).length := by omega
      subst e
      go_wp2
      go_ret
      exact ⟨_, rfl, hown, hbel⟩
end Go.Proofs.Ytnpoaalopppanaa
