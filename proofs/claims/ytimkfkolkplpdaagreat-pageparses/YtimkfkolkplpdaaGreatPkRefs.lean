/- The contract of the document's own packing (layer 5), bit by bit. -/
import Derived.Test.YtimkfkolkplpdaaGreatPkMakes
import Derived.Laws.OwnMore
import Derived.Deep.RegionWith
namespace Go.Proofs.YtimkfkolkplpdaaGreat
set_option linter.unusedVariables false
open Go.RowKit
attribute [local go_sem ↓] Go.wp_at_zero Go.wp_at_succ

theorem refPack_nil (a : Option Addr) (c b : Nat) (h : Pk.Ok b) (w : World) :
    Calls Tryz.prog 97 #[.slice a 0 c, .int .i64 b] w fun e w' => e = .returned (.slice none 0 0) ∧ w' = w := by
  have H : Hid (Pk.Ok b) := h
  have EZ : Hid (Pk.size b 0 = 0) := by show _ = _; unfold Pk.size; simp
  clear h
  go_enter Tryz.func97, Tryz.ntmps97
  go_wp2
  go_loop [5, 6] (fun v i => v = .slice none 0 0 ∧ i = .int .i64 0) (fun _ i => 0)
  case atStart => exact ⟨rfl, rfl⟩
  case round =>
    obtain ⟨rfl, rfl⟩ := hrel
    go_wp2_with (go_at_call 80; refine (refWords_any 0 _ H.out (by omega) _).mono ?_; rintro e w' ⟨rfl, hww⟩; cases hww.symm; clear hww; rw [EZ.out])
    go_loop [7] (fun i => i = .int .i64 0) (fun i => 0)
    case atStart => rfl
    case round =>
      subst hrel
      go_wp2
      go_ret
      exact ⟨rfl, rfl⟩

/-- The words of the codes before i, and of the code i the bits before j. -/
def midw (b : Nat) (l : List Int) (i j t : Nat) : Nat := Pk.acc b l t i + if Pk.word b i = t then (Ls.nth l i).toNat % 2 ^ j * 2 ^ Pk.shift b i else 0
theorem midw_zero (b : Nat) (l : List Int) (i t : Nat) : midw b l i 0 t = Pk.acc b l t i := by unfold midw; simp [Nat.mod_one]
theorem midw_all {b : Nat} {l : List Int} {i t : Nat} (hc : Pk.Cds b l) : midw b l i b t = Pk.acc b l t (i + 1) := by
  unfold midw
  by_cases e : Pk.word b i = t
  · rw [if_pos e, Pk.acc_here e, Nat.mod_eq_of_lt (hc i).2]
  · rw [if_neg e, Pk.acc_else e, Nat.add_zero]
theorem midw_lt {b : Nat} {l : List Int} (i j : Nat) (h : Pk.Ok b) (hc : Pk.Cds b l) (hj : j ≤ b) : midw b l i j (Pk.word b i) < 18446744073709551616 := by
  unfold midw
  rw [if_pos rfl]
  have h1 := (Pk.acc_low (Pk.word b i) i h hc).2.1 rfl
  have h2 : (Ls.nth l i).toNat % 2 ^ j < 2 ^ b := Nat.lt_of_lt_of_le (Nat.mod_lt _ (Nat.two_pow_pos _)) (Pk.two_le hj)
  have h3 := Pk.on_top h1 h2
  have h4 : 2 ^ (Pk.shift b i + b) ≤ 2 ^ 64 := Pk.two_le (Pk.shift_le i h)
  rw [Pk.two_64] at h4
  omega
theorem midw_step {b : Nat} {l : List Int} {i j : Nat} : midw b l i (j + 1) (Pk.word b i) = midw b l i j (Pk.word b i) + Pk.bit (Ls.nth l i).toNat j * 2 ^ (Pk.shift b i + j) := by
  unfold midw
  rw [if_pos rfl, if_pos rfl, Pk.bits_more0, Nat.add_mul, Nat.add_assoc, Nat.mul_assoc, ← Nat.pow_add, Nat.add_comm j]
theorem midw_else {b : Nat} {l : List Int} {i j t : Nat} (h : ¬ t = Pk.word b i) : midw b l i (j + 1) t = midw b l i j t := by
  unfold midw
  rw [if_neg (by omega), if_neg (by omega)]

theorem gen_set {n : Nat} {F G : Nat → Nat} {t : Nat} {y : Nat} (k : IntKind) (ht : t < n) (hy : y = G t) (hG : ∀ j, ¬ j = t → G j = F j) :
    (((Ls.gen n fun j => (F j : Int)).map (Value.int k)).set t (.int k (y : Int))) = (Ls.gen n fun j => (G j : Int)).map (Value.int k) := by
  apply List.ext_getElem
  · simp [Ls.gen]
  · intro i h1 h2
    simp [Ls.gen] at h1 h2
    rw [List.getElem_set]
    by_cases e : t = i
    · subst e
      simp [Ls.gen, hy]
    · rw [if_neg e]
      simp [Ls.gen, hG i (by omega)]
theorem gen_at {n : Nat} {F : Nat → Nat} {t : Nat} (k : IntKind) (ht : t < n) : ((Ls.gen n fun j => (F j : Int)).map (Value.int k))[t]? = some (.int k (F t : Int)) := by
  simp [Ls.gen, ht]
theorem gen_snoc0 {w : World} {base : Nat} {t : TypeId} {v : Value} {k : Nat} {F : Nat → Int} {y : Int} (h : w.ownsRow base t 1 v (k + 1) ((Ls.gen k F).map (Value.int .u64) ++ [.int .u64 y])) (e : y = F k) :
    w.ownsRow base t 1 v (k + 1) ((Ls.gen (k + 1) F).map (Value.int .u64)) := by
  rw [Ls.gen_succ, List.map_append]
  subst e
  exact h

set_option maxRecDepth 100000 in
set_option maxHeartbeats 1600000 in
theorem refPack_any (a : Option Addr) (c b : Nat) (l : List Int) (h : Pk.Ok b) (hp : 0 < l.length) (hl : l.length ≤ 256) (w : World) (ha : Lst .i64 w a l) (hc : Pk.Cds b l) :
    Calls Tryz.prog 97 #[.slice a l.length c, .int .i64 b] w fun e w' => ∃ v, e = .returned v ∧
      w'.ownsRow w.heap.size 99 1 v (Pk.size b l.length) ((Pk.pack b l).map (Value.int .u64)) ∧ Below w.heap.size w w' := by
  obtain ⟨i0, hi0, hz0, hz1, hz2⟩ := info_parts Tryz.infoU64
  have H : Hid (Pk.Ok b) := h
  have HA : Hid (Lst .i64 w a l) := ha
  have HC : Hid (Pk.Cds b l) := hc
  have hb := ok_le h
  have hz := Pk.size_le h hl
  have hzp := Pk.word_size h hp
  unfold Pk.pack
  obtain ⟨z, ez⟩ : ∃ z, Pk.size b l.length = z := ⟨_, rfl⟩
  have EZ : Hid (Pk.size b l.length = z) := ez
  rw [ez] at hz hzp
  rw [ez]
  have hzp : 0 < z := by omega
  clear h ha hc ez
  go_enter Tryz.func97, Tryz.ntmps97
  go_wp2
  go_loopw [5, 6] (fun v i wr => ∃ k : Nat, k ≤ z ∧ i = .int .i64 k ∧ wr.ownsRow w.heap.size 99 1 v k ((Ls.gen k fun _ => 0).map (Value.int .u64)) ∧ Below w.heap.size w wr) (fun _ i _ => z - (intOf i).toNat)
  case atStart => exact ⟨0, Nat.zero_le _, rfl, World.ownsRow_nil _ _ _ _, Below.refl _ _⟩
  case round =>
    obtain ⟨k, hk, rfl, hown, hbel⟩ := hrel
    by_cases hlt : k < z
    · have hsz := hbel.size
      go_wp2_with (first
        | (go_at_call 80; refine (refWords_any _ _ H.out hl _).mono ?_; rintro e w' ⟨rfl, hww⟩; cases hww.symm; clear hww; rw [EZ.out])
        | (at_builtin; refine wpList_append_lies _ rfl _ _ _ rfl w.heap.size 99 i0 _ 1 8 Tryz.underlying85 hi0 hz0 hz1 hz2 rfl (by omega) _ k _ (by rfl) (hown.alloc _) ⟨wr.heap.size, 0, none⟩ 1 1 [.int .u64 0] (by rfl) (by rfl) (World.news_of_block (cs := #[.int .u64 0]) (t := 99) (fr := (0, 0)) (heap_alloc_new wr _)) (by simp [Value.oneCell']) (by omega) (by unfold maxLen; omega) (by omega) (by simp; omega) (wr.heap.size + 1) (by simp) ?_; intro gg cap w1 hown1 hgrow hat hlt1; have hb2 : Below w.heap.size w w1 := (hbel.alloc (by omega) _).grown hgrow (by simp; omega) (fun j hj => (hown.lt j hj).1); clear hgrow hown hbel))
      go_roundw
      case rel => exact ⟨k + 1, by omega, by go_num, gen_snoc0 hown1 rfl, hb2⟩
      case measure => simp [intOf]; omega
    · have e : z = k := by omega
      subst e
      clear hk hlt
      obtain ⟨g, cap, rfl⟩ : ∃ g cap, u5 = .slice (some ⟨g, 0, none⟩) z cap := by
        rcases hown.2 with ⟨_, e0⟩ | ⟨g, cap, cur, e0, _⟩
        · omega
        · exact ⟨g, cap, e0⟩
      have hg := (hown.lt g rfl).1
      have HO0 : Hid (wr.ownsRow w.heap.size 99 1 (.slice (some ⟨g, 0, none⟩) z cap) z ((Ls.gen z fun _ => 0).map (Value.int .u64))) := hown
      have HB0 : Hid (Below w.heap.size w wr) := hbel
      clear hown hbel
      go_wp2_with (go_at_call 80; refine (refWords_any _ _ H.out hl _).mono ?_; rintro e w' ⟨rfl, hww⟩; cases hww.symm; clear hww; rw [EZ.out])
      go_loopw [7] (fun i wr => ∃ k : Nat, k ≤ l.length ∧ i = .int .i64 k ∧ wr.ownsRow w.heap.size 99 1 (.slice (some ⟨g, 0, none⟩) z cap) z ((Ls.gen z fun t => (Pk.acc b l t k : Int)).map (Value.int .u64)) ∧ Below w.heap.size w wr) (fun i _ => l.length - (intOf i).toNat)
      case atStart => exact ⟨0, Nat.zero_le _, rfl, HO0.out, HB0.out⟩
      case round =>
        clear HO0 HB0
        obtain ⟨k, hk, rfl, hown, hbel⟩ := hrel
        by_cases hlt : k < l.length
        · have hs := Pk.shift_le k H.out
          have hts := Pk.word_size H.out hlt
          have hcd := HC.out k
          obtain ⟨zi, ezi⟩ : ∃ zi, k * b = zi := ⟨_, rfl⟩
          have EZI : Hid (k * b = zi) := ezi
          have hzi : (k : Int) * (b : Int) = (zi : Int) := by rw [← ezi]; exact (Int.natCast_mul k b).symm
          have hzib : zi ≤ 256 * 8 := by rw [← ezi]; exact Nat.mul_le_mul (by omega) hb.2
          obtain ⟨t, et⟩ : ∃ t, Pk.word b k = t := ⟨_, rfl⟩
          have ET : Hid (Pk.word b k = t) := et
          obtain ⟨s, es⟩ : ∃ s, Pk.shift b k = s := ⟨_, rfl⟩
          have ES : Hid (Pk.shift b k = s) := es
          rw [et, EZ.out] at hts
          rw [es] at hs
          obtain ⟨C, eC⟩ : ∃ C, (Ls.nth l k).toNat = C := ⟨_, rfl⟩
          have EC : Hid ((Ls.nth l k).toNat = C) := eC
          have EC2 : Hid (Ls.nth l k = (C : Int)) := by show _ = _; omega
          have hC : C < 18446744073709551616 := by
            have hp : C < 2 ^ b := by rw [← eC]; exact hcd.2
            have hp8 : 2 ^ b ≤ 2 ^ 8 := Pk.two_le hb.2
            omega
          have HO0 : Hid (wr.ownsRow w.heap.size 99 1 (.slice (some ⟨g, 0, none⟩) z cap) z ((Ls.gen z fun t => (Pk.acc b l t k : Int)).map (Value.int .u64))) := hown
          have HB0 : Hid (Below w.heap.size w wr) := hbel
          clear hown hbel ezi et es eC hcd
          go_wp2
          go_loopw [8] (fun i wr => ∃ j : Nat, j ≤ b ∧ i = .int .i64 j ∧ wr.ownsRow w.heap.size 99 1 (.slice (some ⟨g, 0, none⟩) z cap) z ((Ls.gen z fun t => (midw b l k j t : Int)).map (Value.int .u64)) ∧ Below w.heap.size w wr) (fun i _ => b - (intOf i).toNat)
          case atStart => exact ⟨0, Nat.zero_le _, rfl, by simp only [midw_zero]; exact HO0.out, HB0.out⟩
          case round =>
            clear HO0 HB0
            obtain ⟨j, hj, rfl, hown, hbel⟩ := hrel
            by_cases hjb : j < b
            · obtain ⟨b1, o1, rfl, hc1⟩ := (HA.out.keep hbel).get hlt
              have hck1 := hc1 k hlt
              rw [EC2.out] at hck1
              have hb1 : b1 < w.heap.size := by
                obtain ⟨b2, o2, e9, hc9⟩ := HA.out.get hlt
                simp at e9
                obtain ⟨rfl, rfl⟩ := e9
                exact World.block_lt_of_cell? w _ (hc9 k hlt)
              have hcg := hown.cellAt t (by omega)
              rw [gen_at .u64 hts] at hcg
              have hfg := hown.frozenAt t
              obtain ⟨A, eA⟩ : ∃ A, midw b l k j t = A := ⟨_, rfl⟩
              have EA : Hid (midw b l k j (Pk.word b k) = A) := by show _ = _; rw [ET.out]; exact eA
              rw [eA] at hcg
              obtain ⟨B, eB⟩ : ∃ B, Pk.bit C j = B := ⟨_, rfl⟩
              have EB : Hid (Pk.bit C j = B) := eB
              obtain ⟨P, eP⟩ : ∃ P, 2 ^ (s + j) = P := ⟨_, rfl⟩
              have EP : Hid (2 ^ (s + j) = P) := eP
              obtain ⟨Y, eY⟩ : ∃ Y, B * P = Y := ⟨_, rfl⟩
              have hst : midw b l k (j + 1) (Pk.word b k) = A + Y := by rw [midw_step, EA.out, EC.out, ES.out, eB, eP, eY]
              have HST : Hid (midw b l k (j + 1) t = A + Y) := by rw [ET.out] at hst; exact hst
              have hAY : A + Y < 18446744073709551616 := by rw [← hst]; exact midw_lt k (j + 1) H.out HC.out (by omega)
              have hBP : (B : Int) * (P : Int) = (Y : Int) := by rw [← eY]; exact (Int.natCast_mul B P).symm
              have e1 : ((zi : Int) + (j : Int)) / 64 = (t : Int) := by
                have := Pk.at_word (i := k) H.out hjb
                rw [EZI.out, ET.out] at this
                omega
              obtain ⟨p, ep⟩ : ∃ p, s + j = p := ⟨_, rfl⟩
              have hp63 : p ≤ 63 := by omega
              have EPP : Hid (2 ^ p = P) := by rw [ep] at EP; exact EP
              have e2 : ((zi : Int) + (j : Int)) % 64 = (p : Int) := by
                have := Pk.at_shift (i := k) H.out hjb
                rw [EZI.out, ES.out] at this
                omega
              have r1 : ((zi : Int) + (j : Int)).tdiv 64 = (t : Int) := by rw [Int.tdiv_eq_ediv_of_nonneg (by omega)]; exact e1
              have r2 : ((zi : Int) + (j : Int)).tmod 64 = (p : Int) := by rw [Int.tmod_eq_emod_of_nonneg (by omega)]; exact e2
              have r3 : IntKind.i64.wrap (t : Int) = (t : Int) := by rw [IntKind.wrap_i64]; omega
              have r4 : IntKind.i64.wrap (p : Int) = (p : Int) := by rw [IntKind.wrap_i64]; omega
              have HO : Hid (wr.ownsRow w.heap.size 99 1 (.slice (some ⟨g, 0, none⟩) z cap) z ((Ls.gen z fun t => (midw b l k j t : Int)).map (Value.int .u64))) := hown
              have HB : Hid (Below w.heap.size w wr) := hbel
              clear hc1 hown hbel eA eB eP eY hst ep
              have f0 : (0 : Int) ≤ (t : Int) := by omega
              have f1 : (t : Int) < (z : Int) := by omega
              have f2 : (0 : Int) ≤ (k : Int) := by omega
              have f3 : (k : Int) < (l.length : Int) := by omega
              have q1 := u64_same (n := (C : Int)) (by omega) (by omega)
              have q2 : IntKind.u64.wrap ((B : Int) * (P : Int)) = (Y : Int) := by rw [hBP]; exact u64_same (by omega) (by omega)
              have q4 := u64_same (n := (Y : Int)) (by omega) (by omega)
              have hne : ¬ b1 = g := by omega
              have hne2 : ¬ g = b1 := by omega
              have q3 := u64_same (n := (A : Int) + (Y : Int)) (by omega) (by omega)
              go_wp2
              go_region_with (first
                  | (go_at_call 104; refine (bit_any C j B hC (by omega) EB.out _).mono ?_; rintro e w' ⟨rfl, hww⟩; cases hww.symm; clear hww)
                  | (go_at_call 105; refine (power_any p P (by omega) EPP.out _).mono ?_; rintro e w' ⟨rfl, hww⟩; cases hww.symm; clear hww))
              all_goals go_wp2
              all_goals go_roundw
              all_goals first
                | (simp [intOf]; omega)
                | (refine ⟨j + 1, by omega, by go_num, ?_, ?_⟩
                   · rw [← gen_set (F := midw b l k j) (G := midw b l k (j + 1)) (t := t) (y := A + Y) .u64 hts HST.out.symm (fun q hq => midw_else (by rw [ET.out]; exact hq))]
                     exact (HO.out.drew.stored t (.int .u64 ((A + Y : Nat) : Int))).1
                   · exact HB.out.drew.setCell (by simp; omega) _)
            · have e : b = j := by omega
              subst e
              go_wp2
              go_roundw
              case rel => exact ⟨k + 1, by omega, by go_num, by simp only [midw_all HC.out] at hown; exact hown, hbel⟩
              case measure => simp [intOf]; omega
        · have e : k = l.length := by omega
          subst e
          go_wp2
          go_ret
          exact ⟨_, rfl, hown, hbel⟩
end Go.Proofs.YtimkfkolkplpdaaGreat
