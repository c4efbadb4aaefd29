/- Layer 13: PaTokens. -/
import Derived.Test.YtnchnlgnnlgjcaaGreatCn10
namespace Go.Proofs.YtnchnlgnnlgjcaaGreat
set_option linter.unusedVariables false
open Go.RowKit
attribute [local go_sem ↓] Go.wp_at_zero Go.wp_at_succ
/-- A table by places. -/
def Pg.tab (n d : Nat) (F : Nat → Nat → Int) : List (List Int) := (List.range n).map fun t => Ls.gen d (F t)
theorem Pg.tab_length (n d : Nat) (F : Nat → Nat → Int) : (Pg.tab n d F).length = n := by simp [Pg.tab]
theorem Pg.row_tab {n d t : Nat} {F : Nat → Nat → Int} (h : t < n) : Tb.row (Pg.tab n d F) t = Ls.gen d (F t) := Tb.row_map_range _ h
set_option maxRecDepth 100000 in
set_option maxHeartbeats 1600000 in
theorem tokensKey_any (p m0 m1 n0 d0 : Nat) (h4 h5 h6 : Int) (ks vs : List (Int × Int × List Int)) (w : World) (h : PageAt w p m0 m1 n0 d0 h4 h5 h6 ks vs) :
    Calls Tryz.prog 100 #[.pointer (some ⟨p, 0, none⟩), .func (.func 101) #[.pointer (some ⟨p, 0, none⟩)] #[]] w fun e w' => ∃ g B, e = .returned (.slice (some ⟨g, 0, none⟩) n0 n0) ∧ w.heap.size ≤ g ∧ TRow w' g 74 n0 (Pg.tab n0 d0 (Pg.keyAt ks)) n0 B ∧ Below w.heap.size w w' := by
  obtain ⟨k0, k1, b1, b2, b3, b4, _⟩ := Pg.page_nums h.page
  obtain ⟨g1, g2, ⟨_, _, x2, x3, _, _, _⟩, _⟩ := h.cells
  have H : Hid (PageAt w p m0 m1 n0 d0 h4 h5 h6 ks vs) := h
  have hpl := h.lt
  have hmk := run_make_row' (P := Tryz.prog) 42 74 (.slice none 0 0) 24 Tryz.underlying42 Tryz.infoRow32 rfl .i64 .i64 n0 (by omega) (by omega)
  have hmr := run_make_row' (P := Tryz.prog) 74 21 (.int .i32 0) 4 Tryz.underlying74 Tryz.infoInt32 rfl .i64 .i64 d0 (by omega) (by omega)
  clear h k0 k1 x3
  go_enter Tryz.func100, Tryz.ntmps100
  go_wp2
  clear hmk x2
  go_loopw [16] (fun i wr => ∃ k : Nat, k ≤ n0 ∧ i = .int .i64 k ∧ TRow wr w.heap.size 74 n0 (Pg.tab n0 d0 (Pg.keyAt ks)) k wr.heap.size ∧ Below w.heap.size w wr) (fun i _ => n0 - (intOf i).toNat)
  case atStart => exact ⟨0, Nat.zero_le _, rfl, ⟨_, World.rowIs_made w (.slice none 0 0) n0 74, fun i hi => by omega⟩, (Below.refl _ _).alloc (Nat.le_refl _) _⟩
  case round =>
    obtain ⟨k, hk, rfl, hrow, hbel⟩ := hrel
    by_cases hlt : k < n0
    · obtain ⟨S, eS⟩ : ∃ S, wr.heap.size = S := ⟨_, rfl⟩
      have hgS : w.heap.size < S := by rw [← eS]; exact hrow.lt
      obtain ⟨f, hr⟩ := hrow.room
      have r0 := hr.cell hlt
      have s0 := hr.frozen k
      rw [eS] at hrow
      have hmr2 := hmr wr
      rw [eS] at hmr2
      obtain ⟨_, _, ⟨_, _, _, x3, _, _, _⟩, _⟩ := (H.out.keep hbel).cells
      obtain ⟨T1, C1⟩ := hrow.top hlt (.slice (some ⟨S, 0, none⟩) d0 d0)
      have eS2 : (wr.setCell ⟨w.heap.size, k, none⟩ (.slice (some ⟨S, 0, none⟩) d0 d0)).heap.size = S := by rw [← eS]; simp [World.setCell]
      have C2 : ((wr.setCell ⟨w.heap.size, k, none⟩ (.slice (some ⟨S, 0, none⟩) d0 d0)).alloc (.cells (madeCells #[.int .i32 0] d0) 21)).cell? ⟨w.heap.size, k, none⟩ = some (.slice (some ⟨S, 0, none⟩) d0 d0) := by
        rw [(box_below _ _).cell (p := ⟨w.heap.size, k, none⟩) (by rw [eS2]; exact hgS)]
        exact C1
      have R1 : ((wr.setCell ⟨w.heap.size, k, none⟩ (.slice (some ⟨S, 0, none⟩) d0 d0)).alloc (.cells (madeCells #[.int .i32 0] d0) 21)).rowIs S 21 d0 (fun _ => .int .i32 0) := by
        have := World.rowIs_made (wr.setCell ⟨w.heap.size, k, none⟩ (.slice (some ⟨S, 0, none⟩) d0 d0)) (.int .i32 0) d0 21
        rw [eS2] at this
        exact this
      have B1 : Below w.heap.size w ((wr.setCell ⟨w.heap.size, k, none⟩ (.slice (some ⟨S, 0, none⟩) d0 d0)).alloc (.cells (madeCells #[.int .i32 0] d0) 21)) := (hbel.setCell (by simp) _).alloc (by rw [eS2]; omega) _
      have ALL : Hid (TRow ((wr.setCell ⟨w.heap.size, k, none⟩ (.slice (some ⟨S, 0, none⟩) d0 d0)).alloc (.cells (madeCells #[.int .i32 0] d0) 21)) w.heap.size 74 n0 (Pg.tab n0 d0 (Pg.keyAt ks)) k S ∧ ((wr.setCell ⟨w.heap.size, k, none⟩ (.slice (some ⟨S, 0, none⟩) d0 d0)).alloc (.cells (madeCells #[.int .i32 0] d0) 21)).cell? ⟨w.heap.size, k, none⟩ = some (.slice (some ⟨S, 0, none⟩) d0 d0) ∧ ((wr.setCell ⟨w.heap.size, k, none⟩ (.slice (some ⟨S, 0, none⟩) d0 d0)).alloc (.cells (madeCells #[.int .i32 0] d0) 21)).rowIs S 21 d0 (fun _ => .int .i32 0) ∧ Below w.heap.size w ((wr.setCell ⟨w.heap.size, k, none⟩ (.slice (some ⟨S, 0, none⟩) d0 d0)).alloc (.cells (madeCells #[.int .i32 0] d0) 21))) := ⟨T1.keep (box_below _ _), C2, R1, B1⟩
      have c2 := C2
      clear eS2 C2 T1 C1 R1 B1 hrow hbel hr hmr
      go_wp2
      clear hmr2 r0 s0 x3 c2
      go_loopw [33] (fun i wr => ∃ j : Nat, j ≤ d0 ∧ i = .int .i64 j ∧ TRow wr w.heap.size 74 n0 (Pg.tab n0 d0 (Pg.keyAt ks)) k S ∧ wr.cell? ⟨w.heap.size, k, none⟩ = some (.slice (some ⟨S, 0, none⟩) d0 d0) ∧ wr.rowIs S 21 d0 (part (Pg.keyAt ks k) j) ∧ Below w.heap.size w wr) (fun i _ => d0 - (intOf i).toNat)
      case atStart => exact ⟨0, Nat.zero_le _, rfl, ALL.out.1, ALL.out.2.1, ALL.out.2.2.1.congr (fun j hj => by simp [part]), ALL.out.2.2.2⟩
      case round =>
        clear ALL eS
        obtain ⟨j, hj, rfl, htop, hcl, hrow, hbel⟩ := hrel
        by_cases hjl : j < d0
        · obtain ⟨x, ex⟩ : ∃ x, Pg.keyAt ks k j = x := ⟨_, rfl⟩
          have EX : Hid (Pg.keyAt ks k j = x) := ex
          have HR : Hid (wr.rowIs S 21 d0 (part (Pg.keyAt ks k) j)) := hrow
          have HB : Hid (Below w.heap.size w wr) := hbel
          have HT : Hid (TRow wr w.heap.size 74 n0 (Pg.tab n0 d0 (Pg.keyAt ks)) k S) := htop
          have HC : Hid (∀ w', Below wr.heap.size wr w' → w'.cell? ⟨w.heap.size, k, none⟩ = some (.slice (some ⟨S, 0, none⟩) d0 d0)) := fun w' hb => by
            rw [hb.cell (p := ⟨w.heap.size, k, none⟩) (World.block_lt_of_cell? wr _ hcl)]; exact hcl
          clear hrow hbel htop ex
          have e0 : (0 : Int) ≤ (j : Int) := by omega
          have e1 : (j : Int) < (d0 : Int) := by omega
          have e2 : (0 : Int) ≤ (k : Int) := by omega
          have e3 : (k : Int) < (n0 : Int) := by omega
          go_wp2
          clear hcl
          go_region_held3 (fun w' => w'.cell? ⟨w.heap.size, k, none⟩ = some (.slice (some ⟨S, 0, none⟩) d0 d0))
            (first
              | exact HC.out _ ((Below.refl wr.heap.size wr).drew)
              | exact HC.out _ hbc.out
              | exact HS.out _
              | assumption)
            (first
              | (go_at_call 101; refine (keyP_any p m0 m1 n0 d0 h4 h5 h6 ks vs k j x _ (H.out.keep (HB.out.trans ((Below.refl w.heap.size wr).drew))) hlt hjl EX.out).mono ?_; rintro e v ⟨rfl, hb⟩; have hbc : Hid (Below wr.heap.size wr v) := ((Below.refl wr.heap.size wr).drew).trans hb; have RV : Hid (v.rowIs S 21 d0 (part (Pg.keyAt ks k) j)) := row_keep HR.out hbc.out; have hcg := RV.out.cell hjl; have hfg := RV.out.frozen j; have HS : Hid (∀ y, (v.setCell ⟨S, j, none⟩ y).cell? ⟨w.heap.size, k, none⟩ = some (.slice (some ⟨S, 0, none⟩) d0 d0)) := (fun y => by rw [World.cell?_of_block (w := v) (Go.Deep.blk_setCell_other _ _ _ _ (by show w.heap.size ≠ S; omega))]; exact HC.out _ hbc.out); clear hb))
          all_goals go_wp2
          all_goals go_roundw
          case rel =>
            refine ⟨j + 1, by omega, by go_num, (HT.out.keep hbc.out).other (by omega) (Nat.le_refl _) _, HS.out _, ?_, (below_then HB.out hbc.out).setCell (by show w.heap.size ≤ S; omega) _⟩
            rw [← EX.out]
            exact (RV.out.set j _).congr (fun q hq => part_set _ j q)
          case measure => simp [intOf]; omega
        · have ej : j = d0 := by omega
          subst ej
          have TT : Hid (TRow wr w.heap.size 74 n0 (Pg.tab n0 j (Pg.keyAt ks)) (k + 1) wr.heap.size) := (htop.close hlt hcl (by omega) (Nat.le_refl _) (by rw [Pg.row_tab hlt, Ls.gen_length]) hrow (fun q hq => by rw [part_lt hq, Pg.row_tab hlt, Ls.nth_gen hq])).mono (by have := hrow.lt; omega)
          have HB : Hid (Below w.heap.size w wr) := hbel
          clear htop hcl hrow hbel
          go_wp2
          go_roundw
          case rel => exact ⟨k + 1, by omega, by go_num, TT.out, HB.out⟩
          case measure => simp [intOf]; omega
    · have e : k = n0 := by omega
      subst e
      have T : Hid (TRow wr w.heap.size 74 k (Pg.tab k d0 (Pg.keyAt ks)) k wr.heap.size) := hrow
      have HB : Hid (Below w.heap.size w wr) := hbel
      clear hrow hbel hmr
      go_wp2
      go_ret
      exact ⟨w.heap.size, wr.heap.size, rfl, Nat.le_refl _, T.out, HB.out⟩
theorem keys_any (p m0 m1 n0 d0 : Nat) (h4 h5 h6 : Int) (ks vs : List (Int × Int × List Int)) (w : World) (h : PageAt w p m0 m1 n0 d0 h4 h5 h6 ks vs) :
    Calls Tryz.prog 64 #[.pointer (some ⟨p, 0, none⟩)] w fun e w' => ∃ g B, e = .returned (.slice (some ⟨g, 0, none⟩) n0 n0) ∧ w.heap.size ≤ g ∧ TRow w' g 74 n0 (Pg.tab n0 d0 (Pg.keyAt ks)) n0 B ∧ Below w.heap.size w w' := by
  have H : Hid (PageAt w p m0 m1 n0 d0 h4 h5 h6 ks vs) := h
  clear h
  go_enter Tryz.func64, Tryz.ntmps64
  go_wp2_with (go_at_call 100; refine (tokensKey_any p m0 m1 n0 d0 h4 h5 h6 ks vs _ H.out).mono ?_; rintro e v ⟨g, B, rfl, hg, ht, hb⟩; have R : Hid (w.heap.size ≤ g ∧ TRow v g 74 n0 (Pg.tab n0 d0 (Pg.keyAt ks)) n0 B ∧ Below w.heap.size w v) := ⟨hg, ht, hb⟩; clear hg ht hb)
  go_ret
  exact ⟨g, B, rfl, R.out.1, R.out.2.1, R.out.2.2⟩
set_option maxRecDepth 100000 in
set_option maxHeartbeats 1600000 in
theorem tokensValue_any (p m0 m1 n0 d0 : Nat) (h4 h5 h6 : Int) (ks vs : List (Int × Int × List Int)) (w : World) (h : PageAt w p m0 m1 n0 d0 h4 h5 h6 ks vs) :
    Calls Tryz.prog 100 #[.pointer (some ⟨p, 0, none⟩), .func (.func 102) #[.pointer (some ⟨p, 0, none⟩)] #[]] w fun e w' => ∃ g B, e = .returned (.slice (some ⟨g, 0, none⟩) n0 n0) ∧ w.heap.size ≤ g ∧ TRow w' g 74 n0 (Pg.tab n0 d0 (Pg.valAt vs)) n0 B ∧ Below w.heap.size w w' := by
  obtain ⟨k0, k1, b1, b2, b3, b4, _⟩ := Pg.page_nums h.page
  obtain ⟨g1, g2, ⟨_, _, x2, x3, _, _, _⟩, _⟩ := h.cells
  have H : Hid (PageAt w p m0 m1 n0 d0 h4 h5 h6 ks vs) := h
  have hpl := h.lt
  have hmk := run_make_row' (P := Tryz.prog) 42 74 (.slice none 0 0) 24 Tryz.underlying42 Tryz.infoRow32 rfl .i64 .i64 n0 (by omega) (by omega)
  have hmr := run_make_row' (P := Tryz.prog) 74 21 (.int .i32 0) 4 Tryz.underlying74 Tryz.infoInt32 rfl .i64 .i64 d0 (by omega) (by omega)
  clear h k0 k1 x3
  go_enter Tryz.func100, Tryz.ntmps100
  go_wp2
  clear hmk x2
  go_loopw [16] (fun i wr => ∃ k : Nat, k ≤ n0 ∧ i = .int .i64 k ∧ TRow wr w.heap.size 74 n0 (Pg.tab n0 d0 (Pg.valAt vs)) k wr.heap.size ∧ Below w.heap.size w wr) (fun i _ => n0 - (intOf i).toNat)
  case atStart => exact ⟨0, Nat.zero_le _, rfl, ⟨_, World.rowIs_made w (.slice none 0 0) n0 74, fun i hi => by omega⟩, (Below.refl _ _).alloc (Nat.le_refl _) _⟩
  case round =>
    obtain ⟨k, hk, rfl, hrow, hbel⟩ := hrel
    by_cases hlt : k < n0
    · obtain ⟨S, eS⟩ : ∃ S, wr.heap.size = S := ⟨_, rfl⟩
      have hgS : w.heap.size < S := by rw [← eS]; exact hrow.lt
      obtain ⟨f, hr⟩ := hrow.room
      have r0 := hr.cell hlt
      have s0 := hr.frozen k
      rw [eS] at hrow
      have hmr2 := hmr wr
      rw [eS] at hmr2
      obtain ⟨_, _, ⟨_, _, _, x3, _, _, _⟩, _⟩ := (H.out.keep hbel).cells
      obtain ⟨T1, C1⟩ := hrow.top hlt (.slice (some ⟨S, 0, none⟩) d0 d0)
      have eS2 : (wr.setCell ⟨w.heap.size, k, none⟩ (.slice (some ⟨S, 0, none⟩) d0 d0)).heap.size = S := by rw [← eS]; simp [World.setCell]
      have C2 : ((wr.setCell ⟨w.heap.size, k, none⟩ (.slice (some ⟨S, 0, none⟩) d0 d0)).alloc (.cells (madeCells #[.int .i32 0] d0) 21)).cell? ⟨w.heap.size, k, none⟩ = some (.slice (some ⟨S, 0, none⟩) d0 d0) := by
        rw [(box_below _ _).cell (p := ⟨w.heap.size, k, none⟩) (by rw [eS2]; exact hgS)]
        exact C1
      have R1 : ((wr.setCell ⟨w.heap.size, k, none⟩ (.slice (some ⟨S, 0, none⟩) d0 d0)).alloc (.cells (madeCells #[.int .i32 0] d0) 21)).rowIs S 21 d0 (fun _ => .int .i32 0) := by
        have := World.rowIs_made (wr.setCell ⟨w.heap.size, k, none⟩ (.slice (some ⟨S, 0, none⟩) d0 d0)) (.int .i32 0) d0 21
        rw [eS2] at this
        exact this
      have B1 : Below w.heap.size w ((wr.setCell ⟨w.heap.size, k, none⟩ (.slice (some ⟨S, 0, none⟩) d0 d0)).alloc (.cells (madeCells #[.int .i32 0] d0) 21)) := (hbel.setCell (by simp) _).alloc (by rw [eS2]; omega) _
      have ALL : Hid (TRow ((wr.setCell ⟨w.heap.size, k, none⟩ (.slice (some ⟨S, 0, none⟩) d0 d0)).alloc (.cells (madeCells #[.int .i32 0] d0) 21)) w.heap.size 74 n0 (Pg.tab n0 d0 (Pg.valAt vs)) k S ∧ ((wr.setCell ⟨w.heap.size, k, none⟩ (.slice (some ⟨S, 0, none⟩) d0 d0)).alloc (.cells (madeCells #[.int .i32 0] d0) 21)).cell? ⟨w.heap.size, k, none⟩ = some (.slice (some ⟨S, 0, none⟩) d0 d0) ∧ ((wr.setCell ⟨w.heap.size, k, none⟩ (.slice (some ⟨S, 0, none⟩) d0 d0)).alloc (.cells (madeCells #[.int .i32 0] d0) 21)).rowIs S 21 d0 (fun _ => .int .i32 0) ∧ Below w.heap.size w ((wr.setCell ⟨w.heap.size, k, none⟩ (.slice (some ⟨S, 0, none⟩) d0 d0)).alloc (.cells (madeCells #[.int .i32 0] d0) 21))) := ⟨T1.keep (box_below _ _), C2, R1, B1⟩
      have c2 := C2
      clear eS2 C2 T1 C1 R1 B1 hrow hbel hr hmr
      go_wp2
      clear hmr2 r0 s0 x3 c2
      go_loopw [33] (fun i wr => ∃ j : Nat, j ≤ d0 ∧ i = .int .i64 j ∧ TRow wr w.heap.size 74 n0 (Pg.tab n0 d0 (Pg.valAt vs)) k S ∧ wr.cell? ⟨w.heap.size, k, none⟩ = some (.slice (some ⟨S, 0, none⟩) d0 d0) ∧ wr.rowIs S 21 d0 (part (Pg.valAt vs k) j) ∧ Below w.heap.size w wr) (fun i _ => d0 - (intOf i).toNat)
      case atStart => exact ⟨0, Nat.zero_le _, rfl, ALL.out.1, ALL.out.2.1, ALL.out.2.2.1.congr (fun j hj => by simp [part]), ALL.out.2.2.2⟩
      case round =>
        clear ALL eS
        obtain ⟨j, hj, rfl, htop, hcl, hrow, hbel⟩ := hrel
        by_cases hjl : j < d0
        · obtain ⟨x, ex⟩ : ∃ x, Pg.valAt vs k j = x := ⟨_, rfl⟩
          have EX : Hid (Pg.valAt vs k j = x) := ex
          have HR : Hid (wr.rowIs S 21 d0 (part (Pg.valAt vs k) j)) := hrow
          have HB : Hid (Below w.heap.size w wr) := hbel
          have HT : Hid (TRow wr w.heap.size 74 n0 (Pg.tab n0 d0 (Pg.valAt vs)) k S) := htop
          have HC : Hid (∀ w', Below wr.heap.size wr w' → w'.cell? ⟨w.heap.size, k, none⟩ = some (.slice (some ⟨S, 0, none⟩) d0 d0)) := fun w' hb => by
            rw [hb.cell (p := ⟨w.heap.size, k, none⟩) (World.block_lt_of_cell? wr _ hcl)]; exact hcl
          clear hrow hbel htop ex
          have e0 : (0 : Int) ≤ (j : Int) := by omega
          have e1 : (j : Int) < (d0 : Int) := by omega
          have e2 : (0 : Int) ≤ (k : Int) := by omega
          have e3 : (k : Int) < (n0 : Int) := by omega
          go_wp2
          clear hcl
          go_region_held3 (fun w' => w'.cell? ⟨w.heap.size, k, none⟩ = some (.slice (some ⟨S, 0, none⟩) d0 d0))
            (first
              | exact HC.out _ ((Below.refl wr.heap.size wr).drew)
              | exact HC.out _ hbc.out
              | exact HS.out _
              | assumption)
            (first
              | (go_at_call 102; refine (valueP_any p m0 m1 n0 d0 h4 h5 h6 ks vs k j x _ (H.out.keep (HB.out.trans ((Below.refl w.heap.size wr).drew))) hlt hjl EX.out).mono ?_; rintro e v ⟨rfl, hb⟩; have hbc : Hid (Below wr.heap.size wr v) := ((Below.refl wr.heap.size wr).drew).trans hb; have RV : Hid (v.rowIs S 21 d0 (part (Pg.valAt vs k) j)) := row_keep HR.out hbc.out; have hcg := RV.out.cell hjl; have hfg := RV.out.frozen j; have HS : Hid (∀ y, (v.setCell ⟨S, j, none⟩ y).cell? ⟨w.heap.size, k, none⟩ = some (.slice (some ⟨S, 0, none⟩) d0 d0)) := (fun y => by rw [World.cell?_of_block (w := v) (Go.Deep.blk_setCell_other _ _ _ _ (by show w.heap.size ≠ S; omega))]; exact HC.out _ hbc.out); clear hb))
          all_goals go_wp2
          all_goals go_roundw
          case rel =>
            refine ⟨j + 1, by omega, by go_num, (HT.out.keep hbc.out).other (by omega) (Nat.le_refl _) _, HS.out _, ?_, (below_then HB.out hbc.out).setCell (by show w.heap.size ≤ S; omega) _⟩
            rw [← EX.out]
            exact (RV.out.set j _).congr (fun q hq => part_set _ j q)
          case measure => simp [intOf]; omega
        · have ej : j = d0 := by omega
          subst ej
          have TT : Hid (TRow wr w.heap.size 74 n0 (Pg.tab n0 j (Pg.valAt vs)) (k + 1) wr.heap.size) := (htop.close hlt hcl (by omega) (Nat.le_refl _) (by rw [Pg.row_tab hlt, Ls.gen_length]) hrow (fun q hq => by rw [part_lt hq, Pg.row_tab hlt, Ls.nth_gen hq])).mono (by have := hrow.lt; omega)
          have HB : Hid (Below w.heap.size w wr) := hbel
          clear htop hcl hrow hbel
          go_wp2
          go_roundw
          case rel => exact ⟨k + 1, by omega, by go_num, TT.out, HB.out⟩
          case measure => simp [intOf]; omega
    · have e : k = n0 := by omega
      subst e
      have T : Hid (TRow wr w.heap.size 74 k (Pg.tab k d0 (Pg.valAt vs)) k wr.heap.size) := hrow
      have HB : Hid (Below w.heap.size w wr) := hbel
      clear hrow hbel hmr
      go_wp2
      go_ret
      exact ⟨w.heap.size, wr.heap.size, rfl, Nat.le_refl _, T.out, HB.out⟩
theorem values_any (p m0 m1 n0 d0 : Nat) (h4 h5 h6 : Int) (ks vs : List (Int × Int × List Int)) (w : World) (h : PageAt w p m0 m1 n0 d0 h4 h5 h6 ks vs) :
    Calls Tryz.prog 65 #[.pointer (some ⟨p, 0, none⟩)] w fun e w' => ∃ g B, e = .returned (.slice (some ⟨g, 0, none⟩) n0 n0) ∧ w.heap.size ≤ g ∧ TRow w' g 74 n0 (Pg.tab n0 d0 (Pg.valAt vs)) n0 B ∧ Below w.heap.size w w' := by
  have H : Hid (PageAt w p m0 m1 n0 d0 h4 h5 h6 ks vs) := h
  clear h
  go_enter Tryz.func65, Tryz.ntmps65
  go_wp2_with (go_at_call 100; refine (tokensValue_any p m0 m1 n0 d0 h4 h5 h6 ks vs _ H.out).mono ?_; rintro e v ⟨g, B, rfl, hg, ht, hb⟩; have R : Hid (w.heap.size ≤ g ∧ TRow v g 74 n0 (Pg.tab n0 d0 (Pg.valAt vs)) n0 B ∧ Below w.heap.size w v) := ⟨hg, ht, hb⟩; clear hg ht hb)
  go_ret
  exact ⟨g, B, rfl, R.out.1, R.out.2.1, R.out.2.2⟩
end Go.Proofs.YtnchnlgnnlgjcaaGreat
