/- Pages that were put are told as they were put, and what was dropped isn't told any more; nothing that lay before is changed. -/
import Derived.Test.YtgpjmbhcfjafmaaRows
import Derived.Test.YtgpjmbhcfjafmaaPoB
import Derived.WalkKit
import Derived.ProofKit
import Derived.OpenShut
import Derived.ShutString
import Derived.ChangeOld
import Derived.Below
namespace Go.Proofs.Ytgpjmbhcfjafmaa.poolKeeps
open Go.ChangeShapes Go.WideShapes Go.ChangeAt Go.RowKit
open Go.ChangeMaps (open_string shut_string)
set_option linter.unusedVariables false

theorem own : ownKnob Try.prog.godebug = none := by kernel_rfl
theorem laidOut : laidOutB Try.prog = true := by kernel_rfl

/-- WHAT THE WALK IS TOLD OF A SLICE OF INTEGERS THAT CAME IN: it is nil; or it leads to a row of 'cap' cells, the numbers 'zs' (the first 'len' are its elements, the rest its spare room), each fitting its kind. -/
def IsRow (k : IntKind) (w : World) (a : Option Addr) (len cap : Nat) (zs : List Int) : Prop :=
  (a = none ∧ len = 0 ∧ cap = 0 ∧ zs = []) ∨
  ∃ x, a = some x ∧ len ≤ cap ∧ cap ≤ maxLen ∧ zs.length = cap ∧ (∀ i, i < zs.length → w.cell? (x.add i) = some (.int k (zs.getD i 0))) ∧ ∀ n ∈ zs, (Lit.int k n).wf = true

set_option maxRecDepth 100000 in
set_option maxHeartbeats 3200000 in
theorem walk (a0 : Int) (a1 : Option Addr) (len1 cap1 : Nat) (z1 : List Int) (w : World) (w0 : (Lit.int .i64 a0).wf = true) (w1 : IsRow .i64 w a1 len1 cap1 z1) :
    Calls Try.prog 6 #[.int .i64 a0, .slice a1 len1 cap1] w fun e w' => e = .returned (.bool true) ∧ Below w.heap.size w w' := by
  -- depth
  obtain ⟨ds, hds, LD, ML⟩ := row_openP w1
  have HD : Hid (Lst .i64 w a1 ds) := LD
  have hz := bounds_i64 w0
  unfold maxLen at ML
  clear w0 w1 LD
  subst hds
  by_cases hm : a0 < 1 ∨ 60 < a0 ∨ 60 < ds.length
  · by_cases q1 : a0 < 1 <;> by_cases q2 : 60 < a0 <;> by_cases q3 : 60 < ds.length
    all_goals first
      | (exfalso; omega)
      | (go_enter Try.func6, Try.ntmps6
         go_wp2_with (go_at_call 7; refine (poAwake_any _).mono ?_; rintro e wa ⟨rfl, hba⟩)
         go_ret
         exact ⟨rfl, hba⟩)
  obtain ⟨n, rfl⟩ : ∃ n : Nat, a0 = n := ⟨a0.toNat, by omega⟩
  have hn : 1 ≤ n ∧ n ≤ 60 := by omega
  have hl1 : ds.length ≤ 60 := by omega
  have g1 : decide ((60 : Int) < (ds.length : Int)) = false := decide_eq_false (by omega)
  have g2 : decide ((n : Int) < 1) = false := decide_eq_false (by omega)
  have g3 : decide ((60 : Int) < (n : Int)) = false := decide_eq_false (by omega)
  clear hm hz ML
  have hmk := run_make_row' (P := Try.prog) 28 3 (.int .i64 0) 8 Try.underlying28 Try.infoIntG rfl .i64 .i64 n (by omega) (by omega)
  go_enter Try.func6, Try.ntmps6
  go_wp2_with fail
  refine (newPool_ok n (by omega) _).mono ?_
  rintro e w1 ⟨g, b, rfl, hp, hg, hb, hbel⟩
  have G1 : w.heap.size ≤ g ∧ w.heap.size ≤ b := ⟨hg, hb⟩
  have P1 : Hid (PoolAt w1 g b n (Po.zeros n) (Po.zeros n)) := hp
  have B1 : Hid (Below w.heap.size w w1) := hbel
  obtain ⟨lg, lb⟩ := hp.lt
  have hs1 := hbel.size
  clear hp hg hb hbel
  go_wp2_with fail
  clear hmk
  go_loopw [46] (fun i wr => ∃ (j : Nat) (R M L : List Int), j ≤ n ∧ i = .int .i64 j ∧ Hid (PoolAt wr g b n R M) ∧ Hid (wr.rowIs w1.heap.size 3 n (fun i => .int .i64 (Ls.nth L i))) ∧ Hid (L.length = n) ∧ Hid ((∀ t, t < j → Ls.nth R t = 1 ∧ Ls.nth M t = Ls.nth L t ∧ 0 ≤ Ls.nth L t ∧ Ls.nth L t ≤ 1023) ∧ ∀ t, j ≤ t → Ls.nth R t = 0) ∧ Hid (Below w.heap.size w wr)) (fun i _ => n - (intOf i).toNat)
  case atStart => exact ⟨0, _, _, Po.zeros n, Nat.zero_le _, rfl, P1.out.keep (box_below _ _), (World.rowIs_made w1 (.int .i64 0) n 3).congr (fun j hj => by rw [Po.nth_zeros]), Po.zeros_length n, ⟨fun t ht => by omega, fun t _ => Po.nth_zeros _ _⟩, below_then B1.out (box_below _ _)⟩
  case round =>
    clear P1 B1
    obtain ⟨j, R, M, L, hj, rfl, PR, WR, LL, NR, BR⟩ := hrel
    by_cases hlt : j < n
    · have hcg := WR.out.cell hlt
      have hfg := WR.out.frozen j
      have Z0 : Hid (j < R.length ∧ j < M.length ∧ j < L.length) := ⟨by rw [PR.out.len.1]; exact hlt, by rw [PR.out.len.2]; exact hlt, by rw [LL.out]; exact hlt⟩
      go_wp2_with fail
      clear hcg hfg
      obtain ⟨ws, hws⟩ : ∃ ws, wr.setCell ⟨w1.heap.size, j, none⟩ (.int .i64 ((j : Int) + 100)) = ws := ⟨_, rfl⟩
      have PS : Hid (PoolAt ws g b n R M) := by rw [← hws]; exact PR.out.apart WR.out (by decide) (by omega) (by omega) _ _
      have WS : Hid (ws.rowIs w1.heap.size 3 n (fun i => .int .i64 (Ls.nth (L.set j ((j : Int) + 100)) i))) := by
        rw [← hws]
        exact (WR.out.set j _).congr (fun i hi => by rw [Po.nth_set Z0.out.2.2]; split <;> rfl)
      have BS : Hid (Below w.heap.size w ws) := by rw [← hws]; exact BR.out.setCell (by show w.heap.size ≤ w1.heap.size; omega) _
      rw [hws]
      clear hws PR WR BR
      refine (made_any ((j : Int) + 100) _).mono ?_
      rintro e w2 ⟨q, rfl, hq, hge, hbel⟩
      rw [Po.mk_small (by omega) (by omega)] at hq
      have hsl := PS.out.lt
      have Q2 : Hid (PgM w2 q ((j : Int) + 100) ∧ ¬ q = g ∧ ¬ q = b) := ⟨hq, by omega, by omega⟩
      have P2 : Hid (PoolAt w2 g b n R M) := PS.out.keep hbel
      have W2 : Hid (w2.rowIs w1.heap.size 3 n (fun i => .int .i64 (Ls.nth (L.set j ((j : Int) + 100)) i))) := WS.out.of_block (hbel.block _ WS.out.lt)
      have B2 : Hid (Below w.heap.size w w2) := below_then BS.out hbel
      clear hq hge hbel PS BS WS hsl
      go_wp2_with fail
      refine (put_ok g b n j q ((j : Int) + 100) R M w2 P2.out (by omega) (NR.out.2 j (Nat.le_refl _)) (fun i hi => by have := (NR.out.1 i hi).1; omega) Q2.out.1 Q2.out.2.1 Q2.out.2.2).mono ?_
      rintro e w3 ⟨rfl, hp, hbt⟩
      have P3 : Hid (PoolAt w3 g b n (R.set j 1) (M.set j ((j : Int) + 100))) := hp
      have W3 : Hid (w3.rowIs w1.heap.size 3 n (fun i => .int .i64 (Ls.nth (L.set j ((j : Int) + 100)) i))) := W2.out.of_block (hbt.2 _ W2.out.lt (by omega) (by omega))
      have B3 : Hid (Below w.heap.size w w3) := B2.out.trans (hbt.below G1.1 G1.2)
      clear hp hbt P2 B2 Q2 W2
      go_wp2
      go_roundw
      case rel =>
        refine ⟨j + 1, _, _, _, by omega, by go_num, P3.out, W3.out, (by show _ = _; rw [List.length_set]; exact LL.out), ⟨fun t ht => ?_, fun t ht => by rw [Po.nth_set Z0.out.1, if_neg (by omega)]; exact NR.out.2 t (by omega)⟩, B3.out⟩
        rw [Po.nth_set Z0.out.1, Po.nth_set Z0.out.2.1, Po.nth_set Z0.out.2.2]
        by_cases e : t = j
        · rw [if_pos e, if_pos e, if_pos e]; omega
        · rw [if_neg e, if_neg e, if_neg e]; exact NR.out.1 t (by omega)
      case measure => simp [intOf]; omega
    · have e : j = n := by omega
      subst e
      clear hlt hj
      go_wp2_with fail
      go_loopw [74] (fun i wr => ∃ (k : Nat) (R M L : List Int), k ≤ ds.length ∧ i = .int .i64 k ∧ Hid (PoolAt wr g b j R M) ∧ Hid (wr.rowIs w1.heap.size 3 j (fun i => .int .i64 (Ls.nth L i))) ∧ Hid (L.length = j) ∧ Hid (∀ t, t < j → Ls.nth R t = 1 ∧ Ls.nth M t = Ls.nth L t ∧ 0 ≤ Ls.nth L t ∧ Ls.nth L t ≤ 1023) ∧ Hid (Below w.heap.size w wr)) (fun i _ => ds.length - (intOf i).toNat)
      case atStart => exact ⟨0, _, _, _, Nat.zero_le _, rfl, PR.out, WR.out, LL.out, NR.out.1, BR.out⟩
      case round =>
        clear PR WR LL NR BR R M L
        obtain ⟨k, R, M, L, hk, rfl, PR, WR, LL, NR, BR⟩ := hrel
        by_cases hlt : k < ds.length
        · obtain ⟨b1, o1, rfl, hg⟩ := (HD.out.keep BR.out).get hlt
          have s0 := hg k hlt
          obtain ⟨d, ed⟩ : ∃ d, Ls.nth ds k = d := ⟨_, rfl⟩
          rw [ed] at s0
          clear hg ed
          by_cases d0 : d < 0
          · go_wp2
            go_roundw
            case rel => exact ⟨k + 1, _, _, _, by omega, by go_num, PR.out, WR.out, LL.out, NR.out, BR.out⟩
            case measure => simp [intOf]; omega
          by_cases d1 : (j : Int) ≤ d
          · have z0 : decide (d < 0) = false := decide_eq_false d0
            have z1 : decide ((j : Int) ≤ d) = true := decide_eq_true d1
            go_wp2
            go_roundw
            case rel => exact ⟨k + 1, _, _, _, by omega, by go_num, PR.out, WR.out, LL.out, NR.out, BR.out⟩
            case measure => simp [intOf]; omega
          obtain ⟨d, rfl⟩ : ∃ t : Nat, d = t := ⟨d.toNat, by omega⟩
          have hd : d < j := by omega
          have z1 : decide ((j : Int) ≤ (d : Int)) = false := decide_eq_false d1
          clear d0 d1
          have Z0 : Hid (d < R.length ∧ d < M.length ∧ d < L.length) := ⟨by rw [PR.out.len.1]; exact hd, by rw [PR.out.len.2]; exact hd, by rw [LL.out]; exact hd⟩
          go_wp2_with fail
          clear s0
          refine (hold_some g b j d 1 R M _ PR.out hd (NR.out d hd).1 (by omega) (by omega)).mono ?_
          rintro e w3 ⟨rfl, hp, hbt⟩
          have P3 : Hid (PoolAt w3 g b j (R.set d 2) M) := hp
          have W3 : Hid (w3.rowIs w1.heap.size 3 j (fun i => .int .i64 (Ls.nth L i))) := WR.out.of_block (hbt.2 _ WR.out.lt (by omega) (by omega))
          have B3 : Hid (Below w.heap.size w w3) := BR.out.trans (hbt.below G1.1 G1.2)
          clear hp hbt PR WR BR
          go_wp2_with fail
          refine (drop_more g b j d 2 (R.set d 2) M _ P3.out hd (by rw [Po.nth_set Z0.out.1, if_pos rfl]) (by omega) (by omega)).mono ?_
          rintro e w4 ⟨rfl, hp, hbt⟩
          have P4 : Hid (PoolAt w4 g b j (R.set d 1) M) := by rw [Po.set_set] at hp; exact hp
          have W4 : Hid (w4.rowIs w1.heap.size 3 j (fun i => .int .i64 (Ls.nth L i))) := W3.out.of_block (hbt.2 _ W3.out.lt (by omega) (by omega))
          have B4 : Hid (Below w.heap.size w w4) := B3.out.trans (hbt.below G1.1 G1.2)
          clear hp hbt P3 W3 B3
          go_wp2_with fail
          refine (drop_last g b j d (R.set d 1) M _ P4.out hd (by rw [Po.nth_set Z0.out.1, if_pos rfl])).mono ?_
          rintro e w5 ⟨rfl, hp, hbt⟩
          have P5 : Hid (PoolAt w5 g b j (R.set d 0) M) := by rw [Po.set_set] at hp; exact hp
          have W5 : Hid (w5.rowIs w1.heap.size 3 j (fun i => .int .i64 (Ls.nth L i))) := W4.out.of_block (hbt.2 _ W4.out.lt (by omega) (by omega))
          have B5 : Hid (Below w.heap.size w w5) := B4.out.trans (hbt.below G1.1 G1.2)
          clear hp hbt P4 W4 B4
          go_wp2_with fail
          refine (get_none g b j d (R.set d 0) M _ P5.out (fun q => by have := q.2.2; rw [show ((d : Int)).toNat = d from rfl, Po.nth_set Z0.out.1, if_pos rfl] at this; omega)).mono ?_
          rintro e w' ⟨rfl, hww⟩
          cases hww.symm
          clear hww
          have hcg := W5.out.cell hd
          have hfg := W5.out.frozen d
          go_wp2_with fail
          clear hcg hfg
          obtain ⟨ws, hws⟩ : ∃ ws, w5.setCell ⟨w1.heap.size, d, none⟩ (.int .i64 (300 + (k : Int))) = ws := ⟨_, rfl⟩
          have PS : Hid (PoolAt ws g b j (R.set d 0) M) := by rw [← hws]; exact P5.out.apart W5.out (by decide) (by omega) (by omega) _ _
          have WS : Hid (ws.rowIs w1.heap.size 3 j (fun i => .int .i64 (Ls.nth (L.set d (300 + (k : Int))) i))) := by
            rw [← hws]
            exact (W5.out.set d _).congr (fun i hi => by rw [Po.nth_set Z0.out.2.2]; split <;> rfl)
          have BS : Hid (Below w.heap.size w ws) := by rw [← hws]; exact B5.out.setCell (by show w.heap.size ≤ w1.heap.size; omega) _
          rw [hws]
          clear hws P5 W5 B5
          refine (made_any (300 + (k : Int)) _).mono ?_
          rintro e w6 ⟨q, rfl, hq, hge, hbel⟩
          rw [Po.mk_small (by omega) (by omega)] at hq
          have hsl := PS.out.lt
          have Q6 : Hid (PgM w6 q (300 + (k : Int)) ∧ ¬ q = g ∧ ¬ q = b) := ⟨hq, by omega, by omega⟩
          have P6 : Hid (PoolAt w6 g b j (R.set d 0) M) := PS.out.keep hbel
          have W6 : Hid (w6.rowIs w1.heap.size 3 j (fun i => .int .i64 (Ls.nth (L.set d (300 + (k : Int))) i))) := WS.out.of_block (hbel.block _ WS.out.lt)
          have B6 : Hid (Below w.heap.size w w6) := below_then BS.out hbel
          clear hq hge hbel PS BS WS hsl
          go_wp2_with fail
          refine (put_ok g b j d q (300 + (k : Int)) (R.set d 0) M w6 P6.out hd (by rw [Po.nth_set Z0.out.1, if_pos rfl]) (fun i hi => by rw [Po.nth_set Z0.out.1, if_neg (by omega)]; have := (NR.out i (by omega)).1; omega) Q6.out.1 Q6.out.2.1 Q6.out.2.2).mono ?_
          rintro e w7 ⟨rfl, hp, hbt⟩
          have P7 : Hid (PoolAt w7 g b j (R.set d 1) (M.set d (300 + (k : Int)))) := by rw [Po.set_set] at hp; exact hp
          have W7 : Hid (w7.rowIs w1.heap.size 3 j (fun i => .int .i64 (Ls.nth (L.set d (300 + (k : Int))) i))) := W6.out.of_block (hbt.2 _ W6.out.lt (by omega) (by omega))
          have B7 : Hid (Below w.heap.size w w7) := B6.out.trans (hbt.below G1.1 G1.2)
          have N7 : Hid (∀ t, t < j → Ls.nth (R.set d 1) t = 1 ∧ Ls.nth (M.set d (300 + (k : Int))) t = Ls.nth (L.set d (300 + (k : Int))) t ∧ 0 ≤ Ls.nth (L.set d (300 + (k : Int))) t ∧ Ls.nth (L.set d (300 + (k : Int))) t ≤ 1023) := fun t ht => by
            rw [Po.nth_set Z0.out.1, Po.nth_set Z0.out.2.1, Po.nth_set Z0.out.2.2]
            by_cases e : t = d
            · rw [if_pos e, if_pos e, if_pos e]; omega
            · rw [if_neg e, if_neg e, if_neg e]; exact NR.out t ht
          have L7 : Hid ((L.set d (300 + (k : Int))).length = j) := by show _ = _; rw [List.length_set]; exact LL.out
          clear hp hbt P6 B6 Q6 W6 Z0 NR LL
          obtain ⟨R7, e1⟩ : ∃ R7, R.set d 1 = R7 := ⟨_, rfl⟩
          obtain ⟨M7, e2⟩ : ∃ M7, M.set d (300 + (k : Int)) = M7 := ⟨_, rfl⟩
          obtain ⟨X7, e3⟩ : ∃ X7, L.set d (300 + (k : Int)) = X7 := ⟨_, rfl⟩
          rw [e1] at P7 N7
          rw [e2] at P7 N7
          rw [e3] at W7 N7 L7
          clear e1 e2 e3
          go_wp2_with fail
          go_loopw [137] (fun i wr => ∃ (t : Nat), t ≤ j ∧ i = .int .i64 t ∧ Hid (PoolAt wr g b j R7 M7) ∧ Hid (wr.rowIs w1.heap.size 3 j (fun i => .int .i64 (Ls.nth X7 i))) ∧ Hid (Below w.heap.size w wr)) (fun i _ => j - (intOf i).toNat)
          case atStart => exact ⟨0, Nat.zero_le _, rfl, P7.out, W7.out, B7.out⟩
          case round =>
            clear P7 W7 B7
            obtain ⟨t, ht, rfl, PT, WT, BT⟩ := hrel
            by_cases htl : t < j
            · obtain ⟨r1, r2, r3, r4⟩ := N7.out t htl
              obtain ⟨x, ex⟩ : ∃ x, Ls.nth X7 t = x := ⟨_, rfl⟩
              rw [ex] at r2
              have hcg := WT.out.cell htl
              simp only [ex] at hcg
              have R1 : Hid (Ls.nth R7 t = 1) := r1
              have R2 : Hid (Ls.nth M7 t = x) := r2
              have hlr := WT.out.lt
              clear r1 r2 r3 r4 ex
              go_wp2_with fail
              refine (get_some g b j t R7 M7 _ PT.out htl (by rw [R1.out]; omega)).mono ?_
              rintro e w' ⟨q, rfl, hq, hww⟩
              cases hww.symm
              have Q : Hid (PgM wr q x) := by
                rw [R2.out] at hq
                exact hq
              have KS : Hid (∀ w', Below wr.heap.size wr w' → w'.cell? ⟨w1.heap.size, t, none⟩ = some (.int .i64 x)) := fun w' hb => by rw [hb.cell (p := ⟨w1.heap.size, t, none⟩) hlr]; exact hcg
              have hbc : Hid (Below wr.heap.size wr wr.drew) := (Below.refl _ _).drew
              clear hww hq
              go_wp2_with fail
              go_region_held3 (fun w' => w'.cell? ⟨w1.heap.size, t, none⟩ = some (.int .i64 x))
                (first
                  | exact KS.out _ hbc.out
                  | assumption)
                (first
                  | (go_at_call 21; (with_reducible refine (headM_any q x _ (Q.out.keep hbc.out)).mono ?_); (rintro e wh ⟨x0, x1, x2, x3, x4, x5, rfl, hbel⟩; have hbc : Hid (Below wr.heap.size wr wh) := below_then hbc.out hbel; have hfd := field_mark x0 x1 x2 x3 x4 x5 x; clear hbel))
                  | (go_at_call 22; (with_reducible refine (refs_some g b j t 1 R7 M7 _ (PT.out.keep hbc.out) htl R1.out (by omega)).mono ?_); (rintro e wf ⟨rfl, hww⟩; have hbc : Hid (Below wr.heap.size wr wf) := (by rw [hww]; exact hbc.out); clear hww)))
              go_wp2
              go_roundw
              case rel => exact ⟨t + 1, by omega, by go_num, PT.out.keep hbc.out, WT.out.of_block (hbc.out.block _ WT.out.lt), below_then BT.out hbc.out⟩
              case measure => simp [intOf]; omega
            · go_wp2
              go_roundw
              case rel => exact ⟨k + 1, _, _, _, by omega, by go_num, PT.out, WT.out, L7.out, N7.out, BT.out⟩
              case measure => simp [intOf]; omega
        · go_wp2_with (go_at_call 7; refine (poAwake_any _).mono ?_; rintro e wa ⟨rfl, hba⟩)
          go_ret
          exact ⟨rfl, below_then BR.out hba⟩

set_option maxRecDepth 100000 in
theorem lifted (os : Os) (started : os.Started) (H : Type) (enc : TypeId × Value → H) :
    ReturnsInHanded {} Try.checked os 6 .any (Rows.poolKeepsSpec.pre6 enc Try.prog Try.f6 Rows.poolKeepsRow.domain false) (Rows.poolKeepsSpec.post enc Try.prog Try.f6 false true false false) := by
  refine returnsInHanded_of_change (C := Try.checked) own started (by kernel_rfl) Try.func6
    (ChangeSpec.witness6 (enc := enc) (C := Try.checked) false ⟨#[], #[.int .i64 0, .slice none 0 0], []⟩ 8 (by kernel_rfl) (by kernel_rfl) (by kernel_rfl) (by kernel_rfl)) ?_
  intro W base args ds gs before hval0 hW hcnd _
  have hval : ∀ (j : Nat) t v, Try.f6.params[j]? = some t → args[j]? = some v → Value.okWide Try.prog W .any base t v := hval0
  have hW' := hW
  obtain ⟨p, q, hA0, hV, rfl, hfz, hnd⟩ := hW
  have hA : DataW.TrodAll enc Try.prog W 0 (fun _ => true) true Try.f6.params.toList args.toList ds p := hA0
  rw [Try.params6] at hA hval
  obtain ⟨v0, vs0, d0, ds0, p0, q0, hargs, rfl, rfl, h0, r0⟩ := trodAll_cons hA
  obtain ⟨v1, vs1, d1, ds1, p1, q1, rfl, rfl, rfl, h1, r1⟩ := trodAll_cons r0
  obtain ⟨rfl, rfl, rfl⟩ := trodAll_nil r1
  obtain rfl : args = #[v0, v1] := by cases args; simp_all
  obtain ⟨rfl, rfl⟩ := trodVars_none hV
  obtain ⟨a0, rfl, rfl, rfl, w0⟩ := open_int Try.underlying3 (hval 0 3 v0 rfl rfl) h0
  obtain ⟨a1, len1, cap1, rfl⟩ := okWide_slice Try.underlying28 (hval 1 28 v1 rfl rfl)
  have k1 := h1
  have lt1 : ∀ x ∈ p1, x.block < W.heap.size := by obtain ⟨m, hm⟩ := k1; exact DataW.trod_lt m _ _ _ hm
  obtain ⟨z1, w1⟩ : ∃ zs, IsRow .i64 W a1 len1 cap1 zs := by
    obtain ⟨fuel, hf⟩ := h1
    rcases open_ints Try.underlying28 Try.underlying3 (by kernel_rfl) hf with ⟨hcs, _⟩ | ⟨x, l, c, zs, hcs, _, hl, hm, hz, _, hcell, hwz⟩
    · simp [Value.cells] at hcs
      obtain ⟨rfl, rfl, rfl⟩ := hcs
      exact ⟨[], .inl ⟨rfl, rfl, rfl, rfl⟩⟩
    · simp [Value.cells] at hcs
      obtain ⟨rfl, rfl, rfl⟩ := hcs
      exact ⟨zs, .inr ⟨_, rfl, hl, hm, by simpa using hz, hcell, hwz⟩⟩
  clear hA0 hval0
  refine (walk a0 a1 len1 cap1 z1 W w0 w1).mono fun e W' ⟨he, bel⟩ => ?_
  subst he
  exact ⟨_, rfl, _, _, _, [], _, [], hW', trodAll_mk1 (shut_bool Try.underlying4 _), (trodAll_cons_mk (shut_int Try.underlying3 w0) (trodAll_cons_mk (Below.trod laidOut (by kernel_rfl) (of_decide_eq_true (by kernel_rfl)) k1 bel lt1) trodAll_mk0)), rfl, bel.frame _, fun h => by cases h⟩

theorem over : Rows.poolKeepsRow.holds Try.pinned (OpenSpec.ofChange Rows.poolKeepsSpec) :=
  OpenClaim.holds_of_wide 6 Try.f6 rfl rfl rfl rfl rfl rfl rfl ⟨rfl, rfl, rfl, rfl, rfl⟩ rfl rfl rfl rfl rfl (by kernel_rfl) Try.func6 (by kernel_rfl)
    (of_decide_eq_true (by kernel_rfl)) (by unfold Func.isWrapper; first | (rw [if_pos (by decide +kernel)]; kernel_rfl) | (rw [if_neg (by decide +kernel)]; exact ⟨rfl, rfl⟩))
    (fun os started H enc _ => lifted os started H enc)

theorem proved : Rows.PoolKeepsSaid := over
end Go.Proofs.Ytgpjmbhcfjafmaa.poolKeeps

namespace Go.Proofs.Ytgpjmbhcfjafmaa
theorem poolKeeps_holds : Rows.PoolKeepsSaid := poolKeeps.proved
#print axioms poolKeeps_holds
end Go.Proofs.Ytgpjmbhcfjafmaa
