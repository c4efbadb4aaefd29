/- Contracts of package page: a page's bytes. -/
import Derived.Test.YtimkfkolkplpdaaGreatPaA
import Derived.Test.YtimkfkolkplpdaaGreatSlReader
import Derived.Deep.RegionLawGrows
import Derived.Lib.SlBytesConst
import Derived.Test.YtimkfkolkplpdaaGreatSlWorld
import Derived.Test.YtimkfkolkplpdaaGreatRows
import Derived.Deep.RegionHeld3
import Derived.Laws.Tables
import Derived.Laws.CopyOwn
import Derived.Deep.Cut
namespace Go.Proofs.YtimkfkolkplpdaaGreat
set_option linter.unusedVariables false
open Go.RowKit
attribute [local go_sem ↓] Go.wp_at_zero Go.wp_at_succ

/-- BYTES THAT ARE APPENDED TO: a row of the call's own, or a slice without room. -/
def Acc (w : World) (base : Nat) (e : TypeId) (v : Value) (n : Nat) (l : List Int) : Prop :=
  w.ownsRow base e 1 v n (l.map (Value.int .u8)) ∨ ∃ H, v = .slice (some ⟨H, 0, none⟩) n n ∧ Lst .u8 w (some ⟨H, 0, none⟩) l
theorem Acc.keep {w w' : World} {base : Nat} {e : TypeId} {v : Value} {n : Nat} {l : List Int} (h : Acc w base e v n l) (hb : Below w.heap.size w w') : Acc w' base e v n l := by
  rcases h with h | ⟨H, h1, h2⟩
  · exact .inl (own_below h hb)
  · exact .inr ⟨H, h1, h2.keep hb⟩
theorem Acc.slice {w : World} {base : Nat} {e : TypeId} {v : Value} {n : Nat} {l : List Int} (h : Acc w base e v n l) (hn : l.length = n) : ∃ a c, v = .slice a n c ∧ Lst .u8 w a l := by
  rcases h with h | ⟨H, h1, h2⟩
  · exact lst_of_ownm h hn.symm
  · exact ⟨_, _, h1, h2⟩
theorem own_mono {w : World} {base base' : Nat} {t : TypeId} {v : Value} {n : Nat} {xs : List Value} (h : w.ownsRow base t 1 v n xs) (hb : base' ≤ base) : w.ownsRow base' t 1 v n xs := by
  refine ⟨h.1, ?_⟩
  rcases h.2 with h0 | ⟨g, cap, cur, e, h1, h2, h3⟩
  · exact Or.inl h0
  · exact Or.inr ⟨g, cap, cur, e, by omega, h2, h3⟩
theorem wpList_append_acc {P : Program} {w : World} {ops : Array Oper} {rest : List Oper} {o : Oper} {a : Act} {Q : Exit → Act → World → Prop} (hgd : o.guard = none) (s x : Operand) (t : TypeId)
    (ho : o.op = .call { callee := .builtin .append, args := #[s, x], argTypes := #[t, t] })
    (base : Nat) (e : TypeId) (ht : P.underlying t = some (.slice e)) (hinfo : (P.info? e).map (fun i => (i.zero, i.size, i.bytes)) = some (some (.int .u8 0), 1, 1))
    (v : Value) (n : Nat) (l0 : List Int) (hs : a.eval s = v) (hacc : Acc w base e v n l0) (hn0 : l0.length = n)
    (g m c : Nat) (l : List Int) (hm : m = l.length) (hx : a.eval x = .slice (some ⟨g, 0, none⟩) m c) (hL : Lst .u8 w (some ⟨g, 0, none⟩) l) (hpos : 0 < m) (hbd : n + m ≤ 100000) (hbase : base ≤ w.heap.size)
    (h : ∀ v' w', w'.ownsRow base e 1 v' (n + m) ((l0 ++ l).map (Value.int .u8)) → Below base w w' → wpList P ops Q rest (a.put o.dst v') w') : wpList P ops Q (o :: rest) a w := by
  subst hm
  rw [List.map_append] at h
  rcases hacc with hown | ⟨H, rfl, h0⟩
  · refine wpList_append_lst hgd s x t ho base e .u8 1 ht hinfo v n _ hs hown _ l c hx hL (fun e => by cases e) (by unfold maxLen; omega) (by omega) hbase (fun v' w' h1 h2 => h v' w' h1 ?_)
    exact (Below.refl base w).grown h2 hbase (fun k hk => (hown.lt k hk).1)
  · obtain ⟨i, hi, hz0, hz1, hz2⟩ := info_parts hinfo
    have cells : ∀ (G : Nat) (q : List Int), Lst .u8 w (some ⟨G, 0, none⟩) q → ∀ (j : Nat) (u : Value), (q.map (Value.int .u8))[j]? = some u → w.cell? ((⟨G, 0, none⟩ : Addr).add j) = some u := fun G q hq j u hu => by
      have hj : j < q.length := by
        have := (List.getElem?_eq_some_iff.1 hu).1
        simpa using this
      have := hq.cell0 hj
      rw [Addr.add_lit, Nat.zero_add, this]
      simpa [Ls.nth, hj] using hu
    refine wpList_append_grows w hgd s x t ho e i (.int .u8 0) 1 1 ht hi hz0 hz1 hz2 rfl (by omega) (some ⟨H, 0, none⟩) n n (l0.map (Value.int .u8)) hs (fun e => by cases e) (by simp [hn0]) (fun b hb j u hu => by cases hb; exact cells H l0 h0 j u hu) ⟨g, 0, none⟩ l.length c (l.map (Value.int .u8)) hx (by simp) (cells g l hL) (ints_oneCell .u8 l) (by omega) (by unfold maxLen; omega) (by omega) (fun v' w' h1 h2 => h v' w' (own_mono h1 hbase) ?_)
    exact (Below.refl base w).grown h2 hbase (fun k hk => by cases hk)

theorem Tryz.infoU8p : (Tryz.prog.info? 5).map (fun i => (i.zero, i.size, i.bytes)) = some (some (.int .u8 0), 1, 1) := by kernel_rfl
theorem Pg.be_two {x : Nat} (h : x < 65536) : Sl.be 2 x = [((x / 256 : Nat) : Int), ((x % 256 : Nat) : Int)] := by
  apply Ls.ext_nth (by rw [Sl.be_length]; rfl)
  intro i hi
  rw [Sl.be_length] at hi
  rw [Sl.nth_be hi]
  match i, hi with
  | 0, _ => show ((x / 256 ^ 1 % 256 : Nat) : Int) = ((x / 256 : Nat) : Int); congr 1; omega
  | 1, _ => show ((x / 256 ^ 0 % 256 : Nat) : Int) = ((x % 256 : Nat) : Int); congr 1; omega

set_option maxRecDepth 100000 in
set_option maxHeartbeats 1600000 in
theorem bytesP_any (p m0 m1 n0 d0 : Nat) (h4 h5 h6 : Int) (ks vs : List (Int × Int × List Int)) (T : Nat) (w : World) (h : PageAt w p m0 m1 n0 d0 h4 h5 h6 ks vs) (hT : Pg.psize [(m0 : Int), m1, n0, d0, h4, h5, h6] = T) :
    Calls Tryz.prog 16 #[.pointer (some ⟨p, 0, none⟩)] w fun e w' => ∃ g, e = .returned (.slice (some ⟨g, 0, none⟩) T T) ∧ w.heap.size ≤ g ∧ w'.rowIs g 5 T (fun j => .int .u8 (Ls.nth (Pg.bytes [(m0 : Int), m1, n0, d0, h4, h5, h6] ks vs) j)) ∧ Below w.heap.size w w' := by
  have hp := h.page
  obtain ⟨k0, k1, b1, b2, b3, b4, lk, lv, fk, fv⟩ := Pg.page_nums hp
  obtain ⟨g1, g2, ⟨x0, x1, x2, x3, x4, x5, x6⟩, x7, x8, hk, hv⟩ := h.cells
  obtain ⟨_, _, _, _, _, _, q4, q4', q5, q5', q6, q6'⟩ := Pg.rightH_all hp.2.1
  have r4 : 0 ≤ h4 := q4
  have r4' : h4 ≤ 3 := q4'
  have r5 : 0 ≤ h5 := q5
  have r5' : h5 ≤ 3 := q5'
  have r6 : 0 ≤ h6 := q6
  have r6' : h6 ≤ 1023 := q6'
  have o0 : m0 ≤ 8 := by rcases k0 with rfl | rfl | rfl <;> omega
  have o1 : m1 ≤ 8 := by rcases k1 with rfl | rfl | rfl <;> omega
  have gs0 := Pg.gsize_small (b := m0) (n := n0) k0 b2
  have gs1 := Pg.gsize_small (b := m1) (n := d0) k1 b4
  have hbl := Pg.body_length hp
  have hps := Pg.psize_le hp.2.1
  have H : Hid (PageAt w p m0 m1 n0 d0 h4 h5 h6 ks vs) := h
  have HP : Hid (Pg.Page [(m0 : Int), m1, n0, d0, h4, h5, h6] ks vs) := hp
  have FK : Hid (Pg.AllFit m0 n0 ks) := fk
  have FV : Hid (Pg.AllFit m1 d0 vs) := fv
  have KO : Hid (Pk.Ok m0) := k0
  have K1 : Hid (Pk.Ok m1) := k1
  have LK : Hid (ks.length = d0) := lk
  have LV : Hid (vs.length = n0) := lv
  have HK : Hid (Pks w g1 m0 ks) := hk
  have HV : Hid (Pks w g2 m1 vs) := hv
  have HT : Hid ((Pg.body [(m0 : Int), m1, n0, d0, h4, h5, h6] ks vs).length + 4 = T) := by rw [← hT]; exact hbl
  have HT2 : Hid ((Pg.body [(m0 : Int), m1, n0, d0, h4, h5, h6] ks vs).length ≤ 10000) := by show (Pg.body [(m0 : Int), m1, n0, d0, h4, h5, h6] ks vs).length ≤ 10000; omega
  obtain ⟨hi, ehi⟩ : ∃ x, h6 / 256 = x := ⟨_, rfl⟩
  obtain ⟨lo, elo⟩ : ∃ x, h6 % 256 = x := ⟨_, rfl⟩
  have EHI : Hid (h6 / 256 = hi) := ehi
  have ELO : Hid (h6 % 256 = lo) := elo
  have HB9 : Hid (Pg.hbytes [(m0 : Int), m1, n0, d0, h4, h5, h6] = [75, (m0 : Int), (m1 : Int), (n0 : Int), (d0 : Int), h4, h5, hi, lo]) := by
    show [75, (m0 : Int), (m1 : Int), (n0 : Int), (d0 : Int), h4, h5] ++ Sl.be 2 h6.toNat = _
    rw [Pg.be_two (by omega), show ((h6.toNat / 256 : Nat) : Int) = hi by omega, show ((h6.toNat % 256 : Nat) : Int) = lo by omega]
    rfl
  have hpl := h.lt
  have S7 : Hid (∀ w', Below w.heap.size w w' → w'.cell? ⟨p, 7, none⟩ = some (.slice (some ⟨g1, 0, none⟩) d0 d0) ∧ w'.cell? ⟨p, 8, none⟩ = some (.slice (some ⟨g2, 0, none⟩) n0 n0)) := fun w' hb =>
    ⟨by rw [hb.cell (p := ⟨p, 7, none⟩) hpl]; exact x7, by rw [hb.cell (p := ⟨p, 8, none⟩) hpl]; exact x8⟩
  clear h hp k0 k1 lk lv fk fv hk hv q4 q4' q5 q5' q6 q6' hbl hps hT ehi elo x7 x8
  go_enter Tryz.func16, Tryz.ntmps16
  go_wp2_with fail
  refine (headPut_any _ _ _ _ _ _ _ hi lo (by omega) (by omega) (by omega) (by omega) (by omega) (by omega) (by omega) (by omega) (by omega) (by omega) (by omega) (by omega) (by omega) (by omega) EHI.out ELO.out _).mono ?_
  rintro e v0 ⟨rfl, hb⟩
  have B0 : Hid (Below w.heap.size w v0) := hb
  have hs0 := hb.size
  obtain ⟨x7, _⟩ := S7.out v0 hb
  have hpl0 : p < v0.heap.size := by omega
  have A0 : Hid (Acc (v0.alloc (.cells #[.int .u8 75, .int .u8 (m0 : Int), .int .u8 (m1 : Int), .int .u8 (n0 : Int), .int .u8 (d0 : Int), .int .u8 h4, .int .u8 h5, .int .u8 hi, .int .u8 lo] 83)) w.heap.size 5 (.slice (some ⟨v0.heap.size, 0, none⟩) 9 9) 9 (Pg.hbytes [(m0 : Int), m1, n0, d0, h4, h5, h6] ++ Pg.gbN m0 ks 0)) := by
    refine .inr ⟨v0.heap.size, rfl, ?_⟩
    rw [show Pg.gbN m0 ks 0 = [] from rfl, List.append_nil, HB9.out]
    exact lst_new v0 [75, (m0 : Int), (m1 : Int), (n0 : Int), (d0 : Int), h4, h5, hi, lo]
  clear hb x0 x1 x2 x3 x4 x5 x6
  go_wp2
  clear x7
  go_loopw [4, 20] (fun v i wr => ∃ (k n : Nat), k ≤ d0 ∧ i = .int .i64 k ∧ (Pg.hbytes [(m0 : Int), m1, n0, d0, h4, h5, h6] ++ Pg.gbN m0 ks k).length = n ∧ Acc wr w.heap.size 5 v n (Pg.hbytes [(m0 : Int), m1, n0, d0, h4, h5, h6] ++ Pg.gbN m0 ks k) ∧ Below w.heap.size w wr) (fun _ i _ => d0 - (intOf i).toNat)
  case atStart => exact ⟨0, 9, Nat.zero_le _, rfl, by rw [List.length_append, Pg.hbytes_length]; rfl, A0.out, below_then B0.out (box_below _ _)⟩
  case round =>
    obtain ⟨k, n, hk, rfl, hn, hacc, hbel⟩ := hrel
    have HN : Hid ((Pg.hbytes [(m0 : Int), m1, n0, d0, h4, h5, h6] ++ Pg.gbN m0 ks k).length = n) := hn
    have HA : Hid (Acc wr w.heap.size 5 u4 n (Pg.hbytes [(m0 : Int), m1, n0, d0, h4, h5, h6] ++ Pg.gbN m0 ks k)) := hacc
    have HW : Hid (Below w.heap.size w wr) := hbel
    have hsz := hbel.size
    have hnb : n ≤ 9 + 24 * 16 := by
      rw [← hn, List.length_append, Pg.hbytes_length, Pg.gbN_length (n := n0) FK.out.even k (by rw [LK.out]; exact hk)]
      have := Nat.mul_le_mul gs0 (show k ≤ 16 by omega)
      omega
    clear hn hacc hbel
    by_cases hlt : k < d0
    · obtain ⟨a', c', hg⟩ := HK.out k (by rw [LK.out]; exact hlt)
      obtain ⟨y0, y1, y2, y3, y4⟩ := hg.keep HW.out
      have Y4 : Hid (Lst .u64 wr a' (Pk.pack m0 (Pg.gc (Pg.nth ks k)))) := y4
      have hbl : g1 < wr.heap.size := World.block_lt_of_cell? wr _ y0
      have F1 := FK.out k (by rw [LK.out]; exact hlt)
      have FL : Hid ((Pg.gc (Pg.nth ks k)).length = n0) := F1.1
      have FF : Hid (Pg.Fits m0 (Pg.gc (Pg.nth ks k)).length (Pg.gz (Pg.nth ks k), Pg.gs (Pg.nth ks k), Pg.gc (Pg.nth ks k))) := by rw [F1.1]; exact F1
      obtain ⟨N, eN⟩ : ∃ N, Pk.size m0 (Pg.gc (Pg.nth ks k)).length = N := ⟨_, rfl⟩
      have EN : Hid (N = Pk.size m0 (Pg.gc (Pg.nth ks k)).length) := eN.symm
      rw [eN] at y3
      obtain ⟨G, eG⟩ : ∃ G, Pg.gsize m0 (Pg.gc (Pg.nth ks k)).length = G := ⟨_, rfl⟩
      have EG : Hid (Pg.gsize m0 (Pg.gc (Pg.nth ks k)).length = G) := eG
      have hG1 : 8 ≤ G := by rw [← eG]; unfold Pg.gsize; omega
      have hG2 : G ≤ 24 := by rw [← eG, F1.1]; exact gs0
      clear y4 hg F1 eN eG
      go_wp2_with (first
        | (go_at_call 44; refine (bytesOne_any _ _ _ N _ m0 G (Pg.gc (Pg.nth ks k)) _ EN.out KO.out (by rw [FL.out]; omega) (Y4.out.keep (box_below _ _)) FF.out EG.out).mono ?_; rintro e v1 ⟨gg, rfl, hgg, hL, hb⟩; have B1 : Hid (Below w.heap.size w v1) := below_then (below_then HW.out (box_below _ _)) hb; have A1 : Hid (Acc v1 w.heap.size 5 u4 n (Pg.hbytes [(m0 : Int), m1, n0, d0, h4, h5, h6] ++ Pg.gbN m0 ks k)) := (HA.out.keep (box_below _ _)).keep hb; have L1 : Hid (Lst .u8 v1 (some ⟨gg, 0, none⟩) (Pg.gb m0 (Pg.nth ks k))) := hL; have hs1 := (below_then (below_then HW.out (box_below _ _)) hb).size; clear hgg hL hb)
        | (at_builtin; refine wpList_append_acc rfl _ _ 44 rfl w.heap.size 5 Tryz.underlying44 Tryz.infoU8p u4 n _ (by rfl) A1.out HN.out gg G G (Pg.gb m0 (Pg.nth ks k)) (by rw [Pg.gb_length]; exact EG.out.symm) (by rfl) L1.out (by omega) (by omega) hs1 ?_; intro v' w' hown hb; have B2 : Hid (Below w.heap.size w w') := B1.out.trans hb; have A2 : Hid (Acc w' w.heap.size 5 v' (n + G) (Pg.hbytes [(m0 : Int), m1, n0, d0, h4, h5, h6] ++ Pg.gbN m0 ks (k + 1))) := (by refine .inl ?_; rw [show Pg.gbN m0 ks (k + 1) = Pg.gbN m0 ks k ++ Pg.gb m0 (Pg.nth ks k) from rfl, ← List.append_assoc]; exact hown); clear hown hb))
      go_roundw
      case rel =>
        refine ⟨k + 1, n + G, by omega, by go_num, ?_, A2.out, B2.out⟩
        rw [show Pg.gbN m0 ks (k + 1) = Pg.gbN m0 ks k ++ Pg.gb m0 (Pg.nth ks k) from rfl, ← List.append_assoc, List.length_append, HN.out, Pg.gb_length, EG.out]
      case measure => simp [intOf]; omega
    · have e : k = d0 := by omega
      subst e
      have A3 : Hid (Acc wr w.heap.size 5 u4 n ((Pg.hbytes [(m0 : Int), m1, n0, k, h4, h5, h6] ++ Pg.gbN m0 ks k) ++ Pg.gbN m1 vs 0)) := by
        rw [show Pg.gbN m1 vs 0 = [] from rfl, List.append_nil]
        exact HA.out
      have HWK : Hid (Below w.heap.size w wr) := HW.out
      have HNK : Hid ((Pg.hbytes [(m0 : Int), m1, n0, k, h4, h5, h6] ++ Pg.gbN m0 ks k).length = n) := HN.out
      obtain ⟨_, x8⟩ := S7.out wr HW.out
      clear HW HA HN A0 hsz
      go_wp2
      clear x8
      go_loopw [4, 34] (fun v i wr => ∃ (j n : Nat), j ≤ n0 ∧ i = .int .i64 j ∧ ((Pg.hbytes [(m0 : Int), m1, n0, k, h4, h5, h6] ++ Pg.gbN m0 ks k) ++ Pg.gbN m1 vs j).length = n ∧ Acc wr w.heap.size 5 v n ((Pg.hbytes [(m0 : Int), m1, n0, k, h4, h5, h6] ++ Pg.gbN m0 ks k) ++ Pg.gbN m1 vs j) ∧ Below w.heap.size w wr) (fun _ i _ => n0 - (intOf i).toNat)
      case atStart => exact ⟨0, n, Nat.zero_le _, rfl, by rw [List.length_append, HNK.out]; rfl, A3.out, HWK.out⟩
      case round =>
        obtain ⟨j, n, hj, rfl, hn, hacc, hbel⟩ := hrel
        have HN : Hid (((Pg.hbytes [(m0 : Int), m1, n0, k, h4, h5, h6] ++ Pg.gbN m0 ks k) ++ Pg.gbN m1 vs j).length = n) := hn
        have HA : Hid (Acc wr w.heap.size 5 u4 n ((Pg.hbytes [(m0 : Int), m1, n0, k, h4, h5, h6] ++ Pg.gbN m0 ks k) ++ Pg.gbN m1 vs j)) := hacc
        have HW : Hid (Below w.heap.size w wr) := hbel
        have hsz := hbel.size
        have hnb2 : n ≤ 9 + 24 * 16 + 24 * 16 := by
          rw [← hn, List.length_append, HNK.out, Pg.gbN_length (n := k) FV.out.even j (by rw [LV.out]; exact hj)]
          have := Nat.mul_le_mul gs1 (show j ≤ 16 by omega)
          omega
        clear hn hacc hbel
        by_cases hlt2 : j < n0
        · obtain ⟨a', c', hg⟩ := HV.out j (by rw [LV.out]; exact hlt2)
          obtain ⟨y0, y1, y2, y3, y4⟩ := hg.keep HW.out
          have Y4 : Hid (Lst .u64 wr a' (Pk.pack m1 (Pg.gc (Pg.nth vs j)))) := y4
          have hbl : g2 < wr.heap.size := World.block_lt_of_cell? wr _ y0
          have F1 := FV.out j (by rw [LV.out]; exact hlt2)
          have FL : Hid ((Pg.gc (Pg.nth vs j)).length = k) := F1.1
          have FF : Hid (Pg.Fits m1 (Pg.gc (Pg.nth vs j)).length (Pg.gz (Pg.nth vs j), Pg.gs (Pg.nth vs j), Pg.gc (Pg.nth vs j))) := by rw [F1.1]; exact F1
          obtain ⟨N, eN⟩ : ∃ N, Pk.size m1 (Pg.gc (Pg.nth vs j)).length = N := ⟨_, rfl⟩
          have EN : Hid (N = Pk.size m1 (Pg.gc (Pg.nth vs j)).length) := eN.symm
          rw [eN] at y3
          obtain ⟨G, eG⟩ : ∃ G, Pg.gsize m1 (Pg.gc (Pg.nth vs j)).length = G := ⟨_, rfl⟩
          have EG : Hid (Pg.gsize m1 (Pg.gc (Pg.nth vs j)).length = G) := eG
          have hG1 : 8 ≤ G := by rw [← eG]; unfold Pg.gsize; omega
          have hG2 : G ≤ 24 := by rw [← eG, F1.1]; exact gs1
          clear y4 hg F1 eN eG
          go_wp2_with (first
            | (go_at_call 44; refine (bytesOne_any _ _ _ N _ m1 G (Pg.gc (Pg.nth vs j)) _ EN.out K1.out (by rw [FL.out]; omega) (Y4.out.keep (box_below _ _)) FF.out EG.out).mono ?_; rintro e v1 ⟨gg, rfl, hgg, hL, hb⟩; have B1 : Hid (Below w.heap.size w v1) := below_then (below_then HW.out (box_below _ _)) hb; have A1 : Hid (Acc v1 w.heap.size 5 u4 n ((Pg.hbytes [(m0 : Int), m1, n0, k, h4, h5, h6] ++ Pg.gbN m0 ks k) ++ Pg.gbN m1 vs j)) := (HA.out.keep (box_below _ _)).keep hb; have L1 : Hid (Lst .u8 v1 (some ⟨gg, 0, none⟩) (Pg.gb m1 (Pg.nth vs j))) := hL; have hs1 := (below_then (below_then HW.out (box_below _ _)) hb).size; clear hgg hL hb)
            | (at_builtin; refine wpList_append_acc rfl _ _ 44 rfl w.heap.size 5 Tryz.underlying44 Tryz.infoU8p u4 n _ (by rfl) A1.out HN.out gg G G (Pg.gb m1 (Pg.nth vs j)) (by rw [Pg.gb_length]; exact EG.out.symm) (by rfl) L1.out (by omega) (by omega) hs1 ?_; intro v' w' hown hb; have B2 : Hid (Below w.heap.size w w') := B1.out.trans hb; have A2 : Hid (Acc w' w.heap.size 5 v' (n + G) ((Pg.hbytes [(m0 : Int), m1, n0, k, h4, h5, h6] ++ Pg.gbN m0 ks k) ++ Pg.gbN m1 vs (j + 1))) := (by refine .inl ?_; rw [show Pg.gbN m1 vs (j + 1) = Pg.gbN m1 vs j ++ Pg.gb m1 (Pg.nth vs j) from rfl, ← List.append_assoc]; exact hown); clear hown hb))
          go_roundw
          case rel =>
            refine ⟨j + 1, n + G, by omega, by go_num, ?_, A2.out, B2.out⟩
            rw [show Pg.gbN m1 vs (j + 1) = Pg.gbN m1 vs j ++ Pg.gb m1 (Pg.nth vs j) from rfl, ← List.append_assoc, List.length_append, HN.out, Pg.gb_length, EG.out]
          case measure => simp [intOf]; omega
        · have e : j = n0 := by omega
          subst e
          have EB : Hid ((Pg.hbytes [(m0 : Int), m1, j, k, h4, h5, h6] ++ Pg.gbN m0 ks k) ++ Pg.gbN m1 vs j = Pg.body [(m0 : Int), m1, j, k, h4, h5, h6] ks vs) := by
            show _ = Pg.hbytes [(m0 : Int), m1, j, k, h4, h5, h6] ++ (Pg.gbN m0 ks ks.length ++ Pg.gbN m1 vs vs.length)
            rw [LK.out, LV.out, List.append_assoc]
          obtain ⟨a5, c5, rfl, hL⟩ := HA.out.slice HN.out
          rw [EB.out] at hL
          have L5 : Hid (Lst .u8 wr a5 (Pg.body [(m0 : Int), m1, j, k, h4, h5, h6] ks vs)) := hL
          have N5 : Hid (n = (Pg.body [(m0 : Int), m1, j, k, h4, h5, h6] ks vs).length) := by show _ = _; rw [← HN.out, EB.out]
          clear hL
          go_wp2_with (go_at_call 45; refine (close_any _ n _ (Pg.body [(m0 : Int), m1, j, k, h4, h5, h6] ks vs) T N5.out HT2.out HT.out _ L5.out (Pg.body_byt HP.out)).mono ?_; rintro e v9 ⟨g9, rfl, hg9, hr9, hb⟩; have R9 : Hid (w.heap.size ≤ g9 ∧ v9.rowIs g9 5 T (fun q => .int .u8 (Ls.nth (Sl.close (Pg.body [(m0 : Int), m1, j, k, h4, h5, h6] ks vs)) q)) ∧ Below w.heap.size w v9) := ⟨by omega, hr9, below_then HW.out hb⟩; clear hg9 hr9 hb)
          go_ret
          exact ⟨g9, rfl, R9.out.1, R9.out.2.1, R9.out.2.2⟩
end Go.Proofs.YtimkfkolkplpdaaGreat
/- The reader of package seal: all blocks but its own stand (for what a caller makes behind it). -/
namespace Go.Proofs.YtimkfkolkplpdaaGreat
set_option linter.unusedVariables false
open Go.RowKit

/-- ALL BLOCKS BUT g STAND. -/
def But (g : Nat) (w w' : World) : Prop := Below g w w' ∧ Keeps w w' g
theorem But.refl (g : Nat) (w : World) : But g w w := ⟨Below.refl _ _, Keeps.refl _ _⟩
theorem But.trans {g : Nat} {w v u : World} (h : But g w v) (k : But g v u) : But g w u :=
  ⟨h.1.trans k.1, ⟨Nat.le_trans h.2.1 k.2.1, fun b hb hg => by have := h.2.1; rw [k.2.2 b (by omega) hg, h.2.2 b hb hg]⟩⟩
theorem But.below {g : Nat} {w v u : World} (h : But g w v) (hb : Below v.heap.size v u) (hg : g < v.heap.size) : But g w u := ⟨h.1.trans (hb.mono (Nat.le_of_lt hg)), h.2.below hb⟩
theorem But.of_below {g : Nat} {w v : World} (h : Below w.heap.size w v) (hg : g < w.heap.size) : But g w v := (But.refl g w).below h hg
theorem But.size {g : Nat} {w v : World} (h : But g w v) : w.heap.size ≤ v.heap.size := h.2.1
theorem But.row {g : Nat} {w v : World} (h : But g w v) {b : Nat} {t : TypeId} {n : Nat} {f : Nat → Value} (hr : w.rowIs b t n f) (hb : ¬ b = g) : v.rowIs b t n f := hr.of_block (h.2.2 b hr.lt hb)
theorem But.lst {g : Nat} {w v : World} (h : But g w v) {k : IntKind} {a : Option Addr} {l : List Int} (hl : Lst k w a l) (hp : ∀ x, a = some x → ¬ x.block = g) : Lst k v a l := h.2.lst hl hp
theorem But.cell {g : Nat} {w v : World} (h : But g w v) {b o : Nat} {y : Value} (hc : w.cell? ⟨b, o, none⟩ = some y) (hb : ¬ b = g) : v.cell? ⟨b, o, none⟩ = some y := by
  rw [World.cell?_of_block (h.2.2 b (World.block_lt_of_cell? w _ hc) hb)]; exact hc
theorem But.set {g : Nat} {w v : World} (h : But g w v) (o : Nat) (y : Value) : But g w (v.setCell ⟨g, o, none⟩ y) := ⟨h.1.setCell (p := ⟨g, o, none⟩) (Nat.le_refl g) y, h.2.set o y⟩

theorem nextK_some (g : Nat) (l : List Int) (sh : Bool) (n : Nat) (hn : n ≤ l.length) (w : World) (h : Rdr w g l sh) :
    Calls Tryz.prog 101 #[.pointer (some ⟨g, 0, none⟩), .int .i64 n] w fun e w' => ∃ a' c', e = .returned (.slice a' n c') ∧ Lst .u8 w' a' (l.take n) ∧ (a' = none → c' = 0) ∧ Rdr w' g (l.drop n) sh ∧ But g w w' := by
  obtain ⟨a, c, hr, h1, h2, h3, h4, h5, h6, h7⟩ := h
  have h40 := h4
  unfold maxLen at h4
  have c0 : w.cell? ⟨g, 0, none⟩ = some (.slice a l.length c) := by rw [hr.cell (show 0 < 2 by decide)]; rfl
  have c1 : w.cell? ⟨g, 1, none⟩ = some (.bool sh) := by rw [hr.cell (show 1 < 2 by decide)]; rfl
  have f0 : w.frozen? ⟨g, 0, none⟩ = false := hr.frozen 0
  have f1 : w.frozen? ⟨g, 1, none⟩ = false := hr.frozen 1
  have R : Hid (w.rowIs g 125 2 (rdc a l.length c sh) ∧ Lst .u8 w a l ∧ Sl.Byt l ∧ l.length ≤ c ∧ c ≤ maxLen ∧ (a = none → c = 0) ∧ (∀ x, a = some x → x.block < g) ∧ l.length ≤ 10000) := ⟨hr, h1, h2, h3, h40, h5, h6, h7⟩
  clear hr h1 h2 h40 h5 h6
  go_enter Tryz.func101, Tryz.ntmps101
  go_wp2
  · subst h
    obtain ⟨r1, r2, r3, r4, r5, r6, r7, r8⟩ := R.out
    have e0 : l.length = c := by omega
    have hd : l.drop c = [] := List.drop_of_length_le (by omega)
    obtain ⟨p1, p2⟩ := Rdr.cut (a' := a) (c' := 0) (m := l.drop c) (v := .slice a (l.length - c) 0) r1 (by rw [hd, e0, Nat.sub_self]; rfl) (by rw [hd]; exact Lst.nil _ _ _) (Sl.byt_dropn r3 c) (by rw [hd]; exact Nat.le_refl _) (by unfold maxLen; omega) (fun _ => rfl) r7 (by rw [hd]; exact Nat.zero_le _)
    go_ret
    exact ⟨a, c, rfl, (r2.to c).keepUnder r7 p2, r6, p1, ⟨p2, (Keeps.refl _ _).set 0 _⟩⟩
  · obtain ⟨r1, r2, r3, r4, r5, r6, r7, r8⟩ := R.out
    obtain ⟨p1, p2⟩ := Rdr.cut (a' := Option.map (fun x => x.add n) a) (c' := c - n) (m := l.drop n) (v := .slice (Option.map (fun x => x.add n) a) (l.length - n) (c - n)) r1 (by rw [List.length_drop]) (r2.behind n) (Sl.byt_dropn r3 n) (by rw [List.length_drop]; omega) (by unfold maxLen; omega)
      (by intro e; cases a with | none => rw [r6 rfl]; exact Nat.zero_sub n | some x => cases e) (by intro x e; cases a with | none => cases e | some y => cases e; rw [add_block]; exact r7 y rfl) (by rw [List.length_drop]; omega)
    go_ret
    exact ⟨a, c, rfl, (r2.to n).keepUnder r7 p2, r6, p1, ⟨p2, (Keeps.refl _ _).set 0 _⟩⟩
theorem nextK_none (g : Nat) (l : List Int) (sh : Bool) (n : Nat) (hn : l.length < n) (hn2 : n ≤ maxLen) (w : World) (h : Rdr w g l sh) :
    Calls Tryz.prog 101 #[.pointer (some ⟨g, 0, none⟩), .int .i64 n] w fun e w' => e = .returned (.slice none 0 0) ∧ Rdr w' g [] true ∧ But g w w' := by
  obtain ⟨a, c, hr, h1, h2, h3, h4, h5, h6, h7⟩ := h
  unfold maxLen at h4 hn2
  have c0 : w.cell? ⟨g, 0, none⟩ = some (.slice a l.length c) := by rw [hr.cell (show 0 < 2 by decide)]; rfl
  have c1 : w.cell? ⟨g, 1, none⟩ = some (.bool sh) := by rw [hr.cell (show 1 < 2 by decide)]; rfl
  have f0 : w.frozen? ⟨g, 0, none⟩ = false := hr.frozen 0
  have f1 : w.frozen? ⟨g, 1, none⟩ = false := hr.frozen 1
  have R : Hid (w.rowIs g 125 2 (rdc a l.length c sh)) := hr
  clear hr h1 h2 h5 h6
  go_enter Tryz.func101, Tryz.ntmps101
  go_wp2
  have hbel : Below g w ((w.setCell ⟨g, 0, none⟩ (.slice none 0 0)).setCell ⟨g, 1, none⟩ (.bool true)) := ((Below.refl g w).setCell (p := ⟨g, 0, none⟩) (Nat.le_refl g) _).setCell (p := ⟨g, 1, none⟩) (Nat.le_refl g) _
  go_ret
  refine ⟨rfl, ⟨none, 0, ((R.out.set 0 (.slice none 0 0)).set 1 (.bool true)).congr ?_, Lst.nil _ _ _, (fun i => by rw [Ls.nth_nil]; omega), Nat.le_refl _, Nat.zero_le _, fun _ => rfl, (fun x e => nomatch e), Nat.zero_le _⟩, ⟨hbel, ((Keeps.refl _ _).set 0 _).set 1 _⟩⟩
  intro i hi
  match i, hi with
  | 0, _ => rfl
  | 1, _ => rfl

theorem nextK_any (g : Nat) (l : List Int) (sh : Bool) (k n : Nat) (hk : k ≤ maxLen) (hn : (Sl.got l k).length = n) (w : World) (h : Rdr w g l sh) :
    Calls Tryz.prog 101 #[.pointer (some ⟨g, 0, none⟩), .int .i64 k] w fun e w' => ∃ a' c', e = .returned (.slice a' n c') ∧ Lst .u8 w' a' (Sl.got l k) ∧ (a' = none → c' = 0) ∧ Rdr w' g (Sl.rest l k) (Sl.lack l k sh) ∧ But g w w' := by
  by_cases c : k ≤ l.length
  · rw [Sl.got_yes c] at hn ⊢
    rw [Sl.rest_yes c, Sl.lack_yes c]
    obtain rfl : k = n := by rw [← hn]; simp; omega
    exact nextK_some g l sh k c w h
  · rw [Sl.got_no (by omega)] at hn ⊢
    rw [Sl.rest_no (by omega), Sl.lack_no (by omega)]
    subst hn
    refine (nextK_none g l sh k (by omega) hk w h).mono ?_
    rintro e w' ⟨rfl, h1, h2⟩
    exact ⟨none, 0, rfl, Lst.nil _ _ _, fun _ => rfl, h1, h2⟩

theorem numK_any (g : Nat) (l : List Int) (sh : Bool) (n : Int) (k v : Nat) (hk : Sl.wid n = k) (hv : Sl.num (Sl.got l k) = v) (w : World) (h : Rdr w g l sh) :
    Calls Tryz.prog 103 #[.pointer (some ⟨g, 0, none⟩), .int .i64 n] w fun e w' => e = .returned (.int .u64 v) ∧ Rdr w' g (Sl.rest l k) (Sl.lack l k sh) ∧ But g w w' := by
  have hk8 : k ≤ 8 := by rw [← hk]; exact Sl.wid_le n
  obtain ⟨z, ez⟩ : ∃ z, (Sl.got l k).length = z := ⟨_, rfl⟩
  have EZ : Hid ((Sl.got l k).length = z) := ez
  have HK : Hid (Sl.wid n = k) := hk
  have HV : Hid (Sl.num (Sl.got l k) = v) := hv
  have HR : Hid (Rdr w g l sh) := h
  clear ez hk hv h
  go_enter Tryz.func103, Tryz.ntmps103
  go_wp2_with (first
    | (go_at_call 100; refine (width_any n k HK.out _).mono ?_; rintro e w' ⟨rfl, hww⟩; cases hww.symm; clear hww)
    | (go_at_call 101; refine (nextK_any g l sh k z (by unfold maxLen; omega) EZ.out _ HR.out).mono ?_; rintro e w1 ⟨a', c', rfl, h1, h2, h3, h4⟩; have R1 : Hid (Lst .u8 w1 a' (Sl.got l k) ∧ Rdr w1 g (Sl.rest l k) (Sl.lack l k sh) ∧ But g w w1) := ⟨h1, h3, h4⟩; clear h1 h2 h3 h4)
    | (go_at_call 75; refine (number_any a' z c' (Sl.got l k) v EZ.out.symm (Nat.le_trans (Sl.got_le l k) hk8) HV.out _ R1.out.1 (Sl.got_byt HR.out.byt k)).mono ?_; rintro e w' ⟨rfl, hww⟩; cases hww.symm; clear hww))
  go_ret
  exact ⟨rfl, R1.out.2⟩

theorem signedK_any (g : Nat) (l : List Int) (sh : Bool) (x : Int) (hx : Sl.sgn (Sl.num (Sl.got l 4)) = x) (w : World) (h : Rdr w g l sh) :
    Calls Tryz.prog 102 #[.pointer (some ⟨g, 0, none⟩)] w fun e w' => e = .returned (.int .i32 x) ∧ Rdr w' g (Sl.rest l 4) (Sl.lack l 4 sh) ∧ But g w w' := by
  obtain ⟨v, ev⟩ : ∃ v, Sl.num (Sl.got l 4) = v := ⟨_, rfl⟩
  have hv : v < 4294967296 := by
    rw [← ev]
    exact Nat.lt_of_lt_of_le (Sl.numN_lt (Sl.got_byt h.byt 4) _) (Nat.le_trans (Nat.pow_le_pow_right (by decide) (Sl.got_le l 4)) (by decide))
  rw [ev] at hx
  have HX : Hid (wrap32 (v : Int) = x) := by show _ = _; rw [Sl.sgn_wrap32, Nat.mod_eq_of_lt hv, hx]
  have EV : Hid (Sl.num (Sl.got l 4) = v) := ev
  have HR : Hid (Rdr w g l sh) := h
  clear ev hx h hv
  go_enter Tryz.func102, Tryz.ntmps102
  go_wp2_with (go_at_call 103; refine (numK_any g l sh 4 4 v rfl EV.out _ HR.out).mono ?_; rintro e w1 ⟨rfl, h1, h2⟩; have R1 : Hid (Rdr w1 g (Sl.rest l 4) (Sl.lack l 4 sh) ∧ But g w w1) := ⟨h1, h2⟩; clear h1 h2)
  go_ret
  exact ⟨ret_num HX.out, R1.out⟩

theorem takeK_any (g : Nat) (l : List Int) (sh : Bool) (n : Int) (k z : Nat) (hk : Sl.ask n = k) (hn : n ≤ maxLen) (hz : (Sl.got l k).length = z) (w : World) (h : Rdr w g l sh) :
    Calls Tryz.prog 77 #[.pointer (some ⟨g, 0, none⟩), .int .i64 n] w fun e w' => ∃ a' c', e = .returned (.slice a' z c') ∧ Lst .u8 w' a' (Sl.got l k) ∧ Rdr w' g (Sl.rest l k) (Sl.lack l k sh) ∧ But g w w' := by
  have hm : (if n < 0 then 0 else n) = (k : Int) := by rw [Sl.ask_eq, hk]
  have HKL : Hid (k ≤ maxLen) := by show _ ≤ _; rw [← hk]; unfold Sl.ask; unfold maxLen at hn ⊢; split <;> omega
  have hl := h.len
  have EZ : Hid ((Sl.got l k).length = z) := hz
  have HR : Hid (Rdr w g l sh) := h
  have HL : Hid ((Sl.got l k).length ≤ 10000) := Nat.le_trans (Sl.got_le2 l k) hl
  clear hk h hz hl hn
  go_enter Tryz.func77, Tryz.ntmps77
  go_wp2_with (first
    | (go_at_call 101; refine (nextK_any g l sh k z HKL.out EZ.out _ HR.out).mono ?_; rintro e w1 ⟨a', c', rfl, h1, h2, h3, h4⟩; have R1 : Hid (Lst .u8 w1 a' (Sl.got l k) ∧ (a' = none → c' = 0) ∧ Rdr w1 g (Sl.rest l k) (Sl.lack l k sh) ∧ But g w w1) := ⟨h1, h2, h3, h4⟩; clear h1 h2 h3 h4)
    | (go_at_call 76; refine (clone_any a' z c' (Sl.got l k) EZ.out.symm HL.out _ R1.out.1 R1.out.2.1).mono ?_; rintro e w2 ⟨a2, c2, rfl, h1, h2, h3, h4, h5, h6⟩; have R2 : Hid (Lst .u8 w2 a2 (Sl.got l k) ∧ Rdr w2 g (Sl.rest l k) (Sl.lack l k sh) ∧ But g w w2) := ⟨h1, R1.out.2.2.1.keep h6, R1.out.2.2.2.below h6 R1.out.2.2.1.lt⟩; clear h1 h2 h3 h4 h5 h6))
  go_ret
  exact ⟨a2, c2, rfl, R2.out⟩

attribute [local go_sem ↓] Go.wp_at_zero Go.wp_at_succ
theorem groupBytes_any (n b N : Nat) (hb : Pk.Ok b) (hn : n ≤ 256) (hN : Pg.gsize b n = N) (w : World) :
    Calls Tryz.prog 42 #[.int .i64 n, .int .i64 b] w fun e w' => e = .returned (.int .i64 N) ∧ w' = w := by
  have hs := Pk.size_le hb hn
  obtain ⟨p, ep⟩ : ∃ p, Pk.size b n = p := ⟨_, rfl⟩
  rw [ep] at hs
  have EP : Hid (Pk.size b n = p) := ep
  have HB : Hid (Pk.Ok b) := hb
  have HN : Hid (8 + 8 * p = N) := by rw [← hN, ← ep]; exact rfl
  clear ep hb hN
  go_enter Tryz.func42, Tryz.ntmps42
  go_wp2_with (go_at_call 72; refine (words_yes n b HB.out hn _).mono ?_; rintro e w' ⟨rfl, hw⟩; cases hw.symm; clear hw; rw [EP.out])
  go_ret
  exact ⟨ret_num (by have := HN.out; omega), rfl⟩

set_option maxHeartbeats 800000 in
theorem sizeP_any (b0 b1 n d : Nat) (h4 h5 h6 : Int) (N : Nat) (w : World) (k0 : Pk.Ok b0) (k1 : Pk.Ok b1) (hn : n ≤ 16) (hd : d ≤ 16) (hr : Pg.rightH [(b0 : Int), b1, n, d, h4, h5, h6] = true) (hN : 9 + Pg.gsize b0 n * d + Pg.gsize b1 d * n + 4 = N) :
    Calls Tryz.prog 15 #[.agg #[.int .i64 b0, .int .i64 b1, .int .i64 n, .int .i64 d, .int .i64 h4, .int .i64 h5, .int .i64 h6]] w fun r w' => r = .returned (.int .i64 N) ∧ Below w.heap.size w w' := by
  obtain ⟨p, ep⟩ : ∃ p, Pk.size b0 n = p := ⟨_, rfl⟩
  obtain ⟨q, eq⟩ : ∃ q, Pk.size b1 d = q := ⟨_, rfl⟩
  have hp : p ≤ 2 := by rw [← ep]; exact Pg.size_small k0 hn
  have hq : q ≤ 2 := by rw [← eq]; exact Pg.size_small k1 hd
  obtain ⟨x, ex⟩ : ∃ x, d * (8 + 8 * p) = x := ⟨_, rfl⟩
  obtain ⟨y, ey⟩ : ∃ y, n * (8 + 8 * q) = y := ⟨_, rfl⟩
  have hx : x ≤ 16 * 24 := by rw [← ex]; exact Nat.mul_le_mul hd (by omega)
  have hy : y ≤ 16 * 24 := by rw [← ey]; exact Nat.mul_le_mul hn (by omega)
  have exi : (d : Int) * ((8 + 8 * p : Nat) : Int) = (x : Int) := by rw [← ex]; push_cast; rfl
  have eyi : (n : Int) * ((8 + 8 * q : Nat) : Int) = (y : Int) := by rw [← ey]; push_cast; rfl
  have HN : Hid (9 + x + y + 4 = N) := by
    show _ = _
    rw [← hN, ← ex, ← ey]
    unfold Pg.gsize
    rw [ep, eq, Nat.mul_comm d, Nat.mul_comm n]
  have K0 : Hid (Pk.Ok b0) := k0
  have K1 : Hid (Pk.Ok b1) := k1
  have EP : Hid (Pk.size b0 n = p) := ep
  have EQ : Hid (Pk.size b1 d = q) := eq
  have EQ2 : Hid (Pg.rightH [(b0 : Int), b1, n, d, h4, h5, h6] = true) := hr
  have q5 : IntKind.i64.wrap (x : Int) = x := by rw [IntKind.wrap_i64]; omega
  have q6 : IntKind.i64.wrap (y : Int) = y := by rw [IntKind.wrap_i64]; omega
  have q7 : IntKind.i64.wrap (9 + (x : Int)) = 9 + (x : Int) := by rw [IntKind.wrap_i64]; omega
  have q8 : IntKind.i64.wrap (9 + (x : Int) + (y : Int)) = 9 + (x : Int) + (y : Int) := by rw [IntKind.wrap_i64]; omega
  have q9 : IntKind.i64.wrap (9 + (x : Int) + (y : Int) + 4) = 9 + (x : Int) + (y : Int) + 4 := by rw [IntKind.wrap_i64]; omega
  obtain ⟨P, eP⟩ : ∃ P, 8 + 8 * p = P := ⟨_, rfl⟩
  obtain ⟨Q, eQ⟩ : ∃ Q, 8 + 8 * q = Q := ⟨_, rfl⟩
  rw [eP] at exi
  rw [eQ] at eyi
  have C0 : Hid (∀ w', Calls Tryz.prog 42 #[.int .i64 n, .int .i64 b0] w' fun e w'' => e = .returned (.int .i64 (P : Int)) ∧ w'' = w') := fun w' => groupBytes_any n b0 P K0.out (by omega) (by rw [← eP, ← EP.out]; rfl) w'
  have C1 : Hid (∀ w', Calls Tryz.prog 42 #[.int .i64 d, .int .i64 b1] w' fun e w'' => e = .returned (.int .i64 (Q : Int)) ∧ w'' = w') := fun w' => groupBytes_any d b1 Q K1.out (by omega) (by rw [← eQ, ← EQ.out]; rfl) w'
  clear hN k0 k1 ep eq ex ey hr eP eQ
  go_enter Tryz.func15, Tryz.ntmps15
  go_wp2_with fail
  obtain ⟨u0, hu0⟩ : ∃ u, w.alloc (.cells #[.int .i64 b0, .int .i64 b1, .int .i64 n, .int .i64 d, .int .i64 h4, .int .i64 h5, .int .i64 h6] 23) = u := ⟨_, rfl⟩
  have U0 : Hid (Below w.heap.size w u0) := by rw [← hu0]; exact box_below _ _
  have HD : Hid (∀ v, Below u0.heap.size u0 v → HdAt v w.heap.size b0 b1 n d h4 h5 h6) := by rw [← hu0]; exact fun v hb => hd_box hb
  rw [hu0]
  clear hu0
  refine (rightP_any _ _ _ _ _ _ _ true EQ2.out _).mono ?_
  rintro r v0 ⟨rfl, hb⟩
  have B0 : Hid (Below w.heap.size w v0) := below_then U0.out hb
  obtain ⟨x0, x1, x2, x3, _, _, _⟩ := HD.out v0 hb
  clear hb
  go_wp2
  go_quiet ((go_at_call 42; first | (with_reducible exact (C0.out _).mono fun _ _ ⟨he, hw⟩ => ⟨he, _, hw⟩) | (with_reducible exact (C1.out _).mono fun _ _ ⟨he, hw⟩ => ⟨he, _, hw⟩)))
  go_wp2
  go_ret
  refine ⟨ret_num ?_, below_drewN B0.out _⟩
  have := HN.out
  omega
end Go.Proofs.YtimkfkolkplpdaaGreat
/- Contracts of package page: a page's first bytes are read. -/
namespace Go.Proofs.YtimkfkolkplpdaaGreat
set_option linter.unusedVariables false
open Go.RowKit
attribute [local go_sem ↓] Go.wp_at_zero Go.wp_at_succ

theorem or_low64 {n : Nat} {x : Int} (hn : n < 65536) (h0 : 0 ≤ x) (h1 : x < 256) : bits .or .i64 ((n : Int) * 256) x = ((n * 256 + x.toNat : Nat) : Int) := by
  obtain ⟨y, ey⟩ : ∃ y : Nat, x = y := ⟨x.toNat, by omega⟩
  subst ey
  have e := Nat.two_pow_add_eq_or_of_lt (i := 8) (b := y) (by omega) n
  have e1 : (BitVec.ofInt 64 ((n : Int) * 256)).toNat = 2 ^ 8 * n := by
    rw [BitVec.toNat_ofInt]
    show (((n : Int) * 256) % 18446744073709551616).toNat = 256 * n
    omega
  have e2 : (BitVec.ofInt 64 (y : Int)).toNat = y := by
    rw [BitVec.toNat_ofInt]
    show ((y : Int) % 18446744073709551616).toNat = _
    omega
  show IntKind.i64.wrap ((BitVec.ofInt 64 ((n : Int) * 256) ||| BitVec.ofInt 64 (y : Int)).toNat : Int) = _
  rw [BitVec.toNat_or, e1, e2, ← e, IntKind.wrap_i64, Int.toNat_natCast]
  omega
theorem Rdr.under {w w' : World} {g B : Nat} {l : List Int} {sh : Bool} (h : Rdr w g l sh) (hg : g < B) (hb : Below B w w') : Rdr w' g l sh := by
  obtain ⟨a, c, h1, h2, h3, h4, h5, h6, h7, h8⟩ := h
  exact ⟨a, c, h1.of_block (hb.block g hg), h2.keepUnder (fun x e => by have := h7 x e; omega) hb, h3, h4, h5, h6, h7, h8⟩
theorem heads_boxes {w v : World} {g : Nat} {X Y : Array Value} {s t : TypeId} (hb : But g ((w.alloc (.cells X s)).alloc (.cells Y t)) v) (hg : g < w.heap.size) : v.heap[w.heap.size + 1]? = some (.cells Y t (0, 0)) ∧ v.heap[w.heap.size]? = some (.cells X s (0, 0)) ∧ But g w v := by
  have e1 : ((w.alloc (.cells X s)).alloc (.cells Y t)).heap[w.heap.size + 1]? = some (.cells Y t (0, 0)) := by
    have := heap_alloc_new (w.alloc (.cells X s)) (.cells Y t)
    rw [show (w.alloc (.cells X s)).heap.size = w.heap.size + 1 by simp] at this
    exact this
  have e0 : ((w.alloc (.cells X s)).alloc (.cells Y t)).heap[w.heap.size]? = some (.cells X s (0, 0)) := by
    rw [Below.heap_alloc _ _ _ (by simp)]
    exact heap_alloc_new w _
  refine ⟨?_, ?_, (But.of_below (two_boxes w _ _) hg).trans hb⟩
  · rw [hb.2.2 _ (by simp) (by omega)]; exact e1
  · rw [hb.2.2 _ (by simp; omega) (by omega)]; exact e0
theorem But.new {g : Nat} {w v : World} (h : But g w v) {b : Nat} (hb : w.heap.size ≤ b) (hg : g < w.heap.size) (o : Nat) (y : Value) : But g w (v.setCell ⟨b, o, none⟩ y) :=
  ⟨h.1.setCell (p := ⟨b, o, none⟩) (by show g ≤ b; omega) y, ⟨by rw [Go.Deep.nblk_setCell]; exact h.2.1, fun k hk hne => by rw [Go.Deep.blk_setCell_other v ⟨b, o, none⟩ y k (by show k ≠ b; omega), h.2.2 k hk hne]⟩⟩
theorem But.under {g B : Nat} {w v u : World} (h : But g w v) (hb : Below B v u) (hB : w.heap.size ≤ B) (hg : g < w.heap.size) : But g w u :=
  ⟨h.1.trans (hb.mono (by omega)), ⟨Nat.le_trans h.2.1 hb.size, fun b hlt hne => by rw [hb.block b (by omega), h.2.2 b hlt hne]⟩⟩

set_option maxRecDepth 100000 in
set_option maxHeartbeats 1600000 in
theorem headRead_short (g : Nat) (l : List Int) (w : World) (h : Rdr w g l false) (hl : l.length < 9) :
    Calls Tryz.prog 48 #[.pointer (some ⟨g, 0, none⟩)] w fun e w' => e = .returned (.tuple #[.agg #[.int .i64 0, .int .i64 0, .int .i64 0, .int .i64 0, .int .i64 0, .int .i64 0, .int .i64 0], .int .i64 16]) ∧ But g w w' := by
  have hgw := h.lt
  have HR : Hid (Rdr w g l false) := h
  have GL : Hid ((Sl.got l 9).length = 0) := by show _ = _; rw [Sl.got_no hl]; rfl
  have LK : Hid (Sl.lack l 9 false = true) := Sl.lack_no hl
  clear h
  go_enter Tryz.func48, Tryz.ntmps48
  go_wp2
  obtain ⟨u0, hu0⟩ : ∃ u, ((w.alloc (.cells #[.int .i64 0, .int .i64 0, .int .i64 0, .int .i64 0, .int .i64 0, .int .i64 0, .int .i64 0] 23)).alloc (.cells #[.int .u8 0, .int .u8 0, .int .u8 0, .int .u8 0, .int .u8 0, .int .u8 0, .int .u8 0, .int .u8 0, .int .u8 0] 83)) = u := ⟨_, rfl⟩
  have U0 : Hid (Below w.heap.size w u0) := by rw [← hu0]; exact two_boxes _ _ _
  have HB : Hid (∀ v, But g u0 v → v.heap[w.heap.size + 1]? = some (.cells #[.int .u8 0, .int .u8 0, .int .u8 0, .int .u8 0, .int .u8 0, .int .u8 0, .int .u8 0, .int .u8 0, .int .u8 0] 83 (0, 0)) ∧ v.heap[w.heap.size]? = some (.cells #[.int .i64 0, .int .i64 0, .int .i64 0, .int .i64 0, .int .i64 0, .int .i64 0, .int .i64 0] 23 (0, 0)) ∧ But g w v) := by rw [← hu0]; exact fun v hb => heads_boxes hb hgw
  have hgu : g < u0.heap.size := by have := U0.out.size; omega
  rw [hu0]
  clear hu0
  go_region_law (first
    | (refine step_copy_splice rfl (.tmp 6) (.tmp 8) 44 44 rfl 5 Tryz.underlying44 (by kernel_rfl) (some ⟨w.heap.size + 1, 0, none⟩) a1 9 9 0 c1 (by rfl) (by rfl) (w.heap.size + 1) 0 [.int .u8 0, .int .u8 0, .int .u8 0, .int .u8 0, .int .u8 0, .int .u8 0, .int .u8 0, .int .u8 0, .int .u8 0] 83 (HB.out v1 BT.out).1 [] (by rfl) CP.out (by decide) (by simp [Value.oneCell']) (w.heap.size + 1) v1 (Below.refl _ _) (Nat.le_refl _) ?_; intro w4 hg4 hb4; have B4 : Hid (Below (w.heap.size + 1) v1 w4) := hb4; have G4 : Hid (w4.heap[w.heap.size + 1]? = some (.cells #[.int .u8 0, .int .u8 0, .int .u8 0, .int .u8 0, .int .u8 0, .int .u8 0, .int .u8 0, .int .u8 0, .int .u8 0] 83 (0, 0))) := hg4.out; clear hg4 hb4)
    | (go_simp; go_at_call 77; refine (takeK_any g l false 9 9 0 rfl (by unfold maxLen; omega) GL.out _ (HR.out.keep (below_then U0.out ((Below.refl u0.heap.size u0).drew)))).mono ?_; rintro e v1 ⟨a1, c1, rfl, hL1, hr1, hb1⟩; have BT : Hid (But g u0 v1) := (But.of_below ((Below.refl u0.heap.size u0).drew) hgu).trans hb1; have RT : Hid (Rdr v1 g (Sl.rest l 9) (Sl.lack l 9 false)) := hr1; have CP : Hid (0 < ([] : List Value).length → (some ⟨w.heap.size + 1, 0, none⟩ : Option Addr) = some ⟨w.heap.size + 1, 0, none⟩ ∧ ∃ ad, a1 = some ad ∧ ∀ (j : Nat) (v : Value), ([] : List Value)[j]? = some v → v1.cell? (ad.add j) = some v) := (fun h => absurd h (by decide)); clear hL1 hr1 hb1))
  all_goals
    have R4 : Hid (Rdr w4 g (Sl.rest l 9) true) := by rw [← LK.out]; exact RT.out.under (by omega) B4.out
    have BW : Hid (But g w w4) := (HB.out v1 BT.out).2.2.under B4.out (by omega) hgw
    have Z4 : Hid (w4.heap[w.heap.size]? = some (.cells #[.int .i64 0, .int .i64 0, .int .i64 0, .int .i64 0, .int .i64 0, .int .i64 0, .int .i64 0] 23 (0, 0))) := by rw [← (HB.out v1 BT.out).2.1]; exact B4.out.block _ (by omega)
    have z : ∀ i x, (#[.int .i64 0, .int .i64 0, .int .i64 0, .int .i64 0, .int .i64 0, .int .i64 0, .int .i64 0] : Array Value)[i]? = some x → w4.cell? ⟨w.heap.size, i, none⟩ = some x := fun i x hx => by rw [cell_of_row _ _ _ _ _ _ Z4.out]; exact hx
    have z0 := z 0 _ rfl
    have z1 := z 1 _ rfl
    have z2 := z 2 _ rfl
    have z3 := z 3 _ rfl
    have z4 := z 4 _ rfl
    have z5 := z 5 _ rfl
    have z6 := z 6 _ rfl
    have fz : ∀ i, w4.frozen? ⟨w.heap.size, i, none⟩ = false := fun i => (World.rowIs.frozen (n := 7) (f := fun _ => .int .i64 0) ⟨_, Z4.out, rfl, fun i hi => by match i, hi with | 0, _ => rfl | 1, _ => rfl | 2, _ => rfl | 3, _ => rfl | 4, _ => rfl | 5, _ => rfl | 6, _ => rfl⟩ i)
    clear z
    go_wp2_with (go_at_call 78; refine (short_any g _ true _ R4.out).mono ?_; rintro e w' ⟨rfl, hw⟩; cases hw.symm; clear hw)
    refine bodyPost_ret (v := .tuple #[.agg #[.int .i64 0, .int .i64 0, .int .i64 0, .int .i64 0, .int .i64 0, .int .i64 0, .int .i64 0], .int .i64 16]) (by simp [results, Tryz.results48, go_sem, z0, z1, z2, z3, z4, z5, z6]) rfl ⟨rfl, ?_⟩
    exact ((((((BW.out.new (Nat.le_refl _) hgw 0 _).new (Nat.le_refl _) hgw 1 _).new (Nat.le_refl _) hgw 2 _).new (Nat.le_refl _) hgw 3 _).new (Nat.le_refl _) hgw 4 _).new (Nat.le_refl _) hgw 5 _).new (Nat.le_refl _) hgw 6 _
/-- Where a copy's bytes lie. -/
theorem lst_src {v : World} {a : Option Addr} {m : List Int} (h : Lst .u8 v a m) (hp : 0 < m.length) : ∃ ad, a = some ad ∧ ∀ (j : Nat) (u : Value), (m.map (Value.int .u8))[j]? = some u → v.cell? (ad.add j) = some u := by
  obtain ⟨b, o, rfl, hc⟩ := h.get hp
  refine ⟨_, rfl, fun j u hu => ?_⟩
  have hj : j < m.length := by
    have := (List.getElem?_eq_some_iff.1 hu).1
    simpa using this
  rw [Addr.add_lit, hc j hj]
  simpa [Ls.nth, hj] using hu

set_option maxRecDepth 100000 in
set_option maxHeartbeats 1600000 in
theorem headRead_form (g : Nat) (x0 x1 x2 x3 x4 x5 x6 x7 x8 : Int) (r : List Int) (w : World) (h : Rdr w g (x0 :: x1 :: x2 :: x3 :: x4 :: x5 :: x6 :: x7 :: x8 :: r) false) (h0 : ¬ x0 = 75) :
    Calls Tryz.prog 48 #[.pointer (some ⟨g, 0, none⟩)] w fun e w' => e = .returned (.tuple #[.agg #[.int .i64 0, .int .i64 0, .int .i64 0, .int .i64 0, .int .i64 0, .int .i64 0, .int .i64 0], .int .i64 10]) ∧ But g w w' := by
  have hgw := h.lt
  obtain ⟨l, el⟩ : ∃ l, (x0 :: x1 :: x2 :: x3 :: x4 :: x5 :: x6 :: x7 :: x8 :: r) = l := ⟨_, rfl⟩
  have hlen : 9 ≤ l.length := by rw [← el]; simp
  have GE : Hid (Sl.got l 9 = [x0, x1, x2, x3, x4, x5, x6, x7, x8]) := by show _ = _; rw [Sl.got_yes hlen, ← el]; rfl
  have GL : Hid ((Sl.got l 9).length = 9) := by show _ = _; rw [GE.out]; rfl
  have RE : Hid (Sl.rest l 9 = r) := by show _ = _; rw [Sl.rest_yes hlen, ← el]; rfl
  have LK : Hid (Sl.lack l 9 false = false) := Sl.lack_yes hlen
  have byt := h.byt
  have bb : ∀ i, 0 ≤ Ls.nth (x0 :: x1 :: x2 :: x3 :: x4 :: x5 :: x6 :: x7 :: x8 :: r) i ∧ Ls.nth (x0 :: x1 :: x2 :: x3 :: x4 :: x5 :: x6 :: x7 :: x8 :: r) i < 256 := byt
  have b0 : 0 ≤ x0 ∧ x0 < 256 := bb 0
  have b1 : 0 ≤ x1 ∧ x1 < 256 := bb 1
  have b2 : 0 ≤ x2 ∧ x2 < 256 := bb 2
  have b3 : 0 ≤ x3 ∧ x3 < 256 := bb 3
  have b4 : 0 ≤ x4 ∧ x4 < 256 := bb 4
  have b5 : 0 ≤ x5 ∧ x5 < 256 := bb 5
  have b6 : 0 ≤ x6 ∧ x6 < 256 := bb 6
  have b7 : 0 ≤ x7 ∧ x7 < 256 := bb 7
  have b8 : 0 ≤ x8 ∧ x8 < 256 := bb 8
  rw [el] at h
  have HR : Hid (Rdr w g l false) := h
  clear h byt bb el
  have t0 : (x0 != 75) = true := by simpa using h0
  go_enter Tryz.func48, Tryz.ntmps48
  go_wp2
  obtain ⟨u0, hu0⟩ : ∃ u, ((w.alloc (.cells #[.int .i64 0, .int .i64 0, .int .i64 0, .int .i64 0, .int .i64 0, .int .i64 0, .int .i64 0] 23)).alloc (.cells #[.int .u8 0, .int .u8 0, .int .u8 0, .int .u8 0, .int .u8 0, .int .u8 0, .int .u8 0, .int .u8 0, .int .u8 0] 83)) = u := ⟨_, rfl⟩
  have U0 : Hid (Below w.heap.size w u0) := by rw [← hu0]; exact two_boxes _ _ _
  have HB : Hid (∀ v, But g u0 v → v.heap[w.heap.size + 1]? = some (.cells #[.int .u8 0, .int .u8 0, .int .u8 0, .int .u8 0, .int .u8 0, .int .u8 0, .int .u8 0, .int .u8 0, .int .u8 0] 83 (0, 0)) ∧ v.heap[w.heap.size]? = some (.cells #[.int .i64 0, .int .i64 0, .int .i64 0, .int .i64 0, .int .i64 0, .int .i64 0, .int .i64 0] 23 (0, 0)) ∧ But g w v) := by rw [← hu0]; exact fun v hb => heads_boxes hb hgw
  have hgu : g < u0.heap.size := by have := U0.out.size; omega
  rw [hu0]
  clear hu0
  go_region_law (first
    | (refine step_copy_splice rfl (.tmp 6) (.tmp 8) 44 44 rfl 5 Tryz.underlying44 (by kernel_rfl) (some ⟨w.heap.size + 1, 0, none⟩) a1 9 9 9 c1 (by rfl) (by rfl) (w.heap.size + 1) 0 [.int .u8 0, .int .u8 0, .int .u8 0, .int .u8 0, .int .u8 0, .int .u8 0, .int .u8 0, .int .u8 0, .int .u8 0] 83 (HB.out v1 BT.out).1 [.int .u8 x0, .int .u8 x1, .int .u8 x2, .int .u8 x3, .int .u8 x4, .int .u8 x5, .int .u8 x6, .int .u8 x7, .int .u8 x8] (by rfl) CP.out (by simp) (by simp [Value.oneCell']) (w.heap.size + 1) v1 (Below.refl _ _) (Nat.le_refl _) ?_; intro w4 hg4 hb4; have B4 : Hid (Below (w.heap.size + 1) v1 w4) := hb4; have G4 : Hid (w4.heap[w.heap.size + 1]? = some (.cells #[.int .u8 x0, .int .u8 x1, .int .u8 x2, .int .u8 x3, .int .u8 x4, .int .u8 x5, .int .u8 x6, .int .u8 x7, .int .u8 x8] 83 (0, 0))) := hg4.out; clear hg4 hb4)
    | (go_simp; go_at_call 77; refine (takeK_any g l false 9 9 9 rfl (by unfold maxLen; omega) GL.out _ (HR.out.keep (below_then U0.out ((Below.refl u0.heap.size u0).drew)))).mono ?_; rintro e v1 ⟨a1, c1, rfl, hL1, hr1, hb1⟩; have BT : Hid (But g u0 v1) := (But.of_below ((Below.refl u0.heap.size u0).drew) hgu).trans hb1; have RT : Hid (Rdr v1 g (Sl.rest l 9) (Sl.lack l 9 false)) := hr1; have CP : Hid (0 < ([.int .u8 x0, .int .u8 x1, .int .u8 x2, .int .u8 x3, .int .u8 x4, .int .u8 x5, .int .u8 x6, .int .u8 x7, .int .u8 x8] : List Value).length → (some ⟨w.heap.size + 1, 0, none⟩ : Option Addr) = some ⟨w.heap.size + 1, 0, none⟩ ∧ ∃ ad, a1 = some ad ∧ ∀ (j : Nat) (v : Value), ([.int .u8 x0, .int .u8 x1, .int .u8 x2, .int .u8 x3, .int .u8 x4, .int .u8 x5, .int .u8 x6, .int .u8 x7, .int .u8 x8] : List Value)[j]? = some v → v1.cell? (ad.add j) = some v) := (fun _ => ⟨rfl, lst_src (m := [x0, x1, x2, x3, x4, x5, x6, x7, x8]) (by rw [← GE.out]; exact hL1) (by simp)⟩); clear hL1 hr1 hb1))
  all_goals
    have R4 : Hid (Rdr w4 g r false) := by rw [← RE.out]; have := RT.out.under (by omega) B4.out; rw [LK.out] at this; exact this
    have BW : Hid (But g w w4) := (HB.out v1 BT.out).2.2.under B4.out (by omega) hgw
    have Z4 : Hid (w4.heap[w.heap.size]? = some (.cells #[.int .i64 0, .int .i64 0, .int .i64 0, .int .i64 0, .int .i64 0, .int .i64 0, .int .i64 0] 23 (0, 0))) := by rw [← (HB.out v1 BT.out).2.1]; exact B4.out.block _ (by omega)
    have hs4 : w.heap.size + 1 < w4.heap.size := by
      have := G4.out
      exact (Array.getElem?_eq_some_iff.1 this).1
    have zf : ∀ (v : World), v.heap[w.heap.size]? = w4.heap[w.heap.size]? → (∀ i x, (#[.int .i64 0, .int .i64 0, .int .i64 0, .int .i64 0, .int .i64 0, .int .i64 0, .int .i64 0] : Array Value)[i]? = some x → v.cell? ⟨w.heap.size, i, none⟩ = some x) ∧ ∀ i, v.frozen? ⟨w.heap.size, i, none⟩ = false := fun v hv =>
      ⟨fun i x hx => by rw [cell_of_row _ _ _ _ _ _ (hv.trans Z4.out)]; exact hx, fun i => (World.rowIs.frozen (n := 7) (f := fun _ => .int .i64 0) ⟨_, hv.trans Z4.out, rfl, fun i hi => by match i, hi with | 0, _ => rfl | 1, _ => rfl | 2, _ => rfl | 3, _ => rfl | 4, _ => rfl | 5, _ => rfl | 6, _ => rfl⟩ i)⟩
    have ZF : Hid (∀ (v : World), v.heap[w.heap.size]? = w4.heap[w.heap.size]? → (∀ i x, (#[.int .i64 0, .int .i64 0, .int .i64 0, .int .i64 0, .int .i64 0, .int .i64 0, .int .i64 0] : Array Value)[i]? = some x → v.cell? ⟨w.heap.size, i, none⟩ = some x) ∧ ∀ i, v.frozen? ⟨w.heap.size, i, none⟩ = false) := zf
    have a : ∀ i x, (#[.int .u8 x0, .int .u8 x1, .int .u8 x2, .int .u8 x3, .int .u8 x4, .int .u8 x5, .int .u8 x6, .int .u8 x7, .int .u8 x8] : Array Value)[i]? = some x → w4.cell? ⟨w.heap.size + 1, i, none⟩ = some x := fun i x hx => by rw [cell_of_row _ _ _ _ _ _ G4.out]; exact hx
    have a0 := a 0 _ rfl
    have a1 := a 1 _ rfl
    have a2 := a 2 _ rfl
    have a3 := a 3 _ rfl
    have a4 := a 4 _ rfl
    have a5 := a 5 _ rfl
    have a6 := a 6 _ rfl
    have a7 := a 7 _ rfl
    have a8 := a 8 _ rfl
    clear a zf
    have SH : Hid (∀ v, Rdr v g r false → Calls Tryz.prog 78 #[.pointer (some ⟨g, 0, none⟩)] v fun e w' => e = .returned (.bool false) ∧ w' = v) := fun v hv => short_any g r false v hv
    obtain ⟨z, fz⟩ := ZF.out w4 rfl
    have z0 := z 0 _ rfl
    have z1 := z 1 _ rfl
    have z2 := z 2 _ rfl
    have z3 := z 3 _ rfl
    have z4 := z 4 _ rfl
    have z5 := z 5 _ rfl
    have z6 := z 6 _ rfl
    clear z
    go_wp2_with (go_at_call 78; refine (SH.out _ R4.out).mono ?_; rintro e w' ⟨rfl, hw⟩; cases hw.symm; clear hw)
    refine bodyPost_ret (v := .tuple #[.agg #[.int .i64 0, .int .i64 0, .int .i64 0, .int .i64 0, .int .i64 0, .int .i64 0, .int .i64 0], .int .i64 10]) (by simp [results, Tryz.results48, go_sem, z0, z1, z2, z3, z4, z5, z6]) rfl ⟨rfl, ?_⟩
    exact ((((((BW.out.new (Nat.le_refl _) hgw 0 _).new (Nat.le_refl _) hgw 1 _).new (Nat.le_refl _) hgw 2 _).new (Nat.le_refl _) hgw 3 _).new (Nat.le_refl _) hgw 4 _).new (Nat.le_refl _) hgw 5 _).new (Nat.le_refl _) hgw 6 _

set_option maxRecDepth 100000 in
set_option maxHeartbeats 3200000 in
theorem headRead_range (g : Nat) (x0 x1 x2 x3 x4 x5 x6 x7 x8 y : Int) (r : List Int) (w : World) (h : Rdr w g (x0 :: x1 :: x2 :: x3 :: x4 :: x5 :: x6 :: x7 :: x8 :: r) false) (h0 : x0 = 75) (hy : x7 * 256 + x8 = y) (hq : Pg.rightH [x1, x2, x3, x4, x5, x6, y] = false) :
    Calls Tryz.prog 48 #[.pointer (some ⟨g, 0, none⟩)] w fun e w' => e = .returned (.tuple #[.agg #[.int .i64 0, .int .i64 0, .int .i64 0, .int .i64 0, .int .i64 0, .int .i64 0, .int .i64 0], .int .i64 11]) ∧ But g w w' := by
  have hgw := h.lt
  obtain ⟨l, el⟩ : ∃ l, (x0 :: x1 :: x2 :: x3 :: x4 :: x5 :: x6 :: x7 :: x8 :: r) = l := ⟨_, rfl⟩
  have hlen : 9 ≤ l.length := by rw [← el]; simp
  have GE : Hid (Sl.got l 9 = [x0, x1, x2, x3, x4, x5, x6, x7, x8]) := by show _ = _; rw [Sl.got_yes hlen, ← el]; rfl
  have GL : Hid ((Sl.got l 9).length = 9) := by show _ = _; rw [GE.out]; rfl
  have RE : Hid (Sl.rest l 9 = r) := by show _ = _; rw [Sl.rest_yes hlen, ← el]; rfl
  have LK : Hid (Sl.lack l 9 false = false) := Sl.lack_yes hlen
  have byt := h.byt
  have bb : ∀ i, 0 ≤ Ls.nth (x0 :: x1 :: x2 :: x3 :: x4 :: x5 :: x6 :: x7 :: x8 :: r) i ∧ Ls.nth (x0 :: x1 :: x2 :: x3 :: x4 :: x5 :: x6 :: x7 :: x8 :: r) i < 256 := byt
  have b0 : 0 ≤ x0 ∧ x0 < 256 := bb 0
  have b1 : 0 ≤ x1 ∧ x1 < 256 := bb 1
  have b2 : 0 ≤ x2 ∧ x2 < 256 := bb 2
  have b3 : 0 ≤ x3 ∧ x3 < 256 := bb 3
  have b4 : 0 ≤ x4 ∧ x4 < 256 := bb 4
  have b5 : 0 ≤ x5 ∧ x5 < 256 := bb 5
  have b6 : 0 ≤ x6 ∧ x6 < 256 := bb 6
  have b7 : 0 ≤ x7 ∧ x7 < 256 := bb 7
  have b8 : 0 ≤ x8 ∧ x8 < 256 := bb 8
  rw [el] at h
  have HR : Hid (Rdr w g l false) := h
  clear h byt bb el
  have t0 : (x0 != 75) = false := by simp [h0]
  have EQ : Hid (Pg.rightH [x1, x2, x3, x4, x5, x6, y] = false) := hq
  have eor : bits .or .i64 (x7 * 256) x8 = y := by
    obtain ⟨n7, e7⟩ := Int.eq_ofNat_of_zero_le b7.1
    have := or_low64 (n := n7) (x := x8) (by omega) b8.1 b8.2
    rw [e7, this, ← hy, e7]
    omega
  clear hq h0 hy
  go_enter Tryz.func48, Tryz.ntmps48
  go_wp2
  obtain ⟨u0, hu0⟩ : ∃ u, ((w.alloc (.cells #[.int .i64 0, .int .i64 0, .int .i64 0, .int .i64 0, .int .i64 0, .int .i64 0, .int .i64 0] 23)).alloc (.cells #[.int .u8 0, .int .u8 0, .int .u8 0, .int .u8 0, .int .u8 0, .int .u8 0, .int .u8 0, .int .u8 0, .int .u8 0] 83)) = u := ⟨_, rfl⟩
  have U0 : Hid (Below w.heap.size w u0) := by rw [← hu0]; exact two_boxes _ _ _
  have HB : Hid (∀ v, But g u0 v → v.heap[w.heap.size + 1]? = some (.cells #[.int .u8 0, .int .u8 0, .int .u8 0, .int .u8 0, .int .u8 0, .int .u8 0, .int .u8 0, .int .u8 0, .int .u8 0] 83 (0, 0)) ∧ v.heap[w.heap.size]? = some (.cells #[.int .i64 0, .int .i64 0, .int .i64 0, .int .i64 0, .int .i64 0, .int .i64 0, .int .i64 0] 23 (0, 0)) ∧ But g w v) := by rw [← hu0]; exact fun v hb => heads_boxes hb hgw
  have hgu : g < u0.heap.size := by have := U0.out.size; omega
  rw [hu0]
  clear hu0
  go_region_law (first
    | (refine step_copy_splice rfl (.tmp 6) (.tmp 8) 44 44 rfl 5 Tryz.underlying44 (by kernel_rfl) (some ⟨w.heap.size + 1, 0, none⟩) a1 9 9 9 c1 (by rfl) (by rfl) (w.heap.size + 1) 0 [.int .u8 0, .int .u8 0, .int .u8 0, .int .u8 0, .int .u8 0, .int .u8 0, .int .u8 0, .int .u8 0, .int .u8 0] 83 (HB.out v1 BT.out).1 [.int .u8 x0, .int .u8 x1, .int .u8 x2, .int .u8 x3, .int .u8 x4, .int .u8 x5, .int .u8 x6, .int .u8 x7, .int .u8 x8] (by rfl) CP.out (by simp) (by simp [Value.oneCell']) (w.heap.size + 1) v1 (Below.refl _ _) (Nat.le_refl _) ?_; intro w4 hg4 hb4; have B4 : Hid (Below (w.heap.size + 1) v1 w4) := hb4; have G4 : Hid (w4.heap[w.heap.size + 1]? = some (.cells #[.int .u8 x0, .int .u8 x1, .int .u8 x2, .int .u8 x3, .int .u8 x4, .int .u8 x5, .int .u8 x6, .int .u8 x7, .int .u8 x8] 83 (0, 0))) := hg4.out; clear hg4 hb4)
    | (go_simp; go_at_call 77; refine (takeK_any g l false 9 9 9 rfl (by unfold maxLen; omega) GL.out _ (HR.out.keep (below_then U0.out ((Below.refl u0.heap.size u0).drew)))).mono ?_; rintro e v1 ⟨a1, c1, rfl, hL1, hr1, hb1⟩; have BT : Hid (But g u0 v1) := (But.of_below ((Below.refl u0.heap.size u0).drew) hgu).trans hb1; have RT : Hid (Rdr v1 g (Sl.rest l 9) (Sl.lack l 9 false)) := hr1; have CP : Hid (0 < ([.int .u8 x0, .int .u8 x1, .int .u8 x2, .int .u8 x3, .int .u8 x4, .int .u8 x5, .int .u8 x6, .int .u8 x7, .int .u8 x8] : List Value).length → (some ⟨w.heap.size + 1, 0, none⟩ : Option Addr) = some ⟨w.heap.size + 1, 0, none⟩ ∧ ∃ ad, a1 = some ad ∧ ∀ (j : Nat) (v : Value), ([.int .u8 x0, .int .u8 x1, .int .u8 x2, .int .u8 x3, .int .u8 x4, .int .u8 x5, .int .u8 x6, .int .u8 x7, .int .u8 x8] : List Value)[j]? = some v → v1.cell? (ad.add j) = some v) := (fun _ => ⟨rfl, lst_src (m := [x0, x1, x2, x3, x4, x5, x6, x7, x8]) (by rw [← GE.out]; exact hL1) (by simp)⟩); clear hL1 hr1 hb1))
  all_goals
    have R4 : Hid (Rdr w4 g r false) := by rw [← RE.out]; have := RT.out.under (by omega) B4.out; rw [LK.out] at this; exact this
    have BW : Hid (But g w w4) := (HB.out v1 BT.out).2.2.under B4.out (by omega) hgw
    have Z4 : Hid (w4.heap[w.heap.size]? = some (.cells #[.int .i64 0, .int .i64 0, .int .i64 0, .int .i64 0, .int .i64 0, .int .i64 0, .int .i64 0] 23 (0, 0))) := by rw [← (HB.out v1 BT.out).2.1]; exact B4.out.block _ (by omega)
    have hs4 : w.heap.size + 1 < w4.heap.size := by
      have := G4.out
      exact (Array.getElem?_eq_some_iff.1 this).1
    have zf : ∀ (v : World), v.heap[w.heap.size]? = w4.heap[w.heap.size]? → (∀ i x, (#[.int .i64 0, .int .i64 0, .int .i64 0, .int .i64 0, .int .i64 0, .int .i64 0, .int .i64 0] : Array Value)[i]? = some x → v.cell? ⟨w.heap.size, i, none⟩ = some x) ∧ ∀ i, v.frozen? ⟨w.heap.size, i, none⟩ = false := fun v hv =>
      ⟨fun i x hx => by rw [cell_of_row _ _ _ _ _ _ (hv.trans Z4.out)]; exact hx, fun i => (World.rowIs.frozen (n := 7) (f := fun _ => .int .i64 0) ⟨_, hv.trans Z4.out, rfl, fun i hi => by match i, hi with | 0, _ => rfl | 1, _ => rfl | 2, _ => rfl | 3, _ => rfl | 4, _ => rfl | 5, _ => rfl | 6, _ => rfl⟩ i)⟩
    have ZF : Hid (∀ (v : World), v.heap[w.heap.size]? = w4.heap[w.heap.size]? → (∀ i x, (#[.int .i64 0, .int .i64 0, .int .i64 0, .int .i64 0, .int .i64 0, .int .i64 0, .int .i64 0] : Array Value)[i]? = some x → v.cell? ⟨w.heap.size, i, none⟩ = some x) ∧ ∀ i, v.frozen? ⟨w.heap.size, i, none⟩ = false) := zf
    have a : ∀ i x, (#[.int .u8 x0, .int .u8 x1, .int .u8 x2, .int .u8 x3, .int .u8 x4, .int .u8 x5, .int .u8 x6, .int .u8 x7, .int .u8 x8] : Array Value)[i]? = some x → w4.cell? ⟨w.heap.size + 1, i, none⟩ = some x := fun i x hx => by rw [cell_of_row _ _ _ _ _ _ G4.out]; exact hx
    have a0 := a 0 _ rfl
    have a1 := a 1 _ rfl
    have a2 := a 2 _ rfl
    have a3 := a 3 _ rfl
    have a4 := a 4 _ rfl
    have a5 := a 5 _ rfl
    have a6 := a 6 _ rfl
    have a7 := a 7 _ rfl
    have a8 := a 8 _ rfl
    clear a zf
    have SH : Hid (∀ v, Rdr v g r false → Calls Tryz.prog 78 #[.pointer (some ⟨g, 0, none⟩)] v fun e w' => e = .returned (.bool false) ∧ w' = v) := fun v hv => short_any g r false v hv
    go_wp2_with (go_at_call 78; refine (SH.out _ R4.out).mono ?_; rintro e w' ⟨rfl, hw⟩; cases hw.symm; clear hw)
    refine (rightP_any _ _ _ _ _ _ _ false EQ.out _).mono ?_
    rintro e v5 ⟨rfl, hb5⟩
    have W5 : Below w4.heap.size w4 v5 := below_then (box_below _ _) hb5
    have BW5 : Hid (But g w v5) := BW.out.below W5 (by omega)
    have R5 : Hid (Rdr v5 g r false) := R4.out.keep W5
    obtain ⟨z, fz⟩ := ZF.out v5 (W5.block _ (by omega))
    have z0 := z 0 _ rfl
    have z1 := z 1 _ rfl
    have z2 := z 2 _ rfl
    have z3 := z 3 _ rfl
    have z4 := z 4 _ rfl
    have z5 := z 5 _ rfl
    have z6 := z 6 _ rfl
    obtain ⟨y0, y1, y2, y3, y4, y5, y6⟩ := hd_box hb5
    clear z hb5 W5 a0 a1 a2 a3 a4 a5 a6 a7 a8
    go_wp2
    exact bodyPost_ret (v := .tuple #[.agg #[.int .i64 0, .int .i64 0, .int .i64 0, .int .i64 0, .int .i64 0, .int .i64 0, .int .i64 0], .int .i64 11]) (by simp [results, Tryz.results48, go_sem, z0, z1, z2, z3, z4, z5, z6]) rfl ⟨rfl, ((((((BW5.out.new (Nat.le_refl _) hgw 0 _).new (Nat.le_refl _) hgw 1 _).new (Nat.le_refl _) hgw 2 _).new (Nat.le_refl _) hgw 3 _).new (Nat.le_refl _) hgw 4 _).new (Nat.le_refl _) hgw 5 _).new (Nat.le_refl _) hgw 6 _⟩

set_option maxRecDepth 100000 in
set_option maxHeartbeats 3200000 in
theorem headRead_ok (g : Nat) (x0 x1 x2 x3 x4 x5 x6 x7 x8 y : Int) (r : List Int) (w : World) (h : Rdr w g (x0 :: x1 :: x2 :: x3 :: x4 :: x5 :: x6 :: x7 :: x8 :: r) false) (h0 : x0 = 75) (hy : x7 * 256 + x8 = y) (hq : Pg.rightH [x1, x2, x3, x4, x5, x6, y] = true) :
    Calls Tryz.prog 48 #[.pointer (some ⟨g, 0, none⟩)] w fun e w' => e = .returned (.tuple #[.agg #[.int .i64 x1, .int .i64 x2, .int .i64 x3, .int .i64 x4, .int .i64 x5, .int .i64 x6, .int .i64 y], .int .i64 0]) ∧ But g w w' ∧ Rdr w' g r false := by
  have hgw := h.lt
  obtain ⟨l, el⟩ : ∃ l, (x0 :: x1 :: x2 :: x3 :: x4 :: x5 :: x6 :: x7 :: x8 :: r) = l := ⟨_, rfl⟩
  have hlen : 9 ≤ l.length := by rw [← el]; simp
  have GE : Hid (Sl.got l 9 = [x0, x1, x2, x3, x4, x5, x6, x7, x8]) := by show _ = _; rw [Sl.got_yes hlen, ← el]; rfl
  have GL : Hid ((Sl.got l 9).length = 9) := by show _ = _; rw [GE.out]; rfl
  have RE : Hid (Sl.rest l 9 = r) := by show _ = _; rw [Sl.rest_yes hlen, ← el]; rfl
  have LK : Hid (Sl.lack l 9 false = false) := Sl.lack_yes hlen
  have byt := h.byt
  have bb : ∀ i, 0 ≤ Ls.nth (x0 :: x1 :: x2 :: x3 :: x4 :: x5 :: x6 :: x7 :: x8 :: r) i ∧ Ls.nth (x0 :: x1 :: x2 :: x3 :: x4 :: x5 :: x6 :: x7 :: x8 :: r) i < 256 := byt
  have b0 : 0 ≤ x0 ∧ x0 < 256 := bb 0
  have b1 : 0 ≤ x1 ∧ x1 < 256 := bb 1
  have b2 : 0 ≤ x2 ∧ x2 < 256 := bb 2
  have b3 : 0 ≤ x3 ∧ x3 < 256 := bb 3
  have b4 : 0 ≤ x4 ∧ x4 < 256 := bb 4
  have b5 : 0 ≤ x5 ∧ x5 < 256 := bb 5
  have b6 : 0 ≤ x6 ∧ x6 < 256 := bb 6
  have b7 : 0 ≤ x7 ∧ x7 < 256 := bb 7
  have b8 : 0 ≤ x8 ∧ x8 < 256 := bb 8
  rw [el] at h
  have HR : Hid (Rdr w g l false) := h
  clear h byt bb el
  have t0 : (x0 != 75) = false := by simp [h0]
  have EQ : Hid (Pg.rightH [x1, x2, x3, x4, x5, x6, y] = true) := hq
  have eor : bits .or .i64 (x7 * 256) x8 = y := by
    obtain ⟨n7, e7⟩ := Int.eq_ofNat_of_zero_le b7.1
    have := or_low64 (n := n7) (x := x8) (by omega) b8.1 b8.2
    rw [e7, this, ← hy, e7]
    omega
  clear hq h0 hy
  go_enter Tryz.func48, Tryz.ntmps48
  go_wp2
  obtain ⟨u0, hu0⟩ : ∃ u, ((w.alloc (.cells #[.int .i64 0, .int .i64 0, .int .i64 0, .int .i64 0, .int .i64 0, .int .i64 0, .int .i64 0] 23)).alloc (.cells #[.int .u8 0, .int .u8 0, .int .u8 0, .int .u8 0, .int .u8 0, .int .u8 0, .int .u8 0, .int .u8 0, .int .u8 0] 83)) = u := ⟨_, rfl⟩
  have U0 : Hid (Below w.heap.size w u0) := by rw [← hu0]; exact two_boxes _ _ _
  have HB : Hid (∀ v, But g u0 v → v.heap[w.heap.size + 1]? = some (.cells #[.int .u8 0, .int .u8 0, .int .u8 0, .int .u8 0, .int .u8 0, .int .u8 0, .int .u8 0, .int .u8 0, .int .u8 0] 83 (0, 0)) ∧ v.heap[w.heap.size]? = some (.cells #[.int .i64 0, .int .i64 0, .int .i64 0, .int .i64 0, .int .i64 0, .int .i64 0, .int .i64 0] 23 (0, 0)) ∧ But g w v) := by rw [← hu0]; exact fun v hb => heads_boxes hb hgw
  have hgu : g < u0.heap.size := by have := U0.out.size; omega
  rw [hu0]
  clear hu0
  go_region_law (first
    | (refine step_copy_splice rfl (.tmp 6) (.tmp 8) 44 44 rfl 5 Tryz.underlying44 (by kernel_rfl) (some ⟨w.heap.size + 1, 0, none⟩) a1 9 9 9 c1 (by rfl) (by rfl) (w.heap.size + 1) 0 [.int .u8 0, .int .u8 0, .int .u8 0, .int .u8 0, .int .u8 0, .int .u8 0, .int .u8 0, .int .u8 0, .int .u8 0] 83 (HB.out v1 BT.out).1 [.int .u8 x0, .int .u8 x1, .int .u8 x2, .int .u8 x3, .int .u8 x4, .int .u8 x5, .int .u8 x6, .int .u8 x7, .int .u8 x8] (by rfl) CP.out (by simp) (by simp [Value.oneCell']) (w.heap.size + 1) v1 (Below.refl _ _) (Nat.le_refl _) ?_; intro w4 hg4 hb4; have B4 : Hid (Below (w.heap.size + 1) v1 w4) := hb4; have G4 : Hid (w4.heap[w.heap.size + 1]? = some (.cells #[.int .u8 x0, .int .u8 x1, .int .u8 x2, .int .u8 x3, .int .u8 x4, .int .u8 x5, .int .u8 x6, .int .u8 x7, .int .u8 x8] 83 (0, 0))) := hg4.out; clear hg4 hb4)
    | (go_simp; go_at_call 77; refine (takeK_any g l false 9 9 9 rfl (by unfold maxLen; omega) GL.out _ (HR.out.keep (below_then U0.out ((Below.refl u0.heap.size u0).drew)))).mono ?_; rintro e v1 ⟨a1, c1, rfl, hL1, hr1, hb1⟩; have BT : Hid (But g u0 v1) := (But.of_below ((Below.refl u0.heap.size u0).drew) hgu).trans hb1; have RT : Hid (Rdr v1 g (Sl.rest l 9) (Sl.lack l 9 false)) := hr1; have CP : Hid (0 < ([.int .u8 x0, .int .u8 x1, .int .u8 x2, .int .u8 x3, .int .u8 x4, .int .u8 x5, .int .u8 x6, .int .u8 x7, .int .u8 x8] : List Value).length → (some ⟨w.heap.size + 1, 0, none⟩ : Option Addr) = some ⟨w.heap.size + 1, 0, none⟩ ∧ ∃ ad, a1 = some ad ∧ ∀ (j : Nat) (v : Value), ([.int .u8 x0, .int .u8 x1, .int .u8 x2, .int .u8 x3, .int .u8 x4, .int .u8 x5, .int .u8 x6, .int .u8 x7, .int .u8 x8] : List Value)[j]? = some v → v1.cell? (ad.add j) = some v) := (fun _ => ⟨rfl, lst_src (m := [x0, x1, x2, x3, x4, x5, x6, x7, x8]) (by rw [← GE.out]; exact hL1) (by simp)⟩); clear hL1 hr1 hb1))
  all_goals
    have R4 : Hid (Rdr w4 g r false) := by rw [← RE.out]; have := RT.out.under (by omega) B4.out; rw [LK.out] at this; exact this
    have BW : Hid (But g w w4) := (HB.out v1 BT.out).2.2.under B4.out (by omega) hgw
    have Z4 : Hid (w4.heap[w.heap.size]? = some (.cells #[.int .i64 0, .int .i64 0, .int .i64 0, .int .i64 0, .int .i64 0, .int .i64 0, .int .i64 0] 23 (0, 0))) := by rw [← (HB.out v1 BT.out).2.1]; exact B4.out.block _ (by omega)
    have hs4 : w.heap.size + 1 < w4.heap.size := by
      have := G4.out
      exact (Array.getElem?_eq_some_iff.1 this).1
    have zf : ∀ (v : World), v.heap[w.heap.size]? = w4.heap[w.heap.size]? → (∀ i x, (#[.int .i64 0, .int .i64 0, .int .i64 0, .int .i64 0, .int .i64 0, .int .i64 0, .int .i64 0] : Array Value)[i]? = some x → v.cell? ⟨w.heap.size, i, none⟩ = some x) ∧ ∀ i, v.frozen? ⟨w.heap.size, i, none⟩ = false := fun v hv =>
      ⟨fun i x hx => by rw [cell_of_row _ _ _ _ _ _ (hv.trans Z4.out)]; exact hx, fun i => (World.rowIs.frozen (n := 7) (f := fun _ => .int .i64 0) ⟨_, hv.trans Z4.out, rfl, fun i hi => by match i, hi with | 0, _ => rfl | 1, _ => rfl | 2, _ => rfl | 3, _ => rfl | 4, _ => rfl | 5, _ => rfl | 6, _ => rfl⟩ i)⟩
    have ZF : Hid (∀ (v : World), v.heap[w.heap.size]? = w4.heap[w.heap.size]? → (∀ i x, (#[.int .i64 0, .int .i64 0, .int .i64 0, .int .i64 0, .int .i64 0, .int .i64 0, .int .i64 0] : Array Value)[i]? = some x → v.cell? ⟨w.heap.size, i, none⟩ = some x) ∧ ∀ i, v.frozen? ⟨w.heap.size, i, none⟩ = false) := zf
    have a : ∀ i x, (#[.int .u8 x0, .int .u8 x1, .int .u8 x2, .int .u8 x3, .int .u8 x4, .int .u8 x5, .int .u8 x6, .int .u8 x7, .int .u8 x8] : Array Value)[i]? = some x → w4.cell? ⟨w.heap.size + 1, i, none⟩ = some x := fun i x hx => by rw [cell_of_row _ _ _ _ _ _ G4.out]; exact hx
    have a0 := a 0 _ rfl
    have a1 := a 1 _ rfl
    have a2 := a 2 _ rfl
    have a3 := a 3 _ rfl
    have a4 := a 4 _ rfl
    have a5 := a 5 _ rfl
    have a6 := a 6 _ rfl
    have a7 := a 7 _ rfl
    have a8 := a 8 _ rfl
    clear a zf
    have SH : Hid (∀ v, Rdr v g r false → Calls Tryz.prog 78 #[.pointer (some ⟨g, 0, none⟩)] v fun e w' => e = .returned (.bool false) ∧ w' = v) := fun v hv => short_any g r false v hv
    go_wp2_with (go_at_call 78; refine (SH.out _ R4.out).mono ?_; rintro e w' ⟨rfl, hw⟩; cases hw.symm; clear hw)
    refine (rightP_any _ _ _ _ _ _ _ true EQ.out _).mono ?_
    rintro e v5 ⟨rfl, hb5⟩
    have W5 : Below w4.heap.size w4 v5 := below_then (box_below _ _) hb5
    have BW5 : Hid (But g w v5) := BW.out.below W5 (by omega)
    have R5 : Hid (Rdr v5 g r false) := R4.out.keep W5
    obtain ⟨z, fz⟩ := ZF.out v5 (W5.block _ (by omega))
    have z0 := z 0 _ rfl
    have z1 := z 1 _ rfl
    have z2 := z 2 _ rfl
    have z3 := z 3 _ rfl
    have z4 := z 4 _ rfl
    have z5 := z 5 _ rfl
    have z6 := z 6 _ rfl
    obtain ⟨y0, y1, y2, y3, y4, y5, y6⟩ := hd_box hb5
    clear z hb5 W5 a0 a1 a2 a3 a4 a5 a6 a7 a8
    go_wp2
    exact bodyPost_ret (v := .tuple #[.agg #[.int .i64 x1, .int .i64 x2, .int .i64 x3, .int .i64 x4, .int .i64 x5, .int .i64 x6, .int .i64 y], .int .i64 0]) (by simp [results, Tryz.results48, go_sem, z0, z1, z2, z3, z4, z5, z6]) rfl ⟨rfl, ((((((BW5.out.new (Nat.le_refl _) hgw 0 _).new (Nat.le_refl _) hgw 1 _).new (Nat.le_refl _) hgw 2 _).new (Nat.le_refl _) hgw 3 _).new (Nat.le_refl _) hgw 4 _).new (Nat.le_refl _) hgw 5 _).new (Nat.le_refl _) hgw 6 _, R5.out.under hgw ((((((((Below.refl w.heap.size v5).setCell (p := ⟨w.heap.size, 0, none⟩) (Nat.le_refl _) _).setCell (p := ⟨w.heap.size, 1, none⟩) (Nat.le_refl _) _).setCell (p := ⟨w.heap.size, 2, none⟩) (Nat.le_refl _) _).setCell (p := ⟨w.heap.size, 3, none⟩) (Nat.le_refl _) _).setCell (p := ⟨w.heap.size, 4, none⟩) (Nat.le_refl _) _).setCell (p := ⟨w.heap.size, 5, none⟩) (Nat.le_refl _) _).setCell (p := ⟨w.heap.size, 6, none⟩) (Nat.le_refl _) _)⟩

end Go.Proofs.YtimkfkolkplpdaaGreat
/- Contracts of package page: one group is read. -/
namespace Go.Proofs.YtimkfkolkplpdaaGreat
set_option linter.unusedVariables false
open Go.RowKit
attribute [local go_sem ↓] Go.wp_at_zero Go.wp_at_succ

/-- The four cells of a packed group. -/
def pk4 (z sc : Int) (v : Value) (i : Nat) : Value := if i = 0 then .int .i32 z else if i = 1 then .int .u32 sc else if i = 2 then .slice none 0 0 else v
theorem pk4_set0 (z sc y : Int) (v : Value) (j : Nat) : (if j = 0 then Value.int .i32 y else pk4 z sc v j) = pk4 y sc v j := by
  unfold pk4
  split <;> rfl
theorem pk4_set1 (z sc y : Int) (v : Value) (j : Nat) : (if j = 1 then Value.int .u32 y else pk4 z sc v j) = pk4 z y v j := by
  unfold pk4
  by_cases h : j = 1
  · subst h; rfl
  · rw [if_neg h, if_neg h, if_neg h]
theorem pk4_set3 (z sc : Int) (v y : Value) (j : Nat) (hj : j < 4) : (if j = 3 then y else pk4 z sc v j) = pk4 z sc y j := by
  unfold pk4
  match j, hj with
  | 0, _ => rfl
  | 1, _ => rfl
  | 2, _ => rfl
  | 3, _ => rfl
/-- WHILE ONE GROUP IS READ: the result's cells at A, the variable's at G, the reader at g. -/
def RdSt (w0 w : World) (g A G : Nat) (z sc : Int) (v : Value) (l : List Int) : Prop :=
  w.rowIs A 87 4 (pk4 0 0 (.slice none 0 0)) ∧ w.rowIs G 87 4 (pk4 z sc v) ∧ Rdr w g l false ∧ But g w0 w ∧ g < w0.heap.size ∧ w0.heap.size ≤ A ∧ A < G
theorem RdSt.but {w0 w w' : World} {g A G : Nat} {z sc : Int} {v : Value} {l l' : List Int} (h : RdSt w0 w g A G z sc v l) (hb : But g w w') (hr : Rdr w' g l' false) : RdSt w0 w' g A G z sc v l' := by
  obtain ⟨h1, h2, h3, h4, h5, h6, h7⟩ := h
  exact ⟨hb.row h1 (by omega), hb.row h2 (by omega), hr, h4.trans hb, h5, h6, h7⟩
theorem RdSt.keep {w0 w w' : World} {g A G : Nat} {z sc : Int} {v : Value} {l : List Int} (h : RdSt w0 w g A G z sc v l) (hb : Below w.heap.size w w') : RdSt w0 w' g A G z sc v l := by
  obtain ⟨h1, h2, h3, h4, h5, h6, h7⟩ := h
  exact ⟨row_keep h1 hb, row_keep h2 hb, h3.keep hb, h4.below hb h3.lt, h5, h6, h7⟩
theorem RdSt.other {w0 w : World} {g A G : Nat} {z sc : Int} {v : Value} {l : List Int} (h : RdSt w0 w g A G z sc v l) {R : Nat} (hR : w0.heap.size ≤ R) (hA : ¬ R = A) (hG : ¬ R = G) (o : Nat) (y : Value) : RdSt w0 (w.setCell ⟨R, o, none⟩ y) g A G z sc v l := by
  obtain ⟨h1, h2, h3, h4, h5, h6, h7⟩ := h
  exact ⟨h1.setOther (by show A ≠ R; omega) _, h2.setOther (by show G ≠ R; omega) _, h3.under (B := R) (by omega) ((Below.refl _ _).setCell (p := ⟨R, o, none⟩) (Nat.le_refl _) _), h4.new hR h5 o y, h5, h6, h7⟩
theorem RdSt.own {w0 w : World} {g A G : Nat} {z sc z' sc' : Int} {v v' : Value} {l : List Int} (h : RdSt w0 w g A G z sc v l) (o : Nat) (y : Value) (he : ∀ j, j < 4 → (if j = o then y else pk4 z sc v j) = pk4 z' sc' v' j) : RdSt w0 (w.setCell ⟨G, o, none⟩ y) g A G z' sc' v' l := by
  obtain ⟨h1, h2, h3, h4, h5, h6, h7⟩ := h
  exact ⟨h1.setOther (by show A ≠ G; omega) _, (h2.set o y).congr he, h3.under (B := G) (by omega) ((Below.refl _ _).setCell (p := ⟨G, o, none⟩) (Nat.le_refl _) _), h4.new (by omega) h5 o y, h5, h6, h7⟩
theorem RdSt.size {w0 w : World} {g A G : Nat} {z sc : Int} {v : Value} {l : List Int} (h : RdSt w0 w g A G z sc v l) : G < w.heap.size ∧ w0.heap.size ≤ w.heap.size := ⟨h.2.1.lt, h.2.2.2.1.size⟩
theorem RdSt.gcells {w0 w : World} {g A G : Nat} {z sc : Int} {v : Value} {l : List Int} (h : RdSt w0 w g A G z sc v l) : w.cell? ⟨G, 0, none⟩ = some (.int .i32 z) ∧ w.cell? ⟨G, 1, none⟩ = some (.int .u32 sc) ∧ w.cell? ⟨G, 2, none⟩ = some (.slice none 0 0) ∧ w.cell? ⟨G, 3, none⟩ = some v ∧ ∀ i, w.frozen? ⟨G, i, none⟩ = false :=
  ⟨h.2.1.cell (i := 0) (by decide), h.2.1.cell (i := 1) (by decide), h.2.1.cell (i := 2) (by decide), h.2.1.cell (i := 3) (by decide), fun i => h.2.1.frozen i⟩
theorem RdSt.acells {w0 w : World} {g A G : Nat} {z sc : Int} {v : Value} {l : List Int} (h : RdSt w0 w g A G z sc v l) : w.cell? ⟨A, 0, none⟩ = some (.int .i32 0) ∧ w.cell? ⟨A, 1, none⟩ = some (.int .u32 0) ∧ w.cell? ⟨A, 2, none⟩ = some (.slice none 0 0) ∧ w.cell? ⟨A, 3, none⟩ = some (.slice none 0 0) ∧ ∀ i, w.frozen? ⟨A, i, none⟩ = false :=
  ⟨h.1.cell (i := 0) (by decide), h.1.cell (i := 1) (by decide), h.1.cell (i := 2) (by decide), h.1.cell (i := 3) (by decide), fun i => h.1.frozen i⟩
/-- The result's cells are written: what stands. -/
theorem RdSt.last {w0 w : World} {g A G : Nat} {z sc : Int} {v : Value} {l : List Int} (h : RdSt w0 w g A G z sc v l) (y0 y1 y2 y3 : Value) :
    But g w0 ((((w.setCell ⟨A, 0, none⟩ y0).setCell ⟨A, 1, none⟩ y1).setCell ⟨A, 2, none⟩ y2).setCell ⟨A, 3, none⟩ y3) ∧ Rdr ((((w.setCell ⟨A, 0, none⟩ y0).setCell ⟨A, 1, none⟩ y1).setCell ⟨A, 2, none⟩ y2).setCell ⟨A, 3, none⟩ y3) g l false ∧ Below A w ((((w.setCell ⟨A, 0, none⟩ y0).setCell ⟨A, 1, none⟩ y1).setCell ⟨A, 2, none⟩ y2).setCell ⟨A, 3, none⟩ y3) := by
  obtain ⟨h1, h2, h3, h4, h5, h6, h7⟩ := h
  have hb : Below A w ((((w.setCell ⟨A, 0, none⟩ y0).setCell ⟨A, 1, none⟩ y1).setCell ⟨A, 2, none⟩ y2).setCell ⟨A, 3, none⟩ y3) := ((((Below.refl A w).setCell (p := ⟨A, 0, none⟩) (Nat.le_refl _) _).setCell (p := ⟨A, 1, none⟩) (Nat.le_refl _) _).setCell (p := ⟨A, 2, none⟩) (Nat.le_refl _) _).setCell (p := ⟨A, 3, none⟩) (Nat.le_refl _) _
  exact ⟨(((h4.new h6 h5 0 _).new h6 h5 1 _).new h6 h5 2 _).new h6 h5 3 _, h3.under (by omega) hb, hb⟩
theorem Pg.got_drop {l : List Int} {t k : Nat} (h : t + k ≤ l.length) : Sl.got (l.drop t) k = (l.drop t).take k ∧ Sl.rest (l.drop t) k = l.drop (t + k) ∧ Sl.lack (l.drop t) k false = false := by
  have hl : k ≤ (l.drop t).length := by simp; omega
  exact ⟨Sl.got_yes hl, by rw [Sl.rest_yes hl, List.drop_drop], Sl.lack_yes hl⟩
theorem Pg.words_len (N : Nat) (l : List Int) : (Pg.words N l).length = N := Pg.words_length N l

theorem unpack_formm (a : Option Addr) (m c n b : Nat) (ws : List Int) (h : Pk.Ok b) (hn : n ≤ 256) (w : World) (hm : ws.length = m) (ha : Lst .u64 w a ws) (hw : Pk.Wds ws) (hl : ws.length = Pk.size b n) (hs : Pk.stray b n ws = true) :
    Calls Tryz.prog 94 #[.slice a m c, .int .i64 n, .int .i64 b] w fun e w' => e = .returned (.tuple #[.slice none 0 0, .int .i64 10]) ∧ Below w.heap.size w w' := by
  subst hm
  exact unpack_form a c n b ws h hn w ha hw hl hs
theorem unpack_okm (a : Option Addr) (m c n b : Nat) (ws : List Int) (h : Pk.Ok b) (hn : n ≤ 256) (w : World) (hm : ws.length = m) (ha : Lst .u64 w a ws) (hw : Pk.Wds ws) (hl : ws.length = Pk.size b n) (hs : Pk.stray b n ws = false) :
    Calls Tryz.prog 94 #[.slice a m c, .int .i64 n, .int .i64 b] w fun e w' => ∃ g, e = .returned (.tuple #[.slice (some ⟨g, 0, none⟩) n n, .int .i64 0]) ∧ w.heap.size ≤ g ∧ Lst .i64 w' (some ⟨g, 0, none⟩) (Pk.unpack b n ws) ∧ Below w.heap.size w w' := by
  subst hm
  exact unpack_ok a c n b ws h hn w ha hw hl hs
theorem rightGm (z sc : Int) (a : Option Addr) (m cp b s : Nat) (c : List Int) (e : Int) (w : World) (hm : c.length = m) (ha : Lst .i64 w a c) (hst : Gp.St b s) (h0 : 0 < m) (hl : m ≤ 256) (hs1 : 0 ≤ sc) (hs2 : sc ≤ 4294967295) (he : Gp.right s sc c = e) :
    Calls Tryz.prog 61 #[.agg #[.int .i32 z, .int .u32 sc, .slice a m cp], .int .i64 b] w fun r w' => r = .returned (.int .i64 e) ∧ Below w.heap.size w w' := by
  subst hm
  exact right_any z sc a cp b s c e w ha hst h0 hl hs1 hs2 he

set_option maxRecDepth 100000 in
set_option maxHeartbeats 3200000 in
theorem readOne_any (g b s n : Nat) (l : List Int) (N : Nat) (x : Int × Int × List Int) (e : Int) (w : World) (h : Rdr w g l false) (hst : Gp.St b s) (h1 : 1 ≤ n) (h2 : n ≤ 256) (hl : Pg.gsize b n ≤ l.length) (hN : Pk.size b n = N) (hx : Pg.gread b n l = x) (he : Pg.gerr b n l = e) :
    Calls Tryz.prog 79 #[.pointer (some ⟨g, 0, none⟩), .int .i64 n, .int .i64 b] w fun r w' => But g w w' ∧ (¬ e = 0 → r = .returned (.tuple #[.agg #[.int .i32 0, .int .u32 0, .slice none 0 0, .slice none 0 0], .int .i64 e])) ∧
      (e = 0 → ∃ R, r = .returned (.tuple #[.agg #[.int .i32 (Pg.gz x), .int .u32 (Pg.gs x), .slice none 0 0, .slice (some ⟨R, 0, none⟩) N N], .int .i64 0]) ∧ w.heap.size ≤ R ∧ Lst .u64 w' (some ⟨R, 0, none⟩) (Pk.pack b (Pg.gc x)) ∧ Rdr w' g (l.drop (8 + 8 * N)) false) := by
  have hgw := h.lt
  have byt := h.byt
  have hb : Pk.Ok b := St.ok hst
  have hN32 : N ≤ 32 := by rw [← hN]; exact Pk.size_le hb h2
  have hl8 : 8 + 8 * N ≤ l.length := by rw [← hN]; exact hl
  obtain ⟨z, ez⟩ : ∃ z, Sl.sgn (Sl.num (l.take 4)) = z := ⟨_, rfl⟩
  obtain ⟨sc, es⟩ : ∃ q : Nat, Sl.num ((l.drop 4).take 4) = q := ⟨_, rfl⟩
  obtain ⟨ws, ew⟩ : ∃ ws, Pg.words N (l.drop 8) = ws := ⟨_, rfl⟩
  have scb : sc < 4294967296 := by rw [← es]; exact Pg.num4_lt (Pg.byt_take (Pg.byt_drop byt 4) 4) (by simp; omega)
  have WL : Hid (ws.length = N) := by rw [← ew]; exact Pg.words_len _ _
  have WD : Hid (Pk.Wds ws) := by rw [← ew]; exact Pg.words_wds (Pg.byt_drop byt 8) (by simp; omega)
  have X0 : Hid (Pg.gz x = z) := by show _ = _; rw [← hx, ← ez]; rfl
  have X1 : Hid (Pg.gs x = (sc : Int)) := by show _ = _; rw [← hx, ← es]; rfl
  have X2 : Hid (Pg.gc x = Pk.unpack b n ws) := by show _ = _; rw [← hx, ← ew, ← hN]; rfl
  have HE : Hid ((if Pk.stray b n ws = true then 10 else Gp.right (s : Int) (sc : Int) (Pk.unpack b n ws)) = e) := by
    show _ = _
    rw [← he, ← ew, ← hN, ← es]
    unfold Pg.gerr
    rw [Pg.st_pow hst]
    rfl
  have HR : Hid (Rdr w g l false) := h
  have ST : Hid (Gp.St b s) := hst
  have OK : Hid (Pk.Ok b) := hb
  have EZ : Hid (Sl.sgn (Sl.num (l.take 4)) = z) := ez
  have ES : Hid (Sl.num ((l.drop 4).take 4) = sc) := es
  have EW : Hid (∀ k, k < N → ∃ v : Nat, Sl.num ((l.drop (8 + 8 * k)).take 8) = v ∧ Ls.nth ws k = (v : Int)) := fun k hk => by
    refine ⟨_, rfl, ?_⟩
    rw [← ew, Pg.nth_words hk]
    unfold Pg.piece
    rw [List.drop_drop]
  have EN : Hid (Pk.size b n = N) := hN
  have hl0 := HR.out.len
  have hc32 : IntKind.u32.wrap (sc : Int) = (sc : Int) := by rw [IntKind.wrap_u32]; omega
  clear h byt hst hb hN hx he ez es ew hl
  have hmk := run_make_row' (P := Tryz.prog) 85 99 (.int .u64 0) 8 Tryz.underlying85 Tryz.infoU64 rfl .i64 .i64 N (by omega) (by omega)
  go_enter Tryz.func79, Tryz.ntmps79
  go_wp2_with fail
  obtain ⟨u0, hu0⟩ : ∃ u, ((w.alloc (.cells #[.int .i32 0, .int .u32 0, .slice none 0 0, .slice none 0 0] 87)).alloc (.cells #[.int .i32 0, .int .u32 0, .slice none 0 0, .slice none 0 0] 87)) = u := ⟨_, rfl⟩
  have S0 : Hid (RdSt w u0 g w.heap.size (w.heap.size + 1) 0 0 (.slice none 0 0) l) := by
    rw [← hu0]
    have hr0 := World.rowIs_alloc w #[.int .i32 0, .int .u32 0, .slice none 0 0, .slice none 0 0] 87 (pk4 0 0 (.slice none 0 0)) (fun i hi => by match i, hi with | 0, _ => rfl | 1, _ => rfl | 2, _ => rfl | 3, _ => rfl)
    have hr1 := World.rowIs_alloc (w.alloc (.cells #[.int .i32 0, .int .u32 0, .slice none 0 0, .slice none 0 0] 87)) #[.int .i32 0, .int .u32 0, .slice none 0 0, .slice none 0 0] 87 (pk4 0 0 (.slice none 0 0)) (fun i hi => by match i, hi with | 0, _ => rfl | 1, _ => rfl | 2, _ => rfl | 3, _ => rfl)
    rw [show (w.alloc (.cells #[.int .i32 0, .int .u32 0, .slice none 0 0, .slice none 0 0] 87)).heap.size = w.heap.size + 1 by simp] at hr1
    exact ⟨hr0.alloc _, hr1, HR.out.keep (two_boxes _ _ _), But.of_below (two_boxes _ _ _) hgw, hgw, Nat.le_refl _, by omega⟩
  rw [hu0]
  clear hu0
  obtain ⟨q1, q2, q3⟩ := Pg.got_drop (l := l) (t := 0) (k := 4) (by omega)
  rw [List.drop_zero] at q1 q2 q3
  refine (signedK_any g l false z (by rw [q1]; exact EZ.out) _ S0.out.2.2.1).mono ?_
  rintro r v1 ⟨rfl, hr, hb⟩
  rw [q2, q3] at hr
  have S1 : Hid (RdSt w v1 g w.heap.size (w.heap.size + 1) 0 0 (.slice none 0 0) (l.drop 4)) := S0.out.but hb hr
  obtain ⟨y0, y1, y2, y3, yf⟩ := S1.out.gcells
  have S1' : Hid (RdSt w (v1.setCell ⟨w.heap.size + 1, 0, none⟩ (.int .i32 z)) g w.heap.size (w.heap.size + 1) z 0 (.slice none 0 0) (l.drop 4)) := S1.out.own 0 _ (fun j _ => pk4_set0 0 0 z _ j)
  clear q1 q2 q3 hr hb
  go_wp2_with fail
  obtain ⟨q1, q2, q3⟩ := Pg.got_drop (l := l) (t := 4) (k := 4) (by omega)
  refine (numK_any g (l.drop 4) false 4 4 sc rfl (by rw [q1]; exact ES.out) _ S1'.out.2.2.1).mono ?_
  rintro r v2 ⟨rfl, hr, hb⟩
  rw [q2, q3] at hr
  have S2 : Hid (RdSt w v2 g w.heap.size (w.heap.size + 1) z 0 (.slice none 0 0) (l.drop 8)) := S1'.out.but hb hr
  clear q1 q2 q3 hr hb y0 y1 y2 y3 yf
  obtain ⟨y0, y1, y2, y3, yf⟩ := S2.out.gcells
  have S2' : Hid (RdSt w (v2.setCell ⟨w.heap.size + 1, 1, none⟩ (.int .u32 (sc : Int))) g w.heap.size (w.heap.size + 1) z sc (.slice none 0 0) (l.drop 8)) := S2.out.own 1 _ (fun j _ => pk4_set1 z 0 sc _ j)
  go_wp2_with fail
  refine (words_yes n b OK.out h2 _).mono ?_
  rintro r v3 ⟨rfl, hw⟩
  cases hw.symm
  clear hw
  rw [EN.out]
  clear y0 y1 y2 y3 yf S0 S1 S1' S2
  obtain ⟨v3, hv3⟩ : ∃ v, v2.setCell ⟨w.heap.size + 1, 1, none⟩ (.int .u32 (sc : Int)) = v := ⟨_, rfl⟩
  have hmk3 := hmk v3
  rw [hv3] at S2'
  rw [hv3]
  clear hv3
  obtain ⟨y0, y1, y2, y3, yf⟩ := S2'.out.gcells
  obtain ⟨R, eR⟩ : ∃ R, v3.heap.size = R := ⟨_, rfl⟩
  have hRb := S2'.out.size
  rw [eR] at hmk3 hRb
  go_wp2
  have S4 : Hid (RdSt w ((v3.setCell ⟨w.heap.size + 1, 3, none⟩ (.slice (some ⟨R, 0, none⟩) N N)).alloc (.cells (madeCells #[.int .u64 0] N) 99)) g w.heap.size (w.heap.size + 1) z sc (.slice (some ⟨R, 0, none⟩) N N) (l.drop (8 + 8 * 0))) := (S2'.out.own 3 _ (fun j hj => pk4_set3 z sc _ _ j hj)).keep (box_below _ _)
  have R4 : Hid (((v3.setCell ⟨w.heap.size + 1, 3, none⟩ (.slice (some ⟨R, 0, none⟩) N N)).alloc (.cells (madeCells #[.int .u64 0] N) 99)).rowIs R 99 N (partG .u64 (Ls.nth ws) 0)) := by
    have := World.rowIs_made (v3.setCell ⟨w.heap.size + 1, 3, none⟩ (.slice (some ⟨R, 0, none⟩) N N)) (.int .u64 0) N 99
    rw [show (v3.setCell ⟨w.heap.size + 1, 3, none⟩ (.slice (some ⟨R, 0, none⟩) N N)).heap.size = R by rw [← eR]; simp [World.setCell]] at this
    exact this.congr (fun j hj => by simp [partG])
  clear hmk hmk3 y0 y1 y2 y3 yf eR S2'
  go_loopw [29] (fun i wr => ∃ k : Nat, k ≤ N ∧ i = .int .i64 k ∧ RdSt w wr g w.heap.size (w.heap.size + 1) z sc (.slice (some ⟨R, 0, none⟩) N N) (l.drop (8 + 8 * k)) ∧ wr.rowIs R 99 N (partG .u64 (Ls.nth ws) k)) (fun i _ => N - (intOf i).toNat)
  case atStart => exact ⟨0, Nat.zero_le _, rfl, S4.out, R4.out⟩
  case round =>
    obtain ⟨k, hk, rfl, hst, hrow⟩ := hrel
    have HS : Hid (RdSt w wr g w.heap.size (w.heap.size + 1) z sc (.slice (some ⟨R, 0, none⟩) N N) (l.drop (8 + 8 * k))) := hst
    have HW : Hid (wr.rowIs R 99 N (partG .u64 (Ls.nth ws) k)) := hrow
    clear hst hrow S4 R4
    by_cases hlt : k < N
    · obtain ⟨v, ev, en⟩ := EW.out k hlt
      obtain ⟨q1, q2, q3⟩ := Pg.got_drop (l := l) (t := 8 + 8 * k) (k := 8) (by omega)
      have Q : Hid (Sl.num (Sl.got (l.drop (8 + 8 * k)) 8) = v ∧ Sl.rest (l.drop (8 + 8 * k)) 8 = l.drop (8 + 8 * (k + 1)) ∧ Sl.lack (l.drop (8 + 8 * k)) 8 false = false) := ⟨by rw [q1]; exact ev, by rw [q2, show 8 + 8 * (k + 1) = 8 + 8 * k + 8 by omega], q3⟩
      have EV : Hid (Ls.nth ws k = (v : Int)) := en
      clear q1 q2 q3 ev en
      have e0 : (0 : Int) ≤ (k : Int) := by omega
      have e1 : (k : Int) < (N : Int) := by omega
      have KC : Hid (∀ w', Below wr.heap.size wr w' → w'.cell? ⟨w.heap.size + 1, 3, none⟩ = some (.slice (some ⟨R, 0, none⟩) N N)) := fun w' hb => (HS.out.keep hb).gcells.2.2.2.1
      go_wp2
      go_region_held3 (fun w' => w'.cell? ⟨w.heap.size + 1, 3, none⟩ = some (.slice (some ⟨R, 0, none⟩) N N))
        (first
          | exact KC.out _ ((Below.refl wr.heap.size wr).drew)
          | exact C5.out
          | exact CS.out _
          | assumption)
        (first
          | (go_at_call 103; refine (numK_any g (l.drop (8 + 8 * k)) false 8 8 v rfl Q.out.1 _ (HS.out.keep ((Below.refl wr.heap.size wr).drew)).2.2.1).mono ?_; rintro e v5 ⟨rfl, hr, hb⟩; have S5 : Hid (RdSt w v5 g w.heap.size (w.heap.size + 1) z sc (.slice (some ⟨R, 0, none⟩) N N) (l.drop (8 + 8 * (k + 1)))) := (HS.out.keep ((Below.refl wr.heap.size wr).drew)).but hb (by rw [Q.out.2.1, Q.out.2.2] at hr; exact hr); have W5 : Hid (v5.rowIs R 99 N (partG .u64 (Ls.nth ws) k)) := hb.row (row_keep HW.out ((Below.refl wr.heap.size wr).drew)) (by omega); have hcg := W5.out.cell hlt; have hfg := W5.out.frozen k; have C5 : Hid (v5.cell? ⟨w.heap.size + 1, 3, none⟩ = some (.slice (some ⟨R, 0, none⟩) N N)) := S5.out.gcells.2.2.2.1; have CS : Hid (∀ y, (v5.setCell ⟨R, k, none⟩ y).cell? ⟨w.heap.size + 1, 3, none⟩ = some (.slice (some ⟨R, 0, none⟩) N N)) := (fun y => by rw [World.cell?_of_block (w := v5) (Go.Deep.blk_setCell_other _ _ _ _ (by show w.heap.size + 1 ≠ R; omega))]; exact C5.out); clear hr hb))
      all_goals go_wp2
      all_goals go_roundw
      case rel =>
        refine ⟨k + 1, by omega, by go_num, S5.out.other (by omega) (by omega) (by omega) k _, ?_⟩
        rw [← EV.out]
        exact (W5.out.set k _).congr (fun j hj => partG_set _ _ k j)
      case measure => simp [intOf]; omega
    · have ek : k = N := by omega
      subst ek
      have LW : Hid (Lst .u64 wr (some ⟨R, 0, none⟩) ws) := lst_of_row (f := partG .u64 (Ls.nth ws) k) (t := 99) (by rw [WL.out]; exact HW.out) (fun i hi => by rw [WL.out] at hi; rw [partG_lt hi])
      obtain ⟨y0, y1, y2, y3, yf⟩ := HS.out.gcells
      obtain ⟨st, est⟩ : ∃ st, Pk.stray b n ws = st := ⟨_, rfl⟩
      have EST : Hid (Pk.stray b n ws = st) := est
      clear est
      cases st
      · obtain ⟨e2, ee2⟩ : ∃ e2, Gp.right (s : Int) (sc : Int) (Pk.unpack b n ws) = e2 := ⟨_, rfl⟩
        have ee : e2 = e := by rw [← HE.out, EST.out, if_neg Bool.false_ne_true, ee2]
        subst ee
        have E2 : Hid (Gp.right (s : Int) (sc : Int) (Pk.unpack b n ws) = e2) := ee2
        clear ee2
        obtain ⟨pz, epz⟩ : ∃ p, (e2 != 0) = p := ⟨_, rfl⟩
        go_wp2_with fail
        refine (unpack_okm _ k _ n b ws OK.out h2 _ WL.out LW.out WD.out (by rw [WL.out, EN.out]) EST.out).mono ?_
        rintro r v6 ⟨L, rfl, hL, hLL, hb6⟩
        have S6 : Hid (RdSt w v6 g w.heap.size (w.heap.size + 1) z sc (.slice (some ⟨R, 0, none⟩) k k) (l.drop (8 + 8 * k))) := HS.out.keep hb6
        have L6 : Hid (Lst .i64 v6 (some ⟨L, 0, none⟩) (Pk.unpack b n ws)) := hLL
        have LW6 : Hid (Lst .u64 v6 (some ⟨R, 0, none⟩) ws) := LW.out.keep hb6
        clear hL hLL hb6 y0 y1 y2 y3 yf
        obtain ⟨y0, y1, y2, y3, yf⟩ := S6.out.gcells
        go_wp2_with fail
        refine (rightGm _ _ _ n _ b s (Pk.unpack b n ws) e2 _ (Pk.unpack_length _ _ _) L6.out ST.out (by omega) h2 (by omega) (by omega) E2.out).mono ?_
        rintro r v7 ⟨rfl, hb7⟩
        have S7 : Hid (RdSt w v7 g w.heap.size (w.heap.size + 1) z sc (.slice (some ⟨R, 0, none⟩) k k) (l.drop (8 + 8 * k))) := S6.out.keep hb7
        have LW7 : Hid (Lst .u64 v7 (some ⟨R, 0, none⟩) ws) := LW6.out.keep hb7
        clear hb7 y0 y1 y2 y3 yf
        obtain ⟨y0, y1, y2, y3, yf⟩ := S7.out.gcells
        obtain ⟨a0, a1, a2, a3, af⟩ := S7.out.acells
        cases pz
        · have z0 : e2 = 0 := by simpa using epz
          go_wp2
          refine bodyPost_ret (v := .tuple #[.agg #[.int .i32 z, .int .u32 (sc : Int), .slice none 0 0, .slice (some ⟨R, 0, none⟩) k k], .int .i64 0]) (by simp [results, Tryz.results79, go_sem, a0, a1, a2, a3]) rfl ⟨(S7.out.last _ _ _ _).1, fun h => absurd z0 h, fun _ => ⟨R, ?_, by omega, ?_, (S7.out.last _ _ _ _).2.1⟩⟩
          · rw [X0.out, X1.out]
          · rw [X2.out, Pk.pack_unpack OK.out WD.out (by rw [WL.out, EN.out]) EST.out]
            exact (((LW7.out.set_otherP (p := ⟨w.heap.size, 0, none⟩) (fun x e => by cases e; show ¬ R = w.heap.size; omega) _).set_otherP (p := ⟨w.heap.size, 1, none⟩) (fun x e => by cases e; show ¬ R = w.heap.size; omega) _).set_otherP (p := ⟨w.heap.size, 2, none⟩) (fun x e => by cases e; show ¬ R = w.heap.size; omega) _).set_otherP (p := ⟨w.heap.size, 3, none⟩) (fun x e => by cases e; show ¬ R = w.heap.size; omega) _
        · have z0 : ¬ e2 = 0 := by simpa using epz
          go_wp2
          exact bodyPost_ret (v := .tuple #[.agg #[.int .i32 0, .int .u32 0, .slice none 0 0, .slice none 0 0], .int .i64 e2]) (by simp [results, Tryz.results79, go_sem, a0, a1, a2, a3]) rfl ⟨(S7.out.last _ _ _ _).1, fun _ => rfl, fun h => absurd h z0⟩
      · have ee : e = 10 := by rw [← HE.out, EST.out, if_pos rfl]
        subst ee
        go_wp2_with fail
        refine (unpack_formm _ k _ n b ws OK.out h2 _ WL.out LW.out WD.out (by rw [WL.out, EN.out]) EST.out).mono ?_
        rintro r v6 ⟨rfl, hb6⟩
        have S6 : Hid (RdSt w v6 g w.heap.size (w.heap.size + 1) z sc (.slice (some ⟨R, 0, none⟩) k k) (l.drop (8 + 8 * k))) := HS.out.keep hb6
        clear hb6 y0 y1 y2 y3 yf
        obtain ⟨a0, a1, a2, a3, af⟩ := S6.out.acells
        go_wp2
        exact bodyPost_ret (v := .tuple #[.agg #[.int .i32 0, .int .u32 0, .slice none 0 0, .slice none 0 0], .int .i64 10]) (by simp [results, Tryz.results79, go_sem, a0, a1, a2, a3]) rfl ⟨(S6.out.last _ _ _ _).1, fun _ => rfl, fun h => absurd h (by decide)⟩
end Go.Proofs.YtimkfkolkplpdaaGreat
/- Contracts of package page: groups are read. -/
namespace Go.Proofs.YtimkfkolkplpdaaGreat
set_option linter.unusedVariables false
open Go.RowKit
attribute [local go_sem ↓] Go.wp_at_zero Go.wp_at_succ

theorem PRow.but {w w' : World} {g r : Nat} {t : TypeId} {N b : Nat} {l : List (Int × Int × List Int)} {k : Nat} (h : PRow w g t N b l k) (hb : But r w w') (hr : r < g) : PRow w' g t N b l k := by
  obtain ⟨f, h1, hc⟩ := h
  refine ⟨f, hb.row h1 (by omega), fun i hi => ?_⟩
  obtain ⟨a, c, h0, h1, h2, h3, h4, h5⟩ := hc i hi
  exact ⟨a, c, h0, h1, h2, h3, hb.lst h4 (fun x e => by have := h5 x e; omega), h5⟩
theorem PRow.low {w : World} {g P : Nat} {t : TypeId} {N b : Nat} {l : List (Int × Int × List Int)} {k : Nat} (h : PRow w g t N b l k) (hP : P < g) (o : Nat) (y : Value) : PRow (w.setCell ⟨P, o, none⟩ y) g t N b l k := by
  obtain ⟨f, h1, hc⟩ := h
  refine ⟨f, h1.setOther (by show g ≠ P; omega) _, fun i hi => ?_⟩
  obtain ⟨a, c, h0, h1, h2, h3, h4, h5⟩ := hc i hi
  exact ⟨a, c, h0, h1, h2, h3, h4.set_otherP (p := ⟨P, o, none⟩) (fun x e => by have := h5 x e; show ¬ x.block = P; omega) _, h5⟩

set_option maxRecDepth 100000 in
set_option maxHeartbeats 3200000 in
theorem readAll_any (g b s n d : Nat) (l : List Int) (e : Int) (w : World) (h : Rdr w g l false) (hst : Gp.St b s) (h1 : 1 ≤ n) (h2 : n ≤ 256) (hd : d ≤ 256) (hl : Pg.gsize b n * d ≤ l.length) (he : Pg.gerrN b n l d = e) :
    Calls Tryz.prog 49 #[.pointer (some ⟨g, 0, none⟩), .int .i64 d, .int .i64 n, .int .i64 b] w fun r w' => But g w w' ∧ (¬ e = 0 → r = .returned (.tuple #[.slice none 0 0, .int .i64 e])) ∧
      (e = 0 → ∃ G, r = .returned (.tuple #[.slice (some ⟨G, 0, none⟩) d d, .int .i64 0]) ∧ w.heap.size ≤ G ∧ PRow w' G 87 (d * 4) b (Pg.greads b n d l) d ∧ Rdr w' g (l.drop (Pg.gsize b n * d)) false) := by
  have hgw := h.lt
  obtain ⟨N, eN⟩ : ∃ N, Pk.size b n = N := ⟨_, rfl⟩
  have HG : Hid (Pg.gsize b n = 8 + 8 * N) := by show 8 + 8 * Pk.size b n = _; rw [eN]
  have EN : Hid (Pk.size b n = N) := eN
  have HL : Hid (Pg.gsize b n * d ≤ l.length) := hl
  have HE : Hid (Pg.gerrN b n l d = e) := he
  have HR : Hid (Rdr w g l false) := h
  have ST : Hid (Gp.St b s) := hst
  clear h hst he hl eN
  have hmk := run_make_rows (P := Tryz.prog) 68 87 (.agg #[.int .i32 0, .int .u32 0, .slice none 0 0, .slice none 0 0]) #[.int .i32 0, .int .u32 0, .slice none 0 0, .slice none 0 0] 4 56 rfl Tryz.underlying68 Tryz.infoPk .i64 .i64 d (by omega) (by omega)
  go_enter Tryz.func49, Tryz.ntmps49
  go_wp2
  clear hmk
  go_loopw [18] (fun i wr => ∃ k : Nat, k ≤ d ∧ i = .int .i64 k ∧ PRow wr w.heap.size 87 (d * 4) b (Pg.greads b n d l) k ∧ Rdr wr g (l.drop (Pg.gsize b n * k)) false ∧ But g w wr ∧ Pg.gerrN b n l k = 0) (fun i _ => d - (intOf i).toNat)
  case atStart => exact ⟨0, Nat.zero_le _, rfl, PRow.made w _ _ _ _ _, by rw [Nat.mul_zero, List.drop_zero]; exact HR.out.keep (box_below _ _), But.of_below (box_below _ _) hgw, rfl⟩
  case round =>
    obtain ⟨k, hk, rfl, hrow, hrd, hbut, herr⟩ := hrel
    have HP : Hid (PRow wr w.heap.size 87 (d * 4) b (Pg.greads b n d l) k) := hrow
    have HD : Hid (Rdr wr g (l.drop (Pg.gsize b n * k)) false) := hrd
    have HB : Hid (But g w wr) := hbut
    have HZ : Hid (Pg.gerrN b n l k = 0) := herr
    have hlt0 := hrow.lt
    clear hrow hrd hbut herr
    by_cases hlt : k < d
    · obtain ⟨x, ex⟩ : ∃ x, Pg.gread b n (l.drop (Pg.gsize b n * k)) = x := ⟨_, rfl⟩
      obtain ⟨e1, ee1⟩ : ∃ y, Pg.gerr b n (l.drop (Pg.gsize b n * k)) = y := ⟨_, rfl⟩
      have EX : Hid (Pg.gread b n (l.drop (Pg.gsize b n * k)) = x) := ex
      have EE : Hid (Pg.gerr b n (l.drop (Pg.gsize b n * k)) = e1) := ee1
      have EXN : Hid (Pg.nth (Pg.greads b n d l) k = x) := by show _ = _; rw [Pg.nth_greads hlt, ex]
      have NX : Hid (Pk.size b (Pg.gc x).length = N) := by show _ = _; rw [← ex, show (Pg.gc (Pg.gread b n (l.drop (Pg.gsize b n * k)))).length = n from Pk.unpack_length _ _ _]; exact EN.out
      have LL : Hid (Pg.gsize b n ≤ (l.drop (Pg.gsize b n * k)).length) := by
        have := HL.out
        have hm : Pg.gsize b n * (k + 1) ≤ Pg.gsize b n * d := Nat.mul_le_mul_left _ hlt
        rw [Nat.mul_succ] at hm
        show Pg.gsize b n ≤ _
        simp
        omega
      clear ex ee1
      obtain ⟨pz, epz⟩ : ∃ p, (e1 != 0) = p := ⟨_, rfl⟩
      go_wp2_with fail
      refine (readOne_any g b s n (l.drop (Pg.gsize b n * k)) N x e1 _ HD.out ST.out h1 h2 LL.out EN.out EX.out EE.out).mono ?_
      rintro r v ⟨hb, hbad, hok⟩
      cases pz
      · have z0 : e1 = 0 := by simpa using epz
        obtain ⟨R, rfl, hR, hLR, hrd⟩ := hok z0
        have P1 : Hid (PRow v w.heap.size 87 (d * 4) b (Pg.greads b n d l) k) := HP.out.but hb hgw
        have B1 : Hid (But g w v) := HB.out.trans hb
        have D1 : Hid (Rdr v g (l.drop (Pg.gsize b n * (k + 1))) false) := by
          rw [Nat.mul_succ, ← List.drop_drop, HG.out]
          rw [HG.out] at hrd
          exact hrd
        have L1 : Hid (Lst .u64 v (some ⟨R, 0, none⟩) (Pk.pack b (Pg.gc x))) := hLR
        have hR0 : w.heap.size < R := by omega
        have hv0 : w.heap.size < v.heap.size := P1.out.lt
        have hgv : g < v.heap.size := by omega
        have HZ2 : Hid (Pg.gerrN b n l (k + 1) = 0) := by show _ = _; rw [Pg.gerrN_ok HZ.out, EE.out, z0]
        obtain ⟨f, hr⟩ := P1.out.room
        have r0 := hr.cell (show k * 4 < d * 4 by omega)
        have r1 := hr.cell (show k * 4 + 1 < d * 4 by omega)
        have r2 := hr.cell (show k * 4 + 2 < d * 4 by omega)
        have r3 := hr.cell (show k * 4 + 3 < d * 4 by omega)
        have s0 := hr.frozen (k * 4)
        have s1 := hr.frozen (k * 4 + 1)
        have s2 := hr.frozen (k * 4 + 2)
        have s3 := hr.frozen (k * 4 + 3)
        clear hb hbad hok hR hLR hrd hr epz z0
        go_wp2
        go_roundw
        case rel =>
          have P2 := P1.out.step (c := N) (z := Pg.gz x) (sc := Pg.gs x) (n := N) (a := some ⟨R, 0, none⟩) (by rw [EXN.out]) (by rw [EXN.out]) (by rw [EXN.out]; exact NX.out) (by rw [EXN.out]; exact L1.out) (fun y hy => by cases hy; exact hR0)
          have D2 : Rdr ((((v.setCell ⟨w.heap.size, k * 4, none⟩ (.int .i32 (Pg.gz x))).setCell ⟨w.heap.size, k * 4 + 1, none⟩ (.int .u32 (Pg.gs x))).setCell ⟨w.heap.size, k * 4 + 2, none⟩ (.slice none 0 0)).setCell ⟨w.heap.size, k * 4 + 3, none⟩ (.slice (some ⟨R, 0, none⟩) N N)) g (l.drop (Pg.gsize b n * (k + 1))) false := D1.out.under (B := w.heap.size) hgw (((((Below.refl w.heap.size v).setCell (p := ⟨w.heap.size, k * 4, none⟩) (Nat.le_refl _) _).setCell (p := ⟨w.heap.size, k * 4 + 1, none⟩) (Nat.le_refl _) _).setCell (p := ⟨w.heap.size, k * 4 + 2, none⟩) (Nat.le_refl _) _).setCell (p := ⟨w.heap.size, k * 4 + 3, none⟩) (Nat.le_refl _) _)
          have B2 := (((B1.out.new (Nat.le_refl _) hgw (k * 4) (.int .i32 (Pg.gz x))).new (Nat.le_refl _) hgw (k * 4 + 1) (.int .u32 (Pg.gs x))).new (Nat.le_refl _) hgw (k * 4 + 2) (.slice none 0 0)).new (Nat.le_refl _) hgw (k * 4 + 3) (.slice (some ⟨R, 0, none⟩) N N)
          exact ⟨k + 1, by omega, by go_num, P2.keep (box_below _ _), D2.keep (box_below _ _), B2.below (box_below _ _) D2.lt, HZ2.out⟩
        case measure => simp [intOf]; omega
      · have z0 : ¬ e1 = 0 := by simpa using epz
        have ee := hbad z0
        subst ee
        have B1 : Hid (But g w v) := HB.out.trans hb
        have hgv : g < v.heap.size := by have := B1.out.size; omega
        have hk1 : Pg.gerrN b n l (k + 1) = e1 := by rw [Pg.gerrN_ok HZ.out, EE.out]
        have e2 : e1 = e := by
          rw [← HE.out, ← hk1]
          obtain ⟨q, rfl⟩ := Nat.exists_eq_add_of_le (show k + 1 ≤ d by omega)
          exact (Pg.gerrN_stop (by rw [hk1]; exact z0) q).symm
        subst e2
        clear hb hbad hok hk1
        go_wp2
        go_ret2
        exact ⟨B1.out.below (box_below _ _) hgv, fun _ => rfl, fun h => absurd h z0⟩
    · have ek : k = d := by omega
      subst ek
      have z0 : e = 0 := by rw [← HE.out, HZ.out]
      go_wp2
      go_ret2
      exact ⟨HB.out, fun h => absurd z0 h, fun _ => ⟨w.heap.size, rfl, Nat.le_refl _, HP.out, HD.out⟩⟩
end Go.Proofs.YtimkfkolkplpdaaGreat
/- Contracts of package page: Parse. -/
namespace Go.Proofs.YtimkfkolkplpdaaGreat
set_option linter.unusedVariables false
open Go.RowKit
attribute [local go_sem ↓] Go.wp_at_zero Go.wp_at_succ

/-- An error's number of bytes. -/
def Pg.parseE (l : List Int) : Int := if l.length < 4 then 16 else if Sl.sealed l = false then 22 else Pg.perr (l.take (l.length - 4)) l.length
/-- WHILE A PAGE IS READ: the head's box at B, the page at P, the reader at g. -/
def PsSt (w v : World) (g B P m0 m1 n0 d0 : Nat) (h4 h5 h6 : Int) (v7 v8 : Value) (l : List Int) : Prop :=
  v.rowIs B 23 7 (pgc m0 m1 n0 d0 h4 h5 h6 (.slice none 0 0) (.slice none 0 0)) ∧ v.rowIs P 71 9 (pgc m0 m1 n0 d0 h4 h5 h6 v7 v8) ∧ Rdr v g l false ∧ Below w.heap.size w v ∧ w.heap.size ≤ g ∧ g < B ∧ B < P
theorem PsSt.but {w v v' : World} {g B P m0 m1 n0 d0 : Nat} {h4 h5 h6 : Int} {v7 v8 : Value} {l l' : List Int} (h : PsSt w v g B P m0 m1 n0 d0 h4 h5 h6 v7 v8 l) (hb : But g v v') (hr : Rdr v' g l' false) : PsSt w v' g B P m0 m1 n0 d0 h4 h5 h6 v7 v8 l' := by
  obtain ⟨h1, h2, h3, h4, h5, h6, h7⟩ := h
  exact ⟨hb.row h1 (by omega), hb.row h2 (by omega), hr, h4.trans (hb.1.mono h5), h5, h6, h7⟩
theorem PsSt.hcells {w v : World} {g B P m0 m1 n0 d0 : Nat} {h4 h5 h6 : Int} {v7 v8 : Value} {l : List Int} (h : PsSt w v g B P m0 m1 n0 d0 h4 h5 h6 v7 v8 l) : HdAt v B m0 m1 n0 d0 h4 h5 h6 :=
  ⟨h.1.cell (i := 0) (by decide), h.1.cell (i := 1) (by decide), h.1.cell (i := 2) (by decide), h.1.cell (i := 3) (by decide), h.1.cell (i := 4) (by decide), h.1.cell (i := 5) (by decide), h.1.cell (i := 6) (by decide)⟩
theorem PsSt.pcells {w v : World} {g B P m0 m1 n0 d0 : Nat} {h4 h5 h6 : Int} {v7 v8 : Value} {l : List Int} (h : PsSt w v g B P m0 m1 n0 d0 h4 h5 h6 v7 v8 l) : v.cell? ⟨P, 7, none⟩ = some v7 ∧ v.cell? ⟨P, 8, none⟩ = some v8 ∧ ∀ i, v.frozen? ⟨P, i, none⟩ = false :=
  ⟨h.2.1.cell (i := 7) (by decide), h.2.1.cell (i := 8) (by decide), fun i => h.2.1.frozen i⟩
theorem pgc_set7 (m0 m1 n0 d0 : Nat) (h4 h5 h6 : Int) (v7 v8 y : Value) (j : Nat) (hj : j < 9) : (if j = 7 then y else pgc m0 m1 n0 d0 h4 h5 h6 v7 v8 j) = pgc m0 m1 n0 d0 h4 h5 h6 y v8 j := by
  match j, hj with
  | 0, _ => rfl
  | 1, _ => rfl
  | 2, _ => rfl
  | 3, _ => rfl
  | 4, _ => rfl
  | 5, _ => rfl
  | 6, _ => rfl
  | 7, _ => rfl
  | 8, _ => rfl
theorem pgc_set8 (m0 m1 n0 d0 : Nat) (h4 h5 h6 : Int) (v7 v8 y : Value) (j : Nat) (hj : j < 9) : (if j = 8 then y else pgc m0 m1 n0 d0 h4 h5 h6 v7 v8 j) = pgc m0 m1 n0 d0 h4 h5 h6 v7 y j := by
  match j, hj with
  | 0, _ => rfl
  | 1, _ => rfl
  | 2, _ => rfl
  | 3, _ => rfl
  | 4, _ => rfl
  | 5, _ => rfl
  | 6, _ => rfl
  | 7, _ => rfl
  | 8, _ => rfl
theorem PsSt.set {w v : World} {g B P m0 m1 n0 d0 : Nat} {h4 h5 h6 : Int} {v7 v8 u7 u8 : Value} {l : List Int} (h : PsSt w v g B P m0 m1 n0 d0 h4 h5 h6 v7 v8 l) (o : Nat) (y : Value) (he : ∀ j, j < 9 → (if j = o then y else pgc m0 m1 n0 d0 h4 h5 h6 v7 v8 j) = pgc m0 m1 n0 d0 h4 h5 h6 u7 u8 j) : PsSt w (v.setCell ⟨P, o, none⟩ y) g B P m0 m1 n0 d0 h4 h5 h6 u7 u8 l := by
  obtain ⟨h1, h2, h3, h4, h5, h6, h7⟩ := h
  exact ⟨h1.setOther (by show B ≠ P; omega) _, (h2.set o y).congr he, h3.under (B := P) (by omega) ((Below.refl _ _).setCell (p := ⟨P, o, none⟩) (Nat.le_refl _) _), h4.setCell (p := ⟨P, o, none⟩) (by show w.heap.size ≤ P; omega) _, h5, h6, h7⟩
theorem Sl.num_two (x y : Int) (hx : 0 ≤ x ∧ x < 256) (hy : 0 ≤ y ∧ y < 256) : (Sl.num [x, y] : Int) = x * 256 + y := by
  show ((Sl.numN [x, y] 2 : Nat) : Int) = _
  simp only [Sl.numN]
  show (((0 * 256 + x.toNat) * 256 + y.toNat : Nat) : Int) = _
  omega

theorem parseP_short (a : Option Addr) (m c : Nat) (w : World) (h : m < 4) :
    Calls Tryz.prog 17 #[.slice a m c] w fun r w' => r = .returned (.tuple #[.pointer none, .int .i64 16]) ∧ Below w.heap.size w w' := by
  go_enter Tryz.func17, Tryz.ntmps17
  go_wp2_with (go_at_call 46; refine (open_short _ m _ h _).mono ?_; rintro r0 v0 ⟨rfl, hw⟩; cases hw.symm; clear hw)
  go_ret2
  exact ⟨rfl, Below.refl _ _⟩
theorem parseP_seal (a : Option Addr) (m c : Nat) (l : List Int) (w : World) (hm : m = l.length) (hl : l.length ≤ 10000) (hc : m ≤ c) (hc2 : c ≤ maxLen) (ha : Lst .u8 w a l) (hb : Sl.Byt l) (h4 : 4 ≤ l.length) (hs : Sl.sealed l = false) :
    Calls Tryz.prog 17 #[.slice a m c] w fun r w' => r = .returned (.tuple #[.pointer none, .int .i64 22]) ∧ Below w.heap.size w w' := by
  have HM : Hid (m = l.length) := hm
  have HC : Hid (m ≤ c) := hc
  have HC2 : Hid (c ≤ maxLen) := hc2
  have HA : Hid (Lst .u8 w a l) := ha
  have HB : Hid (Sl.Byt l) := hb
  have HS : Hid (Sl.sealed l = false) := hs
  clear hm hc hc2 ha hb hs
  go_enter Tryz.func17, Tryz.ntmps17
  go_wp2_with (go_at_call 46; refine (open_bad _ m _ l HM.out h4 hl HC.out HC2.out _ HA.out HB.out HS.out).mono ?_; rintro r0 v0 ⟨rfl, hw⟩; cases hw.symm; clear hw)
  go_ret2
  exact ⟨rfl, Below.refl _ _⟩
set_option maxHeartbeats 800000 in
theorem parseP_hshort (a : Option Addr) (m c : Nat) (l : List Int) (w : World) (hm : m = l.length) (hl : l.length ≤ 10000) (hc : m ≤ c) (hc2 : c ≤ maxLen) (ha : Lst .u8 w a l) (hb : Sl.Byt l) (h4 : 4 ≤ l.length) (hs : Sl.sealed l = true) (h9 : (l.take (l.length - 4)).length < 9) :
    Calls Tryz.prog 17 #[.slice a m c] w fun r w' => r = .returned (.tuple #[.pointer none, .int .i64 16]) ∧ Below w.heap.size w w' := by
  have HM : Hid (m = l.length) := hm
  have HC : Hid (m ≤ c) := hc
  have HC2 : Hid (c ≤ maxLen) := hc2
  have HA : Hid (Lst .u8 w a l) := ha
  have HB : Hid (Sl.Byt l) := hb
  have HS : Hid (Sl.sealed l = true) := hs
  obtain ⟨k, ek⟩ : ∃ k, l.length - 4 = k := ⟨_, rfl⟩
  obtain ⟨o, eo⟩ : ∃ o, l.take k = o := ⟨_, rfl⟩
  have OL : Hid (o.length = k) := by show _ = _; rw [← eo]; simp; omega
  have EO : Hid (l.take k = o) := eo
  have OB : Hid (Sl.Byt o) := by rw [← eo]; exact Pg.byt_take hb k
  have ol : o.length ≤ 10000 := by rw [OL.out]; omega
  have H9 : Hid (o.length < 9) := by rw [← eo, ← ek]; exact h9
  clear h9
  clear hm hc hc2 ha hb hs eo
  go_enter Tryz.func17, Tryz.ntmps17
  go_wp2_with fail
  refine (open_ok _ m _ k l HM.out (by omega) hl HC.out HC2.out (by omega) _ HA.out HB.out HS.out).mono ?_
  rintro r0 v0 ⟨a0, c0, rfl, hL0, hk0, hk1, hn0, hb0⟩
  have L0 : Hid (Lst .u8 v0 a0 o ∧ k ≤ c0 ∧ c0 ≤ maxLen ∧ (a0 = none → c0 = 0) ∧ Below w.heap.size w v0) := ⟨by rw [← EO.out]; exact hL0, hk0, hk1, hn0, hb0⟩
  clear hL0 hk0 hk1 hn0 hb0
  go_wp2_with fail
  refine (newReader_any _ k _ o OL.out.symm ol _ L0.out.1 OB.out L0.out.2.2.2.1).mono ?_
  rintro r1 v1 ⟨g, rfl, hg, hr1, hb1⟩
  have R1 : Hid (Rdr v1 g o false) := hr1
  have B1 : Hid (Below w.heap.size w v1) := below_then L0.out.2.2.2.2 hb1
  have hgw : w.heap.size ≤ g := by have := L0.out.2.2.2.2.size; omega
  have hgv := R1.out.lt
  clear hg hr1 hb1
  go_wp2_with fail
  refine (headRead_short g o _ R1.out H9.out).mono ?_
  rintro r2 v2 ⟨rfl, hb2⟩
  have B2 : Hid (Below w.heap.size w v2) := B1.out.trans (hb2.1.mono hgw)
  have hv2 := hb2.size
  clear hb2
  go_wp2
  go_ret2
  exact ⟨rfl, below_then B2.out (box_below _ _)⟩
set_option maxHeartbeats 800000 in
theorem parseP_hform (a : Option Addr) (m c : Nat) (l : List Int) (w : World) (hm : m = l.length) (hl : l.length ≤ 10000) (hc : m ≤ c) (hc2 : c ≤ maxLen) (ha : Lst .u8 w a l) (hb : Sl.Byt l) (h4 : 4 ≤ l.length) (hs : Sl.sealed l = true) (x0 x1 x2 x3 x4 x5 x6 x7 x8 : Int) (r : List Int) (eo9 : l.take (l.length - 4) = x0 :: x1 :: x2 :: x3 :: x4 :: x5 :: x6 :: x7 :: x8 :: r) (h0 : ¬ x0 = 75) :
    Calls Tryz.prog 17 #[.slice a m c] w fun r w' => r = .returned (.tuple #[.pointer none, .int .i64 10]) ∧ Below w.heap.size w w' := by
  have HM : Hid (m = l.length) := hm
  have HC : Hid (m ≤ c) := hc
  have HC2 : Hid (c ≤ maxLen) := hc2
  have HA : Hid (Lst .u8 w a l) := ha
  have HB : Hid (Sl.Byt l) := hb
  have HS : Hid (Sl.sealed l = true) := hs
  obtain ⟨k, ek⟩ : ∃ k, l.length - 4 = k := ⟨_, rfl⟩
  obtain ⟨o, eo⟩ : ∃ o, l.take k = o := ⟨_, rfl⟩
  have OL : Hid (o.length = k) := by show _ = _; rw [← eo]; simp; omega
  have EO : Hid (l.take k = o) := eo
  have OB : Hid (Sl.Byt o) := by rw [← eo]; exact Pg.byt_take hb k
  have ol : o.length ≤ 10000 := by rw [OL.out]; omega
  have EO9 : Hid (o = x0 :: x1 :: x2 :: x3 :: x4 :: x5 :: x6 :: x7 :: x8 :: r) := by show _ = _; rw [← eo, ← ek]; exact eo9
  have H0 : Hid (¬ x0 = 75) := h0
  clear eo9 h0
  clear hm hc hc2 ha hb hs eo
  go_enter Tryz.func17, Tryz.ntmps17
  go_wp2_with fail
  refine (open_ok _ m _ k l HM.out (by omega) hl HC.out HC2.out (by omega) _ HA.out HB.out HS.out).mono ?_
  rintro r0 v0 ⟨a0, c0, rfl, hL0, hk0, hk1, hn0, hb0⟩
  have L0 : Hid (Lst .u8 v0 a0 o ∧ k ≤ c0 ∧ c0 ≤ maxLen ∧ (a0 = none → c0 = 0) ∧ Below w.heap.size w v0) := ⟨by rw [← EO.out]; exact hL0, hk0, hk1, hn0, hb0⟩
  clear hL0 hk0 hk1 hn0 hb0
  go_wp2_with fail
  refine (newReader_any _ k _ o OL.out.symm ol _ L0.out.1 OB.out L0.out.2.2.2.1).mono ?_
  rintro r1 v1 ⟨g, rfl, hg, hr1, hb1⟩
  have R1 : Hid (Rdr v1 g o false) := hr1
  have B1 : Hid (Below w.heap.size w v1) := below_then L0.out.2.2.2.2 hb1
  have hgw : w.heap.size ≤ g := by have := L0.out.2.2.2.2.size; omega
  have hgv := R1.out.lt
  clear hg hr1 hb1
  go_wp2_with fail
  refine (headRead_form g x0 x1 x2 x3 x4 x5 x6 x7 x8 r _ (by rw [← EO9.out]; exact R1.out) H0.out).mono ?_
  rintro r2 v2 ⟨rfl, hb2⟩
  have B2 : Hid (Below w.heap.size w v2) := B1.out.trans (hb2.1.mono hgw)
  have hv2 := hb2.size
  clear hb2
  go_wp2
  go_ret2
  exact ⟨rfl, below_then B2.out (box_below _ _)⟩
set_option maxHeartbeats 800000 in
theorem parseP_hrange (a : Option Addr) (m c : Nat) (l : List Int) (w : World) (hm : m = l.length) (hl : l.length ≤ 10000) (hc : m ≤ c) (hc2 : c ≤ maxLen) (ha : Lst .u8 w a l) (hb : Sl.Byt l) (h4 : 4 ≤ l.length) (hs : Sl.sealed l = true) (x0 x1 x2 x3 x4 x5 x6 x7 x8 y : Int) (r : List Int) (eo9 : l.take (l.length - 4) = x0 :: x1 :: x2 :: x3 :: x4 :: x5 :: x6 :: x7 :: x8 :: r) (h0 : x0 = 75) (hy : x7 * 256 + x8 = y) (hq : Pg.rightH [x1, x2, x3, x4, x5, x6, y] = false) :
    Calls Tryz.prog 17 #[.slice a m c] w fun r w' => r = .returned (.tuple #[.pointer none, .int .i64 11]) ∧ Below w.heap.size w w' := by
  have HM : Hid (m = l.length) := hm
  have HC : Hid (m ≤ c) := hc
  have HC2 : Hid (c ≤ maxLen) := hc2
  have HA : Hid (Lst .u8 w a l) := ha
  have HB : Hid (Sl.Byt l) := hb
  have HS : Hid (Sl.sealed l = true) := hs
  obtain ⟨k, ek⟩ : ∃ k, l.length - 4 = k := ⟨_, rfl⟩
  obtain ⟨o, eo⟩ : ∃ o, l.take k = o := ⟨_, rfl⟩
  have OL : Hid (o.length = k) := by show _ = _; rw [← eo]; simp; omega
  have EO : Hid (l.take k = o) := eo
  have OB : Hid (Sl.Byt o) := by rw [← eo]; exact Pg.byt_take hb k
  have ol : o.length ≤ 10000 := by rw [OL.out]; omega
  have EO9 : Hid (o = x0 :: x1 :: x2 :: x3 :: x4 :: x5 :: x6 :: x7 :: x8 :: r) := by show _ = _; rw [← eo, ← ek]; exact eo9
  have H0 : Hid (x0 = 75) := h0
  have HY : Hid (x7 * 256 + x8 = y) := hy
  have HQ : Hid (Pg.rightH [x1, x2, x3, x4, x5, x6, y] = false) := hq
  clear eo9 h0 hy hq
  clear hm hc hc2 ha hb hs eo
  go_enter Tryz.func17, Tryz.ntmps17
  go_wp2_with fail
  refine (open_ok _ m _ k l HM.out (by omega) hl HC.out HC2.out (by omega) _ HA.out HB.out HS.out).mono ?_
  rintro r0 v0 ⟨a0, c0, rfl, hL0, hk0, hk1, hn0, hb0⟩
  have L0 : Hid (Lst .u8 v0 a0 o ∧ k ≤ c0 ∧ c0 ≤ maxLen ∧ (a0 = none → c0 = 0) ∧ Below w.heap.size w v0) := ⟨by rw [← EO.out]; exact hL0, hk0, hk1, hn0, hb0⟩
  clear hL0 hk0 hk1 hn0 hb0
  go_wp2_with fail
  refine (newReader_any _ k _ o OL.out.symm ol _ L0.out.1 OB.out L0.out.2.2.2.1).mono ?_
  rintro r1 v1 ⟨g, rfl, hg, hr1, hb1⟩
  have R1 : Hid (Rdr v1 g o false) := hr1
  have B1 : Hid (Below w.heap.size w v1) := below_then L0.out.2.2.2.2 hb1
  have hgw : w.heap.size ≤ g := by have := L0.out.2.2.2.2.size; omega
  have hgv := R1.out.lt
  clear hg hr1 hb1
  go_wp2_with fail
  refine (headRead_range g x0 x1 x2 x3 x4 x5 x6 x7 x8 y r _ (by rw [← EO9.out]; exact R1.out) H0.out HY.out HQ.out).mono ?_
  rintro r2 v2 ⟨rfl, hb2⟩
  have B2 : Hid (Below w.heap.size w v2) := B1.out.trans (hb2.1.mono hgw)
  have hv2 := hb2.size
  clear hb2
  go_wp2
  go_ret2
  exact ⟨rfl, below_then B2.out (box_below _ _)⟩
set_option maxRecDepth 100000 in
set_option maxHeartbeats 3200000 in
theorem parseP_less (a : Option Addr) (m c : Nat) (l : List Int) (w : World) (hm : m = l.length) (hl : l.length ≤ 10000) (hc : m ≤ c) (hc2 : c ≤ maxLen) (ha : Lst .u8 w a l) (hb : Sl.Byt l) (h4' : 4 ≤ l.length) (hs : Sl.sealed l = true) (m0 m1 n0 d0 : Nat) (h4 h5 h6 : Int) (x0 x7 x8 : Int) (r : List Int) (eo9 : l.take (l.length - 4) = x0 :: (m0 : Int) :: (m1 : Int) :: (n0 : Int) :: (d0 : Int) :: h4 :: h5 :: x7 :: x8 :: r) (h0 : x0 = 75) (hy : x7 * 256 + x8 = h6) (hq : Pg.rightH [(m0 : Int), m1, n0, d0, h4, h5, h6] = true) (N : Nat) (hN : Pg.psize [(m0 : Int), m1, n0, d0, h4, h5, h6] = N) (hlt : m < N) :
    Calls Tryz.prog 17 #[.slice a m c] w fun r w' => r = .returned (.tuple #[.pointer none, .int .i64 16]) ∧ Below w.heap.size w w' := by
  have HM : Hid (m = l.length) := hm
  have HC : Hid (m ≤ c) := hc
  have HC2 : Hid (c ≤ maxLen) := hc2
  have HA : Hid (Lst .u8 w a l) := ha
  have HB : Hid (Sl.Byt l) := hb
  have HS : Hid (Sl.sealed l = true) := hs
  obtain ⟨k, ek⟩ : ∃ k, l.length - 4 = k := ⟨_, rfl⟩
  obtain ⟨o, eo⟩ : ∃ o, l.take k = o := ⟨_, rfl⟩
  have OL : Hid (o.length = k) := by show _ = _; rw [← eo]; simp; omega
  have EO : Hid (l.take k = o) := eo
  have OB : Hid (Sl.Byt o) := by rw [← eo]; exact Pg.byt_take hb k
  have ol : o.length ≤ 10000 := by rw [OL.out]; omega
  have EO9 : Hid (o = x0 :: (m0 : Int) :: (m1 : Int) :: (n0 : Int) :: (d0 : Int) :: h4 :: h5 :: x7 :: x8 :: r) := by show _ = _; rw [← eo, ← ek]; exact eo9
  have H0 : Hid (x0 = 75) := h0
  have HY : Hid (x7 * 256 + x8 = h6) := hy
  have HQ : Hid (Pg.rightH [(m0 : Int), m1, n0, d0, h4, h5, h6] = true) := hq
  obtain ⟨qa, qb, qc, qd, qe, qf, _⟩ := Pg.rightH_all hq
  have qa' : (m0 : Int) = 2 ∨ (m0 : Int) = 4 ∨ (m0 : Int) = 8 := qa
  have qb' : (m1 : Int) = 2 ∨ (m1 : Int) = 4 ∨ (m1 : Int) = 8 := qb
  have q1 : 1 ≤ n0 := by have : (1 : Int) ≤ n0 := qc; omega
  have q2 : n0 ≤ 16 := by have : (n0 : Int) ≤ 16 := qd; omega
  have q3 : 1 ≤ d0 := by have : (1 : Int) ≤ d0 := qe; omega
  have q4 : d0 ≤ 16 := by have : (d0 : Int) ≤ 16 := qf; omega
  have OK0 : Hid (Pk.Ok m0) := by show m0 = 2 ∨ m0 = 4 ∨ m0 = 8; omega
  have OK1 : Hid (Pk.Ok m1) := by show m1 = 2 ∨ m1 = 4 ∨ m1 = 8; omega
  have HNN : Hid (9 + Pg.gsize m0 n0 * d0 + Pg.gsize m1 d0 * n0 + 4 = N) := by rw [← hN]; exact rfl
  clear hm hc hc2 ha hb hs eo eo9 h0 hy hq qa qb qc qd qe qf qa' qb' hN
  go_enter Tryz.func17, Tryz.ntmps17
  go_wp2_with fail
  refine (open_ok _ m _ k l HM.out (by omega) hl HC.out HC2.out (by omega) _ HA.out HB.out HS.out).mono ?_
  rintro r0 v0 ⟨a0, c0, rfl, hL0, hk0, hk1, hn0, hb0⟩
  have L0 : Hid (Lst .u8 v0 a0 o ∧ k ≤ c0 ∧ c0 ≤ maxLen ∧ (a0 = none → c0 = 0) ∧ Below w.heap.size w v0) := ⟨by rw [← EO.out]; exact hL0, hk0, hk1, hn0, hb0⟩
  clear hL0 hk0 hk1 hn0 hb0
  go_wp2_with fail
  refine (newReader_any _ k _ o OL.out.symm ol _ L0.out.1 OB.out L0.out.2.2.2.1).mono ?_
  rintro r1 v1 ⟨g, rfl, hg, hr1, hb1⟩
  have R1 : Hid (Rdr v1 g o false) := hr1
  have B1 : Hid (Below w.heap.size w v1) := below_then L0.out.2.2.2.2 hb1
  have hgw : w.heap.size ≤ g := by have := L0.out.2.2.2.2.size; omega
  have hgv := R1.out.lt
  clear hg hr1 hb1
  go_wp2_with fail
  refine (headRead_ok g x0 m0 m1 n0 d0 h4 h5 x7 x8 h6 r _ (by rw [← EO9.out]; exact R1.out) H0.out HY.out HQ.out).mono ?_
  rintro r2 v2 ⟨rfl, hb2, hr2⟩
  have B2 : Hid (Below w.heap.size w v2) := B1.out.trans (hb2.1.mono hgw)
  have R2 : Hid (Rdr v2 g r false) := hr2
  have hv2 : g < v2.heap.size := hr2.lt
  clear hb2 hr2
  go_wp2_with fail
  refine (sizeP_any m0 m1 n0 d0 h4 h5 h6 N _ OK0.out OK1.out q2 q4 HQ.out HNN.out).mono ?_
  rintro r4 v4 ⟨rfl, hb4⟩
  have B4 : Hid (Below w.heap.size w v4) := below_then (below_then B2.out (box_below _ _)) hb4
  have R4 : Hid (Rdr v4 g r false) := (R2.out.keep (box_below _ _)).keep hb4
  have H4 : Hid (v4.rowIs v2.heap.size 23 7 (pgc m0 m1 n0 d0 h4 h5 h6 (.slice none 0 0) (.slice none 0 0))) := by
    have := World.rowIs_alloc v2 #[.int .i64 (m0 : Int), .int .i64 (m1 : Int), .int .i64 (n0 : Int), .int .i64 (d0 : Int), .int .i64 h4, .int .i64 h5, .int .i64 h6] 23 (pgc m0 m1 n0 d0 h4 h5 h6 (.slice none 0 0) (.slice none 0 0)) (fun i hi => by match i, hi with | 0, _ => rfl | 1, _ => rfl | 2, _ => rfl | 3, _ => rfl | 4, _ => rfl | 5, _ => rfl | 6, _ => rfl)
    exact row_keep this hb4
  have hv4 : v2.heap.size < v4.heap.size := H4.out.lt
  obtain ⟨x0', x1', x2', x3', x4', x5', x6'⟩ : HdAt v4 v2.heap.size m0 m1 n0 d0 h4 h5 h6 := ⟨H4.out.cell (i := 0) (by decide), H4.out.cell (i := 1) (by decide), H4.out.cell (i := 2) (by decide), H4.out.cell (i := 3) (by decide), H4.out.cell (i := 4) (by decide), H4.out.cell (i := 5) (by decide), H4.out.cell (i := 6) (by decide)⟩
  clear hb4
  have t1 : decide ((m : Int) < (N : Int)) = true := decide_eq_true (by omega)
  go_wp2
  go_ret2
  exact ⟨rfl, B4.out⟩
set_option maxRecDepth 100000 in
set_option maxHeartbeats 3200000 in
theorem parseP_more (a : Option Addr) (m c : Nat) (l : List Int) (w : World) (hm : m = l.length) (hl : l.length ≤ 10000) (hc : m ≤ c) (hc2 : c ≤ maxLen) (ha : Lst .u8 w a l) (hb : Sl.Byt l) (h4' : 4 ≤ l.length) (hs : Sl.sealed l = true) (m0 m1 n0 d0 : Nat) (h4 h5 h6 : Int) (x0 x7 x8 : Int) (r : List Int) (eo9 : l.take (l.length - 4) = x0 :: (m0 : Int) :: (m1 : Int) :: (n0 : Int) :: (d0 : Int) :: h4 :: h5 :: x7 :: x8 :: r) (h0 : x0 = 75) (hy : x7 * 256 + x8 = h6) (hq : Pg.rightH [(m0 : Int), m1, n0, d0, h4, h5, h6] = true) (N : Nat) (hN : Pg.psize [(m0 : Int), m1, n0, d0, h4, h5, h6] = N) (hlt : N < m) :
    Calls Tryz.prog 17 #[.slice a m c] w fun r w' => r = .returned (.tuple #[.pointer none, .int .i64 17]) ∧ Below w.heap.size w w' := by
  have HM : Hid (m = l.length) := hm
  have HC : Hid (m ≤ c) := hc
  have HC2 : Hid (c ≤ maxLen) := hc2
  have HA : Hid (Lst .u8 w a l) := ha
  have HB : Hid (Sl.Byt l) := hb
  have HS : Hid (Sl.sealed l = true) := hs
  obtain ⟨k, ek⟩ : ∃ k, l.length - 4 = k := ⟨_, rfl⟩
  obtain ⟨o, eo⟩ : ∃ o, l.take k = o := ⟨_, rfl⟩
  have OL : Hid (o.length = k) := by show _ = _; rw [← eo]; simp; omega
  have EO : Hid (l.take k = o) := eo
  have OB : Hid (Sl.Byt o) := by rw [← eo]; exact Pg.byt_take hb k
  have ol : o.length ≤ 10000 := by rw [OL.out]; omega
  have EO9 : Hid (o = x0 :: (m0 : Int) :: (m1 : Int) :: (n0 : Int) :: (d0 : Int) :: h4 :: h5 :: x7 :: x8 :: r) := by show _ = _; rw [← eo, ← ek]; exact eo9
  have H0 : Hid (x0 = 75) := h0
  have HY : Hid (x7 * 256 + x8 = h6) := hy
  have HQ : Hid (Pg.rightH [(m0 : Int), m1, n0, d0, h4, h5, h6] = true) := hq
  obtain ⟨qa, qb, qc, qd, qe, qf, _⟩ := Pg.rightH_all hq
  have qa' : (m0 : Int) = 2 ∨ (m0 : Int) = 4 ∨ (m0 : Int) = 8 := qa
  have qb' : (m1 : Int) = 2 ∨ (m1 : Int) = 4 ∨ (m1 : Int) = 8 := qb
  have q1 : 1 ≤ n0 := by have : (1 : Int) ≤ n0 := qc; omega
  have q2 : n0 ≤ 16 := by have : (n0 : Int) ≤ 16 := qd; omega
  have q3 : 1 ≤ d0 := by have : (1 : Int) ≤ d0 := qe; omega
  have q4 : d0 ≤ 16 := by have : (d0 : Int) ≤ 16 := qf; omega
  have OK0 : Hid (Pk.Ok m0) := by show m0 = 2 ∨ m0 = 4 ∨ m0 = 8; omega
  have OK1 : Hid (Pk.Ok m1) := by show m1 = 2 ∨ m1 = 4 ∨ m1 = 8; omega
  have HNN : Hid (9 + Pg.gsize m0 n0 * d0 + Pg.gsize m1 d0 * n0 + 4 = N) := by rw [← hN]; exact rfl
  clear hm hc hc2 ha hb hs eo eo9 h0 hy hq qa qb qc qd qe qf qa' qb' hN
  go_enter Tryz.func17, Tryz.ntmps17
  go_wp2_with fail
  refine (open_ok _ m _ k l HM.out (by omega) hl HC.out HC2.out (by omega) _ HA.out HB.out HS.out).mono ?_
  rintro r0 v0 ⟨a0, c0, rfl, hL0, hk0, hk1, hn0, hb0⟩
  have L0 : Hid (Lst .u8 v0 a0 o ∧ k ≤ c0 ∧ c0 ≤ maxLen ∧ (a0 = none → c0 = 0) ∧ Below w.heap.size w v0) := ⟨by rw [← EO.out]; exact hL0, hk0, hk1, hn0, hb0⟩
  clear hL0 hk0 hk1 hn0 hb0
  go_wp2_with fail
  refine (newReader_any _ k _ o OL.out.symm ol _ L0.out.1 OB.out L0.out.2.2.2.1).mono ?_
  rintro r1 v1 ⟨g, rfl, hg, hr1, hb1⟩
  have R1 : Hid (Rdr v1 g o false) := hr1
  have B1 : Hid (Below w.heap.size w v1) := below_then L0.out.2.2.2.2 hb1
  have hgw : w.heap.size ≤ g := by have := L0.out.2.2.2.2.size; omega
  have hgv := R1.out.lt
  clear hg hr1 hb1
  go_wp2_with fail
  refine (headRead_ok g x0 m0 m1 n0 d0 h4 h5 x7 x8 h6 r _ (by rw [← EO9.out]; exact R1.out) H0.out HY.out HQ.out).mono ?_
  rintro r2 v2 ⟨rfl, hb2, hr2⟩
  have B2 : Hid (Below w.heap.size w v2) := B1.out.trans (hb2.1.mono hgw)
  have R2 : Hid (Rdr v2 g r false) := hr2
  have hv2 : g < v2.heap.size := hr2.lt
  clear hb2 hr2
  go_wp2_with fail
  refine (sizeP_any m0 m1 n0 d0 h4 h5 h6 N _ OK0.out OK1.out q2 q4 HQ.out HNN.out).mono ?_
  rintro r4 v4 ⟨rfl, hb4⟩
  have B4 : Hid (Below w.heap.size w v4) := below_then (below_then B2.out (box_below _ _)) hb4
  have R4 : Hid (Rdr v4 g r false) := (R2.out.keep (box_below _ _)).keep hb4
  have H4 : Hid (v4.rowIs v2.heap.size 23 7 (pgc m0 m1 n0 d0 h4 h5 h6 (.slice none 0 0) (.slice none 0 0))) := by
    have := World.rowIs_alloc v2 #[.int .i64 (m0 : Int), .int .i64 (m1 : Int), .int .i64 (n0 : Int), .int .i64 (d0 : Int), .int .i64 h4, .int .i64 h5, .int .i64 h6] 23 (pgc m0 m1 n0 d0 h4 h5 h6 (.slice none 0 0) (.slice none 0 0)) (fun i hi => by match i, hi with | 0, _ => rfl | 1, _ => rfl | 2, _ => rfl | 3, _ => rfl | 4, _ => rfl | 5, _ => rfl | 6, _ => rfl)
    exact row_keep this hb4
  have hv4 : v2.heap.size < v4.heap.size := H4.out.lt
  obtain ⟨x0', x1', x2', x3', x4', x5', x6'⟩ : HdAt v4 v2.heap.size m0 m1 n0 d0 h4 h5 h6 := ⟨H4.out.cell (i := 0) (by decide), H4.out.cell (i := 1) (by decide), H4.out.cell (i := 2) (by decide), H4.out.cell (i := 3) (by decide), H4.out.cell (i := 4) (by decide), H4.out.cell (i := 5) (by decide), H4.out.cell (i := 6) (by decide)⟩
  clear hb4
  have t1 : decide ((m : Int) < (N : Int)) = false := decide_eq_false (by omega)
  have t2 : decide ((N : Int) < (m : Int)) = true := decide_eq_true (by omega)
  go_wp2
  go_ret2
  exact ⟨rfl, B4.out⟩
set_option maxRecDepth 100000 in
set_option maxHeartbeats 3200000 in
theorem parseP_keys (a : Option Addr) (m c : Nat) (l : List Int) (w : World) (hm : m = l.length) (hl : l.length ≤ 10000) (hc : m ≤ c) (hc2 : c ≤ maxLen) (ha : Lst .u8 w a l) (hb : Sl.Byt l) (h4' : 4 ≤ l.length) (hs : Sl.sealed l = true) (m0 m1 n0 d0 : Nat) (h4 h5 h6 : Int) (x0 x7 x8 : Int) (r : List Int) (eo9 : l.take (l.length - 4) = x0 :: (m0 : Int) :: (m1 : Int) :: (n0 : Int) :: (d0 : Int) :: h4 :: h5 :: x7 :: x8 :: r) (h0 : x0 = 75) (hy : x7 * 256 + x8 = h6) (hq : Pg.rightH [(m0 : Int), m1, n0, d0, h4, h5, h6] = true) (N : Nat) (hN : Pg.psize [(m0 : Int), m1, n0, d0, h4, h5, h6] = N) (hlt : m = N) (ek1 : Int) (he1 : Pg.gerrN m0 n0 r d0 = ek1) (hne : ¬ ek1 = 0) :
    Calls Tryz.prog 17 #[.slice a m c] w fun r w' => r = .returned (.tuple #[.pointer none, .int .i64 ek1]) ∧ Below w.heap.size w w' := by
  have HLT : Hid (m = N) := hlt
  clear hlt
  have HM : Hid (m = l.length) := hm
  have HC : Hid (m ≤ c) := hc
  have HC2 : Hid (c ≤ maxLen) := hc2
  have HA : Hid (Lst .u8 w a l) := ha
  have HB : Hid (Sl.Byt l) := hb
  have HS : Hid (Sl.sealed l = true) := hs
  obtain ⟨k, ek⟩ : ∃ k, l.length - 4 = k := ⟨_, rfl⟩
  obtain ⟨o, eo⟩ : ∃ o, l.take k = o := ⟨_, rfl⟩
  have OL : Hid (o.length = k) := by show _ = _; rw [← eo]; simp; omega
  have EO : Hid (l.take k = o) := eo
  have OB : Hid (Sl.Byt o) := by rw [← eo]; exact Pg.byt_take hb k
  have ol : o.length ≤ 10000 := by rw [OL.out]; omega
  have EO9 : Hid (o = x0 :: (m0 : Int) :: (m1 : Int) :: (n0 : Int) :: (d0 : Int) :: h4 :: h5 :: x7 :: x8 :: r) := by show _ = _; rw [← eo, ← ek]; exact eo9
  have H0 : Hid (x0 = 75) := h0
  have HY : Hid (x7 * 256 + x8 = h6) := hy
  have HQ : Hid (Pg.rightH [(m0 : Int), m1, n0, d0, h4, h5, h6] = true) := hq
  obtain ⟨qa, qb, qc, qd, qe, qf, _⟩ := Pg.rightH_all hq
  have qa' : (m0 : Int) = 2 ∨ (m0 : Int) = 4 ∨ (m0 : Int) = 8 := qa
  have qb' : (m1 : Int) = 2 ∨ (m1 : Int) = 4 ∨ (m1 : Int) = 8 := qb
  have q1 : 1 ≤ n0 := by have : (1 : Int) ≤ n0 := qc; omega
  have q2 : n0 ≤ 16 := by have : (n0 : Int) ≤ 16 := qd; omega
  have q3 : 1 ≤ d0 := by have : (1 : Int) ≤ d0 := qe; omega
  have q4 : d0 ≤ 16 := by have : (d0 : Int) ≤ 16 := qf; omega
  have OK0 : Hid (Pk.Ok m0) := by show m0 = 2 ∨ m0 = 4 ∨ m0 = 8; omega
  have OK1 : Hid (Pk.Ok m1) := by show m1 = 2 ∨ m1 = 4 ∨ m1 = 8; omega
  have HNN : Hid (9 + Pg.gsize m0 n0 * d0 + Pg.gsize m1 d0 * n0 + 4 = N) := by rw [← hN]; exact rfl
  obtain ⟨m0', s0, e0', st0⟩ := Pg.okB_st (show Gp.okB (m0 : Int) = true by unfold Gp.okB; rcases qa' with e | e | e <;> rw [e] <;> rfl)
  obtain ⟨m1', s1, e1', st1⟩ := Pg.okB_st (show Gp.okB (m1 : Int) = true by unfold Gp.okB; rcases qb' with e | e | e <;> rw [e] <;> rfl)
  obtain rfl : m0 = m0' := by omega
  obtain rfl : m1 = m1' := by omega
  have ST0 : Hid (Gp.St m0 s0) := st0
  have ST1 : Hid (Gp.St m1 s1) := st1
  have RL : Hid (Pg.gsize m0 n0 * d0 + Pg.gsize m1 d0 * n0 = r.length) := by
    show _ = _
    have e1 : o.length = 9 + r.length := by rw [EO9.out]; simp; omega
    have e2 := OL.out
    have e3 := HNN.out
    have e4 := HLT.out
    omega
  have EK1 : Hid (Pg.gerrN m0 n0 r d0 = ek1) := he1
  clear he1
  clear hm hc hc2 ha hb hs eo eo9 h0 hy hq qa qb qc qd qe qf qa' qb' hN e0' e1' st0 st1
  go_enter Tryz.func17, Tryz.ntmps17
  go_wp2_with fail
  refine (open_ok _ m _ k l HM.out (by omega) hl HC.out HC2.out (by omega) _ HA.out HB.out HS.out).mono ?_
  rintro r0 v0 ⟨a0, c0, rfl, hL0, hk0, hk1, hn0, hb0⟩
  have L0 : Hid (Lst .u8 v0 a0 o ∧ k ≤ c0 ∧ c0 ≤ maxLen ∧ (a0 = none → c0 = 0) ∧ Below w.heap.size w v0) := ⟨by rw [← EO.out]; exact hL0, hk0, hk1, hn0, hb0⟩
  clear hL0 hk0 hk1 hn0 hb0
  go_wp2_with fail
  refine (newReader_any _ k _ o OL.out.symm ol _ L0.out.1 OB.out L0.out.2.2.2.1).mono ?_
  rintro r1 v1 ⟨g, rfl, hg, hr1, hb1⟩
  have R1 : Hid (Rdr v1 g o false) := hr1
  have B1 : Hid (Below w.heap.size w v1) := below_then L0.out.2.2.2.2 hb1
  have hgw : w.heap.size ≤ g := by have := L0.out.2.2.2.2.size; omega
  have hgv := R1.out.lt
  clear hg hr1 hb1
  go_wp2_with fail
  refine (headRead_ok g x0 m0 m1 n0 d0 h4 h5 x7 x8 h6 r _ (by rw [← EO9.out]; exact R1.out) H0.out HY.out HQ.out).mono ?_
  rintro r2 v2 ⟨rfl, hb2, hr2⟩
  have B2 : Hid (Below w.heap.size w v2) := B1.out.trans (hb2.1.mono hgw)
  have R2 : Hid (Rdr v2 g r false) := hr2
  have hv2 : g < v2.heap.size := hr2.lt
  clear hb2 hr2
  go_wp2_with fail
  refine (sizeP_any m0 m1 n0 d0 h4 h5 h6 N _ OK0.out OK1.out q2 q4 HQ.out HNN.out).mono ?_
  rintro r4 v4 ⟨rfl, hb4⟩
  have B4 : Hid (Below w.heap.size w v4) := below_then (below_then B2.out (box_below _ _)) hb4
  have R4 : Hid (Rdr v4 g r false) := (R2.out.keep (box_below _ _)).keep hb4
  have H4 : Hid (v4.rowIs v2.heap.size 23 7 (pgc m0 m1 n0 d0 h4 h5 h6 (.slice none 0 0) (.slice none 0 0))) := by
    have := World.rowIs_alloc v2 #[.int .i64 (m0 : Int), .int .i64 (m1 : Int), .int .i64 (n0 : Int), .int .i64 (d0 : Int), .int .i64 h4, .int .i64 h5, .int .i64 h6] 23 (pgc m0 m1 n0 d0 h4 h5 h6 (.slice none 0 0) (.slice none 0 0)) (fun i hi => by match i, hi with | 0, _ => rfl | 1, _ => rfl | 2, _ => rfl | 3, _ => rfl | 4, _ => rfl | 5, _ => rfl | 6, _ => rfl)
    exact row_keep this hb4
  have hv4 : v2.heap.size < v4.heap.size := H4.out.lt
  obtain ⟨x0', x1', x2', x3', x4', x5', x6'⟩ : HdAt v4 v2.heap.size m0 m1 n0 d0 h4 h5 h6 := ⟨H4.out.cell (i := 0) (by decide), H4.out.cell (i := 1) (by decide), H4.out.cell (i := 2) (by decide), H4.out.cell (i := 3) (by decide), H4.out.cell (i := 4) (by decide), H4.out.cell (i := 5) (by decide), H4.out.cell (i := 6) (by decide)⟩
  clear hb4
  have t1 : ¬ m < N := by have := HLT.out; omega
  have t2 : ¬ N < m := by have := HLT.out; omega
  go_wp2_with fail
  obtain ⟨v5, hv5⟩ : ∃ v, v4.alloc (.cells #[.int .i64 (m0 : Int), .int .i64 (m1 : Int), .int .i64 (n0 : Int), .int .i64 (d0 : Int), .int .i64 h4, .int .i64 h5, .int .i64 h6, .slice none 0 0, .slice none 0 0] 71) = v := ⟨_, rfl⟩
  have S5 : Hid (PsSt w v5 g v2.heap.size v4.heap.size m0 m1 n0 d0 h4 h5 h6 (.slice none 0 0) (.slice none 0 0) r) := by
    rw [← hv5]
    exact ⟨row_keep H4.out (box_below _ _), World.rowIs_alloc v4 #[.int .i64 (m0 : Int), .int .i64 (m1 : Int), .int .i64 (n0 : Int), .int .i64 (d0 : Int), .int .i64 h4, .int .i64 h5, .int .i64 h6, .slice none 0 0, .slice none 0 0] 71 _ (fun i hi => by match i, hi with | 0, _ => rfl | 1, _ => rfl | 2, _ => rfl | 3, _ => rfl | 4, _ => rfl | 5, _ => rfl | 6, _ => rfl | 7, _ => rfl | 8, _ => rfl), R4.out.keep (box_below _ _), below_then B4.out (box_below _ _), hgw, hv2, hv4⟩
  have hv5s : v5.heap.size = v4.heap.size + 1 := by rw [← hv5]; simp
  rw [hv5]
  clear hv5 x0' x1' x2' x3' x4' x5' x6'
  refine (readAll_any g m0 s0 n0 d0 r ek1 _ S5.out.2.2.1 ST0.out q1 (by omega) (by omega) (by have := RL.out; omega) EK1.out).mono ?_
  rintro r6 v6 ⟨hb6, hbad, hok⟩
  have ee := hbad hne
  subst ee
  have B6 : Hid (Below w.heap.size w v6) := S5.out.2.2.2.1.trans (hb6.1.mono hgw)
  have P6 : Hid (v6.rowIs v4.heap.size 71 9 (pgc m0 m1 n0 d0 h4 h5 h6 (.slice none 0 0) (.slice none 0 0))) := hb6.row S5.out.2.1 (by omega)
  have c7 := P6.out.cell (i := 7) (by decide)
  have f7 := P6.out.frozen 7
  have g1 : (ek1 != 0) = true := by simpa using hne
  clear hb6 hbad hok
  go_wp2
  go_ret2
  exact ⟨rfl, B6.out.setCell (p := ⟨v4.heap.size, 7, none⟩) (by show w.heap.size ≤ v4.heap.size; omega) _⟩
set_option maxRecDepth 100000 in
set_option maxHeartbeats 3200000 in
theorem parseP_vals (a : Option Addr) (m c : Nat) (l : List Int) (w : World) (hm : m = l.length) (hl : l.length ≤ 10000) (hc : m ≤ c) (hc2 : c ≤ maxLen) (ha : Lst .u8 w a l) (hb : Sl.Byt l) (h4' : 4 ≤ l.length) (hs : Sl.sealed l = true) (m0 m1 n0 d0 : Nat) (h4 h5 h6 : Int) (x0 x7 x8 : Int) (r : List Int) (eo9 : l.take (l.length - 4) = x0 :: (m0 : Int) :: (m1 : Int) :: (n0 : Int) :: (d0 : Int) :: h4 :: h5 :: x7 :: x8 :: r) (h0 : x0 = 75) (hy : x7 * 256 + x8 = h6) (hq : Pg.rightH [(m0 : Int), m1, n0, d0, h4, h5, h6] = true) (N : Nat) (hN : Pg.psize [(m0 : Int), m1, n0, d0, h4, h5, h6] = N) (hlt : m = N) (he1 : Pg.gerrN m0 n0 r d0 = 0) (ek2 : Int) (he2 : Pg.gerrN m1 d0 (r.drop (Pg.gsize m0 n0 * d0)) n0 = ek2) (hne : ¬ ek2 = 0) :
    Calls Tryz.prog 17 #[.slice a m c] w fun r w' => r = .returned (.tuple #[.pointer none, .int .i64 ek2]) ∧ Below w.heap.size w w' := by
  have HLT : Hid (m = N) := hlt
  clear hlt
  have HM : Hid (m = l.length) := hm
  have HC : Hid (m ≤ c) := hc
  have HC2 : Hid (c ≤ maxLen) := hc2
  have HA : Hid (Lst .u8 w a l) := ha
  have HB : Hid (Sl.Byt l) := hb
  have HS : Hid (Sl.sealed l = true) := hs
  obtain ⟨k, ek⟩ : ∃ k, l.length - 4 = k := ⟨_, rfl⟩
  obtain ⟨o, eo⟩ : ∃ o, l.take k = o := ⟨_, rfl⟩
  have OL : Hid (o.length = k) := by show _ = _; rw [← eo]; simp; omega
  have EO : Hid (l.take k = o) := eo
  have OB : Hid (Sl.Byt o) := by rw [← eo]; exact Pg.byt_take hb k
  have ol : o.length ≤ 10000 := by rw [OL.out]; omega
  have EO9 : Hid (o = x0 :: (m0 : Int) :: (m1 : Int) :: (n0 : Int) :: (d0 : Int) :: h4 :: h5 :: x7 :: x8 :: r) := by show _ = _; rw [← eo, ← ek]; exact eo9
  have H0 : Hid (x0 = 75) := h0
  have HY : Hid (x7 * 256 + x8 = h6) := hy
  have HQ : Hid (Pg.rightH [(m0 : Int), m1, n0, d0, h4, h5, h6] = true) := hq
  obtain ⟨qa, qb, qc, qd, qe, qf, _⟩ := Pg.rightH_all hq
  have qa' : (m0 : Int) = 2 ∨ (m0 : Int) = 4 ∨ (m0 : Int) = 8 := qa
  have qb' : (m1 : Int) = 2 ∨ (m1 : Int) = 4 ∨ (m1 : Int) = 8 := qb
  have q1 : 1 ≤ n0 := by have : (1 : Int) ≤ n0 := qc; omega
  have q2 : n0 ≤ 16 := by have : (n0 : Int) ≤ 16 := qd; omega
  have q3 : 1 ≤ d0 := by have : (1 : Int) ≤ d0 := qe; omega
  have q4 : d0 ≤ 16 := by have : (d0 : Int) ≤ 16 := qf; omega
  have OK0 : Hid (Pk.Ok m0) := by show m0 = 2 ∨ m0 = 4 ∨ m0 = 8; omega
  have OK1 : Hid (Pk.Ok m1) := by show m1 = 2 ∨ m1 = 4 ∨ m1 = 8; omega
  have HNN : Hid (9 + Pg.gsize m0 n0 * d0 + Pg.gsize m1 d0 * n0 + 4 = N) := by rw [← hN]; exact rfl
  obtain ⟨m0', s0, e0', st0⟩ := Pg.okB_st (show Gp.okB (m0 : Int) = true by unfold Gp.okB; rcases qa' with e | e | e <;> rw [e] <;> rfl)
  obtain ⟨m1', s1, e1', st1⟩ := Pg.okB_st (show Gp.okB (m1 : Int) = true by unfold Gp.okB; rcases qb' with e | e | e <;> rw [e] <;> rfl)
  obtain rfl : m0 = m0' := by omega
  obtain rfl : m1 = m1' := by omega
  have ST0 : Hid (Gp.St m0 s0) := st0
  have ST1 : Hid (Gp.St m1 s1) := st1
  have RL : Hid (Pg.gsize m0 n0 * d0 + Pg.gsize m1 d0 * n0 = r.length) := by
    show _ = _
    have e1 : o.length = 9 + r.length := by rw [EO9.out]; simp; omega
    have e2 := OL.out
    have e3 := HNN.out
    have e4 := HLT.out
    omega
  have EK1 : Hid (Pg.gerrN m0 n0 r d0 = 0) := he1
  have EK2 : Hid (Pg.gerrN m1 d0 (r.drop (Pg.gsize m0 n0 * d0)) n0 = ek2) := he2
  clear he1 he2
  clear hm hc hc2 ha hb hs eo eo9 h0 hy hq qa qb qc qd qe qf qa' qb' hN e0' e1' st0 st1
  go_enter Tryz.func17, Tryz.ntmps17
  go_wp2_with fail
  refine (open_ok _ m _ k l HM.out (by omega) hl HC.out HC2.out (by omega) _ HA.out HB.out HS.out).mono ?_
  rintro r0 v0 ⟨a0, c0, rfl, hL0, hk0, hk1, hn0, hb0⟩
  have L0 : Hid (Lst .u8 v0 a0 o ∧ k ≤ c0 ∧ c0 ≤ maxLen ∧ (a0 = none → c0 = 0) ∧ Below w.heap.size w v0) := ⟨by rw [← EO.out]; exact hL0, hk0, hk1, hn0, hb0⟩
  clear hL0 hk0 hk1 hn0 hb0
  go_wp2_with fail
  refine (newReader_any _ k _ o OL.out.symm ol _ L0.out.1 OB.out L0.out.2.2.2.1).mono ?_
  rintro r1 v1 ⟨g, rfl, hg, hr1, hb1⟩
  have R1 : Hid (Rdr v1 g o false) := hr1
  have B1 : Hid (Below w.heap.size w v1) := below_then L0.out.2.2.2.2 hb1
  have hgw : w.heap.size ≤ g := by have := L0.out.2.2.2.2.size; omega
  have hgv := R1.out.lt
  clear hg hr1 hb1
  go_wp2_with fail
  refine (headRead_ok g x0 m0 m1 n0 d0 h4 h5 x7 x8 h6 r _ (by rw [← EO9.out]; exact R1.out) H0.out HY.out HQ.out).mono ?_
  rintro r2 v2 ⟨rfl, hb2, hr2⟩
  have B2 : Hid (Below w.heap.size w v2) := B1.out.trans (hb2.1.mono hgw)
  have R2 : Hid (Rdr v2 g r false) := hr2
  have hv2 : g < v2.heap.size := hr2.lt
  clear hb2 hr2
  go_wp2_with fail
  refine (sizeP_any m0 m1 n0 d0 h4 h5 h6 N _ OK0.out OK1.out q2 q4 HQ.out HNN.out).mono ?_
  rintro r4 v4 ⟨rfl, hb4⟩
  have B4 : Hid (Below w.heap.size w v4) := below_then (below_then B2.out (box_below _ _)) hb4
  have R4 : Hid (Rdr v4 g r false) := (R2.out.keep (box_below _ _)).keep hb4
  have H4 : Hid (v4.rowIs v2.heap.size 23 7 (pgc m0 m1 n0 d0 h4 h5 h6 (.slice none 0 0) (.slice none 0 0))) := by
    have := World.rowIs_alloc v2 #[.int .i64 (m0 : Int), .int .i64 (m1 : Int), .int .i64 (n0 : Int), .int .i64 (d0 : Int), .int .i64 h4, .int .i64 h5, .int .i64 h6] 23 (pgc m0 m1 n0 d0 h4 h5 h6 (.slice none 0 0) (.slice none 0 0)) (fun i hi => by match i, hi with | 0, _ => rfl | 1, _ => rfl | 2, _ => rfl | 3, _ => rfl | 4, _ => rfl | 5, _ => rfl | 6, _ => rfl)
    exact row_keep this hb4
  have hv4 : v2.heap.size < v4.heap.size := H4.out.lt
  obtain ⟨x0', x1', x2', x3', x4', x5', x6'⟩ : HdAt v4 v2.heap.size m0 m1 n0 d0 h4 h5 h6 := ⟨H4.out.cell (i := 0) (by decide), H4.out.cell (i := 1) (by decide), H4.out.cell (i := 2) (by decide), H4.out.cell (i := 3) (by decide), H4.out.cell (i := 4) (by decide), H4.out.cell (i := 5) (by decide), H4.out.cell (i := 6) (by decide)⟩
  clear hb4
  have t1 : ¬ m < N := by have := HLT.out; omega
  have t2 : ¬ N < m := by have := HLT.out; omega
  go_wp2_with fail
  obtain ⟨v5, hv5⟩ : ∃ v, v4.alloc (.cells #[.int .i64 (m0 : Int), .int .i64 (m1 : Int), .int .i64 (n0 : Int), .int .i64 (d0 : Int), .int .i64 h4, .int .i64 h5, .int .i64 h6, .slice none 0 0, .slice none 0 0] 71) = v := ⟨_, rfl⟩
  have S5 : Hid (PsSt w v5 g v2.heap.size v4.heap.size m0 m1 n0 d0 h4 h5 h6 (.slice none 0 0) (.slice none 0 0) r) := by
    rw [← hv5]
    exact ⟨row_keep H4.out (box_below _ _), World.rowIs_alloc v4 #[.int .i64 (m0 : Int), .int .i64 (m1 : Int), .int .i64 (n0 : Int), .int .i64 (d0 : Int), .int .i64 h4, .int .i64 h5, .int .i64 h6, .slice none 0 0, .slice none 0 0] 71 _ (fun i hi => by match i, hi with | 0, _ => rfl | 1, _ => rfl | 2, _ => rfl | 3, _ => rfl | 4, _ => rfl | 5, _ => rfl | 6, _ => rfl | 7, _ => rfl | 8, _ => rfl), R4.out.keep (box_below _ _), below_then B4.out (box_below _ _), hgw, hv2, hv4⟩
  have hv5s : v5.heap.size = v4.heap.size + 1 := by rw [← hv5]; simp
  rw [hv5]
  clear hv5 x0' x1' x2' x3' x4' x5' x6'
  refine (readAll_any g m0 s0 n0 d0 r 0 _ S5.out.2.2.1 ST0.out q1 (by omega) (by omega) (by have := RL.out; omega) EK1.out).mono ?_
  rintro r6 v6 ⟨hb6, hbad, hok⟩
  obtain ⟨G1, rfl, hG1, hp1, hr6⟩ := hok rfl
  have S6 : Hid (PsSt w v6 g v2.heap.size v4.heap.size m0 m1 n0 d0 h4 h5 h6 (.slice none 0 0) (.slice none 0 0) (r.drop (Pg.gsize m0 n0 * d0))) := S5.out.but hb6 hr6
  have P6 : Hid (PRow v6 G1 87 (d0 * 4) m0 (Pg.greads m0 n0 d0 r) d0) := hp1
  have hPG : v4.heap.size < G1 := by omega
  obtain ⟨c7, c8, cf⟩ := S6.out.pcells
  have S6' : Hid (PsSt w (v6.setCell ⟨v4.heap.size, 7, none⟩ (.slice (some ⟨G1, 0, none⟩) d0 d0)) g v2.heap.size v4.heap.size m0 m1 n0 d0 h4 h5 h6 (.slice (some ⟨G1, 0, none⟩) d0 d0) (.slice none 0 0) (r.drop (Pg.gsize m0 n0 * d0))) := S6.out.set 7 _ (fun j hj => pgc_set7 m0 m1 n0 d0 h4 h5 h6 _ _ _ j hj)
  have P6' : Hid (PRow (v6.setCell ⟨v4.heap.size, 7, none⟩ (.slice (some ⟨G1, 0, none⟩) d0 d0)) G1 87 (d0 * 4) m0 (Pg.greads m0 n0 d0 r) d0) := P6.out.low hPG 7 _
  clear hbad hok hb6 hG1 hp1 hr6
  obtain ⟨x0', x1', x2', x3', x4', x5', x6'⟩ := S6.out.hcells
  go_wp2_with fail
  obtain ⟨v7, hv7⟩ : ∃ v, v6.setCell ⟨v4.heap.size, 7, none⟩ (.slice (some ⟨G1, 0, none⟩) d0 d0) = v := ⟨_, rfl⟩
  rw [hv7] at S6' P6'
  rw [hv7]
  clear hv7 x0' x1' x2' x3' x4' x5' x6' c7 c8 cf
  refine (readAll_any g m1 s1 d0 n0 (r.drop (Pg.gsize m0 n0 * d0)) ek2 _ S6'.out.2.2.1 ST1.out q3 (by omega) (by omega) (by have := RL.out; simp; omega) EK2.out).mono ?_
  rintro r8 v8 ⟨hb8, hbad, hok⟩
  have ee := hbad hne
  subst ee
  have B8 : Hid (Below w.heap.size w v8) := S6'.out.2.2.2.1.trans (hb8.1.mono hgw)
  have P8 : Hid (v8.rowIs v4.heap.size 71 9 (pgc m0 m1 n0 d0 h4 h5 h6 (.slice (some ⟨G1, 0, none⟩) d0 d0) (.slice none 0 0))) := hb8.row S6'.out.2.1 (by omega)
  have c8 := P8.out.cell (i := 8) (by decide)
  have f8 := P8.out.frozen 8
  have g1 : (ek2 != 0) = true := by simpa using hne
  clear hb8 hbad hok
  go_wp2
  go_ret2
  exact ⟨rfl, B8.out.setCell (p := ⟨v4.heap.size, 8, none⟩) (by show w.heap.size ≤ v4.heap.size; omega) _⟩
set_option maxRecDepth 100000 in
set_option maxHeartbeats 3200000 in
theorem parseP_right (a : Option Addr) (m c : Nat) (l : List Int) (w : World) (hm : m = l.length) (hl : l.length ≤ 10000) (hc : m ≤ c) (hc2 : c ≤ maxLen) (ha : Lst .u8 w a l) (hb : Sl.Byt l) (h4' : 4 ≤ l.length) (hs : Sl.sealed l = true) (m0 m1 n0 d0 : Nat) (h4 h5 h6 : Int) (x0 x7 x8 : Int) (r : List Int) (eo9 : l.take (l.length - 4) = x0 :: (m0 : Int) :: (m1 : Int) :: (n0 : Int) :: (d0 : Int) :: h4 :: h5 :: x7 :: x8 :: r) (h0 : x0 = 75) (hy : x7 * 256 + x8 = h6) (hq : Pg.rightH [(m0 : Int), m1, n0, d0, h4, h5, h6] = true) (N : Nat) (hN : Pg.psize [(m0 : Int), m1, n0, d0, h4, h5, h6] = N) (hlt : m = N) (he1 : Pg.gerrN m0 n0 r d0 = 0) (he2 : Pg.gerrN m1 d0 (r.drop (Pg.gsize m0 n0 * d0)) n0 = 0) (hp : Pg.Page [(m0 : Int), m1, n0, d0, h4, h5, h6] (Pg.greads m0 n0 d0 r) (Pg.greads m1 d0 n0 (r.drop (Pg.gsize m0 n0 * d0)))) :
    Calls Tryz.prog 17 #[.slice a m c] w fun rz w' => ∃ p, rz = .returned (.tuple #[.pointer (some ⟨p, 0, none⟩), .int .i64 0]) ∧ PageAt w' p m0 m1 n0 d0 h4 h5 h6 (Pg.greads m0 n0 d0 r) (Pg.greads m1 d0 n0 (r.drop (Pg.gsize m0 n0 * d0))) ∧ Below w.heap.size w w' := by
  have HLT : Hid (m = N) := hlt
  clear hlt
  have HM : Hid (m = l.length) := hm
  have HC : Hid (m ≤ c) := hc
  have HC2 : Hid (c ≤ maxLen) := hc2
  have HA : Hid (Lst .u8 w a l) := ha
  have HB : Hid (Sl.Byt l) := hb
  have HS : Hid (Sl.sealed l = true) := hs
  obtain ⟨k, ek⟩ : ∃ k, l.length - 4 = k := ⟨_, rfl⟩
  obtain ⟨o, eo⟩ : ∃ o, l.take k = o := ⟨_, rfl⟩
  have OL : Hid (o.length = k) := by show _ = _; rw [← eo]; simp; omega
  have EO : Hid (l.take k = o) := eo
  have OB : Hid (Sl.Byt o) := by rw [← eo]; exact Pg.byt_take hb k
  have ol : o.length ≤ 10000 := by rw [OL.out]; omega
  have EO9 : Hid (o = x0 :: (m0 : Int) :: (m1 : Int) :: (n0 : Int) :: (d0 : Int) :: h4 :: h5 :: x7 :: x8 :: r) := by show _ = _; rw [← eo, ← ek]; exact eo9
  have H0 : Hid (x0 = 75) := h0
  have HY : Hid (x7 * 256 + x8 = h6) := hy
  have HQ : Hid (Pg.rightH [(m0 : Int), m1, n0, d0, h4, h5, h6] = true) := hq
  obtain ⟨qa, qb, qc, qd, qe, qf, _⟩ := Pg.rightH_all hq
  have qa' : (m0 : Int) = 2 ∨ (m0 : Int) = 4 ∨ (m0 : Int) = 8 := qa
  have qb' : (m1 : Int) = 2 ∨ (m1 : Int) = 4 ∨ (m1 : Int) = 8 := qb
  have q1 : 1 ≤ n0 := by have : (1 : Int) ≤ n0 := qc; omega
  have q2 : n0 ≤ 16 := by have : (n0 : Int) ≤ 16 := qd; omega
  have q3 : 1 ≤ d0 := by have : (1 : Int) ≤ d0 := qe; omega
  have q4 : d0 ≤ 16 := by have : (d0 : Int) ≤ 16 := qf; omega
  have OK0 : Hid (Pk.Ok m0) := by show m0 = 2 ∨ m0 = 4 ∨ m0 = 8; omega
  have OK1 : Hid (Pk.Ok m1) := by show m1 = 2 ∨ m1 = 4 ∨ m1 = 8; omega
  have HNN : Hid (9 + Pg.gsize m0 n0 * d0 + Pg.gsize m1 d0 * n0 + 4 = N) := by rw [← hN]; exact rfl
  obtain ⟨m0', s0, e0', st0⟩ := Pg.okB_st (show Gp.okB (m0 : Int) = true by unfold Gp.okB; rcases qa' with e | e | e <;> rw [e] <;> rfl)
  obtain ⟨m1', s1, e1', st1⟩ := Pg.okB_st (show Gp.okB (m1 : Int) = true by unfold Gp.okB; rcases qb' with e | e | e <;> rw [e] <;> rfl)
  obtain rfl : m0 = m0' := by omega
  obtain rfl : m1 = m1' := by omega
  have ST0 : Hid (Gp.St m0 s0) := st0
  have ST1 : Hid (Gp.St m1 s1) := st1
  have RL : Hid (Pg.gsize m0 n0 * d0 + Pg.gsize m1 d0 * n0 = r.length) := by
    show _ = _
    have e1 : o.length = 9 + r.length := by rw [EO9.out]; simp; omega
    have e2 := OL.out
    have e3 := HNN.out
    have e4 := HLT.out
    omega
  have EK1 : Hid (Pg.gerrN m0 n0 r d0 = 0) := he1
  have EK2 : Hid (Pg.gerrN m1 d0 (r.drop (Pg.gsize m0 n0 * d0)) n0 = 0) := he2
  clear he1 he2
  have HP : Hid (Pg.Page [(m0 : Int), m1, n0, d0, h4, h5, h6] (Pg.greads m0 n0 d0 r) (Pg.greads m1 d0 n0 (r.drop (Pg.gsize m0 n0 * d0)))) := hp
  clear hp
  clear hm hc hc2 ha hb hs eo eo9 h0 hy hq qa qb qc qd qe qf qa' qb' hN e0' e1' st0 st1
  go_enter Tryz.func17, Tryz.ntmps17
  go_wp2_with fail
  refine (open_ok _ m _ k l HM.out (by omega) hl HC.out HC2.out (by omega) _ HA.out HB.out HS.out).mono ?_
  rintro r0 v0 ⟨a0, c0, rfl, hL0, hk0, hk1, hn0, hb0⟩
  have L0 : Hid (Lst .u8 v0 a0 o ∧ k ≤ c0 ∧ c0 ≤ maxLen ∧ (a0 = none → c0 = 0) ∧ Below w.heap.size w v0) := ⟨by rw [← EO.out]; exact hL0, hk0, hk1, hn0, hb0⟩
  clear hL0 hk0 hk1 hn0 hb0
  go_wp2_with fail
  refine (newReader_any _ k _ o OL.out.symm ol _ L0.out.1 OB.out L0.out.2.2.2.1).mono ?_
  rintro r1 v1 ⟨g, rfl, hg, hr1, hb1⟩
  have R1 : Hid (Rdr v1 g o false) := hr1
  have B1 : Hid (Below w.heap.size w v1) := below_then L0.out.2.2.2.2 hb1
  have hgw : w.heap.size ≤ g := by have := L0.out.2.2.2.2.size; omega
  have hgv := R1.out.lt
  clear hg hr1 hb1
  go_wp2_with fail
  refine (headRead_ok g x0 m0 m1 n0 d0 h4 h5 x7 x8 h6 r _ (by rw [← EO9.out]; exact R1.out) H0.out HY.out HQ.out).mono ?_
  rintro r2 v2 ⟨rfl, hb2, hr2⟩
  have B2 : Hid (Below w.heap.size w v2) := B1.out.trans (hb2.1.mono hgw)
  have R2 : Hid (Rdr v2 g r false) := hr2
  have hv2 : g < v2.heap.size := hr2.lt
  clear hb2 hr2
  go_wp2_with fail
  refine (sizeP_any m0 m1 n0 d0 h4 h5 h6 N _ OK0.out OK1.out q2 q4 HQ.out HNN.out).mono ?_
  rintro r4 v4 ⟨rfl, hb4⟩
  have B4 : Hid (Below w.heap.size w v4) := below_then (below_then B2.out (box_below _ _)) hb4
  have R4 : Hid (Rdr v4 g r false) := (R2.out.keep (box_below _ _)).keep hb4
  have H4 : Hid (v4.rowIs v2.heap.size 23 7 (pgc m0 m1 n0 d0 h4 h5 h6 (.slice none 0 0) (.slice none 0 0))) := by
    have := World.rowIs_alloc v2 #[.int .i64 (m0 : Int), .int .i64 (m1 : Int), .int .i64 (n0 : Int), .int .i64 (d0 : Int), .int .i64 h4, .int .i64 h5, .int .i64 h6] 23 (pgc m0 m1 n0 d0 h4 h5 h6 (.slice none 0 0) (.slice none 0 0)) (fun i hi => by match i, hi with | 0, _ => rfl | 1, _ => rfl | 2, _ => rfl | 3, _ => rfl | 4, _ => rfl | 5, _ => rfl | 6, _ => rfl)
    exact row_keep this hb4
  have hv4 : v2.heap.size < v4.heap.size := H4.out.lt
  obtain ⟨x0', x1', x2', x3', x4', x5', x6'⟩ : HdAt v4 v2.heap.size m0 m1 n0 d0 h4 h5 h6 := ⟨H4.out.cell (i := 0) (by decide), H4.out.cell (i := 1) (by decide), H4.out.cell (i := 2) (by decide), H4.out.cell (i := 3) (by decide), H4.out.cell (i := 4) (by decide), H4.out.cell (i := 5) (by decide), H4.out.cell (i := 6) (by decide)⟩
  clear hb4
  have t1 : ¬ m < N := by have := HLT.out; omega
  have t2 : ¬ N < m := by have := HLT.out; omega
  go_wp2_with fail
  obtain ⟨v5, hv5⟩ : ∃ v, v4.alloc (.cells #[.int .i64 (m0 : Int), .int .i64 (m1 : Int), .int .i64 (n0 : Int), .int .i64 (d0 : Int), .int .i64 h4, .int .i64 h5, .int .i64 h6, .slice none 0 0, .slice none 0 0] 71) = v := ⟨_, rfl⟩
  have S5 : Hid (PsSt w v5 g v2.heap.size v4.heap.size m0 m1 n0 d0 h4 h5 h6 (.slice none 0 0) (.slice none 0 0) r) := by
    rw [← hv5]
    exact ⟨row_keep H4.out (box_below _ _), World.rowIs_alloc v4 #[.int .i64 (m0 : Int), .int .i64 (m1 : Int), .int .i64 (n0 : Int), .int .i64 (d0 : Int), .int .i64 h4, .int .i64 h5, .int .i64 h6, .slice none 0 0, .slice none 0 0] 71 _ (fun i hi => by match i, hi with | 0, _ => rfl | 1, _ => rfl | 2, _ => rfl | 3, _ => rfl | 4, _ => rfl | 5, _ => rfl | 6, _ => rfl | 7, _ => rfl | 8, _ => rfl), R4.out.keep (box_below _ _), below_then B4.out (box_below _ _), hgw, hv2, hv4⟩
  have hv5s : v5.heap.size = v4.heap.size + 1 := by rw [← hv5]; simp
  rw [hv5]
  clear hv5 x0' x1' x2' x3' x4' x5' x6'
  refine (readAll_any g m0 s0 n0 d0 r 0 _ S5.out.2.2.1 ST0.out q1 (by omega) (by omega) (by have := RL.out; omega) EK1.out).mono ?_
  rintro r6 v6 ⟨hb6, hbad, hok⟩
  obtain ⟨G1, rfl, hG1, hp1, hr6⟩ := hok rfl
  have S6 : Hid (PsSt w v6 g v2.heap.size v4.heap.size m0 m1 n0 d0 h4 h5 h6 (.slice none 0 0) (.slice none 0 0) (r.drop (Pg.gsize m0 n0 * d0))) := S5.out.but hb6 hr6
  have P6 : Hid (PRow v6 G1 87 (d0 * 4) m0 (Pg.greads m0 n0 d0 r) d0) := hp1
  have hPG : v4.heap.size < G1 := by omega
  obtain ⟨c7, c8, cf⟩ := S6.out.pcells
  have S6' : Hid (PsSt w (v6.setCell ⟨v4.heap.size, 7, none⟩ (.slice (some ⟨G1, 0, none⟩) d0 d0)) g v2.heap.size v4.heap.size m0 m1 n0 d0 h4 h5 h6 (.slice (some ⟨G1, 0, none⟩) d0 d0) (.slice none 0 0) (r.drop (Pg.gsize m0 n0 * d0))) := S6.out.set 7 _ (fun j hj => pgc_set7 m0 m1 n0 d0 h4 h5 h6 _ _ _ j hj)
  have P6' : Hid (PRow (v6.setCell ⟨v4.heap.size, 7, none⟩ (.slice (some ⟨G1, 0, none⟩) d0 d0)) G1 87 (d0 * 4) m0 (Pg.greads m0 n0 d0 r) d0) := P6.out.low hPG 7 _
  clear hbad hok hb6 hG1 hp1 hr6
  obtain ⟨x0', x1', x2', x3', x4', x5', x6'⟩ := S6.out.hcells
  go_wp2_with fail
  obtain ⟨v7, hv7⟩ : ∃ v, v6.setCell ⟨v4.heap.size, 7, none⟩ (.slice (some ⟨G1, 0, none⟩) d0 d0) = v := ⟨_, rfl⟩
  rw [hv7] at S6' P6'
  rw [hv7]
  clear hv7 x0' x1' x2' x3' x4' x5' x6' c7 c8 cf
  refine (readAll_any g m1 s1 d0 n0 (r.drop (Pg.gsize m0 n0 * d0)) 0 _ S6'.out.2.2.1 ST1.out q3 (by omega) (by omega) (by have := RL.out; simp; omega) EK2.out).mono ?_
  rintro r8 v8 ⟨hb8, hbad, hok⟩
  obtain ⟨G2, rfl, hG2, hp2, hr8⟩ := hok rfl
  have S8 : Hid (PsSt w v8 g v2.heap.size v4.heap.size m0 m1 n0 d0 h4 h5 h6 (.slice (some ⟨G1, 0, none⟩) d0 d0) (.slice none 0 0) _) := S6'.out.but hb8 hr8
  have P8 : Hid (PRow v8 G1 87 (d0 * 4) m0 (Pg.greads m0 n0 d0 r) d0 ∧ PRow v8 G2 87 (n0 * 4) m1 (Pg.greads m1 d0 n0 (r.drop (Pg.gsize m0 n0 * d0))) n0) := ⟨P6'.out.but hb8 (by omega), hp2⟩
  have hPG2 : v4.heap.size < G2 := by have := S6'.out.2.1.lt; omega
  obtain ⟨c7, c8, cf⟩ := S8.out.pcells
  clear hbad hok hb8 hG2 hp2 hr8
  go_wp2
  go_ret2
  have S9 := S8.out.set 8 (.slice (some ⟨G2, 0, none⟩) n0 n0) (fun j hj => pgc_set8 m0 m1 n0 d0 h4 h5 h6 _ _ _ j hj)
  refine ⟨v4.heap.size, rfl, ⟨G1, G2, S9.2.1, ?_, ?_, HP.out⟩, S9.2.2.2.1⟩
  · exact PRow.pks (t := 87) (N := d0 * 4) (by rw [Pg.greads_length]; exact P8.out.1.low hPG 8 _) (by rw [Pg.greads_length])
  · exact PRow.pks (t := 87) (N := n0 * 4) (by rw [Pg.greads_length]; exact P8.out.2.low hPG2 8 _) (by rw [Pg.greads_length])
end Go.Proofs.YtimkfkolkplpdaaGreat
/- Contracts of package page: Parse, whole. -/
namespace Go.Proofs.YtimkfkolkplpdaaGreat
set_option linter.unusedVariables false
open Go.RowKit

theorem nine {o : List Int} (h : 9 ≤ o.length) : ∃ x0 x1 x2 x3 x4 x5 x6 x7 x8 r, o = x0 :: x1 :: x2 :: x3 :: x4 :: x5 :: x6 :: x7 :: x8 :: r := by
  match o, h with
  | x0 :: x1 :: x2 :: x3 :: x4 :: x5 :: x6 :: x7 :: x8 :: r, _ => exact ⟨x0, x1, x2, x3, x4, x5, x6, x7, x8, r, rfl⟩
/-- What the bytes of a head mean. -/
theorem Pg.hread_nine {x0 x1 x2 x3 x4 x5 x6 x7 x8 : Int} {r : List Int} (hb : Sl.Byt (x0 :: x1 :: x2 :: x3 :: x4 :: x5 :: x6 :: x7 :: x8 :: r)) : Pg.hread (x0 :: x1 :: x2 :: x3 :: x4 :: x5 :: x6 :: x7 :: x8 :: r) = [x1, x2, x3, x4, x5, x6, x7 * 256 + x8] := by
  show [x1, x2, x3, x4, x5, x6, (Sl.num [x7, x8] : Int)] = _
  rw [Sl.num_two x7 x8 (hb 7) (hb 8)]
/-- The head's numbers as they are. -/
theorem Pg.right_nats {h0 h1 h2 h3 h4 h5 h6 : Int} (h : Pg.rightH [h0, h1, h2, h3, h4, h5, h6] = true) : ∃ m0 m1 n0 d0 : Nat, h0 = m0 ∧ h1 = m1 ∧ h2 = n0 ∧ h3 = d0 := by
  obtain ⟨qa, qb, qc, _, qe, _⟩ := Pg.rightH_all h
  have qa' : h0 = 2 ∨ h0 = 4 ∨ h0 = 8 := qa
  have qb' : h1 = 2 ∨ h1 = 4 ∨ h1 = 8 := qb
  have qc' : 1 ≤ h2 := qc
  have qe' : 1 ≤ h3 := qe
  exact ⟨h0.toNat, h1.toNat, h2.toNat, h3.toNat, by omega, by omega, by omega, by omega⟩
theorem Pg.perr_right {o : List Int} {n m0 m1 n0 d0 : Nat} {h4 h5 h6 : Int} (h9 : 9 ≤ o.length) (h0 : Ls.nth o 0 = 75) (hr : Pg.hread o = [(m0 : Int), m1, n0, d0, h4, h5, h6]) (hq : Pg.rightH [(m0 : Int), m1, n0, d0, h4, h5, h6] = true) :
    Pg.perr o n = if n < Pg.psize [(m0 : Int), m1, n0, d0, h4, h5, h6] then 16 else if Pg.psize [(m0 : Int), m1, n0, d0, h4, h5, h6] < n then 17 else
      if ¬ Pg.gerrN m0 n0 (o.drop 9) d0 = 0 then Pg.gerrN m0 n0 (o.drop 9) d0 else Pg.gerrN m1 d0 ((o.drop 9).drop (Pg.gsize m0 n0 * d0)) n0 := by
  unfold Pg.perr
  rw [if_neg (by omega), if_neg (by rw [h0]; simp), hr, if_neg (by rw [hq]; simp), List.drop_drop]
  rfl
theorem parseP_bad (a : Option Addr) (m c : Nat) (l : List Int) (e : Int) (w : World) (hm : m = l.length) (hl : l.length ≤ 10000) (hc : m ≤ c) (hc2 : c ≤ maxLen) (ha : Lst .u8 w a l) (hb : Sl.Byt l) (he : Pg.parseE l = e) (hne : ¬ e = 0) :
    Calls Tryz.prog 17 #[.slice a m c] w fun r w' => r = .returned (.tuple #[.pointer none, .int .i64 e]) ∧ Below w.heap.size w w' := by
  unfold Pg.parseE at he
  by_cases c4 : l.length < 4
  · rw [if_pos c4] at he
    subst he
    exact parseP_short a m c w (by omega)
  rw [if_neg c4] at he
  cases hs : Sl.sealed l
  · rw [hs, if_pos rfl] at he
    subst he
    exact parseP_seal a m c l w hm hl hc hc2 ha hb (by omega) hs
  rw [hs, if_neg (by simp)] at he
  obtain ⟨o, eo⟩ : ∃ o, l.take (l.length - 4) = o := ⟨_, rfl⟩
  rw [eo] at he
  have ob : Sl.Byt o := by rw [← eo]; exact Pg.byt_take hb _
  by_cases c9 : o.length < 9
  · unfold Pg.perr at he
    rw [if_pos c9] at he
    subst he
    exact parseP_hshort a m c l w hm hl hc hc2 ha hb (by omega) hs (by rw [eo]; exact c9)
  obtain ⟨x0, x1, x2, x3, x4, x5, x6, x7, x8, r, e9⟩ := nine (show 9 ≤ o.length by omega)
  have hr : Pg.hread o = [x1, x2, x3, x4, x5, x6, x7 * 256 + x8] := by rw [e9]; rw [e9] at ob; exact Pg.hread_nine ob
  by_cases c0 : x0 = 75
  · cases hq : Pg.rightH [x1, x2, x3, x4, x5, x6, x7 * 256 + x8]
    · unfold Pg.perr at he
      rw [if_neg c9, if_neg (by rw [e9]; show ¬ ¬ x0 = 75; simp [c0]), if_pos (by rw [hr]; exact hq)] at he
      subst he
      exact parseP_hrange a m c l w hm hl hc hc2 ha hb (by omega) hs x0 x1 x2 x3 x4 x5 x6 x7 x8 _ r (by rw [eo]; exact e9) c0 rfl hq
    · obtain ⟨m0, m1, n0, d0, rfl, rfl, rfl, rfl⟩ := Pg.right_nats hq
      rw [Pg.perr_right (by omega) (by rw [e9]; exact c0) hr hq] at he
      have ed : o.drop 9 = r := by rw [e9]; rfl
      rw [ed] at he
      by_cases s1 : l.length < Pg.psize [(m0 : Int), m1, n0, d0, x5, x6, x7 * 256 + x8]
      · rw [if_pos s1] at he
        subst he
        exact parseP_less a m c l w hm hl hc hc2 ha hb (by omega) hs m0 m1 n0 d0 x5 x6 _ x0 x7 x8 r (by rw [eo]; exact e9) c0 rfl hq _ rfl (by omega)
      rw [if_neg s1] at he
      by_cases s2 : Pg.psize [(m0 : Int), m1, n0, d0, x5, x6, x7 * 256 + x8] < l.length
      · rw [if_pos s2] at he
        subst he
        exact parseP_more a m c l w hm hl hc hc2 ha hb (by omega) hs m0 m1 n0 d0 x5 x6 _ x0 x7 x8 r (by rw [eo]; exact e9) c0 rfl hq _ rfl (by omega)
      rw [if_neg s2] at he
      by_cases k1 : Pg.gerrN m0 n0 r d0 = 0
      · rw [if_neg (by simp [k1])] at he
        exact parseP_vals a m c l w hm hl hc hc2 ha hb (by omega) hs m0 m1 n0 d0 x5 x6 _ x0 x7 x8 r (by rw [eo]; exact e9) c0 rfl hq _ rfl (by omega) k1 e he hne
      · rw [if_pos k1] at he
        exact parseP_keys a m c l w hm hl hc hc2 ha hb (by omega) hs m0 m1 n0 d0 x5 x6 _ x0 x7 x8 r (by rw [eo]; exact e9) c0 rfl hq _ rfl (by omega) e he hne
  · unfold Pg.perr at he
    rw [if_neg c9, if_pos (by rw [e9]; exact c0)] at he
    subst he
    exact parseP_hform a m c l w hm hl hc hc2 ha hb (by omega) hs x0 x1 x2 x3 x4 x5 x6 x7 x8 r (by rw [eo]; exact e9) c0
theorem Pg.parseE_zero {l : List Int} (h : Pg.parseE l = 0) : 4 ≤ l.length ∧ Sl.sealed l = true ∧ Pg.perr (l.take (l.length - 4)) l.length = 0 := by
  unfold Pg.parseE at h
  split at h
  · cases h
  · rename_i h1
    split at h
    · cases h
    · rename_i h2
      exact ⟨by omega, by simpa using h2, h⟩
theorem parseP_ok (a : Option Addr) (m c : Nat) (l o : List Int) (m0 m1 n0 d0 : Nat) (h4 h5 h6 : Int) (w : World) (hm : m = l.length) (hl : l.length ≤ 10000) (hc : m ≤ c) (hc2 : c ≤ maxLen) (ha : Lst .u8 w a l) (hb : Sl.Byt l) (he : Pg.parseE l = 0) (eo : l.take (l.length - 4) = o) (hh : Pg.hread o = [(m0 : Int), m1, n0, d0, h4, h5, h6]) :
    Calls Tryz.prog 17 #[.slice a m c] w fun r w' => ∃ p, r = .returned (.tuple #[.pointer (some ⟨p, 0, none⟩), .int .i64 0]) ∧ PageAt w' p m0 m1 n0 d0 h4 h5 h6 (Pg.pkeys o) (Pg.pvals o) ∧ Below w.heap.size w w' := by
  obtain ⟨q4, hs, hp⟩ := Pg.parseE_zero he
  rw [eo] at hp
  have ob : Sl.Byt o := by rw [← eo]; exact Pg.byt_take hb _
  have pg := Pg.parse_page ob hp
  obtain ⟨g9, g0, gr, gn, gk, gv⟩ := Pg.perr_zero hp
  have ek : Pg.pkeys o = Pg.greads m0 n0 d0 (o.drop 9) := by unfold Pg.pkeys; rw [hh]; rfl
  have ev : Pg.pvals o = Pg.greads m1 d0 n0 ((o.drop 9).drop (Pg.gsize m0 n0 * d0)) := by unfold Pg.pvals; rw [hh, List.drop_drop]; rfl
  rw [hh, ek, ev] at pg
  rw [hh] at gr gn gk gv
  obtain ⟨x0, x1, x2, x3, x4, x5, x6, x7, x8, r, e9⟩ := nine g9
  have hr : Pg.hread o = [x1, x2, x3, x4, x5, x6, x7 * 256 + x8] := by rw [e9]; rw [e9] at ob; exact Pg.hread_nine ob
  rw [hh] at hr
  have ed : o.drop 9 = r := by rw [e9]; rfl
  simp only [List.cons.injEq, and_true] at hr
  obtain ⟨rfl, rfl, rfl, rfl, rfl, rfl, h66⟩ := hr
  have c0 : x0 = 75 := by rw [e9] at g0; exact g0
  rw [ek, ev, ed]
  rw [ed] at gk pg
  have gv' : Pg.gerrN m1 d0 (r.drop (Pg.gsize m0 n0 * d0)) n0 = 0 := by rw [← ed, List.drop_drop]; exact gv
  exact parseP_right a m c l w hm hl hc hc2 ha hb q4 hs m0 m1 n0 d0 h4 h5 h6 x0 x7 x8 r (by rw [eo]; exact e9) c0 h66.symm gr _ rfl (by rw [hm]; exact gn) gk gv' pg
end Go.Proofs.YtimkfkolkplpdaaGreat
/- Layer 8's fixed answers. -/
namespace Go.Proofs.YtimkfkolkplpdaaGreat
set_option linter.unusedVariables false
open Go.RowKit
attribute [local go_sem ↓] Go.wp_at_zero Go.wp_at_succ

theorem tbl_two {w : World} {g : Nat} {t : TypeId} {fr : Nat × Nat} {A B : Option Addr} {C D : Nat} {x y : List Int} (h : w.heap[g]? = some (.cells #[.slice A x.length C, .slice B y.length D] t fr))
    (hx : Lst .i32 w A x) (hy : Lst .i32 w B y) (h1 : x.length ≤ maxLen) (h2 : y.length ≤ maxLen) : Tbl w (some ⟨g, 0, none⟩) [x, y] := by
  intro i hi
  have hi : i < 2 := hi
  rcases (show i = 0 ∨ i = 1 by omega) with rfl | rfl
  · exact ⟨g, 0, A, C, rfl, by rw [cell_of_row w g _ _ t fr h]; rfl, hx, h1⟩
  · exact ⟨g, 0, B, D, rfl, by rw [cell_of_row w g _ _ t fr h]; rfl, hy, h2⟩
theorem tbl_one {w : World} {g : Nat} {t : TypeId} {fr : Nat × Nat} {A : Option Addr} {C : Nat} {x : List Int} (h : w.heap[g]? = some (.cells #[.slice A x.length C] t fr))
    (hx : Lst .i32 w A x) (h1 : x.length ≤ maxLen) : Tbl w (some ⟨g, 0, none⟩) [x] := by
  intro i hi
  have hi : i < 1 := hi
  obtain rfl : i = 0 := by omega
  exact ⟨g, 0, A, C, rfl, by rw [cell_of_row w g _ _ t fr h]; rfl, hx, h1⟩
theorem heap_at {w : World} {g : Nat} {o : Obj} (h : g = w.heap.size) : (w.alloc o).heap[g]? = some o := by subst h; exact heap_alloc_new w o
theorem lst_at {k : IntKind} {w : World} {t : TypeId} {g : Nat} (l : List Int) (h : g = w.heap.size) : Lst k (w.alloc (.cells (l.map (Value.int k)).toArray t)) (some ⟨g, 0, none⟩) l := by subst h; exact lst_new w l

/-- A page's own bytes are read as the page. -/
theorem Pg.parse_bytes {h : List Int} {ks vs : List (Int × Int × List Int)} (hp : Pg.Page h ks vs) : Pg.parseE (Pg.bytes h ks vs) = 0 ∧ (Pg.bytes h ks vs).take ((Pg.bytes h ks vs).length - 4) = Pg.body h ks vs := by
  have ht : (Pg.bytes h ks vs).take ((Pg.bytes h ks vs).length - 4) = Pg.body h ks vs := Sl.take_close _
  refine ⟨?_, ht⟩
  have hl := Pg.bytes_length hp
  have hb := Pg.body_length hp
  unfold Pg.parseE
  rw [if_neg (by omega), if_neg (by rw [show Sl.sealed (Pg.bytes h ks vs) = true from Sl.sealed_close _]; simp), ht, hl]
  exact (Pg.page_parse hp).1
theorem bytes_byt {h : List Int} {ks vs : List (Int × Int × List Int)} (hp : Pg.Page h ks vs) : Sl.Byt (Pg.bytes h ks vs) := Sl.close_byt (Pg.body_byt hp)
theorem parseP_own (g T m0 m1 n0 d0 : Nat) (h4 h5 h6 : Int) (ks vs : List (Int × Int × List Int)) (w : World) (hp : Pg.Page [(m0 : Int), m1, n0, d0, h4, h5, h6] ks vs) (hT : Pg.psize [(m0 : Int), m1, n0, d0, h4, h5, h6] = T) (hr : w.rowIs g 5 T (fun j => .int .u8 (Ls.nth (Pg.bytes [(m0 : Int), m1, n0, d0, h4, h5, h6] ks vs) j))) :
    Calls Tryz.prog 17 #[.slice (some ⟨g, 0, none⟩) T T] w fun r w' => ∃ p, r = .returned (.tuple #[.pointer (some ⟨p, 0, none⟩), .int .i64 0]) ∧ PageAt w' p m0 m1 n0 d0 h4 h5 h6 ks vs ∧ Below w.heap.size w w' := by
  obtain ⟨e1, e2⟩ := Pg.parse_bytes hp
  have hl := Pg.bytes_length hp
  have hs := Pg.psize_le hp.2.1
  obtain ⟨_, f1, f2, f3⟩ := Pg.page_parse hp
  have := parseP_ok (some ⟨g, 0, none⟩) T T (Pg.bytes [(m0 : Int), m1, n0, d0, h4, h5, h6] ks vs) _ m0 m1 n0 d0 h4 h5 h6 w (by rw [hl, hT]) (by omega) (Nat.le_refl _) (by unfold maxLen; omega) (lst_of_row (by rw [hl, hT]; exact hr) (fun j hj => rfl)) (bytes_byt hp) e1 e2 f1
  rw [f2, f3] at this
  exact this

theorem rows_in {ls : List (List Int)} (h : ∀ k, k < ls.length → ∀ i, i < (Tb.row ls k).length → -2147483648 ≤ Ls.nth (Tb.row ls k) i ∧ Ls.nth (Tb.row ls k) i ≤ 2147483647) : ∀ k, Ls.In32 (Tb.row ls k) := fun k => by
  by_cases hk : k < ls.length
  · exact Ls.in32_mk (h k hk)
  · rw [Tb.row_past (by omega)]; intro i; rw [Ls.nth_nil]; omega
theorem PageAt.headAt {w : World} {p m0 m1 n d : Nat} {h4 h5 h6 : Int} {ks vs : List (Int × Int × List Int)} (h : PageAt w p m0 m1 n d h4 h5 h6 ks vs) : HdAt w p m0 m1 n d h4 h5 h6 := by
  obtain ⟨g1, g2, hd, _⟩ := h.cells
  exact hd

set_option maxRecDepth 100000 in
set_option maxHeartbeats 3200000 in
theorem pgAwake_any (w : World) : Calls Tryz.prog 7 #[] w fun e w' => e = .returned (.bool true) ∧ Below w.heap.size w w' := by
  have kc := fun (w : World) (C : Array Value) (n c : Nat) => Lib.run_convert_bytes_const (P := Tryz.prog) w 44 5 C n c Tryz.underlying44 Tryz.underlying5
  go_enter Tryz.func7, Tryz.ntmps7
  go_wp2_with fail
  have K1 : Hid (∀ v, Below (w.alloc (.cells #[.int .i64 2, .int .i64 4, .int .i64 2, .int .i64 1, .int .i64 1, .int .i64 0, .int .i64 3] 23)).heap.size (w.alloc (.cells #[.int .i64 2, .int .i64 4, .int .i64 2, .int .i64 1, .int .i64 1, .int .i64 0, .int .i64 3] 23)) v → HdAt v w.heap.size 2 4 2 1 1 0 3 ∧ Below w.heap.size w v) := fun v hb => ⟨hd_box hb, below_then (box_below _ _) hb⟩
  refine (quantP_ok 2 4 2 1 3 15 1 0 3 _ _ _ _ [[0], [30]] [[5], [6]] _ (Or.inl ⟨rfl, rfl⟩) (Or.inr (Or.inl ⟨rfl, rfl⟩))
    ((((tbl_two (x := [0]) (y := [30]) (heap_at (by simp)) (((lst_at [0] (by simp)).keep (box_below _ _)).keep (box_below _ _)) ((lst_at [30] (by simp)).keep (box_below _ _)) (by decide) (by decide)).keep (box_below _ _)).keep (box_below _ _)).keep (box_below _ _))
    (tbl_two (x := [5]) (y := [6]) (heap_at (by simp)) (((lst_at [5] (by simp)).keep (box_below _ _)).keep (box_below _ _)) ((lst_at [6] (by simp)).keep (box_below _ _)) (by decide) (by decide))
    (rows_in (by decide)) (rows_in (by decide)) (by decide) (by decide) (by decide)).mono ?_
  rintro r v1 ⟨p, rfl, hp, hpa, hb1⟩
  have bb := below_then (below_then (below_then (below_then (below_then (below_then (box_below _ _) (box_below _ _)) (box_below _ _)) (box_below _ _)) (box_below _ _)) (box_below _ _)) hb1
  obtain ⟨h1, B1⟩ := K1.out v1 bb
  have BU1 : Hid (Below (w.alloc (.cells #[.int .i64 2, .int .i64 4, .int .i64 2, .int .i64 1, .int .i64 1, .int .i64 0, .int .i64 3] 23)).heap.size (w.alloc (.cells #[.int .i64 2, .int .i64 4, .int .i64 2, .int .i64 1, .int .i64 1, .int .i64 0, .int .i64 3] 23)) v1) := bb
  obtain ⟨ks, eks⟩ : ∃ ks, Pg.qk (3 : Nat) 1 [[0], [30]] = ks := ⟨_, rfl⟩
  obtain ⟨vs, evs⟩ : ∃ vs, Pg.qv (15 : Nat) [[5], [6]] = vs := ⟨_, rfl⟩
  rw [eks, evs] at hpa
  have EK : Hid (Pg.qk (3 : Nat) 1 [[0], [30]] = ks) := eks
  have EV : Hid (Pg.qv (15 : Nat) [[5], [6]] = vs) := evs
  have P1 : Hid (PageAt v1 p 2 4 2 1 1 0 3 ks vs) := hpa
  obtain ⟨x0, x1, x2, x3, x4, x5, x6⟩ := h1
  have hlt : w.heap.size < v1.heap.size := World.block_lt_of_cell? v1 _ x0
  clear bb hb1 hp hpa B1 eks evs
  go_wp2_with fail
  refine (quantP_shape 2 4 2 1 1 0 3 _ _ _ _ [[0]] [[5], [6]] _
    ((((tbl_one (x := [0]) (heap_at (by simp)) ((lst_at [0] (by simp)).keep (box_below _ _)) (by decide)).keep (box_below _ _)).keep (box_below _ _)).keep (box_below _ _))
    (tbl_two (x := [5]) (y := [6]) (heap_at (by simp)) (((lst_at [5] (by simp)).keep (box_below _ _)).keep (box_below _ _)) ((lst_at [6] (by simp)).keep (box_below _ _)) (by decide) (by decide))
    (by decide) (by decide) (by decide) (by decide)).mono ?_
  rintro r v2 ⟨rfl, hb2⟩
  have bb := below_then (below_then (below_then (below_then (below_then (box_below _ _) (box_below _ _)) (box_below _ _)) (box_below _ _)) (box_below _ _)) hb2
  have BU2 : Hid (Below (w.alloc (.cells #[.int .i64 2, .int .i64 4, .int .i64 2, .int .i64 1, .int .i64 1, .int .i64 0, .int .i64 3] 23)).heap.size (w.alloc (.cells #[.int .i64 2, .int .i64 4, .int .i64 2, .int .i64 1, .int .i64 1, .int .i64 0, .int .i64 3] 23)) v2) := below_then BU1.out bb
  have P2 : Hid (PageAt v2 p 2 4 2 1 1 0 3 ks vs) := P1.out.keep bb
  clear bb hb2 x0 x1 x2 x3 x4 x5 x6 BU1 P1 hlt
  go_wp2_with fail
  refine (parseP_short _ 1 _ _ (by decide)).mono ?_
  rintro r v3 ⟨rfl, hb3⟩
  have bb := below_then (box_over v2 _) hb3
  have BU3 : Hid (Below (w.alloc (.cells #[.int .i64 2, .int .i64 4, .int .i64 2, .int .i64 1, .int .i64 1, .int .i64 0, .int .i64 3] 23)).heap.size (w.alloc (.cells #[.int .i64 2, .int .i64 4, .int .i64 2, .int .i64 1, .int .i64 1, .int .i64 0, .int .i64 3] 23)) v3) := below_then BU2.out bb
  have P3 : Hid (PageAt v3 p 2 4 2 1 1 0 3 ks vs) := P2.out.keep bb
  clear bb hb3 BU2 P2
  go_wp2_with fail
  have KS : Hid (∀ w', Below v3.heap.size v3 w' → (w'.cell? ⟨w.heap.size, 0, none⟩ = some (.int .i64 2) ∧ w'.cell? ⟨w.heap.size, 1, none⟩ = some (.int .i64 4) ∧ w'.cell? ⟨w.heap.size, 2, none⟩ = some (.int .i64 2) ∧ w'.cell? ⟨w.heap.size, 3, none⟩ = some (.int .i64 1) ∧ w'.cell? ⟨w.heap.size, 4, none⟩ = some (.int .i64 1) ∧ w'.cell? ⟨w.heap.size, 5, none⟩ = some (.int .i64 0) ∧ w'.cell? ⟨w.heap.size, 6, none⟩ = some (.int .i64 3)) ∧ Hid (Below v3.heap.size v3 w')) := fun w' hb => ⟨(K1.out w' (below_then BU3.out hb)).1, hb⟩
  go_region_held3 (fun w' => (w'.cell? ⟨w.heap.size, 0, none⟩ = some (.int .i64 2) ∧ w'.cell? ⟨w.heap.size, 1, none⟩ = some (.int .i64 4) ∧ w'.cell? ⟨w.heap.size, 2, none⟩ = some (.int .i64 2) ∧ w'.cell? ⟨w.heap.size, 3, none⟩ = some (.int .i64 1) ∧ w'.cell? ⟨w.heap.size, 4, none⟩ = some (.int .i64 1) ∧ w'.cell? ⟨w.heap.size, 5, none⟩ = some (.int .i64 0) ∧ w'.cell? ⟨w.heap.size, 6, none⟩ = some (.int .i64 3)) ∧ Hid (Below v3.heap.size v3 w'))
    (first
      | exact KS.out _ ((Below.refl v3.heap.size v3).drew)
      | exact KS.out _ hbd.out
      | exact KS.out _ hbc.out
      | assumption)
    (first
      | (go_at_call 22; refine (headP_any p 2 4 2 1 1 0 3 ks vs _ (P3.out.keep ((Below.refl v3.heap.size v3).drew))).mono ?_; rintro e v4 ⟨rfl, hb⟩; have hbc : Hid (Below v3.heap.size v3 v4) := ((Below.refl v3.heap.size v3).drew).trans hb; clear hb)
      | (go_at_call 15; refine (sizeP_any 2 4 2 1 1 0 3 61 _ (Or.inl rfl) (Or.inr (Or.inl rfl)) (by decide) (by decide) (by decide) (by decide)).mono ?_; rintro e v5 ⟨rfl, hb⟩; have hbd : Hid (Below v3.heap.size v3 v5) := below_then hbc.out hb; clear hb))
  all_goals go_wp2_with fail
  have P5 : Hid (PageAt v5 p 2 4 2 1 1 0 3 ks vs) := P3.out.keep hbd.out
  have hlt5 : w.heap.size < v5.heap.size := by have := (below_then BU3.out hbd.out).size; simp at this; omega
  have BW5 : Hid (Below w.heap.size w v5) := (K1.out v5 (below_then BU3.out hbd.out)).2
  have BU5 : Hid (∀ v, Below v5.heap.size v5 v → HdAt v w.heap.size 2 4 2 1 1 0 3) := fun v hb => (K1.out v (below_then (below_then BU3.out hbd.out) hb)).1
  have PG : Hid (Pg.Page [((2 : Nat) : Int), (4 : Nat), (2 : Nat), (1 : Nat), 1, 0, 3] ks vs) := P5.out.page
  clear hbc hbd BU3 P3 KS K1
  refine (bytesP_any p 2 4 2 1 1 0 3 ks vs 61 _ P5.out (by decide)).mono ?_
  rintro r v6 ⟨g6, rfl, hg6, hr6, hb6⟩
  have R6 : Hid (v6.rowIs g6 5 61 (fun j => .int .u8 (Ls.nth (Pg.bytes [((2 : Nat) : Int), (4 : Nat), (2 : Nat), (1 : Nat), 1, 0, 3] ks vs) j))) := hr6
  have B6 : Hid (Below v5.heap.size v5 v6) := hb6
  clear hg6 hr6 hb6
  go_wp2_with fail
  refine (parseP_own g6 61 2 4 2 1 1 0 3 ks vs _ PG.out (by decide) R6.out).mono ?_
  rintro r v7 ⟨q, rfl, hq7, hb7⟩
  have Q7 : Hid (PageAt v7 q 2 4 2 1 1 0 3 ks vs) := hq7
  have B7 : Hid (Below v5.heap.size v5 v7) := below_then B6.out hb7
  clear hq7 hb7 R6 B6
  go_wp2_with fail
  refine (keyP_any q 2 4 2 1 1 0 3 ks vs 1 0 30 _ Q7.out (by decide) (by decide) (by rw [← EK.out]; decide)).mono ?_
  rintro r v8 ⟨rfl, hb8⟩
  have Q8 : Hid (PageAt v8 q 2 4 2 1 1 0 3 ks vs) := Q7.out.keep hb8
  have B8 : Hid (Below v5.heap.size v5 v8) := below_then B7.out hb8
  clear hb8 Q7 B7
  go_wp2_with fail
  refine (valueP_any q 2 4 2 1 1 0 3 ks vs 0 0 5 _ Q8.out (by decide) (by decide) (by rw [← EV.out]; decide)).mono ?_
  rintro r v9 ⟨rfl, hb9⟩
  have Q9 : Hid (PageAt v9 q 2 4 2 1 1 0 3 ks vs) := Q8.out.keep hb9
  have B9 : Hid (Below v5.heap.size v5 v9) := below_then B8.out hb9
  clear hb9 Q8 B8
  go_wp2_with fail
  refine (keyP_none q 2 4 2 1 1 0 3 ks vs 2 0 _ Q9.out (by decide)).mono ?_
  rintro r w' ⟨rfl, hw⟩
  cases hw.symm
  clear hw
  go_wp2_with fail
  refine (keys_any q 2 4 2 1 1 0 3 ks vs _ Q9.out).mono ?_
  rintro r v10 ⟨g10, b10, rfl, _, _, hb10⟩
  have B10 : Hid (Below v5.heap.size v5 v10) := below_then B9.out hb10
  have P10 : Hid (PageAt v10 p 2 4 2 1 1 0 3 ks vs) := P5.out.keep B10.out
  clear hb10 Q9 B9
  go_wp2_with fail
  refine (bytesP_any p 2 4 2 1 1 0 3 ks vs 61 _ P10.out (by decide)).mono ?_
  rintro r v11 ⟨g11, rfl, _, _, hb11⟩
  have B11 : Hid (Below v5.heap.size v5 v11) := below_then B10.out hb11
  obtain ⟨x0, x1, x2, x3, x4, x5, x6⟩ := BU5.out v11 B11.out
  clear hb11 B10 P10
  go_wp2_with fail
  refine (rightP_any _ _ _ _ _ _ _ true (by decide) _).mono ?_
  rintro r v12 ⟨rfl, hb12⟩
  have B12 : Hid (Below w.heap.size w v12) := below_then BW5.out (below_then B11.out hb12)
  clear hb12 x0 x1 x2 x3 x4 x5 x6
  go_wp2
  go_ret
  exact ⟨rfl, B12.out⟩
end Go.Proofs.YtimkfkolkplpdaaGreat
/- What layer 8's laws share: a box of a head and two tables. -/
namespace Go.Proofs.YtimkfkolkplpdaaGreat
set_option linter.unusedVariables false
open Go.RowKit

/-- A head and two slices in a box. -/
def NmAt (v : World) (g : Nat) (h0 h1 h2 h3 h4 h5 h6 : Int) (s1 s2 : Value) : Prop := HdAt v g h0 h1 h2 h3 h4 h5 h6 ∧ v.cell? ⟨g, 7, none⟩ = some s1 ∧ v.cell? ⟨g, 8, none⟩ = some s2
theorem nm_box {w v : World} {h0 h1 h2 h3 h4 h5 h6 : Int} {s1 s2 : Value} {s : TypeId} (hb : Below (w.alloc (.cells #[.int .i64 h0, .int .i64 h1, .int .i64 h2, .int .i64 h3, .int .i64 h4, .int .i64 h5, .int .i64 h6, s1, s2] s)).heap.size (w.alloc (.cells #[.int .i64 h0, .int .i64 h1, .int .i64 h2, .int .i64 h3, .int .i64 h4, .int .i64 h5, .int .i64 h6, s1, s2] s)) v) : NmAt v w.heap.size h0 h1 h2 h3 h4 h5 h6 s1 s2 :=
  ⟨⟨box_cells hb 0 _ rfl, box_cells hb 1 _ rfl, box_cells hb 2 _ rfl, box_cells hb 3 _ rfl, box_cells hb 4 _ rfl, box_cells hb 5 _ rfl, box_cells hb 6 _ rfl⟩, box_cells hb 7 _ rfl, box_cells hb 8 _ rfl⟩
theorem Pg.shapedB_all {ls : List (List Int)} {n d : Nat} (h : Pg.shapedB ls (n : Int) (d : Int) = true) : ls.length = n ∧ ∀ k, k < ls.length → (Tb.row ls k).length = d := by
  unfold Pg.shapedB at h
  simp only [decide_eq_true_eq] at h
  exact ⟨by have := h.2; omega, fun k hk => by have := h.1 k hk; omega⟩
theorem Pg.okB_nat {m : Nat} (h : (m : Int) = 2 ∨ (m : Int) = 4 ∨ (m : Int) = 8) : ∃ s : Nat, Gp.St m s := by
  rcases (show m = 2 ∨ m = 4 ∨ m = 8 by omega) with rfl | rfl | rfl
  · exact ⟨3, Or.inl ⟨rfl, rfl⟩⟩
  · exact ⟨15, Or.inr (Or.inl ⟨rfl, rfl⟩)⟩
  · exact ⟨255, Or.inr (Or.inr ⟨rfl, rfl⟩)⟩
end Go.Proofs.YtimkfkolkplpdaaGreat
/- The law's own question of layer 8: has a page just what the document's has? -/
namespace Go.Proofs.YtimkfkolkplpdaaGreat
set_option linter.unusedVariables false
open Go.RowKit
attribute [local go_sem ↓] Go.wp_at_zero Go.wp_at_succ

theorem groups_anym (a : Option Addr) (m c : Nat) (l : List (Int × Int × List Int)) (w : World) (hm : m = l.length) (ha : Gps w a l) (hl : l.length ≤ 10000) :
    Calls Tryz.prog 10 #[.slice a m c] w fun e w' => ∃ a' c', e = .returned (.slice a' m c') ∧ Gps w' a' l ∧ Below w.heap.size w w' := by
  subst hm
  exact groups_any a c l w ha hl
theorem refSameP_anym (a1 a2 : Option Addr) (m n c1 c2 : Nat) (l : List (Int × Int × List Int)) (w : World) (hm : m = l.length) (hn : n = l.length) (ha : Gps w a1 l) (hb : Gps w a2 l) (hl : l.length ≤ 10000) (hi : InG l) :
    Calls Tryz.prog 34 #[.slice a1 m c1, .slice a2 n c2] w fun e w' => e = .returned (.bool true) ∧ Below w.heap.size w w' := by
  subst hm
  subst hn
  exact refSameP_any a1 a2 c1 c2 l l w ha hb hl hi true (by simp)
theorem TRow.atRow {w : World} {g : Nat} {t : TypeId} {N : Nat} {ls : List (List Int)} {k B : Nat} (h : TRow w g t N ls k B) {i d : Nat} (hi : i < k) (hN : i < N) (hd : (Tb.row ls i).length = d) : ∃ b, w.cell? ⟨g, i, none⟩ = some (.slice (some ⟨b, 0, none⟩) d d) ∧ w.rowIs b 21 d (fun j => .int .i32 (Ls.nth (Tb.row ls i) j)) := by
  subst hd
  obtain ⟨f, hr, hc⟩ := h
  obtain ⟨b, h0, h1, h2, h3⟩ := hc i hi
  exact ⟨b, by rw [hr.cell hN, h0], h3⟩
theorem Pg.key_tab {ks : List (Int × Int × List Int)} {d t : Nat} (hd : ks.length = d) : Pg.key ks t = Ls.gen d (Pg.keyAt ks t) := by subst hd; rfl
theorem Pg.val_tab {vs : List (Int × Int × List Int)} {d t : Nat} (hd : (Pg.gc (Pg.nth vs t)).length = d) : Gp.means (Pg.gz (Pg.nth vs t)) (Pg.gs (Pg.nth vs t)) (Pg.gc (Pg.nth vs t)) = Ls.gen d (Pg.valAt vs t) := by subst hd; rfl

/-- Two arrays of seven numbers that are one are equal. -/
theorem eqHead (h0 h1 h2 h3 h4 h5 h6 : Int) (w : World) : (Op.equalIn 10000 33 (.agg #[.int .i64 h0, .int .i64 h1, .int .i64 h2, .int .i64 h3, .int .i64 h4, .int .i64 h5, .int .i64 h6]) (.agg #[.int .i64 h0, .int .i64 h1, .int .i64 h2, .int .i64 h3, .int .i64 h4, .int .i64 h5, .int .i64 h6])).run Tryz.prog w = .ok true w := by
  have u3 := Tryz.underlying3
  have a3 := Tryz.isAgg3
  have z3 := Tryz.sizeOf3
  rw [show (10000 : Nat) = 9999 + 1 from rfl, Op.equalIn]
  simp only [Sem.run_bind, run_underlying Tryz.underlying33, Result.andThen_ok]
  simp only [Std.Legacy.Range.forIn_eq_forIn_range', Std.Legacy.Range.size, Nat.sub_zero, Nat.add_sub_cancel, Nat.div_one, List.range'_succ, List.range'_zero, List.forIn_cons, List.forIn_nil]
  go_simp

set_option maxRecDepth 100000 in
set_option maxHeartbeats 6400000 in
theorem is_any (p m0 m1 n0 d0 : Nat) (h4 h5 h6 : Int) (ks vs : List (Int × Int × List Int)) (a1 a2 : Option Addr) (c1 c2 : Nat) (w : World) (h : PageAt w p m0 m1 n0 d0 h4 h5 h6 ks vs) (g1 : Gps w a1 ks) (g2 : Gps w a2 vs) :
    Calls Tryz.prog 14 #[.pointer (some ⟨p, 0, none⟩), .agg #[.int .i64 (m0 : Int), .int .i64 (m1 : Int), .int .i64 (n0 : Int), .int .i64 (d0 : Int), .int .i64 h4, .int .i64 h5, .int .i64 h6, .slice a1 ks.length c1, .slice a2 vs.length c2]] w fun e w' => e = .returned (.bool true) ∧ Below w.heap.size w w' := by
  obtain ⟨k0, k1, b1, b2, b3, b4, lk, lv, fk, fv⟩ := Pg.page_nums h.page
  have H : Hid (PageAt w p m0 m1 n0 d0 h4 h5 h6 ks vs) := h
  have HP : Hid (Pg.Page [(m0 : Int), m1, n0, d0, h4, h5, h6] ks vs) := h.page
  have G1 : Hid (Gps w a1 ks) := g1
  have G2 : Hid (Gps w a2 vs) := g2
  have LK : Hid (ks.length = d0) := lk
  have LV : Hid (vs.length = n0) := lv
  have IK : Hid (InG ks) := Pg.fit_ing fk (by unfold maxLen; omega)
  have IV : Hid (InG vs) := Pg.fit_ing fv (by unfold maxLen; omega)
  have DK : Hid (Pg.Deep n0 ks) := Pg.deep_of k0 fk
  have DV : Hid (Pg.Deep d0 vs) := Pg.deep_of k1 fv
  have FV : Hid (Pg.AllFit m1 d0 vs) := fv
  have lk1 : ks.length ≤ 256 := by omega
  have lv1 : vs.length ≤ 256 := by omega
  have lk2 : ks.length ≤ 10000 := by omega
  have lv2 : vs.length ≤ 10000 := by omega
  obtain ⟨N, eN⟩ : ∃ N, Pg.psize [(m0 : Int), m1, n0, d0, h4, h5, h6] = N := ⟨_, rfl⟩
  have HN : Hid (Pg.psize [(m0 : Int), m1, n0, d0, h4, h5, h6] = N) := eN
  obtain ⟨s, es⟩ : ∃ s, strOfNums (Pg.bytes [(m0 : Int), m1, n0, d0, h4, h5, h6] ks vs) = s := ⟨_, rfl⟩
  have ES : Hid (strOfNums (Pg.bytes [(m0 : Int), m1, n0, d0, h4, h5, h6] ks vs) = s) := es
  clear h g1 g2 k0 k1 lk lv fk fv eN es
  have heq := fun (w : World) => eqHead (m0 : Int) (m1 : Int) (n0 : Int) (d0 : Int) h4 h5 h6 w
  go_enter Tryz.func14, Tryz.ntmps14
  go_wp2
  obtain ⟨u0, hu0⟩ : ∃ u, w.alloc (.cells #[.int .i64 (m0 : Int), .int .i64 (m1 : Int), .int .i64 (n0 : Int), .int .i64 (d0 : Int), .int .i64 h4, .int .i64 h5, .int .i64 h6, .slice a1 ks.length c1, .slice a2 vs.length c2] 38) = u := ⟨_, rfl⟩
  have U0 : Hid (Below w.heap.size w u0) := by rw [← hu0]; exact box_below _ _
  have NM : Hid (∀ v, Below u0.heap.size u0 v → v.cell? ⟨w.heap.size, 0, none⟩ = some (.int .i64 (m0 : Int)) ∧ v.cell? ⟨w.heap.size, 1, none⟩ = some (.int .i64 (m1 : Int)) ∧ v.cell? ⟨w.heap.size, 2, none⟩ = some (.int .i64 (n0 : Int)) ∧ v.cell? ⟨w.heap.size, 3, none⟩ = some (.int .i64 (d0 : Int)) ∧ v.cell? ⟨w.heap.size, 4, none⟩ = some (.int .i64 h4) ∧ v.cell? ⟨w.heap.size, 5, none⟩ = some (.int .i64 h5) ∧ v.cell? ⟨w.heap.size, 6, none⟩ = some (.int .i64 h6) ∧ v.cell? ⟨w.heap.size, 7, none⟩ = some (.slice a1 ks.length c1) ∧ v.cell? ⟨w.heap.size, 8, none⟩ = some (.slice a2 vs.length c2)) := by
    rw [← hu0]
    exact fun v hb => ⟨box_cells hb 0 _ rfl, box_cells hb 1 _ rfl, box_cells hb 2 _ rfl, box_cells hb 3 _ rfl, box_cells hb 4 _ rfl, box_cells hb 5 _ rfl, box_cells hb 6 _ rfl, box_cells hb 7 _ rfl, box_cells hb 8 _ rfl⟩
  rw [hu0]
  clear hu0
  have KS : Hid (∀ w', Below u0.heap.size u0 w' → (w'.cell? ⟨w.heap.size, 0, none⟩ = some (.int .i64 (m0 : Int)) ∧ w'.cell? ⟨w.heap.size, 1, none⟩ = some (.int .i64 (m1 : Int)) ∧ w'.cell? ⟨w.heap.size, 2, none⟩ = some (.int .i64 (n0 : Int)) ∧ w'.cell? ⟨w.heap.size, 3, none⟩ = some (.int .i64 (d0 : Int)) ∧ w'.cell? ⟨w.heap.size, 4, none⟩ = some (.int .i64 h4) ∧ w'.cell? ⟨w.heap.size, 5, none⟩ = some (.int .i64 h5) ∧ w'.cell? ⟨w.heap.size, 6, none⟩ = some (.int .i64 h6) ∧ w'.cell? ⟨w.heap.size, 7, none⟩ = some (.slice a1 ks.length c1) ∧ w'.cell? ⟨w.heap.size, 8, none⟩ = some (.slice a2 vs.length c2)) ∧ Hid (Below u0.heap.size u0 w')) := fun w' hb => ⟨NM.out w' hb, hb⟩
  go_region_held3 (fun w' => (w'.cell? ⟨w.heap.size, 0, none⟩ = some (.int .i64 (m0 : Int)) ∧ w'.cell? ⟨w.heap.size, 1, none⟩ = some (.int .i64 (m1 : Int)) ∧ w'.cell? ⟨w.heap.size, 2, none⟩ = some (.int .i64 (n0 : Int)) ∧ w'.cell? ⟨w.heap.size, 3, none⟩ = some (.int .i64 (d0 : Int)) ∧ w'.cell? ⟨w.heap.size, 4, none⟩ = some (.int .i64 h4) ∧ w'.cell? ⟨w.heap.size, 5, none⟩ = some (.int .i64 h5) ∧ w'.cell? ⟨w.heap.size, 6, none⟩ = some (.int .i64 h6) ∧ w'.cell? ⟨w.heap.size, 7, none⟩ = some (.slice a1 ks.length c1) ∧ w'.cell? ⟨w.heap.size, 8, none⟩ = some (.slice a2 vs.length c2)) ∧ Hid (Below u0.heap.size u0 w'))
    (first
      | exact KS.out _ ((Below.refl u0.heap.size u0).drew)
      | exact KS.out _ y8.out
      | exact KS.out _ y7.out
      | exact KS.out _ y6.out
      | exact KS.out _ y5.out
      | exact KS.out _ y4.out
      | exact KS.out _ y3.out
      | exact KS.out _ y2.out
      | exact KS.out _ y1.out
      | assumption)
    (first
      | (go_at_call 22; refine (headP_any p m0 m1 n0 d0 h4 h5 h6 ks vs _ (H.out.keep (below_then U0.out ((Below.refl u0.heap.size u0).drew)))).mono ?_; rintro e v1 ⟨rfl, hb⟩; have y1 : Hid (Below u0.heap.size u0 v1) := ((Below.refl u0.heap.size u0).drew).trans hb; clear hb)
      | (go_at_call 9; refine (head_any _ _ _ _ _ _ _ _).mono ?_; rintro e v2 ⟨rfl, hb⟩; have y2 : Hid (Below u0.heap.size u0 v2) := below_then y1.out hb; clear hb)
      | (go_at_call 35; refine (keyGroups_any p m0 m1 n0 d0 h4 h5 h6 ks vs _ (H.out.keep (below_then U0.out y2.out))).mono ?_; rintro e v3 ⟨q3, rfl, _, hu, hb⟩; have y3 : Hid (Below u0.heap.size u0 v3) := below_then y2.out hb; have U3 : Hid (Gps v3 (some ⟨q3, 0, none⟩) ks) := hu.gps rfl; clear hb hu)
      | (go_at_call 10; (with_reducible refine (groups_anym (some ⟨q3, 0, none⟩) d0 _ ks _ LK.out.symm U3.out lk2).mono ?_); rintro e v4 ⟨q4, r4, rfl, hu, hb⟩; have y4 : Hid (Below u0.heap.size u0 v4) := below_then y3.out hb; have U4 : Hid (Gps v4 q4 ks) := hu; clear hb hu)
      | (go_at_call 34; (with_reducible refine (refSameP_anym q4 a1 d0 ks.length _ _ ks _ LK.out.symm rfl U4.out (G1.out.keep (below_then U0.out y4.out)) lk2 IK.out).mono ?_); rintro e v5 ⟨rfl, hb⟩; have y5 : Hid (Below u0.heap.size u0 v5) := below_then y4.out hb; clear hb)
      | (go_at_call 36; refine (valueGroups_any p m0 m1 n0 d0 h4 h5 h6 ks vs _ (H.out.keep (below_then U0.out y5.out))).mono ?_; rintro e v6 ⟨q6, rfl, _, hu, hb⟩; have y6 : Hid (Below u0.heap.size u0 v6) := below_then y5.out hb; have U6 : Hid (Gps v6 (some ⟨q6, 0, none⟩) vs) := hu.gps rfl; clear hb hu)
      | (go_at_call 10; (with_reducible refine (groups_anym (some ⟨q6, 0, none⟩) n0 _ vs _ LV.out.symm U6.out lv2).mono ?_); rintro e v7 ⟨q7, r7, rfl, hu, hb⟩; have y7 : Hid (Below u0.heap.size u0 v7) := below_then y6.out hb; have U7 : Hid (Gps v7 q7 vs) := hu; clear hb hu)
      | (go_at_call 34; (with_reducible refine (refSameP_anym q7 a2 n0 vs.length _ _ vs _ LV.out.symm rfl U7.out (G2.out.keep (below_then U0.out y7.out)) lv2 IV.out).mono ?_); rintro e v8 ⟨rfl, hb⟩; have y8 : Hid (Below u0.heap.size u0 v8) := below_then y7.out hb; clear hb))
  go_wp2_with fail
  clear y1 y2 y3 y4 y5 y6 y7 U3 U4 U6 U7 KS
  refine (keys_any p m0 m1 n0 d0 h4 h5 h6 ks vs _ (H.out.keep (below_then U0.out y8.out))).mono ?_
  rintro r v9 ⟨gk, Bk, rfl, hgk, htk, hb⟩
  have y9 : Hid (Below u0.heap.size u0 v9) := below_then y8.out hb
  have T9 : Hid (TRow v9 gk 62 n0 (Pg.tab n0 d0 (Pg.keyAt ks)) n0 Bk) := htk
  clear hb hgk htk y8
  go_wp2_with fail
  refine (values_any p m0 m1 n0 d0 h4 h5 h6 ks vs _ (H.out.keep (below_then U0.out y9.out))).mono ?_
  rintro r v10 ⟨gv, Bv, rfl, hgv, htv, hb⟩
  have y10 : Hid (Below u0.heap.size u0 v10) := below_then y9.out hb
  have T10 : Hid (TRow v10 gk 62 n0 (Pg.tab n0 d0 (Pg.keyAt ks)) n0 Bk ∧ TRow v10 gv 62 n0 (Pg.tab n0 d0 (Pg.valAt vs)) n0 Bv) := ⟨T9.out.keep hb, htv⟩
  clear hb hgv htv T9 y9
  obtain ⟨x0, x1, x2, x3, x4, x5, x6, x7, x8⟩ := NM.out v10 y10.out
  go_wp2
  clear x0 x1 x2 x3 x4 x5 x6 x7 x8 heq
  go_loopw [53] (fun i wr => ∃ t : Nat, t ≤ n0 ∧ i = .int .i64 t ∧ Below v10.heap.size v10 wr) (fun i _ => n0 - (intOf i).toNat)
  case atStart => exact ⟨0, Nat.zero_le _, rfl, Below.refl _ _⟩
  case round =>
    obtain ⟨t, ht, rfl, hbel⟩ := hrel
    have HW : Hid (Below v10.heap.size v10 wr) := hbel
    clear hbel
    by_cases htl : t < n0
    · obtain ⟨bk, ck1, ck2⟩ := T10.out.1.atRow (i := t) (d := d0) htl htl (by rw [Pg.row_tab htl, Ls.gen_length])
      obtain ⟨bv, cv1, cv2⟩ := T10.out.2.atRow (i := t) (d := d0) htl htl (by rw [Pg.row_tab htl, Ls.gen_length])
      rw [Pg.row_tab htl] at ck2 cv2
      have CK1 : Hid (v10.cell? ⟨gk, t, none⟩ = some (.slice (some ⟨bk, 0, none⟩) d0 d0)) := ck1
      have CV1 : Hid (v10.cell? ⟨gv, t, none⟩ = some (.slice (some ⟨bv, 0, none⟩) d0 d0)) := cv1
      have CK2 : Hid (v10.rowIs bk 21 d0 (fun j => .int .i32 (Ls.nth (Ls.gen d0 (Pg.keyAt ks t)) j))) := ck2
      have CV2 : Hid (v10.rowIs bv 21 d0 (fun j => .int .i32 (Ls.nth (Ls.gen d0 (Pg.valAt vs t)) j))) := cv2
      clear ck1 ck2 cv1 cv2
      have KS : Hid (∀ w', Below wr.heap.size wr w' → ((w'.cell? ⟨w.heap.size, 0, none⟩ = some (.int .i64 (m0 : Int)) ∧ w'.cell? ⟨w.heap.size, 1, none⟩ = some (.int .i64 (m1 : Int)) ∧ w'.cell? ⟨w.heap.size, 2, none⟩ = some (.int .i64 (n0 : Int)) ∧ w'.cell? ⟨w.heap.size, 3, none⟩ = some (.int .i64 (d0 : Int)) ∧ w'.cell? ⟨w.heap.size, 4, none⟩ = some (.int .i64 h4) ∧ w'.cell? ⟨w.heap.size, 5, none⟩ = some (.int .i64 h5) ∧ w'.cell? ⟨w.heap.size, 6, none⟩ = some (.int .i64 h6) ∧ w'.cell? ⟨w.heap.size, 7, none⟩ = some (.slice a1 ks.length c1) ∧ w'.cell? ⟨w.heap.size, 8, none⟩ = some (.slice a2 vs.length c2)) ∧ w'.cell? ⟨gk, t, none⟩ = some (.slice (some ⟨bk, 0, none⟩) d0 d0) ∧ w'.cell? ⟨gv, t, none⟩ = some (.slice (some ⟨bv, 0, none⟩) d0 d0)) ∧ Hid (Below wr.heap.size wr w')) := fun w' hb => by
        have hb2 := below_then HW.out hb
        exact ⟨⟨NM.out w' (below_then y10.out hb2), by rw [hb2.cell (p := ⟨gk, t, none⟩) (World.block_lt_of_cell? v10 _ CK1.out)]; exact CK1.out, by rw [hb2.cell (p := ⟨gv, t, none⟩) (World.block_lt_of_cell? v10 _ CV1.out)]; exact CV1.out⟩, hb⟩
      have LR : Hid (∀ w', Below wr.heap.size wr w' → Lst .i32 w' (some ⟨bk, 0, none⟩) (Ls.gen d0 (Pg.keyAt ks t)) ∧ Lst .i32 w' (some ⟨bv, 0, none⟩) (Ls.gen d0 (Pg.valAt vs t))) := fun w' hb =>
        ⟨lst_of_row (by rw [Ls.gen_length]; exact row_keep CK2.out (below_then HW.out hb)) (fun j hj => rfl), lst_of_row (by rw [Ls.gen_length]; exact row_keep CV2.out (below_then HW.out hb)) (fun j hj => rfl)⟩
      have WW : Hid (Below w.heap.size w wr) := below_then U0.out (below_then y10.out HW.out)
      have hvt : t < vs.length := by rw [LV.out]; exact htl
      have e0 : (0 : Int) ≤ (t : Int) := by omega
      have e1 : (t : Int) < (n0 : Int) := by omega
      have gl : d0 = (Ls.gen d0 (Pg.keyAt ks t)).length := (Ls.gen_length _ _).symm
      have gl2 : d0 = (Ls.gen d0 (Pg.valAt vs t)).length := (Ls.gen_length _ _).symm
      have GL : Hid (d0 = (Ls.gen d0 (Pg.keyAt ks t)).length ∧ d0 = (Ls.gen d0 (Pg.valAt vs t)).length ∧ ks.length = (Ls.gen d0 (Pg.keyAt ks t)).length) := ⟨gl, gl2, by rw [← gl]; exact LK.out⟩
      have EK : Hid (Ls.gen d0 (Pg.keyAt ks t) = Pg.key ks t) := (Pg.key_tab LK.out).symm
      have EV : Hid (Ls.gen d0 (Pg.valAt vs t) = Gp.means (Pg.gz (Pg.nth vs t)) (Pg.gs (Pg.nth vs t)) (Pg.gc (Pg.nth vs t))) := (Pg.val_tab (FV.out t hvt).1).symm
      have LL1 : Hid ((Ls.gen d0 (Pg.keyAt ks t)).length ≤ 1000000) := by rw [← gl]; show d0 ≤ _; omega
      have LL2 : Hid ((Ls.gen d0 (Pg.valAt vs t)).length ≤ 1000000) := by rw [← gl2]; show d0 ≤ _; omega
      clear gl gl2
      go_wp2
      go_region_held3 (fun w' => ((w'.cell? ⟨w.heap.size, 0, none⟩ = some (.int .i64 (m0 : Int)) ∧ w'.cell? ⟨w.heap.size, 1, none⟩ = some (.int .i64 (m1 : Int)) ∧ w'.cell? ⟨w.heap.size, 2, none⟩ = some (.int .i64 (n0 : Int)) ∧ w'.cell? ⟨w.heap.size, 3, none⟩ = some (.int .i64 (d0 : Int)) ∧ w'.cell? ⟨w.heap.size, 4, none⟩ = some (.int .i64 h4) ∧ w'.cell? ⟨w.heap.size, 5, none⟩ = some (.int .i64 h5) ∧ w'.cell? ⟨w.heap.size, 6, none⟩ = some (.int .i64 h6) ∧ w'.cell? ⟨w.heap.size, 7, none⟩ = some (.slice a1 ks.length c1) ∧ w'.cell? ⟨w.heap.size, 8, none⟩ = some (.slice a2 vs.length c2)) ∧ w'.cell? ⟨gk, t, none⟩ = some (.slice (some ⟨bk, 0, none⟩) d0 d0) ∧ w'.cell? ⟨gv, t, none⟩ = some (.slice (some ⟨bv, 0, none⟩) d0 d0)) ∧ Hid (Below wr.heap.size wr w'))
        (first
          | exact KS.out _ ((Below.refl wr.heap.size wr).drew)
          | exact KS.out _ z4.out
          | exact KS.out _ z3.out
          | exact KS.out _ z2.out
          | exact KS.out _ z1.out
          | assumption)
        (first
          | (go_at_call 39; refine (refKeyP_any _ _ _ _ _ _ _ a1 _ _ ⟨_, _, _, rfl⟩ ks n0 t _ (G1.out.keep (below_then WW.out ((Below.refl wr.heap.size wr).drew))) lk1 DK.out htl).mono ?_; rintro e w1 ⟨q1, r1, rfl, hL, hb⟩; have z1 : Hid (Below wr.heap.size wr w1) := ((Below.refl wr.heap.size wr).drew).trans hb; have Q1 : Hid (Lst .i32 w1 q1 (Pg.key ks t)) := hL; clear hb hL)
          | (go_at_call 38; (with_reducible refine (same_anym (some ⟨bk, 0, none⟩) q1 d0 ks.length _ _ (Ls.gen d0 (Pg.keyAt ks t)) (Pg.key ks t) _ GL.out.1 GL.out.2.2 (LR.out _ z1.out).1 Q1.out LL1.out EK.out).mono ?_); rintro e w2 ⟨rfl, hb⟩; have z2 : Hid (Below wr.heap.size wr w2) := below_then z1.out hb; clear hb)
          | (go_at_call 40; refine (refValueP_any _ _ _ _ _ _ _ a2 _ _ ⟨_, _, _, rfl⟩ vs d0 t _ (G2.out.keep (below_then WW.out z2.out)) lv1 (by omega) DV.out hvt).mono ?_; rintro e w3 ⟨q3, r3, rfl, hL, hb⟩; have z3 : Hid (Below wr.heap.size wr w3) := below_then z2.out hb; have Q3 : Hid (Lst .i32 w3 q3 (Gp.means (Pg.gz (Pg.nth vs t)) (Pg.gs (Pg.nth vs t)) (Pg.gc (Pg.nth vs t)))) := hL; clear hb hL)
          | (go_at_call 38; (with_reducible refine (same_anym (some ⟨bv, 0, none⟩) q3 d0 d0 _ _ (Ls.gen d0 (Pg.valAt vs t)) (Gp.means (Pg.gz (Pg.nth vs t)) (Pg.gs (Pg.nth vs t)) (Pg.gc (Pg.nth vs t))) _ GL.out.2.1 GL.out.2.1 (LR.out _ z3.out).2 Q3.out LL2.out EV.out).mono ?_); rintro e w4 ⟨rfl, hb⟩; have z4 : Hid (Below wr.heap.size wr w4) := below_then z3.out hb; clear hb))
      have y4 : Hid (Below v10.heap.size v10 w4) := below_then HW.out z4.out
      have d1 : w4.cell? ⟨gk, t, none⟩ = some (.slice (some ⟨bk, 0, none⟩) d0 d0) := (KS.out w4 z4.out).1.2.1
      clear z1 z2 z3 z4 Q1 Q3 KS LR HW WW
      go_wp2
      clear d1
      go_loopw [81] (fun i wr => ∃ j : Nat, j ≤ d0 ∧ i = .int .i64 j ∧ Below v10.heap.size v10 wr) (fun i _ => d0 - (intOf i).toNat)
      case atStart => exact ⟨0, Nat.zero_le _, rfl, y4.out⟩
      case round =>
        clear y4
        obtain ⟨i, hi, rfl, hbel⟩ := hrel
        have HW : Hid (Below v10.heap.size v10 wr) := hbel
        clear hbel
        by_cases hil : i < d0
        · obtain ⟨X, eX⟩ : ∃ X, Pg.keyAt ks t i = X := ⟨_, rfl⟩
          obtain ⟨Y, eY⟩ : ∃ Y, Pg.valAt vs t i = Y := ⟨_, rfl⟩
          have EX : Hid (Pg.keyAt ks t i = X) := eX
          have EY : Hid (Pg.valAt vs t i = Y) := eY
          have KS : Hid (∀ w', Below wr.heap.size wr w' → (w'.cell? ⟨gk, t, none⟩ = some (.slice (some ⟨bk, 0, none⟩) d0 d0) ∧ w'.cell? ⟨gv, t, none⟩ = some (.slice (some ⟨bv, 0, none⟩) d0 d0) ∧ w'.cell? ⟨bk, i, none⟩ = some (.int .i32 X) ∧ w'.cell? ⟨bv, i, none⟩ = some (.int .i32 Y)) ∧ Hid (Below wr.heap.size wr w')) := fun w' hb => by
            have hb2 := below_then HW.out hb
            refine ⟨⟨by rw [hb2.cell (p := ⟨gk, t, none⟩) (World.block_lt_of_cell? v10 _ CK1.out)]; exact CK1.out, by rw [hb2.cell (p := ⟨gv, t, none⟩) (World.block_lt_of_cell? v10 _ CV1.out)]; exact CV1.out, ?_, ?_⟩, hb⟩
            · rw [(row_keep CK2.out hb2).cell hil, Ls.nth_gen hil, EX.out]
            · rw [(row_keep CV2.out hb2).cell hil, Ls.nth_gen hil, EY.out]
          have WW : Hid (Below w.heap.size w wr) := below_then U0.out (below_then y10.out HW.out)
          clear eX eY
          have e2 : (0 : Int) ≤ (i : Int) := by omega
          have e3 : (i : Int) < (d0 : Int) := by omega
          go_wp2
          go_region_held3 (fun w' => (w'.cell? ⟨gk, t, none⟩ = some (.slice (some ⟨bk, 0, none⟩) d0 d0) ∧ w'.cell? ⟨gv, t, none⟩ = some (.slice (some ⟨bv, 0, none⟩) d0 d0) ∧ w'.cell? ⟨bk, i, none⟩ = some (.int .i32 X) ∧ w'.cell? ⟨bv, i, none⟩ = some (.int .i32 Y)) ∧ Hid (Below wr.heap.size wr w'))
            (first
              | exact KS.out _ ((Below.refl wr.heap.size wr).drew)
              | exact KS.out _ z2.out
              | exact KS.out _ z1.out
              | assumption)
            (first
              | (go_at_call 23; refine (keyP_any p m0 m1 n0 d0 h4 h5 h6 ks vs t i X _ (H.out.keep (below_then WW.out ((Below.refl wr.heap.size wr).drew))) htl hil EX.out).mono ?_; rintro e w1 ⟨rfl, hb⟩; have z1 : Hid (Below wr.heap.size wr w1) := ((Below.refl wr.heap.size wr).drew).trans hb; clear hb)
              | (go_at_call 24; refine (valueP_any p m0 m1 n0 d0 h4 h5 h6 ks vs t i Y _ (H.out.keep (below_then WW.out z1.out)) htl hil EY.out).mono ?_; rintro e w2 ⟨rfl, hb⟩; have z2 : Hid (Below wr.heap.size wr w2) := below_then z1.out hb; clear hb))
          go_wp2
          go_roundw
          case rel => exact ⟨i + 1, by omega, by go_num, below_then HW.out z2.out⟩
          case measure => simp [intOf]; omega
        · go_wp2
          go_roundw
          case rel => exact ⟨t + 1, by omega, by go_num, HW.out⟩
          case measure => simp [intOf]; omega
    · have WW : Hid (Below w.heap.size w wr) := below_then U0.out (below_then y10.out HW.out)
      have NB : Hid (∀ w', Below wr.heap.size wr w' → w'.cell? ⟨w.heap.size, 0, none⟩ = some (.int .i64 (m0 : Int)) ∧ w'.cell? ⟨w.heap.size, 1, none⟩ = some (.int .i64 (m1 : Int)) ∧ w'.cell? ⟨w.heap.size, 2, none⟩ = some (.int .i64 (n0 : Int)) ∧ w'.cell? ⟨w.heap.size, 3, none⟩ = some (.int .i64 (d0 : Int)) ∧ w'.cell? ⟨w.heap.size, 4, none⟩ = some (.int .i64 h4) ∧ w'.cell? ⟨w.heap.size, 5, none⟩ = some (.int .i64 h5) ∧ w'.cell? ⟨w.heap.size, 6, none⟩ = some (.int .i64 h6) ∧ w'.cell? ⟨w.heap.size, 7, none⟩ = some (.slice a1 ks.length c1) ∧ w'.cell? ⟨w.heap.size, 8, none⟩ = some (.slice a2 vs.length c2)) := fun w' hb => NM.out w' (below_then (below_then y10.out HW.out) hb)
      obtain ⟨x0, x1, x2, x3, x4, x5, x6, x7, x8⟩ := NB.out wr (Below.refl _ _)
      have CV : Hid (∀ (v : World) (g9 : Nat), v.rowIs g9 5 N (fun j => .int .u8 (Ls.nth (Pg.bytes [(m0 : Int), m1, n0, d0, h4, h5, h6] ks vs) j)) → (convert 44 9 (.slice (some ⟨g9, 0, none⟩) N N)).run Tryz.prog v = .ok (.string s) v) := fun v g9 hr => by
        have hl : (Pg.bytes [(m0 : Int), m1, n0, d0, h4, h5, h6] ks vs).length = N := by rw [Pg.bytes_length HP.out]; exact HN.out
        rw [← ES.out]
        exact conv_text _ _ _ Tryz.underlying44 Tryz.underlying5 Tryz.underlying9 (lst_of_row (by rw [hl]; exact hr) (fun j hj => rfl)) (bytes_byt HP.out) _ _ hl.symm
      go_wp2
      go_region_law (first
        | (go_simp; go_at_call 16; refine (bytesP_any p m0 m1 n0 d0 h4 h5 h6 ks vs N _ (H.out.keep (below_then WW.out ((Below.refl wr.heap.size wr).drew))) HN.out).mono ?_; rintro e w1 ⟨g9, rfl, _, hr, hb⟩; have z1 : Hid (Below wr.heap.size wr w1) := ((Below.refl wr.heap.size wr).drew).trans hb; have R1 : Hid (w1.rowIs g9 5 N (fun j => .int .u8 (Ls.nth (Pg.bytes [(m0 : Int), m1, n0, d0, h4, h5, h6] ks vs) j))) := hr; have cv1 := CV.out w1 g9 hr; obtain ⟨x0, x1, x2, x3, x4, x5, x6, x7, x8⟩ := NB.out w1 z1.out; clear hb hr)
        | (go_simp; go_at_call 41; refine (refBytesP_any _ _ _ _ _ _ _ a1 a2 _ _ ks vs s _ (G1.out.keep (below_then WW.out z1.out)) (G2.out.keep (below_then WW.out z1.out)) HP.out ES.out).mono ?_; rintro e w2 ⟨rfl, hb⟩; have z2 : Hid (Below wr.heap.size wr w2) := below_then z1.out hb; have cv2 := CV.out w2 g9 (row_keep R1.out hb); clear hb))
      all_goals
        go_wp2
        go_ret
        exact ⟨ret_bool (by simp), below_then WW.out z2.out⟩
end Go.Proofs.YtimkfkolkplpdaaGreat
/- The law's own question of layer 8, with lengths by name. -/
namespace Go.Proofs.YtimkfkolkplpdaaGreat
set_option linter.unusedVariables false
open Go.RowKit
theorem is_anym (p m0 m1 n0 d0 : Nat) (h4 h5 h6 : Int) (ks vs : List (Int × Int × List Int)) (a1 a2 : Option Addr) (k1 k2 c1 c2 : Nat) (w : World) (e1 : k1 = ks.length) (e2 : k2 = vs.length) (h : PageAt w p m0 m1 n0 d0 h4 h5 h6 ks vs) (g1 : Gps w a1 ks) (g2 : Gps w a2 vs) :
    Calls Tryz.prog 14 #[.pointer (some ⟨p, 0, none⟩), .agg #[.int .i64 (m0 : Int), .int .i64 (m1 : Int), .int .i64 (n0 : Int), .int .i64 (d0 : Int), .int .i64 h4, .int .i64 h5, .int .i64 h6, .slice a1 k1 c1, .slice a2 k2 c2]] w fun e w' => e = .returned (.bool true) ∧ Below w.heap.size w w' := by
  subst e1
  subst e2
  exact is_any p m0 m1 n0 d0 h4 h5 h6 ks vs a1 a2 c1 c2 w h g1 g2
end Go.Proofs.YtimkfkolkplpdaaGreat
/- The law's own helper of layer 8: groups as the document has them, made while another block lies open. -/
namespace Go.Proofs.YtimkfkolkplpdaaGreat
set_option linter.unusedVariables false
open Go.RowKit
attribute [local go_sem ↓] Go.wp_at_zero Go.wp_at_succ

set_option maxRecDepth 100000 in
set_option maxHeartbeats 1600000 in
theorem groups_off (a : Option Addr) (c P : Nat) (l : List (Int × Int × List Int)) (w0 w : World) (ha : Gps w0 a l) (h0 : Below w0.heap.size w0 w) (hP1 : w0.heap.size ≤ P) (hP2 : P < w.heap.size) (hl : l.length ≤ 10000) :
    Calls Tryz.prog 10 #[.slice a l.length c] w fun e w' => ∃ a' c', e = .returned (.slice a' l.length c') ∧ (∀ F : World, (∀ g, ¬ g = P → F.heap[g]? = w'.heap[g]?) → Gps F a' l) ∧ Below w.heap.size w w' := by
  obtain ⟨i0, hi0, hi1, hi2, hi3⟩ := info_parts Tryz.infoRG
  obtain ⟨A, C, hAC⟩ := ha.choose
  have HA0 : Hid (∀ i, i < l.length → ∃ b o, a = some ⟨b, o, none⟩ ∧ GpAt w0 b o i (Pg.nth l i) (A i) (C i)) := hAC
  have HA : Hid (∀ i, i < l.length → ∃ b o, a = some ⟨b, o, none⟩ ∧ GpAt w b o i (Pg.nth l i) (A i) (C i)) := fun i hi => by
    obtain ⟨b, o, e, hg⟩ := hAC i hi
    exact ⟨b, o, e, hg.keep h0⟩
  have H0 : Hid (Below w0.heap.size w0 w) := h0
  clear ha hAC h0
  go_enter Tryz.func10, Tryz.ntmps10
  go_wp2
  go_loopw [3, 8] (fun v i wr => ∃ k : Nat, k ≤ l.length ∧ i = .int .i64 k ∧ wr.ownsRow w.heap.size 72 3 v k (gflat l A C k) ∧ Below w.heap.size w wr) (fun _ i _ => l.length - (intOf i).toNat)
  case atStart => exact ⟨0, Nat.zero_le _, rfl, World.ownsRow_nil _ _ _ _, Below.refl _ _⟩
  case round =>
    obtain ⟨k, hk, rfl, hown, hbel⟩ := hrel
    have HO : Hid (wr.ownsRow w.heap.size 72 3 u3 k (gflat l A C k)) := hown
    have HB : Hid (Below w.heap.size w wr) := hbel
    have hsz := hbel.size
    clear hown hbel
    by_cases hlt : k < l.length
    · obtain ⟨b, o, rfl, hg⟩ := HA.out k hlt
      obtain ⟨d0, d1, d2, d3⟩ := hg.keep HB.out
      have hbl := hg.lt
      have hbl2 : b < wr.heap.size := by omega
      clear hg d3
      go_wp2_with (at_builtin; refine wpList_append_lies _ rfl _ _ _ rfl w.heap.size 72 i0 _ 3 32 Tryz.underlying35 hi0 hi1 hi2 hi3 rfl (by omega) _ k _ (by rfl) ((HO.out.alloc _).alloc _) ⟨wr.heap.size + 1, 0, none⟩ 1 1 [.int .i32 (Pg.gz (Pg.nth l k)), .int .u32 (Pg.gs (Pg.nth l k)), .slice (A k) (Pg.gc (Pg.nth l k)).length (C k)] (by rfl) (by rfl) (World.news_of_block (cs := #[.int .i32 (Pg.gz (Pg.nth l k)), .int .u32 (Pg.gs (Pg.nth l k)), .slice (A k) (Pg.gc (Pg.nth l k)).length (C k)]) (t := 72) (fr := (0, 0)) (by first | exact heap_alloc_new _ _ | (have := heap_alloc_new (wr.alloc (.cells #[.int .i32 (Pg.gz (Pg.nth l k)), .int .u32 (Pg.gs (Pg.nth l k)), .slice (A k) (Pg.gc (Pg.nth l k)).length (C k)] 61)) (.cells #[.int .i32 (Pg.gz (Pg.nth l k)), .int .u32 (Pg.gs (Pg.nth l k)), .slice (A k) (Pg.gc (Pg.nth l k)).length (C k)] 72); simpa using this))) (by simp [Value.oneCell']) (by omega) (by unfold maxLen; omega) (by omega) (by simp; omega) (wr.heap.size + 1 + 1) (by simp) ?_; intro gg cap w1 hown1 hgrow hat hlt1; have B1 : Hid (Below w.heap.size w w1) := ((HB.out.alloc (by omega) _).alloc (by simp; omega) _).grown hgrow (by simp; omega) (fun j hj => (HO.out.lt j hj).1); have O1 : Hid (w1.ownsRow w.heap.size 72 3 (.slice (some ⟨gg, 0, none⟩) (k + 1) cap) (k + 1) (gflat l A C (k + 1))) := hown1; clear hown1 hgrow hat)
      go_roundw
      case rel => exact ⟨k + 1, by omega, by go_num, O1.out, B1.out⟩
      case measure => simp [intOf]; omega
    · have e : k = l.length := by omega
      subst e
      go_wp2
      go_ret
      obtain ⟨a', c', h1⟩ := Pg.own3 HO.out
      subst h1
      refine ⟨a', c', rfl, fun F hF => ?_, HB.out⟩
      have hL : ∀ i, i < l.length → Lst .i64 F (A i) (Pg.gc (Pg.nth l i)) := fun i hi => by
        obtain ⟨b, o, _, hg⟩ := HA0.out i hi
        intro j hj
        obtain ⟨b', o', e', hc⟩ := hg.2.2.2 j hj
        have hb' : b' < w0.heap.size := World.block_lt_of_cell? w0 _ hc
        refine ⟨b', o', e', ?_⟩
        rw [World.cell?_of_block (hF b' (by omega)), (below_then H0.out HB.out).cell (p := ⟨b', o' + j, none⟩) hb']
        exact hc
      obtain ⟨a2, c2, h1, h2⟩ := gps_of_own (own3_at HO.out fun g hg => hF g (by have := (HO.out.lt g hg).1; omega)) rfl hL
      cases h1
      exact h2
/-- Groups of an elder world stand where all but a younger block stands. -/
theorem Gps.off {w0 w F : World} {a : Option Addr} {l : List (Int × Int × List Int)} {P : Nat} (h : Gps w0 a l) (hb : Below w0.heap.size w0 w) (hP : w0.heap.size ≤ P) (hF : ∀ g, ¬ g = P → F.heap[g]? = w.heap[g]?) : Gps F a l := by
  intro i hi
  obtain ⟨b, o, a', c', e, h0, h1, h2, h3⟩ := h i hi
  have hbl := World.block_lt_of_cell? w0 _ h0
  have cell : ∀ (p : Addr) (v : Value), w0.cell? p = some v → F.cell? p = some v := fun p v hc => by
    have hp := World.block_lt_of_cell? w0 _ hc
    rw [World.cell?_of_block (hF p.block (by omega)), hb.cell hp]
    exact hc
  refine ⟨b, o, a', c', e, cell _ _ h0, cell _ _ h1, cell _ _ h2, fun j hj => ?_⟩
  obtain ⟨b', o', e', hc⟩ := h3 j hj
  exact ⟨b', o', e', cell _ _ hc⟩
/-- A box that was laid as noughts and then written whole. -/
theorem set9_off (v : World) (P : Nat) (y0 y1 y2 y3 y4 y5 y6 y7 y8 : Value) : ∀ g, ¬ g = P → (((((((((v.setCell ⟨P, 0, none⟩ y0).setCell ⟨P, 1, none⟩ y1).setCell ⟨P, 2, none⟩ y2).setCell ⟨P, 3, none⟩ y3).setCell ⟨P, 4, none⟩ y4).setCell ⟨P, 5, none⟩ y5).setCell ⟨P, 6, none⟩ y6).setCell ⟨P, 7, none⟩ y7).setCell ⟨P, 8, none⟩ y8).heap[g]? = v.heap[g]? := fun g hg => by
  have e : ∀ (u : World) (o : Nat) (y : Value), (u.setCell ⟨P, o, none⟩ y).heap[g]? = u.heap[g]? := fun u o y => Go.Deep.blk_setCell_other u ⟨P, o, none⟩ y g hg
  rw [e, e, e, e, e, e, e, e, e]
theorem set9_at {v : World} {P : Nat} {t : TypeId} {f : Nat → Value} (h : v.rowIs P t 9 f) (h0 h1 h2 h3 h4 h5 h6 : Int) (y7 y8 : Value) : NmAt (((((((((v.setCell ⟨P, 0, none⟩ (.int .i64 h0)).setCell ⟨P, 1, none⟩ (.int .i64 h1)).setCell ⟨P, 2, none⟩ (.int .i64 h2)).setCell ⟨P, 3, none⟩ (.int .i64 h3)).setCell ⟨P, 4, none⟩ (.int .i64 h4)).setCell ⟨P, 5, none⟩ (.int .i64 h5)).setCell ⟨P, 6, none⟩ (.int .i64 h6)).setCell ⟨P, 7, none⟩ y7).setCell ⟨P, 8, none⟩ y8) P h0 h1 h2 h3 h4 h5 h6 y7 y8 := by
  have hr := ((((((((h.set 0 (.int .i64 h0)).set 1 (.int .i64 h1)).set 2 (.int .i64 h2)).set 3 (.int .i64 h3)).set 4 (.int .i64 h4)).set 5 (.int .i64 h5)).set 6 (.int .i64 h6)).set 7 y7).set 8 y8
  refine ⟨⟨?_, ?_, ?_, ?_, ?_, ?_, ?_⟩, ?_, ?_⟩
  · rw [hr.cell (i := 0) (by decide)]; rfl
  · rw [hr.cell (i := 1) (by decide)]; rfl
  · rw [hr.cell (i := 2) (by decide)]; rfl
  · rw [hr.cell (i := 3) (by decide)]; rfl
  · rw [hr.cell (i := 4) (by decide)]; rfl
  · rw [hr.cell (i := 5) (by decide)]; rfl
  · rw [hr.cell (i := 6) (by decide)]; rfl
  · rw [hr.cell (i := 7) (by decide)]; rfl
  · rw [hr.cell (i := 8) (by decide)]; rfl
/-- A page's variable as it is laid. -/
def z9 (i : Nat) : Value := if i < 7 then .int .i64 0 else .slice none 0 0
theorem z9_alloc (w : World) : (w.alloc (.cells #[.int .i64 0, .int .i64 0, .int .i64 0, .int .i64 0, .int .i64 0, .int .i64 0, .int .i64 0, .slice none 0 0, .slice none 0 0] 38)).rowIs w.heap.size 38 9 z9 :=
  World.rowIs_alloc w #[.int .i64 0, .int .i64 0, .int .i64 0, .int .i64 0, .int .i64 0, .int .i64 0, .int .i64 0, .slice none 0 0, .slice none 0 0] 38 z9 (fun i hi => by match i, hi with | 0, _ => rfl | 1, _ => rfl | 2, _ => rfl | 3, _ => rfl | 4, _ => rfl | 5, _ => rfl | 6, _ => rfl | 7, _ => rfl | 8, _ => rfl)
theorem cells_z9 {w : World} {P : Nat} {t : TypeId} (h : w.rowIs P t 9 z9) : w.cell? ⟨P, 0, none⟩ = some (.int .i64 0) ∧ w.cell? ⟨P, 1, none⟩ = some (.int .i64 0) ∧ w.cell? ⟨P, 2, none⟩ = some (.int .i64 0) ∧ w.cell? ⟨P, 3, none⟩ = some (.int .i64 0) ∧ w.cell? ⟨P, 4, none⟩ = some (.int .i64 0) ∧ w.cell? ⟨P, 5, none⟩ = some (.int .i64 0) ∧ w.cell? ⟨P, 6, none⟩ = some (.int .i64 0) ∧ w.cell? ⟨P, 7, none⟩ = some (.slice none 0 0) ∧ w.cell? ⟨P, 8, none⟩ = some (.slice none 0 0) ∧ ∀ i, w.frozen? ⟨P, i, none⟩ = false :=
  ⟨h.cell (i := 0) (by decide), h.cell (i := 1) (by decide), h.cell (i := 2) (by decide), h.cell (i := 3) (by decide), h.cell (i := 4) (by decide), h.cell (i := 5) (by decide), h.cell (i := 6) (by decide), h.cell (i := 7) (by decide), h.cell (i := 8) (by decide), fun i => h.frozen i⟩
/-- What hangs on all but one block stands while new blocks are laid. -/
theorem gps_hop {w v F : World} {P : Nat} {a : Option Addr} {l : List (Int × Int × List Int)} (h : ∀ F : World, (∀ g, ¬ g = P → F.heap[g]? = w.heap[g]?) → Gps F a l) (hb : Below w.heap.size w v) (hF : ∀ g, ¬ g = P → F.heap[g]? = v.heap[g]?) : Gps F a l := by
  obtain ⟨E, hE⟩ : ∃ E : World, E = { w with heap := w.heap.setIfInBounds P (.cells #[] 0 (0, 0)) } := ⟨_, rfl⟩
  have hoff : ∀ g, ¬ g = P → E.heap[g]? = w.heap[g]? := fun g hg => by
    rw [hE]
    show (w.heap.setIfInBounds P _)[g]? = _
    rw [Array.getElem?_setIfInBounds, if_neg (fun e => hg e.symm)]
  have hw := h E hoff
  have key : ∀ (p : Addr) (x : Value), E.cell? p = some x → F.cell? p = some x := fun p x hc => by
    have hlt := World.block_lt_of_cell? E _ hc
    have hsz : E.heap.size = w.heap.size := by rw [hE]; simp
    by_cases e : p.block = P
    · exfalso
      have hP : E.heap[p.block]? = some (.cells #[] 0 (0, 0)) := by
        rw [hE, e]
        show (w.heap.setIfInBounds P _)[P]? = _
        rw [Array.getElem?_setIfInBounds, if_pos rfl, if_pos (by omega)]
      have hs := World.cell?_spot hc
      obtain ⟨b, o, sp⟩ := p
      simp at hs
      subst hs
      rw [cell_of_row E b o _ _ _ hP] at hc
      simp at hc
    · rw [World.cell?_of_block (hF p.block e), hb.cell (p := p) (by omega), ← World.cell?_of_block (w := w) (hoff p.block e)]
      exact hc
  intro i hi
  obtain ⟨b, o, a', c', e, h0, h1, h2, h3⟩ := hw i hi
  refine ⟨b, o, a', c', e, key _ _ h0, key _ _ h1, key _ _ h2, fun j hj => ?_⟩
  obtain ⟨b', o', e', hc⟩ := h3 j hj
  exact ⟨b', o', e', key _ _ hc⟩
end Go.Proofs.YtimkfkolkplpdaaGreat
/- One operation of a drawn region, taken first, by its place: a wanted one, and one that a guard leaves out. -/
namespace Go.Proofs.YtimkfkolkplpdaaGreat
set_option linter.unusedVariables false

section
variable {P : Program} {md : Region.Mode} {ops : Array Oper} {Q : Exit → Act → World → Prop} {S : World → Prop}
theorem take_yes (i d : Nat) {oi : Oper} {v : Value} {fuel : Nat} {listed : Array Bool} {a : Act} {w : World} (hi : ops[i]? = some oi) (hd : oi.dst = some d)
    (hs : Region.noSelect ops = true) (hf : Region.free md ops listed i = true) (hr : (Region.ready md ops listed).contains i = true)
    (hQ : ∀ c a w, Q (.panic c) (a.put (some d) v) w → Q (.panic c) a w) (hS : S w) (hw : Region.wanted oi (yielded ops a.tmps) = true) (hy : ∀ w, S w → (execOp a.eval oi).run P w = .ok (.value v) w)
    (h : wpAnyH P md ops Q S fuel (listed.setIfInBounds i true) (a.put (some d) v) w) : wpAnyH P md ops Q S (fuel + 1) listed a w := by
  rw [← hd] at h hQ
  exact wpAnyH_take hi hs hf hr hQ (Or.inl ⟨hw, hy⟩) hS h
theorem take_no (i d : Nat) {oi : Oper} {fuel : Nat} {listed : Array Bool} {a : Act} {w : World} (hi : ops[i]? = some oi) (hd : oi.dst = some d)
    (hs : Region.noSelect ops = true) (hf : Region.free md ops listed i = true) (hr : (Region.ready md ops listed).contains i = true)
    (hQ : ∀ c a w, Q (.panic c) (a.put (some d) undef) w → Q (.panic c) a w) (hS : S w) (hw : Region.wanted oi (yielded ops a.tmps) = false)
    (h : wpAnyH P md ops Q S fuel (listed.setIfInBounds i true) (a.put (some d) undef) w) : wpAnyH P md ops Q S (fuel + 1) listed a w := by
  rw [← hd] at h hQ
  exact wpAnyH_take hi hs hf hr hQ (Or.inr ⟨hw, rfl⟩) hS h
end
end Go.Proofs.YtimkfkolkplpdaaGreat
/- A store of a whole struct of nine cells into its variable's block, as one step of a drawn region (layer 8). -/
namespace Go.Proofs.YtimkfkolkplpdaaGreat
set_option linter.unusedVariables false
open Go.RowKit

theorem wp_store_box {P : Program} {op : Oper} {a : Act} {w : World} {K : Act → World → Prop} {Q : Exit → Act → World → Prop} (ty : TypeId) (x y : Operand) (ho : op.op = .store ty x y)
    (g : Nat) (cells : Array Value) (hx : a.eval x = .pointer (some ⟨g, 0, none⟩)) (hy : a.eval y = .agg cells) (t : TypeId) (n : Nat) (f : Nat → Value) (hr : w.rowIs g t n f)
    (hi : (P.info? ty).map (·.size) = some cells.size) (hn : cells.size = n) (h1 : cells.all (·.oneCell') = true)
    (h : ∀ w', (∀ j, ¬ j = g → w'.heap[j]? = w.heap[j]?) → (∀ i v, cells[i]? = some v → w'.cell? ⟨g, i, none⟩ = some v) → (∀ B u, Below B u w → B ≤ g → Below B u w') → K (a.put op.dst undef) w') : op.wp P a w K Q := by
  obtain ⟨c, hc, hcn, _⟩ := hr
  refine wp_store_row ty x y ho g cells hx hy t c hc hi (by omega) h1 (h _ (fun j hj => setRow_other w g j cells hj) (fun i v hv => ?_) (fun B u hb hB => below_setRow hb hB cells))
  rw [cell_of_row _ g i cells t (0, 0) (setRow_heap w g c cells t _ hc)]
  exact hv
theorem wp_if_wanted {P : Program} {ops : Array Oper} {o : Oper} {a : Act} {w : World} {K : Act → World → Prop} {Q : Exit → Act → World → Prop} {E : Prop} (hg : o.guard = none) (h : o.wp P a w K Q) : if Region.wanted o (yielded ops a.tmps) = true then o.wp P a w K Q else E := by
  rw [if_pos (by simp [Region.wanted, hg])]
  exact h
end Go.Proofs.YtimkfkolkplpdaaGreat
