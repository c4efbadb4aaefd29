/- Bytes of groups and pages: the document's answers (layer 8). -/
import Derived.Test.YtimkfkolkplpdaaGreatPgNew
import Derived.Test.YtimkfkolkplpdaaGreatPkRefs
import Derived.Test.YtimkfkolkplpdaaGreatSlRefs
namespace Go.Proofs.YtimkfkolkplpdaaGreat
set_option linter.unusedVariables false
open Go.RowKit
attribute [local go_sem ↓] Go.wp_at_zero Go.wp_at_succ

theorem text_size (l : List Int) : (strOfNums l).size = l.length := strOfNums_size l

set_option maxRecDepth 100000 in
set_option maxHeartbeats 1600000 in
theorem refGroup_any (z : Int) (sc : Nat) (a : Option Addr) (cp b : Nat) (c : List Int) (s : ByteArray) (w : World) (ha : Lst .i64 w a c) (hb : Pk.Ok b) (h0 : 0 < c.length) (hl : c.length ≤ 256) (hf : Pg.Fits b c.length (z, (sc : Int), c)) (hs : strOfNums (Pg.gb b (z, (sc : Int), c)) = s) :
    Calls Tryz.prog 70 #[.agg #[.int .i32 z, .int .u32 sc, .slice a c.length cp], .int .i64 b] w fun e w' => e = .returned (.string s) ∧ Below w.heap.size w w' := by
  obtain ⟨_, hcd, z0, z1, _, s1⟩ := hf
  have z0' : -2147483648 ≤ z := z0
  have z1' : z ≤ 2147483647 := z1
  have s1' : (sc : Int) ≤ 4294967295 := s1
  clear z0 z1 s1
  obtain ⟨v, hv⟩ := Int.eq_ofNat_of_zero_le (show 0 ≤ z + 4294967296 by omega)
  obtain ⟨t1, et1⟩ : ∃ t, strOfNums (Sl.be 4 v) = t := ⟨_, rfl⟩
  obtain ⟨t2, et2⟩ : ∃ t, strOfNums (Sl.be 4 sc) = t := ⟨_, rfl⟩
  have n1 : t1.size = 4 := by rw [← et1, text_size, Sl.be_length]
  have n2 : t2.size = 4 := by rw [← et2, text_size, Sl.be_length]
  obtain ⟨N, eN⟩ : ∃ N, Pk.size b c.length = N := ⟨_, rfl⟩
  have hN : N ≤ 32 := by rw [← eN]; exact Pk.size_le hb hl
  have HS : Hid (strOfNums (Pg.gb b (z, (sc : Int), c)) = s) := hs
  have HV : Hid (z + 4294967296 = (v : Int)) := hv
  have ET1 : Hid (strOfNums (Sl.be 4 v) = t1) := et1
  have ET2 : Hid (strOfNums (Sl.be 4 sc) = t2) := et2
  have EN : Hid (Pk.size b c.length = N) := eN
  have HA : Hid (Lst .i64 w a c) := ha
  have HB : Hid (Pk.Ok b) := hb
  have HC : Hid (Pk.Cds b c) := hcd
  have e12 : Hid (strOfNums (Pg.word4 z ++ Sl.be 4 sc) = t1 ++ t2) := by
    show _ = _
    rw [← Sl.text_append, ← et1, ← et2]
    unfold Pg.word4
    rw [show (z + 4294967296).toNat = v by omega]
  clear hs hv et1 et2 eN ha hb hcd
  have KS : Hid (∀ w', Below (w.alloc (.cells #[.int .i32 z, .int .u32 sc, .slice a c.length cp] 72)).heap.size (w.alloc (.cells #[.int .i32 z, .int .u32 sc, .slice a c.length cp] 72)) w' → w'.cell? ⟨w.heap.size, 0, none⟩ = some (.int .i32 z) ∧ w'.cell? ⟨w.heap.size, 1, none⟩ = some (.int .u32 sc) ∧ w'.cell? ⟨w.heap.size, 2, none⟩ = some (.slice a c.length cp) ∧ Hid (Below (w.alloc (.cells #[.int .i32 z, .int .u32 sc, .slice a c.length cp] 72)).heap.size (w.alloc (.cells #[.int .i32 z, .int .u32 sc, .slice a c.length cp] 72)) w')) := fun w' hb => by
    refine ⟨?_, ?_, ?_, hb⟩
    · rw [hb.cell (p := ⟨w.heap.size, 0, none⟩) (by simp)]; exact cell_of_row _ _ _ _ _ _ (heap_alloc_new w _)
    · rw [hb.cell (p := ⟨w.heap.size, 1, none⟩) (by simp)]; exact cell_of_row _ _ _ _ _ _ (heap_alloc_new w _)
    · rw [hb.cell (p := ⟨w.heap.size, 2, none⟩) (by simp)]; exact cell_of_row _ _ _ _ _ _ (heap_alloc_new w _)
  have qs : IntKind.u64.wrap (sc : Int) = (sc : Int) := u64_same (by omega) (by omega)
  go_enter Tryz.func70, Tryz.ntmps70
  go_wp2_with fail
  obtain ⟨u, hu⟩ : ∃ u, w.alloc (.cells #[.int .i32 z, .int .u32 sc, .slice a c.length cp] 72) = u := ⟨_, rfl⟩
  have BU : Hid (Below w.heap.size w u) := by rw [← hu]; exact box_below _ _
  rw [hu] at KS
  rw [hu]
  clear hu
  go_region_held3 (fun w' => w'.cell? ⟨w.heap.size, 0, none⟩ = some (.int .i32 z) ∧ w'.cell? ⟨w.heap.size, 1, none⟩ = some (.int .u32 sc) ∧ w'.cell? ⟨w.heap.size, 2, none⟩ = some (.slice a c.length cp) ∧ Hid (Below u.heap.size u w'))
    (first
      | exact KS.out _ ((Below.refl u.heap.size u).drew)
      | exact KS.out _ hbc.out
      | assumption)
    (first
      | (go_at_call 96; refine (refWord_any _ v t1 z0' z1' HV.out ET1.out _).mono ?_; rintro e v1 ⟨rfl, hb⟩; have hbc : Hid (Below u.heap.size u v1) := ((Below.refl u.heap.size u).drew).trans hb; clear hb)
      | (go_at_call 69; refine (refBytes_any sc 4 t2 (by omega) (by omega) ET2.out _).mono ?_; rintro e v2 ⟨rfl, hb⟩; have hbc : Hid (Below u.heap.size u v2) := below_then hbc.out hb; clear hb))
  obtain ⟨d0, d1, d2, _⟩ := KS.out _ hbc.out
  have BV : Hid (Below w.heap.size w v2) := below_then BU.out hbc.out
  clear d0 d1
  go_wp2_with fail
  clear d2
  refine (refPack_any _ _ b c HB.out h0 hl _ (HA.out.keep BV.out) HC.out).mono ?_
  rintro e u3 ⟨vw, rfl, hown, hb3⟩
  have B3 : Hid (Below w.heap.size w u3) := below_then BV.out hb3
  obtain ⟨ws, ews⟩ : ∃ ws, Pk.pack b c = ws := ⟨_, rfl⟩
  have EW : Hid (Pk.pack b c = ws) := ews
  have WL : Hid (ws.length = N) := by show _ = _; rw [← ews, Pk.pack_length, EN.out]
  have WD : Hid (Pk.Wds ws) := by rw [← ews]; exact Pk.pack_wds HB.out HC.out
  rw [ews, EN.out] at hown
  obtain ⟨aw, cw, rfl, hLw⟩ := lst_of_ownm hown WL.out.symm
  have LW : Hid (Lst .u64 u3 aw ws) := hLw
  clear hb3 hown hLw ews BV BU hbc KS
  have m12 : (t1 ++ t2).size = 8 := by rw [ByteArray.size_append, n1, n2]
  obtain ⟨t0, et0⟩ : ∃ t, t1 ++ t2 = t := ⟨_, rfl⟩
  rw [et0] at m12
  have E0 : Hid (strOfNums (Pg.word4 z ++ (Sl.be 4 sc ++ Pg.wbN ws 0)) = t0) := by
    show _ = _
    rw [show Pg.wbN ws 0 = [] from rfl, List.append_nil, ← et0]
    exact e12.out
  rw [et0]
  clear et0 e12
  go_wp2
  go_loopw [5, 7] (fun o i wr => ∃ (k : Nat) (tx : ByteArray), k ≤ N ∧ i = .int .i64 k ∧ o = .string tx ∧ tx.size ≤ 8 + 8 * k ∧ Hid (strOfNums (Pg.word4 z ++ (Sl.be 4 sc ++ Pg.wbN ws k)) = tx) ∧ Below u3.heap.size u3 wr) (fun _ i _ => N - (intOf i).toNat)
  case atStart => exact ⟨0, t0, Nat.zero_le _, rfl, rfl, by omega, E0.out, Below.refl _ _⟩
  case round =>
    obtain ⟨k, tx, hk, rfl, rfl, hsz, hx, hbel⟩ := hrel
    have HX : Hid (strOfNums (Pg.word4 z ++ (Sl.be 4 sc ++ Pg.wbN ws k)) = tx) := hx.out
    have HW : Hid (Below u3.heap.size u3 wr) := hbel
    clear hx hbel
    by_cases hlt : k < N
    · obtain ⟨b1, o1, rfl, hc1⟩ := (LW.out.keep HW.out).get (show k < ws.length by rw [WL.out]; exact hlt)
      have hck := hc1 k (by rw [WL.out]; exact hlt)
      obtain ⟨x, ex⟩ := Int.eq_ofNat_of_zero_le (WD.out k).1
      have hx64 := (WD.out k).2
      rw [ex] at hck hx64
      obtain ⟨t8, et8⟩ : ∃ t, strOfNums (Sl.be 8 x) = t := ⟨_, rfl⟩
      have n8 : t8.size = 8 := by rw [← et8, text_size, Sl.be_length]
      have ET8 : Hid (strOfNums (Sl.be 8 x) = t8) := et8
      have EX : Hid (Ls.nth ws k = (x : Int)) := ex
      clear hc1 ex et8
      go_wp2_with (go_at_call 69; refine (refBytes_any x 8 t8 (by omega) (by omega) ET8.out _).mono ?_; rintro e v4 ⟨rfl, hb⟩; have B4 : Hid (Below u3.heap.size u3 v4) := below_then HW.out hb; clear hb)
      go_roundw
      case rel =>
        refine ⟨k + 1, tx ++ t8, by omega, by go_num, rfl, by rw [ByteArray.size_append]; omega, ?_, B4.out⟩
        show strOfNums (Pg.word4 z ++ (Sl.be 4 sc ++ Pg.wbN ws (k + 1))) = tx ++ t8
        rw [← HX.out, ← ET8.out, Sl.text_append]
        simp only [Pg.wbN]
        rw [EX.out, Int.toNat_natCast, List.append_assoc, List.append_assoc]
      case measure => simp [intOf]; omega
    · have e : k = N := by omega
      subst e
      go_wp2
      go_ret
      refine ⟨ret_str ?_, below_then B3.out HW.out⟩
      rw [← HS.out, ← HX.out]
      show strOfNums (Pg.word4 z ++ (Sl.be 4 sc ++ Pg.wbN ws k)) = strOfNums (Pg.word4 z ++ (Sl.be 4 ((sc : Int)).toNat ++ Pg.wbN (Pk.pack b c) (Pk.size b c.length)))
      rw [Int.toNat_natCast, EW.out, EN.out]

/-- A head laid out. -/
theorem refGroup_anyb (z : Int) (sc : Nat) (a : Option Addr) (cp : Nat) (h : Int) (b : Nat) (c : List Int) (s : ByteArray) (w : World) (eh : h = (b : Int)) (ha : Lst .i64 w a c) (hb : Pk.Ok b) (h0 : 0 < c.length) (hl : c.length ≤ 256) (hf : Pg.Fits b c.length (z, (sc : Int), c)) (hs : strOfNums (Pg.gb b (z, (sc : Int), c)) = s) :
    Calls Tryz.prog 70 #[.agg #[.int .i32 z, .int .u32 sc, .slice a c.length cp], .int .i64 h] w fun e w' => e = .returned (.string s) ∧ Below w.heap.size w w' := by
  subst eh
  exact refGroup_any z sc a cp b c s w ha hb h0 hl hf hs
theorem Pg.be_one {x : Nat} (h : x < 256) : Sl.be 1 x = [(x : Int)] := by
  unfold Sl.be
  show [((x / 256 ^ (1 - 1 - 0) % 256 : Nat) : Int)] = _
  rw [show x / 256 ^ (1 - 1 - 0) % 256 = x by simp; omega]

set_option maxRecDepth 100000 in
set_option maxHeartbeats 3200000 in
theorem refBytesP_any (h0 h1 h2 h3 h4 h5 h6 : Int) (a1 a2 : Option Addr) (c1 c2 : Nat) (ks vs : List (Int × Int × List Int)) (s : ByteArray) (w : World) (ha : Gps w a1 ks) (hb : Gps w a2 vs) (hp : Pg.Page [h0, h1, h2, h3, h4, h5, h6] ks vs) (hs : strOfNums (Pg.bytes [h0, h1, h2, h3, h4, h5, h6] ks vs) = s) :
    Calls Tryz.prog 41 #[.agg #[.int .i64 h0, .int .i64 h1, .int .i64 h2, .int .i64 h3, .int .i64 h4, .int .i64 h5, .int .i64 h6, .slice a1 ks.length c1, .slice a2 vs.length c2]] w fun r w' => r = .returned (.string s) ∧ Below w.heap.size w w' := by
  have hpl := Pg.body_length hp
  have hpb := Pg.body_byt hp
  have hps := Pg.psize_le hp.2.1
  obtain ⟨_, hr, lk, lv, fk, fv, _, _⟩ := hp
  obtain ⟨qa, qb, qc, qd, qe, qf, qg, qh, qi, qj, qk, ql⟩ := Pg.rightH_all hr
  obtain ⟨B0, eB0⟩ : ∃ B, Pg.kb [h0, h1, h2, h3, h4, h5, h6] = B := ⟨_, rfl⟩
  obtain ⟨B1, eB1⟩ : ∃ B, Pg.vb [h0, h1, h2, h3, h4, h5, h6] = B := ⟨_, rfl⟩
  obtain ⟨n0, en0⟩ : ∃ n, Pg.tk [h0, h1, h2, h3, h4, h5, h6] = n := ⟨_, rfl⟩
  obtain ⟨d0, ed0⟩ : ∃ n, Pg.dm [h0, h1, h2, h3, h4, h5, h6] = n := ⟨_, rfl⟩
  have hn0 : h2 = (n0 : Int) := by have : (Ls.nth [h0, h1, h2, h3, h4, h5, h6] 2).toNat = n0 := en0; have q : 1 ≤ h2 := qc; have : h2.toNat = n0 := en0; omega
  have hd0 : h3 = (d0 : Int) := by have q : 1 ≤ h3 := qe; have : h3.toNat = d0 := ed0; omega
  have hB0 : h0 = (B0 : Int) := by have q : h0 = 2 ∨ h0 = 4 ∨ h0 = 8 := qa; have : h0.toNat = B0 := eB0; omega
  have hB1 : h1 = (B1 : Int) := by have q : h1 = 2 ∨ h1 = 4 ∨ h1 = 8 := qb; have : h1.toNat = B1 := eB1; omega
  have bn1 : 1 ≤ n0 := by have q : 1 ≤ h2 := qc; omega
  have bn2 : n0 ≤ 16 := by have q : h2 ≤ 16 := qd; omega
  have bd1 : 1 ≤ d0 := by have q : 1 ≤ h3 := qe; omega
  have bd2 : d0 ≤ 16 := by have q : h3 ≤ 16 := qf; omega
  have b0 : B0 = 2 ∨ B0 = 4 ∨ B0 = 8 := by have q : h0 = 2 ∨ h0 = 4 ∨ h0 = 8 := qa; omega
  have b1' : B1 = 2 ∨ B1 = 4 ∨ B1 = 8 := by have q : h1 = 2 ∨ h1 = 4 ∨ h1 = 8 := qb; omega
  have hall : ∀ i, i < 7 → 0 ≤ Ls.nth [h0, h1, h2, h3, h4, h5, h6] i ∧ Ls.nth [h0, h1, h2, h3, h4, h5, h6] i ≤ 1023 := fun i hi => by
    match i, hi with
    | 0, _ => show 0 ≤ h0 ∧ h0 ≤ 1023; have q : h0 = 2 ∨ h0 = 4 ∨ h0 = 8 := qa; omega
    | 1, _ => show 0 ≤ h1 ∧ h1 ≤ 1023; have q : h1 = 2 ∨ h1 = 4 ∨ h1 = 8 := qb; omega
    | 2, _ => show 0 ≤ h2 ∧ h2 ≤ 1023; have q : 1 ≤ h2 := qc; have q' : h2 ≤ 16 := qd; omega
    | 3, _ => show 0 ≤ h3 ∧ h3 ≤ 1023; have q : 1 ≤ h3 := qe; have q' : h3 ≤ 16 := qf; omega
    | 4, _ => show 0 ≤ h4 ∧ h4 ≤ 1023; have q : 0 ≤ h4 := qg; have q' : h4 ≤ 3 := qh; omega
    | 5, _ => show 0 ≤ h5 ∧ h5 ≤ 1023; have q : 0 ≤ h5 := qi; have q' : h5 ≤ 3 := qj; omega
    | 6, _ => show 0 ≤ h6 ∧ h6 ≤ 1023; have q : 0 ≤ h6 := qk; have q' : h6 ≤ 1023 := ql; omega
  have hsml : ∀ i, i < 6 → Ls.nth [h0, h1, h2, h3, h4, h5, h6] i < 256 := fun i hi => by
    match i, hi with
    | 0, _ => show h0 < 256; omega
    | 1, _ => show h1 < 256; omega
    | 2, _ => show h2 < 256; omega
    | 3, _ => show h3 < 256; omega
    | 4, _ => show h4 < 256; have q' : h4 ≤ 3 := qh; omega
    | 5, _ => show h5 < 256; have q' : h5 ≤ 3 := qj; omega
  rw [eB0, en0] at fk
  rw [eB1, ed0] at fv
  have q60 : 0 ≤ h6 := qk
  have q61 : h6 ≤ 1023 := ql
  have HA : Hid (Gps w a1 ks) := ha
  have HB : Hid (Gps w a2 vs) := hb
  have FK : Hid (Pg.AllFit B0 n0 ks) := fk
  have FV : Hid (Pg.AllFit B1 d0 vs) := fv
  have OK0 : Hid (Pk.Ok B0) := b0
  have OK1 : Hid (Pk.Ok B1) := b1'
  have EH0 : Hid (h0 = (B0 : Int)) := hB0
  have EH1 : Hid (h1 = (B1 : Int)) := hB1
  have LK : Hid (ks.length = d0) := by rw [← ed0]; exact lk
  have LV : Hid (vs.length = n0) := by rw [← en0]; exact lv
  have lk16 : ks.length ≤ 16 := by rw [LK.out]; exact bd2
  have lv16 : vs.length ≤ 16 := by rw [LV.out]; exact bn2
  have HALL : Hid (∀ i, i < 7 → 0 ≤ Ls.nth [h0, h1, h2, h3, h4, h5, h6] i ∧ Ls.nth [h0, h1, h2, h3, h4, h5, h6] i ≤ 1023) := hall
  have HSML : Hid (∀ i, i < 6 → Ls.nth [h0, h1, h2, h3, h4, h5, h6] i < 256) := hsml
  have HPB : Hid (Sl.Byt (Pg.body [h0, h1, h2, h3, h4, h5, h6] ks vs)) := hpb
  have HPL : Hid ((Pg.body [h0, h1, h2, h3, h4, h5, h6] ks vs).length ≤ 10000) := by show (Pg.body [h0, h1, h2, h3, h4, h5, h6] ks vs).length ≤ 10000; omega
  have HS : Hid (strOfNums (Pg.bytes [h0, h1, h2, h3, h4, h5, h6] ks vs) = s) := hs
  have HBD : Hid (Pg.body [h0, h1, h2, h3, h4, h5, h6] ks vs = Pg.hbytes [h0, h1, h2, h3, h4, h5, h6] ++ (Pg.gbN B0 ks ks.length ++ Pg.gbN B1 vs vs.length)) := by
    show _ = _
    unfold Pg.body Pg.gbs
    rw [eB0, eB1]
  clear hpl hpb hps hr lk lv fk fv qa qb qc qd qe qf qg qh qi qj qk ql eB0 eB1 en0 ed0 hn0 hd0 hB0 hB1 ha hb hs hall hsml
  go_enter Tryz.func41, Tryz.ntmps41
  go_wp2
  obtain ⟨u, hu⟩ : ∃ u, w.alloc (.cells #[.int .i64 h0, .int .i64 h1, .int .i64 h2, .int .i64 h3, .int .i64 h4, .int .i64 h5, .int .i64 h6, .slice a1 ks.length c1, .slice a2 vs.length c2] 38) = u := ⟨_, rfl⟩
  have BU : Hid (Below w.heap.size w u) := by rw [← hu]; exact box_below _ _
  have CB : Hid (∀ i x, (#[.int .i64 h0, .int .i64 h1, .int .i64 h2, .int .i64 h3, .int .i64 h4, .int .i64 h5, .int .i64 h6, .slice a1 ks.length c1, .slice a2 vs.length c2] : Array Value)[i]? = some x → u.cell? ⟨w.heap.size, i, none⟩ = some x) := fun i x hx => by
    rw [← hu, cell_of_row _ _ _ _ _ _ (heap_alloc_new w _)]; exact hx
  have CH : Hid (∀ i, i < 7 → u.cell? ⟨w.heap.size, i, none⟩ = some (.int .i64 (Ls.nth [h0, h1, h2, h3, h4, h5, h6] i))) := fun i hi => by
    match i, hi with
    | 0, _ => exact CB.out 0 _ rfl
    | 1, _ => exact CB.out 1 _ rfl
    | 2, _ => exact CB.out 2 _ rfl
    | 3, _ => exact CB.out 3 _ rfl
    | 4, _ => exact CB.out 4 _ rfl
    | 5, _ => exact CB.out 5 _ rfl
    | 6, _ => exact CB.out 6 _ rfl
  rw [hu]
  clear hu
  go_loopw [3, 4] (fun o i wr => ∃ (k : Nat) (tx : ByteArray), k ≤ 6 ∧ i = .int .i64 k ∧ o = .string tx ∧ tx.size ≤ 7 ∧ Hid (strOfNums (75 :: Ls.gen k fun j => Ls.nth [h0, h1, h2, h3, h4, h5, h6] j) = tx) ∧ Below u.heap.size u wr) (fun _ i _ => 6 - (intOf i).toNat)
  case atStart => exact ⟨0, strOfNums [75], by omega, rfl, rfl, by decide, rfl, Below.refl _ _⟩
  case round =>
    obtain ⟨k, tx, hk, rfl, rfl, hsz, hx, hbel⟩ := hrel
    have HX : Hid (strOfNums (75 :: Ls.gen k fun j => Ls.nth [h0, h1, h2, h3, h4, h5, h6] j) = tx) := hx.out
    have HW : Hid (Below u.heap.size u wr) := hbel
    have hs1 : tx.size = 1 + k := by rw [← HX.out, text_size, List.length_cons, Ls.gen_length]; omega
    clear hx hbel
    by_cases hlt : k < 6
    · have hck : wr.cell? ⟨w.heap.size, k, none⟩ = some (.int .i64 (Ls.nth [h0, h1, h2, h3, h4, h5, h6] k)) := by rw [HW.out.cell (p := ⟨w.heap.size, k, none⟩) (World.block_lt_of_cell? u _ (CH.out k (by omega)))]; exact CH.out k (by omega)
      have q1 := HALL.out k (by omega)
      have q2 := HSML.out k hlt
      obtain ⟨x, ex⟩ := Int.eq_ofNat_of_zero_le q1.1
      rw [ex] at hck q1 q2
      obtain ⟨t8, et8⟩ : ∃ t, strOfNums (Sl.be 1 x) = t := ⟨_, rfl⟩
      have n8 : t8.size = 1 := by rw [← et8, text_size, Sl.be_length]
      have ET8 : Hid (strOfNums (Sl.be 1 x) = t8) := et8
      have EX : Hid (Ls.nth [h0, h1, h2, h3, h4, h5, h6] k = (x : Int)) := ex
      clear ex et8
      go_wp2_with (go_at_call 69; refine (refBytes_any x 1 t8 (by omega) (by omega) ET8.out _).mono ?_; rintro e v4 ⟨rfl, hb⟩; have B4 : Hid (Below u.heap.size u v4) := below_then HW.out hb; clear hb)
      go_roundw
      case rel =>
        refine ⟨k + 1, tx ++ t8, by omega, by go_num, rfl, by rw [ByteArray.size_append]; omega, ?_, B4.out⟩
        show strOfNums (75 :: Ls.gen (k + 1) fun j => Ls.nth [h0, h1, h2, h3, h4, h5, h6] j) = tx ++ t8
        rw [← HX.out, ← ET8.out, Sl.text_append, Pg.be_one (by omega), Ls.gen_succ, EX.out]
        rfl
      case measure => simp [intOf]; omega
    · have e : k = 6 := by omega
      subst e
      have hck : wr.cell? ⟨w.heap.size, 6, none⟩ = some (.int .i64 h6) := by rw [HW.out.cell (p := ⟨w.heap.size, 6, none⟩) (World.block_lt_of_cell? u _ (CH.out 6 (by omega)))]; exact CH.out 6 (by omega)
      obtain ⟨x, ex⟩ := Int.eq_ofNat_of_zero_le q60
      rw [ex] at hck
      obtain ⟨t8, et8⟩ : ∃ t, strOfNums (Sl.be 2 x) = t := ⟨_, rfl⟩
      have n8 : t8.size = 2 := by rw [← et8, text_size, Sl.be_length]
      have ET8 : Hid (strOfNums (Sl.be 2 x) = t8) := et8
      have hx1 : x ≤ 1023 := by omega
      have HT : Hid (strOfNums (Pg.hbytes [h0, h1, h2, h3, h4, h5, h6] ++ Pg.gbN B0 ks 0) = tx ++ t8) := by
        show _ = _
        rw [show Pg.gbN B0 ks 0 = [] from rfl, List.append_nil, ← HX.out, ← ET8.out, Sl.text_append]
        unfold Pg.hbytes
        show strOfNums ([75, h0, h1, h2, h3, h4, h5] ++ Sl.be 2 h6.toNat) = _
        rw [ex, Int.toNat_natCast]
        rfl
      clear ex et8
      go_wp2_with fail
      refine (refBytes_any x 2 t8 (by omega) (by omega) ET8.out _).mono ?_
      rintro e v4 ⟨rfl, hb⟩
      have B4 : Hid (Below u.heap.size u v4) := below_then HW.out hb
      obtain ⟨ty, ety⟩ : ∃ t, tx ++ t8 = t := ⟨_, rfl⟩
      rw [ety] at HT
      have hty : ty.size ≤ 10000 := by rw [← ety, ByteArray.size_append]; omega
      clear hb hck HW
      have sums : (IntKind.i64.wrap 0) = 0 := rfl
      go_wp2
      try rw [ety]
      clear ety HX
      go_loopw [3, 5] (fun o i wr => ∃ (k : Nat) (tx : ByteArray), k ≤ ks.length ∧ i = .int .i64 k ∧ o = .string tx ∧ Hid (strOfNums (Pg.hbytes [h0, h1, h2, h3, h4, h5, h6] ++ Pg.gbN B0 ks k) = tx) ∧ Below u.heap.size u wr) (fun _ i _ => ks.length - (intOf i).toNat)
      case atStart => exact ⟨0, ty, Nat.zero_le _, rfl, rfl, HT.out, B4.out⟩
      case round =>
        obtain ⟨k, tx, hk, rfl, rfl, hx, hbel⟩ := hrel
        have HX : Hid (strOfNums (Pg.hbytes [h0, h1, h2, h3, h4, h5, h6] ++ Pg.gbN B0 ks k) = tx) := hx.out
        have HW : Hid (Below u.heap.size u wr) := hbel
        have z7 : wr.cell? ⟨w.heap.size, 7, none⟩ = some (.slice a1 ks.length c1) := by rw [hbel.cell (p := ⟨w.heap.size, 7, none⟩) (World.block_lt_of_cell? u _ (CB.out 7 _ rfl))]; exact CB.out 7 _ rfl
        have z0 : wr.cell? ⟨w.heap.size, 0, none⟩ = some (.int .i64 h0) := by rw [hbel.cell (p := ⟨w.heap.size, 0, none⟩) (World.block_lt_of_cell? u _ (CB.out 0 _ rfl))]; exact CB.out 0 _ rfl
        have hsx : tx.size ≤ 10000 := by
          rw [← HX.out, text_size]
          rw [List.length_append, Pg.hbytes_length, Pg.gbN_length (n := n0) FK.out.even k hk]; have := Nat.mul_le_mul (Pg.gsize_small (b := B0) (n := n0) b0 bn2) (show k ≤ 16 by omega); omega
        clear hx hbel
        by_cases hlt : k < ks.length
        · obtain ⟨b1, o1, rfl, hg1⟩ := HA.out.get hlt
          obtain ⟨x1, y1, G1⟩ := hg1 k hlt
          have K1 : Hid (GpAt wr b1 o1 k (Pg.nth ks k) x1 y1) := (G1.keep BU.out).keep HW.out
          have F1 := FK.out k hlt
          have HC : Hid ((Pg.gc (Pg.nth ks k)).length = n0) := F1.1
          obtain ⟨sc, esc⟩ := Int.eq_ofNat_of_zero_le F1.2.2.2.2.1
          have ESC : Hid (Pg.gs (Pg.nth ks k) = (sc : Int)) := esc
          have EG : Hid (Pg.nth ks k = (Pg.gz (Pg.nth ks k), (sc : Int), Pg.gc (Pg.nth ks k))) := Pg.g_ext rfl esc rfl
          obtain ⟨tg, etg⟩ : ∃ t, strOfNums (Pg.gb B0 (Pg.nth ks k)) = t := ⟨_, rfl⟩
          have ETG : Hid (strOfNums (Pg.gb B0 (Pg.nth ks k)) = tg) := etg
          have hsg : tg.size ≤ 10000 := by rw [← etg, text_size, Pg.gb_length, HC.out]; have := Pg.gsize_small (b := B0) (n := n0) b0 bn2; omega
          have FF : Hid (Pg.Fits B0 (Pg.gc (Pg.nth ks k)).length (Pg.gz (Pg.nth ks k), (sc : Int), Pg.gc (Pg.nth ks k))) := by rw [← EG.out, HC.out]; exact F1
          have KS : Hid (∀ w', Below wr.heap.size wr w' → (w'.cell? ⟨b1, o1 + k * 3, none⟩ = some (.int .i32 (Pg.gz (Pg.nth ks k))) ∧ w'.cell? ⟨b1, o1 + k * 3 + 1, none⟩ = some (.int .u32 (sc : Int)) ∧ w'.cell? ⟨b1, o1 + k * 3 + 2, none⟩ = some (.slice x1 (Pg.gc (Pg.nth ks k)).length y1)) ∧ w'.cell? ⟨w.heap.size, 7, none⟩ = some (.slice (some ⟨b1, o1, none⟩) ks.length c1) ∧ w'.cell? ⟨w.heap.size, 0, none⟩ = some (.int .i64 h0) ∧ Hid (Below wr.heap.size wr w')) :=
            fun w' hb => ⟨by have := (K1.out.keep hb).cells; rw [ESC.out] at this; exact this, by rw [hb.cell (p := ⟨w.heap.size, 7, none⟩) (World.block_lt_of_cell? wr _ z7)]; exact z7, by rw [hb.cell (p := ⟨w.heap.size, 0, none⟩) (World.block_lt_of_cell? wr _ z0)]; exact z0, hb⟩
          clear hg1 G1 F1 esc etg z0
          have e0 : (0 : Int) ≤ (k : Int) := by omega
          have e1 : (k : Int) < (ks.length : Int) := by omega
          have hcat : (tx.size : Int) + (tg.size : Int) ≤ 9223372036854775807 := by omega
          have hcat2 : ¬ (IntKind.i64.max < ((tx.size + tg.size : Nat) : Int)) := by show ¬ ((9223372036854775807 : Int) < ((tx.size + tg.size : Nat) : Int)); omega
          have hcat3 : ¬ ((9223372036854775807 : Int) < (tx.size : Int) + (tg.size : Int)) := by omega
          have hcat4 : Op.stringOp .add tx tg = pure (.string (tx ++ tg)) := by unfold Op.stringOp; simp only; rw [if_neg hcat2]
          go_wp2_with fail
          clear z7
          go_region_held3 (fun w' => (w'.cell? ⟨b1, o1 + k * 3, none⟩ = some (.int .i32 (Pg.gz (Pg.nth ks k))) ∧ w'.cell? ⟨b1, o1 + k * 3 + 1, none⟩ = some (.int .u32 (sc : Int)) ∧ w'.cell? ⟨b1, o1 + k * 3 + 2, none⟩ = some (.slice x1 (Pg.gc (Pg.nth ks k)).length y1)) ∧ w'.cell? ⟨w.heap.size, 7, none⟩ = some (.slice (some ⟨b1, o1, none⟩) ks.length c1) ∧ w'.cell? ⟨w.heap.size, 0, none⟩ = some (.int .i64 h0) ∧ Hid (Below wr.heap.size wr w'))
            (first
              | exact KS.out _ ((Below.refl wr.heap.size wr).drew)
              | exact KS.out _ hbc.out
              | assumption)
            (first
              | (go_at_call 70; refine (refGroup_anyb _ sc _ _ h0 B0 (Pg.gc (Pg.nth ks k)) tg _ EH0.out (K1.out.2.2.2.keep ((Below.refl wr.heap.size wr).drew)) OK0.out (by rw [HC.out]; omega) (by rw [HC.out]; omega) FF.out (by rw [← EG.out]; exact ETG.out)).mono ?_; rintro e v1 ⟨rfl, hb⟩; have hbc : Hid (Below wr.heap.size wr v1) := ((Below.refl wr.heap.size wr).drew).trans hb; clear hb))
          go_wp2
          go_roundw
          case rel =>
            refine ⟨k + 1, tx ++ tg, by omega, by go_num, rfl, ?_, below_then HW.out hbc.out⟩
            show strOfNums (Pg.hbytes [h0, h1, h2, h3, h4, h5, h6] ++ Pg.gbN B0 ks (k + 1)) = tx ++ tg
            rw [← HX.out, ← ETG.out, Sl.text_append]
            simp only [Pg.gbN, List.append_assoc]
          case measure => simp [intOf]; omega
        · have e : k = ks.length := by omega
          subst e
          have HT2 : Hid (strOfNums ((Pg.hbytes [h0, h1, h2, h3, h4, h5, h6] ++ Pg.gbN B0 ks ks.length) ++ Pg.gbN B1 vs 0) = tx) := by
            show _ = _
            rw [show Pg.gbN B1 vs 0 = [] from rfl, List.append_nil]
            exact HX.out
          have HWK : Hid (Below u.heap.size u wr) := HW.out
          clear HW z0
          have z8 : wr.cell? ⟨w.heap.size, 8, none⟩ = some (.slice a2 vs.length c2) := by rw [HWK.out.cell (p := ⟨w.heap.size, 8, none⟩) (World.block_lt_of_cell? u _ (CB.out 8 _ rfl))]; exact CB.out 8 _ rfl
          go_wp2
          clear z7 z8 HX
          go_loopw [3, 6] (fun o i wr => ∃ (k : Nat) (tx : ByteArray), k ≤ vs.length ∧ i = .int .i64 k ∧ o = .string tx ∧ Hid (strOfNums ((Pg.hbytes [h0, h1, h2, h3, h4, h5, h6] ++ Pg.gbN B0 ks ks.length) ++ Pg.gbN B1 vs k) = tx) ∧ Below u.heap.size u wr) (fun _ i _ => vs.length - (intOf i).toNat)
          case atStart => exact ⟨0, tx, Nat.zero_le _, rfl, rfl, HT2.out, HWK.out⟩
          case round =>
            obtain ⟨k, tx, hk, rfl, rfl, hx, hbel⟩ := hrel
            have HX : Hid (strOfNums ((Pg.hbytes [h0, h1, h2, h3, h4, h5, h6] ++ Pg.gbN B0 ks ks.length) ++ Pg.gbN B1 vs k) = tx) := hx.out
            have HW : Hid (Below u.heap.size u wr) := hbel
            have z7 : wr.cell? ⟨w.heap.size, 8, none⟩ = some (.slice a2 vs.length c2) := by rw [hbel.cell (p := ⟨w.heap.size, 8, none⟩) (World.block_lt_of_cell? u _ (CB.out 8 _ rfl))]; exact CB.out 8 _ rfl
            have z0 : wr.cell? ⟨w.heap.size, 1, none⟩ = some (.int .i64 h1) := by rw [hbel.cell (p := ⟨w.heap.size, 1, none⟩) (World.block_lt_of_cell? u _ (CB.out 1 _ rfl))]; exact CB.out 1 _ rfl
            have hsx : tx.size ≤ 10000 := by
              rw [← HX.out, text_size]
              rw [List.length_append, List.length_append, Pg.hbytes_length, Pg.gbN_length (n := n0) FK.out.even ks.length (Nat.le_refl _), Pg.gbN_length (n := d0) FV.out.even k hk]; have := Nat.mul_le_mul (Pg.gsize_small (b := B0) (n := n0) b0 bn2) (show ks.length ≤ 16 by omega); have := Nat.mul_le_mul (Pg.gsize_small (b := B1) (n := d0) b1' bd2) (show k ≤ 16 by omega); omega
            clear hx hbel
            by_cases hlt : k < vs.length
            · obtain ⟨b1, o1, rfl, hg1⟩ := HB.out.get hlt
              obtain ⟨x1, y1, G1⟩ := hg1 k hlt
              have K1 : Hid (GpAt wr b1 o1 k (Pg.nth vs k) x1 y1) := (G1.keep BU.out).keep HW.out
              have F1 := FV.out k hlt
              have HC : Hid ((Pg.gc (Pg.nth vs k)).length = d0) := F1.1
              obtain ⟨sc, esc⟩ := Int.eq_ofNat_of_zero_le F1.2.2.2.2.1
              have ESC : Hid (Pg.gs (Pg.nth vs k) = (sc : Int)) := esc
              have EG : Hid (Pg.nth vs k = (Pg.gz (Pg.nth vs k), (sc : Int), Pg.gc (Pg.nth vs k))) := Pg.g_ext rfl esc rfl
              obtain ⟨tg, etg⟩ : ∃ t, strOfNums (Pg.gb B1 (Pg.nth vs k)) = t := ⟨_, rfl⟩
              have ETG : Hid (strOfNums (Pg.gb B1 (Pg.nth vs k)) = tg) := etg
              have hsg : tg.size ≤ 10000 := by rw [← etg, text_size, Pg.gb_length, HC.out]; have := Pg.gsize_small (b := B1) (n := d0) b1' bd2; omega
              have FF : Hid (Pg.Fits B1 (Pg.gc (Pg.nth vs k)).length (Pg.gz (Pg.nth vs k), (sc : Int), Pg.gc (Pg.nth vs k))) := by rw [← EG.out, HC.out]; exact F1
              have KS : Hid (∀ w', Below wr.heap.size wr w' → (w'.cell? ⟨b1, o1 + k * 3, none⟩ = some (.int .i32 (Pg.gz (Pg.nth vs k))) ∧ w'.cell? ⟨b1, o1 + k * 3 + 1, none⟩ = some (.int .u32 (sc : Int)) ∧ w'.cell? ⟨b1, o1 + k * 3 + 2, none⟩ = some (.slice x1 (Pg.gc (Pg.nth vs k)).length y1)) ∧ w'.cell? ⟨w.heap.size, 8, none⟩ = some (.slice (some ⟨b1, o1, none⟩) vs.length c2) ∧ w'.cell? ⟨w.heap.size, 1, none⟩ = some (.int .i64 h1) ∧ Hid (Below wr.heap.size wr w')) :=
                fun w' hb => ⟨by have := (K1.out.keep hb).cells; rw [ESC.out] at this; exact this, by rw [hb.cell (p := ⟨w.heap.size, 8, none⟩) (World.block_lt_of_cell? wr _ z7)]; exact z7, by rw [hb.cell (p := ⟨w.heap.size, 1, none⟩) (World.block_lt_of_cell? wr _ z0)]; exact z0, hb⟩
              clear hg1 G1 F1 esc etg z0
              have e0 : (0 : Int) ≤ (k : Int) := by omega
              have e1 : (k : Int) < (vs.length : Int) := by omega
              have hcat : (tx.size : Int) + (tg.size : Int) ≤ 9223372036854775807 := by omega
              have hcat2 : ¬ (IntKind.i64.max < ((tx.size + tg.size : Nat) : Int)) := by show ¬ ((9223372036854775807 : Int) < ((tx.size + tg.size : Nat) : Int)); omega
              have hcat3 : ¬ ((9223372036854775807 : Int) < (tx.size : Int) + (tg.size : Int)) := by omega
              have hcat4 : Op.stringOp .add tx tg = pure (.string (tx ++ tg)) := by unfold Op.stringOp; simp only; rw [if_neg hcat2]
              go_wp2_with fail
              clear z7
              go_region_held3 (fun w' => (w'.cell? ⟨b1, o1 + k * 3, none⟩ = some (.int .i32 (Pg.gz (Pg.nth vs k))) ∧ w'.cell? ⟨b1, o1 + k * 3 + 1, none⟩ = some (.int .u32 (sc : Int)) ∧ w'.cell? ⟨b1, o1 + k * 3 + 2, none⟩ = some (.slice x1 (Pg.gc (Pg.nth vs k)).length y1)) ∧ w'.cell? ⟨w.heap.size, 8, none⟩ = some (.slice (some ⟨b1, o1, none⟩) vs.length c2) ∧ w'.cell? ⟨w.heap.size, 1, none⟩ = some (.int .i64 h1) ∧ Hid (Below wr.heap.size wr w'))
                (first
                  | exact KS.out _ ((Below.refl wr.heap.size wr).drew)
                  | exact KS.out _ hbc.out
                  | assumption)
                (first
                  | (go_at_call 70; refine (refGroup_anyb _ sc _ _ h1 B1 (Pg.gc (Pg.nth vs k)) tg _ EH1.out (K1.out.2.2.2.keep ((Below.refl wr.heap.size wr).drew)) OK1.out (by rw [HC.out]; omega) (by rw [HC.out]; omega) FF.out (by rw [← EG.out]; exact ETG.out)).mono ?_; rintro e v1 ⟨rfl, hb⟩; have hbc : Hid (Below wr.heap.size wr v1) := ((Below.refl wr.heap.size wr).drew).trans hb; clear hb))
              go_wp2
              go_roundw
              case rel =>
                refine ⟨k + 1, tx ++ tg, by omega, by go_num, rfl, ?_, below_then HW.out hbc.out⟩
                show strOfNums ((Pg.hbytes [h0, h1, h2, h3, h4, h5, h6] ++ Pg.gbN B0 ks ks.length) ++ Pg.gbN B1 vs (k + 1)) = tx ++ tg
                rw [← HX.out, ← ETG.out, Sl.text_append]
                simp only [Pg.gbN, List.append_assoc]
              case measure => simp [intOf]; omega
            · have e : k = vs.length := by omega
              subst e
              have HC : Hid (strOfNums (Pg.body [h0, h1, h2, h3, h4, h5, h6] ks vs) = tx) := by
                show _ = _
                rw [HBD.out, ← HX.out, List.append_assoc]
              go_wp2_with (go_at_call 71; refine (refClose_any tx (Pg.body [h0, h1, h2, h3, h4, h5, h6] ks vs) s HC.out HPL.out HPB.out HS.out _).mono ?_; rintro e v5 ⟨rfl, hb⟩; have B5 : Hid (Below w.heap.size w v5) := below_then (below_then BU.out HW.out) hb; clear hb)
              go_ret
              exact ⟨rfl, B5.out⟩
end Go.Proofs.YtimkfkolkplpdaaGreat
