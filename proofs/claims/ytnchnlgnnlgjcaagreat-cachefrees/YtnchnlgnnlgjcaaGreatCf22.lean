import Derived.Test.YtnchnlgnnlgjcaaGreatCf21
import Derived.Test.YtnchnlgnnlgjcaaGreatCf16
set_option linter.unusedVariables false
set_option linter.unusedSimpArgs false
namespace Go.Proofs.YtnchnlgnnlgjcaaGreat
open Go.RowKit
namespace Cc
def vk (ls:List (Int × Int)) (G D ly hd:Nat) (l:List Tok) (q:Nat):List (List Int):=Ca.flat G (Ca.keyAt (mk ls ly) (mv ls ly) (top (mk ls ly)) (top (mv ls ly)) G D ly hd l) q ++ Ca.ksOf (l.drop (q * G)) hd
def vv (ls:List (Int × Int)) (G D ly hd:Nat) (l:List Tok) (q:Nat):List (List Int):=Ca.flat G (Ca.valAt (mk ls ly) (mv ls ly) (top (mk ls ly)) (top (mv ls ly)) G D ly hd l) q ++ Ca.vsOf (l.drop (q * G)) hd
set_option maxRecDepth 100000 in
set_option maxHeartbeats 3200000 in
theorem view_c (C c g b n H D G W ly hd r q0:Nat) (ls:List (Int × Int)) (R M:List Int) (L:Nat -> List Int) (t k:Nat) (tk:Nat -> List Tok) (q:Nat -> Nat) (col:Nat -> Nat) (w:World) (hp:PoolAt w g b n R M) (h:CaAt w col c g C H D G W ls M L (cn ls.length t k) tk q) (sh:ShOk H D G W ls)
 (hly:ly < ls.length) (hhd:hd < H) (hr:ly * H + hd = r) (hq0:q r = q0) (hlen:(tk r).length <= 1000) (hT:∀ i (h:i < (tk r).length),TokOk H D (tk r)[i]) (hL:∀ i,i < ls.length * H -> ∀ x,x ∈ L i -> 0 <= x /\ x < n /\ 0 < Ls.nth R x.toNat) :
 Calls Tryz.prog 22 #[.pointer (some ⟨C,0,none⟩),.int .i64 (ly:Int),.int .i64 (hd:Int)] w fun e w'=>∃ (v1 v2:Value) (xs ys:List Value),e = .returned (.tuple #[v1,v2]) /\
  TwoN w.heap.size w' v1 v2 (tk r).length (tk r).length (vk ls G D ly hd (tk r) q0) (vv ls G D ly hd (tk r) q0) xs ys /\ Below w.heap.size w w':=by
 obtain ⟨sH,sH2,sD,sD2,-⟩:=id sh
 obtain ⟨sG,sG2,-,sl,sl2,-⟩:=sh.nums
 obtain ⟨-,-,st0,st1⟩:=sh.bits hly
 have b0:mk ls ly = 2 \/ mk ls ly = 4 \/ mk ls ly = 8:=by rcases st0 with h | h | h;exact .inl h.1;exact .inr (.inl h.1);exact .inr (.inr h.1)
 have b1:mv ls ly = 2 \/ mv ls ly = 4 \/ mv ls ly = 8:=by rcases st1 with h | h | h;exact .inl h.1;exact .inr (.inl h.1);exact .inr (.inr h.1)
 have rlt:r < ls.length * H:=by
  have h1:(ly + 1) * H <= ls.length * H:=Nat.mul_le_mul_right H (by omega)
  rw [Nat.add_mul] at h1
  omega
 have HP:=Ca.hid hp
 have HC:=Ca.hid h
 have HL:=Ca.hid hL
 have HT:=Ca.hid hT
 have SH:=Ca.hid sh
 obtain ⟨al,cl,T,pb,pc,ct,cc,rg,rs,F,-,-,-,-,-,-,hrow⟩:=h.in
 obtain ⟨-,hqG,hpg,-⟩:=hrow r rlt
 rw [hq0] at hqG hpg
 have hdv:=up_row ly hd H hhd
 rw [hr] at hdv
 rw [hdv.1,hdv.2] at hpg
 have PG:=Ca.hid hpg
 have QG:=Ca.hid hqG
 have HQ0:=Ca.hid hq0
 have q1000:q0 <= 1000:=by have:=Nat.le_mul_of_pos_right q0 (show 0 < G by omega);omega
 have HR:=Ca.hid hr
 clear h hp hrow hpg hL hT sh hdv hq0 hr
 go_enter Tryz.func22,Tryz.ntmps22
 go_wp2_with (go_at_call 24;refine (pages_c C c g b n H D G W ly hd r q0 ls R M L t k tk q col _ HP.out HC.out SH.out hly hhd HR.out HQ0.out q1000 HL.out).mono ?_;rintro e w1 ⟨v,rfl,ho,hb⟩;obtain ⟨pa,pcp,rfl⟩:=Ca.own_slice ho;have OP:=Ca.hid ho;have B1:=Ca.hid hb;have hs1:=hb.size;clear ho hb)
 go_loopw [6,7,17] (fun kv vw i wq=>∃ (j:Nat) (xs ys:List Value),j <= q0 /\ i = .int .i64 j /\ Hid (TwoN w1.heap.size wq kv vw (j * G) (j * G) (Ca.flat G (Ca.keyAt (mk ls ly) (mv ls ly) (top (mk ls ly)) (top (mv ls ly)) G D ly hd (tk r)) j) (Ca.flat G (Ca.valAt (mk ls ly) (mv ls ly) (top (mk ls ly)) (top (mv ls ly)) G D ly hd (tk r)) j) xs ys) /\ Hid (Below w1.heap.size w1 wq)) (fun _ _ i _=>q0 - (intOf i).toNat)
 case atStart=>exact ⟨0,[],[],Nat.zero_le _,rfl,by rw [Nat.zero_mul];exact twoN_nil _ _,Below.refl _ _⟩
 case round =>
  obtain ⟨j,xs,ys,hj,rfl,TW,B2⟩:=hrel
  by_cases hlt:j < q0
  ·have hjG:j * G + G <= 1000:=by have:=mul_next (G:=G) hlt;have:=QG.out;omega
   have eN:(j + 1) * G = j * G + G:=by rw [Nat.add_mul,Nat.one_mul]
   have EN:=Ca.hid eN
   obtain ⟨gp,cap,Fp,ep,hgp,hrp,hcap,hcp⟩:=row_of_own OP.out (by omega)
   cases ep
   obtain ⟨p,ep,hz⟩:=PG.out j hlt
   have fp:Fp j = .pointer (some ⟨p,0,none⟩):=by
    have h1:=hcp j hlt
    rw [ptrs_at hlt] at h1
    have h2:pgb M (L r) j = p:=by unfold pgb;rw [ep];rfl
    rw [h2] at h1
    exact Option.some.inj h1
   have hB1r:Below w.heap.size w wr:=B1.out.trans (B2.out.mono hs1)
   have PA:=Ca.hid (fun (v:World) (hv:Below w.heap.size w v)=>(hz.carry (Z':=fun x=>col x = 0) (fun x hx h0=>⟨h0,hv.block x hx⟩)).at)
   have BR:=Ca.hid hB1r
   obtain ⟨_,_,_,_,_,hpage,_⟩:=hz
   obtain ⟨lk,lvv,dk,dv⟩:=page_deep hpage b0 b1
   have TK:=Ca.hid (keys_tab (mk ls ly) (mv ls ly) (top (mk ls ly)) (top (mv ls ly)) G D ly hd (tk r) j lk)
   have TV:=Ca.hid (vals_tab (mk ls ly) (mv ls ly) (top (mk ls ly)) (top (mv ls ly)) G D ly hd (tk r) j lvv dv)
   have hcell:wr.cell? ⟨gp,j,none⟩ = some (.pointer (some ⟨p,0,none⟩)):=by
    rw [B2.out.cell (p:=⟨gp,j,none⟩) hrp.lt,hrp.cell (by omega),fp]
   have hs2:=B2.out.size
   have LG:Hid (G = (Pg.tab G D (Pg.keyAt (Ca.pg (mk ls ly) (mv ls ly) (top (mk ls ly)) (top (mv ls ly)) G D ly hd (tk r) j).2.1)).length /\ G = (Pg.tab G D (Pg.valAt (Ca.pg (mk ls ly) (mv ls ly) (top (mk ls ly)) (top (mv ls ly)) G D ly hd (tk r) j).2.2)).length):=⟨(Pg.tab_length _ _ _).symm,(Pg.tab_length _ _ _).symm⟩
   clear ep hcp hpage lk lvv dk dv hB1r hrp fp eN
   go_wp2_with (first
    | (go_at_call 64;(with_reducible refine (keys_any p _ _ _ _ _ _ _ _ _ _ (PA.out _ BR.out)).mono ?_);rintro e w2 ⟨g1,b1,rfl,hg1,ht,hb⟩;have SK:=Ca.hid (trow_slq ht (by omega));have B3:=Ca.hid hb;have hs3:=hb.size;have G1:=Ca.hid hg1;clear ht hb hg1)
    | (at_builtin;refine wpList_append_rows rfl _ _ 42 rfl w1.heap.size 74 Tryz.underlying42 Ca.infoRow _ (j * G) G ((j + 1) * G) xs (by rfl) ((TW.out.to B3.out).own) (some ⟨g1,0,none⟩) _ G LG.out.1 EN.out (by rfl) SK.out (by omega) (by omega) (by omega) ?_;intro gk ck w3 news hnl hne hown hgrow hat;have T3:=Ca.hid ((TW.out.to B3.out).rest LG.out.1 hnl (fun q hq hq2=>⟨by have:=G1.out;omega,fun e=>by have:=TW.out.own.lt q e;have:=G1.out;omega,fun e=>by have:=TW.out.swap.own.lt q e;have:=G1.out;omega⟩) hown hgrow hat hne);have B4:Hid (Below w1.heap.size w1 w3):=(B2.out.trans (B3.out.mono hs2)).grown hgrow (by omega) (fun q hq=>(TW.out.own.lt q hq).1);have s4:=hgrow.size;clear hne hown hgrow hat hnl)
    | (go_at_call 65;(with_reducible refine (values_any p _ _ _ _ _ _ _ _ _ _ (PA.out _ (B1.out.trans (B4.out.mono hs1)))).mono ?_);rintro e w4 ⟨g2,b2,rfl,hg2,ht,hb⟩;have SV:=Ca.hid (trow_slq ht (by omega));have B6:=Ca.hid hb;have hs6:=hb.size;have G2:=Ca.hid hg2;clear ht hb hg2)
    | (at_builtin;refine wpList_append_rows rfl _ _ 42 rfl w1.heap.size 74 Tryz.underlying42 Ca.infoRow _ (j * G) G ((j + 1) * G) ys (by rfl) ((T3.out.swap.to B6.out).own) (some ⟨g2,0,none⟩) _ G LG.out.2 EN.out (by rfl) SV.out (by omega) (by omega) (by omega) ?_;intro gv cv w5 news2 hnl hne hown hgrow hat;have T5:=Ca.hid (((T3.out.swap.to B6.out).rest LG.out.2 hnl (fun q hq hq2=>⟨by have:=G2.out;omega,fun e=>by have:=T3.out.swap.own.lt q e;have:=G2.out;omega,fun e=>by have:=T3.out.own.lt q e;have:=G2.out;omega⟩) hown hgrow hat hne).swap);have B7:Hid (Below w1.heap.size w1 w5):=(B4.out.trans (B6.out.mono (by omega))).grown hgrow (by omega) (fun q hq=>(T3.out.swap.own.lt q hq).1);clear hne hown hgrow hat hnl))
   go_roundw
   case rel =>
    have T6:=T5.out
    rw [TK.out,TV.out] at T6
    refine ⟨j + 1,xs ++ news,ys ++ news2,by omega,by go_num,?_,B7.out⟩
    rw [Ca.flat_succ,Ca.flat_succ,EN.out]
    exact T6
   case measure=>simp [intOf];omega
  ·have ej:j = q0:=by omega
   subst ej
   obtain ⟨m,em⟩:∃ m,(tk r).length - j * G = m:=⟨_,rfl⟩
   have EL:Hid ((tk r).length = j * G + m):=by show _ = _;have:=QG.out;omega
   have hk1:(Ca.ksOf ((tk r).drop (j * G)) hd).length = m:=(List.length_map _).trans ((List.length_drop).trans em)
   have hv1:(Ca.vsOf ((tk r).drop (j * G)) hd).length = m:=(List.length_map _).trans ((List.length_drop).trans em)
   have EK:=Ca.hid hk1
   have EV:=Ca.hid hv1
   have BR:Hid (Below w.heap.size w wr):=B1.out.trans (B2.out.mono hs1)
   have hsr:=B2.out.size
   have hm:j * G + m <= 1000:=by have:=EL.out;omega
   obtain ⟨ka,kc,rfl⟩:=Ca.own_slice TW.out.own
   obtain ⟨va,vc,rfl⟩:=Ca.own_slice TW.out.swap.own
   obtain ⟨i1,hi10,hi11,hi12,hi13⟩:=info_parts Ca.infoRow
   clear hk1 hv1 em
   by_cases hz:m = 0
   ·go_wp2_with (first
     | (go_at_call 30;refine (plain_c C c g H D G W ly hd r j ls M L t k tk q col _ (HC.out.below BR.out) SH.out hly hhd HR.out HQ0.out HT.out).mono ?_;rintro e w2 ⟨S,v1,v2,xs2,ys2,rfl,-,-,-,-,hn1,hn2,hb⟩;obtain rfl:=hn1 (List.length_eq_zero_iff.1 (EK.out.trans hz));obtain rfl:=hn2 (List.length_eq_zero_iff.1 (EV.out.trans hz));have BL:=Ca.hid hb;clear hb hn1 hn2)
     | (at_builtin;refine wpList_append_own_none rfl _ _ _ rfl w1.heap.size 74 i1 1 Tryz.underlying42 hi10 _ _ xs (by rfl) ((TW.out.to BL.out).own) (by rfl) ?_)
     | (at_builtin;refine wpList_append_own_none rfl _ _ _ rfl w1.heap.size 74 i1 1 Tryz.underlying42 hi10 _ _ ys (by rfl) ((TW.out.swap.to BL.out).own) (by rfl) ?_))
    go_ret2
    refine ⟨_,_,xs,ys,rfl,?_,BR.out.trans (BL.out.mono (by omega))⟩
    have e0:=EL.out
    rw [hz] at e0
    unfold vk vv
    rw [List.length_eq_zero_iff.1 (EK.out.trans hz),List.length_eq_zero_iff.1 (EV.out.trans hz),List.append_nil,List.append_nil,e0,Nat.add_zero]
    exact (TW.out.to BL.out).mono hs1
   ·have hm0:0 < m:=by omega
    go_wp2_with (first
     | (go_at_call 30;refine (plain_c C c g H D G W ly hd r j ls M L t k tk q col _ (HC.out.below BR.out) SH.out hly hhd HR.out HQ0.out HT.out).mono ?_;rintro e w2 ⟨S,v1,v2,xs2,ys2,rfl,hS,A1,A2,-,-,-,hb⟩;rw [EK.out] at A1;rw [EV.out] at A2;obtain ⟨a1,c1,rfl,s1,-⟩:=A1.slq carry_row (Q':=fun q=>wr.heap.size <= q) (fun _ h=>h) (fun q h=>(hS q h).1);obtain ⟨a2,c2,rfl,s2,-⟩:=A2.slq carry_row (Q':=fun q=>wr.heap.size <= q) (fun _ h=>h) (fun q h=>(hS q h).1);have S1:Hid (SlQ (fun q=>wr.heap.size <= q /\ q < w2.heap.size) 1 eRow w2 a1 (Ca.ksOf ((tk r).drop (j * G)) hd)):=s1.carry carry_row (fun q q1 q2=>⟨⟨q2,q1⟩,rfl⟩) (Nat.le_refl _);have S2:Hid (SlQ (fun q=>wr.heap.size <= q /\ q < w2.heap.size) 1 eRow w2 a2 (Ca.vsOf ((tk r).drop (j * G)) hd)):=s2.carry carry_row (fun q q1 q2=>⟨⟨q2,q1⟩,rfl⟩) (Nat.le_refl _);have BL:=Ca.hid hb;have sl:=hb.size;clear hb A1 A2 hS s1 s2)
     | (at_builtin;refine wpList_append_rows rfl _ _ 42 rfl w1.heap.size 74 Tryz.underlying42 Ca.infoRow _ (j * G) m ((tk r).length) xs (by rfl) ((TW.out.to BL.out).own) a1 (Ca.ksOf ((tk r).drop (j * G)) hd) c1 EK.out.symm EL.out (by rfl) S1.out (by omega) (by omega) hm0 ?_;intro gp cp wp news hnl hne hown hgrow hat;have T3:=Ca.hid ((TW.out.to BL.out).rest EK.out.symm hnl (fun q hq hq2=>⟨by omega,fun e=>by have:=TW.out.own.lt q e;omega,fun e=>by have:=TW.out.swap.own.lt q e;omega⟩) hown hgrow hat hne);have S2p:Hid (SlQ (fun q=>wr.heap.size <= q /\ q < w2.heap.size) 1 eRow wp a2 (Ca.vsOf ((tk r).drop (j * G)) hd)):=S2.out.carry carry_row (fun q q1 q2=>⟨q2,hgrow.block q q1 fun e=>by have:=TW.out.own.lt q e.symm;omega⟩) hgrow.size;have BP:Hid (Below w1.heap.size w1 wp):=(B2.out.trans (BL.out.mono hsr)).grown hgrow (by omega) (fun q hq=>(TW.out.own.lt q hq).1);have gpl:Hid ((Value.slice ka (j * G) kc).ownBlock = some gp \/ gp = w2.heap.size):=hat;have spl:=hgrow.size;clear hne hown hgrow hat hnl)
     | (at_builtin;refine wpList_append_rows rfl _ _ 42 rfl w1.heap.size 74 Tryz.underlying42 Ca.infoRow _ (j * G) m ((tk r).length) ys (by rfl) (T3.out.swap.own) a2 (Ca.vsOf ((tk r).drop (j * G)) hd) c2 EV.out.symm EL.out (by rfl) S2p.out (by omega) (by omega) hm0 ?_;intro gq cq wq news2 hnl hne hown hgrow hat;have T4:=Ca.hid ((T3.out.swap.rest EV.out.symm hnl (fun q hq hq2=>⟨by omega,fun e=>by have:=TW.out.swap.own.lt q e;omega,fun e=>by
         have e:gp = q:=by injection e
         rcases gpl.out with f | f
         ·have:=TW.out.own.lt gp f;omega
         ·omega⟩) hown hgrow hat hne).swap);have BQ:Hid (Below w1.heap.size w1 wq):=BP.out.grown hgrow (by omega) (fun q hq=>(TW.out.swap.own.lt q hq).1);clear hne hown hgrow hat hnl))
    go_ret2
    refine ⟨.slice (some ⟨gp,0,none⟩) (tk r).length cp,.slice (some ⟨gq,0,none⟩) (tk r).length cq,xs ++ news,ys ++ news2,rfl,?_,B1.out.trans (BQ.out.mono hs1)⟩
    have T4:=T4.out
    unfold vk vv
    rw [EL.out]
    exact T4.mono hs1
end Cc
end Go.Proofs.YtnchnlgnnlgjcaaGreat
namespace Go.Proofs.YtnchnlgnnlgjcaaGreat
open Go.RowKit Go.Shelf
attribute [local go_sem] Oper.semAt_some
namespace Rt
open Rn (pl pl_lt pl_inj pl_shift pl_zero)
theorem boxed_far {W:World} {B:Nat} {t:TypeId} {u y:Value} {p:Addr} (h:Boxed W B t u) (hne:¬ B = p.block):Boxed (W.setCell p y) B t u:=by
 show (W.setCell p y).heap[B]? = _
 rw [Below.heap_setCell _ _ _ _ (show B ≠ p.block from hne)]
 exact h
theorem row_ownFrom {β:Type} (B b n:Nat) (t:TypeId) (F:β -> Nat -> Value):OwnFrom (β:=β) B (fun s W=>W.rowIs b t n (F s)):=fun s A A' row hs hg hr =>
 hs.of_block (hg.block b hs.lt fun e=>by
  obtain ⟨_,o,q1,q2⟩:=hr b e.symm
  obtain ⟨cs,fz,q3⟩:=ty_row hs
  rw [q3] at q1
  cases q1
  cases q2)
def shf (l:List Tv) (j i:Nat):Value:=if i / 2 < j then (if i % 2 = 0 then key (nth l (i / 2)) else val (nth l (i / 2))) else .slice none 0 0
theorem shf_at (l:List Tv) {j i:Nat} (h:i < j):shf l j (i * 2) = key (nth l i) /\ shf l j (i * 2 + 1) = val (nth l i):=by
 unfold shf
 rw [if_pos (by omega),if_pos (by omega),if_pos (by omega),if_neg (by omega),show i * 2 / 2 = i by omega,show (i * 2 + 1) / 2 = i by omega]
 exact ⟨rfl,rfl⟩
theorem shf_step (l:List Tv) (j i:Nat):(if i = j * 2 + 1 then val (nth l j) else if i = j * 2 then key (nth l j) else shf l j i) = shf l (j + 1) i:=by
 by_cases e:i = j * 2 + 1
 ·rw [if_pos e,e,(shf_at l (Nat.lt_succ_self j)).2]
 ·rw [if_neg e]
  by_cases e2:i = j * 2
  ·rw [if_pos e2,e2,(shf_at l (Nat.lt_succ_self j)).1]
  ·rw [if_neg e2]
   unfold shf
   by_cases h:i / 2 < j
   ·rw [if_pos h,if_pos (show i / 2 < j + 1 by omega)]
   ·rw [if_neg h,if_neg (show ¬ i / 2 < j + 1 by omega)]
theorem But.put {g r D:Nat} {o:Obj} {w v:World} (h:But g r w v) (hD:w.heap.size <= D):But g r w (v.putObj D o) :=
 ⟨h.1.grown (grownBy_putObj' v D o) (Nat.zero_le _) (fun k _=>Nat.zero_le _),fun j h0 h1 h2=>by
  rw [World.putObj_heap_other (by omega)]
  exact h.2 j h0 h1 h2⟩
set_option maxRecDepth 100000 in
set_option maxHeartbeats 2000000 in
theorem shift_yes (g r n f k p:Nat) (l:List Tv) (w:World) (h:RingAt w g r n f l) (hk0:1 <= k) (hk:k <= l.length) (hp0:pl f n k = p) :
 Calls Tryz.prog 97 #[.pointer (some ⟨g,0,none⟩),.int .i64 k] w fun e w'=>∃ a,e = .returned (.slice (some ⟨a,0,none⟩) k k) /\ w.heap.size <= a /\ w'.rowIs a 111 (k * 2) (shf l k) /\ RingAt w' g r n p (l.drop k) /\ But g r w w':=by
 have EP:Hid (pl f n k = p):=hp0
 clear hp0
 obtain ⟨n0,n1,n2⟩:=h.nums
 obtain ⟨c,ec⟩:∃ c,l.length = c:=⟨_,rfl⟩
 have EC:Hid (l.length = c):=ec
 have hmk:=run_make_rows (P:=Tryz.prog) 152 111 (.agg #[.slice none 0 0,.slice none 0 0]) #[.slice none 0 0,.slice none 0 0] 2 48 rfl Tryz.underlying152 Tryz.infoTokR .i64 .i64 k (by omega) (by omega)
 have HR:Hid (RingAt w g r n f l):=h
 have glt:=h.lt
 have c2:=h.hd.c2
 rw [ec] at c2 hk n0
 have q1:decide ((k:Int) < 1) = false:=decide_eq_false (by omega)
 have q2:decide ((c:Int) < k) = false:=decide_eq_false (by omega)
 clear h ec
 refine (callsIn_wide (n:=6)).1 ?_
 refine callsIn_of_wp_marks Tryz.func97 rfl trivial ?_ rfl
 simp only [Tryz.ntmps97,List.size_toArray,List.length_cons,List.length_nil,Nat.reduceAdd,Nat.reduceSub,Array.replicate_succ,Array.replicate_zero,List.push_toArray,List.append_toArray,List.nil_append,List.cons_append]
 refine wpIn_wide.2 ?_
 go_wp2
 go_quiet (fail)
 go_wp2_with (go_at_call 77;refine (all_any g _).mono ?_;rintro e w' ⟨rfl,hww⟩;cases hww.symm;clear hww)
 clear hmk
 obtain ⟨W0,hW0⟩:∃ W0,((((w.alloc (.cells #[.int .i64 k] 3)).drewN nq).alloc (.cells (madeCells #[.slice none 0 0,.slice none 0 0] (k * 2)) 111)).alloc (.cells #[.slice (some ⟨w.heap.size + 1,0,none⟩) k k] 152)).alloc (.cells #[.pointer (some ⟨g,0,none⟩)] 107) = W0:=⟨_,rfl⟩
 have hsz:W0.heap.size = w.heap.size + 4:=by rw [<- hW0];simp
 have hB0:Below w.heap.size w W0:=by rw [<- hW0];exact (((below_drewN ((Below.refl _ w).alloc (Nat.le_refl _) _) _).alloc (by simp) _).alloc (by simp;omega) _).alloc (by simp;omega) _
 have bN:Boxed W0 w.heap.size 3 (.int .i64 k):=by
  rw [<- hW0]
  exact (((show Boxed ((w.alloc (.cells #[.int .i64 k] 3)).drewN nq) w.heap.size 3 (.int .i64 k) from Boxed.new w _ _).alloc _).alloc _).alloc _
 have bO:Boxed W0 (w.heap.size + 1 + 1) 152 (.slice (some ⟨w.heap.size + 1,0,none⟩) k k):=by
  have:=(Boxed.new (((w.alloc (.cells #[.int .i64 k] 3)).drewN nq).alloc (.cells (madeCells #[.slice none 0 0,.slice none 0 0] (k * 2)) 111)) 152 (.slice (some ⟨w.heap.size + 1,0,none⟩) k k)).alloc (.cells #[.pointer (some ⟨g,0,none⟩)] 107)
  rw [hW0] at this
  simpa using this
 have bP:Boxed W0 (w.heap.size + 1 + 1 + 1) 107 (.pointer (some ⟨g,0,none⟩)):=by
  have:=Boxed.new ((((w.alloc (.cells #[.int .i64 k] 3)).drewN nq).alloc (.cells (madeCells #[.slice none 0 0,.slice none 0 0] (k * 2)) 111)).alloc (.cells #[.slice (some ⟨w.heap.size + 1,0,none⟩) k k] 152)) 107 (.pointer (some ⟨g,0,none⟩))
  rw [hW0] at this
  simpa using this
 have rM:W0.rowIs (w.heap.size + 1) 111 (k * 2) (shf l 0):=by
  have:=((row_made ((w.alloc (.cells #[.int .i64 k] 3)).drewN nq) #[.slice none 0 0,.slice none 0 0] (k * 2) 111).alloc (.cells #[.slice (some ⟨w.heap.size + 1,0,none⟩) k k] 152)).alloc (.cells #[.pointer (some ⟨g,0,none⟩)] 107)
  rw [hW0] at this
  refine World.rowIs.congr (by simpa using this) fun i hi=>?_
  have e2:shf l 0 i = .slice none 0 0:=by unfold shf;rw [if_neg (Nat.not_lt_zero _)]
  rw [e2]
  have:i % 2 = 0 \/ i % 2 = 1:=by omega
  rcases this with e | e <;> rw [e] <;> rfl
 rw [hW0]
 clear hW0
 refine (wpIn_wide (n:=6)).1 ?_
 refine range_at2 (m:=6) (by omega) (gf:=110) (lb:=#[.pointer (some ⟨w.heap.size + 1 + 1 + 1,0,none⟩)]) rfl (enters_of Tryz.func110 (by kernel_rfl) rfl)
  (all_stops 5 (by omega) (w.heap.size + 1 + 1 + 1) g r n f l W0 (by omega) bP.cell (HR.out.keep hB0)) (fun h k=>h.trans k) (kp_put (by omega) (by omega) (by omega)) (Below.refl _ _) (fun _=>rfl)
  (fun j W=>j <= k /\ Boxed W w.heap.size 3 (.int .i64 k) /\ Boxed W (w.heap.size + 1 + 1) 152 (.slice (some ⟨w.heap.size + 1,0,none⟩) k k) /\ W.rowIs (w.heap.size + 1) 111 (k * 2) (shf l j) /\ Boxed W (w.heap.size + 1 + 1 + 1) 107 (.pointer (some ⟨g,0,none⟩)) /\ Below w.heap.size w W)
  (fun c' j W=>c' = .exit 0 /\ Boxed W w.heap.size 3 (.int .i64 k) /\ Boxed W (w.heap.size + 1 + 1) 152 (.slice (some ⟨w.heap.size + 1,0,none⟩) k k) /\ W.rowIs (w.heap.size + 1) 111 (k * 2) (shf l k) /\ Boxed W (w.heap.size + 1 + 1 + 1) 107 (.pointer (some ⟨g,0,none⟩)) /\ Below w.heap.size w W)
  (OwnFrom.and (fun _ _ _ _ hs _ _=>hs) (OwnFrom.and (boxed_ownFrom _ _ _ _) (OwnFrom.and (boxed_ownFrom _ _ _ _) (OwnFrom.and (row_ownFrom _ _ _ _ (fun j=>shf l j)) (OwnFrom.and (boxed_ownFrom _ _ _ _) (ownFrom_below (Nat.le_refl _) (by omega)))))))
  (fun c'=>OwnFrom.and (fun _ _ _ _ hs _ _=>hs) (OwnFrom.and (boxed_ownFrom _ _ _ _) (OwnFrom.and (boxed_ownFrom _ _ _ _) (OwnFrom.and (row_ownFrom _ _ _ _ (fun _=>shf l k)) (OwnFrom.and (boxed_ownFrom _ _ _ _) (ownFrom_below (Nat.le_refl _) (by omega)))))))
  ⟨Nat.zero_le _,bN,bO,rM,bP,hB0⟩
  (fun j ak W=>∃ B x,nth l j = x /\ ak = { tmps:=#[.pointer (some ⟨g,0,none⟩),.int .i64 k,undef,.pointer (some ⟨w.heap.size,0,none⟩),.slice none 0 0,.pointer (some ⟨w.heap.size + 1 + 1,0,none⟩),.int .i64 j,.pointer (some ⟨B,0,none⟩),.int .i64 k,.bool false,.bool false,.int .i64 k,.pointer (some ⟨g,0,none⟩),.pointer (some ⟨g,0,none⟩),.pointer (some ⟨g,2,none⟩),.int .i64 c,.bool false,.bool false,.int .i64 k,.slice (some ⟨w.heap.size + 1,0,none⟩) k k,.pointer (some ⟨g,0,none⟩),.func (.func 110) #[] #[.pointer (some ⟨w.heap.size + 1 + 1 + 1,0,none⟩)],.int .i64 j,tv x,undef,undef,undef,undef,undef,undef,undef,undef,undef,undef,undef,undef,undef,undef,undef,undef,undef,undef,undef,undef,undef,undef,undef,undef,undef],defers:=[] } /\ W.rowIs B 111 2 (tvc x) /\ j <= k /\ Boxed W w.heap.size 3 (.int .i64 k) /\ Boxed W (w.heap.size + 1 + 1) 152 (.slice (some ⟨w.heap.size + 1,0,none⟩) k k) /\ W.rowIs (w.heap.size + 1) 111 (k * 2) (shf l j) /\ Boxed W (w.heap.size + 1 + 1 + 1) 107 (.pointer (some ⟨g,0,none⟩)) /\ Below w.heap.size w W)
  ?own ?assign ?body ?done ?stop
 case own =>
  rintro ak j A A' row ⟨B,x,e1,e2,h0,h1,h2,h3,h4,h5,h6⟩ hgr hr
  exact ⟨B,x,e1,e2,row_own h0 hgr hr,h1,boxed_ownFrom _ _ _ _ j A A' row h2 hgr hr,boxed_ownFrom _ _ _ _ j A A' row h3 hgr hr,row_own h4 hgr hr,boxed_ownFrom _ _ _ _ j A A' row h5 hgr hr,ownFrom_below (Nat.le_refl _) (by omega) j A A' row h6 hgr hr⟩
 case assign =>
  rintro lp j W K hj ⟨hjk,hn,hv,hrow,hpp,hB⟩ hK
  obtain ⟨x,ex⟩:∃ x,nth l j = x:=⟨_,rfl⟩
  have EX:Hid (nth l j = x):=ex
  have hK2:=hK
  rw [ex]
  clear ex hK
  obtain ⟨⟨xa,xn,xc⟩,⟨ya,yn,yc⟩⟩:=x
  simp only [tv,key,val]
  gi_wp2
  have hbx:=box_below W (.cells #[.slice xa xn xc,.slice ya yn yc] 111)
  refine hK2 _ _ ((keeps_alloc W _).from _) ⟨?_,?_,?_⟩ ⟨W.heap.size,((xa,xn,xc),(ya,yn,yc)),EX.out,rfl,tv_alloc W ((xa,xn,xc),(ya,yn,yc)),hjk,hn.alloc _,hv.alloc _,hrow.alloc _,hpp.alloc _,hB.trans (hbx.mono hB.size)⟩
  ·exact hbx.block _ (ty_box hpp).lt
  ·exact hbx.block _ (Nat.lt_of_lt_of_le glt.1 hB.size)
  ·exact hbx.block _ (Nat.lt_of_lt_of_le glt.2 hB.size)
 case body =>
  rintro lp j ak W hj ⟨B,x,ex,rfl,hbx,hjk,hn,hv,hrow,hpp,hB⟩
  obtain ⟨⟨xa,xn,xc⟩,⟨ya,yn,yc⟩⟩:=x
  have EX:Hid (nth l j = ((xa,xn,xc),(ya,yn,yc))):=ex
  have c0:=hn.cell
  have ct:=hv.cell
  have q0:W.cell? ⟨B,0,none⟩ = some (.slice xa xn xc):=hbx.cell (show 0 < 2 by decide)
  have q1:W.cell? ⟨B,1,none⟩ = some (.slice ya yn yc):=hbx.cell (show 1 < 2 by decide)
  clear ex hbx
  simp only [tv,key,val]
  by_cases e:j = k
  ·subst e
   gi_wp2
   exact ⟨KeepsFrom.refl _ _,.inr ⟨.exit 0,.inr ⟨0,rfl,rfl⟩,rfl,hn,hv,hrow,hpp,hB⟩⟩
  ·have dj:decide ((j:Int) = (k:Int)) = false:=decide_eq_false (by omega)
   have hj1:j < k:=by omega
   have v0:=hrow.cell (show j * 2 < k * 2 by omega)
   have v1:=hrow.cell (show j * 2 + 1 < k * 2 by omega)
   have f0:=hrow.frozen (j * 2)
   have f1:=hrow.frozen (j * 2 + 1)
   gi_wp2
   refine ⟨((KeepsOthers.setCell _ _ _).trans (KeepsOthers.setCell _ _ _)).from _,.inl ⟨rfl,⟨?_,?_,?_⟩,by omega,boxed_far (boxed_far hn (show ¬ w.heap.size = w.heap.size + 1 by omega)) (show ¬ w.heap.size = w.heap.size + 1 by omega),boxed_far (boxed_far hv (show ¬ w.heap.size + 1 + 1 = w.heap.size + 1 by omega)) (show ¬ w.heap.size + 1 + 1 = w.heap.size + 1 by omega),((hrow.set (j * 2) (.slice xa xn xc)).set (j * 2 + 1) (.slice ya yn yc)).congr fun i hi=>?_,boxed_far (boxed_far hpp (show ¬ w.heap.size + 1 + 1 + 1 = w.heap.size + 1 by omega)) (show ¬ w.heap.size + 1 + 1 + 1 = w.heap.size + 1 by omega),(hB.setCell (p:=⟨w.heap.size + 1,j * 2,none⟩) (Nat.le_succ _) _).setCell (p:=⟨w.heap.size + 1,j * 2 + 1,none⟩) (Nat.le_succ _) _⟩⟩
   ·rw [Below.heap_setCell _ _ _ _ (show w.heap.size + 1 + 1 + 1 ≠ w.heap.size + 1 by omega),Below.heap_setCell _ _ _ _ (show w.heap.size + 1 + 1 + 1 ≠ w.heap.size + 1 by omega)]
   ·rw [Below.heap_setCell _ _ _ _ (show g ≠ w.heap.size + 1 by omega),Below.heap_setCell _ _ _ _ (show g ≠ w.heap.size + 1 by omega)]
   ·rw [Below.heap_setCell _ _ _ _ (show r ≠ w.heap.size + 1 by omega),Below.heap_setCell _ _ _ _ (show r ≠ w.heap.size + 1 by omega)]
   ·rw [<- shf_step l j i,EX.out]
    rfl
 case done =>
  rintro D W hD ⟨hjk,hn,hv,hrow,hpp,hB⟩ hK
  have ek:l.length = k:=by have:=EC.out;omega
  rw [ek] at hrow
  clear ek
  have RW:=HR.out.keep hB
  have hlt3:g < w.heap.size /\ r < w.heap.size:=glt
  have c0:=hn.cell
  have ct:=hv.cell
  obtain ⟨F,h1,h2,_,_,_,h4⟩:=RW
  have H1:Hid (W.rowIs g 154 3 (rc r n f l.length)):=h1
  have H2:Hid (W.rowIs r 111 (n * 2) F):=h2
  have H4:Hid (∀ i,i < l.length -> F (pl f n i * 2) = key (nth l i) /\ F (pl f n i * 2 + 1) = val (nth l i)):=h4
  have N2:Hid (f < n \/ n = 0 /\ f = 0):=n2
  have hp:p < n:=by rw [<- EP.out];exact pl_lt (by omega)
  clear h1 h2 h4 c2
  go_wp2_with (first
   | (go_at_call 106;refine (forget_any g r n f 0 k l _ F H1.out H2.out (by have:=EC.out;omega) n1 N2.out (Nat.zero_le _) (by omega)).mono ?_;rintro e w1 ⟨rfl,hb,F1,r1,r2,hF⟩;have HB1:Hid (But g r W w1):=hb;have R1:Hid (w1.rowIs g 154 3 (rc r n f l.length)):=r1;have R2:Hid (w1.rowIs r 111 (n * 2) F1):=r2;have HF:Hid (∀ i,i < n -> (i < 0 \/ k <= i) -> F1 (pl f n i * 2) = F (pl f n i * 2) /\ F1 (pl f n i * 2 + 1) = F (pl f n i * 2 + 1)):=hF;have k0:=(hb.cell (a:=⟨w.heap.size,0,none⟩) hn.lt (show ¬ w.heap.size = g by omega) (show ¬ w.heap.size = r by omega)).trans c0;have kt:=(hb.cell (a:=⟨w.heap.size + 1 + 1,0,none⟩) hv.lt (show ¬ w.heap.size + 1 + 1 = g by omega) (show ¬ w.heap.size + 1 + 1 = r by omega)).trans ct;have g1':w1.cell? ⟨g,1,none⟩ = some (.int .i64 f):=R1.out.cell (show 1 < 3 by decide);have g2':w1.cell? ⟨g,2,none⟩ = some (.int .i64 l.length):=R1.out.cell (show 2 < 3 by decide);rw [EC.out] at g2';have f1':=R1.out.frozen 1;have f2':=R1.out.frozen 2;clear hb r1 r2 hF)
   | (go_at_call 96;refine (place_any g r n f l.length k p _ R1.out (by omega) n1 (by omega) (by omega) EP.out).mono ?_;rintro e w2 ⟨rfl,q,rfl⟩))
  go_region
  all_goals
   go_wp2
   have hK1:w1.heap[D]? = some (.deferred (some [])):=(HB1.out.keeps ⟨F,H1.out,H2.out,by have:=EC.out;omega,n1,N2.out,H4.out⟩).same D _ hK rfl
   have hK2:=(KeepsOthers.setCell (w1.drewN q) ⟨g,1,none⟩ (.int .i64 p)).same D _ hK1 rfl
   have hK':=(KeepsOthers.setCell ((w1.drewN q).setCell ⟨g,1,none⟩ (.int .i64 p)).drew ⟨g,2,none⟩ (.int .i64 ((c:Int) - k))).same D _ hK2 rfl
   refine ⟨by simp,.inl ⟨_,_,rfl,run_takeDeferred hK',?_⟩⟩
   have gr:¬ g = r:=(ty_row H1.out).ne (ty_row H2.out) (by decide)
   have rg:¬ r = g:=fun e=>gr e.symm
   have hD3:w.heap.size + 4 <= D:=by omega
   have a1:Hd ((w1.drewN q).setCell ⟨g,1,none⟩ (.int .i64 p)) g r n p l.length:=Hd.set1 (w:=w1.drewN q) R1.out p
   have a2:Hd ((((w1.drewN q).setCell ⟨g,1,none⟩ (.int .i64 p)).drew).setCell ⟨g,2,none⟩ (.int .i64 ((c:Int) - k))) g r n p (c - k):=by
    have:=Hd.set2 (w:=((w1.drewN q).setCell ⟨g,1,none⟩ (.int .i64 p)).drew) a1 (c - k)
    rw [show (((c - k:Nat):Int)) = (c:Int) - k by omega] at this
    exact this
   have a3:((((w1.drewN q).setCell ⟨g,1,none⟩ (.int .i64 p)).drew).setCell ⟨g,2,none⟩ (.int .i64 ((c:Int) - k))).rowIs r 111 (n * 2) F1 :=
    World.rowIs.setOther (World.rowIs.setOther (w:=w1.drewN q) R2.out (show r ≠ g from rg) _) (show r ≠ g from rg) _
   have a4:((((w1.drewN q).setCell ⟨g,1,none⟩ (.int .i64 p)).drew).setCell ⟨g,2,none⟩ (.int .i64 ((c:Int) - k))).rowIs (w.heap.size + 1) 111 (k * 2) (shf l k) :=
    World.rowIs.setOther (World.rowIs.setOther (w:=w1.drewN q) (hrow.of_block (HB1.out.2 (w.heap.size + 1) hrow.lt (by omega) (by omega))) (show w.heap.size + 1 ≠ g by omega) _) (show w.heap.size + 1 ≠ g by omega) _
   have lk:(l.drop k).length = c - k:=by rw [List.length_drop,EC.out]
   have lt:(l.take k).length = k:=by rw [List.length_take,EC.out];omega
   refine ⟨_,results_tmp rfl _ _ _,w.heap.size + 1,rfl,Nat.le_succ _,?_,⟨F1,?_,a3.of_block (World.putObj_heap_other (by omega)),by omega,n1,.inl hp,fun i hi=>?_⟩,?_⟩
   ·have a5:=a4.of_block (w':=World.putObj _ D (.deferred none)) (World.putObj_heap_other (by omega))
    exact a5
   ·rw [lk]
    exact World.rowIs.of_block a2 (World.putObj_heap_other (by omega))
   ·rw [<- EP.out,pl_shift,(HF.out (k + i) (by omega) (.inr (by omega))).1,(HF.out (k + i) (by omega) (.inr (by omega))).2,nth_drop]
    exact H4.out (k + i) (by have:=EC.out;omega)
   ·refine But.put ?_ (by omega)
    exact ((((But.of_below (g:=g) (r:=r) hB).trans HB1.out).drew q).set (p:=⟨g,1,none⟩) (.inl rfl) _).drew 1 |>.set (p:=⟨g,2,none⟩) (.inl rfl) _
 case stop =>
  rintro D c' j W hD hj ⟨rfl,hn,hv,hrow,hpp,hB⟩ hK
  have RW:=HR.out.keep hB
  have hlt3:g < w.heap.size /\ r < w.heap.size:=glt
  have c0:=hn.cell
  have ct:=hv.cell
  obtain ⟨F,h1,h2,_,_,_,h4⟩:=RW
  have H1:Hid (W.rowIs g 154 3 (rc r n f l.length)):=h1
  have H2:Hid (W.rowIs r 111 (n * 2) F):=h2
  have H4:Hid (∀ i,i < l.length -> F (pl f n i * 2) = key (nth l i) /\ F (pl f n i * 2 + 1) = val (nth l i)):=h4
  have N2:Hid (f < n \/ n = 0 /\ f = 0):=n2
  have hp:p < n:=by rw [<- EP.out];exact pl_lt (by omega)
  clear h1 h2 h4 c2
  refine wpIn_wide.2 ?_
  go_wp2_with (first
   | (go_at_call 106;refine (forget_any g r n f 0 k l _ F H1.out H2.out (by have:=EC.out;omega) n1 N2.out (Nat.zero_le _) (by omega)).mono ?_;rintro e w1 ⟨rfl,hb,F1,r1,r2,hF⟩;have HB1:Hid (But g r W w1):=hb;have R1:Hid (w1.rowIs g 154 3 (rc r n f l.length)):=r1;have R2:Hid (w1.rowIs r 111 (n * 2) F1):=r2;have HF:Hid (∀ i,i < n -> (i < 0 \/ k <= i) -> F1 (pl f n i * 2) = F (pl f n i * 2) /\ F1 (pl f n i * 2 + 1) = F (pl f n i * 2 + 1)):=hF;have k0:=(hb.cell (a:=⟨w.heap.size,0,none⟩) hn.lt (show ¬ w.heap.size = g by omega) (show ¬ w.heap.size = r by omega)).trans c0;have kt:=(hb.cell (a:=⟨w.heap.size + 1 + 1,0,none⟩) hv.lt (show ¬ w.heap.size + 1 + 1 = g by omega) (show ¬ w.heap.size + 1 + 1 = r by omega)).trans ct;have g1':w1.cell? ⟨g,1,none⟩ = some (.int .i64 f):=R1.out.cell (show 1 < 3 by decide);have g2':w1.cell? ⟨g,2,none⟩ = some (.int .i64 l.length):=R1.out.cell (show 2 < 3 by decide);rw [EC.out] at g2';have f1':=R1.out.frozen 1;have f2':=R1.out.frozen 2;clear hb r1 r2 hF)
   | (go_at_call 96;refine (place_any g r n f l.length k p _ R1.out (by omega) n1 (by omega) (by omega) EP.out).mono ?_;rintro e w2 ⟨rfl,q,rfl⟩))
  go_region
  all_goals
   go_wp2
   have hK1:w1.heap[D]? = some (.deferred (some [])):=(HB1.out.keeps ⟨F,H1.out,H2.out,by have:=EC.out;omega,n1,N2.out,H4.out⟩).same D _ hK rfl
   have hK2:=(KeepsOthers.setCell (w1.drewN q) ⟨g,1,none⟩ (.int .i64 p)).same D _ hK1 rfl
   have hK':=(KeepsOthers.setCell ((w1.drewN q).setCell ⟨g,1,none⟩ (.int .i64 p)).drew ⟨g,2,none⟩ (.int .i64 ((c:Int) - k))).same D _ hK2 rfl
   refine ⟨by simp,.inl ⟨_,_,rfl,run_takeDeferred hK',?_⟩⟩
   have gr:¬ g = r:=(ty_row H1.out).ne (ty_row H2.out) (by decide)
   have rg:¬ r = g:=fun e=>gr e.symm
   have hD3:w.heap.size + 4 <= D:=by omega
   have a1:Hd ((w1.drewN q).setCell ⟨g,1,none⟩ (.int .i64 p)) g r n p l.length:=Hd.set1 (w:=w1.drewN q) R1.out p
   have a2:Hd ((((w1.drewN q).setCell ⟨g,1,none⟩ (.int .i64 p)).drew).setCell ⟨g,2,none⟩ (.int .i64 ((c:Int) - k))) g r n p (c - k):=by
    have:=Hd.set2 (w:=((w1.drewN q).setCell ⟨g,1,none⟩ (.int .i64 p)).drew) a1 (c - k)
    rw [show (((c - k:Nat):Int)) = (c:Int) - k by omega] at this
    exact this
   have a3:((((w1.drewN q).setCell ⟨g,1,none⟩ (.int .i64 p)).drew).setCell ⟨g,2,none⟩ (.int .i64 ((c:Int) - k))).rowIs r 111 (n * 2) F1 :=
    World.rowIs.setOther (World.rowIs.setOther (w:=w1.drewN q) R2.out (show r ≠ g from rg) _) (show r ≠ g from rg) _
   have a4:((((w1.drewN q).setCell ⟨g,1,none⟩ (.int .i64 p)).drew).setCell ⟨g,2,none⟩ (.int .i64 ((c:Int) - k))).rowIs (w.heap.size + 1) 111 (k * 2) (shf l k) :=
    World.rowIs.setOther (World.rowIs.setOther (w:=w1.drewN q) (hrow.of_block (HB1.out.2 (w.heap.size + 1) hrow.lt (by omega) (by omega))) (show w.heap.size + 1 ≠ g by omega) _) (show w.heap.size + 1 ≠ g by omega) _
   have lk:(l.drop k).length = c - k:=by rw [List.length_drop,EC.out]
   have lt:(l.take k).length = k:=by rw [List.length_take,EC.out];omega
   refine ⟨_,results_tmp rfl _ _ _,w.heap.size + 1,rfl,Nat.le_succ _,?_,⟨F1,?_,a3.of_block (World.putObj_heap_other (by omega)),by omega,n1,.inl hp,fun i hi=>?_⟩,?_⟩
   ·have a5:=a4.of_block (w':=World.putObj _ D (.deferred none)) (World.putObj_heap_other (by omega))
    exact a5
   ·rw [lk]
    exact World.rowIs.of_block a2 (World.putObj_heap_other (by omega))
   ·rw [<- EP.out,pl_shift,(HF.out (k + i) (by omega) (.inr (by omega))).1,(HF.out (k + i) (by omega) (.inr (by omega))).2,nth_drop]
    exact H4.out (k + i) (by have:=EC.out;omega)
   ·refine But.put ?_ (by omega)
    exact ((((But.of_below (g:=g) (r:=r) hB).trans HB1.out).drew q).set (p:=⟨g,1,none⟩) (.inl rfl) _).drew 1 |>.set (p:=⟨g,2,none⟩) (.inl rfl) _
end Rt
end Go.Proofs.YtnchnlgnnlgjcaaGreat
