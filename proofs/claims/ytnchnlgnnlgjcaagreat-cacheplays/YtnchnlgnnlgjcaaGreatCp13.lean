import Derived.Test.YtnchnlgnnlgjcaaGreatCp12
import Derived.Test.YtnchnlgnnlgjcaaGreatCp06
set_option linter.unusedVariables false
namespace Go.Proofs.YtnchnlgnnlgjcaaGreat
open Go.RowKit
namespace Ca
def ksOf (L:List Tok) (h:Nat):List (List Int):=L.map fun t=>nt t.1 h
def vsOf (L:List Tok) (h:Nat):List (List Int):=L.map fun t=>nt t.2 h
theorem take_map_succ {α β:Type} (f:α -> β) (l:List α) {k:Nat} (hk:k < l.length):(l.map f).take (k + 1) = (l.map f).take k ++ [f l[k]]:=by
 rw [List.take_succ_eq_append_getElem (by simpa using hk),List.getElem_map]
end Ca
theorem SlQ.tok {Q:Nat -> Prop} {w:World} {a:Option Addr} {L:List Tok} (h:SlQ Q 2 eTok w a L) {k:Nat} (hk:k < L.length) :
 ∃ b o A1 C1 A2 C2,a = some ⟨b,o,none⟩ /\ Q b /\ w.cell? ⟨b,o + k * 2,none⟩ = some (.slice A1 (L[k]).1.length C1) /\ w.cell? ⟨b,o + k * 2 + 1,none⟩ = some (.slice A2 (L[k]).2.length C2) /\ SlQ Q 1 eRow w A1 (L[k]).1 /\ SlQ Q 1 eRow w A2 (L[k]).2:=by
 obtain ⟨b,o,e,_,hq,h1,h2⟩:=h k hk
 obtain ⟨A1,C1,c1,_,_,_,s1⟩:=h1
 obtain ⟨A2,C2,c2,_,_,_,s2⟩:=h2
 exact ⟨b,o,A1,C1,A2,C2,e,hq,c1,c2,s1,s2⟩
theorem eRow_old {Q:Nat -> Prop} {w:World} {A:Option Addr} {C:Nat} {l:List Int} (h2:l.length <= C) (h3:l.length <= maxLen) (h4:A = none -> C = 0) (h5:SlQ Q 1 (eNum .i32) w A l)
 {c:Nat -> Option Value} (hc:c 0 = some (.slice A l.length C)):eRow Q w c l:=⟨A,C,hc,h2,h3,h4,h5⟩
theorem lists_snoc {K:Nat -> Prop} {B:Nat} {t:TypeId} {w w1:World} {v:Value} {k g cap f:Nat} {e:Option Addr} {m:List Int} {l l':List (List Int)} {xs:List Value} {o:Obj} (h:AccQ K B 1 t eRow w v k l xs)
 (ho:w1.ownsRow B t 1 (.slice (some ⟨g,0,none⟩) (k + 1) cap) (k + 1) (xs ++ [.slice e m.length f])) (hg:(w.alloc o).grownBy w1 v.ownBlock) (hat:v.ownBlock = some g \/ g = w.heap.size + 1)
 (T:m.length <= f /\ m.length <= maxLen /\ (e = none -> f = 0) /\ SlQ K 1 (eNum .i32) w e m) (hl:l' = l ++ [m]) (hB:∀ q,K q -> q < B):AccQ K B 1 t eRow w1 (.slice (some ⟨g,0,none⟩) (k + 1) cap) (k + 1) l' (xs ++ [.slice e m.length f]):=by
 subst hl
 refine (h.to carry_row (box_below w o)).snoc carry_row ho rfl hg ?_ fun c hc=>?_
 ·rcases hat with q | q
  ·exact .inl q
  ·right;simp;exact q
 ·refine eRow_old T.1 T.2.1 T.2.2.1 (T.2.2.2.carry (carry_num _) (fun q h1 h2=>⟨⟨h2,by simp;omega,fun e=>?_⟩,(box_below w o).block q h1⟩) (box_below w o).size) (by rw [hc 0 (by decide)];rfl)
  have:=(h.1.lt q e).1
  have:=hB q h2
  omega
set_option maxRecDepth 100000 in
set_option maxHeartbeats 1600000 in
theorem listsL_any {Q:Nat -> Prop} (a:Option Addr) (c:Nat) (L:List Tok) (hd:Nat) (w:World) (h:SlQ Q 2 eTok w a L) (hl:L.length <= 100000) (hh:∀ k (hk:k < L.length),hd < (L[k]).1.length /\ hd < (L[k]).2.length) (hd4:hd < 1000) :
 Calls Tryz.prog 90 #[.slice a L.length c,.int .i64 (hd:Int)] w fun e w'=>∃ v1 v2 xs ys,e = .returned (.tuple #[v1,v2]) /\ AccQ (fun q=>Q q /\ q < w.heap.size) w.heap.size 1 74 eRow w' v1 L.length (Ca.ksOf L hd) xs /\
  AccQ (fun q=>Q q /\ q < w.heap.size) w.heap.size 1 74 eRow w' v2 L.length (Ca.vsOf L hd) ys /\ (∀ q,v1.ownBlock = some q -> ¬ v2.ownBlock = some q) /\ Below w.heap.size w w':=by
 obtain ⟨i1,hi10,hi11,hi12,hi13⟩:=info_parts Ca.infoRow
 have HR:Hid (SlQ Q 2 eTok w a L):=h
 have HH:Hid (∀ k (hk:k < L.length),hd < (L[k]).1.length /\ hd < (L[k]).2.length):=hh
 clear h hh
 go_enter Tryz.func90,Tryz.ntmps90
 go_wp2
 go_loopw [6,7,8] (fun v1 v2 i wq=>∃ (k:Nat) (xs ys:List Value),k <= L.length /\ i = .int .i64 k /\ Hid (AccQ (fun q=>Q q /\ q < w.heap.size) w.heap.size 1 74 eRow wq v1 k ((Ca.ksOf L hd).take k) xs) /\
  Hid (AccQ (fun q=>Q q /\ q < w.heap.size) w.heap.size 1 74 eRow wq v2 k ((Ca.vsOf L hd).take k) ys) /\ Hid (∀ q,v1.ownBlock = some q -> ¬ v2.ownBlock = some q) /\ Hid (Below w.heap.size w wq)) (fun _ _ i _=>L.length - (intOf i).toNat)
 case atStart=>exact ⟨0,[],[],Nat.zero_le _,rfl,acc_nil _ _ _ _ _ _,acc_nil _ _ _ _ _ _,(fun q e=>absurd (show (none:Option Nat) = some q from e) (by simp)),Below.refl _ _⟩
 case round =>
  obtain ⟨k,xs,ys,hk,rfl,A1,A2,AP,B0⟩:=hrel
  by_cases hlt:k < L.length
  ·have hs:=B0.out.size
   have HX:Hid (SlQ (fun q=>Q q /\ q < w.heap.size) 2 eTok wr a L):=HR.out.carry (Q':=fun q=>Q q /\ q < w.heap.size) carry_tok (fun q h1 h2=>⟨⟨h2,h1⟩,B0.out.block q h1⟩) hs
   obtain ⟨b,o,a1,c1,a2,c2,rfl,⟨-,bl⟩,k1,k2,s1,s2⟩:=HX.out.tok hlt
   obtain ⟨q1,q2⟩:=HH.out k hlt
   obtain ⟨b1,o1,rfl,-,-,r1⟩:=s1.cells (by omega)
   obtain ⟨b2,o2,rfl,⟨-,bl2⟩,-,r2⟩:=s2.cells (by omega)
   obtain ⟨e1,f1,g1,m1,n1,z1,t1⟩:=r1 hd q1
   obtain ⟨e2,f2,g2,m2,n2,z2,t2⟩:=r2 hd q2
   have T1:=Ca.hid (And.intro m1 (And.intro n1 (And.intro z1 t1)))
   have T2:=Ca.hid (And.intro m2 (And.intro n2 (And.intro z2 t2)))
   clear s1 s2 r1 r2 m1 n1 z1 t1 m2 n2 z2 t2
   go_wp2_with (first
    | (at_builtin;refine wpList_append_lies _ rfl _ _ _ rfl w.heap.size 74 i1 _ 1 24 Tryz.underlying42 hi10 hi11 hi12 hi13 rfl (by omega) _ k xs (by rfl) ((A1.out.to carry_row (box_below _ _)).1) ⟨wr.heap.size,0,none⟩ 1 1 [.slice e1 (Ca.nt (L[k]).1 hd).length f1] (by rfl) (by rfl) (World.news_of_block (cs:=#[.slice e1 (Ca.nt (L[k]).1 hd).length f1]) (t:=74) (fr:=(0,0)) (heap_alloc_new wr _)) (fun x hx=>by simp at hx;subst hx;rfl) (by omega) (by unfold maxLen;omega) (by omega) (by simp;omega) (wr.heap.size + 1) (by simp) ?_;intro ggp capp wp hown hgrow hat hlt1;have Op:Hid (wp.ownsRow w.heap.size 74 1 (.slice (some ⟨ggp,0,none⟩) (k + 1) capp) (k + 1) (xs ++ [.slice e1 (Ca.nt (L[k]).1 hd).length f1])):=hown;have Gp:Hid ((wr.alloc (.cells #[.slice e1 (Ca.nt (L[k]).1 hd).length f1] 74)).grownBy wp u6.ownBlock):=hgrow;have Tp:Hid ((u6.ownBlock = some ggp \/ ggp = wr.heap.size + 1) /\ ggp < wp.heap.size):=⟨hat,hlt1⟩;clear hown hgrow hat hlt1;have A1p:Hid (AccQ (fun q=>Q q /\ q < w.heap.size) w.heap.size 1 74 eRow wp (.slice (some ⟨ggp,0,none⟩) (k + 1) capp) (k + 1) ((Ca.ksOf L hd).take (k + 1)) (xs ++ [.slice e1 (Ca.nt (L[k]).1 hd).length f1])):=lists_snoc A1.out Op.out Gp.out Tp.out.1 T1.out (Ca.take_map_succ _ L hlt) (fun q hq=>hq.2);have A2p:Hid (AccQ (fun q=>Q q /\ q < w.heap.size) w.heap.size 1 74 eRow wp u7 k ((Ca.vsOf L hd).take k) ys):=((A2.out.to carry_row (box_below wr _)).far carry_row Gp.out (fun q hq=>⟨fun hh=>by have:=(A1.out.1.lt q hq).1;have:=hh.2;omega,AP.out q hq⟩));have Bp:Hid (Below w.heap.size w wp):=(B0.out.alloc hs _).grown Gp.out (by simp;omega) (fun q hq=>(A1.out.1.lt q hq).1);have sp:wr.heap.size + 1 <= wp.heap.size:=(by have h3:=Gp.out.size;simpa using h3);have k2p:wp.cell? ⟨b,o + k * 2 + 1,none⟩ = some (.slice (some ⟨b2,o2,none⟩) (L[k]).2.length c2):=(by rw [Bp.out.cell (p:=⟨b,o + k * 2 + 1,none⟩) bl,<- B0.out.cell (p:=⟨b,o + k * 2 + 1,none⟩) bl];exact k2);have g2p:wp.cell? ⟨b2,o2 + hd,none⟩ = some (.slice e2 (Ca.nt (L[k]).2 hd).length f2):=(by rw [Bp.out.cell (p:=⟨b2,o2 + hd,none⟩) bl2,<- B0.out.cell (p:=⟨b2,o2 + hd,none⟩) bl2];exact g2))
    | (at_builtin;refine wpList_append_lies _ rfl _ _ _ rfl w.heap.size 74 i1 _ 1 24 Tryz.underlying42 hi10 hi11 hi12 hi13 rfl (by omega) _ k ys (by rfl) ((A2p.out.to carry_row (box_below _ _)).1) ⟨wp.heap.size,0,none⟩ 1 1 [.slice e2 (Ca.nt (L[k]).2 hd).length f2] (by rfl) (by rfl) (World.news_of_block (cs:=#[.slice e2 (Ca.nt (L[k]).2 hd).length f2]) (t:=74) (fr:=(0,0)) (heap_alloc_new wp _)) (fun x hx=>by simp at hx;subst hx;rfl) (by omega) (by unfold maxLen;omega) (by omega) (by simp;omega) (wp.heap.size + 1) (by simp) ?_;intro ggr capr wr hown hgrow hat hlt1;have Or:Hid (wr.ownsRow w.heap.size 74 1 (.slice (some ⟨ggr,0,none⟩) (k + 1) capr) (k + 1) (ys ++ [.slice e2 (Ca.nt (L[k]).2 hd).length f2])):=hown;have Gr:Hid ((wp.alloc (.cells #[.slice e2 (Ca.nt (L[k]).2 hd).length f2] 74)).grownBy wr u7.ownBlock):=hgrow;have Tr:Hid ((u7.ownBlock = some ggr \/ ggr = wp.heap.size + 1) /\ ggr < wr.heap.size):=⟨hat,hlt1⟩;clear hown hgrow hat hlt1))
   go_roundw
   case rel =>
    refine ⟨k + 1,xs ++ [.slice e1 (Ca.nt (L[k]).1 hd).length f1],ys ++ [.slice e2 (Ca.nt (L[k]).2 hd).length f2],by omega,by go_num,?_,?_,fun q h1 h2=>?_,?_⟩
    ·refine (A1p.out.to carry_row (box_below wp _)).far carry_row Gr.out (fun q hq=>⟨fun hh=>by have:=(A2p.out.1.lt q hq).1;have:=hh.2;omega,fun e=>?_⟩)
     have e:ggp = q:=by injection e
     subst e
     rcases Tp.out.1 with q1 | q1
     ·exact AP.out ggp q1 hq
     ·have:=(A2.out.1.lt ggp hq).2;omega
    ·exact lists_snoc A2p.out Or.out Gr.out Tr.out.1 ⟨T2.out.1,T2.out.2.1,T2.out.2.2.1,T2.out.2.2.2.carry (carry_num _) (fun q h1 h2=>⟨h2,by rw [Bp.out.block q h2.2,<- B0.out.block q h2.2]⟩) (by omega)⟩ (Ca.take_map_succ _ L hlt) (fun q hq=>hq.2)
    ·have e1:ggp = q:=by injection h1
     have e2:ggr = q:=by injection h2
     subst e1
     rcases Tr.out.1 with q1 | q1
     ·rw [e2] at q1
      rcases Tp.out.1 with q3 | q3
      ·exact AP.out ggp q3 q1
      ·have:=(A2.out.1.lt ggp q1).2;omega
     ·have:=Tp.out.2;omega
    ·exact (Bp.out.alloc (by omega) _).grown Gr.out (by simp;omega) (fun q hq=>(A2p.out.1.lt q hq).1)
   case measure=>simp [intOf];omega
  ·have ek:k = L.length:=by omega
   subst ek
   go_wp2
   go_ret2
   refine ⟨_,_,xs,ys,rfl,?_,?_,AP.out,B0.out⟩
   ·have h1:=A1.out
    rw [List.take_of_length_le (by simp [Ca.ksOf])] at h1
    exact h1
   ·have h1:=A2.out
    rw [List.take_of_length_le (by simp [Ca.vsOf])] at h1
    exact h1
end Go.Proofs.YtnchnlgnnlgjcaaGreat
namespace Go.Proofs.YtnchnlgnnlgjcaaGreat
open Go.RowKit
attribute [local go_sem ↓] Go.wp_at_zero Go.wp_at_succ
def GpsB (B:Nat) (w:World) (a:Option Addr) (l:List (Int × Int × List Int)):Prop :=
 ∀ i,i < l.length -> ∃ b o a' c',a = some ⟨b,o,none⟩ /\ GpAt w b o i (Pg.nth l i) a' c' /\ B <= b /\ ∀ x,a' = some x -> B <= x.block
theorem gpsB_final {w F:World} {base P n B:Nat} {t:TypeId} {x:Option Addr} {e:Nat} {l:List (Int × Int × List Int)} {A:Nat -> Option Addr} {C:Nat -> Nat} (h:w.ownsRow base t 3 (.slice x n e) n (gflat l A C n)) (hn:n = l.length)
 (hl:∀ i,i < l.length -> Lst .i64 w (A i) (Pg.gc (Pg.nth l i)) /\ ∀ y,A i = some y -> ¬ y.block = P) (hp:P < base) (hs:∀ g,¬ g = P -> F.heap[g]? = w.heap[g]?) (hB:B <= base)
 (hA:∀ i,i < l.length -> ∀ y,A i = some y -> B <= y.block):GpsB B F x l:=by
 have hF:=own3_at (w':=F) h fun g hg=>hs g (by have:=(h.lt g hg).1;omega)
 rcases hF.2 with ⟨e,h0⟩ | ⟨g,cap,cur,e,hb,hg,h1,h2,h3,h4⟩
 ·exact fun i hi=>by omega
 ·cases e
  intro i hi
  have hc:∀ j,j < n * 3 -> F.cell? ⟨g,j,none⟩ = (gflat l A C n)[j]?:=fun j hj=>by
   rw [cell_of_row F g j cur t (0,0) hg,<- h4,List.getElem?_take,if_pos hj]
   simp
  obtain ⟨q0,q1,q2⟩:=gflat_at l A C n i (by omega)
  obtain ⟨l1,l2⟩:=hl i hi
  refine ⟨g,0,A i,C i,rfl,⟨?_,?_,?_,fun j hj=>?_⟩,by omega,hA i hi⟩
  ·rw [Nat.zero_add,hc _ (by omega)];exact q0
  ·rw [Nat.zero_add,hc _ (by omega)];exact q1
  ·rw [Nat.zero_add,hc _ (by omega)];exact q2
  ·obtain ⟨b,o,eb,hcc⟩:=l1 j hj
   refine ⟨b,o,eb,?_⟩
   rw [World.cell?_of_block (hs b (l2 ⟨b,o,none⟩ eb))]
   exact hcc
set_option maxRecDepth 100000 in
set_option maxHeartbeats 3200000 in
theorem refQuantizeB_any (m0 m1 n0 d0 s0 s1:Nat) (h4 h5 h6:Int) (a1 a2:Option Addr) (c1 c2:Nat) (ks vs:List (List Int)) (w:World) (st0:Gp.St m0 s0) (st1:Gp.St m1 s1)
 (hk:Tbl w a1 ks) (hv:Tbl w a2 vs) (ik:∀ k,Ls.In32 (Tb.row ks k)) (iv:∀ k,Ls.In32 (Tb.row vs k)) (lk:ks.length = n0) (lv:vs.length = n0) (b1:1 <= n0) (b2:n0 <= 16) (b3:1 <= d0) (b4:d0 <= 16)
 (rk:∀ k,k < ks.length -> (Tb.row ks k).length = d0) (rv:∀ k,k < vs.length -> (Tb.row vs k).length = d0) :
 Calls Tryz.prog 112 #[.agg #[.int .i64 (m0:Int),.int .i64 (m1:Int),.int .i64 (n0:Int),.int .i64 (d0:Int),.int .i64 h4,.int .i64 h5,.int .i64 h6],.slice a1 ks.length c1,.slice a2 vs.length c2] w fun e w'=>∃ x7 e7 x8 e8,e = .returned (.agg #[.int .i64 (m0:Int),.int .i64 (m1:Int),.int .i64 (n0:Int),.int .i64 (d0:Int),.int .i64 h4,.int .i64 h5,.int .i64 h6,.slice x7 d0 e7,.slice x8 n0 e8]) /\ GpsB w.heap.size w' x7 (Pg.qk s0 d0 ks) /\ GpsB w.heap.size w' x8 (Pg.qv s1 vs) /\ Below w.heap.size w w':=by
 obtain ⟨i0,hi0,hi1,hi2,hi3⟩:=info_parts Tryz.infoInt32
 obtain ⟨j0,hj0,hj1,hj2,hj3⟩:=info_parts Tryz.infoRG
 have HK:Hid (Tbl w a1 ks):=hk
 have HV:Hid (Tbl w a2 vs):=hv
 have IK:Hid (∀ k,Ls.In32 (Tb.row ks k)):=ik
 have IV:Hid (∀ k,Ls.In32 (Tb.row vs k)):=iv
 have RK:Hid (∀ k,k < ks.length -> (Tb.row ks k).length = d0):=rk
 have RV:Hid (∀ k,k < vs.length -> (Tb.row vs k).length = d0):=rv
 have LK:Hid (ks.length = n0):=lk
 have LV:Hid (vs.length = n0):=lv
 have lk1:ks.length <= 16:=by omega
 have lk0:0 < ks.length:=by omega
 have lv1:vs.length <= 16:=by omega
 have ST0:Hid (Gp.St m0 s0):=st0
 have ST1:Hid (Gp.St m1 s1):=st1
 clear hk hv ik iv rk rv lk lv st0 st1
 go_enter Tryz.func112,Tryz.ntmps112
 go_wp2
 go_loopw [8] (fun i wr=>∃ (k:Nat) (v7:Value) (A:Nat -> Option Addr) (C:Nat -> Nat),k <= d0 /\ i = .int .i64 k /\ wr.rowIs (w.heap.size + 2) 139 9 (pcell #[.int .i64 (m0:Int),.int .i64 (m1:Int),.int .i64 (n0:Int),.int .i64 (d0:Int),.int .i64 h4,.int .i64 h5,.int .i64 h6] v7 (.slice none 0 0)) /\ wr.ownsRow (w.heap.size + 3) 170 3 v7 k (gflat (Pg.qk s0 d0 ks) A C k) /\ (∀ j,j < k -> Lst .i64 wr (A j) (Pg.gc (Pg.nth (Pg.qk s0 d0 ks) j)) /\ ∀ x,A j = some x -> some x.block ≠ v7.ownBlock /\ x.block < wr.heap.size /\ w.heap.size + 3 <= x.block) /\ Below (w.heap.size + 2) ((w.alloc (.cells #[.int .i64 (m0:Int),.int .i64 (m1:Int),.int .i64 (n0:Int),.int .i64 (d0:Int),.int .i64 h4,.int .i64 h5,.int .i64 h6] 136)).alloc (.cells #[.int .i64 0,.int .i64 0,.int .i64 0,.int .i64 0,.int .i64 0,.int .i64 0,.int .i64 0,.slice none 0 0,.slice none 0 0] 139)) wr) (fun i _=>d0 - (intOf i).toNat)
 case atStart =>
  refine ⟨0,.slice none 0 0,fun _=>none,fun _=>0,Nat.zero_le _,rfl,?_,World.ownsRow_nil _ _ _ _,fun j hj=>by omega,(Below.refl _ _).alloc (by simp) _⟩
  have:=World.rowIs_alloc ((w.alloc (.cells #[.int .i64 (m0:Int),.int .i64 (m1:Int),.int .i64 (n0:Int),.int .i64 (d0:Int),.int .i64 h4,.int .i64 h5,.int .i64 h6] 136)).alloc (.cells #[.int .i64 0,.int .i64 0,.int .i64 0,.int .i64 0,.int .i64 0,.int .i64 0,.int .i64 0,.slice none 0 0,.slice none 0 0] 139)) #[.int .i64 (m0:Int),.int .i64 (m1:Int),.int .i64 (n0:Int),.int .i64 (d0:Int),.int .i64 h4,.int .i64 h5,.int .i64 h6,.slice none 0 0,.slice none 0 0] 139 (pcell #[.int .i64 (m0:Int),.int .i64 (m1:Int),.int .i64 (n0:Int),.int .i64 (d0:Int),.int .i64 h4,.int .i64 h5,.int .i64 h6] (.slice none 0 0) (.slice none 0 0)) (fun i hi=>by match i,hi with | 0,_=>rfl | 1,_=>rfl | 2,_=>rfl | 3,_=>rfl | 4,_=>rfl | 5,_=>rfl | 6,_=>rfl | 7,_=>rfl | 8,_=>rfl)
  rw [show ((w.alloc (.cells #[.int .i64 (m0:Int),.int .i64 (m1:Int),.int .i64 (n0:Int),.int .i64 (d0:Int),.int .i64 h4,.int .i64 h5,.int .i64 h6] 136)).alloc (.cells #[.int .i64 0,.int .i64 0,.int .i64 0,.int .i64 0,.int .i64 0,.int .i64 0,.int .i64 0,.slice none 0 0,.slice none 0 0] 139)).heap.size = w.heap.size + 2 by simp] at this
  exact this
 case round =>
  obtain ⟨k,v7,A,C,hkd,rfl,hrow,hown,hlst,hbel⟩:=hrel
  obtain ⟨u2,hu2⟩:∃ u2:World,u2 = wr:=⟨wr,rfl⟩
  subst hu2
  obtain ⟨x7,e7,rfl⟩:=Pg.own3 hown
  have HR:Hid (u2.rowIs (w.heap.size + 2) 139 9 (pcell #[.int .i64 (m0:Int),.int .i64 (m1:Int),.int .i64 (n0:Int),.int .i64 (d0:Int),.int .i64 h4,.int .i64 h5,.int .i64 h6] (.slice x7 k e7) (.slice none 0 0))):=hrow
  have HO:Hid (u2.ownsRow (w.heap.size + 3) 170 3 (.slice x7 k e7) k (gflat (Pg.qk s0 d0 ks) A C k)):=hown
  have HL:Hid (∀ j,j < k -> Lst .i64 u2 (A j) (Pg.gc (Pg.nth (Pg.qk s0 d0 ks) j)) /\ ∀ x,A j = some x -> some x.block ≠ (Value.slice x7 k e7).ownBlock /\ x.block < u2.heap.size /\ w.heap.size + 3 <= x.block):=hlst
  have HB:Hid (Below (w.heap.size + 2) ((w.alloc (.cells #[.int .i64 (m0:Int),.int .i64 (m1:Int),.int .i64 (n0:Int),.int .i64 (d0:Int),.int .i64 h4,.int .i64 h5,.int .i64 h6] 136)).alloc (.cells #[.int .i64 0,.int .i64 0,.int .i64 0,.int .i64 0,.int .i64 0,.int .i64 0,.int .i64 0,.slice none 0 0,.slice none 0 0] 139)) u2):=hbel
  have hsz:w.heap.size + 3 <= u2.heap.size:=hrow.lt
  have B0:Hid (Below w.heap.size w u2):=(two_boxes w _ _).trans (hbel.mono (by omega))
  have bx:∀ (w':World),Below u2.heap.size u2 w' -> w'.cell? ⟨w.heap.size,0,none⟩ = some (.int .i64 (m0:Int)) /\ w'.cell? ⟨w.heap.size,3,none⟩ = some (.int .i64 (d0:Int)):=fun w' hb=>by
   have q:=boxes_cells (w:=w) (X:=#[.int .i64 (m0:Int),.int .i64 (m1:Int),.int .i64 (n0:Int),.int .i64 (d0:Int),.int .i64 h4,.int .i64 h5,.int .i64 h6]) (Y:=#[.int .i64 0,.int .i64 0,.int .i64 0,.int .i64 0,.int .i64 0,.int .i64 0,.int .i64 0,.slice none 0 0,.slice none 0 0]) (s:=136) (t:=139) (v:=((w.alloc (.cells #[.int .i64 (m0:Int),.int .i64 (m1:Int),.int .i64 (n0:Int),.int .i64 (d0:Int),.int .i64 h4,.int .i64 h5,.int .i64 h6] 136)).alloc (.cells #[.int .i64 0,.int .i64 0,.int .i64 0,.int .i64 0,.int .i64 0,.int .i64 0,.int .i64 0,.slice none 0 0,.slice none 0 0] 139))) (Below.refl _ _)
   have hc:=hb
   refine ⟨?_,?_⟩
   ·rw [hc.cell (p:=⟨w.heap.size,0,none⟩) (show w.heap.size < u2.heap.size by omega),HB.out.cell (p:=⟨w.heap.size,0,none⟩) (show w.heap.size < w.heap.size + 2 by omega)];exact q.1 0 _ rfl
   ·rw [hc.cell (p:=⟨w.heap.size,3,none⟩) (show w.heap.size < u2.heap.size by omega),HB.out.cell (p:=⟨w.heap.size,3,none⟩) (show w.heap.size < w.heap.size + 2 by omega)];exact q.1 3 _ rfl
  have HBX:Hid (∀ (w':World),Below u2.heap.size u2 w' -> w'.cell? ⟨w.heap.size,0,none⟩ = some (.int .i64 (m0:Int)) /\ w'.cell? ⟨w.heap.size,3,none⟩ = some (.int .i64 (d0:Int))):=bx
  have d3:=(HBX.out u2 (Below.refl _ _)).2
  clear hrow hown hlst hbel bx
  by_cases hlt:k < d0
  ·go_wp2
   clear d3
   go_loopw [9,10] (fun v i wr=>∃ j:Nat,j <= ks.length /\ i = .int .i64 j /\ wr.ownsRow u2.heap.size 21 1 v j ((Ls.gen j fun q=>Ls.nth (Tb.row ks q) k).map (Value.int .i32)) /\ Below u2.heap.size u2 wr) (fun _ i _=>ks.length - (intOf i).toNat)
   case atStart=>exact ⟨0,Nat.zero_le _,rfl,World.ownsRow_nil _ _ _ _,Below.refl _ _⟩
   case round =>
    obtain ⟨j,hj,rfl,hown,hbel⟩:=hrel
    obtain ⟨va,vc,rfl⟩:=own_slice hown
    have HC:Hid (wr.ownsRow u2.heap.size 21 1 (.slice va j vc) j ((Ls.gen j fun q=>Ls.nth (Tb.row ks q) k).map (Value.int .i32))):=hown
    have HW:Hid (Below u2.heap.size u2 wr):=hbel
    have hsw:=hbel.size
    clear hown hbel
    by_cases hjl:j < ks.length
    ·obtain ⟨bt,ot,rfl,hct⟩:=(HK.out.keep (below_then B0.out HW.out)).get hjl
     obtain ⟨X,Y,g0,gL,_⟩:=hct j hjl
     have hrw:=RK.out j hjl
     obtain ⟨bb,oo,rfl,hcc⟩:=gL.get (show k < (Tb.row ks j).length by omega)
     have hck:=hcc k (by omega)
     have e1:(k:Int) < ((Tb.row ks j).length:Int):=by omega
     have hk2:k < (Tb.row ks j).length:=by omega
     clear hct gL hcc hrw
     go_wp2_with (at_builtin;refine wpList_append_lies _ rfl _ _ _ rfl u2.heap.size 21 i0 _ 1 4 Tryz.underlying74 hi0 hi1 hi2 hi3 rfl (by omega) _ j _ (by rfl) (HC.out.alloc _) ⟨wr.heap.size,0,none⟩ 1 1 [.int .i32 (Ls.nth (Tb.row ks j) k)] (by rfl) (by rfl) (World.news_of_block (cs:=#[.int .i32 (Ls.nth (Tb.row ks j) k)]) (t:=21) (fr:=(0,0)) (heap_alloc_new wr _)) (by simp [Value.oneCell']) (by omega) (by unfold maxLen;omega) (by omega) (by simp;omega) (wr.heap.size + 1) (by simp) ?_;intro gg cap w1 hown1 hgrow hat hlt1;have B1:Hid (Below u2.heap.size u2 w1):=(HW.out.alloc (by omega) _).grown hgrow (by simp;omega) (fun j hj=>(HC.out.lt j hj).1);have O1:Hid (w1.ownsRow u2.heap.size 21 1 (.slice (some ⟨gg,0,none⟩) (j + 1) cap) (j + 1) ((Ls.gen j fun q=>Ls.nth (Tb.row ks q) k).map (Value.int .i32) ++ [.int .i32 (Ls.nth (Tb.row ks j) k)])):=hown1;clear hown1 hgrow hat)
     go_roundw
     case rel=>exact ⟨j + 1,by omega,by go_num,gen_snoc O1.out rfl,B1.out⟩
     case measure=>simp [intOf];omega
    ·have e:j = ks.length:=by omega
     subst e
     obtain ⟨cl,ecl⟩:∃ cl,Pg.col ks k = cl:=⟨_,rfl⟩
     have ECL:Hid (Pg.col ks k = cl):=ecl
     have CLL:Hid (cl.length = ks.length):=by show _ = _;rw [<- ecl,Pg.col_length]
     obtain ⟨a3,c3,h3',hLc⟩:=lst_of_ownm (l:=cl) (n:=ks.length) (by rw [<- ecl];exact HC.out) CLL.out.symm
     cases h3'
     have LC:Hid (Lst .i32 wr va cl):=hLc
     have IC:Hid (Ls.In32 cl):=by rw [<- ecl];exact Pg.col_in IK.out k
     obtain ⟨z,ez⟩:∃ z,Gp.low cl = z:=⟨_,rfl⟩
     obtain ⟨sc,es⟩:∃ sc,Gp.scale (s0:Int) cl = sc:=⟨_,rfl⟩
     have EZ:Hid (Gp.low cl = z):=ez
     have ES:Hid (Gp.scale (s0:Int) cl = sc):=es
     have EQK:Hid (Pg.nth (Pg.qk s0 d0 ks) k = (z,sc,Gp.codes z sc cl)):=by
      show _ = _
      rw [Pg.nth_qk hlt,ecl]
      unfold Pg.grp
      rw [ez,es]
     have CDL:Hid ((Gp.codes z sc cl).length = ks.length):=by show _ = _;rw [Gp.codes_length,CLL.out]
     have R0:Hid (wr.rowIs (w.heap.size + 2) 139 9 (pcell #[.int .i64 (m0:Int),.int .i64 (m1:Int),.int .i64 (n0:Int),.int .i64 (d0:Int),.int .i64 h4,.int .i64 h5,.int .i64 h6] (.slice x7 k e7) (.slice none 0 0))):=HR.out.of_block (HW.out.block _ HR.out.lt)
     have c7:wr.cell? ⟨w.heap.size + 1 + 1,7,none⟩ = some (.slice x7 k e7):=R0.out.cell (show 7 < 9 by decide)
     have y0:wr.cell? ⟨w.heap.size,0,none⟩ = some (.int .i64 (m0:Int)):=(HBX.out wr HW.out).1
     have O0:Hid (wr.ownsRow (w.heap.size + 3) 170 3 (.slice x7 k e7) k (gflat (Pg.qk s0 d0 ks) A C k)):=own3_below HO.out HW.out
     have L0:Hid (∀ j,j < k -> Lst .i64 wr (A j) (Pg.gc (Pg.nth (Pg.qk s0 d0 ks) j)) /\ ∀ x,A j = some x -> some x.block ≠ (Value.slice x7 k e7).ownBlock /\ x.block < wr.heap.size /\ w.heap.size + 3 <= x.block):=fun j hj=>⟨(HL.out j hj).1.keep HW.out,fun x ex=>⟨((HL.out j hj).2 x ex).1,by have:=((HL.out j hj).2 x ex).2.1;have:=HW.out.size;omega,((HL.out j hj).2 x ex).2.2⟩⟩
     have BB:Hid (Below (w.heap.size + 2) ((w.alloc (.cells #[.int .i64 (m0:Int),.int .i64 (m1:Int),.int .i64 (n0:Int),.int .i64 (d0:Int),.int .i64 h4,.int .i64 h5,.int .i64 h6] 136)).alloc (.cells #[.int .i64 0,.int .i64 0,.int .i64 0,.int .i64 0,.int .i64 0,.int .i64 0,.int .i64 0,.slice none 0 0,.slice none 0 0] 139)) wr):=HB.out.trans (HW.out.mono (by omega))
     clear ecl hLc ez es
     go_wp2
     go_region_law (first
      | (refine step_append_lies _ (by rfl) _ _ _ (by rfl) (w.heap.size + 3) 170 j0 _ 3 32 Tryz.underlying137 hj0 hj1 hj2 hj3 rfl (by omega) _ k _ (by rfl) (O9.out.alloc _) ⟨v1.heap.size,0,none⟩ 1 1 [.int .i32 z,.int .u32 sc,.slice a9 ks.length c9] (by rfl) (by rfl) (World.news_of_block (cs:=#[.int .i32 z,.int .u32 sc,.slice a9 ks.length c9]) (t:=170) (fr:=(0,0)) (heap_alloc_new v1 _)) (by simp [Value.oneCell']) (by omega) (by unfold maxLen;omega) (by omega) (by first | (simp;done) | (simp;omega)) (v1.heap.size + 1) (by simp) ?_;intro gg cap w1 hown1 hgrow hat hlt1;have R1:Hid (w1.rowIs (w.heap.size + 2) 139 9 (pcell #[.int .i64 (m0:Int),.int .i64 (m1:Int),.int .i64 (n0:Int),.int .i64 (d0:Int),.int .i64 h4,.int .i64 h5,.int .i64 h6] (.slice x7 k e7) (.slice none 0 0))):=((R0.out.of_block (B9.out.block _ R0.out.lt)).alloc _).of_block (hgrow.block _ (by first | (simp;done) | (simp;omega)) (fun e=>by have:=(O9.out.lt _ e.symm).1;omega));have O1:Hid (w1.ownsRow (w.heap.size + 3) 170 3 (.slice (some ⟨gg,0,none⟩) (k + 1) cap) (k + 1) (gflat (Pg.qk s0 d0 ks) A C k ++ [.int .i32 z,.int .u32 sc,.slice a9 ks.length c9])):=hown1;have HAT:Hid ((Value.slice x7 k e7).ownBlock = some gg \/ gg = v1.heap.size + 1):=hat;have HLT:Hid (gg < w1.heap.size):=hlt1;have G1:Hid ((v1.alloc (.cells #[.int .i32 z,.int .u32 sc,.slice a9 ks.length c9] 170)).grownBy w1 (Value.slice x7 k e7).ownBlock):=hgrow;have c71:w1.cell? ⟨w.heap.size + 1 + 1,7,none⟩ = some (.slice x7 k e7):=R1.out.cell (show 7 < 9 by decide);have f71:w1.frozen? ⟨w.heap.size + 1 + 1,7,none⟩ = false:=R1.out.frozen 7;clear hown1 hgrow hat)
      | (go_simp;go_at_call 131;refine (refOf_anym _ _ _ m0 s0 cl _ CLL.out.symm (LC.out.keep ((Below.refl wr.heap.size wr).drew)) IC.out ST0.out lk0 (by omega) z sc EZ.out ES.out).mono ?_;rintro e v1 ⟨a9,c9,rfl,hL9,hb9,hn9⟩;have N9:Hid (∀ x,a9 = some x -> wr.heap.size <= x.block):=hn9;clear hn9;have B9:Hid (Below wr.heap.size wr v1):=((Below.refl wr.heap.size wr).drew).trans hb9;have L9:Hid (Lst .i64 v1 a9 (Gp.codes z sc cl)):=hL9;have c79:v1.cell? ⟨w.heap.size + 1 + 1,7,none⟩ = some (.slice x7 k e7):=(B9.out.cell (p:=⟨w.heap.size + 1 + 1,7,none⟩) (World.block_lt_of_cell? wr _ c7)).trans c7;have l79:w.heap.size + 1 + 1 < v1.heap.size:=World.block_lt_of_cell? v1 _ c79;have O9:Hid (v1.ownsRow (w.heap.size + 3) 170 3 (.slice x7 k e7) k (gflat (Pg.qk s0 d0 ks) A C k)):=own3_below O0.out B9.out;clear hL9 hb9))
     all_goals
      go_wp2
      go_roundw
      case rel =>
       have hs1:=B9.out.size
       have hs2:=G1.out.size
       rw [show (v1.alloc (.cells #[.int .i32 z,.int .u32 sc,.slice a9 ks.length c9] 170)).heap.size = v1.heap.size + 1 by simp] at hs2
       have nz:0 < (Gp.codes z sc cl).length:=by rw [CDL.out];exact lk0
       have bA:∀ x,a9 = some x -> x.block < v1.heap.size /\ some x.block ≠ (Value.slice x7 k e7).ownBlock /\ w.heap.size + 3 <= x.block:=fun x ex=>by
        obtain ⟨bb,oo,eb,hcb⟩:=L9.out 0 nz
        rw [ex] at eb
        cases eb
        have g1:bb < v1.heap.size:=World.block_lt_of_cell? v1 _ hcb
        have g2:wr.heap.size <= bb:=N9.out _ ex
        have g3:w.heap.size + 3 <= wr.heap.size:=by have:=HW.out.size;omega
        exact ⟨g1,fun e=>by have h9:bb < wr.heap.size:=(O0.out.lt _ e.symm).2;omega,by show w.heap.size + 3 <= bb;omega⟩
       refine ⟨k + 1,.slice (some ⟨gg,0,none⟩) (k + 1) cap,fun j=>if j = k then a9 else A j,fun j=>if j = k then c9 else C j,by omega,by go_num,(R1.out.set 7 _).congr (fun j hj=>pcell_set7 _ _ _ _ j),own3_set (by rw [gflat_snoc EQK.out CDL.out];exact O1.out) (by show w.heap.size + 1 + 1 < w.heap.size + 3;omega) _,fun j hj=>?_,?_⟩
       ·by_cases e:j = k
        ·subst e
         dsimp only
         rw [if_pos rfl,EQK.out]
         refine ⟨((L9.out.keep (box_below _ _)).grown G1.out (fun x ex=>(bA x ex).2.1)).set_otherP (fun x ex=>by have:=(bA x ex).2.2;show ¬ x.block = w.heap.size + 1 + 1;omega) _,fun x ex=>?_⟩
         obtain ⟨q1,q2,q3⟩:=bA x ex
         refine ⟨?_,by rw [Go.Deep.nblk_setCell];omega,q3⟩
         intro e
         have e':x.block = gg:=by injection e
         rcases HAT.out with h | h
         ·exact q2 (by rw [h,e'])
         ·omega
        ·dsimp only
         rw [if_neg e]
         obtain ⟨l1,l2⟩:=L0.out j (by omega)
         refine ⟨(((l1.keep B9.out).keep (box_below _ _)).grown G1.out (fun x ex=>(l2 x ex).1)).set_otherP (fun x ex=>by have:=(l2 x ex).2.2;show ¬ x.block = w.heap.size + 1 + 1;omega) _,fun x ex=>?_⟩
         obtain ⟨q1,q2,q3⟩:=l2 x ex
         refine ⟨?_,by rw [Go.Deep.nblk_setCell];omega,q3⟩
         intro e
         have e':x.block = gg:=by injection e
         rcases HAT.out with h | h
         ·exact q1 (by rw [h,e'])
         ·omega
       ·refine Below.setCell ?_ (by show w.heap.size + 2 <= w.heap.size + 1 + 1;omega) _
        exact ((BB.out.trans (B9.out.mono (by have:=HW.out.size;omega))).alloc (by omega) _).grown G1.out (by simp;omega) (fun j hj=>by have:=(O9.out.lt j hj).1;omega)
      case measure=>simp [intOf];omega
  ·have ek:d0 = k:=by omega
   subst ek
   clear hlt hkd
   go_wp2
   clear d3
   go_loopw [11] (fun i wr=>∃ (j:Nat) (v8:Value) (A8:Nat -> Option Addr) (C8:Nat -> Nat),j <= vs.length /\ i = .int .i64 j /\ wr.rowIs (w.heap.size + 2) 139 9 (pcell #[.int .i64 (m0:Int),.int .i64 (m1:Int),.int .i64 (n0:Int),.int .i64 (d0:Int),.int .i64 h4,.int .i64 h5,.int .i64 h6] (.slice x7 d0 e7) v8) /\ wr.ownsRow u2.heap.size 170 3 v8 j (gflat (Pg.qv s1 vs) A8 C8 j) /\ (∀ q,q < j -> Lst .i64 wr (A8 q) (Pg.gc (Pg.nth (Pg.qv s1 vs) q)) /\ ∀ x,A8 q = some x -> some x.block ≠ v8.ownBlock /\ x.block < wr.heap.size /\ u2.heap.size <= x.block) /\ Below (w.heap.size + 2) ((w.alloc (.cells #[.int .i64 (m0:Int),.int .i64 (m1:Int),.int .i64 (n0:Int),.int .i64 (d0:Int),.int .i64 h4,.int .i64 h5,.int .i64 h6] 136)).alloc (.cells #[.int .i64 0,.int .i64 0,.int .i64 0,.int .i64 0,.int .i64 0,.int .i64 0,.int .i64 0,.slice none 0 0,.slice none 0 0] 139)) wr /\ Keeps u2 wr (w.heap.size + 1 + 1)) (fun i _=>vs.length - (intOf i).toNat)
   case atStart=>exact ⟨0,.slice none 0 0,fun _=>none,fun _=>0,Nat.zero_le _,rfl,HR.out,World.ownsRow_nil _ _ _ _,fun j hj=>by omega,HB.out,Keeps.refl _ _⟩
   case round =>
    obtain ⟨j,v8,A8,C8,hj,rfl,hrow8,hown8,hlst8,hbel8,hkeep8⟩:=hrel
    obtain ⟨x8,e8,rfl⟩:=Pg.own3 hown8
    have R0:Hid (wr.rowIs (w.heap.size + 2) 139 9 (pcell #[.int .i64 (m0:Int),.int .i64 (m1:Int),.int .i64 (n0:Int),.int .i64 (d0:Int),.int .i64 h4,.int .i64 h5,.int .i64 h6] (.slice x7 d0 e7) (.slice x8 j e8))):=hrow8
    have O0:Hid (wr.ownsRow u2.heap.size 170 3 (.slice x8 j e8) j (gflat (Pg.qv s1 vs) A8 C8 j)):=hown8
    have L0:Hid (∀ q,q < j -> Lst .i64 wr (A8 q) (Pg.gc (Pg.nth (Pg.qv s1 vs) q)) /\ ∀ x,A8 q = some x -> some x.block ≠ (Value.slice x8 j e8).ownBlock /\ x.block < wr.heap.size /\ u2.heap.size <= x.block):=hlst8
    have BB:Hid (Below (w.heap.size + 2) ((w.alloc (.cells #[.int .i64 (m0:Int),.int .i64 (m1:Int),.int .i64 (n0:Int),.int .i64 (d0:Int),.int .i64 h4,.int .i64 h5,.int .i64 h6] 136)).alloc (.cells #[.int .i64 0,.int .i64 0,.int .i64 0,.int .i64 0,.int .i64 0,.int .i64 0,.int .i64 0,.slice none 0 0,.slice none 0 0] 139)) wr):=hbel8
    have KP:Hid (Keeps u2 wr (w.heap.size + 1 + 1)):=hkeep8
    have hsw:u2.heap.size <= wr.heap.size:=hkeep8.1
    have B00:Hid (Below w.heap.size w wr):=(two_boxes w _ _).trans (hbel8.mono (by omega))
    have q0:=boxes_cells (w:=w) (X:=#[.int .i64 (m0:Int),.int .i64 (m1:Int),.int .i64 (n0:Int),.int .i64 (d0:Int),.int .i64 h4,.int .i64 h5,.int .i64 h6]) (Y:=#[.int .i64 0,.int .i64 0,.int .i64 0,.int .i64 0,.int .i64 0,.int .i64 0,.int .i64 0,.slice none 0 0,.slice none 0 0]) (s:=136) (t:=139) (v:=((w.alloc (.cells #[.int .i64 (m0:Int),.int .i64 (m1:Int),.int .i64 (n0:Int),.int .i64 (d0:Int),.int .i64 h4,.int .i64 h5,.int .i64 h6] 136)).alloc (.cells #[.int .i64 0,.int .i64 0,.int .i64 0,.int .i64 0,.int .i64 0,.int .i64 0,.int .i64 0,.slice none 0 0,.slice none 0 0] 139))) (Below.refl _ _)
    have y1:wr.cell? ⟨w.heap.size,1,none⟩ = some (.int .i64 (m1:Int)):=by rw [hbel8.cell (p:=⟨w.heap.size,1,none⟩) (show w.heap.size < w.heap.size + 2 by omega)];exact q0.1 1 _ rfl
    have c8:wr.cell? ⟨w.heap.size + 1 + 1,8,none⟩ = some (.slice x8 j e8):=hrow8.cell (show 8 < 9 by decide)
    clear hrow8 hown8 hlst8 hkeep8 q0
    by_cases hjl:j < vs.length
    ·obtain ⟨bt,ot,rfl,hct⟩:=(HV.out.keep B00.out).get hjl
     obtain ⟨X,Y,g0,gL,_⟩:=hct j hjl
     have hrw:=RV.out j hjl
     obtain ⟨z,ez⟩:∃ z,Gp.low (Tb.row vs j) = z:=⟨_,rfl⟩
     obtain ⟨sc,es⟩:∃ sc,Gp.scale (s1:Int) (Tb.row vs j) = sc:=⟨_,rfl⟩
     have EZ:Hid (Gp.low (Tb.row vs j) = z):=ez
     have ES:Hid (Gp.scale (s1:Int) (Tb.row vs j) = sc):=es
     have EQK:Hid (Pg.nth (Pg.qv s1 vs) j = (z,sc,Gp.codes z sc (Tb.row vs j))):=by
      show _ = _
      rw [Pg.nth_qv hjl]
      unfold Pg.grp
      rw [ez,es]
     have RW:Hid ((Tb.row vs j).length = d0):=hrw
     have CDL:Hid ((Gp.codes z sc (Tb.row vs j)).length = (Tb.row vs j).length):=Gp.codes_length _ _ _
     have LC:Hid (Lst .i32 wr X (Tb.row vs j)):=gL
     have hz1:0 < (Tb.row vs j).length:=by omega
     have hz2:(Tb.row vs j).length <= 256:=by omega
     clear hct gL hrw ez es hbel8
     have e1:(0:Int) <= (j:Int):=by omega
     have e2:(j:Int) < (vs.length:Int):=by omega
     go_wp2
     go_region_law (first
      | (refine step_append_lies _ (by rfl) _ _ _ (by rfl) u2.heap.size 170 j0 _ 3 32 Tryz.underlying137 hj0 hj1 hj2 hj3 rfl (by omega) _ j _ (by rfl) (O9.out.alloc _) ⟨v1.heap.size,0,none⟩ 1 1 [.int .i32 z,.int .u32 sc,.slice a9 (Tb.row vs j).length c9] (by rfl) (by rfl) (World.news_of_block (cs:=#[.int .i32 z,.int .u32 sc,.slice a9 (Tb.row vs j).length c9]) (t:=170) (fr:=(0,0)) (heap_alloc_new v1 _)) (by simp [Value.oneCell']) (by omega) (by unfold maxLen;omega) (by omega) (by have:=HS9.out;first | (simp;done) | (simp;omega)) (v1.heap.size + 1) (by simp) ?_;intro gg cap w1 hown1 hgrow hat hlt1;have R1:Hid (w1.rowIs (w.heap.size + 2) 139 9 (pcell #[.int .i64 (m0:Int),.int .i64 (m1:Int),.int .i64 (n0:Int),.int .i64 (d0:Int),.int .i64 h4,.int .i64 h5,.int .i64 h6] (.slice x7 d0 e7) (.slice x8 j e8))):=((R0.out.of_block (B9.out.block _ R0.out.lt)).alloc _).of_block (hgrow.block _ (by first | (simp;done) | (simp;omega)) (fun e=>by have:=(O9.out.lt _ e.symm).1;omega));have O1:Hid (w1.ownsRow u2.heap.size 170 3 (.slice (some ⟨gg,0,none⟩) (j + 1) cap) (j + 1) (gflat (Pg.qv s1 vs) A8 C8 j ++ [.int .i32 z,.int .u32 sc,.slice a9 (Tb.row vs j).length c9])):=hown1;have HAT:Hid ((Value.slice x8 j e8).ownBlock = some gg \/ gg = v1.heap.size + 1):=hat;have HLT:Hid (gg < w1.heap.size):=hlt1;have G1:Hid ((v1.alloc (.cells #[.int .i32 z,.int .u32 sc,.slice a9 (Tb.row vs j).length c9] 170)).grownBy w1 (Value.slice x8 j e8).ownBlock):=hgrow;have c81:w1.cell? ⟨w.heap.size + 1 + 1,8,none⟩ = some (.slice x8 j e8):=R1.out.cell (show 8 < 9 by decide);have f81:w1.frozen? ⟨w.heap.size + 1 + 1,8,none⟩ = false:=R1.out.frozen 8;clear hown1 hgrow hat)
      | (go_simp;go_at_call 131;refine (refOf_anym _ _ _ m1 s1 (Tb.row vs j) _ rfl (LC.out.keep ((Below.refl wr.heap.size wr).drew)) (IV.out j) ST1.out hz1 hz2 z sc EZ.out ES.out).mono ?_;rintro e v1 ⟨a9,c9,rfl,hL9,hb9,hn9⟩;have N9:Hid (∀ x,a9 = some x -> wr.heap.size <= x.block):=hn9;clear hn9;have B9:Hid (Below wr.heap.size wr v1):=((Below.refl wr.heap.size wr).drew).trans hb9;have HS9:Hid (u2.heap.size <= v1.heap.size):=Nat.le_trans hsw B9.out.size;have L9:Hid (Lst .i64 v1 a9 (Gp.codes z sc (Tb.row vs j))):=hL9;have c89:v1.cell? ⟨w.heap.size + 1 + 1,8,none⟩ = some (.slice x8 j e8):=(B9.out.cell (p:=⟨w.heap.size + 1 + 1,8,none⟩) (World.block_lt_of_cell? wr _ c8)).trans c8;have l89:w.heap.size + 1 + 1 < v1.heap.size:=World.block_lt_of_cell? v1 _ c89;have O9:Hid (v1.ownsRow u2.heap.size 170 3 (.slice x8 j e8) j (gflat (Pg.qv s1 vs) A8 C8 j)):=own3_below O0.out B9.out;clear hL9 hb9))
     all_goals
      go_wp2
      go_roundw
      case rel =>
       have hs1:=B9.out.size
       have hs2:=G1.out.size
       rw [show (v1.alloc (.cells #[.int .i32 z,.int .u32 sc,.slice a9 (Tb.row vs j).length c9] 170)).heap.size = v1.heap.size + 1 by simp] at hs2
       have nz:0 < (Gp.codes z sc (Tb.row vs j)).length:=by rw [CDL.out];exact hz1
       have bA:∀ x,a9 = some x -> x.block < v1.heap.size /\ some x.block ≠ (Value.slice x8 j e8).ownBlock /\ u2.heap.size <= x.block:=fun x ex=>by
        obtain ⟨bb,oo,eb,hcb⟩:=L9.out 0 nz
        rw [ex] at eb
        cases eb
        have g1:bb < v1.heap.size:=World.block_lt_of_cell? v1 _ hcb
        have g2:wr.heap.size <= bb:=N9.out _ ex
        exact ⟨g1,fun e=>by have h9:bb < wr.heap.size:=(O0.out.lt _ e.symm).2;omega,by show u2.heap.size <= bb;omega⟩
       refine ⟨j + 1,.slice (some ⟨gg,0,none⟩) (j + 1) cap,fun q=>if q = j then a9 else A8 q,fun q=>if q = j then c9 else C8 q,by omega,by go_num,(R1.out.set 8 _).congr (fun q hq=>pcell_set8 _ _ _ _ q),own3_set (by rw [gflat_snoc EQK.out CDL.out];exact O1.out) (by show w.heap.size + 1 + 1 < u2.heap.size;omega) _,fun q hq=>?_,?_,?_⟩
       ·by_cases e:q = j
        ·subst e
         dsimp only
         rw [if_pos rfl,EQK.out]
         refine ⟨((L9.out.keep (box_below _ _)).grown G1.out (fun x ex=>(bA x ex).2.1)).set_otherP (fun x ex=>by have:=(bA x ex).2.2;show ¬ x.block = w.heap.size + 1 + 1;omega) _,fun x ex=>?_⟩
         obtain ⟨q1,q2,q3⟩:=bA x ex
         refine ⟨?_,by rw [Go.Deep.nblk_setCell];omega,q3⟩
         intro e
         have e':x.block = gg:=by injection e
         rcases HAT.out with h | h
         ·exact q2 (by rw [h,e'])
         ·omega
        ·dsimp only
         rw [if_neg e]
         obtain ⟨l1,l2⟩:=L0.out q (by omega)
         refine ⟨(((l1.keep B9.out).keep (box_below _ _)).grown G1.out (fun x ex=>(l2 x ex).1)).set_otherP (fun x ex=>by have:=(l2 x ex).2.2;show ¬ x.block = w.heap.size + 1 + 1;omega) _,fun x ex=>?_⟩
         obtain ⟨q1,q2,q3⟩:=l2 x ex
         refine ⟨?_,by rw [Go.Deep.nblk_setCell];omega,q3⟩
         intro e
         have e':x.block = gg:=by injection e
         rcases HAT.out with h | h
         ·exact q1 (by rw [h,e'])
         ·omega
       ·refine Below.setCell ?_ (by show w.heap.size + 2 <= w.heap.size + 1 + 1;omega) _
        exact ((BB.out.trans (B9.out.mono (by omega))).alloc (by omega) _).grown G1.out (by simp;omega) (fun j hj=>by have:=(O9.out.lt j hj).1;omega)
       ·exact Keeps.set (((KP.out.below B9.out).below (box_below _ _)).grown G1.out (fun g hg=>(O9.out.lt g hg).1)) 8 _
      case measure=>simp [intOf];omega
    ·have ej:j = vs.length:=by omega
     subst ej
     have ZZ:wr.rowIs (w.heap.size + 1) 139 9 (fun i=>if i < 7 then .int .i64 0 else .slice none 0 0):=by
      have q:=World.rowIs_alloc (w.alloc (.cells #[.int .i64 (m0:Int),.int .i64 (m1:Int),.int .i64 (n0:Int),.int .i64 (d0:Int),.int .i64 h4,.int .i64 h5,.int .i64 h6] 136)) #[.int .i64 0,.int .i64 0,.int .i64 0,.int .i64 0,.int .i64 0,.int .i64 0,.int .i64 0,.slice none 0 0,.slice none 0 0] 139 (fun i=>if i < 7 then .int .i64 0 else .slice none 0 0) (fun i hi=>by match i,hi with | 0,_=>rfl | 1,_=>rfl | 2,_=>rfl | 3,_=>rfl | 4,_=>rfl | 5,_=>rfl | 6,_=>rfl | 7,_=>rfl | 8,_=>rfl)
      rw [show (w.alloc (.cells #[.int .i64 (m0:Int),.int .i64 (m1:Int),.int .i64 (n0:Int),.int .i64 (d0:Int),.int .i64 h4,.int .i64 h5,.int .i64 h6] 136)).heap.size = w.heap.size + 1 by simp] at q
      exact q.of_block (BB.out.block _ (by omega))
     have p0:wr.cell? ⟨w.heap.size + 1 + 1,0,none⟩ = some (.int .i64 (m0:Int)):=R0.out.cell (show 0 < 9 by decide)
     have p1:wr.cell? ⟨w.heap.size + 1 + 1,1,none⟩ = some (.int .i64 (m1:Int)):=R0.out.cell (show 1 < 9 by decide)
     have p2:wr.cell? ⟨w.heap.size + 1 + 1,2,none⟩ = some (.int .i64 (n0:Int)):=R0.out.cell (show 2 < 9 by decide)
     have p3:wr.cell? ⟨w.heap.size + 1 + 1,3,none⟩ = some (.int .i64 (d0:Int)):=R0.out.cell (show 3 < 9 by decide)
     have p4:wr.cell? ⟨w.heap.size + 1 + 1,4,none⟩ = some (.int .i64 h4):=R0.out.cell (show 4 < 9 by decide)
     have p5:wr.cell? ⟨w.heap.size + 1 + 1,5,none⟩ = some (.int .i64 h5):=R0.out.cell (show 5 < 9 by decide)
     have p6:wr.cell? ⟨w.heap.size + 1 + 1,6,none⟩ = some (.int .i64 h6):=R0.out.cell (show 6 < 9 by decide)
     have p7:wr.cell? ⟨w.heap.size + 1 + 1,7,none⟩ = some (.slice x7 d0 e7):=R0.out.cell (show 7 < 9 by decide)
     have p8:wr.cell? ⟨w.heap.size + 1 + 1,8,none⟩ = some (.slice x8 vs.length e8):=R0.out.cell (show 8 < 9 by decide)
     have z0:wr.cell? ⟨w.heap.size + 1,0,none⟩ = some (.int .i64 0):=ZZ.cell (show 0 < 9 by decide)
     have f0:wr.frozen? ⟨w.heap.size + 1,0,none⟩ = false:=ZZ.frozen 0
     have z1:wr.cell? ⟨w.heap.size + 1,1,none⟩ = some (.int .i64 0):=ZZ.cell (show 1 < 9 by decide)
     have f1:wr.frozen? ⟨w.heap.size + 1,1,none⟩ = false:=ZZ.frozen 1
     have z2:wr.cell? ⟨w.heap.size + 1,2,none⟩ = some (.int .i64 0):=ZZ.cell (show 2 < 9 by decide)
     have f2:wr.frozen? ⟨w.heap.size + 1,2,none⟩ = false:=ZZ.frozen 2
     have z3:wr.cell? ⟨w.heap.size + 1,3,none⟩ = some (.int .i64 0):=ZZ.cell (show 3 < 9 by decide)
     have f3:wr.frozen? ⟨w.heap.size + 1,3,none⟩ = false:=ZZ.frozen 3
     have z4:wr.cell? ⟨w.heap.size + 1,4,none⟩ = some (.int .i64 0):=ZZ.cell (show 4 < 9 by decide)
     have f4:wr.frozen? ⟨w.heap.size + 1,4,none⟩ = false:=ZZ.frozen 4
     have z5:wr.cell? ⟨w.heap.size + 1,5,none⟩ = some (.int .i64 0):=ZZ.cell (show 5 < 9 by decide)
     have f5:wr.frozen? ⟨w.heap.size + 1,5,none⟩ = false:=ZZ.frozen 5
     have z6:wr.cell? ⟨w.heap.size + 1,6,none⟩ = some (.int .i64 0):=ZZ.cell (show 6 < 9 by decide)
     have f6:wr.frozen? ⟨w.heap.size + 1,6,none⟩ = false:=ZZ.frozen 6
     have z7:wr.cell? ⟨w.heap.size + 1,7,none⟩ = some (.slice none 0 0):=ZZ.cell (show 7 < 9 by decide)
     have f7:wr.frozen? ⟨w.heap.size + 1,7,none⟩ = false:=ZZ.frozen 7
     have z8:wr.cell? ⟨w.heap.size + 1,8,none⟩ = some (.slice none 0 0):=ZZ.cell (show 8 < 9 by decide)
     have f8:wr.frozen? ⟨w.heap.size + 1,8,none⟩ = false:=ZZ.frozen 8
     clear ZZ hbel8 c8 y1
     go_wp2
     refine bodyPost_ret (v:=.agg #[.int .i64 (m0:Int),.int .i64 (m1:Int),.int .i64 (n0:Int),.int .i64 (d0:Int),.int .i64 h4,.int .i64 h5,.int .i64 h6,.slice x7 d0 e7,.slice x8 vs.length e8]) (by simp [results,Tryz.results112,go_sem,z0,z1,z2,z3,z4,z5,z6,z7,z8]) rfl ⟨x7,e7,x8,e8,?_,?_,?_,?_⟩
     ·rw [LV.out]
     ·refine gpsB_final (w:=wr) (P:=w.heap.size + 1) (own3_at HO.out fun g hg=>KP.out.2 g (HO.out.lt g hg).2 (by have:=(HO.out.lt g hg).1;omega)) (Pg.qk_length _ _ _).symm (fun i hi=>?_) (by omega) (fun g hg=>by repeat rw [Go.Deep.blk_setCell_other _ _ _ g (by exact hg)]) (by omega) (fun i hi y ey=>?_)
      ·rw [Pg.qk_length] at hi
       obtain ⟨l1,l2⟩:=HL.out i hi
       exact ⟨KP.out.lst l1 (fun x ex=>by have:=(l2 x ex).2.2;omega),fun x ex=>by have:=(l2 x ex).2.2;omega⟩
      ·rw [Pg.qk_length] at hi
       have:=((HL.out i hi).2 y ey).2.2;omega
     ·refine gpsB_final (w:=wr) (P:=w.heap.size + 1) O0.out (Pg.qv_length _ _).symm (fun i hi=>?_) (by omega) (fun g hg=>by repeat rw [Go.Deep.blk_setCell_other _ _ _ g (by exact hg)]) (by omega) (fun i hi y ey=>?_)
      ·rw [Pg.qv_length] at hi
       obtain ⟨l1,l2⟩:=L0.out i hi
       exact ⟨l1,fun x ex=>by have:=(l2 x ex).2.2;omega⟩
      ·rw [Pg.qv_length] at hi
       have:=((L0.out i hi).2 y ey).2.2;omega
     ·exact ((((((((B00.out.setCell (by simp) _).setCell (by simp) _).setCell (by simp) _).setCell (by simp) _).setCell (by simp) _).setCell (by simp) _).setCell (by simp) _).setCell (by simp) _).setCell (by simp) _
end Go.Proofs.YtnchnlgnnlgjcaaGreat
