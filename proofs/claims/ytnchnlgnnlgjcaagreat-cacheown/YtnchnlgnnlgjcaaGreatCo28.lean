import Derived.Test.YtnchnlgnnlgjcaaGreatCo27
import Derived.Test.YtnchnlgnnlgjcaaGreatCo12
import Derived.Test.YtnchnlgnnlgjcaaGreatCo02
import Derived.Test.YtnchnlgnnlgjcaaGreatCo14
import Derived.Deep.Slices
import Derived.Deep.SlicePairs
import Derived.Deep.Matrix
import Derived.ChangeArms
import Derived.Test.YtnchnlgnnlgjcaaGreatCo25
import Derived.Test.YtnchnlgnnlgjcaaGreatCo20
set_option linter.unusedVariables false
set_option linter.unusedSimpArgs false
namespace Go.Proofs.YtnchnlgnnlgjcaaGreat
open Go.RowKit
namespace Cc
def awc (g b x:Nat):Nat:=if x=g\/x=b then 1000 else 0
set_option maxRecDepth 100000 in
set_option maxHeartbeats 6400000 in
theorem caAwake_any (w:World):Calls Tryz.prog 9 #[] w fun e w'=>e=.returned (.bool true)/\Below w.heap.size w w':=by
 go_enter Tryz.func9,Tryz.ntmps9
 go_wp2_with fail
 refine (newPool_ok 1 (by decide) _).mono ?_
 rintro e w1 ⟨g,b,rfl,hp,hg,hb,hbel⟩
 have P1:=Ca.hid hp
 have G1:=Ca.hid (And.intro hg hb)
 have B1:=Ca.hid hbel
 clear hp hg hb hbel
 go_wp2_with fail
 refine (some_any _).mono ?_
 rintro e w2 ⟨a,rfl,ha,hps,hbel⟩
 have P2:=Ca.hid (P1.out.keep hbel)
 have S2:=Ca.hid hps
 have B2:=Ca.hid (below_then B1.out hbel)
 clear ha hps hbel
 go_wp2_with fail
 refine (newC_ok 1 g 1 1 2 0 (some ⟨a,0,none⟩) 1 aws (Po.zeros 1) (awc g b) _ S2.out aws_ok (fun x hx=>by unfold awc;rw [if_neg];have:=P2.out.lt;omega) (by decide)).mono ?_
 rintro e w3 ⟨C,col,rfl,hc,hbel,x2,x3,x4⟩
 have lg:=P2.out.lt
 have cg:col g=1000:=by rw [x2 g lg.1];unfold awc;rw [if_pos (.inl rfl)]
 have cb:col b=1000:=by rw [x2 b lg.2];unfold awc;rw [if_pos (.inr rfl)]
 have sz2:=B2.out.size
 have A3:Hid (Aw w w3 g b C 0 col):=⟨Po.zeros 1,Po.zeros 1,fun _=>[],P2.out.keep hbel,hc,rfl,fun i _ x hx=>by simp at hx,rfl,x4,fun x hx=>by rw [x2 x (by omega)];unfold awc;rw [if_neg];have:=G1.out;omega,by rw [cg];decide,by rw [cb];decide,below_then B2.out hbel⟩
 clear hc hbel x2 x3 x4 cg cb sz2 lg P1 G1 B1 P2 S2 B2
 go_wp2_with fail
 refine (newC_bad g 0 0 0 0 none 0 [] _ (Tn.Tr.Ps.nil _ _) (by decide) (by decide)).mono ?_
 rintro e w4 ⟨rfl,hbel⟩
 have A4:=Ca.hid (A3.out.keep hbel)
 clear hbel A3
 go_wp2_with (first
  | (go_at_call 20;(with_reducible refine (put_open_c C g 1 1 2 0 aws 0 0 1 (.slice none 0 0) (.slice none 0 0) _ A4.out.bd (by decide) (by decide) (by decide) (by decide)).mono ?_);rintro e w5 ⟨rfl,hb⟩;have A5:=Ca.hid (A4.out.keep hb);clear hb)
  | (go_at_call 20;refine (put_shape_c C g 1 1 2 0 aws 0 0 none none 0 0 [] [] _ A5.out.bd (by decide) (by decide) (by decide) (by decide) (by decide) (fun i hi=>by simp at hi) (fun i hi=>by simp at hi) (by decide) (by decide) rfl).mono ?_;rintro e w6 ⟨rfl,hb⟩;have A6:=Ca.hid (A5.out.keep hb);clear hb))
 clear A4 A5
 go_loopw [7,56] (fun v i wq=>∃ (j:Nat) (cl:Nat->Nat),j<=3/\v=.int .i64 j/\i=.int .i64 j/\Hid (Aw w wq g b C j cl)/\Hid (cl w6.heap.size=0/\wq.heap[w6.heap.size]?=some (.cells #[.int .i32 5,.int .i32 35,.int .i32 7] 21))) (fun _ i _=>3 - (intOf i).toNat)
 case atStart =>
  refine ⟨0,col,Nat.zero_le _,rfl,rfl,A6.out.keep (box_below _ _),?_,heap_alloc_new _ _⟩
  obtain ⟨_,_,_,_,_,_,_,_,h7,_⟩:=A6.out
  exact h7 _ (Nat.le_refl _)
 case round =>
  obtain ⟨j,cl,hj,rfl,rfl,AJ,SJ⟩:=hrel
  by_cases hlt:j<3
  ·have hS:Hid (∀ x,wr.heap.size<=x->cl x=0):=by
    obtain ⟨_,_,_,_,_,_,_,_,h7,_⟩:=AJ.out
    exact h7
   have slt:w6.heap.size<wr.heap.size:=(Array.getElem?_eq_some_iff.1 SJ.out.2).1
   have e0:wr.cell? ⟨w6.heap.size,0,none⟩=some (.int .i32 5):=cell_of_row _ _ _ _ _ _ SJ.out.2
   have e1:wr.cell? ⟨w6.heap.size,1,none⟩=some (.int .i32 35):=cell_of_row _ _ _ _ _ _ SJ.out.2
   have e2:wr.cell? ⟨w6.heap.size,2,none⟩=some (.int .i32 7):=cell_of_row _ _ _ _ _ _ SJ.out.2
   rcases (show j=0\/j=1\/j=2 by omega) with rfl | rfl | rfl
   all_goals
    go_wp2_with (go_at_call 20;refine (aw_put w g b C _ wr.heap.size _ _ _ _ _ _ cl _ (AJ.out.keep (four_boxes _ _ _ _ _)) hlt hS.out (four_rows wr _ _).1 (four_rows wr _ _).2 (by decide)).mono ?_;rintro e wz ⟨rfl,cz,az,hz⟩;have AZ:=Ca.hid az;have HZ:=Ca.hid (hz w6.heap.size (Nat.lt_of_lt_of_le slt (four_boxes wr _ _ _ _).size) SJ.out.1);clear az hz)
    go_roundw
    case rel=>exact ⟨_,cz,by decide,rfl,rfl,AZ.out,HZ.out.2,by rw [HZ.out.1,(four_boxes wr _ _ _ _).block _ slt];exact SJ.out.2⟩
    case measure=>simp [intOf]
  ·have ej:j=3:=by omega
   subst ej
   obtain ⟨R,M,L,hp,hc,h3,h4,h5,h6,h7,h8,h9,h10⟩:=id AJ.out
   have HP:=Ca.hid hp
   have HC:=Ca.hid hc
   have HL:=Ca.hid h4
   have H3:Hid (Po.cnt R=0):=h3
   have H5:Hid (Bk.len L 1=1):=h5
   have HF:=Ca.hid h6
   have BD:=Ca.hid hc.bd
   clear hp hc h3 h4 h5 h6 h7 h8 h9 h10 SJ A6
   go_wp2_with (first
    | (go_at_call 22;refine (view_c C 1 g b 1 1 1 2 0 0 0 0 1 aws R M L 3 0 (fun _=>awT 3) (fun _=>3 / 2) cl _ HP.out HC.out aws_ok (by decide) (by decide) rfl rfl (by decide) (awT_ok 3 (by decide)).2 HL.out).mono ?_;rintro e v1 ⟨x1,x2,xs,ys,rfl,tw,hb⟩;have tw:TwoN wr.heap.size v1 x1 x2 3 3 [[5],[35],[7]] [[-5],[-35],[-7]] xs ys:=(by rw [<-awk,<-awv];exact tw);obtain ⟨a1,c1,rfl,t1,-⟩:=tw.tbl;obtain ⟨a2,c2,rfl,t2,-⟩:=tw.swap.tbl;obtain ⟨b1,o1,A1,C1,rfl,u1,u2,-⟩:=t1 1 (by decide);obtain ⟨b2,o2,A2,C2,rfl,u3,u4,-⟩:=t2 2 (by decide);obtain ⟨b3,o3,rfl,u5⟩:=u2 0 (by decide);obtain ⟨b4,o4,rfl,u6⟩:=u4 0 (by decide);have K1:Hid (∀ v,Below v1.heap.size v1 v->v.cell? ⟨b1,o1+1,none⟩=some (.slice (some ⟨b3,o3,none⟩) 1 C1)/\v.cell? ⟨b2,o2+2,none⟩=some (.slice (some ⟨b4,o4,none⟩) 1 C2)/\v.cell? ⟨b3,o3,none⟩=some (.int .i32 35)/\v.cell? ⟨b4,o4,none⟩=some (.int .i32 (-7))):=(fun v hv=>⟨(hv.cell (p:=⟨b1,o1+1,none⟩) (World.block_lt_of_cell? v1 _ u1)).trans u1,(hv.cell (p:=⟨b2,o2+2,none⟩) (World.block_lt_of_cell? v1 _ u3)).trans u3,(hv.cell (p:=⟨b3,o3,none⟩) (World.block_lt_of_cell? v1 ⟨b3,o3+0,none⟩ u5)).trans u5,(hv.cell (p:=⟨b4,o4,none⟩) (World.block_lt_of_cell? v1 ⟨b4,o4+0,none⟩ u6)).trans u6⟩);have BV:=Ca.hid hb;have hs1:=hb.size;clear tw t1 t2 u1 u2 u3 u4 u5 u6 hb)
    | (go_at_call 26;refine (tokens_c C g 1 1 2 0 aws 3 0 _ (BD.out.keep BV.out) (by decide) (by decide)).mono ?_;rintro e v2 ⟨rfl,hx⟩;have BT:Hid (Below v1.heap.size v1 v2):=(by obtain ⟨nq,rfl⟩:=hx;exact Rt.below_drewN (Below.refl _ _) _);have BV2:Hid (Below wr.heap.size wr v2):=BV.out.trans (BT.out.mono hs1);have hs2:=BT.out.size;clear hx)
    | (go_at_call 33;refine (need_c C g 1 1 2 0 aws 3 0 1 true _ (BD.out.keep BV2.out) (by decide) (by decide) (by decide) (by decide) (by decide) (by decide) (by decide) (by decide) rfl).mono ?_;rintro e v3 ⟨rfl,hx⟩;have BT3:Hid (Below v1.heap.size v1 v3):=BT.out.trans (hx.mono hs2);have BV3:Hid (Below wr.heap.size wr v3):=BV.out.trans (BT3.out.mono hs1);have hs3:=BT3.out.size;clear hx)
    | (go_at_call 24;refine (pages_c C 1 g b 1 1 1 2 0 0 0 0 1 aws R M L 3 0 (fun _=>awT 3) (fun _=>3 / 2) cl _ (HP.out.keep BV3.out) (HC.out.below BV3.out) aws_ok (by decide) (by decide) rfl rfl (by decide) HL.out).mono ?_;rintro e v4 ⟨pv,rfl,ho,hx⟩;obtain ⟨pa,pc,rfl⟩:=Ca.own_slice ho;have BT4:Hid (Below v1.heap.size v1 v4):=BT3.out.trans (hx.mono hs3);have BV4:Hid (Below wr.heap.size wr v4):=BV.out.trans (BT4.out.mono hs1);obtain ⟨q1,q2,q3,q4⟩:=K1.out _ BT4.out;clear hx ho)
    | (go_at_call 29;refine (free_any g b 1 0 R M _ (HP.out.keep BV4.out) H3.out).mono ?_;rintro e w' ⟨rfl,hww⟩;cases hww.symm;clear hww)
    | (go_at_call 20;refine (put_full_c C g b 1 1 1 2 0 aws R M 3 0 _ _ 1 1 [[1]] [[1]] _ (HP.out.keep (BV4.out.trans ((four_boxes v4 _ _ _ _).mono BV4.out.size))) (BD.out.keep (BV4.out.trans ((four_boxes v4 _ _ _ _).mono BV4.out.size))) (by decide) (by decide) (by decide) (by decide) (by decide) (by decide) (by decide) (by decide) (four_rows v4 1 1).1.tbl (four_rows v4 1 1).2.tbl (by decide) (by decide) rfl rfl (by decide) (by rw [H3.out];decide)).mono ?_;rintro e v5 ⟨rfl,hx⟩;have BV5:Hid (Below wr.heap.size wr v5):=(BV4.out.trans ((four_boxes v4 _ _ _ _).mono BV4.out.size)).trans (hx.mono (by have:=BV4.out.size;have:=(four_boxes v4 (.cells #[.int .i32 1] 21) (.cells #[.slice (some ⟨v4.heap.size,0,none⟩) 1 1] 74) (.cells #[.int .i32 1] 21) (.cells #[.slice (some ⟨v4.heap.size+1+1,0,none⟩) 1 1] 74)).size;omega));clear hx))
   refine (cut_ok_c C 1 g b 1 1 1 2 0 2 aws R M L 3 (fun _=>awT 3) (fun _=>3 / 2) cl _ (HP.out.keep BV5.out) (HC.out.below BV5.out) aws_ok (by decide) (by decide) rfl (fun r hr=>⟨rfl,rfl⟩) (fun x hx=>HF.out x (by have:=BV5.out.size;omega)) (by decide)).mono ?_
   rintro e v6 ⟨rfl,hp6,hc6,hg6⟩
   have C6:=Ca.hid hc6
   have B6:=Ca.hid ((AJ.out.keep BV5.out).chg hg6)
   clear hp6 hc6 hg6
   go_wp2_with fail
   refine (cut_range_c C g 1 1 2 0 aws 2 1 _ C6.out.bd (by decide) (by decide) (by decide) (by decide) (by decide) (by decide) (.inr (.inr (by decide)))).mono ?_
   rintro e v7 ⟨rfl,hx⟩
   have B7:=Ca.hid hx
   have hs6:=B6.out.size
   have hs7:=hx.size
   clear hx
   go_wp2_with fail
   refine (slots_c C 1 g 1 1 2 0 1 aws M L (cn 1 2 0) _ _ cl _ (C6.out.below B7.out) (by decide) H5.out (by decide)).mono ?_
   rintro e v8 ⟨sa,sc,rfl,-,hx⟩
   have B8:=Ca.hid ((B6.out.trans (B7.out.mono hs6)).trans (hx.mono (by omega)))
   clear hx
   go_wp2_with fail
   go_ret
   exact ⟨rfl,B8.out⟩
end Cc
end Go.Proofs.YtnchnlgnnlgjcaaGreat
namespace Go.Proofs.YtnchnlgnnlgjcaaGreat
open Go.RowKit Go.ChangeShapes Go.WideShapes
namespace Cc
def IsPairs (w:World) (a:Option Addr) (len cap:Nat):Prop :=
 (a=none/\len=0/\cap=0) \/
 ∃ x,a=some x/\len<=cap/\cap<=maxLen/\∀ i,i<len->∃ k n:Int,w.cell? (x.add (i*2))=some (.int .i64 k)/\w.cell? (x.add (i*2+1))=some (.int .i64 n)
def IsOps (w:World) (a:Option Addr) (len cap:Nat):Prop :=
 (a=none/\len=0/\cap=0) \/
 ∃ x,a=some x/\len<=cap/\cap<=maxLen/\∀ i,i<len->∃ (k c l n:Int) (a1:Option Addr) (n1 c1:Nat) (a2:Option Addr) (n2 c2:Nat),w.cell? (x.add (i*6))=some (.int .i64 k)/\w.cell? (x.add (i*6+1))=some (.int .i64 c)/\w.cell? (x.add (i*6+2))=some (.int .i64 l) /\
   w.cell? (x.add (i*6+3))=some (.int .i64 n)/\w.cell? (x.add (i*6+4))=some (.slice a1 n1 c1)/\w.cell? (x.add (i*6+5))=some (.slice a2 n2 c2)/\IsTable w a1 n1 c1/\IsTable w a2 n2 c2
abbrev Rec:=Int × Int × Int × Int × (Option Addr × Nat) × (Option Addr × Nat) × List (List Int) × List (List Int)
def Op6 (B:Nat) (w:World) (b o i:Nat) (x:Rec):Prop :=
 (w.cell? ⟨b,o+i*6,none⟩=some (.int .i64 x.1)/\w.cell? ⟨b,o+i*6+1,none⟩=some (.int .i64 x.2.1)/\w.cell? ⟨b,o+i*6+2,none⟩=some (.int .i64 x.2.2.1)/\w.cell? ⟨b,o+i*6+3,none⟩=some (.int .i64 x.2.2.2.1) /\
   w.cell? ⟨b,o+i*6+4,none⟩=some (.slice x.2.2.2.2.1.1 x.2.2.2.2.2.2.1.length x.2.2.2.2.1.2)/\w.cell? ⟨b,o+i*6+5,none⟩=some (.slice x.2.2.2.2.2.1.1 x.2.2.2.2.2.2.2.length x.2.2.2.2.2.1.2)) /\
   SlQ (fun q=>q<B) 1 eRow w x.2.2.2.2.1.1 x.2.2.2.2.2.2.1/\SlQ (fun q=>q<B) 1 eRow w x.2.2.2.2.2.1.1 x.2.2.2.2.2.2.2/\(∀ k,Ls.In32 (Ca.nt x.2.2.2.2.2.2.1 k))/\∀ k,Ls.In32 (Ca.nt x.2.2.2.2.2.2.2 k)
def Ops (B:Nat) (w:World) (a:Option Addr) (n:Nat) (K:Nat->Rec):Prop:=∀ i,i<n->∃ b o,a=some ⟨b,o,none⟩/\b<B/\Op6 B w b o i (K i)
theorem Op6.keep {B b o i:Nat} {w w':World} {x:Rec} (h:Op6 B w b o i x) (hl:b<B) (hb:Below B w w'):Op6 B w' b o i x:=by
 obtain ⟨⟨h0,h1,h2,h3,h4,h5⟩,h6,h7,h8⟩:=h
 have e:=hb.block b hl
 have k:∀ {a:Option Addr} {l:List (List Int)},SlQ (fun q=>q<B) 1 eRow w a l->SlQ (fun q=>q<B) 1 eRow w' a l:=fun hs=>hs.carry carry_row (fun q _ hq=>⟨hq,hb.block q hq⟩) hb.size
 have c:∀ {j:Nat} {v:Value},w.cell? ⟨b,j,none⟩=some v->w'.cell? ⟨b,j,none⟩=some v:=fun {j} {v} hv=>(World.cell?_of_block (a:=⟨b,j,none⟩) e).trans hv
 exact ⟨⟨c h0,c h1,c h2,c h3,c h4,c h5⟩,k h6,k h7,h8⟩
theorem Ops.keep {B n:Nat} {w w':World} {a:Option Addr} {K:Nat->Rec} (h:Ops B w a n K) (hb:Below B w w'):Ops B w' a n K:=fun i hi=>by
 obtain ⟨b,o,e,hl,h6⟩:=h i hi
 exact ⟨b,o,e,hl,h6.keep hl hb⟩
theorem Ops.get {B n:Nat} {w:World} {a:Option Addr} {K:Nat->Rec} (h:Ops B w a n K) {i:Nat} (hi:i<n):∃ b o,a=some ⟨b,o,none⟩/\b<B/\∀ j,j<n->Op6 B w b o j (K j):=by
 obtain ⟨b,o,rfl,hl,_⟩:=h i hi
 refine ⟨b,o,rfl,hl,fun j hj=>?_⟩
 obtain ⟨b',o',e,_,h6⟩:=h j hj
 cases e
 exact h6
def PsB (B:Nat) (w:World) (a:Option Addr) (ls:List (Int × Int)):Prop:=Tn.Tr.Ps w a ls/\∀ x,a=some x->0<ls.length->x.block<B
theorem PsB.keep {B:Nat} {w w':World} {a:Option Addr} {ls:List (Int × Int)} (h:PsB B w a ls) (hb:Below B w w'):PsB B w' a ls:=by
 refine ⟨fun i hi=>?_,h.2⟩
 obtain ⟨b,o,e,h1,h2⟩:=h.1 i hi
 have eb:=hb.block b (h.2 _ e (by omega))
 exact ⟨b,o,e,(World.cell?_of_block (a:=⟨b,o+i*2,none⟩) eb).trans h1,(World.cell?_of_block (a:=⟨b,o+i*2+1,none⟩) eb).trans h2⟩
theorem nt_in32 {l:List (List Int)} (h:∀ k (hk:k<l.length),Ls.In32 l[k]) (k:Nat):Ls.In32 (Ca.nt l k):=by
 by_cases hk:k<l.length
 ·rw [Ca.nt_at hk];exact h k hk
 ·unfold Ca.nt
  rw [List.getD_eq_getElem?_getD,List.getElem?_eq_none (by omega)]
  exact Ls.in32_mk fun i hi=>by simp at hi
theorem slq_of_table {w:World} {a:Option Addr} {len cap:Nat} (h:IsTable w a len cap):∃ ks:List (List Int),ks.length=len/\SlQ (fun q=>q<w.heap.size) 1 eRow w a ks/\(∀ k,Ls.In32 (Ca.nt ks k))/\len<=maxLen:=by
 rcases h with ⟨rfl,rfl,rfl⟩ | ⟨x,A,L,C,Z,rfl,h1,h2,h3⟩
 ·exact ⟨[],rfl,SlQ.nil _ _ _ _ _,nt_in32 fun k hk=>by simp at hk,Nat.zero_le _⟩
 ·have hlen:∀ i,i<len->((Z i).take (L i)).length=L i:=fun i hi=>by
   obtain ⟨_,hl,_,hz,_⟩:=h3 i (by omega)
   rw [List.length_take,hz];omega
  refine ⟨(List.range len).map fun r=>(Z r).take (L r),by simp,fun i hi=>?_,nt_in32 fun k hk=>?_,by omega⟩
  ·have hi2:i<len:=by simpa using hi
   obtain ⟨hc,hl,hm,hz,_,hn,hcell⟩:=h3 i (by omega)
   have h0:=(h3 0 (by omega)).1
   have e0:x.add 0=x:=by simp [Addr.add]
   rw [e0] at h0
   obtain ⟨b,o,rfl⟩:=addr_plain h0
   rw [Addr.add_lit] at hc
   have eg:((List.range len).map fun r=>(Z r).take (L r))[i]=(Z i).take (L i):=by simp
   rw [eg]
   refine ⟨b,o,rfl,World.block_lt_of_cell? w _ h0,World.block_lt_of_cell? w _ h0,A i,C i,?_,by rw [hlen i hi2];exact hl,by rw [hlen i hi2];omega,hn,fun j hj=>?_⟩
   ·show w.cell? ⟨b,o+(i*1+0),none⟩=_
    rw [show o+(i*1+0)=o+i by omega,hlen i hi2]
    exact hc
   ·have hj2:j<L i:=by rw [hlen i hi2] at hj;exact hj
    cases hA:A i with
    | none=>have:=hn hA;omega
    | some a' =>
      have hcj:=hcell a' hA j (by omega)
      have hc0:=hcell a' hA 0 (by omega)
      have e1:a'.add 0=a':=by simp [Addr.add]
      rw [e1] at hc0
      obtain ⟨b',o',rfl⟩:=addr_plain hc0
      rw [Addr.add_lit] at hcj
      refine ⟨b',o',rfl,World.block_lt_of_cell? w _ hc0,World.block_lt_of_cell? w _ hc0,?_⟩
      show w.cell? ⟨b',o'+(j*1+0),none⟩=_
      rw [show o'+(j*1+0)=o'+j by omega,hcj]
      have:j<(Z i).length:=by omega
      simp [this]
  ·have hk2:k<len:=by simpa using hk
   have eg:((List.range len).map fun r=>(Z r).take (L r))[k]=(Z k).take (L k):=by simp
   rw [eg]
   obtain ⟨_,_,_,_,hw,_⟩:=h3 k (by omega)
   apply Ls.In32.take
   apply Ls.in32_mk
   intro j hj
   exact bounds_i32 (hw _ (Ls.nth_mem hj))
theorem ops_open {w:World} {a:Option Addr} {len cap:Nat} (h:IsOps w a len cap):∃ K:Nat->Rec,Ops w.heap.size w a len K/\len<=maxLen:=by
 rcases h with ⟨rfl,rfl,rfl⟩ | ⟨x,rfl,h1,h2,h3⟩
 ·exact ⟨fun _=>default,fun i hi=>by omega,Nat.zero_le _⟩
 ·have each:∀ i,i<len->∃ r:Rec,∃ b o,(some x:Option Addr)=some ⟨b,o,none⟩/\b<w.heap.size/\Op6 w.heap.size w b o i r:=by
   intro i hi
   have h0:∃ v,w.cell? x=some v:=by
    obtain ⟨k,_,_,_,_,_,_,_,_,_,q,_⟩:=h3 0 (by omega)
    have e0:x.add (0*6)=x:=by simp [Addr.add]
    rw [e0] at q
    exact ⟨_,q⟩
   obtain ⟨v,h0⟩:=h0
   obtain ⟨b,o,rfl⟩:=addr_plain h0
   obtain ⟨k,c,l,n,a1,n1,c1,a2,n2,c2,q0,q1,q2,q3,q4,q5,t1,t2⟩:=h3 i hi
   obtain ⟨ks,e1,s1,i1,_⟩:=slq_of_table t1
   obtain ⟨vs,e2,s2,i2,_⟩:=slq_of_table t2
   subst e1 e2
   rw [Addr.add_lit] at q0 q1 q2 q3 q4 q5
   refine ⟨(k,c,l,n,(a1,c1),(a2,c2),ks,vs),b,o,rfl,World.block_lt_of_cell? w _ h0,⟨q0,?_,?_,?_,?_,?_⟩,s1,s2,i1,i2⟩
   ·rw [Nat.add_assoc];exact q1
   ·rw [Nat.add_assoc];exact q2
   ·rw [Nat.add_assoc];exact q3
   ·rw [Nat.add_assoc];exact q4
   ·rw [Nat.add_assoc];exact q5
  obtain ⟨K,hK⟩:=Go.Deep.choose_lt each
  exact ⟨K,hK,by omega⟩
theorem bits_open {w:World} {a:Option Addr} {len cap:Nat} (h:IsPairs w a len cap):∃ ls:List (Int × Int),ls.length=len/\PsB w.heap.size w a ls/\len<=maxLen:=by
 rcases h with ⟨rfl,rfl,rfl⟩ | ⟨x,rfl,h1,h2,h3⟩
 ·exact ⟨[],rfl,⟨Tn.Tr.Ps.nil _ _,fun x e=>by cases e⟩,Nat.zero_le _⟩
 ·have each:∀ i,i<len->∃ q:Int × Int,w.cell? (x.add (i*2))=some (.int .i64 q.1)/\w.cell? (x.add (i*2+1))=some (.int .i64 q.2):=fun i hi=>by
   obtain ⟨k,n,h⟩:=h3 i hi
   exact ⟨(k,n),h⟩
  obtain ⟨f,hf⟩:=Go.Deep.choose_lt each
  have ef:∀ i,i<len->Tn.Tr.fst ((List.range len).map f) i=(f i).1/\Tn.Tr.snd ((List.range len).map f) i=(f i).2:=fun i hi=>by
   constructor
   ·rw [Tn.Tr.fst_of (by simpa using hi)];simp
   ·rw [Tn.Tr.snd_of (by simpa using hi)];simp
  have pl:∀ i,i<len->∃ b o,x=⟨b,o,none⟩/\b<w.heap.size:=fun i hi=>by
   have h0:=(hf 0 (by omega)).1
   have e0:x.add (0*2)=x:=by simp [Addr.add]
   rw [e0] at h0
   obtain ⟨b,o,rfl⟩:=addr_plain h0
   exact ⟨b,o,rfl,World.block_lt_of_cell? w _ h0⟩
  refine ⟨(List.range len).map f,by simp,⟨fun i hi=>?_,fun y e hl=>?_⟩,by omega⟩
  ·have hi2:i<len:=by simpa using hi
   obtain ⟨b,o,rfl,_⟩:=pl i hi2
   obtain ⟨q0,q1⟩:=hf i hi2
   rw [Addr.add_lit] at q0 q1
   refine ⟨b,o,rfl,by rw [(ef i hi2).1];exact q0,by rw [(ef i hi2).2,Nat.add_assoc];exact q1⟩
  ·cases e
   obtain ⟨b,o,rfl,h⟩:=pl 0 (by simpa using hl)
   exact h
theorem pairs_in {H:Type} {enc:TypeId × Value->H} {w:World} {fuel:Nat} {v:Value} {x:DataW H × List MemPlace}
 (h:DataW.trod enc Tryz.prog w 0 (fun _=>true) true fuel 22 [v]=some x):∃ a len cap,v=.slice a len cap/\IsPairs w a len cap:=by
 rcases Go.Deep.open_slice_pairs Tryz.underlying22 Tryz.underlying77 (by kernel_rfl) rfl rfl (by kernel_rfl) (by kernel_rfl) h with ⟨hcs,_⟩ | ⟨x,l,c,m,n,V0,V1,D0,D1,P0,P1,hcs,_,hl,hm,hmm,_,hall⟩
 ·simp only [List.cons.injEq,and_true] at hcs
  exact ⟨none,0,0,hcs,.inl ⟨rfl,rfl,rfl⟩⟩
 ·simp only [List.cons.injEq,and_true] at hcs
  simp only [if_true] at hmm
  refine ⟨some x,l,c,hcs,.inr ⟨x,rfl,hl,hm,fun i hi=>?_⟩⟩
  obtain ⟨q1,q2,q3,q4⟩:=hall i (by omega)
  obtain ⟨k,e1,_,_⟩:=DataW.trod_int Tryz.underlying3 q3
  obtain ⟨n',e2,_,hw⟩:=DataW.trod_int Tryz.underlying3 q4
  simp only [List.cons.injEq,and_true] at e1 e2
  rw [e1] at q1
  rw [e2] at q2
  exact ⟨k,n',q1,q2⟩
theorem table_in {H:Type} {enc:TypeId × Value->H} {w:World} {fuel:Nat} {v:Value} {x:DataW H × List MemPlace}
 (h:DataW.trod enc Tryz.prog w 0 (fun _=>true) true fuel 42 [v]=some x):∃ a len cap,v=.slice a len cap/\IsTable w a len cap:=by
 rcases Go.Deep.open_int_rows Tryz.underlying42 Tryz.underlying74 Tryz.underlying21 (by kernel_rfl) (by kernel_rfl) h with ⟨hcs,_⟩ | ⟨x,l,c,A,L,C,Z,hcs,_,hl,hm,_,hr⟩
 ·simp only [List.cons.injEq,and_true] at hcs
  exact ⟨none,0,0,hcs,.inl ⟨rfl,rfl,rfl⟩⟩
 ·simp only [List.cons.injEq,and_true] at hcs
  refine ⟨some x,l,c,hcs,.inr ⟨x,A,L,C,Z,rfl,hl,hm,fun r hr'=>?_⟩⟩
  obtain ⟨q1,q2,q3,q4,q5,q6,q7⟩:=hr r hr'
  exact ⟨q1,q2,q3,q4,q5,q6,fun a' ha=>(q7 a' ha).2⟩
set_option maxRecDepth 100000 in
theorem ops_in {H:Type} {enc:TypeId × Value->H} {w:World} {fuel:Nat} {v:Value} {x:DataW H × List MemPlace}
 (h:DataW.trod enc Tryz.prog w 0 (fun _=>true) true fuel 27 [v]=some x):∃ a len cap,v=.slice a len cap/\IsOps w a len cap:=by
 rcases Go.Deep.open_slice Tryz.underlying27 h with ⟨h0,_⟩ | ⟨y,l,c,m,n,D,Pl,hcs,hb,hl,hm,hmm,_,hall⟩
 ·simp only [List.cons.injEq,and_true] at h0
  exact ⟨none,0,0,h0,.inl ⟨rfl,rfl,rfl⟩⟩
 ·simp only [List.cons.injEq,and_true] at hcs
  refine ⟨some y,l,c,hcs,.inr ⟨y,rfl,hl,hm,fun i hi'=>?_⟩⟩
  have hlm:l<=m:=by rw [hmm];split <;> omega
  obtain ⟨cs,h1,h2⟩:=hall i (by omega)
  have ce:Tryz.prog.cellsOf 44=6:=by kernel_rfl
  have ci:Tryz.prog.cellsOf 3=1:=by kernel_rfl
  have ct:Tryz.prog.cellsOf 42=1:=by kernel_rfl
  rw [ce] at h1
  obtain ⟨_,hlen,hcell⟩:=World.cells?_some h1
  obtain ⟨xs,k,hk,hxy,_,hxl,hf⟩:=DataW.trod_struct Tryz.underlying44 h2
  match xs,hxl,cs,hlen with
  | [y0,y1,y2,y3,y4,y5],_,[v0,v1,v2,v3,v4,v5],_ =>
    have g0:=hf 0 _ rfl
    have g1:=hf 1 _ rfl
    have g2:=hf 2 _ rfl
    have g3:=hf 3 _ rfl
    have g4:=hf 4 _ rfl
    have g5:=hf 5 _ rfl
    simp [ci,ct] at g0 g1 g2 g3 g4 g5
    have e0:=hcell 0 (by omega)
    have e1:=hcell 1 (by omega)
    have e2:=hcell 2 (by omega)
    have e3:=hcell 3 (by omega)
    have e4:=hcell 4 (by omega)
    have e5:=hcell 5 (by omega)
    rw [Go.Deep.add_add] at e0 e1 e2 e3 e4 e5
    obtain ⟨k0,q0,_,_⟩:=DataW.trod_int Tryz.underlying3 g0
    obtain ⟨k1,q1,_,_⟩:=DataW.trod_int Tryz.underlying3 g1
    obtain ⟨k2,q2,_,_⟩:=DataW.trod_int Tryz.underlying3 g2
    obtain ⟨k3,q3,_,_⟩:=DataW.trod_int Tryz.underlying3 g3
    obtain ⟨a1,n1,c1,q4,t4⟩:=table_in g4
    obtain ⟨a2,n2,c2,q5,t5⟩:=table_in g5
    simp only [List.cons.injEq,and_true] at q0 q1 q2 q3
    subst q0 q1 q2 q3 q4 q5
    exact ⟨k0,k1,k2,k3,a1,n1,c1,a2,n2,c2,by simpa using e0,by simpa using e1,by simpa using e2,by simpa using e3,by simpa using e4,by simpa using e5,t4,t5⟩
end Cc
end Go.Proofs.YtnchnlgnnlgjcaaGreat
namespace Go.Proofs.YtnchnlgnnlgjcaaGreat
open Go.RowKit
namespace Cc
def Lay (T:List (List Tok)) (nl t k:Nat):Prop:=T.length=nl/\k<nl/\∀ i,i<nl->(Ca.nt T i).length=lv t k i
def OkD (H D:Nat) (T:List (List Tok)):Prop:=∀ i (j:Nat) (h:j<(Ca.nt T i).length),TokOk H D (Ca.nt T i)[j]
theorem Lay.toks {T:List (List Tok)} {nl t k:Nat} (h:Lay T nl t k):Ca.toks T=t:=by
 obtain ⟨h1,h2,h3⟩:=h
 have a:=Ca.toks_le (M:=T) (j:=k) (by omega)
 rw [h3 k h2] at a
 have e:lv t k k=t:=by unfold lv;rw [if_neg (by omega)]
 rw [e] at a
 obtain ⟨j,hj,ej⟩:=Ca.toks_is (M:=T) (by omega)
 rw [h3 j (by omega)] at ej
 have:=lv_le t k j
 omega
theorem Lay.nxt {T:List (List Tok)} {nl t k:Nat} (h:Lay T nl t k):Ca.nxt T=k:=by
 have ht:=h.toks
 obtain ⟨h1,h2,h3⟩:=h
 refine Ca.nxt_of (by omega) (fun j hj e=>?_) ?_
 ·rw [h3 j (by omega),ht] at e
  unfold lv at e
  rw [if_pos hj] at e
  omega
 ·rw [h3 k h2,ht]
  unfold lv
  rw [if_neg (by omega)]
theorem nt_set {α:Type} {l:List (List α)} {k i:Nat} (hk:k<l.length) (y:List α):Ca.nt (l.set k y) i=if i=k then y else Ca.nt l i:=by
 unfold Ca.nt
 rw [List.getD_eq_getElem?_getD,List.getD_eq_getElem?_getD,List.getElem?_set]
 by_cases e:i=k
 ·subst e;rw [if_pos rfl,if_pos hk,if_pos rfl];rfl
 ·rw [if_neg (fun q=>e q.symm),if_neg e]
def layN (nl k:Nat):Nat:=if k+1=nl then 0 else k+1
def layT (nl t k:Nat):Nat:=if k+1=nl then t+1 else t
theorem Lay.put {T:List (List Tok)} {nl t k:Nat} (h:Lay T nl t k) (tok:Tok):Lay (T.set k (Ca.nt T k ++ [tok])) nl (layT nl t k) (layN nl k):=by
 obtain ⟨h1,h2,h3⟩:=h
 refine ⟨by simp [h1],by unfold layN;split <;> omega,fun i hi=>?_⟩
 rw [nt_set (by omega)]
 by_cases e:i=k
 ·subst e
  rw [if_pos rfl,List.length_append,h3 i h2]
  unfold lv layT layN
  by_cases q:i+1=nl
  ·rw [if_pos q,if_pos q,if_neg (by omega),if_neg (by omega)];rfl
  ·rw [if_neg q,if_neg q,if_neg (by omega),if_pos (by omega)];rfl
 ·rw [if_neg e,h3 i hi]
  unfold lv layT layN
  by_cases q:k+1=nl
  ·rw [if_pos q,if_pos q,if_pos (by omega),if_neg (by omega)]
  ·rw [if_neg q,if_neg q]
   by_cases q2:i<k
   ·rw [if_pos q2,if_pos (by omega)]
   ·rw [if_neg q2,if_neg (by omega)]
theorem nc_lay (nl t k:Nat):nc nl t k=cn nl (layT nl t k) (layN nl k):=by
 unfold nc layT layN
 split <;> rfl
theorem OkD.put {H D:Nat} {T:List (List Tok)} (h:OkD H D T) {k:Nat} (hk:k<T.length) {tok:Tok} (ht:TokOk H D tok):OkD H D (T.set k (Ca.nt T k ++ [tok])):=fun i j hj=>by
 have e:=nt_set (i:=i) hk (Ca.nt T k ++ [tok])
 have key:∀ l:List Tok,l=(if i=k then Ca.nt T k ++ [tok] else Ca.nt T i)->∀ hj:j<l.length,TokOk H D l[j]:=fun l hl hj=>by
  by_cases q:i=k
  ·rw [if_pos q] at hl
   subst hl
   by_cases q2:j<(Ca.nt T k).length
   ·rw [List.getElem_append_left q2];exact h k j q2
   ·rw [List.getElem_append_right (by omega)]
    have:j - (Ca.nt T k).length=0:=by rw [List.length_append] at hj;simp at hj;omega
    simpa [this] using ht
  ·rw [if_neg q] at hl
   subst hl
   exact h i j hj
 exact key _ e hj
def tkD (T:List (List Tok)) (H r:Nat):List Tok:=Ca.nt T (r / H)
def qD (G W:Nat) (T:List (List Tok)) (H r:Nat):Nat:=gn G W (Ca.nt T (r / H)).length
theorem tkD_put {T:List (List Tok)} {H k:Nat} (hH:0<H) (hk:k<T.length) (tok:Tok) (r:Nat):tkj (tkD T H) tok H k H r=tkD (T.set k (Ca.nt T k ++ [tok])) H r:=by
 rw [tkj_all _ _ hH]
 show (if r / H=k then Ca.nt T (r / H) ++ [tok] else Ca.nt T (r / H))=Ca.nt (T.set k (Ca.nt T k ++ [tok])) (r / H)
 rw [nt_set hk]
 by_cases e:r / H=k
 ·rw [if_pos e,if_pos e,e]
 ·rw [if_neg e,if_neg e]
theorem qD_put {G W t:Nat} {T:List (List Tok)} {H k nl:Nat} (hH:0<H) (h:Lay T nl t k) (tok:Tok) (r:Nat):qj (qD G W T H) (gn G W (t+1)) H k H r=qD G W (T.set k (Ca.nt T k ++ [tok])) H r:=by
 rw [qj_all _ _ hH]
 show (if r / H=k then gn G W (t+1) else gn G W (Ca.nt T (r / H)).length)=gn G W (Ca.nt (T.set k (Ca.nt T k ++ [tok])) (r / H)).length
 rw [nt_set (by rw [h.1];exact h.2.1)]
 by_cases e:r / H=k
 ·rw [if_pos e,if_pos e,List.length_append,h.2.2 k h.2.1]
  unfold lv
  rw [if_neg (by omega)]
  rfl
 ·rw [if_neg e,if_neg e]
theorem row_lt {r H nl:Nat} (h:r<nl*H):r / H<nl:=Nat.div_lt_of_lt_mul (by rw [Nat.mul_comm];exact h)
def plb (g H D G W:Nat) (vl va vr:Value) (i:Nat):Value :=
 if i=0 then .pointer (some ⟨g,0,none⟩) else if i=1 then .int .i64 H else if i=2 then .int .i64 D else if i=3 then .int .i64 G else if i=4 then .int .i64 W else if i=5 then vl else if i=6 then va else vr
end Cc
end Go.Proofs.YtnchnlgnnlgjcaaGreat
namespace Go.Proofs.YtnchnlgnnlgjcaaGreat
open Go.RowKit
namespace Cc
def few (x:Rec):Bool:=decide (x.2.2.2.2.2.2.1.length<=10) && decide (x.2.2.2.2.2.2.2.length<=10)
def smallB (K:Nat->Rec) (len nl:Nat) (n:Int):Bool:=(List.range len).all (fun i=>few (K i)) && (decide (len<=80) && (decide (0<=n) && (decide (n<=60) && decide (nl<=10))))
theorem smallB_no {K:Nat->Rec} {len nl:Nat} {n:Int} {i:Nat} (hi:i<len) (h:few (K i)=false):smallB K len nl n=false:=by
 unfold smallB
 have:(List.range len).all (fun i=>few (K i))=false:=by
  rw [List.all_eq_false]
  exact ⟨i,by simpa using hi,by simp [h]⟩
 rw [this,Bool.false_and]
theorem smallB_yes {K:Nat->Rec} {len nl:Nat} {n:Int} (h:∀ i,i<len->few (K i)=true):smallB K len nl n=(decide (len<=80) && (decide (0<=n) && (decide (n<=60) && decide (nl<=10)))):=by
 unfold smallB
 have:(List.range len).all (fun i=>few (K i))=true:=by
  rw [List.all_eq_true]
  exact fun i hi=>h i (by simpa using hi)
 rw [this,Bool.true_and]
theorem smallB_true {K:Nat->Rec} {len nl:Nat} {n:Int} (h:smallB K len nl n=true):(∀ i,i<len->(K i).2.2.2.2.2.2.1.length<=10/\(K i).2.2.2.2.2.2.2.length<=10)/\len<=80/\0<=n/\n<=60/\nl<=10:=by
 unfold smallB few at h
 simp only [Bool.and_eq_true,List.all_eq_true,decide_eq_true_iff,List.mem_range] at h
 exact h
set_option maxRecDepth 100000 in
set_option maxHeartbeats 3200000 in
theorem small_any (B:Nat) (n H D G W:Int) (al:Option Addr) (cl nl:Nat) (ao:Option Addr) (len co:Nat) (K:Nat->Rec) (q:Bool) (w:World) (h:Ops B w ao len K) (hB:B<=w.heap.size) (hl:len<=maxLen) (hq:smallB K len nl n=q) :
 Calls Tryz.prog 8 #[.agg #[.int .i64 n,.int .i64 H,.int .i64 D,.int .i64 G,.int .i64 W,.slice al nl cl,.slice ao len co]] w fun e w'=>e=.returned (.bool q)/\Below w.heap.size w w':=by
 have HO:=Ca.hid h
 have HQ:=Ca.hid hq
 have HB:Hid (Below w.heap.size w (w.alloc (.cells #[.int .i64 n,.int .i64 H,.int .i64 D,.int .i64 G,.int .i64 W,.slice al nl cl,.slice ao len co] 29))):=box_below _ _
 have hm:(len:Int)<=9223372036854775807:=by unfold maxLen at hl;omega
 clear h hq hl
 go_enter Tryz.func8,Tryz.ntmps8
 go_wp2
 obtain ⟨w0,hw0⟩:∃ w0,w.alloc (.cells #[.int .i64 n,.int .i64 H,.int .i64 D,.int .i64 G,.int .i64 W,.slice al nl cl,.slice ao len co] 29)=w0:=⟨_,rfl⟩
 have k0:Hid (∀ v,Below (w.heap.size+1) w0 v->v.cell? ⟨w.heap.size,0,none⟩=some (.int .i64 n)/\v.cell? ⟨w.heap.size,5,none⟩=some (.slice al nl cl)/\v.cell? ⟨w.heap.size,6,none⟩=some (.slice ao len co)):=fun v hv=>by
  have e:v.heap[w.heap.size]?=some (.cells #[.int .i64 n,.int .i64 H,.int .i64 D,.int .i64 G,.int .i64 W,.slice al nl cl,.slice ao len co] 29):=by
   rw [hv.block _ (Nat.lt_succ_self _),<-hw0];exact heap_alloc_new w _
  exact ⟨cell_of_row _ _ _ _ _ _ e,cell_of_row _ _ _ _ _ _ e,cell_of_row _ _ _ _ _ _ e⟩
 have s0:w0.heap.size=w.heap.size+1:=by rw [<-hw0];simp
 have HB0:Hid (Below w.heap.size w w0):=by rw [<-hw0];exact HB.out
 rw [hw0]
 clear hw0 HB
 go_loopw [8] (fun i wq=>∃ j:Nat,j<=len/\i=.int .i64 j/\Hid (∀ i,i<j->few (K i)=true)/\Hid (Below (w.heap.size+1) w0 wq)) (fun i _=>len - (intOf i).toNat)
 case atStart=>exact ⟨0,Nat.zero_le _,rfl,fun i hi=>by omega,Below.refl _ _⟩
 case round =>
  obtain ⟨j,hj,rfl,FW,BW⟩:=hrel
  have BB:Hid (Below w.heap.size w wr):=HB0.out.trans (BW.out.mono (by omega))
  obtain ⟨k1,k2,k3⟩:=k0.out _ BW.out
  have hsr:w.heap.size+1<=wr.heap.size:=by have:=BW.out.size;omega
  by_cases hlt:j<len
  ·obtain ⟨b,o,rfl,hb,h6⟩:=(HO.out.keep (BB.out.mono hB)).get hlt
   obtain ⟨⟨q0,q1,q2,q3,q4,q5⟩,-⟩:=h6 j hlt
   obtain ⟨x0,ex0⟩:∃ z,(K j).1=z:=⟨_,rfl⟩
   obtain ⟨x1,ex1⟩:∃ z,(K j).2.1=z:=⟨_,rfl⟩
   obtain ⟨x2,ex2⟩:∃ z,(K j).2.2.1=z:=⟨_,rfl⟩
   obtain ⟨x3,ex3⟩:∃ z,(K j).2.2.2.1=z:=⟨_,rfl⟩
   obtain ⟨n1,en1⟩:∃ z,(K j).2.2.2.2.2.2.1.length=z:=⟨_,rfl⟩
   obtain ⟨n2,en2⟩:∃ z,(K j).2.2.2.2.2.2.2.length=z:=⟨_,rfl⟩
   obtain ⟨⟨p1,d1⟩,ep1⟩:∃ z,(K j).2.2.2.2.1=z:=⟨_,rfl⟩
   obtain ⟨⟨p2,d2⟩,ep2⟩:∃ z,(K j).2.2.2.2.2.1=z:=⟨_,rfl⟩
   rw [ex0] at q0
   rw [ex1] at q1
   rw [ex2] at q2
   rw [ex3] at q3
   rw [en1,ep1] at q4
   rw [en2,ep2] at q5
   have EF:Hid (few (K j)=(decide (n1<=10) && decide (n2<=10))):=by show _=_;unfold few;rw [en1,en2]
   clear ex0 ex1 ex2 ex3 en1 en2 ep1 ep2 h6 k1 k2
   have e0:(0:Int)<=(j:Int):=by omega
   have e1:(j:Int)<(len:Int):=by omega
   by_cases c1:(n1:Int)<=10
   ·have c1':¬ (10:Int)<n1:=by omega
    by_cases c2:(n2:Int)<=10
    ·have c2':¬ (10:Int)<n2:=by omega
     go_wp2
     go_roundw
     case rel =>
      refine ⟨j+1,by omega,by go_num,fun i hi=>?_,BW.out.trans ((box_below wr _).mono hsr)⟩
      by_cases e:i=j
      ·rw [e,EF.out,decide_eq_true (by omega:n1<=10),decide_eq_true (by omega:n2<=10)];rfl
      ·exact FW.out i (by omega)
     case measure=>simp [intOf];omega
    ·have c2':(10:Int)<n2:=by omega
     go_wp2
     go_ret
     refine ⟨?_,BB.out.trans ((box_below wr _).mono (by omega))⟩
     rw [<-HQ.out,smallB_no hlt (by rw [EF.out,decide_eq_false (by omega:¬ n2<=10),Bool.and_false])]
     rfl
   ·have c1':(10:Int)<n1:=by omega
    go_wp2
    go_ret
    refine ⟨?_,BB.out.trans ((box_below wr _).mono (by omega))⟩
    rw [<-HQ.out,smallB_no hlt (by rw [EF.out,decide_eq_false (by omega:¬ n1<=10),Bool.false_and])]
    rfl
  ·have ej:j=len:=by omega
   subst ej
   have hq2:=smallB_yes (nl:=nl) (n:=n) FW.out
   have Q2:Hid ((decide (j<=80) && (decide (0<=n) && (decide (n<=60) && decide (nl<=10))))=q):=by show _=_;rw [<-hq2];exact HQ.out
   clear hq2
   by_cases c1:(j:Int)<=80
   ·by_cases c2:(0:Int)<=n
    ·by_cases c3:n<=60
     ·by_cases c4:(nl:Int)<=10
      ·go_wp2
       go_ret
       refine ⟨?_,BB.out⟩
       rw [<-Q2.out,decide_eq_true (by omega:j<=80),decide_eq_true c2,decide_eq_true c3,decide_eq_true (by omega:nl<=10)]
       simp
      ·go_wp2
       go_ret
       refine ⟨?_,BB.out⟩
       rw [<-Q2.out,decide_eq_true (by omega:j<=80),decide_eq_true c2,decide_eq_true c3,decide_eq_false (by omega:¬ nl<=10)]
       simp
     ·go_wp2
      go_ret
      refine ⟨?_,BB.out⟩
      rw [<-Q2.out,decide_eq_true (by omega:j<=80),decide_eq_true c2,decide_eq_false (by omega:¬ n<=60)]
      simp
    ·go_wp2
     go_ret
     refine ⟨?_,BB.out⟩
     rw [<-Q2.out,decide_eq_true (by omega:j<=80),decide_eq_false (by omega:¬ 0<=n)]
     simp
   ·go_wp2
    go_ret
    refine ⟨?_,BB.out⟩
    rw [<-Q2.out,decide_eq_false (by omega:¬ j<=80)]
    simp
end Cc
end Go.Proofs.YtnchnlgnnlgjcaaGreat
namespace Go.Proofs.YtnchnlgnnlgjcaaGreat
open Go.RowKit
namespace Cc
def Begun (w v:World) (P g b C vb vr z:Nat) (a3:Option Addr) (c3 n H D G W:Nat) (ls:List (Int × Int)) (col:Nat->Nat):Prop :=
 (v.rowIs P 50 8 (plb g H D G W (.slice a3 ls.length c3) (.slice (some ⟨vb,0,none⟩) 1 1) (.slice (some ⟨vr,0,none⟩) 1 1))/\col P=1000)/\(Boxed v vb 55 (.pointer (some ⟨C,0,none⟩))/\col vb=1000) /\
   (Boxed v vr 59 (.slice (some ⟨z,0,none⟩) ls.length ls.length)/\col vr=1000)/\(v.rowIs z 60 ls.length (fun _=>.slice none 0 0)/\col z=0)/\PsZ col v a3 ls/\PoolAt v g b n (Po.zeros n) (Po.zeros n) /\
   CaAt v col 1 g C H D G W ls (Po.zeros n) (fun _=>[]) (cn ls.length 0 0) (fun _=>[]) (fun _=>0)/\((∀ x,v.heap.size<=x->col x=0)/\(∀ x,x<w.heap.size->col x=0)/\col g=1000/\col b=1000)/\Below w.heap.size w v/\w.heap.size<=vb/\w.heap.size<=vr
theorem five (u:World) (o1 o2 o3 o4 o5:Obj):((((((u.alloc o1).alloc o2).alloc o3).alloc o4).alloc o5).drew.heap[u.heap.size+1]?=some o2/\(((((u.alloc o1).alloc o2).alloc o3).alloc o4).alloc o5).drew.heap[u.heap.size+1+1]?=some o3/\(((((u.alloc o1).alloc o2).alloc o3).alloc o4).alloc o5).drew.heap[u.heap.size+1+1+1]?=some o4 /\
 (((((u.alloc o1).alloc o2).alloc o3).alloc o4).alloc o5).drew.heap[u.heap.size+1+1+1+1]?=some o5/\Below u.heap.size u (((((u.alloc o1).alloc o2).alloc o3).alloc o4).alloc o5).drew/\(((((u.alloc o1).alloc o2).alloc o3).alloc o4).alloc o5).drew.heap.size=u.heap.size+5):=by
 have old:∀ (v:World) (o:Obj) (k:Nat),k<v.heap.size->(v.alloc o).heap[k]?=v.heap[k]?:=fun v o k h=>Below.heap_alloc v o k h
 have new:∀ (v:World) (o:Obj) (k:Nat),v.heap.size=k->(v.alloc o).heap[k]?=some o:=fun v o k h=>by rw [<-h];exact heap_alloc_new v o
 refine ⟨?_,?_,?_,?_,((four_boxes u o1 o2 o3 o4).alloc (by simp <;> omega) o5).drew,by simp⟩
 ·show (((((u.alloc o1).alloc o2).alloc o3).alloc o4).alloc o5).heap[u.heap.size+1]?=_
  rw [old _ _ _ (by simp <;> omega),old _ _ _ (by simp <;> omega),old _ _ _ (by simp)]
  exact new _ _ _ (by simp)
 ·show (((((u.alloc o1).alloc o2).alloc o3).alloc o4).alloc o5).heap[u.heap.size+1+1]?=_
  rw [old _ _ _ (by simp <;> omega),old _ _ _ (by simp)]
  exact new _ _ _ (by simp)
 ·show (((((u.alloc o1).alloc o2).alloc o3).alloc o4).alloc o5).heap[u.heap.size+1+1+1]?=_
  rw [old _ _ _ (by simp)]
  exact new _ _ _ (by simp)
 ·exact new _ _ _ (by simp)
theorem begun_close {w w1 w2 w3 v:World} {P g b C vb vr z n H D G W:Nat} {a3:Option Addr} {c3:Nat} {ls:List (Int × Int)} {col:Nat->Nat} (hp:PoolAt w1 g b n (Po.zeros n) (Po.zeros n)) (hg:w.heap.size+1<=g/\w.heap.size+1<=b) (b1:Below w.heap.size w w1) (b2:Below w1.heap.size w1 w2) (b3:Below w2.heap.size w2 w3) (b4:Below w3.heap.size w3 v)
 (hc:CaAt w2 col 1 g C H D G W ls (Po.zeros n) (fun _=>[]) (cn ls.length 0 0) (fun _=>[]) (fun _=>0)) (hx:(∀ x,x<w1.heap.size->col x=awc g b x)/\(∀ x,w1.heap.size<=x->col x=0\/col x=1)/\∀ x,w2.heap.size<=x->col x=0) (hps:Tn.Tr.Ps w3 a3 ls) (hnew:∀ x,a3=some x->w2.heap.size<=x.block) (h0:0<ls.length)
 (e1:v.heap[P]?=some (.cells #[.pointer (some ⟨g,0,none⟩),.int .i64 H,.int .i64 D,.int .i64 G,.int .i64 W,.slice a3 ls.length c3,.slice (some ⟨vb,0,none⟩) 1 1,.slice (some ⟨vr,0,none⟩) 1 1] 50))
 (e2:v.heap[vb]?=some (.cells #[.pointer (some ⟨C,0,none⟩)] 55)) (e3:v.heap[vr]?=some (.cells #[.slice (some ⟨z,0,none⟩) ls.length ls.length] 59)) (e4:v.heap[z]?=some (.cells (madeCells #[.slice none 0 0] ls.length) 60))
 (l1:w3.heap.size<=P) (l2:w3.heap.size<=vb) (l3:w3.heap.size<=vr) (l4:w3.heap.size<=z):Begun w v P g b C vb vr z a3 c3 n H D G W ls (fun x=>if x=P\/x=vb\/x=vr then 1000 else col x):=by
 have s1:=b1.size
 have s2:=b2.size
 have s3:=b3.size
 have s4:=b4.size
 have lt:∀ {q:Nat} {o:Obj},v.heap[q]?=some o->q<v.heap.size:=fun h=>(Array.getElem?_eq_some_iff.1 h).1
 have old:∀ x,x<w3.heap.size->(if x=P\/x=vb\/x=vr then 1000 else col x)=col x:=fun x hx=>if_neg (by omega)
 have lg:=hp.lt
 have zP:¬ z=P:=fun e=>by rw [e,e1] at e4;injection e4 with e4;injection e4 with _ e5;exact absurd e5 (by decide)
 have zb:¬ z=vb:=fun e=>by rw [e,e2] at e4;injection e4 with e4;injection e4 with _ e5;exact absurd e5 (by decide)
 have zr:¬ z=vr:=fun e=>by rw [e,e3] at e4;injection e4 with e4;injection e4 with _ e5;exact absurd e5 (by decide)
 have bw:=b2.trans (b3.mono s2) |>.trans (b4.mono (by omega))
 have hP:v.rowIs P 50 8 (plb g H D G W (.slice a3 ls.length c3) (.slice (some ⟨vb,0,none⟩) 1 1) (.slice (some ⟨vr,0,none⟩) 1 1)):=⟨_,e1,rfl,fun i hi=>by match i,hi with | 0,_=>rfl | 1,_=>rfl | 2,_=>rfl | 3,_=>rfl | 4,_=>rfl | 5,_=>rfl | 6,_=>rfl | 7,_=>rfl⟩
 have hz:v.rowIs z 60 ls.length (fun _=>.slice none 0 0):=⟨_,e4,size_madeCells _ _,fun i hi=>by simp [madeCells,hi,Nat.mod_one]⟩
 have cz:(if z=P\/z=vb\/z=vr then 1000 else col z)=0:=by rw [if_neg (by omega)];exact hx.2.2 z (by omega)
 have hP3:PsZ (fun x=>if x=P\/x=vb\/x=vr then 1000 else col x) v a3 ls:=⟨hps.keep b4,fun x ex=>by
  obtain ⟨b',o',e,hc0,_⟩:=hps 0 h0
  rw [ex] at e
  cases e
  have l:=World.block_lt_of_cell? w3 _ hc0
  have l:b'<w3.heap.size:=l
  have n:=hnew _ ex
  have n:w2.heap.size<=b':=n
  refine ⟨by show b'<_;omega,?_⟩
  show (if b'=P\/b'=vb\/b'=vr then 1000 else col b')=0
  rw [old b' l]
  exact hx.2.2 b' n⟩
 have hCv:CaAt v (fun x=>if x=P\/x=vb\/x=vr then 1000 else col x) 1 g C H D G W ls (Po.zeros n) (fun _=>[]) (cn ls.length 0 0) (fun _=>[]) (fun _=>0):=hc.carry (fun x hx0 _=>⟨old x (by omega),(b3.trans (b4.mono s3)).block x hx0⟩) (by omega) (fun _ _ _ _=>rfl)
 have ag:∀ x,x<w1.heap.size->(if x=P\/x=vb\/x=vr then 1000 else col x)=awc g b x:=fun x hx0=>by rw [old x (by omega)];exact hx.1 x hx0
 exact ⟨⟨hP,if_pos (.inl rfl)⟩,⟨e2,if_pos (.inr (.inl rfl))⟩,⟨e3,if_pos (.inr (.inr rfl))⟩,⟨hz,cz⟩,hP3,hp.keep bw,hCv,⟨fun x hx0=>by
  have p1:=lt e1
  have p2:=lt e2
  have p3:=lt e3
  show (if x=P\/x=vb\/x=vr then 1000 else col x)=0
  rw [if_neg (by omega)]
  exact hx.2.2 x (by omega),fun x hx0=>by
  show (if x=P\/x=vb\/x=vr then 1000 else col x)=0
  rw [ag x (by omega)];unfold awc;rw [if_neg (by omega)],(ag g lg.1).trans (by unfold awc;rw [if_pos (.inl rfl)]),(ag b lg.2).trans (by unfold awc;rw [if_pos (.inr rfl)])⟩,b1.trans (bw.mono s1),by omega,by omega⟩
set_option maxRecDepth 100000 in
set_option maxHeartbeats 6400000 in
theorem begun_ok (n H D G W:Nat) (al:Option Addr) (cl:Nat) (ls:List (Int × Int)) (ao:Option Addr) (len co:Nat) (w:World) (hn:n<=60) (h:Tn.Tr.Ps w al ls) (sh:ShOk H D G W ls) :
 Calls Tryz.prog 10 #[.agg #[.int .i64 (n:Int),.int .i64 (H:Int),.int .i64 (D:Int),.int .i64 (G:Int),.int .i64 (W:Int),.slice al ls.length cl,.slice ao len co]] w fun e w'=>∃ (P g b C vb vr z:Nat) (a3:Option Addr) (c3:Nat) (col:Nat->Nat),e=.returned (.pointer (some ⟨P,0,none⟩))/\Begun w w' P g b C vb vr z a3 c3 n H D G W ls col:=by
 have HP:=Ca.hid (h.keep (box_below w (.cells #[.int .i64 (n:Int),.int .i64 H,.int .i64 D,.int .i64 G,.int .i64 W,.slice al ls.length cl,.slice ao len co] 29)))
 have B0:=Ca.hid (box_below w (.cells #[.int .i64 (n:Int),.int .i64 H,.int .i64 D,.int .i64 G,.int .i64 W,.slice al ls.length cl,.slice ao len co] 29))
 have SH:=Ca.hid sh
 obtain ⟨sG,sG2,sW,sl,sl2,-⟩:=sh.nums
 have hs0:=B0.out.size
 have s00:(w.alloc (.cells #[.int .i64 (n:Int),.int .i64 H,.int .i64 D,.int .i64 G,.int .i64 W,.slice al ls.length cl,.slice ao len co] 29)).heap.size=w.heap.size+1:=by simp
 clear h sh
 go_enter Tryz.func10,Tryz.ntmps10
 go_upto_region 7 with (first
  | (go_at_call 17;refine (newPool_ok n (by omega) _).mono ?_;rintro e w1 ⟨g,b,rfl,hp,hg,hb,hbel⟩;have P1:=Ca.hid hp;have GB:Hid (w.heap.size+1<=g/\w.heap.size+1<=b):=(by rw [s00] at hg hb;exact ⟨hg,hb⟩);have B1:=Ca.hid hbel;have z0:w1.heap[w.heap.size]?=some (.cells #[.int .i64 (n:Int),.int .i64 H,.int .i64 D,.int .i64 G,.int .i64 W,.slice al ls.length cl,.slice ao len co] 29):=((hbel.block _ (by simp)).trans (heap_alloc_new w _));have Z0:=Ca.hid z0;have y1:w1.cell? ⟨w.heap.size,1,none⟩=some (.int .i64 H):=cell_of_row _ _ _ _ _ _ z0;have y2:w1.cell? ⟨w.heap.size,2,none⟩=some (.int .i64 D):=cell_of_row _ _ _ _ _ _ z0;have y3:w1.cell? ⟨w.heap.size,3,none⟩=some (.int .i64 G):=cell_of_row _ _ _ _ _ _ z0;have y4:w1.cell? ⟨w.heap.size,4,none⟩=some (.int .i64 W):=cell_of_row _ _ _ _ _ _ z0;have y5:w1.cell? ⟨w.heap.size,5,none⟩=some (.slice al ls.length cl):=cell_of_row _ _ _ _ _ _ z0;have BB:Hid (Below w.heap.size w w1):=B0.out.trans (hbel.mono hs0);have hs1:=BB.out.size;have hs1':w.heap.size+1<=w1.heap.size:=(by have:=hbel.size;omega);clear hp hg hb hbel z0)
  | (go_at_call 18;refine (newC_ok 1 g H D G W al cl ls (Po.zeros n) (awc g b) _ (HP.out.keep B1.out) SH.out (fun x hx=>by unfold awc;rw [if_neg];have:=P1.out.lt;omega) (by decide)).mono ?_;rintro e w2 ⟨C,col,rfl,hc,hbel,x2,x3,x4⟩;have C2:=Ca.hid hc;have B2:=Ca.hid hbel;have X2:=Ca.hid (And.intro x2 (And.intro x3 x4));have z0:w2.heap[w.heap.size]?=some (.cells #[.int .i64 (n:Int),.int .i64 H,.int .i64 D,.int .i64 G,.int .i64 W,.slice al ls.length cl,.slice ao len co] 29):=((hbel.block _ hs1').trans Z0.out);have v1:w2.cell? ⟨w.heap.size,1,none⟩=some (.int .i64 H):=cell_of_row _ _ _ _ _ _ z0;have v2:w2.cell? ⟨w.heap.size,2,none⟩=some (.int .i64 D):=cell_of_row _ _ _ _ _ _ z0;have v3:w2.cell? ⟨w.heap.size,3,none⟩=some (.int .i64 G):=cell_of_row _ _ _ _ _ _ z0;have v4:w2.cell? ⟨w.heap.size,4,none⟩=some (.int .i64 W):=cell_of_row _ _ _ _ _ _ z0;have v5:w2.cell? ⟨w.heap.size,5,none⟩=some (.slice al ls.length cl):=cell_of_row _ _ _ _ _ _ z0;have hs2:=hbel.size;clear hc hbel x2 x3 x4 z0 y1 y2 y3 y4 y5))
 go_upto_region 8 with (go_at_call 12;refine (Tn.refShape_any _ _ _ _ al cl ls _ ((HP.out.keep B1.out).keep B2.out) (by omega)).mono ?_;rintro e w3 ⟨a3,c3,rfl,hps,hbel,hnew⟩;have P3:=Ca.hid hps;have B3:=Ca.hid hbel;have N3:=Ca.hid hnew;have hs3:=hbel.size;clear hps hbel hnew)
 have hmk:=run_make_row' (P:=Tryz.prog) 59 60 (.slice none 0 0) 24 Tryz.underlying59 Ca.infoToks rfl .i64 .i64 ls.length (by omega) (by omega)
 go_region
 all_goals go_wp2
 all_goals go_ret
 ·obtain ⟨f1,f2,f3,f4,f5,f6⟩:=five w3 _ _ _ _ _
  exact ⟨_,g,b,C,w3.heap.size+1,w3.heap.size+1+1+1,w3.heap.size+1+1,a3,c3,_,rfl,begun_close P1.out GB.out BB.out B2.out B3.out f5 C2.out X2.out P3.out N3.out (by omega) f4 f1 f3 f2 (by omega) (by omega) (by omega) (by omega)⟩
 ·obtain ⟨f1,f2,f3,f4,f5,f6⟩:=five w3 _ _ _ _ _
  exact ⟨_,g,b,C,w3.heap.size+1+1,w3.heap.size+1+1+1,w3.heap.size+1,a3,c3,_,rfl,begun_close P1.out GB.out BB.out B2.out B3.out f5 C2.out X2.out P3.out N3.out (by omega) f4 f2 f3 f1 (by omega) (by omega) (by omega) (by omega)⟩
 ·obtain ⟨f1,f2,f3,f4,f5,f6⟩:=five w3 _ _ _ _ _
  exact ⟨_,g,b,C,w3.heap.size+1+1+1,w3.heap.size+1+1,w3.heap.size+1,a3,c3,_,rfl,begun_close P1.out GB.out BB.out B2.out B3.out f5 C2.out X2.out P3.out N3.out (by omega) f4 f3 f2 f1 (by omega) (by omega) (by omega) (by omega)⟩
end Cc
end Go.Proofs.YtnchnlgnnlgjcaaGreat
