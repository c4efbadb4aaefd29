import Derived.Test.YtnchnlgnnlgjcaaGreatCa19
import Derived.Test.YtnchnlgnnlgjcaaGreatCa16
import Derived.Test.YtnchnlgnnlgjcaaGreatCa17
import Derived.Test.YtnchnlgnnlgjcaaGreatCa18
import Derived.Test.YtnchnlgnnlgjcaaGreatCa08
set_option linter.unusedVariables false
set_option linter.unusedSimpArgs false
namespace Go.Proofs.YtnchnlgnnlgjcaaGreat
open Go.RowKit
namespace Cc
theorem row_of_own {w:World} {B:Nat} {t:TypeId} {v:Value} {n:Nat} {xs:List Value} (h:w.ownsRow B t 1 v n xs) (h0:0<n):∃ g cap F,v=.slice (some ⟨g,0,none⟩) n cap/\B<=g/\w.rowIs g t cap F/\n<=cap/\∀ i (hi:i<n),some (F i)=xs[i]?:=by
 rcases h.2 with ⟨_,e⟩ | ⟨g,cap,cur,e,hb,hg,h1,h2,h3,h4⟩
 ·omega
 ·refine ⟨g,cap,fun i=>cur[i]!,e,hb,⟨cur,hg,by omega,fun i hi=>?_⟩,h1,fun i hi=>?_⟩
  ·show cur[i]?=some cur[i]!
   rw [getElem!_pos cur i (by omega)];exact Array.getElem?_eq_getElem _
  ·rw [<-h4,List.getElem?_take,if_pos (by omega)]
   show some cur[i]! = _
   rw [getElem!_pos cur i (by omega)]
   simp [show i<cur.size by omega]
theorem own_mono0 {w:World} {B s:Nat} {t:TypeId} {v:Value} {n:Nat} {xs:List Value} (h:w.ownsRow B t s v n xs):w.ownsRow 0 t s v n xs:=by
 refine ⟨h.1,?_⟩
 rcases h.2 with e | ⟨g,cap,cur,e,_,r⟩
 ·exact .inl e
 ·exact .inr ⟨g,cap,cur,e,Nat.zero_le _,r⟩
def CtAt (w:World) (ct cc n:Nat) (cnt:List Int):Prop:=w.ownsRow 0 3 1 (.slice (some ⟨ct,0,none⟩) n cc) n (cnt.map (Value.int .i64))/\cnt.length=n
theorem BkTwoLst {w:World} {ct cc n:Nat} {cnt:List Int} (h:w.ownsRow 0 3 1 (.slice (some ⟨ct,0,none⟩) n cc) n (cnt.map (Value.int .i64))) (hn:cnt.length=n):CtAt w ct cc n cnt:=⟨h,hn⟩
theorem CtAt.carryTo {w w2 w3:World} {ct cc n g b N:Nat} {cnt R M:List Int} (h:CtAt w ct cc n cnt) (h1:Below w.heap.size w w2) (h2:But2 g b w2 w3) (hp:PoolAt w g b N R M):Lst .i64 w3 (some ⟨ct,0,none⟩) cnt:=by
 obtain ⟨ho,hn⟩:=h
 have t:=ty_own ho (q:=ct) rfl
 have e:w3.heap[ct]?=w.heap[ct]?:=(h2.2 ct (Nat.lt_of_lt_of_le t.lt h1.size) (t.ne hp.tys.1 (by decide)) (t.ne hp.tys.2 (by decide))).trans (h1.block _ t.lt)
 have ho3:=own_at (w':=w3) ho fun x ex=>by cases ex;exact e
 subst hn
 obtain ⟨A,C,e2,hl,_⟩:=RowAt.slice (w:=w3) (l:=cnt) ho3
 cases e2
 exact hl
def Frk (w0 w:World) (g b n H D G W:Nat) (ls:List (Int × Int)) (R M:List Int) (L:Nat->List Int) (cnt:List Int) (m C2 a2 cl2 T2 ct2 cc2:Nat) (vp:Value) (j:Nat) (rg rs:Nat->Nat) (lt:Nat->List Rt.Tv):Prop :=
 (w.rowIs C2 104 9 (cac g H D G W (.slice (some ⟨a2,0,none⟩) ls.length cl2) T2 vp (.slice (some ⟨ct2,0,none⟩) ls.length cc2))/\w0.heap.size<=C2) /\
   (Tn.Tr.Ps w (some ⟨a2,0,none⟩) ls/\w0.heap.size<=a2/\Ty w a2 77)/\(Tab w g T2 m L (fun x=>w0.heap.size<=x/\¬ x=ct2)/\w0.heap.size<=T2) /\
   (w.ownsRow 0 3 1 (.slice (some ⟨ct2,0,none⟩) ls.length cc2) ls.length (cnt.map (Value.int .i64))/\w0.heap.size<=ct2) /\
   w.ownsRow w0.heap.size 107 1 vp j ((List.range j).map fun r=>.pointer (some ⟨rg r,0,none⟩)) /\
   (∀ r,r<j->Rt.RingAt w (rg r) (rs r) (W+G) 0 (lt r)/\w0.heap.size<=rg r/\w0.heap.size<=rs r)/\(∀ i i',i<j->i'<j->rg i=rg i'\/rs i=rs i'->i=i') /\
   PoolAt w g b n R M/\ButQ g b (fun _=>False) w0 w
theorem ptr_range (rg:Nat->Nat) (j g':Nat):(List.range (j+1)).map (fun r=>Value.pointer (some ⟨if r=j then g' else rg r,0,none⟩))=(List.range j).map (fun r=>Value.pointer (some ⟨rg r,0,none⟩)) ++ [.pointer (some ⟨g',0,none⟩)]:=by
 rw [List.range_succ,List.map_append]
 congr 1
 ·refine List.map_congr_left fun r hr=>?_
  rw [List.mem_range] at hr
  rw [if_neg (by omega)]
 ·simp
theorem Frk.next {w0 wr w2 w3:World} {g b n H D G W m C2 a2 cl2 T2 ct2 cc2 j o q gg cap:Nat} {ls:List (Int × Int)} {R M:List Int} {L:Nat->List Int} {cnt:List Int} {vp:Value} {rg rs:Nat->Nat} {lt:Nat->List Rt.Tv} (h:Frk w0 wr g b n H D G W ls R M L cnt m C2 a2 cl2 T2 ct2 cc2 vp j rg rs lt)
 (b2:Below wr.heap.size wr w2) (hr:Rt.RingAt w2 o q (W+G) 0 (lt j)) (h1:wr.heap.size<=o) (h2:wr.heap.size<=q) {ob:Obj} (hg:(w2.alloc ob).grownBy w3 vp.ownBlock)
 (ho:w3.ownsRow w0.heap.size 107 1 (.slice (some ⟨gg,0,none⟩) (j+1) cap) (j+1) ((List.range j).map (fun r=>.pointer (some ⟨rg r,0,none⟩)) ++ [.pointer (some ⟨o,0,none⟩)])) :
 Frk w0 (w3.setCell ⟨C2,7,none⟩ (.slice (some ⟨gg,0,none⟩) (j+1) cap)) g b n H D G W ls R M L cnt m C2 a2 cl2 T2 ct2 cc2 (.slice (some ⟨gg,0,none⟩) (j+1) cap) (j+1) (fun i=>if i=j then o else rg i) (fun i=>if i=j then q else rs i) lt:=by
 obtain ⟨⟨hC,hC2⟩,⟨hP,hP2,hP3⟩,⟨hT,hT2⟩,⟨hc,hc2⟩,hv,hr1,hr2,hp,hb⟩:=h
 have tC:=ty_row hC
 have s2:=b2.size
 have s3:w2.heap.size+1<=w3.heap.size:=by have:=hg.size;simpa using this
 have vt:∀ x,vp.ownBlock=some x->Ty wr x 107:=fun x e=>ty_own hv e
 have st0:∀ x t,Ty wr x t->¬ t=107->w3.heap[x]?=wr.heap[x]?:=fun x t ht hn=>by
  have l:=ht.lt
  rw [hg.block x (by simp;omega) (fun e=>ht.ne (vt x e.symm) hn rfl),Below.heap_alloc _ _ _ (by omega)]
  exact b2.block x l
 have st:∀ x t,Ty wr x t->¬ t=107->¬ t=104->(w3.setCell ⟨C2,7,none⟩ (.slice (some ⟨gg,0,none⟩) (j+1) cap)).heap[x]?=wr.heap[x]?:=fun x t ht hn hn2=>by
  rw [Below.heap_setCell _ _ _ _ (show x ≠ C2 from ht.ne tC hn2)]
  exact st0 x t ht hn
 have nw:∀ x,wr.heap.size<=x->x<w2.heap.size->(w3.setCell ⟨C2,7,none⟩ (.slice (some ⟨gg,0,none⟩) (j+1) cap)).heap[x]?=w2.heap[x]?:=fun x l1 l2=>by
  rw [Below.heap_setCell _ _ _ _ (show x ≠ C2 by have:=tC.lt;omega),hg.block x (by simp;omega) (fun e=>by have:=(vt x e.symm).lt;omega)]
  exact Below.heap_alloc _ _ _ l2
 have hC3:=hC.of_block (st0 _ _ tC (by decide))
 have hgr:=ty_own ho (q:=gg) rfl
 have hgC:¬ gg=C2:=hgr.ne (ty_row hC3) (by decide)
 refine ⟨⟨(hC3.set 7 _).congr (fun i hi=>by match i,hi with | 0,_=>rfl | 1,_=>rfl | 2,_=>rfl | 3,_=>rfl | 4,_=>rfl | 5,_=>rfl | 6,_=>rfl | 7,_=>rfl | 8,_=>rfl),hC2⟩,⟨fun i hi=>?_,hP2,hP3.of_block (st _ _ hP3 (by decide) (by decide))⟩,⟨hT.stand (st _ _ hT.ty (by decide) (by decide)) fun x _ ht=>by rcases ht with t | t <;> exact st _ _ t (by decide) (by decide),hT2⟩,⟨own_at hc fun x e=>st _ _ (ty_own hc e) (by decide) (by decide),hc2⟩,?_,fun r hr'=>?_,fun i i' hi hi' he=>?_,?_,?_⟩
 ·obtain ⟨bb,oo,e,q1,q2⟩:=hP i hi
  cases e
  refine ⟨a2,0,rfl,?_,?_⟩
  ·rw [World.cell?_of_block (a:=⟨a2,0+i*2,none⟩) (st _ _ hP3 (by decide) (by decide))];exact q1
  ·rw [World.cell?_of_block (a:=⟨a2,0+i*2+1,none⟩) (st _ _ hP3 (by decide) (by decide))];exact q2
 ·rw [ptr_range]
  exact own_at ho fun x e=>by cases e;exact Below.heap_setCell _ _ _ _ (show gg ≠ C2 from hgC)
 ·show Rt.RingAt _ (if r=j then o else rg r) (if r=j then q else rs r) (W+G) 0 (lt r)/\w0.heap.size<=(if r=j then o else rg r)/\w0.heap.size<=(if r=j then q else rs r)
  have hs0:=hb.size
  by_cases e:r=j
  ·rw [if_pos e,if_pos e,e]
   exact ⟨hr.of_block (nw o h1 hr.lt.1) (nw q h2 hr.lt.2),by omega,by omega⟩
  ·rw [if_neg e,if_neg e]
   obtain ⟨k1,k2,k3⟩:=hr1 r (by omega)
   exact ⟨k1.of_block (st _ _ k1.tys.1 (by decide) (by decide)) (st _ _ k1.tys.2 (by decide) (by decide)),k2,k3⟩
 ·have he:(if i=j then o else rg i)=(if i'=j then o else rg i')\/(if i=j then q else rs i)=(if i'=j then q else rs i'):=he
  by_cases e:i=j
  ·by_cases e':i'=j
   ·omega
   ·rw [if_pos e,if_neg e',if_pos e,if_neg e'] at he
    obtain ⟨k1,_,_⟩:=hr1 i' (by omega)
    have:=k1.lt
    omega
  ·by_cases e':i'=j
   ·rw [if_neg e,if_pos e',if_neg e,if_pos e'] at he
    obtain ⟨k1,_,_⟩:=hr1 i (by omega)
    have:=k1.lt
    omega
   ·rw [if_neg e,if_neg e',if_neg e,if_neg e'] at he
    exact hr2 i i' (by omega) (by omega) he
 ·exact hp.stand fun x hx=>by rcases hx with t | t | t <;> exact st _ _ t (by decide) (by decide)
 ·have e1:ButQ g b (fun _=>False) w0 w3:=by
   refine ⟨hg.os.trans (b2.os.trans hb.1),hg.tape.trans (b2.tape.trans hb.2.1),hg.output.trans (b2.output.trans hb.2.2.1),by have:=hb.size;omega,fun x h0 n1 n2 n3=>?_⟩
   have hs0:=hb.size
   rw [hg.block x (by simp;omega) (fun e=>by have:=(hv.lt x e.symm).1;omega),Below.heap_alloc _ _ _ (by omega),b2.block x (by omega)]
   exact hb.block h0 n1 n2 n3
  exact e1.set (p:=⟨C2,7,none⟩) (.inr hC2) _
set_option maxRecDepth 100000 in
set_option maxHeartbeats 6400000 in
theorem fork_c (C c c2 g b n H D G W:Nat) (ls:List (Int × Int)) (R M:List Int) (L:Nat->List Int) (t:Nat) (tk:Nat->List Tok) (q:Nat->Nat) (col:Nat->Nat) (w:World) (hp:PoolAt w g b n R M) (h:CaAt w col c g C H D G W ls M L (cn ls.length t 0) tk q) (sh:ShOk H D G W ls)
 (hfr:∀ x,w.heap.size<=x->col x=0) (cg:¬ col g=c/\¬ col g=0) (cb:¬ col b=c/\¬ col b=0) (hlen:Bk.len L (ls.length*H)<=1000) (hx:∀ x,x ∈ Bk.flat L (ls.length*H)->(0<=x/\x<n)/\0<Ls.nth R x.toNat) (hR:∀ k,k<n->Ls.nth R k<=1000) :
 Calls Tryz.prog 42 #[.pointer (some ⟨C,0,none⟩)] w fun e w'=>∃ (C2:Nat) (col':Nat->Nat),e=.returned (.tuple #[.pointer (some ⟨C2,0,none⟩),.int .i64 0])/\PoolAt w' g b n (Bk.bump R 1 (Bk.flat L (ls.length*H))) M /\
  CaAt w' col' c g C H D G W ls M L (cn ls.length t 0) tk q/\CaAt w' col' c2 g C2 H D G W ls M L (cn ls.length t 0) tk q/\ButQ g b (fun _=>False) w w'/\(∀ x,x<w.heap.size->col' x=col x)/\(∀ x,w.heap.size<=x->col' x=0\/col' x=c2)/\∀ x,w'.heap.size<=x->col' x=0:=by
 obtain ⟨sH,sH2,sD,sD2,sR⟩:=id sh
 obtain ⟨sG,sG2,sW,sl,sl2,-⟩:=sh.nums
 have hpos:0<ls.length:=sl
 have hpos2:ls.length<=1000:=by omega
 have OP:=Ca.hid (open_c C g H D G W ls t 0 false w h.bd hpos sl2 rfl)
 obtain ⟨al,cl,T,pb,pc,ct,cc,rg0,rs0,F0,hin⟩:=h.in
 have IN:=Ca.hid hin
 have HA:=Ca.hid h
 have HP:=Ca.hid hp
 have HFR:=Ca.hid hfr
 have HX:=Ca.hid hx
 have HR:=Ca.hid hR
 obtain ⟨⟨hC,zC⟩,-,⟨hT,zT⟩,⟨hc,hcl,zc⟩,⟨hpb,hF,hpc,zp⟩,hdis,hrow⟩:=hin
 have HC:=Ca.hid hC
 have HT:=Ca.hid hT
 have HCT:=Ca.hid (BkTwoLst hc hcl)
 obtain ⟨m,em⟩:∃ m,ls.length*H=m:=⟨_,rfl⟩
 have EM:=Ca.hid em
 have hm:m<=16:=by rw [<-em];exact Nat.le_trans (Nat.mul_le_mul sl2 sH2) (by decide)
 obtain ⟨fp,hfp⟩:=Classical.axiomOfChoice (r:=fun r (p:Nat × List Rt.Tv)=>r<ls.length*H->Rt.RingAt w (rg0 r) (rs0 r) (W+G) p.1 p.2/\p.2.length+q r*G=(tk r).length/\∀ i (hi:q r*G+i<(tk r).length),TvAt col w (Rt.nth p.2 i) (tk r)[q r*G+i] (r % H)) (fun r=>by
  by_cases hr:r<ls.length*H
  ·obtain ⟨_,_,_,f,l,k1,k2,k3,_⟩:=hrow r hr
   exact ⟨(f,l),fun _=>⟨k1,k2,k3⟩⟩
  ·exact ⟨(0,[]),fun e=>absurd e hr⟩)
 have HF:=Ca.hid hfp
 have HPB:=Ca.hid hpb
 have HPF:=Ca.hid hF
 have lC:C<w.heap.size:=hC.lt
 have NC:Hid (¬ C=g/\¬ C=b):=⟨(ty_row hC).ne hp.tys.1 (by decide),(ty_row hC).ne hp.tys.2 (by decide)⟩
 have NP:Hid (¬ pb=g/\¬ pb=b/\pb<w.heap.size):=⟨(ty_row hpb).ne hp.tys.1 (by decide),(ty_row hpb).ne hp.tys.2 (by decide),hpb.lt⟩
 have KC:Hid (∀ v:World,v.heap[C]?=w.heap[C]?->v.cell? ⟨C,0,none⟩=some (.pointer (some ⟨g,0,none⟩))/\v.cell? ⟨C,6,none⟩=some (.pointer (some ⟨T,0,none⟩))/\v.cell? ⟨C,7,none⟩=some (.slice (some ⟨pb,0,none⟩) (ls.length*H) pc)/\v.cell? ⟨C,8,none⟩=some (.slice (some ⟨ct,0,none⟩) ls.length cc)):=fun v hv=>by
  have r:=HC.out.of_block hv
  exact ⟨r.cell (show 0<9 by decide),r.cell (show 6<9 by decide),r.cell (show 7<9 by decide),r.cell (show 8<9 by decide)⟩
 have hcn:(cn ls.length t 0).length=ls.length:=cn_length _ _ _
 rw [em] at hpc
 clear h hp hfr hx hR hC hT hc hcl hpb hF hdis hrow zC zT zc zp hfp sR em
 go_enter Tryz.func42,Tryz.ntmps42
 go_upto_region 3 with (go_at_call 73;refine OP.out.mono ?_;rintro e w1 ⟨rfl,hb⟩;have B1:Hid (Below w.heap.size w w1):=hb;clear hb)
 have BC:Hid (∀ w',ButQ g b (fun _=>False) w1 w'->w'.heap[C]?=w.heap[C]?):=fun w' hb=>(hb.block (Nat.lt_of_lt_of_le lC B1.out.size) NC.out.1 NC.out.2 (fun e=>e)).trans (B1.out.block _ lC)
 go_cut [4] from 9 to 26 (fun v wx=>∃ C2 a2 cl2 T2 ct2 cc2:Nat,v=.pointer (some ⟨C2,0,none⟩)/\Hid (Frk w wx g b n H D G W ls (Bk.bump R 1 (Bk.flat L (ls.length*H))) M L (cn ls.length t 0) m C2 a2 cl2 T2 ct2 cc2 (.slice none 0 0) 0 (fun _=>0) (fun _=>0) (fun r=>(fp r).2)))
 case first =>
  go_region_held3 (fun w'=>(w'.cell? ⟨C,0,none⟩=some (.pointer (some ⟨g,0,none⟩))/\w'.cell? ⟨C,6,none⟩=some (.pointer (some ⟨T,0,none⟩))/\w'.cell? ⟨C,7,none⟩=some (.slice (some ⟨pb,0,none⟩) (ls.length*H) pc)/\w'.cell? ⟨C,8,none⟩=some (.slice (some ⟨ct,0,none⟩) ls.length cc)))
   (first
     | assumption
     | exact KC.out _ (BC.out _ (ButQ.refl _ _ _ _))
     | exact KC.out _ (BC.out _ (ButQ.of_below ((Below.refl _ _).drew)))
     | exact KC.out _ (BC.out _ (ButQ.of_below B2.out))
     | exact KC.out _ (BC.out _ Q3.out)
     | exact KC.out _ (BC.out _ Q4.out)
     | exact KC.out _ (BC.out _ (Q4.out.trans (ButQ.of_below (Rt.box_below _ _)))))
   (first
     | (go_at_call 31;(with_reducible refine (shape_c C g H D G W ls M L (cn ls.length t 0) tk q c col w1.drew (HA.out.below (B1.out.drew)) hpos hpos2).mono ?_);rintro e w2 ⟨a',c',rfl,g1,g2,g3,hb⟩;have B2:Hid (Below w1.heap.size w1 w2):=(Below.refl _ _).drew.trans hb;have R2:Hid (w1.heap.size<=a'/\Ty w2 a' 77/\Tn.Tr.Ps w2 (some ⟨a',0,none⟩) ls):=⟨g1,g2,g3⟩;have W2:Hid (Below w.heap.size w w2):=B1.out.trans (B2.out.mono B1.out.size);clear g1 g2 g3 hb)
     | (go_at_call 83;(with_reducible refine (fork_any g b n T (ls.length*H) R M L _ w2 (HP.out.keep W2.out) (HT.out.keep W2.out) (by rw [EM.out];exact hm) hlen HX.out HR.out).mono ?_);rintro e w3 ⟨T2,rfl,k1,k2,k3,k4⟩;have Q3:Hid (ButQ g b (fun _=>False) w1 w3):=(ButQ.of_below B2.out).trans (ButQ.of_but2 k4);have R3:Hid (PoolAt w3 g b n (Bk.bump R 1 (Bk.flat L (ls.length*H))) M/\Tab w3 g T2 (ls.length*H) L (fun q=>w2.heap.size<=q)/\w2.heap.size<=T2/\But2 g b w2 w3):=⟨k1,k2,k3,k4⟩;clear k1 k2 k3 k4)
     | (go_at_call 84;(with_reducible refine (clone64_any (some ⟨ct,0,none⟩) cc ls.length (cn ls.length t 0) w3 (HCT.out.carryTo W2.out R3.out.2.2.2 HP.out) (by rw [hcn];exact hpos) (by rw [hcn];exact hpos2) hcn).mono ?_);rintro e w4 ⟨ct2,cc2,rfl,k1,k2⟩;have Q4:Hid (ButQ g b (fun _=>False) w1 w4):=Q3.out.trans (ButQ.of_below k2);have R4:Hid (w4.ownsRow w3.heap.size 3 1 (.slice (some ⟨ct2,0,none⟩) ls.length cc2) ls.length ((cn ls.length t 0).map (Value.int .i64))/\Below w3.heap.size w3 w4):=⟨k1,k2⟩;clear k1 k2))
  all_goals (go_wp2_with fail)
  all_goals go_meet
  have bx:(w4.alloc (.cells #[.pointer (some ⟨g,0,none⟩),.int .i64 (H:Int),.int .i64 (D:Int),.int .i64 (G:Int),.int .i64 (W:Int),.slice (some ⟨a',0,none⟩) ls.length c',.pointer (some ⟨T2,0,none⟩),.slice none 0 0,.slice (some ⟨ct2,0,none⟩) ls.length cc2] 104)).rowIs w4.heap.size 104 9 (cac g H D G W (.slice (some ⟨a',0,none⟩) ls.length c') T2 (.slice none 0 0) (.slice (some ⟨ct2,0,none⟩) ls.length cc2)) :=
   World.rowIs_alloc w4 _ _ _ (fun i hi=>by match i,hi with | 0,_=>rfl | 1,_=>rfl | 2,_=>rfl | 3,_=>rfl | 4,_=>rfl | 5,_=>rfl | 6,_=>rfl | 7,_=>rfl | 8,_=>rfl)
  have s1:=B1.out.size
  have s2:=B2.out.size
  have s3:=R3.out.2.2.2.size
  have s4:=R4.out.2.size
  have lo:=R4.out.1.lt ct2 rfl
  have tg:=HP.out.tys
  have ta:=R2.out.2.1
  have e3:w3.heap[a']?=w2.heap[a']?:=R3.out.2.2.2.2 a' ta.lt (ta.ne (HP.out.keep W2.out).tys.1 (by decide)) (ta.ne (HP.out.keep W2.out).tys.2 (by decide))
  have e4:w4.heap[a']?=w2.heap[a']?:=(R4.out.2.block _ (by have:=ta.lt;omega)).trans e3
  have bb:=fun (o:Obj)=>Rt.box_below w4 o
  have ea:∀ o,(w4.alloc o).heap[a']?=w2.heap[a']?:=fun o=>((bb o).block _ (by have:=ta.lt;omega)).trans e4
  refine ⟨w4.heap.size,a',c',T2,ct2,cc2,rfl,⟨bx,by omega⟩,⟨fun i hi=>?_,by have:=R2.out.1;omega,ta.of_block (ea _)⟩,⟨?_,by have:=R3.out.2.2.1;omega⟩,⟨?_,by omega⟩,World.ownsRow_nil _ _ _ _,fun r hr=>absurd hr (Nat.not_lt_zero _),fun i i' hi=>absurd hi (Nat.not_lt_zero _),(R3.out.1.keep R4.out.2).keep (bb _),?_⟩
  ·obtain ⟨b1,o1,e,q1,q2⟩:=R2.out.2.2 i hi
   cases e
   refine ⟨a',0,rfl,?_,?_⟩
   ·rw [World.cell?_of_block (a:=⟨a',0+i*2,none⟩) (ea _)];exact q1
   ·rw [World.cell?_of_block (a:=⟨a',0+i*2+1,none⟩) (ea _)];exact q2
  ·have tb:=R3.out.2.1
   rw [EM.out] at tb
   exact ((tb.mono (Q':=fun x=>w.heap.size<=x/\¬ x=ct2) fun x hx hq=>⟨by omega,by omega⟩).keep R4.out.2).keep (bb _)
  ·exact own_mono0 (own_below R4.out.1 (bb _))
  ·exact (ButQ.of_below B1.out).trans (Q4.out.trans (ButQ.of_below (bb _)))
 case rest =>
  obtain ⟨C2,a2,cl2,T2,ct2,cc2,rfl,FK⟩:=hcut
  have hBw:=FK.out.2.2.2.2.2.2.2.2
  obtain ⟨x0,x6,x7,x8⟩:=KC.out wc (hBw.block lC NC.out.1 NC.out.2 (fun e=>e))
  rw [EM.out] at x7
  clear x0 x6 x8 hBw
  go_wp2
  clear x7
  go_loopw [32] (fun i wq=>∃ (j:Nat) (vp:Value) (rg rs:Nat->Nat),j<=m/\i=.int .i64 j/\Hid (Frk w wq g b n H D G W ls (Bk.bump R 1 (Bk.flat L (ls.length*H))) M L (cn ls.length t 0) m C2 a2 cl2 T2 ct2 cc2 vp j rg rs (fun r=>(fp r).2))) (fun i _=>m - (intOf i).toNat)
  case atStart=>exact ⟨0,_,_,_,Nat.zero_le _,rfl,FK.out⟩
  case round =>
   obtain ⟨j,vp,rg,rs,hj,rfl,FJ⟩:=hrel
   by_cases hlt:j<m
   ·have hBw:=FJ.out.2.2.2.2.2.2.2.2
    have hpbr:=HPB.out.of_block (hBw.block NP.out.2.2 NP.out.1 NP.out.2.1 (fun e=>e))
    have p0:wr.cell? ⟨pb,j,none⟩=some (.pointer (some ⟨rg0 j,0,none⟩)):=by
     rw [hpbr.cell (by omega:j<pc),HPF.out j (by rw [EM.out];exact hlt)]
    have kr:=HF.out j (by rw [EM.out];exact hlt)
    have tr:=kr.1.tys
    have RJ:Hid (Rt.RingAt wr (rg0 j) (rs0 j) (W+G) (fp j).1 (fp j).2):=kr.1.of_block (hBw.block kr.1.lt.1 (tr.1.ne HP.out.tys.1 (by decide)) (tr.1.ne HP.out.tys.2 (by decide)) (fun e=>e)) (hBw.block kr.1.lt.2 (tr.2.ne HP.out.tys.1 (by decide)) (tr.2.ne HP.out.tys.2 (by decide)) (fun e=>e))
    have c7:wr.cell? ⟨C2,7,none⟩=some vp:=FJ.out.1.1.cell (show 7<9 by decide)
    have C7:=Ca.hid c7
    have lC2:C2<wr.heap.size:=FJ.out.1.1.lt
    clear hBw hpbr kr tr
    obtain ⟨i1,hi10,hi11,hi12,hi13⟩:=info_parts infoRingPtr
    have tC2:Hid (Ty wr C2 104):=ty_row FJ.out.1.1
    have OV:Hid (wr.ownsRow w.heap.size 107 1 vp j ((List.range j).map fun r=>.pointer (some ⟨rg r,0,none⟩))):=FJ.out.2.2.2.2.1
    go_upto_region 7 with fail
    go_region_law (first
     | (refine step_append_lies _ (by rfl) _ _ _ (by rfl) w.heap.size 107 i1 _ 1 8 Tryz.underlying102 hi10 hi11 hi12 hi13 rfl (by omega) _ j ((List.range j).map fun r=>.pointer (some ⟨rg r,0,none⟩)) (by rfl) (own_below OV.out (B2.out.alloc B2.out.size _)) ⟨w2.heap.size,0,none⟩ 1 1 [.pointer (some ⟨o,0,none⟩)] (by rfl) (by rfl) (World.news_of_block (cs:=#[.pointer (some ⟨o,0,none⟩)]) (t:=107) (fr:=(0,0)) (heap_alloc_new w2 _)) (by simp [Value.oneCell']) (by omega) (by unfold maxLen;omega) (by omega) (by have:=S2.out;simp;omega) (w2.heap.size+1) (by simp) ?_;intro gg cap w3 hown hgrow hat hlt1;have O3:Hid (w3.ownsRow w.heap.size 107 1 (.slice (some ⟨gg,0,none⟩) (j+1) cap) (j+1) ((List.range j).map (fun r=>.pointer (some ⟨rg r,0,none⟩)) ++ [.pointer (some ⟨o,0,none⟩)])):=hown;have G3:Hid ((w2.alloc (.cells #[.pointer (some ⟨o,0,none⟩)] 107)).grownBy w3 vp.ownBlock):=hgrow;have e3:w3.heap[C2]?=w2.heap[C2]?:=((hgrow.block C2 (by have:=L2.out;simp;omega) (fun e=>(ty_own OV.out e.symm).ne tC2.out (by decide) rfl)).trans ((Rt.box_below w2 _).block _ L2.out));have K3:Hid (w3.cell? ⟨C2,7,none⟩=some vp):=(World.cell?_of_block (a:=⟨C2,7,none⟩) e3).trans K2.out;have k9:w3.cell? ⟨C2,7,none⟩=some vp:=K3.out;have f3:w3.frozen? ⟨C2,7,none⟩=false:=(FJ.out.1.1.of_block (e3.trans (B2.out.block _ lC2))).frozen 7;clear hown hgrow hat hlt1 e3)
     | (go_simp;go_at_call 85;refine (Rt.copy_any (rg0 j) (rs0 j) (W+G) (fp j).1 (fp j).2 _ (RJ.out.keep ((Below.refl _ _).drew))).mono ?_;rintro e w2 ⟨o,oq,rfl,k1,k2,k3,k4⟩;have B2:Hid (Below wr.heap.size wr w2):=(Below.refl _ _).drew.trans k4;have R2:Hid (Rt.RingAt w2 o oq (W+G) 0 (fp j).2/\wr.heap.size<=o/\wr.heap.size<=oq):=⟨k1,k2,k3⟩;have K2:Hid (w2.cell? ⟨C2,7,none⟩=some vp):=(World.cell?_of_block (a:=⟨C2,7,none⟩) (B2.out.block _ lC2)).trans C7.out;have L2:Hid (C2<w2.heap.size):=Nat.lt_of_lt_of_le lC2 B2.out.size;have k7:w2.cell? ⟨C2,7,none⟩=some vp:=K2.out;have k8:(w2.alloc (.cells #[.pointer (some ⟨o,0,none⟩)] 107)).cell? ⟨C2,7,none⟩=some vp:=(World.cell?_of_block (a:=⟨C2,7,none⟩) ((Rt.box_below w2 _).block _ L2.out)).trans K2.out;have S2:Hid (w.heap.size<=w2.heap.size+1):=(by have h1:=B2.out.size;have h2:=FJ.out.2.2.2.2.2.2.2.2.size;show w.heap.size<=w2.heap.size+1;omega);clear k1 k2 k3 k4))
    all_goals
     have NX:=FJ.out.next B2.out R2.out.1 R2.out.2.1 R2.out.2.2 G3.out O3.out
     have NX:=Ca.hid NX
     go_wp2
     go_roundw
     case rel=>exact ⟨j+1,_,_,_,by omega,by go_num,NX.out⟩
     case measure=>simp [intOf];omega
   ·have ej:j=m:=by omega
    subst ej
    have hm1:0<j:=by rw [<-EM.out];exact Nat.mul_pos hpos (by omega)
    obtain ⟨pb2,pc2,F2,e,hB2,hF,hpc2,hF2⟩:=row_of_own FJ.out.2.2.2.2.1 hm1
    subst e
    have hq:=FJ.out.2.2.2.2.2.2.2.2
    have r1:=FJ.out.1.1
    rw [<-EM.out] at r1
    go_wp2
    go_ret2
    obtain ⟨col',a1,a2',a3,a4,a5⟩:=CaIn.forked (c2:=c2) (pc2:=pc2) IN.out HP.out HFR.out cg cb (fun x hx n1 n2=>hq.block hx n1 n2 (fun e=>e)) hq.size r1 FJ.out.1.2 FJ.out.2.1.1 FJ.out.2.1.2.1 FJ.out.2.1.2.2 (by rw [EM.out];exact FJ.out.2.2.1.1) FJ.out.2.2.1.2 FJ.out.2.2.2.1.1 FJ.out.2.2.2.1.2 hF
     (fun r hr=>by have h1:=hF2 r (by rw [<-EM.out];exact hr);rw [List.getElem?_map,List.getElem?_range (by rw [<-EM.out];exact hr)] at h1;exact Option.some.inj h1) (by rw [EM.out];exact hpc2) hB2
     (fun r hr=>by
       obtain ⟨k1,k2,k3⟩:=FJ.out.2.2.2.2.2.1 r (by rw [<-EM.out];exact hr)
       obtain ⟨_,m1,m2⟩:=HF.out r hr
       exact ⟨0,(fp r).2,k1,m1,m2,k2,k3⟩) (fun i i' hi hi' he=>FJ.out.2.2.2.2.2.2.1 i i' (by rw [<-EM.out];exact hi) (by rw [<-EM.out];exact hi') he)
    exact ⟨C2,col',rfl,FJ.out.2.2.2.2.2.2.2.1,a1,a2',hq,a3,a4,a5⟩
end Cc
end Go.Proofs.YtnchnlgnnlgjcaaGreat
namespace Go.Proofs.YtnchnlgnnlgjcaaGreat
open Go.RowKit
namespace Cc
def TwoN (B:Nat) (w:World) (v1 v2:Value) (n1 n2:Nat) (l1 l2:List (List Int)) (xs ys:List Value):Prop :=
 ∃ K:Nat->Prop,AccQ K B 1 74 eRow w v1 n1 l1 xs/\AccQ K B 1 74 eRow w v2 n2 l2 ys/\(∀ q,K q->B<=q/\q<w.heap.size/\¬ v1.ownBlock=some q/\¬ v2.ownBlock=some q)/\∀ q,v1.ownBlock=some q->¬ v2.ownBlock=some q
theorem twoN_nil (B:Nat) (w:World):TwoN B w (.slice none 0 0) (.slice none 0 0) 0 0 [] [] [] [] :=
 ⟨fun _=>False,acc_nil _ _ _ _ _ _,acc_nil _ _ _ _ _ _,(fun q h=>h.elim),(fun q e=>absurd (show (none:Option Nat)=some q from e) (by simp))⟩
theorem TwoN.swap {B:Nat} {w:World} {v1 v2:Value} {n1 n2:Nat} {l1 l2:List (List Int)} {xs ys:List Value} (h:TwoN B w v1 v2 n1 n2 l1 l2 xs ys):TwoN B w v2 v1 n2 n1 l2 l1 ys xs:=by
 obtain ⟨K,h1,h2,h3,h4⟩:=h
 exact ⟨K,h2,h1,fun q hq=>⟨(h3 q hq).1,(h3 q hq).2.1,(h3 q hq).2.2.2,(h3 q hq).2.2.1⟩,fun q e f=>h4 q f e⟩
theorem TwoN.to {B:Nat} {w u:World} {v1 v2:Value} {n1 n2:Nat} {l1 l2:List (List Int)} {xs ys:List Value} (h:TwoN B w v1 v2 n1 n2 l1 l2 xs ys) (hb:Below w.heap.size w u):TwoN B u v1 v2 n1 n2 l1 l2 xs ys:=by
 obtain ⟨K,h1,h2,h3,h4⟩:=h
 exact ⟨K,h1.to carry_row hb,h2.to carry_row hb,fun q hq=>⟨(h3 q hq).1,by have:=(h3 q hq).2.1;have:=hb.size;omega,(h3 q hq).2.2⟩,h4⟩
theorem TwoN.own {B:Nat} {w:World} {v1 v2:Value} {n1 n2:Nat} {l1 l2:List (List Int)} {xs ys:List Value} (h:TwoN B w v1 v2 n1 n2 l1 l2 xs ys):w.ownsRow B 74 1 v1 n1 xs:=by
 obtain ⟨K,h1,_⟩:=h
 exact h1.1
theorem TwoN.rest {B:Nat} {w w3:World} {v1 v2:Value} {n1 n2 m gg cap:Nat} {l1 l2 r:List (List Int)} {xs ys news:List Value} {R:Nat->Prop} (h:TwoN B w v1 v2 n1 n2 l1 l2 xs ys) (hm:m=r.length) (hn:news.length=r.length*1)
 (hR:∀ q,R q->q<w.heap.size->B<=q/\¬ v1.ownBlock=some q/\¬ v2.ownBlock=some q) (ho:w3.ownsRow B 74 1 (.slice (some ⟨gg,0,none⟩) (n1+m) cap) (n1+m) (xs ++ news)) (hg:w.grownBy w3 v1.ownBlock) (hat:v1.ownBlock=some gg\/gg=w.heap.size)
 (hx:∀ i (hi:i<r.length) (c:Nat->Option Value),(∀ j,j<1->c j=news[i*1+j]?)->eRow R w c r[i]):TwoN B w3 (.slice (some ⟨gg,0,none⟩) (n1+m) cap) v2 (n1+m) n2 (l1 ++ r) l2 (xs ++ news) ys:=by
 obtain ⟨K,h1,h2,h3,h4⟩:=h
 have hs2:=hg.size
 have own1:∀ q,v1.ownBlock=some q->q<w.heap.size:=fun q e=>(h1.1.lt q e).2
 have own2:∀ q,v2.ownBlock=some q->q<w.heap.size:=fun q e=>(h2.1.lt q e).2
 have hK:∀ q,K q->(K q\/(R q/\q<w.heap.size)):=fun q hq=>.inl hq
 refine ⟨fun q=>K q\/(R q/\q<w.heap.size),?_,?_,fun q hq=>⟨?_,?_,fun e=>?_,fun e=>?_⟩,fun q e f=>?_⟩
 ·exact (h1.mono carry_row hK).more carry_row ho hm hn hg hat fun i hi c hc=>carry_row _ _ w w c c _ (fun q hq hr=>⟨⟨.inr ⟨hr,hq⟩,hq,(hR q hr hq).2.1⟩,rfl⟩) (Nat.le_refl _) (fun _ _ _ h=>h) (hx i hi c hc)
 ·exact (h2.mono carry_row hK).far carry_row hg fun q e=>⟨fun hq=>by
   rcases hq with hq | hq
   ·exact (h3 q hq).2.2.1 e
   ·exact (hR q hq.1 hq.2).2.1 e,fun f=>h4 q e f⟩
 ·rcases hq with hq | hq
  ·exact (h3 q hq).1
  ·exact (hR q hq.1 hq.2).1
 ·rcases hq with hq | hq
  ·have:=(h3 q hq).2.1;omega
  ·omega
 ·have e:gg=q:=by injection e
  subst e
  rcases hq with hq | hq
  ·rcases hat with f | f
   ·exact (h3 gg hq).2.2.1 f
   ·have:=(h3 gg hq).2.1;omega
  ·rcases hat with f | f
   ·exact (hR gg hq.1 hq.2).2.1 f
   ·omega
 ·rcases hq with hq | hq
  ·exact (h3 q hq).2.2.2 e
  ·exact (hR q hq.1 hq.2).2.2 e
 ·have e:gg=q:=by injection e
  subst e
  rcases hat with g | g
  ·exact h4 gg g f
  ·have:=own2 gg f;omega
theorem own_monoB {w:World} {B B' s:Nat} {t:TypeId} {v:Value} {n:Nat} {xs:List Value} (h:w.ownsRow B t s v n xs) (hB:B'<=B):w.ownsRow B' t s v n xs:=by
 refine ⟨h.1,?_⟩
 rcases h.2 with h0 | ⟨g,cap,cur,e,h1,h2⟩
 ·exact .inl h0
 ·exact .inr ⟨g,cap,cur,e,Nat.le_trans hB h1,h2⟩
theorem TwoN.mono {B B':Nat} {w:World} {v1 v2:Value} {n1 n2:Nat} {l1 l2:List (List Int)} {xs ys:List Value} (h:TwoN B w v1 v2 n1 n2 l1 l2 xs ys) (hB:B'<=B):TwoN B' w v1 v2 n1 n2 l1 l2 xs ys:=by
 obtain ⟨K,h1,h2,h3,h4⟩:=h
 exact ⟨K,⟨own_monoB h1.1 hB,h1.2⟩,⟨own_monoB h2.1 hB,h2.2⟩,fun q hq=>⟨by have:=(h3 q hq).1;omega,(h3 q hq).2⟩,h4⟩
theorem TwoN.tbl {B:Nat} {w:World} {v1 v2:Value} {n1 n2:Nat} {l1 l2:List (List Int)} {xs ys:List Value} (h:TwoN B w v1 v2 n1 n2 l1 l2 xs ys):∃ a1 c1,v1=.slice a1 n1 c1/\Tbl w a1 l1/\n1=l1.length/\n1<=c1:=by
 obtain ⟨K,h1,_⟩:=h
 have e:=h1.2.1
 obtain ⟨a1,c1,e1,s1,h5,_⟩:=h1.slq carry_row (Q':=fun _=>True) (fun _ _=>trivial) (fun _ _=>trivial)
 exact ⟨a1,c1,e1,s1.tbl,e,h5⟩
theorem trow_slq {w:World} {g n d B:Nat} {F:Nat->Nat->Int} (h:TRow w g 74 n (Pg.tab n d F) n B) (hd:d<=256):SlQ (fun q=>g<=q) 1 eRow w (some ⟨g,0,none⟩) (Pg.tab n d F):=fun i hi=>by
 have hi2:i<n:=by rw [Pg.tab_length] at hi;exact hi
 obtain ⟨f,hr,hc⟩:=h
 obtain ⟨b,e,h1,h2,h3⟩:=hc i hi2
 have er:Tb.row (Pg.tab n d F) i=(Pg.tab n d F)[i]:=by simp [Tb.row,hi]
 have el:(Tb.row (Pg.tab n d F) i).length=d:=by rw [Pg.row_tab hi2,Ls.gen_length]
 rw [er] at e h3 el
 refine ⟨g,0,rfl,hr.lt,Nat.le_refl _,some ⟨b,0,none⟩,_,?_,Nat.le_refl _,by rw [el];unfold maxLen;omega,(fun e=>nomatch e),fun j hj=>⟨b,0,rfl,h3.lt,Nat.le_of_lt h1,?_⟩⟩
 ·show w.cell? ⟨g,0+(i*1+0),none⟩=_
  rw [show 0+(i*1+0)=i by omega,hr.cell hi2,e]
 ·show w.cell? ⟨b,0+(j*1+0),none⟩=_
  rw [show 0+(j*1+0)=j by omega,h3.cell hj]
  simp [Ls.nth,hj]
theorem keys_tab (m0 m1 s0 s1 g D ly hd:Nat) (L:List Tok) (i:Nat) (h:(Ca.pg m0 m1 s0 s1 g D ly hd L i).2.1.length=D) :
 Pg.tab g D (Pg.keyAt (Ca.pg m0 m1 s0 s1 g D ly hd L i).2.1)=(List.range g).map (Ca.keyAt m0 m1 s0 s1 g D ly hd L i):=by
 unfold Pg.tab Ca.keyAt Pg.key
 rw [h]
 rfl
theorem vals_tab (m0 m1 s0 s1 g D ly hd:Nat) (L:List Tok) (i:Nat) (hl:(Ca.pg m0 m1 s0 s1 g D ly hd L i).2.2.length=g) (h:Pg.Deep D (Ca.pg m0 m1 s0 s1 g D ly hd L i).2.2) :
 Pg.tab g D (Pg.valAt (Ca.pg m0 m1 s0 s1 g D ly hd L i).2.2)=(List.range g).map (Ca.valAt m0 m1 s0 s1 g D ly hd L i):=by
 unfold Pg.tab
 refine List.map_congr_left fun t ht=>?_
 have ht:t<g:=by simpa using ht
 unfold Ca.valAt Gp.means
 rw [(h t (by omega)).1]
 rfl
theorem page_deep {m0 m1 g D:Nat} {h4 h5 h6:Int} {ks vs:List (Int × Int × List Int)} (h:Pg.Page [(m0:Int),m1,g,D,h4,h5,h6] ks vs) (b0:m0=2\/m0=4\/m0=8) (b1:m1=2\/m1=4\/m1=8):ks.length=D/\vs.length=g/\Pg.Deep g ks/\Pg.Deep D vs:=by
 obtain ⟨_,_,h1,h2,h3,h4,_⟩:=h
 exact ⟨h1,h2,Pg.deep_of b0 h3,Pg.deep_of b1 h4⟩
theorem ptrs_at {M sl:List Int} {k i:Nat} (h:i<k):(ptrs M sl k)[i]?=some (.pointer (some ⟨pgb M sl i,0,none⟩)):=by simp [ptrs,h]
end Cc
end Go.Proofs.YtnchnlgnnlgjcaaGreat
