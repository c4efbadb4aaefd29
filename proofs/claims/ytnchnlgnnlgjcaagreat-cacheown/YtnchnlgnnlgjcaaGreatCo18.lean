import Derived.Test.YtnchnlgnnlgjcaaGreatRows
import Derived.RangeFuncNested
import Derived.RangeFuncBound
import Derived.RangeFuncCalls
import Derived.RangeFuncLeaves
import Derived.RangeFuncBox
import Derived.Shelf.Abstract
import Derived.Shelf.RegionOpen
import Derived.OwnWalkIn
import Derived.TacticsInMore
import Derived.LoopNIn
import Derived.LoopIn
import Derived.Test.YtnchnlgnnlgjcaaGreatCo17
import Derived.Deep.QuietTactic
import Derived.BigQuiet
import Derived.Test.YtnchnlgnnlgjcaaGreatCo12
set_option linter.unusedVariables false
set_option linter.unusedSimpArgs false
namespace Go.Proofs.YtnchnlgnnlgjcaaGreat
open Go.RowKit Go.Shelf
def SeqAt (m:Nat) (P:Program) (gf:Nat) (lb:Array Value) (enc:Nat->Array Value) (Kp:World->World->Prop) (N:Nat) (w0:World):Prop :=
 ∀ (l:Nat) (J Jx:Nat->World->Prop) (W:World),Below w0.heap.size w0 W->AbidesFrom W.heap.size J->AbidesFrom W.heap.size Jx ->
   (∀ k W1,k<N->J k W1->YieldAt Fence.wide (m - 1) P l (enc k) W1 fun e W'=>(e=.returned (.bool true)/\J (k+1) W'/\Kp W1 W')\/(e=.returned (.bool false)/\Jx (k+1) W')) ->
   J 0 W->CallsIn Fence.wide m P gf (#[.func (.yield l) #[] #[]] ++ lb) W fun e W'=>(∃ v,e=.returned v)/\(J N W'\/∃ k,k<=N/\Jx k W')
def leftAt (B:Nat) (Kp:World->World->Prop) (I:Nat->World->Prop) (Ix:Code->Nat->World->Prop) (k:Nat) (W:World) (e:Exit) (W':World):Prop :=
 KeepsFrom B W W'/\((e=.normal/\Kp W W'/\I (k+1) W')\/∃ c,((c=.ret/\e=.ret)\/(∃ i,c=.exit i/\e=.exit i))/\Ix c (k+1) W')
end Go.Proofs.YtnchnlgnnlgjcaaGreat
namespace Go.Proofs.YtnchnlgnnlgjcaaGreat
open Go.RowKit Go.Shelf
attribute [local go_sem] Oper.semAt_some
namespace Rt
open Rn (pl pl_lt pl_inj pl_shift pl_zero)
def tv (x:Tv):Value:=.agg #[key x,val x]
theorem all_any (g:Nat) (w:World) :
 Calls Tryz.prog 77 #[.pointer (some ⟨g,0,none⟩)] w fun e w'=>e=.returned (.func (.func 110) #[] #[.pointer (some ⟨w.heap.size,0,none⟩)])/\w'=w.alloc (.cells #[.pointer (some ⟨g,0,none⟩)] 107):=by
 go_enter Tryz.func77,Tryz.ntmps77
 go_wp2
 go_ret
 exact ⟨rfl,rfl⟩
def Kp (Bs g r:Nat) (A B:World):Prop:=B.heap[Bs]?=A.heap[Bs]?/\B.heap[g]?=A.heap[g]?/\B.heap[r]?=A.heap[r]?
theorem Kp.trans {Bs g r:Nat} {A B C:World} (h:Kp Bs g r A B) (k:Kp Bs g r B C):Kp Bs g r A C:=⟨k.1.trans h.1,k.2.1.trans h.2.1,k.2.2.trans h.2.2⟩
theorem kp_put {Bs g r:Nat} {w:World} (h1:Bs<w.heap.size) (h2:g<w.heap.size) (h3:r<w.heap.size) (W:World) (l:Nat) (o o':Obj) (hl:w.heap.size<=l) (_:W.heap[l]?=some o) (_:o.isCells=false) (_:o.isWalk=false):Kp Bs g r W (W.putObj l o') :=
 ⟨World.putObj_heap_other (by omega),World.putObj_heap_other (by omega),World.putObj_heap_other (by omega)⟩
set_option maxRecDepth 100000 in
set_option maxHeartbeats 2000000 in
theorem all1 (m:Nat) (hm:1<=m) (l Bs g r n f:Nat) (ls:List Tv) (J Jx:Nat->World->Prop)
 (hJ:∀ s A q,J s A->J s (A.drewN q))
 (hY:∀ k W,k<ls.length->J k W->YieldAt Fence.wide (m - 1) Tryz.prog l #[.int .i64 (k:Int),tv (nth ls k)] W fun e W' =>
   (e=.returned (.bool true)/\J (k+1) W'/\Kp Bs g r W W')\/(e=.returned (.bool false)/\Jx (k+1) W'))
 (W:World) (hBs:W.cell? ⟨Bs,0,none⟩=some (.pointer (some ⟨g,0,none⟩))) (hR:RingAt W g r n f ls) (h0:J 0 W) :
 CallsIn Fence.wide m Tryz.prog 110 #[.func (.yield l) #[] #[],.pointer (some ⟨Bs,0,none⟩)] W fun e W'=>(∃ v,e=.returned v) /\
  (J ls.length W'\/∃ k,k<=ls.length/\Jx k W'):=by
 have hmx:Tryz.prog.follows .mixedOrders=true:=by kernel_rfl
 obtain ⟨c0,c1,c2,_⟩:=hR.cells
 obtain ⟨n0,n1,n2⟩:=hR.nums
 obtain ⟨c,ec⟩:∃ c,ls.length=c:=⟨_,rfl⟩
 have EC:Hid (ls.length=c):=ec
 have HH:Hid (RingAt W g r n f ls):=hR
 rw [ec] at c2 n0
 refine callsIn_of_wp Tryz.func110 rfl trivial ?_ rfl
 simp only [Tryz.ntmps110,List.size_toArray,List.length_cons,List.length_nil,Nat.reduceAdd,Nat.reduceSub,Array.replicate_succ,Array.replicate_zero,List.push_toArray,List.append_toArray,List.nil_append,List.cons_append]
 clear ec hR
 gi_wp2
 gi_loopw [8] (fun i wr=>∃ k:Nat,k<=c/\i=.int .i64 k/\Hid (J k wr)/\Hid (Kp Bs g r W wr)) (fun i _=>c - (intOf i).toNat)
 case atStart=>exact ⟨0,Nat.zero_le _,rfl,h0,rfl,rfl,rfl⟩
 case round =>
  obtain ⟨k,hk,rfl,hJs,hnx⟩:=hrel
  by_cases hlt:k<c
  ·have RW:Hid (RingAt wr g r n f ls):=HH.out.of_block hnx.out.2.1 hnx.out.2.2
   have b0:wr.cell? ⟨Bs,0,none⟩=some (.pointer (some ⟨g,0,none⟩)):=(World.cell?_of_block (a:=⟨Bs,0,none⟩) hnx.out.1).trans hBs
   have d0:=RW.out.hd.c0
   have t:=RW.out.thing (i:=k) (by rw [EC.out];exact hlt)
   have hp:pl f n k<n:=pl_lt (by omega)
   obtain ⟨p,ep⟩:∃ p,pl f n k=p:=⟨_,rfl⟩
   have EP:Hid (pl f n k=p):=ep
   obtain ⟨x,ex⟩:∃ x,nth ls k=x:=⟨_,rfl⟩
   have EX:Hid (nth ls k=x):=ex
   rw [ep] at t hp
   rw [ex] at t
   obtain ⟨⟨xa,xn,xc⟩,⟨ya,yn,yc⟩⟩:=x
   obtain ⟨y1,y2⟩:=t
   have t1:wr.cell? ⟨r,p*2,none⟩=some (.slice xa xn xc):=y1
   have t2:wr.cell? ⟨r,p*2+1,none⟩=some (.slice ya yn yc):=y2
   clear y1 y2
   clear ep ex c0 c1 c2 hBs
   gi_wp2
   gi_region_with_o (first
    | (refine ⟨trivial,?_⟩;gi_at_call 96;refine (callsIn_wide.2 (place_any g r n f ls.length k p _ (RW.out.hd.keep ((Below.refl _ _).drew)) (by omega) n1 (by omega) (by omega) EP.out)).mono ?_;rintro e w' ⟨rfl,q,rfl⟩;obtain ⟨fn,tmps,assign,body,hy,hR⟩:=hY k (wr.drewN (1+q)) (by rw [EC.out];exact hlt) (hJ _ _ _ hJs.out);rw [EX.out] at hy;simp only [tv,key,val] at hy)
    | (refine hR.mono ?_;rintro e W3 hpost;obtain ⟨bq,rfl,hb⟩:∃ bq:Bool,e=.returned (.bool bq)/\Hid ((bq=true->J (k+1) W3/\Kp Bs g r (wr.drewN (1+q)) W3)/\(bq=false->Jx (k+1) W3)):=by {rcases hpost with ⟨h1,h2,h3⟩ | ⟨h1,h2⟩;exact ⟨true,h1,fun _=>⟨h2,h3⟩,fun h=>absurd h (by decide)⟩;exact ⟨false,h1,fun h=>absurd h (by decide),fun _=>h2⟩};clear hpost))
   all_goals
    cases bq with
    | true =>
      obtain ⟨hj,hk3⟩:=hb.out.1 rfl
      have KW:Hid (Kp Bs g r wr W3):=hk3
      have JW:Hid (J (k+1) W3):=hj
      clear hj hk3 hb
      gi_wp2
      go_roundw
      case rel=>exact ⟨k+1,by omega,by go_num,JW.out,hnx.out.trans KW.out⟩
      case measure=>simp [intOf];omega
    | false =>
      have hx:=hb.out.2 rfl
      gi_wp2
      refine bodyPost_ret (results_none rfl _ _ _) rfl ?_
      exact ⟨⟨_,rfl⟩,.inr ⟨k+1,by have:=EC.out;omega,hx⟩⟩
  ·have ek:k=c:=by omega
   subst ek
   gi_wp2
   go_end0
   exact ⟨⟨_,rfl⟩,.inl (by rw [EC.out];exact hJs.out)⟩
theorem all_stops (m:Nat) (hm:1<=m) (Bs g r n f:Nat) (ls:List Tv) (w:World) (hB:Bs<w.heap.size) (hBs:w.cell? ⟨Bs,0,none⟩=some (.pointer (some ⟨g,0,none⟩))) (hR:RingAt w g r n f ls) :
 SeqAt m Tryz.prog 110 #[.pointer (some ⟨Bs,0,none⟩)] (fun k=>#[Value.int .i64 (k:Int),tv (nth ls k)]) (Kp Bs g r) ls.length w:=fun l J Jx W hW hJ _ hY h0 =>
 all1 m hm l Bs g r n f ls J Jx (fun s A q h=>hJ s A (A.drewN q) none h ⟨rfl,rfl,rfl,Nat.le_refl _,fun _ _ _=>rfl⟩ (fun r e=>by cases e)) hY W ((hW.cell (p:=⟨Bs,0,none⟩) hB).trans hBs) (hR.keep hW) h0
end Rt
end Go.Proofs.YtnchnlgnnlgjcaaGreat
namespace Go.Proofs.YtnchnlgnnlgjcaaGreat
open Go.RowKit Go.Shelf
theorem range_at2 {P:Program} {g:Operand} {ps:Array Tmp} {assign body:Code} {Q:Exit->Act->World->Prop} {a:Act} {w:World} {m:Nat} (h1:1<=m) {gf:Nat} {lb:Array Value} (hg:a.eval g=.func (.func gf) #[] lb) (eg:∀ args w,(callFunc gf args).run P w=.ok (.enter gf args) w)
 {enc:Nat->Array Value} {Kp:World->World->Prop} {N:Nat} {w0:World} (hseq:SeqAt (m - 1) P gf lb enc Kp N w0) (hKt:∀ {A B C:World},Kp A B->Kp B C->Kp A C)
 (hKb:∀ (W:World) (l:Nat) (o o':Obj),w.heap.size<=l->W.heap[l]?=some o->o.isCells=false->o.isWalk=false->Kp W (W.putObj l o')) (hb0:Below w0.heap.size w0 w) (hps:∀ k,(enc k).size=ps.size)
 (I:Nat->World->Prop) (Ix:Code->Nat->World->Prop) (hI:OwnFrom w.heap.size I) (hIx:∀ c,OwnFrom w.heap.size (Ix c)) (h0:I 0 w) (I1:Nat->Act->World->Prop) (hI1:∀ ak,OwnFrom w.heap.size (fun k W=>I1 k ak W))
 (hassign:∀ (l k:Nat) (W:World) (K:Act->World->Prop),k<N->I k W->(∀ ak W1,KeepsFrom w.heap.size W W1->Kp W W1->I1 k ak W1->K ak W1)->assign.wpIn (Fence.wide.inRound l) (m - 1 - 1) P (Exit.then K (fun _ _ _=>False)) { tmps:=(ps.zip (enc k)).foldl (fun t (p,v)=>t.setIfInBounds p v) a.tmps,defers:=[] } W)
 (hbody:∀ (l k:Nat) (ak:Act) (W:World),k<N->I1 k ak W->body.wpIn (Fence.wide.inRound l) (m - 1 - 1) P (fun e _ W'=>leftAt w.heap.size Kp I Ix k W e W') ak W)
 (hdone:∀ (D:Nat) (W:World),w.heap.size<=D->I N W->W.heap[D]?=some (.deferred (some []))->Q .normal { a with defers:={ target:=.collected D,args:=#[] } :: a.defers } W)
 (hstop:∀ (D:Nat) (c:Code) (k:Nat) (W:World),w.heap.size<=D->k<=N->Ix c k W->W.heap[D]?=some (.deferred (some []))->c.wpIn Fence.wide m P Q { a with defers:={ target:=.collected D,args:=#[] } :: a.defers } W) :
 (Code.rangeFunc g ps assign body).wpIn Fence.wide m P Q a w:=by
 refine wpIn_rangeFunc fun fn hfn=>?_
 let lp:LoopState->Option Code->Obj:=fun st pe=>.loop { state:=st,pending:=pe,fn,tmps:=a.tmps,params:=ps,assign,body,defers:=w.heap.size }
 -- the two blocks that the statement lays: the rounds' deferred calls,the loop's record
 let Z:=w.heap.size
 let two:World->Obj->Prop:=fun W o=>W.heap[Z+1]?=some o/\W.heap[Z]?=some (.deferred (some []))
 obtain ⟨W1,hW1⟩:∃ W1,(w.alloc (.deferred (some []))).alloc (lp .ready none)=W1:=⟨_,rfl⟩
 have t1:two W1 (lp .ready none):=by
  refine ⟨?_,?_⟩
  ·have:=World.alloc_heap_new (w.alloc (.deferred (some []))) (lp .ready none)
   rw [World.size_alloc,hW1] at this
   exact this
  ·rw [<-hW1]
   exact (Below.heap_alloc _ _ _ (by show w.heap.size<_;simp)).trans (World.alloc_heap_new w _)
 have sz1:W1.heap.size=Z+1+1:=by rw [<-hW1];simp;rfl
 have i1:I 0 W1:=by rw [<-hW1];exact hI.alloc _ (hI.alloc _ h0)
 have b1:Below w0.heap.size w0 W1:=by
  rw [<-hW1]
  exact ((hb0.alloc hb0.size _).alloc (by have:=hb0.size;simp;omega) _)
 have keep2:∀ {A B:World} {row:Option Nat} {o:Obj},two A o->o.isWalk=false->A.grownBy B row->(∀ r,row=some r->W1.heap.size<=r/\∃ o:Obj,A.heap[r]?=some o/\o.isWalk=true)->two B o:=fun h ho hgr hr =>
  ⟨(grownBy_keeps hgr (fun r e=>(hr r e).2) h.1 ho).trans h.1,(grownBy_keeps hgr (fun r e=>(hr r e).2) h.2 rfl).trans h.2⟩
 have wide:∀ {A:World} {row:Option Nat},(∀ r,row=some r->W1.heap.size<=r/\∃ o:Obj,A.heap[r]?=some o/\o.isWalk=true)->∀ r,row=some r->w.heap.size<=r/\∃ o:Obj,A.heap[r]?=some o/\o.isCells=false:=fun hr r e=>by
  obtain ⟨q1,o,q2,q3⟩:=hr r e
  exact ⟨by have:w.heap.size=Z:=rfl;omega,o,q2,Obj.not_cells_of_walk q3⟩
 refine ⟨Z+1,[{ target:=.collected Z,args:=#[] }],W1,{ target:=.fn (.func gf) lb,args:=#[.func (.yield (Z+1)) #[] #[]] },W1,gf,#[.func (.yield (Z+1)) #[] #[]] ++ lb,W1,?_,?_,?_,?_,fun _=>h1,?_⟩
 ·rw [<-hW1];exact run_enterLoop_outer _ _ _ _ _
 ·simp only [resolve,hg]
  simp [go_sem]
 ·intro f' hf'
  simp [Target.leads] at hf'
  subst hf'
  trivial
 ·simp [invoke,go_sem,eg]
 refine (hseq (Z+1) (fun k W=>I k W/\two W (lp .ready none)) (fun k W=>∃ c,Ix c k W/\two W (lp .done (some c))) W1 b1
  (fun s A B row hs hgr hr=>⟨hI s A B row hs.1 hgr (wide hr),keep2 hs.2 rfl hgr hr⟩)
  (fun s A B row hs hgr hr=>by obtain ⟨c,q1,q2⟩:=hs;exact ⟨c,hIx c s A B row q1 hgr (wide hr),keep2 q2 rfl hgr hr⟩)
  (fun k W hk hJ=>?_) ⟨i1,t1⟩).mono ?_
 ·-- one round: it begins (the record is busy),the body runs,it ends
  obtain ⟨hi,hl,hd⟩:=hJ
  have hlt:Z+1<W.heap.size:=(Array.getElem?_eq_some_iff.1 hl).1
  refine ⟨fn,_,assign,body,run_yield (P:=P) (args:=enc k) hl (hps k),roundIn_of_wpIn hfn (hassign _ k W _ hk hi fun ak WA hka hkpa hia=>⟨_,run_beginRound (hka.same _ _ (Nat.le_succ Z) hl rfl) rfl,?_⟩)⟩
  have hla:WA.heap[Z+1]?=some (lp .ready none):=hka.same _ _ (Nat.le_succ Z) hl rfl
  have hda:WA.heap[Z]?=some (.deferred (some [])):=hka.same _ _ (Nat.le_refl Z) hd rfl
  have hlta:Z+1<WA.heap.size:=(Array.getElem?_eq_some_iff.1 hla).1
  have l2:two (WA.putObj (Z+1) (lp .busy none)) (lp .busy none):=⟨World.putObj_heap_same hlta,(World.putObj_heap_other (by omega)).trans hda⟩
  refine wpIn_mono (hbody _ k _ _ hk ((hI1 ak).putObj _ hia (Nat.le_succ Z) hla rfl)) fun e a3 W3 hp=>?_
  obtain ⟨hk3,hp⟩:=hp
  have l3:two W3 (lp .busy none):=⟨hk3.same _ _ (Nat.le_succ Z) l2.1 rfl,hk3.same _ _ (Nat.le_refl Z) l2.2 rfl⟩
  have l4:∀ o,two (W3.putObj (Z+1) o) o:=fun o=>⟨World.putObj_heap_same (Array.getElem?_eq_some_iff.1 l3.1).1,(World.putObj_heap_other (by omega)).trans l3.2⟩
  rcases hp with ⟨rfl,hkp,hi3⟩ | ⟨c,hc,hx⟩
  ·exact ⟨_,_,run_endRound (P:=P) none l3.1,.inl ⟨rfl,⟨hI.putObj _ hi3 (Nat.le_succ Z) l3.1 rfl,l4 _⟩,hKt (hKt (hKt hkpa (hKb _ _ _ _ (Nat.le_succ Z) hla rfl rfl)) hkp) (hKb _ _ _ _ (Nat.le_succ Z) l3.1 rfl rfl)⟩⟩
  ·rcases hc with ⟨rfl,rfl⟩ | ⟨i,rfl,rfl⟩
   ·exact ⟨_,_,run_endRound (P:=P) (some .ret) l3.1,.inr ⟨rfl,_,(hIx _).putObj _ hx (Nat.le_succ Z) l3.1 rfl,l4 _⟩⟩
   ·exact ⟨_,_,run_endRound (P:=P) (some (.exit i)) l3.1,.inr ⟨rfl,_,(hIx _).putObj _ hx (Nat.le_succ Z) l3.1 rfl,l4 _⟩⟩
 ·-- behind the iterator: the record tells whether a round has left
  rintro e W2 ⟨⟨v,rfl⟩,h⟩
  rcases h with ⟨hi,hl,hd⟩ | ⟨k,hk,c,hx,hl,hd⟩
  ·exact ⟨none,_,run_endLoop (P:=P) hl (by simp),hdone _ _ (Nat.le_refl _) (hI.putObj _ hi (Nat.le_succ Z) hl rfl) ((World.putObj_heap_other (by omega)).trans hd)⟩
  ·exact ⟨some c,_,run_endLoop (P:=P) hl (by simp),hstop _ c k _ (Nat.le_refl _) hk ((hIx c).putObj _ hx (Nat.le_succ Z) hl rfl) ((World.putObj_heap_other (by omega)).trans hd)⟩
end Go.Proofs.YtnchnlgnnlgjcaaGreat
namespace Go.Proofs.YtnchnlgnnlgjcaaGreat
open Go.RowKit Go.Shelf
attribute [local go_sem] Oper.semAt_some
namespace Rt
open Rn (pl pl_lt pl_inj pl_shift pl_zero)
theorem ring_ownFrom {β:Type} (B g r n f:Nat) (L:β->List Tv):OwnFrom (β:=β) B (fun s W=>RingAt W g r n f (L s)):=fun s A A' row hs hg hr=>by
 obtain ⟨F,h1,h2,h3⟩:=hs
 have far:∀ q t,Ty A q t->A'.heap[q]?=A.heap[q]?:=fun q t ht=>hg.block q ht.lt fun e=>by
  obtain ⟨_,o,q1,q2⟩:=hr q e.symm
  obtain ⟨cs,fz,q3⟩:=ht
  rw [q3] at q1
  cases q1
  cases q2
 exact ⟨F,h1.of_block (far g _ (ty_row h1)),h2.of_block (far r _ (ty_row h2)),h3⟩
theorem But.keeps {g r n f:Nat} {l:List Tv} {w w':World} (h:But g r w w') (hr:RingAt w g r n f l):KeepsOthers w w' :=
 ⟨h.size,fun k o hk ho=>by
  obtain ⟨F,h1,h2,_⟩:=hr
  have ne:∀ q t,Ty w q t->¬ k=q:=fun q t ht e=>by
   obtain ⟨cs,fz,q3⟩:=ht
   rw [e,q3] at hk
   cases hk
   cases ho
  rw [h.2 k (Array.getElem?_eq_some_iff.1 hk).1 (ne g _ (ty_row h1)) (ne r _ (ty_row h2))]
  exact hk⟩
theorem boxed_ownFrom {β:Type} (B0 B:Nat) (t:TypeId) (v:Value):OwnFrom (β:=β) B0 (fun _ W=>Boxed W B t v):=fun s A A' row hs hg hr =>
 hs.kept hg fun e=>by obtain ⟨_,o,q1,q2⟩:=hr _ e.symm;rw [show A.heap[B]?=_ from hs] at q1;cases q1;cases q2
theorem row_own {A A':World} {B b n:Nat} {t:TypeId} {f:Nat->Value} {row:Option Nat} (hs:A.rowIs b t n f) (hg:A.grownBy A' row) (hr:∀ r,row=some r->B<=r/\∃ o:Obj,A.heap[r]?=some o/\o.isCells=false):A'.rowIs b t n f :=
 hs.of_block (hg.block b hs.lt fun e=>by
  obtain ⟨_,o,q1,q2⟩:=hr b e.symm
  obtain ⟨cs,fz,q3⟩:=ty_row hs
  rw [q3] at q1
  cases q1
  cases q2)
def tvc (x:Tv) (i:Nat):Value:=if i=0 then key x else val x
theorem tv_alloc (w:World) (x:Tv):(w.alloc (.cells #[.slice x.1.1 x.1.2.1 x.1.2.2,.slice x.2.1 x.2.2.1 x.2.2.2] 111)).rowIs w.heap.size 111 2 (tvc x) :=
 World.rowIs_alloc w #[.slice x.1.1 x.1.2.1 x.1.2.2,.slice x.2.1 x.2.2.1 x.2.2.2] 111 (tvc x) (by
  intro i hi
  match i,hi with
  | 0,_=>rfl
  | 1,_=>rfl)
theorem keeps_alloc (w:World) (o:Obj):KeepsOthers w (w.alloc o) :=
 ⟨by simp,fun k o' hk _=>(Below.heap_alloc _ _ _ (Array.getElem?_eq_some_iff.1 hk).1).trans hk⟩
theorem ty_box {W:World} {B:Nat} {t:TypeId} {v:Value} (h:Boxed W B t v):Ty W B t:=⟨_,_,h⟩
set_option maxRecDepth 100000 in
set_option maxHeartbeats 2000000 in
theorem copy_any (g r n f:Nat) (l:List Tv) (w:World) (h:RingAt w g r n f l) :
 Calls Tryz.prog 85 #[.pointer (some ⟨g,0,none⟩)] w fun e w'=>∃ o q,e=.returned (.pointer (some ⟨o,0,none⟩))/\RingAt w' o q n 0 l/\w.heap.size<=o/\w.heap.size<=q/\Below w.heap.size w w':=by
 obtain ⟨n0,n1,n2⟩:=h.nums
 have hmk:=run_make_rows (P:=Tryz.prog) 152 111 (.agg #[.slice none 0 0,.slice none 0 0]) #[.slice none 0 0,.slice none 0 0] 2 48 rfl Tryz.underlying152 Tryz.infoTokR .i64 .i64 n (by omega) (by omega)
 have HR:Hid (RingAt w g r n f l):=h
 have glt:=h.lt
 clear h
 refine (callsIn_wide (n:=6)).1 ?_
 refine callsIn_of_wp_marks Tryz.func85 rfl trivial ?_ rfl
 simp only [Tryz.ntmps85,List.size_toArray,List.length_cons,List.length_nil,Nat.reduceAdd,Nat.reduceSub,Array.replicate_succ,Array.replicate_zero,List.push_toArray,List.append_toArray,List.nil_append,List.cons_append]
 refine wpIn_wide.2 ?_
 go_wp2_with (first
  | (go_at_call 95;refine (size_any g r n f l.length _ HR.out.hd).mono ?_;rintro e w' ⟨rfl,hww⟩;cases hww.symm;clear hww)
  | (go_at_call 77;refine (all_any g _).mono ?_;rintro e w' ⟨rfl,hww⟩;cases hww.symm;clear hww))
 clear hmk
 obtain ⟨W0,hW0⟩:∃ W0,(((w.alloc (.cells (madeCells #[.slice none 0 0,.slice none 0 0] (n*2)) 111)).alloc (.cells #[.slice (some ⟨w.heap.size,0,none⟩) n n,.int .i64 0,.int .i64 0] 154)).alloc (.cells #[.pointer (some ⟨w.heap.size+1,0,none⟩)] 107)).alloc (.cells #[.pointer (some ⟨g,0,none⟩)] 107)=W0:=⟨_,rfl⟩
 have hsz:W0.heap.size=w.heap.size+4:=by rw [<-hW0];simp
 have hB0:Below w.heap.size w W0:=by rw [<-hW0];exact ((((Below.refl _ w).alloc (Nat.le_refl _) _).alloc (by simp) _).alloc (by simp;omega) _).alloc (by simp;omega) _
 have bO:Boxed W0 (w.heap.size+1+1) 107 (.pointer (some ⟨w.heap.size+1,0,none⟩)):=by
  have:=(Boxed.new ((w.alloc (.cells (madeCells #[.slice none 0 0,.slice none 0 0] (n*2)) 111)).alloc (.cells #[.slice (some ⟨w.heap.size,0,none⟩) n n,.int .i64 0,.int .i64 0] 154)) 107 (.pointer (some ⟨w.heap.size+1,0,none⟩))).alloc (.cells #[.pointer (some ⟨g,0,none⟩)] 107)
  rw [World.size_alloc,World.size_alloc,hW0] at this
  exact this
 have bP:Boxed W0 (w.heap.size+1+1+1) 107 (.pointer (some ⟨g,0,none⟩)):=by
  have:=Boxed.new (((w.alloc (.cells (madeCells #[.slice none 0 0,.slice none 0 0] (n*2)) 111)).alloc (.cells #[.slice (some ⟨w.heap.size,0,none⟩) n n,.int .i64 0,.int .i64 0] 154)).alloc (.cells #[.pointer (some ⟨w.heap.size+1,0,none⟩)] 107)) 107 (.pointer (some ⟨g,0,none⟩))
  rw [World.size_alloc,World.size_alloc,World.size_alloc,hW0] at this
  exact this
 have rO:RingAt W0 (w.heap.size+1) w.heap.size n 0 []:=by
  have:=World.rowIs_alloc (w.alloc (.cells (madeCells #[.slice none 0 0,.slice none 0 0] (n*2)) 111)) #[.slice (some ⟨w.heap.size,0,none⟩) n n,.int .i64 0,.int .i64 0] 154 (rc w.heap.size n 0 0) (by
   intro i hi
   match i,hi with
   | 0,_=>rfl
   | 1,_=>rfl
   | 2,_=>rfl)
  rw [World.size_alloc] at this
  refine ⟨fun j=>#[Value.slice none 0 0,.slice none 0 0][j % 2]!,?_,?_,Nat.zero_le _,n1,by omega,fun i hi=>absurd hi (Nat.not_lt_zero _)⟩
  ·rw [<-hW0];exact (this.alloc _).alloc _
  ·rw [<-hW0];exact (((row_made w #[.slice none 0 0,.slice none 0 0] (n*2) 111).alloc _).alloc _).alloc _
 rw [hW0]
 clear hW0
 refine (wpIn_wide (n:=6)).1 ?_
 refine range_at2 (m:=6) (by omega) (gf:=110) (lb:=#[.pointer (some ⟨w.heap.size+1+1+1,0,none⟩)]) rfl (enters_of Tryz.func110 (by kernel_rfl) rfl)
  (all_stops 5 (by omega) (w.heap.size+1+1+1) g r n f l W0 (by omega) bP.cell (HR.out.keep hB0)) (fun h k=>h.trans k) (kp_put (by omega) (by omega) (by omega)) (Below.refl _ _) (fun _=>rfl)
  (fun k W=>RingAt W (w.heap.size+1) w.heap.size n 0 (l.take k)/\Boxed W (w.heap.size+1+1) 107 (.pointer (some ⟨w.heap.size+1,0,none⟩))/\Boxed W (w.heap.size+1+1+1) 107 (.pointer (some ⟨g,0,none⟩))/\Below w.heap.size w W)
  (fun _ _ _=>False)
  (OwnFrom.and (ring_ownFrom _ _ _ _ _ (fun k=>l.take k)) (OwnFrom.and (boxed_ownFrom _ _ _ _) (OwnFrom.and (boxed_ownFrom _ _ _ _) (ownFrom_below (Nat.le_refl _) (by omega)))))
  (fun _ _ _ _ _ hs _ _=>hs)
  ⟨rO,bO,bP,hB0⟩
  (fun k ak W=>∃ B x,nth l k=x/\ak={ tmps:=#[.pointer (some ⟨g,0,none⟩),undef,.pointer none,.pointer (some ⟨w.heap.size+1+1,0,none⟩),undef,.pointer (some ⟨B,0,none⟩),.pointer (some ⟨g,0,none⟩),.int .i64 n,.slice (some ⟨w.heap.size,0,none⟩) n n,.agg #[.slice (some ⟨w.heap.size,0,none⟩) n n,.int .i64 0,.int .i64 0],.pointer (some ⟨w.heap.size+1,0,none⟩),.pointer (some ⟨g,0,none⟩),.func (.func 110) #[] #[.pointer (some ⟨w.heap.size+1+1+1,0,none⟩)],.int .i64 k,tv x,undef,undef,undef,undef],defers:=[] }/\W.rowIs B 111 2 (tvc x)/\¬ B=w.heap.size/\RingAt W (w.heap.size+1) w.heap.size n 0 (l.take k)/\Boxed W (w.heap.size+1+1) 107 (.pointer (some ⟨w.heap.size+1,0,none⟩))/\Boxed W (w.heap.size+1+1+1) 107 (.pointer (some ⟨g,0,none⟩))/\Below w.heap.size w W)
  ?own ?assign ?body ?done ?stop
 case own =>
  rintro ak k A A' row ⟨B,x,e1,e2,h0,hne,h1,h2,h3,h4⟩ hgr hr
  exact ⟨B,x,e1,e2,row_own h0 hgr hr,hne,ring_ownFrom _ _ _ _ _ (fun k=>l.take k) k A A' row h1 hgr hr,boxed_ownFrom _ _ _ _ k A A' row h2 hgr hr,boxed_ownFrom _ _ _ _ k A A' row h3 hgr hr,ownFrom_below (Nat.le_refl _) (by omega) k A A' row h4 hgr hr⟩
 case assign =>
  rintro lp k W K hk ⟨hr,hv,hpp,hB⟩ hK
  obtain ⟨x,ex⟩:∃ x,nth l k=x:=⟨_,rfl⟩
  have EX:Hid (nth l k=x):=ex
  have hK2:=hK
  rw [ex]
  clear ex hK
  obtain ⟨⟨xa,xn,xc⟩,⟨ya,yn,yc⟩⟩:=x
  simp only [tv,key,val]
  gi_wp2
  have hbx:=box_below W (.cells #[.slice xa xn xc,.slice ya yn yc] 111)
  refine hK2 _ _ ((keeps_alloc W _).from _) ⟨?_,?_,?_⟩ ⟨W.heap.size,((xa,xn,xc),(ya,yn,yc)),EX.out,rfl,tv_alloc W ((xa,xn,xc),(ya,yn,yc)),?_,hr.keep hbx,hv.alloc _,hpp.alloc _,hB.trans (hbx.mono hB.size)⟩
  ·exact hbx.block _ (ty_box hpp).lt
  ·exact hbx.block _ (Nat.lt_of_lt_of_le glt.1 hB.size)
  ·exact hbx.block _ (Nat.lt_of_lt_of_le glt.2 hB.size)
  ·have:=hr.lt.2;omega
 case body =>
  rintro lp k ak W hk ⟨B,x,ex,rfl,hbx,hBne,hr,hv,hpp,hB⟩
  obtain ⟨⟨xa,xn,xc⟩,⟨ya,yn,yc⟩⟩:=x
  have EX:Hid (nth l k=((xa,xn,xc),(ya,yn,yc))):=ex
  have hc:=hv.cell
  have q0:W.cell? ⟨B,0,none⟩=some (.slice xa xn xc):=hbx.cell (show 0<2 by decide)
  have q1:W.cell? ⟨B,1,none⟩=some (.slice ya yn yc):=hbx.cell (show 1<2 by decide)
  have RO:Hid (RingAt W (w.heap.size+1) w.heap.size n 0 (l.take k)):=hr
  have hlk:(l.take k).length<n:=by rw [List.length_take];omega
  clear ex hr hbx
  simp only [tv,key,val]
  gi_wp2_with (refine ⟨trivial,?_⟩;gi_at_call 60;refine (CallsIn.inRound lp (callsIn_wide.2 (push_ok (w.heap.size+1) w.heap.size n 0 ((xa,xn,xc),(ya,yn,yc)) (l.take k) _ RO.out hlk))).mono ?_;rintro e W2 ⟨rfl,hr2,hb2⟩)
  have e:l.take (k+1)=l.take k ++ [((xa,xn,xc),(ya,yn,yc))]:=by rw [take_succ hk,EX.out]
  have far:∀ q v,Boxed W q 107 v->Boxed W2 q 107 v:=fun q v hq=>by
   obtain ⟨F,h1,h2,_⟩:=RO.out
   exact (hb2.2 q (ty_box hq).lt ((ty_box hq).ne (ty_row h1) (by decide)) ((ty_box hq).ne (ty_row h2) (by decide))).trans hq
  have bl:Below w.heap.size W W2:=hb2.below (by omega) (Nat.le_refl _) hB.size
  exact ⟨(hb2.keeps RO.out).from _,.inl ⟨rfl,⟨(far _ _ hpp).trans hpp.symm,bl.block _ glt.1,bl.block _ glt.2⟩,by rw [e];exact hr2,far _ _ hv,far _ _ hpp,hB.trans bl⟩⟩
 case done =>
  rintro D W hD ⟨hr,hv,hpp,hB⟩ hK
  have hc:=hv.cell
  go_wp2
  refine ⟨by simp,.inl ⟨_,_,rfl,run_takeDeferred hK,?_⟩⟩
  have hq:=belowK_b (w:=w) (Nat.le_refl _) W D _ (.deferred none) (by omega) hK rfl rfl
  rw [List.take_length] at hr
  exact ⟨_,results_tmp rfl _ _ _,w.heap.size+1,w.heap.size,rfl,hr.of_block (World.putObj_heap_other (by omega)) (World.putObj_heap_other (by omega)),by omega,Nat.le_refl _,hB.trans hq⟩
 case stop =>
  rintro D c k W _ _ h _
  exact h.elim
end Rt
end Go.Proofs.YtnchnlgnnlgjcaaGreat
namespace Go.Proofs.YtnchnlgnnlgjcaaGreat
open Go.RowKit Go.Shelf
attribute [local go_sem] Oper.semAt_some
namespace Cc
open Rt (Kp kp_put all_stops nth tv key val tvc tv_alloc keeps_alloc row_own boxed_ownFrom ty_box box_below RingAt)
theorem stepIn_append {n l:Nat} {P:Program} {w w':World} {ops:Array Oper} {o:Oper} {a:Act} {K:Act->World->Prop} {Q:Exit->Act->World->Prop} {E:Prop} (hgd:o.guard=none) (s x:Operand) (t:TypeId)
 (ho:o.op=.call { callee:=.builtin .append,args:=#[s,x],argTypes:=#[t,t] }) (v y v':Value) (hs:a.eval s=v) (hx:a.eval x=y) (hr:(Builtin.append_ #[t,t] o.type #[v,y]).run P w=.ok v' w') (h:K (a.put o.dst v') w') :
 if Region.wanted o (yielded ops a.tmps)=true then Oper.wpIn (Fence.wide.inRound l) n P o a w K Q else E:=by
 have hw:Region.wanted o (yielded ops a.tmps)=true:=by simp [Region.wanted,hgd]
 rw [if_pos hw]
 refine ⟨fun _ _=>trivial,?_⟩
 rw [Oper.semAt_eq _ _ _ (by rw [ho];simp)]
 unfold execOp
 simp only [ho,resolve,invoke,builtin,Sem.run_bind,Sem.run_pure,Result.andThen_ok,List.map_toArray,List.map_cons,List.map_nil,hs,hx,hr]
 exact h
def Leaves (p:Nat) (W W':World):Prop:=W.heap.size<=W'.heap.size/\∀ k,k<W.heap.size->¬ k=p->¬ Ty W k 74->W'.heap[k]?=W.heap[k]?
theorem Leaves.keeps {p:Nat} {W W':World} {t:TypeId} (h:Leaves p W W') (hp:Ty W p t):KeepsOthers W W' :=
 ⟨h.1,fun k o hk ho=>by
  have ne:∀ q t,Ty W q t->¬ k=q:=fun q t ht e=>by
   obtain ⟨cs,fz,q3⟩:=ht
   rw [e,q3] at hk
   cases hk
   cases ho
  rw [h.2 k (Array.getElem?_eq_some_iff.1 hk).1 (ne p _ hp) (fun e=>ne k _ e rfl)]
  exact hk⟩
theorem Leaves.ty {p q:Nat} {W W':World} {t s:TypeId} (h:Leaves p W W') (hp:Ty W p s) (hq:Ty W q t) (n1:¬ t=s) (n2:¬ t=74):W'.heap[q]?=W.heap[q]? :=
 h.2 q hq.lt (hq.ne hp n1) (fun e=>(hq.ne e n2) rfl)
end Cc
end Go.Proofs.YtnchnlgnnlgjcaaGreat
