import Derived.Test.YtnchnlgnnlgjcaaGreatCa15
import Derived.Deep.QuietTactic
import Derived.BigQuiet
import Derived.Test.YtnchnlgnnlgjcaaGreatCa11
import Derived.Shelf.RegionOpen
set_option linter.unusedVariables false
set_option linter.unusedSimpArgs false
namespace Go.Proofs.YtnchnlgnnlgjcaaGreat
open Go.RowKit Go.Shelf
theorem range_at2 {P:Program} {g:Operand} {ps:Array Tmp} {assign body:Code} {Q:Exit->Act->World->Prop} {a:Act} {w:World} {m:Nat} (h1:1<=m) {gf:Nat} {lb:Array Value} (hg:a.eval g=.func (.func gf) #[] lb) (eg:∀ args w,(callFunc gf args).run P w=.ok (.enter gf args) w)
 {enc:Nat->Array Value} {Kp:World->World->Prop} {N:Nat} {w0:World} (hseq:SeqAt (m - 1) P gf lb enc Kp N w0) (hKt:∀ {A B C:World},Kp A B->Kp B C->Kp A C)
 (hKb:∀ (W:World) (l:Nat) (o o':Obj),w.heap.size<=l->W.heap[l]?=some o->o.isCells=false->o.isWalk=false->Kp W (W.putObj l o')) (hb0:Below w0.heap.size w0 w) (hps:∀ k,(enc k).size=ps.size)
 (I:Nat->World->Prop) (Ix:Code->Nat->World->Prop) (hI:OwnFrom w.heap.size I) (hIx:∀ c,OwnFrom w.heap.size (Ix c)) (h0:I 0 w) (I1:Nat->Act->World->Prop) (hI1:∀ ak,OwnFrom w.heap.size (fun k W=>I1 k ak W))
 (hassign:∀ (l k:Nat) (W:World) (K:Act->World->Prop),k<N->I k W->(∀ ak W1,KeepsFrom w.heap.size W W1->Kp W W1->I1 k ak W1->K ak W1)->assign.wpIn (Fence.wide.inRound l) (m - 1 - 1) P (Exit.then K (fun _ _ _=>False)) { tmps:=(ps.zip (enc k)).foldl (fun t (p,v)=>t.setIfInBounds p v) a.tmps,defers:=[] } W)
 (hbody:∀ (l k:Nat) (ak:Act) (W:World),k<N->I1 k ak W->body.wpIn (Fence.wide.inRound l) (m - 1 - 1) P (fun e _ W'=>leftAt w.heap.size Kp I Ix k W e W') ak W)
 (hdone:∀ (D:Nat) (W:World),w.heap.size<=D->I N W->W.heap[D]?=some (.deferred (some []))->Q .normal { a with defers:={ target:=.collected D,args:=#[] } :: a.defers } W)
 (hstop:∀ (D:Nat) (c:Code) (k:Nat) (W:World),w.heap.size<=D->k<=N->Ix c k W->W.heap[D]?=some (.deferred (some []))->c.wpIn Fence.wide m P Q { a with defers:={ target:=.collected D,args:=#[] } :: a.defers } W) :
 (Code.rangeFunc g ps assign body).wpIn Fence.wide m P Q a w:=by
 refine wpIn_rangeFunc fun fn hfn=>?_
 let lp:LoopState->Option Code->Obj:=fun st pe=>.loop { state:=st,pending:=pe,fn,tmps:=a.tmps,params:=ps,assign,body,defers:=w.heap.size }
 -- the two blocks that the statement lays: the rounds' deferred calls,the loop's record
 let Z:=w.heap.size
 let two:World->Obj->Prop:=fun W o=>W.heap[Z+1]?=some o/\W.heap[Z]?=some (.deferred (some []))
 obtain ⟨W1,hW1⟩:∃ W1,(w.alloc (.deferred (some []))).alloc (lp .ready none)=W1:=⟨_,rfl⟩
 have t1:two W1 (lp .ready none):=by
  refine ⟨?_,?_⟩
  ·have:=World.alloc_heap_new (w.alloc (.deferred (some []))) (lp .ready none)
   rw [World.size_alloc,hW1] at this
   exact this
  ·rw [<-hW1]
   exact (Below.heap_alloc _ _ _ (by show w.heap.size<_;simp)).trans (World.alloc_heap_new w _)
 have sz1:W1.heap.size=Z+1+1:=by rw [<-hW1];simp;rfl
 have i1:I 0 W1:=by rw [<-hW1];exact hI.alloc _ (hI.alloc _ h0)
 have b1:Below w0.heap.size w0 W1:=by
  rw [<-hW1]
  exact ((hb0.alloc hb0.size _).alloc (by have:=hb0.size;simp;omega) _)
 have keep2:∀ {A B:World} {row:Option Nat} {o:Obj},two A o->o.isWalk=false->A.grownBy B row->(∀ r,row=some r->W1.heap.size<=r/\∃ o:Obj,A.heap[r]?=some o/\o.isWalk=true)->two B o:=fun h ho hgr hr =>
  ⟨(grownBy_keeps hgr (fun r e=>(hr r e).2) h.1 ho).trans h.1,(grownBy_keeps hgr (fun r e=>(hr r e).2) h.2 rfl).trans h.2⟩
 have wide:∀ {A:World} {row:Option Nat},(∀ r,row=some r->W1.heap.size<=r/\∃ o:Obj,A.heap[r]?=some o/\o.isWalk=true)->∀ r,row=some r->w.heap.size<=r/\∃ o:Obj,A.heap[r]?=some o/\o.isCells=false:=fun hr r e=>by
  obtain ⟨q1,o,q2,q3⟩:=hr r e
  exact ⟨by have:w.heap.size=Z:=rfl;omega,o,q2,Obj.not_cells_of_walk q3⟩
 refine ⟨Z+1,[{ target:=.collected Z,args:=#[] }],W1,{ target:=.fn (.func gf) lb,args:=#[.func (.yield (Z+1)) #[] #[]] },W1,gf,#[.func (.yield (Z+1)) #[] #[]] ++ lb,W1,?_,?_,?_,?_,fun _=>h1,?_⟩
 ·rw [<-hW1];exact run_enterLoop_outer _ _ _ _ _
 ·simp only [resolve,hg]
  simp [go_sem]
 ·intro f' hf'
  simp [Target.leads] at hf'
  subst hf'
  trivial
 ·simp [invoke,go_sem,eg]
 refine (hseq (Z+1) (fun k W=>I k W/\two W (lp .ready none)) (fun k W=>∃ c,Ix c k W/\two W (lp .done (some c))) W1 b1
  (fun s A B row hs hgr hr=>⟨hI s A B row hs.1 hgr (wide hr),keep2 hs.2 rfl hgr hr⟩)
  (fun s A B row hs hgr hr=>by obtain ⟨c,q1,q2⟩:=hs;exact ⟨c,hIx c s A B row q1 hgr (wide hr),keep2 q2 rfl hgr hr⟩)
  (fun k W hk hJ=>?_) ⟨i1,t1⟩).mono ?_
 ·-- one round: it begins (the record is busy),the body runs,it ends
  obtain ⟨hi,hl,hd⟩:=hJ
  have hlt:Z+1<W.heap.size:=(Array.getElem?_eq_some_iff.1 hl).1
  refine ⟨fn,_,assign,body,run_yield (P:=P) (args:=enc k) hl (hps k),roundIn_of_wpIn hfn (hassign _ k W _ hk hi fun ak WA hka hkpa hia=>⟨_,run_beginRound (hka.same _ _ (Nat.le_succ Z) hl rfl) rfl,?_⟩)⟩
  have hla:WA.heap[Z+1]?=some (lp .ready none):=hka.same _ _ (Nat.le_succ Z) hl rfl
  have hda:WA.heap[Z]?=some (.deferred (some [])):=hka.same _ _ (Nat.le_refl Z) hd rfl
  have hlta:Z+1<WA.heap.size:=(Array.getElem?_eq_some_iff.1 hla).1
  have l2:two (WA.putObj (Z+1) (lp .busy none)) (lp .busy none):=⟨World.putObj_heap_same hlta,(World.putObj_heap_other (by omega)).trans hda⟩
  refine wpIn_mono (hbody _ k _ _ hk ((hI1 ak).putObj _ hia (Nat.le_succ Z) hla rfl)) fun e a3 W3 hp=>?_
  obtain ⟨hk3,hp⟩:=hp
  have l3:two W3 (lp .busy none):=⟨hk3.same _ _ (Nat.le_succ Z) l2.1 rfl,hk3.same _ _ (Nat.le_refl Z) l2.2 rfl⟩
  have l4:∀ o,two (W3.putObj (Z+1) o) o:=fun o=>⟨World.putObj_heap_same (Array.getElem?_eq_some_iff.1 l3.1).1,(World.putObj_heap_other (by omega)).trans l3.2⟩
  rcases hp with ⟨rfl,hkp,hi3⟩ | ⟨c,hc,hx⟩
  ·exact ⟨_,_,run_endRound (P:=P) none l3.1,.inl ⟨rfl,⟨hI.putObj _ hi3 (Nat.le_succ Z) l3.1 rfl,l4 _⟩,hKt (hKt (hKt hkpa (hKb _ _ _ _ (Nat.le_succ Z) hla rfl rfl)) hkp) (hKb _ _ _ _ (Nat.le_succ Z) l3.1 rfl rfl)⟩⟩
  ·rcases hc with ⟨rfl,rfl⟩ | ⟨i,rfl,rfl⟩
   ·exact ⟨_,_,run_endRound (P:=P) (some .ret) l3.1,.inr ⟨rfl,_,(hIx _).putObj _ hx (Nat.le_succ Z) l3.1 rfl,l4 _⟩⟩
   ·exact ⟨_,_,run_endRound (P:=P) (some (.exit i)) l3.1,.inr ⟨rfl,_,(hIx _).putObj _ hx (Nat.le_succ Z) l3.1 rfl,l4 _⟩⟩
 ·-- behind the iterator: the record tells whether a round has left
  rintro e W2 ⟨⟨v,rfl⟩,h⟩
  rcases h with ⟨hi,hl,hd⟩ | ⟨k,hk,c,hx,hl,hd⟩
  ·exact ⟨none,_,run_endLoop (P:=P) hl (by simp),hdone _ _ (Nat.le_refl _) (hI.putObj _ hi (Nat.le_succ Z) hl rfl) ((World.putObj_heap_other (by omega)).trans hd)⟩
  ·exact ⟨some c,_,run_endLoop (P:=P) hl (by simp),hstop _ c k _ (Nat.le_refl _) hk ((hIx c).putObj _ hx (Nat.le_succ Z) hl rfl) ((World.putObj_heap_other (by omega)).trans hd)⟩
end Go.Proofs.YtnchnlgnnlgjcaaGreat
namespace Go.Proofs.YtnchnlgnnlgjcaaGreat
open Go.RowKit Go.Shelf
attribute [local go_sem] Oper.semAt_some
namespace Rt
open Rn (pl pl_lt pl_inj pl_shift pl_zero)
theorem ring_ownFrom {β:Type} (B g r n f:Nat) (L:β->List Tv):OwnFrom (β:=β) B (fun s W=>RingAt W g r n f (L s)):=fun s A A' row hs hg hr=>by
 obtain ⟨F,h1,h2,h3⟩:=hs
 have far:∀ q t,Ty A q t->A'.heap[q]?=A.heap[q]?:=fun q t ht=>hg.block q ht.lt fun e=>by
  obtain ⟨_,o,q1,q2⟩:=hr q e.symm
  obtain ⟨cs,fz,q3⟩:=ht
  rw [q3] at q1
  cases q1
  cases q2
 exact ⟨F,h1.of_block (far g _ (ty_row h1)),h2.of_block (far r _ (ty_row h2)),h3⟩
theorem But.keeps {g r n f:Nat} {l:List Tv} {w w':World} (h:But g r w w') (hr:RingAt w g r n f l):KeepsOthers w w' :=
 ⟨h.size,fun k o hk ho=>by
  obtain ⟨F,h1,h2,_⟩:=hr
  have ne:∀ q t,Ty w q t->¬ k=q:=fun q t ht e=>by
   obtain ⟨cs,fz,q3⟩:=ht
   rw [e,q3] at hk
   cases hk
   cases ho
  rw [h.2 k (Array.getElem?_eq_some_iff.1 hk).1 (ne g _ (ty_row h1)) (ne r _ (ty_row h2))]
  exact hk⟩
theorem boxed_ownFrom {β:Type} (B0 B:Nat) (t:TypeId) (v:Value):OwnFrom (β:=β) B0 (fun _ W=>Boxed W B t v):=fun s A A' row hs hg hr =>
 hs.kept hg fun e=>by obtain ⟨_,o,q1,q2⟩:=hr _ e.symm;rw [show A.heap[B]?=_ from hs] at q1;cases q1;cases q2
theorem row_own {A A':World} {B b n:Nat} {t:TypeId} {f:Nat->Value} {row:Option Nat} (hs:A.rowIs b t n f) (hg:A.grownBy A' row) (hr:∀ r,row=some r->B<=r/\∃ o:Obj,A.heap[r]?=some o/\o.isCells=false):A'.rowIs b t n f :=
 hs.of_block (hg.block b hs.lt fun e=>by
  obtain ⟨_,o,q1,q2⟩:=hr b e.symm
  obtain ⟨cs,fz,q3⟩:=ty_row hs
  rw [q3] at q1
  cases q1
  cases q2)
def tvc (x:Tv) (i:Nat):Value:=if i=0 then key x else val x
theorem tv_alloc (w:World) (x:Tv):(w.alloc (.cells #[.slice x.1.1 x.1.2.1 x.1.2.2,.slice x.2.1 x.2.2.1 x.2.2.2] 111)).rowIs w.heap.size 111 2 (tvc x) :=
 World.rowIs_alloc w #[.slice x.1.1 x.1.2.1 x.1.2.2,.slice x.2.1 x.2.2.1 x.2.2.2] 111 (tvc x) (by
  intro i hi
  match i,hi with
  | 0,_=>rfl
  | 1,_=>rfl)
theorem keeps_alloc (w:World) (o:Obj):KeepsOthers w (w.alloc o) :=
 ⟨by simp,fun k o' hk _=>(Below.heap_alloc _ _ _ (Array.getElem?_eq_some_iff.1 hk).1).trans hk⟩
theorem ty_box {W:World} {B:Nat} {t:TypeId} {v:Value} (h:Boxed W B t v):Ty W B t:=⟨_,_,h⟩
set_option maxRecDepth 100000 in
set_option maxHeartbeats 2000000 in
theorem copy_any (g r n f:Nat) (l:List Tv) (w:World) (h:RingAt w g r n f l) :
 Calls Tryz.prog 85 #[.pointer (some ⟨g,0,none⟩)] w fun e w'=>∃ o q,e=.returned (.pointer (some ⟨o,0,none⟩))/\RingAt w' o q n 0 l/\w.heap.size<=o/\w.heap.size<=q/\Below w.heap.size w w':=by
 obtain ⟨n0,n1,n2⟩:=h.nums
 have hmk:=run_make_rows (P:=Tryz.prog) 152 111 (.agg #[.slice none 0 0,.slice none 0 0]) #[.slice none 0 0,.slice none 0 0] 2 48 rfl Tryz.underlying152 Tryz.infoTokR .i64 .i64 n (by omega) (by omega)
 have HR:Hid (RingAt w g r n f l):=h
 have glt:=h.lt
 clear h
 refine (callsIn_wide (n:=6)).1 ?_
 refine callsIn_of_wp_marks Tryz.func85 rfl trivial ?_ rfl
 simp only [Tryz.ntmps85,List.size_toArray,List.length_cons,List.length_nil,Nat.reduceAdd,Nat.reduceSub,Array.replicate_succ,Array.replicate_zero,List.push_toArray,List.append_toArray,List.nil_append,List.cons_append]
 refine wpIn_wide.2 ?_
 go_wp2_with (first
  | (go_at_call 95;refine (size_any g r n f l.length _ HR.out.hd).mono ?_;rintro e w' ⟨rfl,hww⟩;cases hww.symm;clear hww)
  | (go_at_call 77;refine (all_any g _).mono ?_;rintro e w' ⟨rfl,hww⟩;cases hww.symm;clear hww))
 clear hmk
 obtain ⟨W0,hW0⟩:∃ W0,(((w.alloc (.cells (madeCells #[.slice none 0 0,.slice none 0 0] (n*2)) 111)).alloc (.cells #[.slice (some ⟨w.heap.size,0,none⟩) n n,.int .i64 0,.int .i64 0] 154)).alloc (.cells #[.pointer (some ⟨w.heap.size+1,0,none⟩)] 107)).alloc (.cells #[.pointer (some ⟨g,0,none⟩)] 107)=W0:=⟨_,rfl⟩
 have hsz:W0.heap.size=w.heap.size+4:=by rw [<-hW0];simp
 have hB0:Below w.heap.size w W0:=by rw [<-hW0];exact ((((Below.refl _ w).alloc (Nat.le_refl _) _).alloc (by simp) _).alloc (by simp;omega) _).alloc (by simp;omega) _
 have bO:Boxed W0 (w.heap.size+1+1) 107 (.pointer (some ⟨w.heap.size+1,0,none⟩)):=by
  have:=(Boxed.new ((w.alloc (.cells (madeCells #[.slice none 0 0,.slice none 0 0] (n*2)) 111)).alloc (.cells #[.slice (some ⟨w.heap.size,0,none⟩) n n,.int .i64 0,.int .i64 0] 154)) 107 (.pointer (some ⟨w.heap.size+1,0,none⟩))).alloc (.cells #[.pointer (some ⟨g,0,none⟩)] 107)
  rw [World.size_alloc,World.size_alloc,hW0] at this
  exact this
 have bP:Boxed W0 (w.heap.size+1+1+1) 107 (.pointer (some ⟨g,0,none⟩)):=by
  have:=Boxed.new (((w.alloc (.cells (madeCells #[.slice none 0 0,.slice none 0 0] (n*2)) 111)).alloc (.cells #[.slice (some ⟨w.heap.size,0,none⟩) n n,.int .i64 0,.int .i64 0] 154)).alloc (.cells #[.pointer (some ⟨w.heap.size+1,0,none⟩)] 107)) 107 (.pointer (some ⟨g,0,none⟩))
  rw [World.size_alloc,World.size_alloc,World.size_alloc,hW0] at this
  exact this
 have rO:RingAt W0 (w.heap.size+1) w.heap.size n 0 []:=by
  have:=World.rowIs_alloc (w.alloc (.cells (madeCells #[.slice none 0 0,.slice none 0 0] (n*2)) 111)) #[.slice (some ⟨w.heap.size,0,none⟩) n n,.int .i64 0,.int .i64 0] 154 (rc w.heap.size n 0 0) (by
   intro i hi
   match i,hi with
   | 0,_=>rfl
   | 1,_=>rfl
   | 2,_=>rfl)
  rw [World.size_alloc] at this
  refine ⟨fun j=>#[Value.slice none 0 0,.slice none 0 0][j % 2]!,?_,?_,Nat.zero_le _,n1,by omega,fun i hi=>absurd hi (Nat.not_lt_zero _)⟩
  ·rw [<-hW0];exact (this.alloc _).alloc _
  ·rw [<-hW0];exact (((row_made w #[.slice none 0 0,.slice none 0 0] (n*2) 111).alloc _).alloc _).alloc _
 rw [hW0]
 clear hW0
 refine (wpIn_wide (n:=6)).1 ?_
 refine range_at2 (m:=6) (by omega) (gf:=110) (lb:=#[.pointer (some ⟨w.heap.size+1+1+1,0,none⟩)]) rfl (enters_of Tryz.func110 (by kernel_rfl) rfl)
  (all_stops 5 (by omega) (w.heap.size+1+1+1) g r n f l W0 (by omega) bP.cell (HR.out.keep hB0)) (fun h k=>h.trans k) (kp_put (by omega) (by omega) (by omega)) (Below.refl _ _) (fun _=>rfl)
  (fun k W=>RingAt W (w.heap.size+1) w.heap.size n 0 (l.take k)/\Boxed W (w.heap.size+1+1) 107 (.pointer (some ⟨w.heap.size+1,0,none⟩))/\Boxed W (w.heap.size+1+1+1) 107 (.pointer (some ⟨g,0,none⟩))/\Below w.heap.size w W)
  (fun _ _ _=>False)
  (OwnFrom.and (ring_ownFrom _ _ _ _ _ (fun k=>l.take k)) (OwnFrom.and (boxed_ownFrom _ _ _ _) (OwnFrom.and (boxed_ownFrom _ _ _ _) (ownFrom_below (Nat.le_refl _) (by omega)))))
  (fun _ _ _ _ _ hs _ _=>hs)
  ⟨rO,bO,bP,hB0⟩
  (fun k ak W=>∃ B x,nth l k=x/\ak={ tmps:=#[.pointer (some ⟨g,0,none⟩),undef,.pointer none,.pointer (some ⟨w.heap.size+1+1,0,none⟩),undef,.pointer (some ⟨B,0,none⟩),.pointer (some ⟨g,0,none⟩),.int .i64 n,.slice (some ⟨w.heap.size,0,none⟩) n n,.agg #[.slice (some ⟨w.heap.size,0,none⟩) n n,.int .i64 0,.int .i64 0],.pointer (some ⟨w.heap.size+1,0,none⟩),.pointer (some ⟨g,0,none⟩),.func (.func 110) #[] #[.pointer (some ⟨w.heap.size+1+1+1,0,none⟩)],.int .i64 k,tv x,undef,undef,undef,undef],defers:=[] }/\W.rowIs B 111 2 (tvc x)/\¬ B=w.heap.size/\RingAt W (w.heap.size+1) w.heap.size n 0 (l.take k)/\Boxed W (w.heap.size+1+1) 107 (.pointer (some ⟨w.heap.size+1,0,none⟩))/\Boxed W (w.heap.size+1+1+1) 107 (.pointer (some ⟨g,0,none⟩))/\Below w.heap.size w W)
  ?own ?assign ?body ?done ?stop
 case own =>
  rintro ak k A A' row ⟨B,x,e1,e2,h0,hne,h1,h2,h3,h4⟩ hgr hr
  exact ⟨B,x,e1,e2,row_own h0 hgr hr,hne,ring_ownFrom _ _ _ _ _ (fun k=>l.take k) k A A' row h1 hgr hr,boxed_ownFrom _ _ _ _ k A A' row h2 hgr hr,boxed_ownFrom _ _ _ _ k A A' row h3 hgr hr,ownFrom_below (Nat.le_refl _) (by omega) k A A' row h4 hgr hr⟩
 case assign =>
  rintro lp k W K hk ⟨hr,hv,hpp,hB⟩ hK
  obtain ⟨x,ex⟩:∃ x,nth l k=x:=⟨_,rfl⟩
  have EX:Hid (nth l k=x):=ex
  have hK2:=hK
  rw [ex]
  clear ex hK
  obtain ⟨⟨xa,xn,xc⟩,⟨ya,yn,yc⟩⟩:=x
  simp only [tv,key,val]
  gi_wp2
  have hbx:=box_below W (.cells #[.slice xa xn xc,.slice ya yn yc] 111)
  refine hK2 _ _ ((keeps_alloc W _).from _) ⟨?_,?_,?_⟩ ⟨W.heap.size,((xa,xn,xc),(ya,yn,yc)),EX.out,rfl,tv_alloc W ((xa,xn,xc),(ya,yn,yc)),?_,hr.keep hbx,hv.alloc _,hpp.alloc _,hB.trans (hbx.mono hB.size)⟩
  ·exact hbx.block _ (ty_box hpp).lt
  ·exact hbx.block _ (Nat.lt_of_lt_of_le glt.1 hB.size)
  ·exact hbx.block _ (Nat.lt_of_lt_of_le glt.2 hB.size)
  ·have:=hr.lt.2;omega
 case body =>
  rintro lp k ak W hk ⟨B,x,ex,rfl,hbx,hBne,hr,hv,hpp,hB⟩
  obtain ⟨⟨xa,xn,xc⟩,⟨ya,yn,yc⟩⟩:=x
  have EX:Hid (nth l k=((xa,xn,xc),(ya,yn,yc))):=ex
  have hc:=hv.cell
  have q0:W.cell? ⟨B,0,none⟩=some (.slice xa xn xc):=hbx.cell (show 0<2 by decide)
  have q1:W.cell? ⟨B,1,none⟩=some (.slice ya yn yc):=hbx.cell (show 1<2 by decide)
  have RO:Hid (RingAt W (w.heap.size+1) w.heap.size n 0 (l.take k)):=hr
  have hlk:(l.take k).length<n:=by rw [List.length_take];omega
  clear ex hr hbx
  simp only [tv,key,val]
  gi_wp2_with (refine ⟨trivial,?_⟩;gi_at_call 60;refine (CallsIn.inRound lp (callsIn_wide.2 (push_ok (w.heap.size+1) w.heap.size n 0 ((xa,xn,xc),(ya,yn,yc)) (l.take k) _ RO.out hlk))).mono ?_;rintro e W2 ⟨rfl,hr2,hb2⟩)
  have e:l.take (k+1)=l.take k ++ [((xa,xn,xc),(ya,yn,yc))]:=by rw [take_succ hk,EX.out]
  have far:∀ q v,Boxed W q 107 v->Boxed W2 q 107 v:=fun q v hq=>by
   obtain ⟨F,h1,h2,_⟩:=RO.out
   exact (hb2.2 q (ty_box hq).lt ((ty_box hq).ne (ty_row h1) (by decide)) ((ty_box hq).ne (ty_row h2) (by decide))).trans hq
  have bl:Below w.heap.size W W2:=hb2.below (by omega) (Nat.le_refl _) hB.size
  exact ⟨(hb2.keeps RO.out).from _,.inl ⟨rfl,⟨(far _ _ hpp).trans hpp.symm,bl.block _ glt.1,bl.block _ glt.2⟩,by rw [e];exact hr2,far _ _ hv,far _ _ hpp,hB.trans bl⟩⟩
 case done =>
  rintro D W hD ⟨hr,hv,hpp,hB⟩ hK
  have hc:=hv.cell
  go_wp2
  refine ⟨by simp,.inl ⟨_,_,rfl,run_takeDeferred hK,?_⟩⟩
  have hq:=belowK_b (w:=w) (Nat.le_refl _) W D _ (.deferred none) (by omega) hK rfl rfl
  rw [List.take_length] at hr
  exact ⟨_,results_tmp rfl _ _ _,w.heap.size+1,w.heap.size,rfl,hr.of_block (World.putObj_heap_other (by omega)) (World.putObj_heap_other (by omega)),by omega,Nat.le_refl _,hB.trans hq⟩
 case stop =>
  rintro D c k W _ _ h _
  exact h.elim
end Rt
end Go.Proofs.YtnchnlgnnlgjcaaGreat
namespace Go.Proofs.YtnchnlgnnlgjcaaGreat
open Go.RowKit Go.Shelf
attribute [local go_sem] Oper.semAt_some
namespace Cc
open Rt (Kp kp_put all_stops nth tv key val tvc tv_alloc keeps_alloc row_own boxed_ownFrom ty_box box_below RingAt)
def PlJ (w0 W:World) (p1 p2:Nat) (A1 A2:List (List Int)):Prop :=
 ∃ (S:Nat->Prop) (v1 v2:Value) (xs ys:List Value),(∀ q,S q->w0.heap.size<=q/\Ty W q 21)/\Boxed W p1 42 v1/\Boxed W p2 42 v2 /\
   AccQ S w0.heap.size 1 74 eRow W v1 A1.length A1 xs/\AccQ S w0.heap.size 1 74 eRow W v2 A2.length A2 ys/\(∀ q,v1.ownBlock=some q->¬ v2.ownBlock=some q)/\(A1=[]->v1=.slice none 0 0)/\(A2=[]->v2=.slice none 0 0)
theorem PlJ.swap {w0 W:World} {p1 p2:Nat} {A1 A2:List (List Int)} (h:PlJ w0 W p1 p2 A1 A2):PlJ w0 W p2 p1 A2 A1:=by
 obtain ⟨S,v1,v2,xs,ys,h1,h2,h3,h4,h5,h6,h7,h8⟩:=h
 exact ⟨S,v2,v1,ys,xs,h1,h3,h2,h5,h4,fun q e1 e2=>h6 q e2 e1,h8,h7⟩
theorem PlJ.other {w0 W W':World} {p1 p2:Nat} {A1 A2:List (List Int)} (h:PlJ w0 W p1 p2 A1 A2) (hk:∀ q t,Ty W q t->W'.heap[q]?=W.heap[q]?) (hs:W.heap.size<=W'.heap.size):PlJ w0 W' p1 p2 A1 A2:=by
 obtain ⟨S,v1,v2,xs,ys,h1,h2,h3,h4,h5,h6⟩:=h
 have hq:∀ {v:Value} {n:Nat} {A:List (List Int)} {zs:List Value},AccQ S w0.heap.size 1 74 eRow W v n A zs->∀ q,q<W.heap.size->S q\/v.ownBlock=some q->W'.heap[q]?=W.heap[q]?:=fun ha q _ e=>by
  rcases e with e | e
  ·exact hk q _ (h1 q e).2
  ·exact hk q _ (ty_own ha.1 e)
 exact ⟨S,v1,v2,xs,ys,fun q e=>⟨(h1 q e).1,(h1 q e).2.of_block (hk q _ (h1 q e).2)⟩,(hk p1 _ (ty_box h2)).trans h2,(hk p2 _ (ty_box h3)).trans h3,h4.other carry_row (hq h4) hs,h5.other carry_row (hq h5) hs,h6⟩
theorem PlJ.keep {w0 W W':World} {p1 p2:Nat} {A1 A2:List (List Int)} (h:PlJ w0 W p1 p2 A1 A2) (hb:Below W.heap.size W W'):PlJ w0 W' p1 p2 A1 A2:=h.other (fun q _ ht=>hb.block q ht.lt) hb.size
theorem plj_ownFrom {w0:World} {p1 p2 B:Nat} (A1 A2:Nat->List (List Int)):OwnFrom (β:=Nat) B (fun k W=>PlJ w0 W p1 p2 (A1 k) (A2 k)):=fun k A A' row hs hg hr =>
 hs.other (fun q t ht=>hg.block q ht.lt fun e=>by
  obtain ⟨_,o,q1,q2⟩:=hr q e.symm
  obtain ⟨cs,fz,q3⟩:=ht
  rw [q3] at q1
  cases q1
  cases q2) hg.size
theorem PlJ.more {w0 W W2 W3:World} {p1 p2 n gg cap:Nat} {A1 A2:List (List Int)} {S:Nat->Prop} {v1 v2:Value} {xs ys:List Value} {x:List Int} {a':Option Addr} {c':Nat}
 (h1:∀ q,S q->w0.heap.size<=q/\Ty W q 21) (h2:Boxed W p1 42 v1) (h3:Boxed W p2 42 v2) (h4:AccQ S w0.heap.size 1 74 eRow W v1 n A1 xs) (hn:A1.length=n)
 (h5:AccQ S w0.heap.size 1 74 eRow W v2 A2.length A2 ys) (h6:∀ q,v1.ownBlock=some q->¬ v2.ownBlock=some q) (h8:A2=[]->v2=.slice none 0 0) (hp:¬ p1=p2) (hw:w0.heap.size<=W.heap.size)
 (hf:Fr W.heap.size W2 a' c' x) (ht:∀ y,a'=some y->Ty W2 y.block 21) (hx0:0<x.length) (hl:x.length<=maxLen) (hb:Below W.heap.size W W2)
 (ho:W3.ownsRow w0.heap.size 74 1 (.slice (some ⟨gg,0,none⟩) (n+1) cap) (n+1) (xs ++ [.slice a' x.length c'])) {ob:Obj} (hg:(W2.alloc ob).grownBy W3 v1.ownBlock) (hat:v1.ownBlock=some gg\/gg=W2.heap.size+1) :
 PlJ w0 (W3.setCell ⟨p1,0,none⟩ (.slice (some ⟨gg,0,none⟩) (n+1) cap)) p1 p2 (A1 ++ [x]) A2:=by
 subst hn
 obtain ⟨b,o,ea,lb,hB,-⟩:=hf.1 0 hx0
 have ht:=ht _ ea
 have s2:=hb.size
 have s3:W2.heap.size+1<=W3.heap.size:=by have:=hg.size;simpa using this
 have tp:=ty_box h2
 have tv:∀ y,v1.ownBlock=some y->Ty W y 74:=fun y e=>ty_own h4.1 e
 have bo:Below W2.heap.size W2 (W2.alloc ob):=box_below W2 ob
 have st0:∀ q t,Ty W q t->¬ t=74->W3.heap[q]?=W.heap[q]?:=fun q t hq hn=>by
  have l:=hq.lt
  rw [hg.block q (by simp;omega) (fun e=>hq.ne (tv q e.symm) hn rfl),bo.block q (by omega)]
  exact hb.block q l
 have st1:∀ q,W.heap.size<=q->q<W2.heap.size->W3.heap[q]?=W2.heap[q]?:=fun q l1 l2=>by
  rw [hg.block q (by simp;omega) (fun e=>by have:=(tv q e.symm).lt;omega)]
  exact bo.block q l2
 have tb3:Ty W3 b 21:=ht.of_block (st1 b hB lb)
 have b13:=st0 _ _ tp (by decide)
 have tp3:Ty W3 p1 42:=tp.of_block b13
 -- the first table behind the append
 have f1:AccQ S w0.heap.size 1 74 eRow (W2.alloc ob) v1 A1.length A1 xs:=(h4.to carry_row hb).to carry_row bo
 have f2:AccQ (fun q=>S q\/q=b) w0.heap.size 1 74 eRow (W2.alloc ob) v1 A1.length A1 xs:=⟨f1.1,f1.2.1,f1.2.2.1,fun i hi c hc=>carry_row _ _ _ _ c c _ (fun q _ hq=>⟨⟨.inl hq.1,hq.2⟩,rfl⟩) (Nat.le_refl _) (fun _ _ _ h=>h) (f1.2.2.2 i hi c hc)⟩
 have f3:=f2.snoc (x:=x) carry_row ho rfl hg (by rcases hat with e | e;exact .inl e;exact .inr (by simp;exact e)) (fun c hc=>⟨a',c',by rw [hc 0 (by decide)];rfl,hf.2.1,hl,hf.2.2.2,fun i hi=>by
  obtain ⟨b',o',e',lb',hB',hv⟩:=hf.1 i hi
  rw [ea] at e'
  cases e'
  refine ⟨b,o,ea,by simp;omega,⟨.inr rfl,by simp;omega,fun e=>by have:=(tv b e).lt;omega⟩,?_⟩
  have e5:(W2.alloc ob).heap[b]?=W2.heap[b]?:=bo.block b lb
  show (W2.alloc ob).cell? ⟨b,o+(i*1+0),none⟩=_
  rw [World.cell?_of_block (a:=⟨b,o+(i*1+0),none⟩) e5]
  exact hv⟩)
 have tg:=ty_own ho (q:=gg) rfl
 have gp:¬ gg=p1:=tg.ne tp3 (by decide)
 have bs:∀ q,¬ q=p1->(W3.setCell ⟨p1,0,none⟩ (.slice (some ⟨gg,0,none⟩) (A1.length+1) cap)).heap[q]?=W3.heap[q]?:=fun q hq=>Below.heap_setCell _ _ _ _ (show q ≠ p1 from hq)
 have sz:(W3.setCell ⟨p1,0,none⟩ (.slice (some ⟨gg,0,none⟩) (A1.length+1) cap)).heap.size=W3.heap.size:=by simp [World.setCell]
 have f4:=f3.other (u:=W3.setCell ⟨p1,0,none⟩ (.slice (some ⟨gg,0,none⟩) (A1.length+1) cap)) carry_row (fun q hq e=>bs q (fun e2=>by
  subst e2
  rcases e with (e | e) | e
  ·exact ((h1 q e).2.of_block (st0 q _ (h1 q e).2 (by decide))).ne tp3 (by decide) rfl
  ·exact tb3.ne tp3 (by decide) e.symm
  ·exact gp (by cases e;rfl))) (by rw [sz];exact Nat.le_refl _)
 have hA2:∀ q,q<W.heap.size->S q\/v2.ownBlock=some q->(W3.setCell ⟨p1,0,none⟩ (.slice (some ⟨gg,0,none⟩) (A1.length+1) cap)).heap[q]?=W.heap[q]?:=fun q hq e=>by
  have tq:Ty W q 21\/Ty W q 74:=by rcases e with e | e;exact .inl (h1 q e).2;exact .inr (ty_own h5.1 e)
  rw [bs q (by rcases tq with t | t <;> exact t.ne tp (by decide))]
  rw [hg.block q (by simp;omega) (fun e2=>by
   rcases e with e | e
   ·exact (h1 q e).2.ne (tv q e2.symm) (by decide) rfl
   ·exact h6 q e2.symm e),bo.block q (by omega)]
  exact hb.block q hq
 have g1:=h5.other carry_row hA2 (by rw [sz];omega)
 have g2:AccQ (fun q=>S q\/q=b) w0.heap.size 1 74 eRow _ v2 A2.length A2 ys:=⟨g1.1,g1.2.1,g1.2.2.1,fun i hi c hc=>carry_row _ _ _ _ c c _ (fun q _ hq=>⟨⟨.inl hq.1,hq.2⟩,rfl⟩) (Nat.le_refl _) (fun _ _ _ h=>h) (g1.2.2.2 i hi c hc)⟩
 refine ⟨fun q=>S q\/q=b,.slice (some ⟨gg,0,none⟩) (A1.length+1) cap,v2,_,ys,fun q e=>?_,?_,?_,by rw [List.length_append];exact f4,g2,fun q e1 e2=>?_,fun e=>absurd e (by simp),h8⟩
 ·rcases e with e | e
  ·have t3:=(h1 q e).2.of_block (st0 q _ (h1 q e).2 (by decide))
   exact ⟨(h1 q e).1,t3.of_block (bs q (t3.ne tp3 (by decide)))⟩
  ·subst e
   have hB:W.heap.size<=q:=hB
   exact ⟨by omega,tb3.of_block (bs q (tb3.ne tp3 (by decide)))⟩
 ·exact Boxed.set _ (show Boxed W3 p1 _ v1 from b13.trans h2)
 ·exact (bs p2 (fun e=>hp e.symm)).trans ((st0 _ _ (ty_box h3) (by decide)).trans h3)
 ·have e1:gg=q:=by injection e1
  subst e1
  rcases hat with e | e
  ·exact h6 gg e e2
  ·have:=(ty_own h5.1 e2).lt
   omega
theorem stepIn_append {n l:Nat} {P:Program} {w w':World} {ops:Array Oper} {o:Oper} {a:Act} {K:Act->World->Prop} {Q:Exit->Act->World->Prop} {E:Prop} (hgd:o.guard=none) (s x:Operand) (t:TypeId)
 (ho:o.op=.call { callee:=.builtin .append,args:=#[s,x],argTypes:=#[t,t] }) (v y v':Value) (hs:a.eval s=v) (hx:a.eval x=y) (hr:(Builtin.append_ #[t,t] o.type #[v,y]).run P w=.ok v' w') (h:K (a.put o.dst v') w') :
 if Region.wanted o (yielded ops a.tmps)=true then Oper.wpIn (Fence.wide.inRound l) n P o a w K Q else E:=by
 have hw:Region.wanted o (yielded ops a.tmps)=true:=by simp [Region.wanted,hgd]
 rw [if_pos hw]
 refine ⟨fun _ _=>trivial,?_⟩
 rw [Oper.semAt_eq _ _ _ (by rw [ho];simp)]
 unfold execOp
 simp only [ho,resolve,invoke,builtin,Sem.run_bind,Sem.run_pure,Result.andThen_ok,List.map_toArray,List.map_cons,List.map_nil,hs,hx,hr]
 exact h
def Leaves (p:Nat) (W W':World):Prop:=W.heap.size<=W'.heap.size/\∀ k,k<W.heap.size->¬ k=p->¬ Ty W k 74->W'.heap[k]?=W.heap[k]?
theorem Leaves.keeps {p:Nat} {W W':World} {t:TypeId} (h:Leaves p W W') (hp:Ty W p t):KeepsOthers W W' :=
 ⟨h.1,fun k o hk ho=>by
  have ne:∀ q t,Ty W q t->¬ k=q:=fun q t ht e=>by
   obtain ⟨cs,fz,q3⟩:=ht
   rw [e,q3] at hk
   cases hk
   cases ho
  rw [h.2 k (Array.getElem?_eq_some_iff.1 hk).1 (ne p _ hp) (fun e=>ne k _ e rfl)]
  exact hk⟩
theorem Leaves.ty {p q:Nat} {W W':World} {t s:TypeId} (h:Leaves p W W') (hp:Ty W p s) (hq:Ty W q t) (n1:¬ t=s) (n2:¬ t=74):W'.heap[q]?=W.heap[q]? :=
 h.2 q hq.lt (hq.ne hp n1) (fun e=>(hq.ne e n2) rfl)
theorem PlJ.app {w0 W W2:World} {p1 p2 n:Nat} {A1 A2:List (List Int)} {S:Nat->Prop} {v1 v2:Value} {xs ys:List Value} {x:List Int} {a':Option Addr} {c':Nat}
 (h1:∀ q,S q->w0.heap.size<=q/\Ty W q 21) (h2:Boxed W p1 42 v1) (h3:Boxed W p2 42 v2) (h4:AccQ S w0.heap.size 1 74 eRow W v1 n A1 xs) (hn:A1.length=n)
 (h5:AccQ S w0.heap.size 1 74 eRow W v2 A2.length A2 ys) (h6:∀ q,v1.ownBlock=some q->¬ v2.ownBlock=some q) (h8:A2=[]->v2=.slice none 0 0) (hp:¬ p1=p2) (hw:Below w0.heap.size w0 W) (hp0:w0.heap.size<=p1)
 (hf:Fr W.heap.size W2 a' c' x) (ht:∀ y,a'=some y->Ty W2 y.block 21) (hx0:0<x.length) (hl:x.length<=maxLen) (hb:Below W.heap.size W W2) (hn2:n<=1024) :
 ∃ gg cap W3,(Builtin.append_ #[42,42] 42 #[v1,.slice (some ⟨W2.heap.size,0,none⟩) 1 1]).run Tryz.prog (W2.alloc (.cells #[.slice a' x.length c'] 74))=.ok (.slice (some ⟨gg,0,none⟩) (n+1) cap) W3 /\
   W2.cell? ⟨p1,0,none⟩=some v1/\(W2.alloc (.cells #[.slice a' x.length c'] 74)).cell? ⟨p1,0,none⟩=some v1/\W3.cell? ⟨p1,0,none⟩=some v1/\W3.frozen? ⟨p1,0,none⟩=false/\PlJ w0 (W3.setCell ⟨p1,0,none⟩ (.slice (some ⟨gg,0,none⟩) (n+1) cap)) p1 p2 (A1 ++ [x]) A2 /\
   Leaves p1 W (W3.setCell ⟨p1,0,none⟩ (.slice (some ⟨gg,0,none⟩) (n+1) cap))/\Below w0.heap.size w0 (W3.setCell ⟨p1,0,none⟩ (.slice (some ⟨gg,0,none⟩) (n+1) cap)):=by
 obtain ⟨i1,hi10,hi11,hi12,hi13⟩:=info_parts Ca.infoRow
 have sw:=hw.size
 have s2:=hb.size
 have b2:=box_below W2 (.cells #[.slice a' x.length c'] 74)
 obtain ⟨gg,cap,W3,hrun,hown,hgrow,hat,hlt3⟩:=run_append_lies (P:=Tryz.prog) (w:=W2.alloc (.cells #[.slice a' x.length c'] 74)) 42 42 w0.heap.size 74 i1 (.slice none 0 0) 1 24 Tryz.underlying42 hi10 hi11 hi12 hi13 rfl (by decide) v1 n xs ((h4.to carry_row hb).to carry_row b2).1 ⟨W2.heap.size,0,none⟩ 1 1 [.slice a' x.length c'] (by rfl) (World.news_of_block (cs:=#[.slice a' x.length c']) (t:=74) (fr:=(0,0)) (heap_alloc_new W2 _)) (fun x hx=>by simp at hx;subst hx;rfl) (by decide) (by unfold maxLen;omega) (by omega) (by simp;omega) (W2.heap.size+1) (by simp)
 have t1:=ty_box h2
 have lt1:=h2.lt
 have s3:=hgrow.size
 have s3':W2.heap.size+1<=W3.heap.size:=by simpa using s3
 have e3:W3.heap[p1]?=W.heap[p1]?:=((hgrow.block _ (by simp;omega) (fun e=>(ty_own h4.1 e.symm).ne t1 (by decide) rfl)).trans (b2.block _ (by omega))).trans (hb.block _ lt1)
 refine ⟨gg,cap,W3,hrun,(World.cell?_of_block (a:=⟨p1,0,none⟩) (hb.block _ lt1)).trans h2.cell,(World.cell?_of_block (a:=⟨p1,0,none⟩) ((b2.block p1 (Nat.lt_of_lt_of_le lt1 s2)).trans (hb.block _ lt1))).trans h2.cell,(World.cell?_of_block (a:=⟨p1,0,none⟩) e3).trans h2.cell,(World.frozen?_of_block (a:=⟨p1,0,none⟩) e3).trans h2.frozen,PlJ.more h1 h2 h3 h4 hn h5 h6 h8 hp sw hf ht hx0 hl hb hown hgrow hat,⟨by simp [World.setCell];omega,fun k hk n1 n2=>?_⟩,?_⟩
 ·rw [Below.heap_setCell _ _ _ _ (show k ≠ p1 from n1),hgrow.block k (by simp;omega) (fun e=>n2 (ty_own h4.1 e.symm)),b2.block k (by omega)]
  exact hb.block k hk
 ·exact (((hw.trans (hb.mono sw)).alloc (by omega) _).grown hgrow (by simp;omega) (fun q hq=>(h4.1.lt q hq).1)).setCell (p:=⟨p1,0,none⟩) (show w0.heap.size<=p1 from hp0) _
set_option maxRecDepth 100000 in
theorem clone32_own {Q:Nat->Prop} (a:Option Addr) (c:Nat) (l:List Int) (w:World) (h:SlQ Q 1 (eNum .i32) w a l) (h0:0<l.length) (hl:l.length<=1000) :
 Calls Tryz.prog 61 #[.slice a l.length c] w fun e w'=>∃ a' c',e=.returned (.slice a' l.length c')/\Fr w.heap.size w' a' c' l/\(∀ y,a'=some y->Ty w' y.block 21)/\Below w.heap.size w w':=by
 obtain ⟨b,o,rfl,-⟩:=h.get h0
 have HA:Hid (Lst .i32 w (some ⟨b,o,none⟩) l):=h.lst
 clear h
 have hq:(binOp .eql 74 (.slice (some ⟨b,o,none⟩) l.length c) (.slice none 0 0)).run Tryz.prog w=.ok (.bool false) w:=slice_nil w _ _ (some ⟨b,o,none⟩) _ _ Tryz.underlying74
 go_enter Tryz.func61,Tryz.ntmps61
 go_wp2_with (at_builtin;refine wpList_append_lst rfl _ _ 74 rfl w.heap.size 21 .i32 4 Tryz.underlying74 Tryz.infoInt32 _ 0 [] (by rfl) (World.ownsRow_made w #[] 0 (Nat.le_refl _) (by decide) rfl) (some ⟨b,o,none⟩) l c (by rfl) (HA.out.keep (box_below _ _)) (fun e=>nomatch e) (by unfold maxLen;omega) (by omega) (by simp) ?_;intro v1 u1 ho1 hg1;simp only [Nat.zero_add,List.nil_append] at ho1;obtain ⟨va,vc,rfl⟩:=Ca.own_slice ho1;have O1:Hid (u1.ownsRow w.heap.size 21 1 (.slice va l.length vc) l.length (l.map (Value.int .i32))):=ho1;have B1:Hid (Below w.heap.size w u1):=(box_below _ _).grown hg1 (by simp) (by intro k hk;cases hk;exact Nat.le_refl _);clear ho1 hg1)
 go_ret
 obtain ⟨a',c',e,hf⟩:=fr_of_ownm (B:=w.heap.size) (Nat.le_refl _) O1.out rfl
 cases e
 exact ⟨_,_,rfl,hf,fun y e=>ty_own O1.out (by rw [e];rfl),B1.out⟩
end Cc
end Go.Proofs.YtnchnlgnnlgjcaaGreat
