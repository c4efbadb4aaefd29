import Derived.Test.YtnchnlgnnlgjcaaGreatCa12
import Derived.Test.YtnchnlgnnlgjcaaGreatCa14
import Derived.Test.YtnchnlgnnlgjcaaGreatCa21
import Derived.Test.YtnchnlgnnlgjcaaGreatCa24
import Derived.Test.YtnchnlgnnlgjcaaGreatCa25
import Derived.Test.YtnchnlgnnlgjcaaGreatCa19
import Derived.Test.YtnchnlgnnlgjcaaGreatCa18
set_option linter.unusedVariables false
set_option linter.unusedSimpArgs false
namespace Go.Proofs.YtnchnlgnnlgjcaaGreat
open Go.RowKit
namespace Tn
open _root_.Go.Proofs.YtnchnlgnnlgjcaaGreat.Tn.Tr
def scell (H D g i:Int) (v:Value) (j:Nat):Value:=if j=0 then .int .i64 H else if j=1 then .int .i64 D else if j=2 then .int .i64 g else if j=3 then .int .i64 i else v
theorem scell_set (H D g i:Int) (v v':Value) (j:Nat) (hj:j<5):(if j=4 then v' else scell H D g i v j)=scell H D g i v' j:=by
 match j,hj with
 | 0,_=>rfl
 | 1,_=>rfl
 | 2,_=>rfl
 | 3,_=>rfl
 | 4,_=>rfl
theorem scell_alloc (w:World) (H D g i:Int) (v:Value) (t:TypeId):(w.alloc (.cells #[.int .i64 H,.int .i64 D,.int .i64 g,.int .i64 i,v] t)).rowIs w.heap.size t 5 (scell H D g i v) :=
 World.rowIs_alloc w _ _ _ (fun j hj=>by match j,hj with | 0,_=>rfl | 1,_=>rfl | 2,_=>rfl | 3,_=>rfl | 4,_=>rfl)
set_option maxRecDepth 100000 in
set_option maxHeartbeats 1600000 in
theorem refShape_any (H D g i:Int) (a:Option Addr) (c:Nat) (ls:List (Int × Int)) (w:World) (hp:Ps w a ls) (hl:ls.length<=8796093022207) :
 Calls Tryz.prog 12 #[.agg #[.int .i64 H,.int .i64 D,.int .i64 g,.int .i64 i,.slice a ls.length c]] w fun r w'=>∃ a' c',r=.returned (.agg #[.int .i64 H,.int .i64 D,.int .i64 g,.int .i64 i,.slice a' ls.length c'])/\Ps w' a' ls/\Below w.heap.size w w'/\(∀ x,a'=some x->w.heap.size<=x.block):=by
 obtain ⟨i0,hi0,hi1,hi2,hi3⟩:=info_parts Tryz.infoPair
 have HP:Hid (Ps w a ls):=hp
 clear hp
 go_enter Tryz.func12,Tryz.ntmps12
 go_wp2
 go_loopw [22] (fun k' wr=>∃ (k:Nat) (v:Value),k<=ls.length/\k'=.int .i64 k/\Hid (wr.rowIs (w.heap.size+1+1) 39 5 (scell H D g i v))/\Hid (wr.ownsRow (w.heap.size+3) 78 2 v k (pflat ls k))/\Hid (Below (w.heap.size+2) ((w.alloc (.cells #[.int .i64 H,.int .i64 D,.int .i64 g,.int .i64 i,.slice a ls.length c] 26)).alloc (.cells #[.int .i64 0,.int .i64 0,.int .i64 0,.int .i64 0,.slice none 0 0] 39)) wr)) (fun k' _=>ls.length - (intOf k').toNat)
 case atStart =>
  refine ⟨0,.slice none 0 0,Nat.zero_le _,rfl,?_,World.ownsRow_nil _ _ _ _,(Below.refl _ _).alloc (by simp) _⟩
  have:=scell_alloc ((w.alloc (.cells #[.int .i64 H,.int .i64 D,.int .i64 g,.int .i64 i,.slice a ls.length c] 26)).alloc (.cells #[.int .i64 0,.int .i64 0,.int .i64 0,.int .i64 0,.slice none 0 0] 39)) H D g i (.slice none 0 0) 39
  simpa [Hid] using this
 case round =>
  obtain ⟨k,v,hk,rfl,HR,HO,HB⟩:=hrel
  obtain ⟨va,vc,rfl⟩:=own2_slice HO.out
  have B0:Hid (Below w.heap.size w wr):=((box_over w _).trans ((box_over _ _).mono (by simp))).trans (HB.out.mono (by omega))
  have hsz:w.heap.size+1+1<wr.heap.size:=HR.out.lt
  have d2:wr.cell? ⟨w.heap.size+1+1,4,none⟩=some (.slice va k vc):=HR.out.cell (show 4<5 by decide)
  have f2:wr.frozen? ⟨w.heap.size+1+1,4,none⟩=false:=HR.out.frozen 4
  by_cases hlt:k<ls.length
  ·obtain ⟨b,o,rfl,hc⟩:=HP.out.get (by omega)
   have e0:=(hc k hlt).1
   have e1:=(hc k hlt).2
   have hbl:b<w.heap.size:=World.block_lt_of_cell? w _ e0
   have e0:wr.cell? ⟨b,o+k*2,none⟩=some (.int .i64 (fst ls k)):=by rw [B0.out.cell (p:=⟨b,o+k*2,none⟩) hbl];exact e0
   have e1:wr.cell? ⟨b,o+k*2+1,none⟩=some (.int .i64 (snd ls k)):=by rw [B0.out.cell (p:=⟨b,o+k*2+1,none⟩) hbl];exact e1
   have hbl2:b<wr.heap.size:=by omega
   clear hc
   go_wp2_with (at_builtin;refine wpList_append_lies _ rfl _ _ _ rfl (w.heap.size+3) 78 i0 _ 2 16 Tryz.underlying35 hi0 hi1 hi2 hi3 rfl (by omega) _ k _ (by rfl) ((HO.out.alloc _).alloc _) ⟨wr.heap.size+1,0,none⟩ 1 1 [.int .i64 (fst ls k),.int .i64 (snd ls k)] (by rfl) (by rfl) (World.news_of_block (cs:=#[.int .i64 (fst ls k),.int .i64 (snd ls k)]) (t:=78) (fr:=(0,0)) (by first | exact heap_alloc_new _ _ | (have:=heap_alloc_new (wr.alloc (.cells #[.int .i64 (fst ls k),.int .i64 (snd ls k)] 77)) (.cells #[.int .i64 (fst ls k),.int .i64 (snd ls k)] 78);simpa using this))) (by simp [Value.oneCell']) (by omega) (by unfold maxLen;omega) (by omega) (by simp;omega) (wr.heap.size+1+1) (by simp) ?_;intro gg cap w1 hown1 hgrow hat hlt1;have R1:Hid (w1.rowIs (w.heap.size+1+1) 39 5 (scell H D g i (.slice va k vc))):=((HR.out.alloc _).alloc _).of_block (hgrow.block _ (by simp;omega) (fun e=>by have:=(HO.out.lt _ e.symm).1;omega));have B1:Hid (Below (w.heap.size+2) ((w.alloc (.cells #[.int .i64 H,.int .i64 D,.int .i64 g,.int .i64 i,.slice (some ⟨b,o,none⟩) ls.length c] 26)).alloc (.cells #[.int .i64 0,.int .i64 0,.int .i64 0,.int .i64 0,.slice none 0 0] 39)) w1):=((HB.out.alloc (by omega) _).alloc (by simp;omega) _).grown hgrow (by simp;omega) (fun j hj=>by have:=(HO.out.lt j hj).1;omega);have O1:Hid (w1.ownsRow (w.heap.size+3) 78 2 (.slice (some ⟨gg,0,none⟩) (k+1) cap) (k+1) (pflat ls (k+1))):=hown1;have f2:w1.frozen? ⟨w.heap.size+1+1,4,none⟩=false:=R1.out.frozen 4;have d2:w1.cell? ⟨w.heap.size+1+1,4,none⟩=some (.slice va k vc):=R1.out.cell (show 4<5 by decide);clear hown1 hgrow hat)
   go_roundw
   case rel=>exact ⟨k+1,_,by omega,by go_num,(R1.out.set 4 _).congr (fun j hj=>scell_set H D g i _ _ j hj),own2_set O1.out (by simp) _,B1.out.setCell (by simp) _⟩
   case measure=>simp [intOf];omega
  ·have e:k=ls.length:=by omega
   subst e
   have d0:wr.cell? ⟨w.heap.size+1+1,0,none⟩=some (.int .i64 H):=HR.out.cell (show 0<5 by decide)
   have d1:wr.cell? ⟨w.heap.size+1+1,1,none⟩=some (.int .i64 D):=HR.out.cell (show 1<5 by decide)
   have d3:wr.cell? ⟨w.heap.size+1+1,2,none⟩=some (.int .i64 g):=HR.out.cell (show 2<5 by decide)
   have d4:wr.cell? ⟨w.heap.size+1+1,3,none⟩=some (.int .i64 i):=HR.out.cell (show 3<5 by decide)
   have r0:wr.rowIs (w.heap.size+1) 39 5 (scell 0 0 0 0 (.slice none 0 0)):=by
    have:=scell_alloc (w.alloc (.cells #[.int .i64 H,.int .i64 D,.int .i64 g,.int .i64 i,.slice a ls.length c] 26)) 0 0 0 0 (.slice none 0 0) 39
    have h2:((w.alloc (.cells #[.int .i64 H,.int .i64 D,.int .i64 g,.int .i64 i,.slice a ls.length c] 26)).alloc (.cells #[.int .i64 0,.int .i64 0,.int .i64 0,.int .i64 0,.slice none 0 0] 39)).rowIs (w.heap.size+1) 39 5 (scell 0 0 0 0 (.slice none 0 0)):=by simpa using this
    exact h2.of_block (HB.out.block _ (by omega))
   have c0:=r0.cell (show 0<5 by decide)
   have c1:=r0.cell (show 1<5 by decide)
   have c2:=r0.cell (show 2<5 by decide)
   have c3:=r0.cell (show 3<5 by decide)
   have c4:=r0.cell (show 4<5 by decide)
   have g0:=r0.frozen 0
   have g1:=r0.frozen 1
   have g2:=r0.frozen 2
   have g3:=r0.frozen 3
   have g4:=r0.frozen 4
   clear r0
   go_wp2
   refine bodyPost_ret (v:=.agg #[.int .i64 H,.int .i64 D,.int .i64 g,.int .i64 i,.slice va ls.length vc]) (by simp [results,Tryz.results12,go_sem,c0,c1,c2,c3,c4]) rfl ⟨va,vc,rfl,?_,?_,fun x e=>by have:=(HO.out.lt x.block (by rw [e];rfl)).1;omega⟩
   ·exact (ps_of_own (own2_set (own2_set (own2_set (own2_set (own2_set HO.out (p:=⟨w.heap.size+1,0,none⟩) (by simp) _) (p:=⟨w.heap.size+1,1,none⟩) (by simp) _) (p:=⟨w.heap.size+1,2,none⟩) (by simp) _) (p:=⟨w.heap.size+1,3,none⟩) (by simp) _) (p:=⟨w.heap.size+1,4,none⟩) (by simp) _) rfl).1
   ·exact (((((B0.out.setCell (by simp) _).setCell (by simp) _).setCell (by simp) _).setCell (by simp) _).setCell (by simp) _)
theorem refRight13_any (H D g i:Int) (a:Option Addr) (c:Nat) (ls:List (Int × Int)) (q:Bool) (w:World) (hp:Ps w a ls) (hl:ls.length<=maxLen) (hq:decide (1<=H/\H<=4/\1<=D/\D<=16/\right g i ls=0)=q) :
 Calls Tryz.prog 11 #[.agg #[.int .i64 H,.int .i64 D,.int .i64 g,.int .i64 i,.slice a ls.length c]] w fun e w'=>e=.returned (.bool q)/\Below w.heap.size w w':=by
 have HP:Hid (Ps w a ls):=hp
 have B0:Hid (Below w.heap.size w (w.alloc (.cells #[.int .i64 H,.int .i64 D,.int .i64 g,.int .i64 i,.slice a ls.length c] 39))):=box_over _ _
 clear hp
 by_cases h1:1<=H
 ·by_cases h2:H<=4
  ·by_cases h3:1<=D
   ·by_cases h4:D<=16
    ·obtain ⟨e,he⟩:∃ e,right g i ls=e:=⟨_,rfl⟩
     have HE:Hid (right g i ls=e):=he
     rw [he] at hq
     have d:(e == 0)=q:=by rw [<-hq,Bool.eq_iff_iff];simp [h1,h2,h3,h4]
     have d1:decide (1<=H)=true:=decide_eq_true h1
     have d2:decide (H<=4)=true:=decide_eq_true h2
     have d3:decide (1<=D)=true:=decide_eq_true h3
     have d4:decide (D<=16)=true:=decide_eq_true h4
     clear hq he h1 h2 h3 h4
     go_enter Tryz.func11,Tryz.ntmps11
     go_wp2_with (go_at_call 36;refine (refRight_any g i a c ls e HE.out _ (HP.out.keep B0.out) hl).mono ?_;rintro e' w2 ⟨rfl,hb⟩;have B2:Hid (Below _ _ _):=hb;clear hb)
     go_ret
     first | exact ⟨rfl,B0.out.trans (B2.out.mono B0.out.size)⟩ | exact ⟨ret_bool d,B0.out.trans (B2.out.mono B0.out.size)⟩
    ·have eq:q=false:=by rw [<-hq];exact decide_eq_false (fun e=>h4 e.2.2.2.1)
     have d1:decide (1<=H)=true:=decide_eq_true h1
     have d2:decide (H<=4)=true:=decide_eq_true h2
     have d3:decide (1<=D)=true:=decide_eq_true h3
     have d4:decide (D<=16)=false:=decide_eq_false h4
     subst eq
     clear hq h1 h2 h3 h4
     go_enter Tryz.func11,Tryz.ntmps11
     go_wp2
     go_ret
     exact ⟨rfl,B0.out⟩
   ·have eq:q=false:=by rw [<-hq];exact decide_eq_false (fun e=>h3 e.2.2.1)
    have d1:decide (1<=H)=true:=decide_eq_true h1
    have d2:decide (H<=4)=true:=decide_eq_true h2
    have d3:decide (1<=D)=false:=decide_eq_false h3
    subst eq
    clear hq h1 h2 h3
    go_enter Tryz.func11,Tryz.ntmps11
    go_wp2
    go_ret
    exact ⟨rfl,B0.out⟩
  ·have eq:q=false:=by rw [<-hq];exact decide_eq_false (fun e=>h2 e.2.1)
   have d1:decide (1<=H)=true:=decide_eq_true h1
   have d2:decide (H<=4)=false:=decide_eq_false h2
   subst eq
   clear hq h1 h2
   go_enter Tryz.func11,Tryz.ntmps11
   go_wp2
   go_ret
   exact ⟨rfl,B0.out⟩
 ·have eq:q=false:=by rw [<-hq];exact decide_eq_false (fun e=>h1 e.1)
  have d1:decide (1<=H)=false:=decide_eq_false h1
  subst eq
  clear hq h1
  go_enter Tryz.func11,Tryz.ntmps11
  go_wp2
  go_ret
  exact ⟨rfl,B0.out⟩
end Tn
end Go.Proofs.YtnchnlgnnlgjcaaGreat
namespace Go.Proofs.YtnchnlgnnlgjcaaGreat
open Go.RowKit
namespace Cc
theorem some_any (w:World) :
 Calls Tryz.prog 35 #[] w fun e w'=>∃ a,e=.returned (.agg #[.int .i64 1,.int .i64 1,.int .i64 2,.int .i64 0,.slice (some ⟨a,0,none⟩) 1 1])/\w.heap.size<=a/\Tn.Tr.Ps w' (some ⟨a,0,none⟩) [((2:Int),(2:Int))]/\Below w.heap.size w w':=by
 go_enter Tryz.func35,Tryz.ntmps35
 go_wp2
 have hb:Below w.heap.size w ((w.alloc (.cells #[.int .i64 1,.int .i64 1,.int .i64 2,.int .i64 0,.slice (some ⟨w.heap.size+1,0,none⟩) 1 1] 26)).alloc (.cells #[.int .i64 2,.int .i64 2] 77)):=two_boxes _ _ _
 have r0:((w.alloc (.cells #[.int .i64 1,.int .i64 1,.int .i64 2,.int .i64 0,.slice (some ⟨w.heap.size+1,0,none⟩) 1 1] 26)).alloc (.cells #[.int .i64 2,.int .i64 2] 77)).rowIs w.heap.size 26 5 (Tn.scell 1 1 2 0 (.slice (some ⟨w.heap.size+1,0,none⟩) 1 1)):=(Tn.scell_alloc w 1 1 2 0 _ _).alloc _
 have y0:((w.alloc (.cells #[.int .i64 1,.int .i64 1,.int .i64 2,.int .i64 0,.slice (some ⟨w.heap.size+1,0,none⟩) 1 1] 26)).alloc (.cells #[.int .i64 2,.int .i64 2] 77)).cell? ⟨w.heap.size,0,none⟩=some (.int .i64 1):=r0.cell (show 0<5 by decide)
 have y1:((w.alloc (.cells #[.int .i64 1,.int .i64 1,.int .i64 2,.int .i64 0,.slice (some ⟨w.heap.size+1,0,none⟩) 1 1] 26)).alloc (.cells #[.int .i64 2,.int .i64 2] 77)).cell? ⟨w.heap.size,1,none⟩=some (.int .i64 1):=r0.cell (show 1<5 by decide)
 have y2:((w.alloc (.cells #[.int .i64 1,.int .i64 1,.int .i64 2,.int .i64 0,.slice (some ⟨w.heap.size+1,0,none⟩) 1 1] 26)).alloc (.cells #[.int .i64 2,.int .i64 2] 77)).cell? ⟨w.heap.size,2,none⟩=some (.int .i64 2):=r0.cell (show 2<5 by decide)
 have y3:((w.alloc (.cells #[.int .i64 1,.int .i64 1,.int .i64 2,.int .i64 0,.slice (some ⟨w.heap.size+1,0,none⟩) 1 1] 26)).alloc (.cells #[.int .i64 2,.int .i64 2] 77)).cell? ⟨w.heap.size,3,none⟩=some (.int .i64 0):=r0.cell (show 3<5 by decide)
 have y4:((w.alloc (.cells #[.int .i64 1,.int .i64 1,.int .i64 2,.int .i64 0,.slice (some ⟨w.heap.size+1,0,none⟩) 1 1] 26)).alloc (.cells #[.int .i64 2,.int .i64 2] 77)).cell? ⟨w.heap.size,4,none⟩=some (.slice (some ⟨w.heap.size+1,0,none⟩) 1 1):=r0.cell (show 4<5 by decide)
 have rp:=World.rowIs_alloc (w.alloc (.cells #[.int .i64 1,.int .i64 1,.int .i64 2,.int .i64 0,.slice (some ⟨w.heap.size+1,0,none⟩) 1 1] 26)) #[.int .i64 2,.int .i64 2] 77 (fun _=>.int .i64 2) (fun i hi=>by match i,hi with | 0,_=>rfl | 1,_=>rfl)
 rw [World.size_alloc] at rp
 refine bodyPost_ret (v:=.agg #[.int .i64 1,.int .i64 1,.int .i64 2,.int .i64 0,.slice (some ⟨w.heap.size+1,0,none⟩) 1 1]) (by simp [results,Tryz.results35,go_sem,y0,y1,y2,y3,y4]) rfl ⟨w.heap.size+1,rfl,by omega,fun i hi=>?_,hb⟩
 have hi:i<1:=hi
 obtain rfl:i=0:=by omega
 exact ⟨w.heap.size+1,0,rfl,rp.cell (show 0<2 by decide),rp.cell (show 1<2 by decide)⟩
end Cc
end Go.Proofs.YtnchnlgnnlgjcaaGreat
namespace Go.Proofs.YtnchnlgnnlgjcaaGreat
open Go.RowKit
namespace Cc
def awT (j:Nat):List Tok:=([([[5]],[[-5]]),([[35]],[[-35]]),([[7]],[[-7]])]:List Tok).take j
def aws:List (Int × Int):=[(2,2)]
theorem aws_ok:ShOk 1 1 2 0 aws:=by unfold ShOk;decide
theorem awk:vk aws 2 1 0 0 (awT 3) 1=[[5],[35],[7]]:=by decide
theorem awv:vv aws 2 1 0 0 (awT 3) 1=[[-5],[-35],[-7]]:=by decide
def Aw (w0 w:World) (g b C j:Nat) (col:Nat->Nat):Prop :=
 ∃ R M L,PoolAt w g b 1 R M/\CaAt w col 1 g C 1 1 2 0 aws M L (cn 1 j 0) (fun _=>awT j) (fun _=>j / 2)/\Po.cnt R=1 - j / 2/\(∀ i,i<1->∀ x,x ∈ L i->0<=x/\x<(1:Nat)/\0<Ls.nth R x.toNat)/\Bk.len L 1=j / 2 /\
   (∀ x,w.heap.size<=x->col x=0)/\(∀ x,x<w0.heap.size->col x=0)/\(¬ col g=1/\¬ col g=0)/\(¬ col b=1/\¬ col b=0)/\Below w0.heap.size w0 w
theorem Aw.keep {w0 w w':World} {g b C j:Nat} {col:Nat->Nat} (h:Aw w0 w g b C j col) (hb:Below w.heap.size w w'):Aw w0 w' g b C j col:=by
 obtain ⟨R,M,L,h1,h2,h3,h4,h5,h6,h7,h8,h9,h10⟩:=h
 exact ⟨R,M,L,h1.keep hb,h2.below hb,h3,h4,h5,fun x hx=>h6 x (by have:=hb.size;omega),h7,h8,h9,h10.trans (hb.mono h10.size)⟩
theorem Aw.bd {w0 w:World} {g b C j:Nat} {col:Nat->Nat} (h:Aw w0 w g b C j col):Bd w C g 1 1 2 0 aws j 0:=by
 obtain ⟨R,M,L,h1,h2,_⟩:=h
 exact h2.bd
theorem awT_ok:∀ j,j<=3->(awT j).length=j/\∀ i (hi:i<(awT j).length),TokOk 1 1 (awT j)[i]:=fun j hj=>by
 have h3:∀ t:Tok,t ∈ ([([[5]],[[-5]]),([[35]],[[-35]]),([[7]],[[-7]])]:List Tok)->TokOk 1 1 t:=fun t ht=>by
  have cs:t=([[5]],[[-5]])\/t=([[35]],[[-35]])\/t=([[7]],[[-7]]):=by simpa using ht
  have one:∀ x:Int,-100<=x->x<=100->Ls.In32 [x]:=fun x h1 h2=>Ls.in32_mk fun i hi=>by
   obtain rfl:i=0:=by simpa using hi
   show -2147483648<=x/\x<=2147483647
   omega
  rcases cs with e | e | e <;> subst e
  ·refine ⟨rfl,rfl,fun h hh=>?_⟩
   obtain rfl:h=0:=by omega
   exact ⟨rfl,rfl,one 5 (by decide) (by decide),one (-5) (by decide) (by decide)⟩
  ·refine ⟨rfl,rfl,fun h hh=>?_⟩
   obtain rfl:h=0:=by omega
   exact ⟨rfl,rfl,one 35 (by decide) (by decide),one (-35) (by decide) (by decide)⟩
  ·refine ⟨rfl,rfl,fun h hh=>?_⟩
   obtain rfl:h=0:=by omega
   exact ⟨rfl,rfl,one 7 (by decide) (by decide),one (-7) (by decide) (by decide)⟩
 exact ⟨by unfold awT;rw [List.length_take];simp;omega,fun i hi=>h3 _ (List.mem_of_mem_take (List.getElem_mem hi))⟩
theorem one_row (u:World) (x:Int):SlQ (fun q=>u.heap.size<=q) 1 eRow ((u.alloc (.cells #[.int .i32 x] 21)).alloc (.cells #[.slice (some ⟨u.heap.size,0,none⟩) 1 1] 74)) (some ⟨u.heap.size+1,0,none⟩) [[x]]:=fun i hi=>by
 obtain rfl:i=0:=by simpa using hi
 have e0:((u.alloc (.cells #[.int .i32 x] 21)).alloc (.cells #[.slice (some ⟨u.heap.size,0,none⟩) 1 1] 74)).cell? ⟨u.heap.size,0,none⟩=some (.int .i32 x):=by
  rw [World.cell?_of_block (a:=⟨u.heap.size,0,none⟩) (Below.heap_alloc _ _ _ (by show u.heap.size<_;simp))]
  exact World.cell?_alloc_new u _ _ _
 have e1:((u.alloc (.cells #[.int .i32 x] 21)).alloc (.cells #[.slice (some ⟨u.heap.size,0,none⟩) 1 1] 74)).cell? ⟨u.heap.size+1,0,none⟩=some (.slice (some ⟨u.heap.size,0,none⟩) 1 1):=by
  have:=World.cell?_alloc_new (u.alloc (.cells #[.int .i32 x] 21)) #[.slice (some ⟨u.heap.size,0,none⟩) 1 1] 74 0
  rw [World.size_alloc] at this
  exact this
 refine ⟨u.heap.size+1,0,rfl,by simp,Nat.le_succ _,some ⟨u.heap.size,0,none⟩,1,e1,Nat.le_refl _,(by show 1<=maxLen;decide),(fun e=>nomatch e),fun k hk=>?_⟩
 obtain rfl:k=0:=by simpa using hk
 exact ⟨u.heap.size,0,rfl,by simp;omega,Nat.le_refl _,e0⟩
theorem four_boxes (u:World) (o1 o2 o3 o4:Obj):Below u.heap.size u ((((u.alloc o1).alloc o2).alloc o3).alloc o4) :=
 (((Below.refl _ u).alloc (Nat.le_refl _) o1).alloc (by simp) o2 |>.alloc (by simp;omega) o3).alloc (by simp;omega) o4
theorem four_rows (u:World) (y z:Int):SlQ (fun q=>u.heap.size<=q) 1 eRow ((((u.alloc (.cells #[.int .i32 y] 21)).alloc (.cells #[.slice (some ⟨u.heap.size,0,none⟩) 1 1] 74)).alloc (.cells #[.int .i32 z] 21)).alloc (.cells #[.slice (some ⟨u.heap.size+1+1,0,none⟩) 1 1] 74)) (some ⟨u.heap.size+1,0,none⟩) [[y]] /\
 SlQ (fun q=>u.heap.size<=q) 1 eRow ((((u.alloc (.cells #[.int .i32 y] 21)).alloc (.cells #[.slice (some ⟨u.heap.size,0,none⟩) 1 1] 74)).alloc (.cells #[.int .i32 z] 21)).alloc (.cells #[.slice (some ⟨u.heap.size+1+1,0,none⟩) 1 1] 74)) (some ⟨u.heap.size+1+1+1,0,none⟩) [[z]]:=by
 constructor
 ·exact (one_row u y).keep carry_row (two_boxes _ _ _)
 ·have h:=one_row ((u.alloc (.cells #[.int .i32 y] 21)).alloc (.cells #[.slice (some ⟨u.heap.size,0,none⟩) 1 1] 74)) z
  have e:((u.alloc (.cells #[.int .i32 y] 21)).alloc (.cells #[.slice (some ⟨u.heap.size,0,none⟩) 1 1] 74)).heap.size=u.heap.size+1+1:=by simp
  rw [e] at h
  exact h.carry carry_row (fun q _ hq=>⟨by omega,rfl⟩) (Nat.le_refl _)
theorem Aw.chg {w0 w w':World} {g b C j:Nat} {col col':Nat->Nat} (h:Aw w0 w g b C j col) (x:Chg 1 g b w w' col col'):Below w0.heap.size w0 w':=by
 obtain ⟨R,M,L,_,_,_,_,_,_,h7,h8,h9,h10⟩:=h
 obtain ⟨x1,_⟩:=x
 have s10:=h10.size
 refine ⟨x1.1.trans h10.os,x1.2.1.trans h10.tape,x1.2.2.1.trans h10.output,by have:=x1.size;omega,fun q hq=>?_⟩
 have c0:=h7 q hq
 rw [x1.block (by omega) (fun e=>h8.2 (by rw [<-e];exact c0)) (fun e=>h9.2 (by rw [<-e];exact c0)) (fun e=>by have e:col q=1:=e;omega)]
 exact h10.block q hq
set_option maxHeartbeats 1600000 in
theorem aw_put (w0:World) (g b C j S:Nat) (y z:Int) (a1 a2:Option Addr) (k1 k2:Nat) (col:Nat->Nat) (w:World) (h:Aw w0 w g b C j col) (hj:j<3) (hS:∀ x,S<=x->col x=0)
 (h1:SlQ (fun q=>S<=q) 1 eRow w a1 [[y]]) (h2:SlQ (fun q=>S<=q) 1 eRow w a2 [[z]]) (hy:awT (j+1)=awT j ++ [([[y]],[[z]])]) :
 Calls Tryz.prog 20 #[.pointer (some ⟨C,0,none⟩),.int .i64 0,.slice a1 1 k1,.slice a2 1 k2] w fun e w'=>e=.returned (.int .i64 0)/\∃ col',Aw w0 w' g b C (j+1) col'/\∀ q,q<w.heap.size->col q=0->w'.heap[q]?=w.heap[q]?/\col' q=0:=by
 obtain ⟨R,M,L,hp,hc,h3,h4,h5,h6,h7,h8,h9,h10⟩:=h
 have kd:∀ {a:Option Addr} {l:List (List Int)},SlQ (fun q=>S<=q) 1 eRow w a l->SlQ (fun x=>¬ x=g/\¬ x=b/\¬ col x=1) 1 eRow w a l:=fun hl=>hl.carry carry_row (fun q _ hq=>⟨⟨fun e=>h8.2 (by rw [<-e];exact hS q hq),fun e=>h9.2 (by rw [<-e];exact hS q hq),by rw [hS q hq];decide⟩,rfl⟩) (Nat.le_refl _)
 have ok:=(awT_ok (j+1) (by omega)).2
 have ot:TokOk 1 1 ([[y]],[[z]]):=by
  have l1:=(awT_ok j (by omega)).1
  have:=ok j (by rw [hy];simp;omega)
  simp only [hy] at this
  rw [List.getElem_append_right (by omega)] at this
  simpa [l1] using this
 have dq:∃ q0,decide (gn 2 0 j<gn 2 0 (j+1))=q0:=⟨_,rfl⟩
 obtain ⟨q0,dq⟩:=dq
 have g1:gn 2 0 (j+1)=(j+1) / 2:=rfl
 have g0:gn 2 0 j=j / 2:=rfl
 refine (put_ok_c C 1 g b 1 1 1 2 0 aws R M L j 0 (fun _=>awT j) (fun _=>j / 2) col a1 a2 k1 k2 [[y]] [[z]] q0 w hp hc aws_ok (by decide) (by omega) (fun r hr=>?_) (fun r _=>(awT_ok j (by omega)).2) (kd h1) (kd h2) rfl rfl ot dq (fun e=>?_) h4 h6 (by decide) h8 h9).mono ?_
 ·have hr:r<1:=hr
  obtain rfl:r=0:=by omega
  exact ⟨rfl,(awT_ok j (by omega)).1⟩
 ·rw [e,decide_eq_true_iff,g0,g1] at dq
  omega
 ·rintro e w' ⟨rfl,R',M',L',col',hp',hc',⟨x1,x2,x3,x4⟩,⟨f1,f2,f3,f4,f5,f6,f7,f8⟩⟩
  have lg:=hp.lt
  have hd:dn q0 1+j / 2=(j+1) / 2:=by
   unfold dn
   cases q0 with
   | true=>rw [decide_eq_true_iff,g0,g1] at dq;simp;omega
   | false=>have:=of_decide_eq_false dq;rw [g0,g1] at this;simp;omega
  have s10:=h10.size
  refine ⟨rfl,col',⟨R',M',L',hp',?_,by omega,f5,by have f7:Bk.len L' 1=Bk.len L 1+dn q0 1:=f7;omega,x4,fun x hx=>by rw [x2 x (by omega)];exact h7 x hx,by rw [x2 g lg.1];exact h8,by rw [x2 b lg.2];exact h9,?_⟩,fun q hq h0=>⟨x1.block hq (fun e=>h8.2 (by rw [<-e];exact h0)) (fun e=>h9.2 (by rw [<-e];exact h0)) (fun e=>by have e:col q=1:=e;omega),by rw [x2 q hq];exact h0⟩⟩
  ·have h:CaAt w' col' 1 g C 1 1 2 0 aws M' L' (cn 1 (j+1) 0) (tkj (fun _=>awT j) ([[y]],[[z]]) 1 0 1) (qj (fun _=>j / 2) (gn 2 0 (j+1)) 1 0 1):=hc'
   refine h.congr fun r hr=>?_
   have hr:r<1:=hr
   obtain rfl:r=0:=by omega
   exact ⟨rfl,hy.symm,rfl⟩
  ·refine ⟨x1.1.trans h10.os,x1.2.1.trans h10.tape,x1.2.2.1.trans h10.output,by have:=x1.size;omega,fun q hq=>?_⟩
   have c0:=h7 q hq
   rw [x1.block (by omega) (fun e=>h8.2 (by rw [<-e];exact c0)) (fun e=>h9.2 (by rw [<-e];exact c0)) (fun e=>by have e:col q=1:=e;omega)]
   exact h10.block q hq
end Cc
end Go.Proofs.YtnchnlgnnlgjcaaGreat
