import Derived.Test.YtnchnlgnnlgjcaaGreatCa18
import Derived.Test.YtnchnlgnnlgjcaaGreatCa14
set_option linter.unusedVariables false
set_option linter.unusedSimpArgs false
namespace Go.Proofs.YtnchnlgnnlgjcaaGreat
open Go.RowKit
namespace Cc
theorem newC_bad (g:Nat) (H D G W:Int) (al:Option Addr) (cl:Nat) (ls:List (Int × Int)) (w:World) (h:Tn.Tr.Ps w al ls) (hl:ls.length<=maxLen) (hq:¬ (1<=H/\H<=4/\1<=D/\D<=16/\Tn.Tr.right G W ls=0)) :
 Calls Tryz.prog 18 #[.pointer (some ⟨g,0,none⟩),.agg #[.int .i64 H,.int .i64 D,.int .i64 G,.int .i64 W,.slice al ls.length cl]] w fun e w'=>e=.returned (.tuple #[.pointer none,.int .i64 11])/\Below w.heap.size w w':=by
 have B0:Hid (Below w.heap.size w (w.alloc (.cells #[.int .i64 H,.int .i64 D,.int .i64 G,.int .i64 W,.slice al ls.length cl] 26))):=Rt.box_below _ _
 have RC:=Ca.hid (right_c H D G W al cl ls false _ (h.keep B0.out) hl (decide_eq_false hq))
 clear h hq
 go_enter Tryz.func18,Tryz.ntmps18
 go_wp2_with (go_at_call 13;refine RC.out.mono ?_;rintro e w1 ⟨rfl,hb⟩;have B1:=Ca.hid hb;clear hb)
 go_ret2
 exact ⟨rfl,B0.out.trans (B1.out.mono B0.out.size)⟩
def cac0 (g H D G W:Nat) (vl vc:Value) (i:Nat):Value :=
 if i=0 then .pointer (some ⟨g,0,none⟩) else if i=1 then .int .i64 H else if i=2 then .int .i64 D else if i=3 then .int .i64 G else if i=4 then .int .i64 W else if i=5 then vl else if i=6 then .pointer none else if i=7 then .slice none 0 0 else vc
def NewBox (w0 w:World) (g H D G W:Nat) (ls:List (Int × Int)) (Cb a' c' ct:Nat):Prop :=
 w.rowIs Cb 104 9 (cac0 g H D G W (.slice (some ⟨a',0,none⟩) ls.length c') (.slice (some ⟨ct,0,none⟩) ls.length ls.length))/\Tn.Tr.Ps w (some ⟨a',0,none⟩) ls/\w0.heap.size<=a'/\Ty w a' 77/\w.rowIs ct 3 ls.length (fun _=>.int .i64 0)/\w0.heap.size<=ct/\w0.heap.size<=Cb/\Below w0.heap.size w0 w
theorem cac0_alloc (w:World) (g H D G W:Nat) (v1 v2:Value):(w.alloc (.cells #[.pointer (some ⟨g,0,none⟩),.int .i64 H,.int .i64 D,.int .i64 G,.int .i64 W,v1,.pointer none,.slice none 0 0,v2] 104)).rowIs w.heap.size 104 9 (cac0 g H D G W v1 v2) :=
 World.rowIs_alloc w _ _ _ (fun i hi=>by match i,hi with | 0,_=>rfl | 1,_=>rfl | 2,_=>rfl | 3,_=>rfl | 4,_=>rfl | 5,_=>rfl | 6,_=>rfl | 7,_=>rfl | 8,_=>rfl)
theorem infoRingPtr:(Tryz.prog.info? 107).map (fun i=>(i.zero,i.size,i.bytes))=some (some (.pointer none),1,8):=by kernel_rfl
def Mad (w0 w:World) (g H D G W:Nat) (ls:List (Int × Int)) (m Cb a' c' ct T pb j:Nat) (rg rs:Nat->Nat):Prop :=
 w.rowIs Cb 104 9 (cac g H D G W (.slice (some ⟨a',0,none⟩) ls.length c') T (.slice (some ⟨pb,0,none⟩) m m) (.slice (some ⟨ct,0,none⟩) ls.length ls.length)) /\
  (Tn.Tr.Ps w (some ⟨a',0,none⟩) ls/\w0.heap.size<=a'/\Ty w a' 77)/\(w.rowIs ct 3 ls.length (fun _=>.int .i64 0)/\w0.heap.size<=ct)/\w0.heap.size<=Cb/\(Tab w g T m (fun _=>[]) (fun x=>w0.heap.size<=x/\¬ x=ct)/\w0.heap.size<=T) /\
  ((∃ F,w.rowIs pb 107 m F/\∀ i,i<j->F i=.pointer (some ⟨rg i,0,none⟩))/\w0.heap.size<=pb)/\(∀ i,i<j->Rt.RingAt w (rg i) (rs i) (W+G) 0 []/\w0.heap.size<=rg i/\w0.heap.size<=rs i)/\(∀ i i',i<j->i'<j->rg i=rg i'\/rs i=rs i'->i=i')/\Below w0.heap.size w0 w
theorem Mad.next {w0 wr w2 w3:World} {g H D G W m Cb a' c' ct T pb j g' r':Nat} {ls:List (Int × Int)} {rg rs:Nat->Nat} (h:Mad w0 wr g H D G W ls m Cb a' c' ct T pb j rg rs) (hj:j<m) (b2:Below wr.heap.size wr w2) (b3:Below w2.heap.size w2 w3) (hr:Rt.RingAt w3 g' r' (W+G) 0 []) (h1:w2.heap.size<=g') (h2:w2.heap.size<=r') :
 Mad w0 (w3.setCell ⟨pb,j,none⟩ (.pointer (some ⟨g',0,none⟩))) g H D G W ls m Cb a' c' ct T pb (j+1) (fun i=>if i=j then g' else rg i) (fun i=>if i=j then r' else rs i):=by
 obtain ⟨hC,⟨hP,hP2,hP3⟩,⟨hc,hc2⟩,hC2,⟨hT,hT2⟩,⟨⟨F,hF,hF2⟩,hF3⟩,hr1,hr2,hb⟩:=h
 have bw:Below wr.heap.size wr w3:=b2.trans (b3.mono b2.size)
 have tp:=ty_row hF
 have st:∀ x t,Ty wr x t->¬ t=107->(w3.setCell ⟨pb,j,none⟩ (.pointer (some ⟨g',0,none⟩))).heap[x]?=wr.heap[x]?:=fun x t ht hn=>by
  rw [Below.heap_setCell _ _ _ _ (show x ≠ pb from ht.ne tp hn)]
  exact bw.block x ht.lt
 have hs:=b2.size
 have hs3:=b3.size
 have hpl:pb<wr.heap.size:=hF.lt
 refine ⟨hC.of_block (st _ _ (ty_row hC) (by decide)),⟨fun i hi=>?_,hP2,hP3.of_block (st _ _ hP3 (by decide))⟩,⟨hc.of_block (st _ _ (ty_row hc) (by decide)),hc2⟩,hC2,⟨hT.stand (st _ _ hT.ty (by decide)) fun x _ ht=>by rcases ht with t | t <;> exact st _ _ t (by decide),hT2⟩,⟨⟨_,(hF.of_block (bw.block _ hpl)).set j (.pointer (some ⟨g',0,none⟩)),fun i hi=>?_⟩,hF3⟩,fun i hi=>?_,fun i i' hi hi' he=>?_,?_⟩
 ·obtain ⟨b,o,e,q1,q2⟩:=hP i hi
  cases e
  refine ⟨a',0,rfl,?_,?_⟩
  ·rw [World.cell?_of_block (a:=⟨a',0+i*2,none⟩) (st _ _ hP3 (by decide))];exact q1
  ·rw [World.cell?_of_block (a:=⟨a',0+i*2+1,none⟩) (st _ _ hP3 (by decide))];exact q2
 ·show (if i=j then Value.pointer (some ⟨g',0,none⟩) else F i)=.pointer (some ⟨if i=j then g' else rg i,0,none⟩)
  by_cases e:i=j
  ·rw [if_pos e,if_pos e]
  ·rw [if_neg e,if_neg e];exact hF2 i (by omega)
 ·by_cases e:i=j
  ·show Rt.RingAt _ (if i=j then g' else rg i) (if i=j then r' else rs i) (W+G) 0 []/\w0.heap.size<=(if i=j then g' else rg i)/\w0.heap.size<=(if i=j then r' else rs i)
   rw [if_pos e,if_pos e]
   have hs0:=hb.size
   exact ⟨hr.of_block (Below.heap_setCell _ _ _ _ (show g' ≠ pb by omega)) (Below.heap_setCell _ _ _ _ (show r' ≠ pb by omega)),by omega,by omega⟩
  ·show Rt.RingAt _ (if i=j then g' else rg i) (if i=j then r' else rs i) (W+G) 0 []/\w0.heap.size<=(if i=j then g' else rg i)/\w0.heap.size<=(if i=j then r' else rs i)
   rw [if_neg e,if_neg e]
   obtain ⟨k1,k2,k3⟩:=hr1 i (by omega)
   exact ⟨k1.of_block (st _ _ k1.tys.1 (by decide)) (st _ _ k1.tys.2 (by decide)),k2,k3⟩
 ·have lt1:∀ x,x<j->rg x<wr.heap.size/\rs x<wr.heap.size:=fun x hx=>(hr1 x hx).1.lt
  have he:(if i=j then g' else rg i)=(if i'=j then g' else rg i')\/(if i=j then r' else rs i)=(if i'=j then r' else rs i'):=he
  by_cases e:i=j
  ·by_cases e':i'=j
   ·omega
   ·rw [if_pos e,if_neg e',if_pos e,if_neg e'] at he
    have:=lt1 i' (by omega)
    omega
  ·by_cases e':i'=j
   ·rw [if_neg e,if_pos e',if_neg e,if_pos e'] at he
    have:=lt1 i (by omega)
    omega
   ·rw [if_neg e,if_neg e',if_neg e,if_neg e'] at he
    exact hr2 i i' (by omega) (by omega) he
 ·exact (hb.trans (bw.mono hb.size)).setCell (p:=⟨pb,j,none⟩) hF3 _
theorem Mad.done {w w0 wr:World} {c g H D G W Cb a' c' ct T pb:Nat} {ls:List (Int × Int)} {rg rs:Nat->Nat} {col:Nat->Nat} (M:List Int) (h:Mad w0 wr g H D G W ls (ls.length*H) Cb a' c' ct T pb (ls.length*H) rg rs) (hw:w.heap.size<=w0.heap.size) (hfr:∀ x,w.heap.size<=x->col x=0) (h0:0<ls.length) (h4:ls.length<=4) :
 ∃ col':Nat->Nat,CaAt wr col' c g Cb H D G W ls M (fun _=>[]) (cn ls.length 0 0) (fun _=>[]) (fun _=>0)/\(∀ x,x<w.heap.size->col' x=col x)/\(∀ x,w.heap.size<=x->col' x=0\/col' x=c)/\∀ x,wr.heap.size<=x->col' x=0:=by
 obtain ⟨hC,⟨hP,hP2,hP3⟩,⟨hc,hc2⟩,hC2,⟨hT,hT2⟩,⟨⟨F,hF,hF2⟩,hF3⟩,hr1,hr2,hb⟩:=h
 obtain ⟨col',hcol⟩:∃ col':Nat->Nat,∀ x,((w.heap.size<=x/\(Ty wr x 70\/Ty wr x 3\/Ty wr x 154\/Ty wr x 111))->col' x=c)/\(¬ (w.heap.size<=x/\(Ty wr x 70\/Ty wr x 3\/Ty wr x 154\/Ty wr x 111))->col' x=col x) :=
  ⟨fun x=>@ite _ (w.heap.size<=x/\(Ty wr x 70\/Ty wr x 3\/Ty wr x 154\/Ty wr x 111)) (Classical.propDecidable _) c (col x),fun x=>⟨fun h=>if_pos h,fun h=>if_neg h⟩⟩
 have yes:∀ x,w.heap.size<=x->(Ty wr x 70\/Ty wr x 3\/Ty wr x 154\/Ty wr x 111)->col' x=c:=fun x h1 h2=>(hcol x).1 ⟨h1,h2⟩
 have no:∀ x t,w.heap.size<=x->Ty wr x t->¬ t=70->¬ t=3->¬ t=154->¬ t=111->col' x=0:=fun x t h1 ht n1 n2 n3 n4=>by
  rw [(hcol x).2 (fun e=>by rcases e.2 with k | k | k | k;exact ht.ne k n1 rfl;exact ht.ne k n2 rfl;exact ht.ne k n3 rfl;exact ht.ne k n4 rfl)]
  exact hfr x h1
 refine ⟨col',⟨some ⟨a',0,none⟩,c',T,pb,ls.length*H,ct,ls.length,rg,rs,F,⟨hC,no _ _ (by omega) (ty_row hC) (by decide) (by decide) (by decide) (by decide)⟩,⟨⟨hP,fun x ex=>by cases ex;exact ⟨hP3.lt,no _ _ (Nat.le_trans hw hP2) hP3 (by decide) (by decide) (by decide) (by decide)⟩⟩,fun e=>nomatch e⟩,⟨hT.mono2 fun x _ ht hq=>⟨yes x (Nat.le_trans hw hq.1) (by rcases ht with t | t;exact .inl t;exact .inr (.inl t)),hq.2⟩,no _ _ (by omega) hT.ty (by decide) (by decide) (by decide) (by decide)⟩,⟨?_,cn_length _ _ _,yes _ (by omega) (.inr (.inl (ty_row hc)))⟩,⟨hF,hF2,Nat.le_refl _,no _ _ (by omega) (ty_row hF) (by decide) (by decide) (by decide) (by decide)⟩,hr2,fun r hr=>?_⟩,fun x hx=>(hcol x).2 (by omega),fun x hx=>?_,fun x hx=>?_⟩
 ·obtain ⟨cs,e,hn,hcell⟩:=hc
  refine ⟨by simp [cn],.inr ⟨ct,ls.length,cs,rfl,Nat.zero_le _,e,Nat.le_refl _,by unfold maxLen;omega,by rw [hn,Nat.mul_one],?_⟩⟩
  apply List.ext_getElem?
  intro i
  rw [Nat.mul_one,List.getElem?_take]
  by_cases hi:i<ls.length
  ·rw [if_pos hi,Array.getElem?_toList,hcell i hi]
   simp [cn,hi,lv]
  ·rw [if_neg hi]
   simp [cn,hi]
 ·obtain ⟨k1,k2,k3⟩:=hr1 r hr
  exact ⟨rfl,by simp,fun i hi=>absurd hi (Nat.not_lt_zero _),0,[],k1,by simp,fun i hi=>by simp at hi,yes _ (Nat.le_trans hw k2) (.inr (.inr (.inl k1.tys.1))),yes _ (Nat.le_trans hw k3) (.inr (.inr (.inr k1.tys.2)))⟩
 ·by_cases e:Ty wr x 70\/Ty wr x 3\/Ty wr x 154\/Ty wr x 111
  ·exact .inr (yes x hx e)
  ·left;rw [(hcol x).2 (fun q=>e q.2)];exact hfr x hx
 ·rw [(hcol x).2 (fun q=>by rcases q.2 with k | k | k | k <;> (have:=k.lt;omega))]
  have:=hb.size
  exact hfr x (by omega)
set_option maxRecDepth 100000 in
set_option maxHeartbeats 6400000 in
theorem newC_ok (c g H D G W:Nat) (al:Option Addr) (cl:Nat) (ls:List (Int × Int)) (M:List Int) (col:Nat->Nat) (w:World) (h:Tn.Tr.Ps w al ls) (sh:ShOk H D G W ls) (hfr:∀ x,w.heap.size<=x->col x=0) (c0:¬ c=0) :
 Calls Tryz.prog 18 #[.pointer (some ⟨g,0,none⟩),.agg #[.int .i64 (H:Int),.int .i64 (D:Int),.int .i64 (G:Int),.int .i64 (W:Int),.slice al ls.length cl]] w fun e w'=>∃ (C:Nat) (col':Nat->Nat),e=.returned (.tuple #[.pointer (some ⟨C,0,none⟩),.int .i64 0]) /\
  CaAt w' col' c g C H D G W ls M (fun _=>[]) (cn ls.length 0 0) (fun _=>[]) (fun _=>0)/\Below w.heap.size w w'/\(∀ x,x<w.heap.size->col' x=col x)/\(∀ x,w.heap.size<=x->col' x=0\/col' x=c)/\∀ x,w'.heap.size<=x->col' x=0:=by
 obtain ⟨sH,sH2,sD,sD2,sR⟩:=id sh
 obtain ⟨sG,sG2,sW,sl,sl2,-⟩:=sh.nums
 have hpos:0<ls.length:=sl
 have hpos2:ls.length<=1000:=by omega
 have SH:=Ca.hid sh
 have HP:=Ca.hid h
 have HFR:=Ca.hid hfr
 have QR:=Ca.hid (show (1:Int)<=H/\(H:Int)<=4/\(1:Int)<=D/\(D:Int)<=16/\Tn.Tr.right G W ls=0 from ⟨by omega,by omega,by omega,by omega,sR⟩)
 have hmk:=run_make_row' (P:=Tryz.prog) 70 3 (.int .i64 0) 8 Tryz.underlying70 Tryz.infoIntG rfl .i64 .i64 ls.length (by omega) (by omega)
 clear h sh sR hfr
 go_enter Tryz.func18,Tryz.ntmps18
 go_upto_region 1 with fail
 obtain ⟨u,hu⟩:∃ u,w.alloc (.cells #[.int .i64 (H:Int),.int .i64 (D:Int),.int .i64 (G:Int),.int .i64 (W:Int),.slice al ls.length cl] 26)=u:=⟨_,rfl⟩
 have U:Hid (Below w.heap.size w u):=by rw [<-hu];exact Rt.box_below _ _
 have r0:Hid (u.rowIs w.heap.size 26 5 (fun i=>if i=0 then .int .i64 (H:Int) else if i=1 then .int .i64 (D:Int) else if i=2 then .int .i64 (G:Int) else if i=3 then .int .i64 (W:Int) else .slice al ls.length cl)):=by rw [<-hu];exact shape_box
 rw [hu]
 clear hu
 have KB:Hid (∀ v:World,v.heap[w.heap.size]?=u.heap[w.heap.size]?->v.cell? ⟨w.heap.size,0,none⟩=some (.int .i64 (H:Int))/\v.cell? ⟨w.heap.size,1,none⟩=some (.int .i64 (D:Int))/\v.cell? ⟨w.heap.size,2,none⟩=some (.int .i64 (G:Int))/\v.cell? ⟨w.heap.size,3,none⟩=some (.int .i64 (W:Int))/\v.cell? ⟨w.heap.size,4,none⟩=some (.slice al ls.length cl)):=fun v hv=>by
  have r:=r0.out.of_block hv
  exact ⟨r.cell (show 0<5 by decide),r.cell (show 1<5 by decide),r.cell (show 2<5 by decide),r.cell (show 3<5 by decide),r.cell (show 4<5 by decide)⟩
 obtain ⟨x0,x1,x2,x3,x4⟩:=KB.out u rfl
 have lB:w.heap.size<u.heap.size:=r0.out.lt
 go_upto_region 3 with (go_at_call 13;refine (right_c (H:Int) (D:Int) (G:Int) (W:Int) al cl ls true u (HP.out.keep U.out) (by unfold maxLen;omega) (decide_eq_true QR.out)).mono ?_;rintro e w1 ⟨rfl,hb⟩;have B1:Hid (Below u.heap.size u w1):=hb;clear hb)
 have KS:Hid (∀ w',Below w1.heap.size w1 w'->(w'.cell? ⟨w.heap.size,0,none⟩=some (.int .i64 (H:Int))/\w'.cell? ⟨w.heap.size,1,none⟩=some (.int .i64 (D:Int))/\w'.cell? ⟨w.heap.size,2,none⟩=some (.int .i64 (G:Int))/\w'.cell? ⟨w.heap.size,3,none⟩=some (.int .i64 (W:Int))/\w'.cell? ⟨w.heap.size,4,none⟩=some (.slice al ls.length cl))/\Hid (Below w1.heap.size w1 w')):=fun w' hb =>
  ⟨KB.out w' ((hb.block _ (Nat.lt_of_lt_of_le lB B1.out.size)).trans (B1.out.block _ lB)),hb⟩
 have lB1:w.heap.size<w1.heap.size:=Nat.lt_of_lt_of_le lB B1.out.size
 have W1:Hid (Below w.heap.size w w1):=U.out.trans (B1.out.mono U.out.size)
 clear x0 x1 x2 x3 x4
 go_cut [6] from 11 to 20 (fun v wx=>∃ Cb a' c' ct:Nat,v=.pointer (some ⟨Cb,0,none⟩)/\Hid (NewBox w1 wx g H D G W ls Cb a' c' ct))
 case first =>
  go_region_held3 (fun w'=>(w'.cell? ⟨w.heap.size,0,none⟩=some (.int .i64 (H:Int))/\w'.cell? ⟨w.heap.size,1,none⟩=some (.int .i64 (D:Int))/\w'.cell? ⟨w.heap.size,2,none⟩=some (.int .i64 (G:Int))/\w'.cell? ⟨w.heap.size,3,none⟩=some (.int .i64 (W:Int))/\w'.cell? ⟨w.heap.size,4,none⟩=some (.slice al ls.length cl))/\Hid (Below w1.heap.size w1 w'))
   (first
     | assumption
     | exact KS.out _ ((Below.refl _ _).drew)
     | exact KS.out _ B2.out
     | exact KS.out _ B3.out
     | exact KS.out _ (((Below.refl w1.heap.size w1).alloc (Nat.le_refl _) _).drew)
     | exact KS.out _ (B2.out.alloc B2.out.size _)
     | exact KS.out _ (B3.out.alloc B3.out.size _)
     | exact KS.out _ ((B2.out.alloc B2.out.size _).alloc (Nat.le_trans B2.out.size (by simp)) _))
   (first
     | (go_at_call 52;(with_reducible refine (copied_c (H:Int) (D:Int) (G:Int) (W:Int) al cl ls.length ls w1.drew (HP.out.keep (W1.out.drew)) hpos hpos2 rfl).mono ?_);rintro e w2 ⟨a',c',rfl,g1,g2,g3,hb⟩;have B2:Hid (Below w1.heap.size w1 w2):=(Below.refl _ _).drew.trans hb;have R2:Hid (w1.heap.size<=a'/\Ty w2 a' 77/\Tn.Tr.Ps w2 (some ⟨a',0,none⟩) ls):=⟨g1,g2,g3⟩;clear g1 g2 g3 hb)
     | (go_at_call 52;(with_reducible refine (copied_c (H:Int) (D:Int) (G:Int) (W:Int) al cl ls.length ls _ (HP.out.keep ?_) hpos hpos2 rfl).mono ?_);(exact W1.out.trans ((((Below.refl w1.heap.size w1).alloc (Nat.le_refl _) _).drew).mono W1.out.size));rintro e w3 ⟨a',c',rfl,g1,g2,g3,hb⟩;have B3:Hid (Below w1.heap.size w1 w3):=(((Below.refl w1.heap.size w1).alloc (Nat.le_refl _) _).drew).trans (hb.mono (by simp));have R3:Hid (w1.heap.size<=a'/\Ty w3 a' 77/\Tn.Tr.Ps w3 (some ⟨a',0,none⟩) ls/\w3.rowIs w1.heap.size 3 ls.length (fun _=>.int .i64 0)):=⟨Nat.le_trans (by simp) g1,g2,g3,(World.rowIs_made w1 (.int .i64 0) ls.length 3).of_block (hb.block _ (by simp))⟩;clear g1 g2 g3 hb))
  all_goals (go_wp2_with fail)
  all_goals go_meet
  ·have hb:=cac0_alloc (w2.alloc (.cells (madeCells #[.int .i64 0] ls.length) 3)) g H D G W (.slice (some ⟨a',0,none⟩) ls.length c') (.slice (some ⟨w2.heap.size,0,none⟩) ls.length ls.length)
   rw [World.size_alloc] at hb
   exact ⟨w2.heap.size+1,a',c',w2.heap.size,rfl,hb,R2.out.2.2.keep (two_boxes _ _ _),R2.out.1,R2.out.2.1.of_block ((two_boxes _ _ _).block _ R2.out.2.1.lt),(World.rowIs_made w2 (.int .i64 0) ls.length 3).alloc _,B2.out.size,by have:=B2.out.size;omega,(B2.out.alloc B2.out.size _).alloc (by have:=B2.out.size;simp;omega) _⟩
  ·exact ⟨w3.heap.size,a',c',w1.heap.size,rfl,cac0_alloc w3 g H D G W _ _,R3.out.2.2.1.keep (Rt.box_below _ _),R3.out.1,R3.out.2.1.of_block ((Rt.box_below _ _).block _ R3.out.2.1.lt),R3.out.2.2.2.alloc _,Nat.le_refl _,B3.out.size,B3.out.alloc B3.out.size _⟩
 case rest =>
  obtain ⟨Cb,a',c',ct,rfl,NB⟩:=hcut
  have BC:Hid (Below w1.heap.size w1 wc):=NB.out.2.2.2.2.2.2.2
  obtain ⟨x0,x1,x2,x3,x4⟩:=KB.out wc ((BC.out.block _ lB1).trans (B1.out.block _ lB))
  have lBc:w.heap.size<wc.heap.size:=Nat.lt_of_lt_of_le lB1 BC.out.size
  have hbl:=NB.out.1
  have lCb:Cb<wc.heap.size:=hbl.lt
  obtain ⟨m,em⟩:∃ m,ls.length*H=m:=⟨_,rfl⟩
  have EM:=Ca.hid em
  have hm:m<=16:=by rw [<-em];exact Nat.le_trans (Nat.mul_le_mul sl2 sH2) (by decide)
  have e1:IntKind.i64.wrap ((ls.length:Int)*H)=(m:Int):=by rw [<-Int.natCast_mul,em,IntKind.wrap_i64];omega
  clear hbl em KS
  go_upto_region 5 with (go_at_call 53;refine (newTable_ok g m hm _).mono ?_;rintro e w4 ⟨T,rfl,ht,hT,hb⟩;have T4:Hid (Tab w4 g T m (fun _=>[]) (fun x=>wc.heap.size<=x)/\wc.heap.size<=T/\Below wc.heap.size wc w4):=⟨ht,hT,hb⟩;have b4:=NB.out.1.of_block (hb.block _ lCb);have z6:w4.cell? ⟨Cb,6,none⟩=some (.pointer none):=b4.cell (show 6<9 by decide);have f6:=b4.frozen 6;have NB4:=Ca.hid b4;clear ht hT hb b4)
  obtain ⟨u4,hu4⟩:∃ v,w4.setCell ⟨Cb,6,none⟩ (.pointer (some ⟨T,0,none⟩))=v:=⟨_,rfl⟩
  have tCb:Ty w4 Cb 104:=ty_row NB4.out
  have f4:∀ x t,Ty w4 x t->¬ t=104->u4.heap[x]?=w4.heap[x]?:=fun x t ht hn=>by rw [<-hu4];exact Below.heap_setCell _ _ _ _ (show x ≠ Cb from ht.ne tCb hn)
  have n4:u4.rowIs Cb 104 9 (fun i=>if i=6 then .pointer (some ⟨T,0,none⟩) else cac0 g H D G W (.slice (some ⟨a',0,none⟩) ls.length c') (.slice (some ⟨ct,0,none⟩) ls.length ls.length) i):=by rw [<-hu4];exact NB4.out.set 6 _
  have b14:Below w1.heap.size w1 u4:=by rw [<-hu4];exact (BC.out.trans (T4.out.2.2.mono BC.out.size)).setCell (p:=⟨Cb,6,none⟩) NB.out.2.2.2.2.2.2.1 _
  have tP:Ty w4 a' 77:=NB.out.2.2.2.1.of_block (T4.out.2.2.block _ NB.out.2.2.2.1.lt)
  have lct:ct<wc.heap.size:=NB.out.2.2.2.2.1.lt
  have U4:Hid (u4.rowIs Cb 104 9 (fun i=>if i=6 then .pointer (some ⟨T,0,none⟩) else cac0 g H D G W (.slice (some ⟨a',0,none⟩) ls.length c') (.slice (some ⟨ct,0,none⟩) ls.length ls.length) i)/\Below w1.heap.size w1 u4/\Tab u4 g T m (fun _=>[]) (fun x=>w1.heap.size<=x/\¬ x=ct)/\w1.heap.size<=T/\(Tn.Tr.Ps u4 (some ⟨a',0,none⟩) ls/\w1.heap.size<=a'/\Ty u4 a' 77)/\u4.rowIs ct 3 ls.length (fun _=>.int .i64 0)):=by
   refine ⟨n4,b14,((T4.out.1.stand (f4 _ _ T4.out.1.ty (by decide)) fun x _ ht=>by rcases ht with t | t <;> exact f4 _ _ t (by decide))).mono fun x _ hq=>⟨Nat.le_trans BC.out.size hq,by omega⟩,Nat.le_trans BC.out.size T4.out.2.1,⟨fun i hi=>?_,NB.out.2.2.1,tP.of_block (f4 _ _ tP (by decide))⟩,?_⟩
   ·obtain ⟨b,o,e,q1,q2⟩:=(NB.out.2.1.keep T4.out.2.2) i hi
    cases e
    refine ⟨a',0,rfl,?_,?_⟩
    ·rw [World.cell?_of_block (a:=⟨a',0+i*2,none⟩) (f4 _ _ tP (by decide))];exact q1
    ·rw [World.cell?_of_block (a:=⟨a',0+i*2+1,none⟩) (f4 _ _ tP (by decide))];exact q2
   ·have r:=NB.out.2.2.2.2.1.of_block (T4.out.2.2.block _ lct)
    exact r.of_block (f4 _ _ (ty_row r) (by decide))
  have z6':u4.cell? ⟨Cb,6,none⟩=some (.pointer (some ⟨T,0,none⟩)):=n4.cell (show 6<9 by decide)
  have z7:u4.cell? ⟨Cb,7,none⟩=some (.slice none 0 0):=n4.cell (show 7<9 by decide)
  have f7:=n4.frozen 7
  have hmk2:=run_make_row' (P:=Tryz.prog) 102 107 (.pointer none) 8 Tryz.underlying102 infoRingPtr rfl .i64 .i64 m (by omega) (by omega)
  have lCb4:Cb<u4.heap.size:=n4.lt
  rw [hu4]
  clear hu4 f4 n4 b14 tP x0 x1 x2 x3 x4 z6 f6 tCb hmk
  go_cut [] from 36 to 44 (fun wx=>∃ pb:Nat,Hid (Mad w1 wx g H D G W ls m Cb a' c' ct T pb 0 (fun _=>0) (fun _=>0)))
  case first =>
   go_wp2_with (go_at_call 54;refine (rows_any g T m _ _ _ U4.out.2.2.1).mono ?_;rintro e w' ⟨rfl,hww⟩;cases hww.symm;clear hww)
   go_meet
   have b5:=(Below.refl 0 u4).setCell (p:=⟨Cb,7,none⟩) (Nat.zero_le _) (.slice (some ⟨u4.heap.size,0,none⟩) m m)
   have sz:(u4.setCell ⟨Cb,7,none⟩ (.slice (some ⟨u4.heap.size,0,none⟩) m m)).heap.size=u4.heap.size:=by simp [World.setCell]
   have tC:=ty_row U4.out.1
   have f5:∀ x t,Ty u4 x t->¬ t=104->((u4.setCell ⟨Cb,7,none⟩ (.slice (some ⟨u4.heap.size,0,none⟩) m m)).alloc (.cells (madeCells #[.pointer none] m) 107)).heap[x]?=u4.heap[x]?:=fun x t ht hn =>
    (Below.heap_alloc _ _ _ (by rw [sz];exact ht.lt)).trans (Below.heap_setCell _ _ _ _ (show x ≠ Cb from ht.ne tC hn))
   have hpb:=World.rowIs_made (u4.setCell ⟨Cb,7,none⟩ (.slice (some ⟨u4.heap.size,0,none⟩) m m)) (.pointer none) m 107
   rw [sz] at hpb
   have nC:=((U4.out.1.set 7 (.slice (some ⟨u4.heap.size,0,none⟩) m m)).congr (g:=cac g H D G W (.slice (some ⟨a',0,none⟩) ls.length c') T (.slice (some ⟨u4.heap.size,0,none⟩) m m) (.slice (some ⟨ct,0,none⟩) ls.length ls.length)) (fun i hi=>by match i,hi with | 0,_=>rfl | 1,_=>rfl | 2,_=>rfl | 3,_=>rfl | 4,_=>rfl | 5,_=>rfl | 6,_=>rfl | 7,_=>rfl | 8,_=>rfl)).alloc (.cells (madeCells #[.pointer none] m) 107)
   refine ⟨u4.heap.size,nC,⟨fun i hi=>?_,U4.out.2.2.2.2.1.2.1,U4.out.2.2.2.2.1.2.2.of_block (f5 _ _ U4.out.2.2.2.2.1.2.2 (by decide))⟩,⟨U4.out.2.2.2.2.2.of_block (f5 _ _ (ty_row U4.out.2.2.2.2.2) (by decide)),NB.out.2.2.2.2.2.1⟩,NB.out.2.2.2.2.2.2.1,⟨U4.out.2.2.1.stand (f5 _ _ U4.out.2.2.1.ty (by decide)) fun x _ ht=>(by rcases ht with t | t <;> exact f5 _ _ t (by decide)),U4.out.2.2.2.1⟩,⟨⟨_,hpb,fun i hi=>absurd hi (Nat.not_lt_zero _)⟩,U4.out.2.1.size⟩,fun i hi=>absurd hi (Nat.not_lt_zero _),fun i i' hi=>absurd hi (Nat.not_lt_zero _),(U4.out.2.1.setCell (p:=⟨Cb,7,none⟩) NB.out.2.2.2.2.2.2.1 _).alloc (by rw [sz];exact U4.out.2.1.size) _⟩
   obtain ⟨b,o,e,q1,q2⟩:=U4.out.2.2.2.2.1.1 i hi
   cases e
   refine ⟨a',0,rfl,?_,?_⟩
   ·rw [World.cell?_of_block (a:=⟨a',0+i*2,none⟩) (f5 _ _ U4.out.2.2.2.2.1.2.2 (by decide))];exact q1
   ·rw [World.cell?_of_block (a:=⟨a',0+i*2+1,none⟩) (f5 _ _ U4.out.2.2.2.2.1.2.2 (by decide))];exact q2
  case rest =>
   obtain ⟨pb,MD⟩:=hcut
   have y7:wc.cell? ⟨Cb,7,none⟩=some (.slice (some ⟨pb,0,none⟩) m m):=MD.out.1.cell (show 7<9 by decide)
   clear z6' z7 f7 hmk2 lCb4
   obtain ⟨nn,enn⟩:∃ n,W+G=n:=⟨_,rfl⟩
   have ENN:=Ca.hid enn
   have hnn:nn<=1024:=by omega
   have e2:IntKind.i64.wrap ((W:Int)+G)=(nn:Int):=by rw [IntKind.wrap_i64];omega
   go_wp2
   clear y7
   go_loopw [50] (fun i wq=>∃ (j:Nat) (rg rs:Nat->Nat),j<=m/\i=.int .i64 j/\Hid (Mad w1 wq g H D G W ls m Cb a' c' ct T pb j rg rs)) (fun i _=>m - (intOf i).toNat)
   case atStart=>exact ⟨0,_,_,Nat.zero_le _,rfl,MD.out⟩
   case round =>
    obtain ⟨j,rg,rs,hj,rfl,MJ⟩:=hrel
    by_cases hlt:j<m
    ·have bJ:=MJ.out.2.2.2.2.2.2.2.2
     have tCb:Ty wr Cb 104:=ty_row MJ.out.1
     have lpb:pb<wr.heap.size/\¬ pb=Cb:=by
      obtain ⟨⟨F,hF,_⟩,_⟩:=MJ.out.2.2.2.2.2.1
      exact ⟨hF.lt,(ty_row hF).ne tCb (by decide)⟩
     have npb:¬ pb=w.heap.size:=by have:=MJ.out.2.2.2.2.2.1.2;omega
     have KV:Hid (∀ w':World,w'.heap[Cb]?=wr.heap[Cb]?->w'.heap[w.heap.size]?=wr.heap[w.heap.size]?->w'.cell? ⟨Cb,7,none⟩=some (.slice (some ⟨pb,0,none⟩) m m)/\w'.cell? ⟨w.heap.size,2,none⟩=some (.int .i64 (G:Int))/\w'.cell? ⟨w.heap.size,3,none⟩=some (.int .i64 (W:Int))/\w'.cell? ⟨w.heap.size,4,none⟩=some (.slice al ls.length cl)):=fun w' h1 h2=>by
      have k:=KB.out w' (h2.trans ((bJ.block _ lB1).trans (B1.out.block _ lB)))
      exact ⟨(MJ.out.1.of_block h1).cell (show 7<9 by decide),k.2.2.1,k.2.2.2.1,k.2.2.2.2⟩
     have lW:w.heap.size<wr.heap.size:=Nat.lt_of_lt_of_le lB1 bJ.size
     have lCr:Cb<wr.heap.size:=tCb.lt
     have e3:(0:Int)<=(j:Int):=by omega
     have e4:(j:Int)<(m:Int):=by omega
     have g1:(1:Int)<=G:=by omega
     have g2:(G:Int)<=16:=by omega
     have g3:(0:Int)<=W:=by omega
     have g4:(W:Int)<=64:=by omega
     clear bJ tCb
     go_upto_region 9 with fail
     go_region_held3 (fun w'=>w'.cell? ⟨Cb,7,none⟩=some (.slice (some ⟨pb,0,none⟩) m m)/\w'.cell? ⟨w.heap.size,2,none⟩=some (.int .i64 (G:Int))/\w'.cell? ⟨w.heap.size,3,none⟩=some (.int .i64 (W:Int))/\w'.cell? ⟨w.heap.size,4,none⟩=some (.slice al ls.length cl))
      (first
        | assumption
        | exact KV.out _ rfl rfl
        | exact KV.out _ (B2.out.block _ lCr) (B2.out.block _ lW)
        | exact KV.out _ (B3.out.block _ lCr) (B3.out.block _ lW)
        | exact KV.out _ ((Below.heap_setCell _ _ _ _ (show Cb ≠ pb from fun e=>lpb.2 e.symm)).trans (B3.out.block _ lCr)) ((Below.heap_setCell _ _ _ _ (show w.heap.size ≠ pb from fun e=>npb e.symm)).trans (B3.out.block _ lW)))
      (first
        | (go_at_call 56;(with_reducible refine (Tn.most_any (G:Int) (W:Int) (.slice al ls.length cl) g1 g2 g3 g4 wr.drew).mono ?_);rintro e w2 ⟨rfl,hb⟩;have B2:Hid (Below wr.heap.size wr w2):=(Below.refl _ _).drew.trans hb;clear hb)
        | (go_at_call 55;(with_reducible refine (Rt.new_ok nn hnn w2).mono ?_);rintro e w3 ⟨g',r',rfl,hri,h1,h2,hb⟩;have B3:Hid (Below wr.heap.size wr w3):=B2.out.trans (hb.mono B2.out.size);have NX:Hid (Mad w1 (w3.setCell ⟨pb,j,none⟩ (.pointer (some ⟨g',0,none⟩))) g H D G W ls m Cb a' c' ct T pb (j+1) (fun i=>if i=j then g' else rg i) (fun i=>if i=j then r' else rs i)):=(MJ.out.next hlt B2.out hb (by rw [ENN.out];exact hri) h1 h2);obtain ⟨pv,hpv,hpf⟩:∃ v,w3.cell? ⟨pb,j,none⟩=some v/\w3.frozen? ⟨pb,j,none⟩=false:=(by obtain ⟨⟨F,hF,_⟩,_⟩:=MJ.out.2.2.2.2.2.1;have r:=hF.of_block (B3.out.block _ lpb.1);exact ⟨_,r.cell hlt,r.frozen j⟩);clear hri h1 h2 hb))
     all_goals
      go_wp2
      go_roundw
      case rel=>exact ⟨j+1,_,_,by omega,by go_num,NX.out⟩
      case measure=>simp [intOf];omega
    ·have ej:j=m:=by omega
     subst ej
     have MF:Hid (Mad w1 wr g H D G W ls (ls.length*H) Cb a' c' ct T pb (ls.length*H) rg rs):=by rw [EM.out];exact MJ.out
     go_wp2
     go_ret2
     obtain ⟨col',q1,q2,q3,q4⟩:=MF.out.done (c:=c) M W1.out.size HFR.out hpos sl2
     exact ⟨Cb,col',rfl,q1,W1.out.trans (MF.out.2.2.2.2.2.2.2.2.mono W1.out.size),q2,q3,q4⟩
end Cc
end Go.Proofs.YtnchnlgnnlgjcaaGreat
namespace Go.Proofs.YtnchnlgnnlgjcaaGreat
open Go.RowKit
namespace Cc
set_option maxHeartbeats 1600000 in
theorem CaIn.forked {w w':World} {col:Nat->Nat} {c c2 g b n C C2 H D G W:Nat} {ls:List (Int × Int)} {R M:List Int} {L:Nat->List Int} {cnt:List Int} {tk:Nat->List Tok} {q:Nat->Nat}
 {al:Option Addr} {cl T pb pc ct cc:Nat} {rg rs:Nat->Nat} {F:Nat->Value} (h:CaIn w col c g C H D G W ls M L cnt tk q al cl T pb pc ct cc rg rs F) (hp:PoolAt w g b n R M) (hfr:∀ x,w.heap.size<=x->col x=0)
 (cg:¬ col g=c/\¬ col g=0) (cb:¬ col b=c/\¬ col b=0) (hfar:∀ x,x<w.heap.size->¬ x=g->¬ x=b->w'.heap[x]?=w.heap[x]?) (hs:w.heap.size<=w'.heap.size)
 {a2 cl2 T2 pb2 pc2 ct2 cc2:Nat} {rg2 rs2:Nat->Nat} {F2:Nat->Value}
 (hC:w'.rowIs C2 104 9 (cac g H D G W (.slice (some ⟨a2,0,none⟩) ls.length cl2) T2 (.slice (some ⟨pb2,0,none⟩) (ls.length*H) pc2) (.slice (some ⟨ct2,0,none⟩) ls.length cc2))) (hC2:w.heap.size<=C2)
 (hP:Tn.Tr.Ps w' (some ⟨a2,0,none⟩) ls) (hP2:w.heap.size<=a2) (hP3:Ty w' a2 77) (hT:Tab w' g T2 (ls.length*H) L (fun x=>w.heap.size<=x/\¬ x=ct2)) (hT2:w.heap.size<=T2)
 (hc:w'.ownsRow 0 3 1 (.slice (some ⟨ct2,0,none⟩) ls.length cc2) ls.length (cnt.map (Value.int .i64))) (hc2:w.heap.size<=ct2)
 (hF:w'.rowIs pb2 107 pc2 F2) (hF1:∀ r,r<ls.length*H->F2 r=.pointer (some ⟨rg2 r,0,none⟩)) (hF2:ls.length*H<=pc2) (hF3:w.heap.size<=pb2)
 (hr:∀ r,r<ls.length*H->∃ f l,Rt.RingAt w' (rg2 r) (rs2 r) (W+G) f l/\l.length+q r*G=(tk r).length/\(∀ i (h:q r*G+i<(tk r).length),TvAt col w (Rt.nth l i) (tk r)[q r*G+i] (r % H))/\w.heap.size<=rg2 r/\w.heap.size<=rs2 r)
 (hd:∀ i j,i<ls.length*H->j<ls.length*H->rg2 i=rg2 j\/rs2 i=rs2 j->i=j) :
 ∃ col':Nat->Nat,CaAt w' col' c g C H D G W ls M L cnt tk q/\CaAt w' col' c2 g C2 H D G W ls M L cnt tk q/\(∀ x,x<w.heap.size->col' x=col x)/\(∀ x,w.heap.size<=x->col' x=0\/col' x=c2)/\∀ x,w'.heap.size<=x->col' x=0:=by
 obtain ⟨col',hcol⟩:∃ col':Nat->Nat,∀ x,((w.heap.size<=x/\(Ty w' x 70\/Ty w' x 3\/Ty w' x 154\/Ty w' x 111))->col' x=c2)/\(¬ (w.heap.size<=x/\(Ty w' x 70\/Ty w' x 3\/Ty w' x 154\/Ty w' x 111))->col' x=col x) :=
  ⟨fun x=>@ite _ (w.heap.size<=x/\(Ty w' x 70\/Ty w' x 3\/Ty w' x 154\/Ty w' x 111)) (Classical.propDecidable _) c2 (col x),fun x=>⟨fun h=>if_pos h,fun h=>if_neg h⟩⟩
 have yes:∀ x,w.heap.size<=x->(Ty w' x 70\/Ty w' x 3\/Ty w' x 154\/Ty w' x 111)->col' x=c2:=fun x h1 h2=>(hcol x).1 ⟨h1,h2⟩
 have no:∀ x t,w.heap.size<=x->Ty w' x t->¬ t=70->¬ t=3->¬ t=154->¬ t=111->col' x=0:=fun x t h1 ht n1 n2 n3 n4=>by
  rw [(hcol x).2 (fun e=>by rcases e.2 with k | k | k | k;exact ht.ne k n1 rfl;exact ht.ne k n2 rfl;exact ht.ne k n3 rfl;exact ht.ne k n4 rfl)]
  exact hfr x h1
 have old:∀ x,x<w.heap.size->col' x=col x:=fun x hx=>(hcol x).2 (by omega)
 have k0:∀ x,x<w.heap.size->col x=0->col' x=0/\w'.heap[x]?=w.heap[x]?:=fun x hx h0=>⟨by rw [old x hx];exact h0,hfar x hx (fun e=>cg.2 (by rw [<-e];exact h0)) (fun e=>cb.2 (by rw [<-e];exact h0))⟩
 have hcn:cnt.length=ls.length:=h.2.2.2.1.2.1
 have hrow:=h.2.2.2.2.2.2
 refine ⟨col',h.at.carry (fun x hx e=>⟨old x hx,hfar x hx (fun ee=>?_) (fun ee=>?_)⟩) hs (fun _ _ _ _=>rfl),?_,old,fun x hx=>?_,fun x hx=>?_⟩
 ·subst ee;rcases e with e | e;exact cg.2 e;exact cg.1 e
 ·subst ee;rcases e with e | e;exact cb.2 e;exact cb.1 e
 ·refine ⟨some ⟨a2,0,none⟩,cl2,T2,pb2,pc2,ct2,cc2,rg2,rs2,F2,⟨hC,no _ _ hC2 (ty_row hC) (by decide) (by decide) (by decide) (by decide)⟩,⟨⟨hP,fun x ex=>by cases ex;exact ⟨hP3.lt,no _ _ hP2 hP3 (by decide) (by decide) (by decide) (by decide)⟩⟩,fun e=>nomatch e⟩,⟨hT.mono2 fun x _ ht hq=>⟨yes x hq.1 (by rcases ht with t | t;exact .inl t;exact .inr (.inl t)),hq.2⟩,no _ _ hT2 hT.ty (by decide) (by decide) (by decide) (by decide)⟩,⟨hc,hcn,yes _ hc2 (.inr (.inl (ty_own hc rfl)))⟩,⟨hF,hF1,hF2,no _ _ hF3 (ty_row hF) (by decide) (by decide) (by decide) (by decide)⟩,hd,fun r hr1=>?_⟩
  obtain ⟨f,l,k1,k2,k3,k4,k5⟩:=hr r hr1
  obtain ⟨o1,o2,o3,_⟩:=hrow r hr1
  refine ⟨o1,o2,fun i hi=>?_,f,l,k1,k2,fun i hi=>(k3 i hi).carry k0 hs,yes _ k4 (.inr (.inr (.inl k1.tys.1))),yes _ k5 (.inr (.inr (.inr k1.tys.2)))⟩
  obtain ⟨p,e,hp'⟩:=o3 i hi
  exact ⟨p,e,hp'.carry k0⟩
 ·by_cases e:Ty w' x 70\/Ty w' x 3\/Ty w' x 154\/Ty w' x 111
  ·exact .inr (yes x hx e)
  ·left;rw [(hcol x).2 (fun q=>e q.2)];exact hfr x hx
 ·rw [(hcol x).2 (fun q=>by rcases q.2 with k | k | k | k <;> (have:=k.lt;omega))]
  exact hfr x (by omega)
end Cc
end Go.Proofs.YtnchnlgnnlgjcaaGreat
