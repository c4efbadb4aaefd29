import Derived.Test.YtnchnlgnnlgjcaaGreatCa27
import Derived.Test.YtnchnlgnnlgjcaaGreatCa21
set_option linter.unusedVariables false
set_option linter.unusedSimpArgs false
namespace Go.Proofs.YtnchnlgnnlgjcaaGreat
open Go.RowKit
namespace Cc
def few (x:Rec):Bool:=decide (x.2.2.2.2.2.2.1.length<=10) && decide (x.2.2.2.2.2.2.2.length<=10)
def smallB (K:Nat->Rec) (len nl:Nat) (n:Int):Bool:=(List.range len).all (fun i=>few (K i)) && (decide (len<=80) && (decide (0<=n) && (decide (n<=60) && decide (nl<=10))))
theorem smallB_no {K:Nat->Rec} {len nl:Nat} {n:Int} {i:Nat} (hi:i<len) (h:few (K i)=false):smallB K len nl n=false:=by
 unfold smallB
 have:(List.range len).all (fun i=>few (K i))=false:=by
  rw [List.all_eq_false]
  exact ⟨i,by simpa using hi,by simp [h]⟩
 rw [this,Bool.false_and]
theorem smallB_yes {K:Nat->Rec} {len nl:Nat} {n:Int} (h:∀ i,i<len->few (K i)=true):smallB K len nl n=(decide (len<=80) && (decide (0<=n) && (decide (n<=60) && decide (nl<=10)))):=by
 unfold smallB
 have:(List.range len).all (fun i=>few (K i))=true:=by
  rw [List.all_eq_true]
  exact fun i hi=>h i (by simpa using hi)
 rw [this,Bool.true_and]
theorem smallB_true {K:Nat->Rec} {len nl:Nat} {n:Int} (h:smallB K len nl n=true):(∀ i,i<len->(K i).2.2.2.2.2.2.1.length<=10/\(K i).2.2.2.2.2.2.2.length<=10)/\len<=80/\0<=n/\n<=60/\nl<=10:=by
 unfold smallB few at h
 simp only [Bool.and_eq_true,List.all_eq_true,decide_eq_true_iff,List.mem_range] at h
 exact h
set_option maxRecDepth 100000 in
set_option maxHeartbeats 3200000 in
theorem small_any (B:Nat) (n H D G W:Int) (al:Option Addr) (cl nl:Nat) (ao:Option Addr) (len co:Nat) (K:Nat->Rec) (q:Bool) (w:World) (h:Ops B w ao len K) (hB:B<=w.heap.size) (hl:len<=maxLen) (hq:smallB K len nl n=q) :
 Calls Tryz.prog 8 #[.agg #[.int .i64 n,.int .i64 H,.int .i64 D,.int .i64 G,.int .i64 W,.slice al nl cl,.slice ao len co]] w fun e w'=>e=.returned (.bool q)/\Below w.heap.size w w':=by
 have HO:=Ca.hid h
 have HQ:=Ca.hid hq
 have HB:Hid (Below w.heap.size w (w.alloc (.cells #[.int .i64 n,.int .i64 H,.int .i64 D,.int .i64 G,.int .i64 W,.slice al nl cl,.slice ao len co] 29))):=box_below _ _
 have hm:(len:Int)<=9223372036854775807:=by unfold maxLen at hl;omega
 clear h hq hl
 go_enter Tryz.func8,Tryz.ntmps8
 go_wp2
 obtain ⟨w0,hw0⟩:∃ w0,w.alloc (.cells #[.int .i64 n,.int .i64 H,.int .i64 D,.int .i64 G,.int .i64 W,.slice al nl cl,.slice ao len co] 29)=w0:=⟨_,rfl⟩
 have k0:Hid (∀ v,Below (w.heap.size+1) w0 v->v.cell? ⟨w.heap.size,0,none⟩=some (.int .i64 n)/\v.cell? ⟨w.heap.size,5,none⟩=some (.slice al nl cl)/\v.cell? ⟨w.heap.size,6,none⟩=some (.slice ao len co)):=fun v hv=>by
  have e:v.heap[w.heap.size]?=some (.cells #[.int .i64 n,.int .i64 H,.int .i64 D,.int .i64 G,.int .i64 W,.slice al nl cl,.slice ao len co] 29):=by
   rw [hv.block _ (Nat.lt_succ_self _),<-hw0];exact heap_alloc_new w _
  exact ⟨cell_of_row _ _ _ _ _ _ e,cell_of_row _ _ _ _ _ _ e,cell_of_row _ _ _ _ _ _ e⟩
 have s0:w0.heap.size=w.heap.size+1:=by rw [<-hw0];simp
 have HB0:Hid (Below w.heap.size w w0):=by rw [<-hw0];exact HB.out
 rw [hw0]
 clear hw0 HB
 go_loopw [8] (fun i wq=>∃ j:Nat,j<=len/\i=.int .i64 j/\Hid (∀ i,i<j->few (K i)=true)/\Hid (Below (w.heap.size+1) w0 wq)) (fun i _=>len - (intOf i).toNat)
 case atStart=>exact ⟨0,Nat.zero_le _,rfl,fun i hi=>by omega,Below.refl _ _⟩
 case round =>
  obtain ⟨j,hj,rfl,FW,BW⟩:=hrel
  have BB:Hid (Below w.heap.size w wr):=HB0.out.trans (BW.out.mono (by omega))
  obtain ⟨k1,k2,k3⟩:=k0.out _ BW.out
  have hsr:w.heap.size+1<=wr.heap.size:=by have:=BW.out.size;omega
  by_cases hlt:j<len
  ·obtain ⟨b,o,rfl,hb,h6⟩:=(HO.out.keep (BB.out.mono hB)).get hlt
   obtain ⟨⟨q0,q1,q2,q3,q4,q5⟩,-⟩:=h6 j hlt
   obtain ⟨x0,ex0⟩:∃ z,(K j).1=z:=⟨_,rfl⟩
   obtain ⟨x1,ex1⟩:∃ z,(K j).2.1=z:=⟨_,rfl⟩
   obtain ⟨x2,ex2⟩:∃ z,(K j).2.2.1=z:=⟨_,rfl⟩
   obtain ⟨x3,ex3⟩:∃ z,(K j).2.2.2.1=z:=⟨_,rfl⟩
   obtain ⟨n1,en1⟩:∃ z,(K j).2.2.2.2.2.2.1.length=z:=⟨_,rfl⟩
   obtain ⟨n2,en2⟩:∃ z,(K j).2.2.2.2.2.2.2.length=z:=⟨_,rfl⟩
   obtain ⟨⟨p1,d1⟩,ep1⟩:∃ z,(K j).2.2.2.2.1=z:=⟨_,rfl⟩
   obtain ⟨⟨p2,d2⟩,ep2⟩:∃ z,(K j).2.2.2.2.2.1=z:=⟨_,rfl⟩
   rw [ex0] at q0
   rw [ex1] at q1
   rw [ex2] at q2
   rw [ex3] at q3
   rw [en1,ep1] at q4
   rw [en2,ep2] at q5
   have EF:Hid (few (K j)=(decide (n1<=10) && decide (n2<=10))):=by show _=_;unfold few;rw [en1,en2]
   clear ex0 ex1 ex2 ex3 en1 en2 ep1 ep2 h6 k1 k2
   have e0:(0:Int)<=(j:Int):=by omega
   have e1:(j:Int)<(len:Int):=by omega
   by_cases c1:(n1:Int)<=10
   ·have c1':¬ (10:Int)<n1:=by omega
    by_cases c2:(n2:Int)<=10
    ·have c2':¬ (10:Int)<n2:=by omega
     go_wp2
     go_roundw
     case rel =>
      refine ⟨j+1,by omega,by go_num,fun i hi=>?_,BW.out.trans ((box_below wr _).mono hsr)⟩
      by_cases e:i=j
      ·rw [e,EF.out,decide_eq_true (by omega:n1<=10),decide_eq_true (by omega:n2<=10)];rfl
      ·exact FW.out i (by omega)
     case measure=>simp [intOf];omega
    ·have c2':(10:Int)<n2:=by omega
     go_wp2
     go_ret
     refine ⟨?_,BB.out.trans ((box_below wr _).mono (by omega))⟩
     rw [<-HQ.out,smallB_no hlt (by rw [EF.out,decide_eq_false (by omega:¬ n2<=10),Bool.and_false])]
     rfl
   ·have c1':(10:Int)<n1:=by omega
    go_wp2
    go_ret
    refine ⟨?_,BB.out.trans ((box_below wr _).mono (by omega))⟩
    rw [<-HQ.out,smallB_no hlt (by rw [EF.out,decide_eq_false (by omega:¬ n1<=10),Bool.false_and])]
    rfl
  ·have ej:j=len:=by omega
   subst ej
   have hq2:=smallB_yes (nl:=nl) (n:=n) FW.out
   have Q2:Hid ((decide (j<=80) && (decide (0<=n) && (decide (n<=60) && decide (nl<=10))))=q):=by show _=_;rw [<-hq2];exact HQ.out
   clear hq2
   by_cases c1:(j:Int)<=80
   ·by_cases c2:(0:Int)<=n
    ·by_cases c3:n<=60
     ·by_cases c4:(nl:Int)<=10
      ·go_wp2
       go_ret
       refine ⟨?_,BB.out⟩
       rw [<-Q2.out,decide_eq_true (by omega:j<=80),decide_eq_true c2,decide_eq_true c3,decide_eq_true (by omega:nl<=10)]
       simp
      ·go_wp2
       go_ret
       refine ⟨?_,BB.out⟩
       rw [<-Q2.out,decide_eq_true (by omega:j<=80),decide_eq_true c2,decide_eq_true c3,decide_eq_false (by omega:¬ nl<=10)]
       simp
     ·go_wp2
      go_ret
      refine ⟨?_,BB.out⟩
      rw [<-Q2.out,decide_eq_true (by omega:j<=80),decide_eq_true c2,decide_eq_false (by omega:¬ n<=60)]
      simp
    ·go_wp2
     go_ret
     refine ⟨?_,BB.out⟩
     rw [<-Q2.out,decide_eq_true (by omega:j<=80),decide_eq_false (by omega:¬ 0<=n)]
     simp
   ·go_wp2
    go_ret
    refine ⟨?_,BB.out⟩
    rw [<-Q2.out,decide_eq_false (by omega:¬ j<=80)]
    simp
end Cc
end Go.Proofs.YtnchnlgnnlgjcaaGreat
namespace Go.Proofs.YtnchnlgnnlgjcaaGreat
open Go.RowKit
namespace Cc
def Begun (w v:World) (P g b C vb vr z:Nat) (a3:Option Addr) (c3 n H D G W:Nat) (ls:List (Int × Int)) (col:Nat->Nat):Prop :=
 (v.rowIs P 50 8 (plb g H D G W (.slice a3 ls.length c3) (.slice (some ⟨vb,0,none⟩) 1 1) (.slice (some ⟨vr,0,none⟩) 1 1))/\col P=1000)/\(Boxed v vb 55 (.pointer (some ⟨C,0,none⟩))/\col vb=1000) /\
   (Boxed v vr 59 (.slice (some ⟨z,0,none⟩) ls.length ls.length)/\col vr=1000)/\(v.rowIs z 60 ls.length (fun _=>.slice none 0 0)/\col z=0)/\PsZ col v a3 ls/\PoolAt v g b n (Po.zeros n) (Po.zeros n) /\
   CaAt v col 1 g C H D G W ls (Po.zeros n) (fun _=>[]) (cn ls.length 0 0) (fun _=>[]) (fun _=>0)/\((∀ x,v.heap.size<=x->col x=0)/\(∀ x,x<w.heap.size->col x=0)/\col g=1000/\col b=1000)/\Below w.heap.size w v/\w.heap.size<=vb/\w.heap.size<=vr
theorem five (u:World) (o1 o2 o3 o4 o5:Obj):((((((u.alloc o1).alloc o2).alloc o3).alloc o4).alloc o5).drew.heap[u.heap.size+1]?=some o2/\(((((u.alloc o1).alloc o2).alloc o3).alloc o4).alloc o5).drew.heap[u.heap.size+1+1]?=some o3/\(((((u.alloc o1).alloc o2).alloc o3).alloc o4).alloc o5).drew.heap[u.heap.size+1+1+1]?=some o4 /\
 (((((u.alloc o1).alloc o2).alloc o3).alloc o4).alloc o5).drew.heap[u.heap.size+1+1+1+1]?=some o5/\Below u.heap.size u (((((u.alloc o1).alloc o2).alloc o3).alloc o4).alloc o5).drew/\(((((u.alloc o1).alloc o2).alloc o3).alloc o4).alloc o5).drew.heap.size=u.heap.size+5):=by
 have old:∀ (v:World) (o:Obj) (k:Nat),k<v.heap.size->(v.alloc o).heap[k]?=v.heap[k]?:=fun v o k h=>Below.heap_alloc v o k h
 have new:∀ (v:World) (o:Obj) (k:Nat),v.heap.size=k->(v.alloc o).heap[k]?=some o:=fun v o k h=>by rw [<-h];exact heap_alloc_new v o
 refine ⟨?_,?_,?_,?_,((four_boxes u o1 o2 o3 o4).alloc (by simp <;> omega) o5).drew,by simp⟩
 ·show (((((u.alloc o1).alloc o2).alloc o3).alloc o4).alloc o5).heap[u.heap.size+1]?=_
  rw [old _ _ _ (by simp <;> omega),old _ _ _ (by simp <;> omega),old _ _ _ (by simp)]
  exact new _ _ _ (by simp)
 ·show (((((u.alloc o1).alloc o2).alloc o3).alloc o4).alloc o5).heap[u.heap.size+1+1]?=_
  rw [old _ _ _ (by simp <;> omega),old _ _ _ (by simp)]
  exact new _ _ _ (by simp)
 ·show (((((u.alloc o1).alloc o2).alloc o3).alloc o4).alloc o5).heap[u.heap.size+1+1+1]?=_
  rw [old _ _ _ (by simp)]
  exact new _ _ _ (by simp)
 ·exact new _ _ _ (by simp)
theorem begun_close {w w1 w2 w3 v:World} {P g b C vb vr z n H D G W:Nat} {a3:Option Addr} {c3:Nat} {ls:List (Int × Int)} {col:Nat->Nat} (hp:PoolAt w1 g b n (Po.zeros n) (Po.zeros n)) (hg:w.heap.size+1<=g/\w.heap.size+1<=b) (b1:Below w.heap.size w w1) (b2:Below w1.heap.size w1 w2) (b3:Below w2.heap.size w2 w3) (b4:Below w3.heap.size w3 v)
 (hc:CaAt w2 col 1 g C H D G W ls (Po.zeros n) (fun _=>[]) (cn ls.length 0 0) (fun _=>[]) (fun _=>0)) (hx:(∀ x,x<w1.heap.size->col x=awc g b x)/\(∀ x,w1.heap.size<=x->col x=0\/col x=1)/\∀ x,w2.heap.size<=x->col x=0) (hps:Tn.Tr.Ps w3 a3 ls) (hnew:∀ x,a3=some x->w2.heap.size<=x.block) (h0:0<ls.length)
 (e1:v.heap[P]?=some (.cells #[.pointer (some ⟨g,0,none⟩),.int .i64 H,.int .i64 D,.int .i64 G,.int .i64 W,.slice a3 ls.length c3,.slice (some ⟨vb,0,none⟩) 1 1,.slice (some ⟨vr,0,none⟩) 1 1] 50))
 (e2:v.heap[vb]?=some (.cells #[.pointer (some ⟨C,0,none⟩)] 55)) (e3:v.heap[vr]?=some (.cells #[.slice (some ⟨z,0,none⟩) ls.length ls.length] 59)) (e4:v.heap[z]?=some (.cells (madeCells #[.slice none 0 0] ls.length) 60))
 (l1:w3.heap.size<=P) (l2:w3.heap.size<=vb) (l3:w3.heap.size<=vr) (l4:w3.heap.size<=z):Begun w v P g b C vb vr z a3 c3 n H D G W ls (fun x=>if x=P\/x=vb\/x=vr then 1000 else col x):=by
 have s1:=b1.size
 have s2:=b2.size
 have s3:=b3.size
 have s4:=b4.size
 have lt:∀ {q:Nat} {o:Obj},v.heap[q]?=some o->q<v.heap.size:=fun h=>(Array.getElem?_eq_some_iff.1 h).1
 have old:∀ x,x<w3.heap.size->(if x=P\/x=vb\/x=vr then 1000 else col x)=col x:=fun x hx=>if_neg (by omega)
 have lg:=hp.lt
 have zP:¬ z=P:=fun e=>by rw [e,e1] at e4;injection e4 with e4;injection e4 with _ e5;exact absurd e5 (by decide)
 have zb:¬ z=vb:=fun e=>by rw [e,e2] at e4;injection e4 with e4;injection e4 with _ e5;exact absurd e5 (by decide)
 have zr:¬ z=vr:=fun e=>by rw [e,e3] at e4;injection e4 with e4;injection e4 with _ e5;exact absurd e5 (by decide)
 have bw:=b2.trans (b3.mono s2) |>.trans (b4.mono (by omega))
 have hP:v.rowIs P 50 8 (plb g H D G W (.slice a3 ls.length c3) (.slice (some ⟨vb,0,none⟩) 1 1) (.slice (some ⟨vr,0,none⟩) 1 1)):=⟨_,e1,rfl,fun i hi=>by match i,hi with | 0,_=>rfl | 1,_=>rfl | 2,_=>rfl | 3,_=>rfl | 4,_=>rfl | 5,_=>rfl | 6,_=>rfl | 7,_=>rfl⟩
 have hz:v.rowIs z 60 ls.length (fun _=>.slice none 0 0):=⟨_,e4,size_madeCells _ _,fun i hi=>by simp [madeCells,hi,Nat.mod_one]⟩
 have cz:(if z=P\/z=vb\/z=vr then 1000 else col z)=0:=by rw [if_neg (by omega)];exact hx.2.2 z (by omega)
 have hP3:PsZ (fun x=>if x=P\/x=vb\/x=vr then 1000 else col x) v a3 ls:=⟨hps.keep b4,fun x ex=>by
  obtain ⟨b',o',e,hc0,_⟩:=hps 0 h0
  rw [ex] at e
  cases e
  have l:=World.block_lt_of_cell? w3 _ hc0
  have l:b'<w3.heap.size:=l
  have n:=hnew _ ex
  have n:w2.heap.size<=b':=n
  refine ⟨by show b'<_;omega,?_⟩
  show (if b'=P\/b'=vb\/b'=vr then 1000 else col b')=0
  rw [old b' l]
  exact hx.2.2 b' n⟩
 have hCv:CaAt v (fun x=>if x=P\/x=vb\/x=vr then 1000 else col x) 1 g C H D G W ls (Po.zeros n) (fun _=>[]) (cn ls.length 0 0) (fun _=>[]) (fun _=>0):=hc.carry (fun x hx0 _=>⟨old x (by omega),(b3.trans (b4.mono s3)).block x hx0⟩) (by omega) (fun _ _ _ _=>rfl)
 have ag:∀ x,x<w1.heap.size->(if x=P\/x=vb\/x=vr then 1000 else col x)=awc g b x:=fun x hx0=>by rw [old x (by omega)];exact hx.1 x hx0
 exact ⟨⟨hP,if_pos (.inl rfl)⟩,⟨e2,if_pos (.inr (.inl rfl))⟩,⟨e3,if_pos (.inr (.inr rfl))⟩,⟨hz,cz⟩,hP3,hp.keep bw,hCv,⟨fun x hx0=>by
  have p1:=lt e1
  have p2:=lt e2
  have p3:=lt e3
  show (if x=P\/x=vb\/x=vr then 1000 else col x)=0
  rw [if_neg (by omega)]
  exact hx.2.2 x (by omega),fun x hx0=>by
  show (if x=P\/x=vb\/x=vr then 1000 else col x)=0
  rw [ag x (by omega)];unfold awc;rw [if_neg (by omega)],(ag g lg.1).trans (by unfold awc;rw [if_pos (.inl rfl)]),(ag b lg.2).trans (by unfold awc;rw [if_pos (.inr rfl)])⟩,b1.trans (bw.mono s1),by omega,by omega⟩
set_option maxRecDepth 100000 in
set_option maxHeartbeats 6400000 in
theorem begun_ok (n H D G W:Nat) (al:Option Addr) (cl:Nat) (ls:List (Int × Int)) (ao:Option Addr) (len co:Nat) (w:World) (hn:n<=60) (h:Tn.Tr.Ps w al ls) (sh:ShOk H D G W ls) :
 Calls Tryz.prog 10 #[.agg #[.int .i64 (n:Int),.int .i64 (H:Int),.int .i64 (D:Int),.int .i64 (G:Int),.int .i64 (W:Int),.slice al ls.length cl,.slice ao len co]] w fun e w'=>∃ (P g b C vb vr z:Nat) (a3:Option Addr) (c3:Nat) (col:Nat->Nat),e=.returned (.pointer (some ⟨P,0,none⟩))/\Begun w w' P g b C vb vr z a3 c3 n H D G W ls col:=by
 have HP:=Ca.hid (h.keep (box_below w (.cells #[.int .i64 (n:Int),.int .i64 H,.int .i64 D,.int .i64 G,.int .i64 W,.slice al ls.length cl,.slice ao len co] 29)))
 have B0:=Ca.hid (box_below w (.cells #[.int .i64 (n:Int),.int .i64 H,.int .i64 D,.int .i64 G,.int .i64 W,.slice al ls.length cl,.slice ao len co] 29))
 have SH:=Ca.hid sh
 obtain ⟨sG,sG2,sW,sl,sl2,-⟩:=sh.nums
 have hs0:=B0.out.size
 have s00:(w.alloc (.cells #[.int .i64 (n:Int),.int .i64 H,.int .i64 D,.int .i64 G,.int .i64 W,.slice al ls.length cl,.slice ao len co] 29)).heap.size=w.heap.size+1:=by simp
 clear h sh
 go_enter Tryz.func10,Tryz.ntmps10
 go_upto_region 7 with (first
  | (go_at_call 17;refine (newPool_ok n (by omega) _).mono ?_;rintro e w1 ⟨g,b,rfl,hp,hg,hb,hbel⟩;have P1:=Ca.hid hp;have GB:Hid (w.heap.size+1<=g/\w.heap.size+1<=b):=(by rw [s00] at hg hb;exact ⟨hg,hb⟩);have B1:=Ca.hid hbel;have z0:w1.heap[w.heap.size]?=some (.cells #[.int .i64 (n:Int),.int .i64 H,.int .i64 D,.int .i64 G,.int .i64 W,.slice al ls.length cl,.slice ao len co] 29):=((hbel.block _ (by simp)).trans (heap_alloc_new w _));have Z0:=Ca.hid z0;have y1:w1.cell? ⟨w.heap.size,1,none⟩=some (.int .i64 H):=cell_of_row _ _ _ _ _ _ z0;have y2:w1.cell? ⟨w.heap.size,2,none⟩=some (.int .i64 D):=cell_of_row _ _ _ _ _ _ z0;have y3:w1.cell? ⟨w.heap.size,3,none⟩=some (.int .i64 G):=cell_of_row _ _ _ _ _ _ z0;have y4:w1.cell? ⟨w.heap.size,4,none⟩=some (.int .i64 W):=cell_of_row _ _ _ _ _ _ z0;have y5:w1.cell? ⟨w.heap.size,5,none⟩=some (.slice al ls.length cl):=cell_of_row _ _ _ _ _ _ z0;have BB:Hid (Below w.heap.size w w1):=B0.out.trans (hbel.mono hs0);have hs1:=BB.out.size;have hs1':w.heap.size+1<=w1.heap.size:=(by have:=hbel.size;omega);clear hp hg hb hbel z0)
  | (go_at_call 18;refine (newC_ok 1 g H D G W al cl ls (Po.zeros n) (awc g b) _ (HP.out.keep B1.out) SH.out (fun x hx=>by unfold awc;rw [if_neg];have:=P1.out.lt;omega) (by decide)).mono ?_;rintro e w2 ⟨C,col,rfl,hc,hbel,x2,x3,x4⟩;have C2:=Ca.hid hc;have B2:=Ca.hid hbel;have X2:=Ca.hid (And.intro x2 (And.intro x3 x4));have z0:w2.heap[w.heap.size]?=some (.cells #[.int .i64 (n:Int),.int .i64 H,.int .i64 D,.int .i64 G,.int .i64 W,.slice al ls.length cl,.slice ao len co] 29):=((hbel.block _ hs1').trans Z0.out);have v1:w2.cell? ⟨w.heap.size,1,none⟩=some (.int .i64 H):=cell_of_row _ _ _ _ _ _ z0;have v2:w2.cell? ⟨w.heap.size,2,none⟩=some (.int .i64 D):=cell_of_row _ _ _ _ _ _ z0;have v3:w2.cell? ⟨w.heap.size,3,none⟩=some (.int .i64 G):=cell_of_row _ _ _ _ _ _ z0;have v4:w2.cell? ⟨w.heap.size,4,none⟩=some (.int .i64 W):=cell_of_row _ _ _ _ _ _ z0;have v5:w2.cell? ⟨w.heap.size,5,none⟩=some (.slice al ls.length cl):=cell_of_row _ _ _ _ _ _ z0;have hs2:=hbel.size;clear hc hbel x2 x3 x4 z0 y1 y2 y3 y4 y5))
 go_upto_region 8 with (go_at_call 12;refine (Tn.refShape_any _ _ _ _ al cl ls _ ((HP.out.keep B1.out).keep B2.out) (by omega)).mono ?_;rintro e w3 ⟨a3,c3,rfl,hps,hbel,hnew⟩;have P3:=Ca.hid hps;have B3:=Ca.hid hbel;have N3:=Ca.hid hnew;have hs3:=hbel.size;clear hps hbel hnew)
 have hmk:=run_make_row' (P:=Tryz.prog) 59 60 (.slice none 0 0) 24 Tryz.underlying59 Ca.infoToks rfl .i64 .i64 ls.length (by omega) (by omega)
 go_region
 all_goals go_wp2
 all_goals go_ret
 ·obtain ⟨f1,f2,f3,f4,f5,f6⟩:=five w3 _ _ _ _ _
  exact ⟨_,g,b,C,w3.heap.size+1,w3.heap.size+1+1+1,w3.heap.size+1+1,a3,c3,_,rfl,begun_close P1.out GB.out BB.out B2.out B3.out f5 C2.out X2.out P3.out N3.out (by omega) f4 f1 f3 f2 (by omega) (by omega) (by omega) (by omega)⟩
 ·obtain ⟨f1,f2,f3,f4,f5,f6⟩:=five w3 _ _ _ _ _
  exact ⟨_,g,b,C,w3.heap.size+1+1,w3.heap.size+1+1+1,w3.heap.size+1,a3,c3,_,rfl,begun_close P1.out GB.out BB.out B2.out B3.out f5 C2.out X2.out P3.out N3.out (by omega) f4 f2 f3 f1 (by omega) (by omega) (by omega) (by omega)⟩
 ·obtain ⟨f1,f2,f3,f4,f5,f6⟩:=five w3 _ _ _ _ _
  exact ⟨_,g,b,C,w3.heap.size+1+1+1,w3.heap.size+1+1,w3.heap.size+1,a3,c3,_,rfl,begun_close P1.out GB.out BB.out B2.out B3.out f5 C2.out X2.out P3.out N3.out (by omega) f4 f3 f2 f1 (by omega) (by omega) (by omega) (by omega)⟩
end Cc
end Go.Proofs.YtnchnlgnnlgjcaaGreat
namespace Go.Proofs.YtnchnlgnnlgjcaaGreat
open Go.RowKit
namespace Cc
def upd {α:Type} (f:Nat->α) (a:Nat) (x:α) (i:Nat):α:=if i=a then x else f i
theorem upd_at {α:Type} (f:Nat->α) (a:Nat) (x:α):upd f a x a=x:=if_pos rfl
theorem upd_off {α:Type} (f:Nat->α) {a i:Nat} (x:α) (h:¬ i=a):upd f a x i=f i:=if_neg h
def cptrs (C:Nat->Nat) (k:Nat):List Value:=(List.range k).map fun i=>.pointer (some ⟨C i,0,none⟩)
def Core13 (w:World) (g b n H D G W:Nat) (ls:List (Int × Int)) (R M:List Int) (k:Nat) (C:Nat->Nat) (T:Nat->List (List Tok)) (L:Nat->Nat->List Int) (t q:Nat->Nat) (col:Nat->Nat):Prop :=
 PoolAt w g b n R M/\(col g=1000/\col b=1000)/\∀ i,i<k->CaAt w col (i+1) g (C i) H D G W ls M (L i) (cn ls.length (t i) (q i)) (tkD (T i) H) (qD G W (T i) H)/\Lay (T i) ls.length (t i) (q i)/\OkD H D (T i)
def PsX (X:Nat->Option Obj) (col:Nat->Nat) (w:World) (al:Option Addr) (ls:List (Int × Int)):Prop:=Tn.Tr.Ps w al ls/\(∀ x,al=some x->x.block<w.heap.size/\col x.block=0)/\∀ x o,X x=some o->x<w.heap.size/\w.heap[x]?=some o/\col x=998
def nox:Nat->Option Obj:=fun _=>none
theorem PsX.carry {X:Nat->Option Obj} {col col':Nat->Nat} {w w':World} {a:Option Addr} {ls:List (Int × Int)} (h:PsX X col w a ls) (hk:∀ x,x<w.heap.size->col x=0\/col x=998->col' x=col x/\w'.heap[x]?=w.heap[x]?) (hs:w.heap.size<=w'.heap.size):PsX X col' w' a ls:=by
 obtain ⟨h1,h2,h3⟩:=h
 have hz:=PsZ.carry (col':=col') (w':=w') (⟨h1,h2⟩:PsZ col w a ls) (fun x hx e=>⟨((hk x hx (.inl e)).1).trans e,(hk x hx (.inl e)).2⟩) hs
 refine ⟨hz.1,hz.2,fun x o hx=>?_⟩
 obtain ⟨q1,q2,q3⟩:=h3 x o hx
 exact ⟨Nat.lt_of_lt_of_le q1 hs,((hk x q1 (.inr q3)).2).trans q2,((hk x q1 (.inr q3)).1).trans q3⟩
theorem PsZ.nox {col:Nat->Nat} {w:World} {a:Option Addr} {ls:List (Int × Int)} (h:PsZ col w a ls):PsX nox col w a ls:=⟨h.1,h.2,fun x o e=>nomatch e⟩
def Box13 (X:Nat->Option Obj) (B:Nat) (w:World) (P g H D G W:Nat) (ls:List (Int × Int)) (al:Option Addr) (cl:Nat) (va vr:Value) (k:Nat) (C:Nat->Nat) (zs:Nat->Value) (col:Nat->Nat):Prop :=
 (w.rowIs P 50 8 (plb g H D G W (.slice al ls.length cl) va vr)/\col P=1000)/\(w.ownsRow B 55 1 va k (cptrs C k)/\∀ x,va.ownBlock=some x->col x=1000) /\
   (w.ownsRow B 59 1 vr k ((List.range k).map zs)/\∀ x,vr.ownBlock=some x->col x=1000)/\PsX X col w al ls
def Doc13 (w:World) (nl k:Nat) (T:Nat->List (List Tok)) (zs:Nat->Value) (col:Nat->Nat):Prop:=∀ i,i<k->∃ a c,zs i=.slice a nl c/\SlQ (fun x=>col x=0) 1 eToks w a (T i)
def Fresh13 (B:Nat) (w:World) (col:Nat->Nat):Prop:=(∀ x,w.heap.size<=x->col x=0)/\∀ x,x<B->col x=0
theorem Core13.keep {w w':World} {g b n H D G W k:Nat} {ls:List (Int × Int)} {R M:List Int} {C:Nat->Nat} {T:Nat->List (List Tok)} {L:Nat->Nat->List Int} {t q col:Nat->Nat} (h:Core13 w g b n H D G W ls R M k C T L t q col) (hb:Below w.heap.size w w'):Core13 w' g b n H D G W ls R M k C T L t q col :=
 ⟨h.1.keep hb,h.2.1,fun i hi=>⟨(h.2.2 i hi).1.below hb,(h.2.2 i hi).2⟩⟩
theorem Core13.recol {w:World} {g b n H D G W k:Nat} {ls:List (Int × Int)} {R M:List Int} {C:Nat->Nat} {T:Nat->List (List Tok)} {L:Nat->Nat->List Int} {t q col col':Nat->Nat} (h:Core13 w g b n H D G W ls R M k C T L t q col) (hc:∀ x,x<w.heap.size->col' x=col x):Core13 w g b n H D G W ls R M k C T L t q col' :=
 ⟨h.1,⟨(hc g h.1.lt.1).trans h.2.1.1,(hc b h.1.lt.2).trans h.2.1.2⟩,fun i hi=>⟨(h.2.2 i hi).1.carry (fun x hx _=>⟨hc x hx,rfl⟩) (Nat.le_refl _) (fun _ _ _ _=>rfl),(h.2.2 i hi).2⟩⟩
theorem own_keep13 {w w':World} {B s:Nat} {t:TypeId} {v:Value} {n:Nat} {xs:List Value} (h:w.ownsRow B t s v n xs) (hb:Below w.heap.size w w'):w'.ownsRow B t s v n xs:=Ca.own_at h fun x hx=>hb.block x (h.lt x hx).2
theorem Box13.keep {X:Nat->Option Obj} {B P g H D G W cl k:Nat} {w w':World} {ls:List (Int × Int)} {al:Option Addr} {va vr:Value} {C:Nat->Nat} {zs:Nat->Value} {col:Nat->Nat} (h:Box13 X B w P g H D G W ls al cl va vr k C zs col) (hb:Below w.heap.size w w'):Box13 X B w' P g H D G W ls al cl va vr k C zs col :=
 ⟨⟨h.1.1.of_block (hb.block _ h.1.1.lt),h.1.2⟩,⟨own_keep13 h.2.1.1 hb,h.2.1.2⟩,⟨own_keep13 h.2.2.1.1 hb,h.2.2.1.2⟩,h.2.2.2.carry (fun x hx h0=>⟨rfl,hb.block x hx⟩) hb.size⟩
theorem Box13.recol {X:Nat->Option Obj} {B P g H D G W cl k:Nat} {w:World} {ls:List (Int × Int)} {al:Option Addr} {va vr:Value} {C:Nat->Nat} {zs:Nat->Value} {col col':Nat->Nat} (h:Box13 X B w P g H D G W ls al cl va vr k C zs col) (hc:∀ x,x<w.heap.size->col' x=col x):Box13 X B w P g H D G W ls al cl va vr k C zs col' :=
 ⟨⟨h.1.1,(hc P h.1.1.lt).trans h.1.2⟩,⟨h.2.1.1,fun x hx=>(hc x (h.2.1.1.lt x hx).2).trans (h.2.1.2 x hx)⟩,⟨h.2.2.1.1,fun x hx=>(hc x (h.2.2.1.1.lt x hx).2).trans (h.2.2.1.2 x hx)⟩,h.2.2.2.carry (fun x hx h0=>⟨hc x hx,rfl⟩) (Nat.le_refl _)⟩
theorem Doc13.keep {w w':World} {nl k:Nat} {T:Nat->List (List Tok)} {zs:Nat->Value} {col:Nat->Nat} (h:Doc13 w nl k T zs col) (hb:Below w.heap.size w w'):Doc13 w' nl k T zs col:=fun i hi=>by
 obtain ⟨a,c,e,hs⟩:=h i hi
 exact ⟨a,c,e,hs.keep carry_toks hb⟩
theorem Doc13.recol {w:World} {nl k:Nat} {T:Nat->List (List Tok)} {zs:Nat->Value} {col col':Nat->Nat} (h:Doc13 w nl k T zs col) (hc:∀ x,x<w.heap.size->col' x=col x):Doc13 w nl k T zs col':=fun i hi=>by
 obtain ⟨a,c,e,hs⟩:=h i hi
 exact ⟨a,c,e,hs.carry carry_toks (fun x hx h0=>⟨(hc x hx).trans h0,rfl⟩) (Nat.le_refl _)⟩
theorem Fresh13.keep {B:Nat} {w w':World} {col:Nat->Nat} (h:Fresh13 B w col) (hs:w.heap.size<=w'.heap.size):Fresh13 B w' col:=⟨fun x hx=>h.1 x (by omega),h.2⟩
theorem Core13.call {w w':World} {g b n H D G W k a t' q':Nat} {ls:List (Int × Int)} {R M R' M':List Int} {C:Nat->Nat} {T:Nat->List (List Tok)} {L:Nat->Nat->List Int} {t q col col':Nat->Nat} {T':List (List Tok)} {l':Nat->List Int} (h:Core13 w g b n H D G W ls R M k C T L t q col) (ha:a<k) (hk:k<=5) (hg:Chg (a+1) g b w w' col col') (hp:PoolAt w' g b n R' M')
 (hc:CaAt w' col' (a+1) g (C a) H D G W ls M' l' (cn ls.length t' q') (tkD T' H) (qD G W T' H)) (hl:Lay T' ls.length t' q') (ho:OkD H D T') (hM:∀ i,i<k->¬ i=a->∀ r,r<ls.length*H->∀ x,x ∈ L i r->Ls.nth M' x.toNat=Ls.nth M x.toNat) :
 Core13 w' g b n H D G W ls R' M' k C (upd T a T') (upd L a l') (upd t a t') (upd q a q') col':=by
 refine ⟨hp,⟨(hg.2.1 g h.1.lt.1).trans h.2.1.1,(hg.2.1 b h.1.lt.2).trans h.2.1.2⟩,fun i hi=>?_⟩
 by_cases e:i=a
 ·subst e
  rw [upd_at,upd_at,upd_at,upd_at]
  exact ⟨hc,hl,ho⟩
 ·rw [upd_off _ _ e,upd_off _ _ e,upd_off _ _ e,upd_off _ _ e]
  obtain ⟨h1,h2⟩:=h.2.2 i hi
  have c1:=h.2.1.1
  have c2:=h.2.1.2
  exact ⟨h1.other hg (by omega) (by omega) ⟨by omega,by omega⟩ ⟨by omega,by omega⟩ (hM i hi e),h2⟩
theorem Box13.call {X:Nat->Option Obj} {B P g b n H D G W cl k a:Nat} {w w':World} {ls:List (Int × Int)} {R M:List Int} {al:Option Addr} {va vr:Value} {C:Nat->Nat} {zs:Nat->Value} {col col':Nat->Nat} (h:Box13 X B w P g H D G W ls al cl va vr k C zs col) (hp:PoolAt w g b n R M) (cg:col g=1000) (cb:col b=1000) (ha:a<900) (hg:Chg (a+1) g b w w' col col'):Box13 X B w' P g H D G W ls al cl va vr k C zs col':=by
 have k1:∀ x t,Ty w x t->¬ t=99->¬ t=133->col x=1000->w'.heap[x]?=w.heap[x]?:=fun x t ht n1 n2 hc=>hg.1.block ht.lt (ht.ne hp.tys.1 n1) (ht.ne hp.tys.2 n2) (fun e=>by have e:col x=a+1:=e;omega)
 obtain ⟨⟨h1,h2⟩,⟨h3,h4⟩,⟨h5,h6⟩,h7⟩:=h
 refine ⟨⟨h1.of_block (k1 P _ (ty_row h1) (by decide) (by decide) h2),(hg.2.1 P h1.lt).trans h2⟩,⟨Ca.own_at h3 fun x hx=>k1 x _ (ty_own h3 hx) (by decide) (by decide) (h4 x hx),fun x hx=>(hg.2.1 x (h3.lt x hx).2).trans (h4 x hx)⟩,⟨Ca.own_at h5 fun x hx=>k1 x _ (ty_own h5 hx) (by decide) (by decide) (h6 x hx),fun x hx=>(hg.2.1 x (h5.lt x hx).2).trans (h6 x hx)⟩,?_⟩
 exact h7.carry (fun x hx h0=>⟨hg.2.1 x hx,hg.1.block hx (fun e=>by rw [e,cg] at h0;omega) (fun e=>by rw [e,cb] at h0;omega) (fun e=>by have e:col x=a+1:=e;omega)⟩) hg.size
theorem Doc13.call {w w':World} {g b nl k a:Nat} {T:Nat->List (List Tok)} {zs:Nat->Value} {col col':Nat->Nat} (h:Doc13 w nl k T zs col) (cg:col g=1000) (cb:col b=1000) (hg:Chg (a+1) g b w w' col col'):Doc13 w' nl k T zs col':=fun i hi=>by
 obtain ⟨x,c,e,hs⟩:=h i hi
 exact ⟨x,c,e,hs.carry carry_toks (fun x hx h0=>⟨(hg.2.1 x hx).trans h0,hg.1.block hx (fun e=>by rw [e,cg] at h0;omega) (fun e=>by rw [e,cb] at h0;omega) (fun e=>by have e:col x=a+1:=e;omega)⟩) hg.size⟩
def Waste (Z:Nat->Prop) (w:World) (col:Nat->Nat):Prop:=∀ x,Z x->col x=999/\(Ty w x 21\/Ty w x 74)
theorem Core13.spoil {w w':World} {g b n H D G W k:Nat} {ls:List (Int × Int)} {R M:List Int} {C:Nat->Nat} {T:Nat->List (List Tok)} {L:Nat->Nat->List Int} {t q col:Nat->Nat} {Z:Nat->Prop} (h:Core13 w g b n H D G W ls R M k C T L t q col) (hk:k<=5) (hs:Spoil Z w w') (hZ:Waste Z w col):Core13 w' g b n H D G W ls R M k C T L t q col :=
 ⟨h.1.stand fun x hx=>by
  have nz:¬ Z x:=fun z=>by rcases hx with e | e | e <;> rcases (hZ x z).2 with f | f <;> exact e.ne f (by decide) rfl
  exact hs.2.2 x (by rcases hx with e | e | e <;> exact e.lt) nz,h.2.1,fun i hi=>⟨(h.2.2 i hi).1.carry (fun x hx e=>⟨rfl,hs.2.2 x hx fun z=>by have:=(hZ x z).1;omega⟩) hs.2.1 (fun _ _ _ _=>rfl),(h.2.2 i hi).2⟩⟩
theorem Box13.spoil {X:Nat->Option Obj} {B P g H D G W cl k:Nat} {w w':World} {ls:List (Int × Int)} {al:Option Addr} {va vr:Value} {C:Nat->Nat} {zs:Nat->Value} {col:Nat->Nat} {Z:Nat->Prop} (h:Box13 X B w P g H D G W ls al cl va vr k C zs col) (hs:Spoil Z w w') (hZ:Waste Z w col):Box13 X B w' P g H D G W ls al cl va vr k C zs col:=by
 obtain ⟨⟨h1,h2⟩,⟨h3,h4⟩,⟨h5,h6⟩,h7⟩:=h
 have k1:∀ x,x<w.heap.size->col x=1000->w'.heap[x]?=w.heap[x]?:=fun x hl hx=>hs.2.2 x hl fun z=>by have:=(hZ x z).1;omega
 exact ⟨⟨h1.of_block (k1 P h1.lt h2),h2⟩,⟨Ca.own_at h3 fun x hx=>k1 x (h3.lt x hx).2 (h4 x hx),h4⟩,⟨Ca.own_at h5 fun x hx=>k1 x (h5.lt x hx).2 (h6 x hx),h6⟩,h7.carry (fun x hx h0=>⟨rfl,hs.2.2 x hx fun z=>by have:=(hZ x z).1;omega⟩) hs.2.1⟩
theorem Doc13.spoil {w w':World} {nl k:Nat} {T:Nat->List (List Tok)} {zs:Nat->Value} {col:Nat->Nat} {Z:Nat->Prop} (h:Doc13 w nl k T zs col) (hs:Spoil Z w w') (hZ:Waste Z w col):Doc13 w' nl k T zs col:=fun i hi=>by
 obtain ⟨a,c,e,h1⟩:=h i hi
 exact ⟨a,c,e,h1.carry carry_toks (fun x hx h0=>⟨h0,hs.2.2 x hx fun z=>by have:=(hZ x z).1;omega⟩) hs.2.1⟩
def Good13 (n m k j:Nat) (R:List Int) (L:Nat->Nat->List Int) (t:Nat->Nat):Prop :=
 (∀ x:Nat,x<n->Ls.nth R x=(Bk.tot L m x k:Int))/\(∀ i,i<k->∀ x,x ∈ Bk.flat (L i) m->0<=x/\x<n)/\(∀ i,i<k->Bk.len (L i) m<=4*j)/\(∀ i,i<k->∀ x:Nat,x<n->Bk.occ x (Bk.flat (L i) m)<=1)/\(∀ i,i<k->t i<=j)/\0<k/\k<=5
theorem Good13.held {n m k j a:Nat} {R:List Int} {L:Nat->Nat->List Int} {t:Nat->Nat} (h:Good13 n m k j R L t) (ha:a<k):∀ x,x ∈ Bk.flat (L a) m->(0<=x/\x<n)/\0<Ls.nth R x.toNat:=fun x hx=>by
 have h1:=h.2.1 a ha x hx
 refine ⟨h1,?_⟩
 obtain ⟨t,rfl⟩:∃ t:Nat,x=t:=⟨x.toNat,by omega⟩
 have h2:=Bk.occ_tot L ha m (t:Int)
 have h3:=Bk.occ_pos hx
 have h4:=h.1 t (by omega)
 simp
 rw [h4]
 omega
theorem Good13.rows {n m k j a:Nat} {R:List Int} {L:Nat->Nat->List Int} {t:Nat->Nat} (h:Good13 n m k j R L t) (ha:a<k):∀ i,i<m->∀ x,x ∈ L a i->0<=x/\x<n/\0<Ls.nth R x.toNat:=fun i hi x hx=>by
 have:=h.held ha x (Bk.flat_mem hi hx)
 exact ⟨this.1.1,this.1.2,this.2⟩
theorem Good13.occs {n m k j a:Nat} {R:List Int} {L:Nat->Nat->List Int} {t:Nat->Nat} (h:Good13 n m k j R L t) (ha:a<k):∀ x:Nat,x<n->(Bk.occ x (Bk.flat (L a) m):Int)<=Ls.nth R x:=fun x hx=>by
 have h2:=Bk.occ_tot L ha m (x:Int)
 rw [h.1 x hx]
 omega
theorem Good13.mono {n m k j j':Nat} {R:List Int} {L:Nat->Nat->List Int} {t:Nat->Nat} (h:Good13 n m k j R L t) (hj:j<=j'):Good13 n m k j' R L t:=⟨h.1,h.2.1,fun i hi=>by have:=h.2.2.1 i hi;omega,h.2.2.2.1,fun i hi=>by have:=h.2.2.2.2.1 i hi;omega,h.2.2.2.2.2⟩
theorem tot_five {L:Nat->Nat->List Int} {m k:Nat} {x:Int} (h:∀ i,i<k->Bk.occ x (Bk.flat (L i) m)<=1):Bk.tot L m x k<=k:=by
 induction k with
 | zero=>exact Nat.le_refl _
 | succ k ih =>
   have h1:=ih fun i hi=>h i (by omega)
   have h2:=h k (by omega)
   show Bk.tot L m x k+Bk.occ x (Bk.flat (L k) m)<=k+1
   omega
theorem Good13.bound {n m k j:Nat} {R:List Int} {L:Nat->Nat->List Int} {t:Nat->Nat} (h:Good13 n m k j R L t):∀ x,x<n->Ls.nth R x<=1000:=fun x hx=>by
 have h1:=tot_five (L:=L) (m:=m) (k:=k) (x:=(x:Int)) fun i hi=>h.2.2.2.1 i hi x hx
 have h2:=h.2.2.2.2.2.2
 rw [h.1 x hx]
 omega
def PlP (X:Nat->Option Obj) (B:Nat) (w0 w:World) (P n H D G W:Nat) (ls:List (Int × Int)) (k j:Nat):Prop :=
 ∃ g b R M al cl va vr C T L t q zs col,Core13 w g b n H D G W ls R M k C T L t q col/\Box13 X B w P g H D G W ls al cl va vr k C zs col/\Doc13 w ls.length k T zs col/\Fresh13 B w col/\Good13 n (ls.length*H) k j R L t/\Below B w0 w/\B<=w.heap.size
theorem PlP.keep {X:Nat->Option Obj} {B:Nat} {w0 w w':World} {P n H D G W k j:Nat} {ls:List (Int × Int)} (h:PlP X B w0 w P n H D G W ls k j) (hb:Below w.heap.size w w'):PlP X B w0 w' P n H D G W ls k j:=by
 obtain ⟨g,b,R,M,al,cl,va,vr,C,T,L,t,q,zs,col,h1,h2,h3,h4,h5,h6,h7⟩:=h
 exact ⟨g,b,R,M,al,cl,va,vr,C,T,L,t,q,zs,col,h1.keep hb,h2.keep hb,h3.keep hb,h4.keep hb.size,h5,h6.trans (hb.mono h7),by have:=hb.size;omega⟩
theorem PlP.more {X:Nat->Option Obj} {B:Nat} {w0 w:World} {P n H D G W k j:Nat} {ls:List (Int × Int)} (h:PlP X B w0 w P n H D G W ls k j):PlP X B w0 w P n H D G W ls k (j+1):=by
 obtain ⟨g,b,R,M,al,cl,va,vr,C,T,L,t,q,zs,col,h1,h2,h3,h4,h5,h6⟩:=h
 exact ⟨g,b,R,M,al,cl,va,vr,C,T,L,t,q,zs,col,h1,h2,h3,h4,h5.mono (Nat.le_succ j),h6⟩
end Cc
end Go.Proofs.YtnchnlgnnlgjcaaGreat
