import Derived.Test.YtnchnlgnnlgjcaaGreatRows
import Derived.Deep.RegionHeld3
import Derived.Test.YtnchnlgnnlgjcaaGreatCa34
import Derived.Test.YtnchnlgnnlgjcaaGreatCa35
import Derived.Deep.RegionLawGrows
import Derived.Deep.CutRange
import Derived.Deep.DeepCutAuto
set_option linter.unusedVariables false
set_option linter.unusedSimpArgs false
namespace Go.Proofs.YtnchnlgnnlgjcaaGreat
namespace Cc
section
variable {P:Program} {md:Region.Mode} {ops:Array Oper} {Q:Exit->Act->World->Prop} {S:World->Prop}
def lateOff (late:List Nat) (l:Array Bool):Bool:=late.all fun j=>!(l.getD j true)
def chainWait (md:Region.Mode) (ops:Array Oper) (chain:List Nat) (i:Nat):Bool:=chain.all fun j=>match ops[j]? with | some o=>o.after.any fun e=>Region.binds md e && (e.on == i || chain.contains e.on) | none=>true
def AnyL (P:Program) (md:Region.Mode) (ops:Array Oper) (Q:Exit->Act->World->Prop) (S:World->Prop) (late:List Nat):Nat->Array Bool->Act->World->Prop
 | 0,l,a,w=>Region.ready md ops l=[]/\Q .normal a w
 | n+1,l,a,w=>(Region.ready md ops l=[]->Q .normal a w)/\∀ i ∈ Region.ready md ops l,wpOp P ops Q i (fun a' w'=>(lateOff late (l.setIfInBounds i true)=true->S w')/\AnyL P md ops Q S late n (l.setIfInBounds i true) a' w') a w
theorem off_no {late:List Nat} {l:Array Bool} {p:Prop} (h:lateOff late l=false) (q:lateOff late l=true):p:=by rw [h] at q;cases q
theorem AnyL.any {late:List Nat}:∀ (n:Nat) (l:Array Bool) (a:Act) (w:World),AnyL P md ops Q S late n l a w->wpAny P md ops Q n l a w
 | 0,_,_,_,h=>h
 | n+1,_,_,_,h=>⟨h.1,fun i hi=>wpOp_mono (fun a' w' h'=>AnyL.any n _ a' w' h'.2) (h.2 i hi)⟩
theorem lateOff_set {late:List Nat} {l:Array Bool} {i:Nat} (hi:late.contains i=false):lateOff late (l.setIfInBounds i true)=lateOff late l:=by
 unfold lateOff
 rw [Bool.eq_iff_iff,List.all_eq_true,List.all_eq_true]
 have ne:∀ j,j ∈ late->i ≠ j:=fun j hj e=>by
  subst e
  rw [List.contains_eq_mem,decide_eq_false_iff_not] at hi
  exact hi hj
 have e:∀ j,j ∈ late->(l.setIfInBounds i true).getD j true=l.getD j true:=fun j hj=>getD_set_ne true (ne j hj)
 constructor
 ·intro h j hj;rw [<-e j hj];exact h j hj
 ·intro h j hj;rw [e j hj];exact h j hj
theorem AnyL.first {late:List Nat} {T:World->Prop} {G:Array Bool->Prop} {i:Nat} {oi:Oper} {v:Value} (hi:ops[i]?=some oi) (hsel:∀ (j:Nat) (o:Oper) cs b,ops[j]?=some o->o.op ≠ .select cs b)
 (hQ:∀ c a w,Q (.panic c) (a.put oi.dst v) w->Q (.panic c) a w) (hl:late.contains i=false)
 (hG:∀ l j oj,G l->ops[j]?=some oj->j ≠ i->(∀ e ∈ oj.after,Region.binds md e=true->e.on ≠ i/\l.getD e.on false=true)->G (l.setIfInBounds j true)) (hT:∀ l w,G l->(lateOff late l=true->S w)->T w) :
 ∀ (n:Nat) (l:Array Bool) (a:Act) (w:World),G l ->
   (∀ j oj,ops[j]?=some oj->j ≠ i->l.getD j true=false->(∀ e ∈ oj.after,Region.binds md e=true->e.on ≠ i)->oi.apart ops oj=true) ->
   i ∈ Region.ready md ops l->YieldsIf P ops T oi v a->(lateOff late l=true->S w) ->
   AnyL P md ops Q S late n (l.setIfInBounds i true) (a.put oi.dst v) w->AnyL P md ops Q S late (n+1) l a w:=by
 intro n
 induction n with
 | zero =>
   intro l a w g hf hr hy hS H
   refine ⟨fun h=>(by rw [h] at hr;cases hr),fun j hj=>?_⟩
   by_cases e:j=i
   ·subst e;exact hy.wpOp hi (hT l w g hS) ⟨by rw [lateOff_set hl];exact hS,H⟩
   ·have:=ready_mono hj e
    rw [H.1] at this
    cases this
 | succ n ih =>
   intro l a w g hf hr hy hS H
   refine ⟨fun h=>(by rw [h] at hr;cases hr),fun j hj=>?_⟩
   by_cases e:j=i
   ·subst e;exact hy.wpOp hi (hT l w g hS) ⟨by rw [lateOff_set hl];exact hS,H⟩
   ·have k1:=H.2 j (ready_mono hj e)
    obtain ⟨jun,oj,hoj,hall⟩:=mem_ready.1 hj
    have hno:∀ e ∈ oj.after,Region.binds md e=true->e.on ≠ i:=fun x hx hb hq=>by
     have h1:=hall x hx hb
     have h0:=(mem_ready.1 hr).1
     rw [hq] at h1
     rcases Nat.lt_or_ge i l.size with h' | h'
     ·simp [h'] at h0 h1;rw [h0] at h1;cases h1
     ·simp [Array.getElem?_eq_none h'] at h1
    have k2:=wpOp_putIf hoj (hf j oj hoj e jun hno) (fun cs b=>hsel i oi cs b hi) (fun cs b=>hsel j oj cs b hoj) hQ hy k1
    refine wpOp_mono (fun a' w' k3=>?_) k2
    have s1:lateOff late (l.setIfInBounds j true)=true->S w':=fun q=>k3.2.1 (by rw [Array.setIfInBounds_comm _ _ (Ne.symm e),lateOff_set hl];exact q)
    refine ⟨s1,ih _ a' w' (hG l j oj g hoj e fun x hx hb=>⟨hno x hx hb,hall x hx hb⟩) (fun m om hm mi hu hx=>hf m om hm mi ?_ hx) (ready_mono hr (Ne.symm e)) k3.1 s1 ?_⟩
    ·by_cases q:j=m
     ·subst q;exact jun
     ·rw [getD_set_ne true q] at hu;exact hu
    ·rw [Array.setIfInBounds_comm _ _ e]
     exact k3.2.2
theorem AnyL.take {late:List Nat} (i d:Nat) {oi:Oper} {v:Value} {n:Nat} {l:Array Bool} {a:Act} {w:World} (hi:ops[i]?=some oi) (hd:oi.dst=some d) (hs:Region.noSelect ops=true) (hf:Region.free md ops l i=true) (hr:(Region.ready md ops l).contains i=true)
 (hQ:∀ c a w,Q (.panic c) (a.put (some d) v) w->Q (.panic c) a w) (hl:late.contains i=false) (hS:lateOff late l=true->S w) (hw:Region.wanted oi (yielded ops a.tmps)=true) (hy:∀ w,(execOp a.eval oi).run P w=.ok (.value v) w)
 (h:AnyL P md ops Q S late n (l.setIfInBounds i true) (a.put (some d) v) w):AnyL P md ops Q S late (n+1) l a w:=by
 rw [<-hd] at h hQ
 exact AnyL.first (T:=fun _=>True) (G:=fun _=>True) hi (Region.noSelect_spec hs) hQ hl (fun _ _ _ _ _ _ _=>trivial) (fun _ _ _ _=>trivial) n l a w trivial (Region.free_spec hi hf) (by simpa using hr) (.inl ⟨hw,fun w _=>hy w⟩) hS h
theorem lateOff_sub {late chain:List Nat} {l:Array Bool} (hs:(late.all fun j=>chain.contains j)=true) (h:lateOff chain l=true):lateOff late l=true:=by
 unfold lateOff at h ⊢
 rw [List.all_eq_true] at h hs ⊢
 exact fun j hj=>h j (by have:=hs j hj;simpa [List.contains_eq_mem] using this)
theorem AnyL.load {late:List Nat} (i d:Nat) (chain:List Nat) {oi:Oper} {v:Value} {n:Nat} {l:Array Bool} {a:Act} {w:World} (hi:ops[i]?=some oi) (hd:oi.dst=some d) (hs:Region.noSelect ops=true) (hf:Region.free md ops l i=true) (hr:(Region.ready md ops l).contains i=true)
 (hQ:∀ c a w,Q (.panic c) (a.put (some d) v) w->Q (.panic c) a w) (hl:late.contains i=false) (ho:lateOff chain l=true) (hc:(late.all fun j=>chain.contains j)=true) (hb:chainWait md ops chain i=true) (hS:lateOff late l=true->S w) (hw:Region.wanted oi (yielded ops a.tmps)=true) (hy:∀ w,S w->(execOp a.eval oi).run P w=.ok (.value v) w)
 (h:AnyL P md ops Q S late n (l.setIfInBounds i true) (a.put (some d) v) w):AnyL P md ops Q S late (n+1) l a w:=by
 rw [<-hd] at h hQ
 refine AnyL.first (T:=S) (G:=fun l=>lateOff chain l=true) hi (Region.noSelect_spec hs) hQ hl (fun l j oj g hoj e hno=>?_) (fun l w g q=>q (lateOff_sub hc g)) n l a w ho (Region.free_spec hi hf) (by simpa using hr) (.inl ⟨hw,hy⟩) hS h
 by_cases hj:chain.contains j=true
 ·exfalso
  have hm:j ∈ chain:=by simpa [List.contains_eq_mem] using hj
  have:=(List.all_eq_true.1 hb) j hm
  rw [hoj] at this
  obtain ⟨x,hx,he⟩:=Array.any_eq_true'.1 this
  rw [Bool.and_eq_true,Bool.or_eq_true] at he
  obtain ⟨h1,h2⟩:=hno x hx he.1
  rcases he.2 with q | q
  ·exact h1 (by simpa using q)
  ·have hx2:x.on ∈ chain:=by simpa [List.contains_eq_mem] using q
   have h3:=(List.all_eq_true.1 g) x.on hx2
   rw [Bool.not_eq_true'] at h3
   by_cases hsz:x.on<l.size
   ·simp [hsz] at h2 h3
    rw [h2] at h3
    cases h3
   ·simp [Array.getElem?_eq_none (Nat.le_of_not_lt hsz)] at h2
 ·rw [lateOff_set (by simpa using hj)];exact g
theorem AnyL.one {late:List Nat} (i:Nat) {o:Oper} {n:Nat} {l:Array Bool} {a:Act} {w:World} (hr:Region.ready md ops l=[i]) (ho0:ops.toList[i]?=some o)
 (h:∀ K':Act->World->Prop,Shut (∀ a w,(lateOff late (l.setIfInBounds i true)=true->S w)->AnyL P md ops Q S late n (l.setIfInBounds i true) a w->K' a w)->if Region.wanted o (yielded ops a.tmps)=true then Oper.wp P o a w K' Q else K' (a.put o.dst undef) w):AnyL P md ops Q S late (n+1) l a w :=
 ⟨fun h0=>by (rw [hr] at h0;cases h0),fun j hj=>by
  rw [hr] at hj
  obtain rfl:=List.mem_singleton.1 hj
  have ho:ops[j]?=some o:=by rw [<-Array.getElem?_toList];exact ho0
  exact wpOp_step ho (fun K' hK=>h K' (fun a w h1 h2=>hK a w ⟨h1,h2⟩))⟩
theorem AnyL.done {late:List Nat} {l:Array Bool} {a:Act} {w:World} (hr:Region.ready md ops l=[]) (h:Q .normal a w):∀ n,AnyL P md ops Q S late n l a w
 | 0=>⟨hr,h⟩
 | _+1=>⟨fun _=>h,by rw [hr];simp⟩
theorem AnyL.begin {id:Nat} {a:Act} {w:World} (S:World->Prop) (late:List Nat) (hm:P.follows .mixedOrders=true) (h:AnyL P .any ops Q S late ops.size (Array.replicate ops.size false) a w.drew):(Code.region id ops true).wp P Q a w :=
 wp_region_any hm (AnyL.any _ _ _ _ h)
end
end Cc
end Go.Proofs.YtnchnlgnnlgjcaaGreat
namespace Go.Proofs.YtnchnlgnnlgjcaaGreat
open Go.RowKit
namespace Cc
set_option maxRecDepth 100000 in
set_option maxHeartbeats 6400000 in
theorem forks_ok {X:Nat->Option Obj} (B P n H D G W k j:Nat) (cx ly N:Int) (ls:List (Int × Int)) (p1 p2:Option Addr) (d1 d2:Nat) (ks vs:List (List Int)) (w0 w:World) (g b:Nat) (R M:List Int) (al:Option Addr) (cl:Nat) (va vr:Value) (C:Nat->Nat) (T:Nat->List (List Tok)) (L:Nat->Nat->List Int) (t q:Nat->Nat) (zs:Nat->Value) (col:Nat->Nat) (hC:Core13 w g b n H D G W ls R M k C T L t q col) (hB:Box13 X B w P g H D G W ls al cl va vr k C zs col) (hD:Doc13 w ls.length k T zs col) (hF:Fresh13 B w col) (hG:Good13 n (ls.length*H) k j R L t) (hw:Below B w0 w) (hBs:B<=w.heap.size) (a:Nat) (hmx:max cx 0 % (k:Int)=a) (hq:q a=0) (sh:ShOk H D G W ls) (hj:j<=80)
 (hks:SlQ (fun x=>x<B) 1 eRow w p1 ks) (hvs:SlQ (fun x=>x<B) 1 eRow w p2 vs) (i1:∀ k,Ls.In32 (Ca.nt ks k)) (i2:∀ k,Ls.In32 (Ca.nt vs k)) (kl:ks.length<=10) (vl:vs.length<=10) (km:∀ k,(Ca.nt ks k).length<=35184372087808) (vm:∀ k,(Ca.nt vs k).length<=35184372087808) (hk:k<5) :
 Calls Tryz.prog 14 #[.pointer (some ⟨P,0,none⟩),.agg #[.int .i64 4,.int .i64 cx,.int .i64 ly,.int .i64 N,.slice p1 ks.length d1,.slice p2 vs.length d2]] w fun e w'=>e=.returned (.bool true)/\∃ k',PlP X B w0 w' P n H D G W ls k' (j+1):=by
 have hk0:0<k:=hG.2.2.2.2.2.1
 have hk5:k<=5:=hG.2.2.2.2.2.2
 have ha:a<k:=by have:=Int.emod_lt_of_pos (max cx 0) (show (0:Int)<k by omega);omega
 obtain ⟨u,hu⟩:∃ u,(w.alloc (.cells #[.int .i64 4,.int .i64 cx,.int .i64 ly,.int .i64 N,.slice p1 ks.length d1,.slice p2 vs.length d2] 44)).drew=u:=⟨_,rfl⟩
 have UB:Hid (Below w.heap.size w u):=by rw [<-hu];exact (Rt.box_below _ _).drew
 have UO:Hid (u.heap[w.heap.size]?=some (.cells #[.int .i64 4,.int .i64 cx,.int .i64 ly,.int .i64 N,.slice p1 ks.length d1,.slice p2 vs.length d2] 44)):=by rw [<-hu];exact heap_alloc_new w _
 have CU:=Ca.hid (hC.keep UB.out)
 have BU:=Ca.hid (hB.keep UB.out)
 have DU:=Ca.hid (hD.keep UB.out)
 have FU:=Ca.hid (hF.keep UB.out.size)
 have GD:=Ca.hid hG
 have HW:=Ca.hid (hw.trans (UB.out.mono hBs))
 have HBu:B<=u.heap.size:=by have:=UB.out.size;omega
 have KS:Hid (SlQ (fun x=>x<B) 1 eRow u p1 ks):=hks.carry carry_row (fun x _ hx=>⟨hx,UB.out.block x (by omega)⟩) UB.out.size
 have VS:Hid (SlQ (fun x=>x<B) 1 eRow u p2 vs):=hvs.carry carry_row (fun x _ hx=>⟨hx,UB.out.block x (by omega)⟩) UB.out.size
 have I1:=Ca.hid i1
 have I2:=Ca.hid i2
 have KM:=Ca.hid km
 have VM:=Ca.hid vm
 have SH:=Ca.hid sh
 have h0:Hid (PlP X B w0 w P n H D G W ls k j):=⟨g,b,R,M,al,cl,va,vr,C,T,L,t,q,zs,col,hC,hB,hD,hF,hG,hw,hBs⟩
 have LY:=Ca.hid (hC.2.2 a ha).2.1
 obtain ⟨⟨hP,-⟩,⟨hva,-⟩,⟨hvr,-⟩,-⟩:=hB
 obtain ⟨gr,cr,Fr',er,-,hrr,hcr,fr⟩:=row_of_own hvr hk0
 subst er
 obtain ⟨az,cz,ez,sz⟩:=hD a ha
 rw [<-LY.out.1] at ez
 have fr':Fr' a=.slice az (T a).length cz:=by have:=fr a ha;simpa [ha,ez] using this
 have SZ:Hid (SlQ (fun x=>col x=0) 1 eToks u az (T a)):=sz.keep carry_toks UB.out
 have c7u:u.cell? ⟨P,7,none⟩=some (.slice (some ⟨gr,0,none⟩) k cr):=(UB.out.cell (p:=⟨P,7,none⟩) hP.lt).trans (hP.cell (show 7<8 by decide))
 have zru:u.cell? ⟨gr,a,none⟩=some (.slice az (T a).length cz):=(UB.out.cell (p:=⟨gr,a,none⟩) hrr.lt).trans (by rw [hrr.cell (by omega),fr'])
 have ka0:(0:Int)<=(a:Int):=by omega
 have ka1:(a:Int)<(k:Int):=by omega
 obtain ⟨sG,sG2,sW,sl,sl2,-⟩:=sh.nums
 clear hvr hrr hcr fr fr' sz
 obtain ⟨ga,ca,Fa,e,-,hra,hca,fa⟩:=row_of_own hva hk0
 subst e
 have fa':Fa a=.pointer (some ⟨C a,0,none⟩):=by have:=fa a ha;unfold cptrs at this;simpa [ha] using this
 have zau:u.cell? ⟨ga,a,none⟩=some (.pointer (some ⟨C a,0,none⟩)):=(UB.out.cell (p:=⟨ga,a,none⟩) hra.lt).trans (by rw [hra.cell (by omega),fa'])
 clear hra hca fa fa'
 have p6:w.cell? ⟨P,6,none⟩=some (.slice (some ⟨ga,0,none⟩) k ca):=hP.cell (show 6<8 by decide)
 have plt:P<w.heap.size:=hP.lt
 have t0:u.cell? ⟨w.heap.size,0,none⟩=some (.int .i64 4):=cell_of_row _ _ _ _ _ _ UO.out
 have t2:u.cell? ⟨w.heap.size,2,none⟩=some (.int .i64 ly):=cell_of_row _ _ _ _ _ _ UO.out
 have t3:u.cell? ⟨w.heap.size,3,none⟩=some (.int .i64 N):=cell_of_row _ _ _ _ _ _ UO.out
 have t1:u.cell? ⟨w.heap.size,1,none⟩=some (.int .i64 cx):=cell_of_row _ _ _ _ _ _ UO.out
 have t4:u.cell? ⟨w.heap.size,4,none⟩=some (.slice p1 ks.length d1):=cell_of_row _ _ _ _ _ _ UO.out
 have t5:u.cell? ⟨w.heap.size,5,none⟩=some (.slice p2 vs.length d2):=cell_of_row _ _ _ _ _ _ UO.out
 have p6u:u.cell? ⟨P,6,none⟩=some (.slice (some ⟨ga,0,none⟩) k ca):=(UB.out.cell (p:=⟨P,6,none⟩) plt).trans p6
 have hkz:((k:Int) == 0)=false:=by simp;omega
 have hkn:¬ (k:Int)=0:=by omega
 clear hC hD hF hG hw hks hvs i1 i2 km vm sh hva hP
 have hkl:¬ (5:Int)<=(k:Int):=by omega
 have hqb:(((q a:Nat):Int) != 0)=false:=by rw [hq];rfl
 have hqn:((q a:Nat):Int)=0:=by rw [hq];rfl
 have hT0:0<(T a).length:=by rw [LY.out.1];omega
 have hT1:(T a).length<=10:=by rw [LY.out.1];omega
 have hHQ:=Ca.hid hq
 have hEZ:=Ca.hid ez
 have CZ:Hid (CaAt u col (a+1) g (C a) H D G W ls M (L a) (cn ls.length (t a) 0) (tkD (T a) H) (qD G W (T a) H)):=by have:=(CU.out.2.2 a ha).1;rw [hq] at this;exact this
 have LZ:∀ i,i<(T a).length->(Ca.nt (T a) i).length<=100000:=fun i hi=>by
  rw [LY.out.2.2 i (by rw [<-LY.out.1];exact hi)]
  have h1:=lv_le (t a) (q a) i
  have h2:=GD.out.2.2.2.2.1 a ha
  omega
 have hLZ:=Ca.hid LZ
 have gN:¬ col g=a+1/\¬ col g=0:=by have:=CU.out.2.1.1;omega
 have bN:¬ col b=a+1/\¬ col b=0:=by have:=CU.out.2.1.2;omega
 have lN:Bk.len (L a) (ls.length*H)<=1000:=by have:=GD.out.2.2.1 a ha;omega
 have hRn:R.length=n:=(PoolAt.nums CU.out.1).2.1
 clear ez LZ hq
 go_enter Tryz.func14,Tryz.ntmps14
 go_wp2
 go_region
 rw [hmx]
 clear hu
 go_upto_region 13 with (go_at_call 42;refine (fork_c (C a) (a+1) (k+1) g b n H D G W ls R M (L a) (t a) (tkD (T a) H) (qD G W (T a) H) col _ CU.out.1 CZ.out SH.out FU.out.1 gN bN lN (GD.out.held ha) GD.out.bound).mono ?_;rintro e w2 ⟨C2,col',rfl,y1,y2,y3,y4,y5,y6,y7⟩;have PP:=Ca.hid y1;have PC:=Ca.hid y3;have PB:=Ca.hid y4;have Y5:=Ca.hid y5;have Y6:=Ca.hid y6;have Y7:=Ca.hid y7;clear y1 y2 y3 y4 y5 y6 y7)
 have MID:=fork_mid (P:=P) (w0:=w0) (j:=j) CU.out BU.out DU.out FU.out HW.out HBu ha hk PP.out (by rw [hHQ.out];exact PC.out) PB.out Y5.out Y6.out Y7.out
 have C2x:=Ca.hid MID.1
 have B2x:=Ca.hid MID.2.1
 have D2x:=Ca.hid MID.2.2.1
 have F2x:=Ca.hid MID.2.2.2.1
 have W2x:=Ca.hid MID.2.2.2.2.1
 have S2x:B<=w2.heap.size:=MID.2.2.2.2.2
 have G2x:=Ca.hid (GD.out.fork (L':=upd L k (L a)) (t':=upd t k (t a)) hRn ha hk (fun i hi=>upd_off _ _ (by omega)) (upd_at _ _ _) (fun i hi=>upd_off _ _ (by omega)) (upd_at _ _ _))
 have SZ2:Hid (SlQ (fun x=>col' x=0) 1 eToks w2 az (T a)):=by
  obtain ⟨az',cz',e,hs⟩:=D2x.out a ha
  rw [hEZ.out] at e
  obtain ⟨h1,-,-⟩:=Value.slice.inj e
  subst h1
  rw [upd_off _ _ (by omega)] at hs
  exact hs
 have VA:=Ca.hid B2x.out.2.1.1
 have VR:=Ca.hid B2x.out.2.2.1.1
 have cga:col' ga=1000:=B2x.out.2.1.2 ga rfl
 have cgr:col' gr=1000:=B2x.out.2.2.1.2 gr rfl
 have cP:col' P=1000:=B2x.out.1.2
 have tP:=ty_row B2x.out.1.1
 have tga:=ty_own VA.out (q:=ga) rfl
 have tgr:=ty_own VR.out (q:=gr) rfl
 have n1:¬ P=ga:=tP.ne tga (by decide)
 have n2:¬ P=gr:=tP.ne tgr (by decide)
 have n3:¬ gr=ga:=tgr.ne tga (by decide)
 have p62:w2.cell? ⟨P,6,none⟩=some (.slice (some ⟨ga,0,none⟩) k ca):=B2x.out.1.1.cell (show 6<8 by decide)
 have c72:w2.cell? ⟨P,7,none⟩=some (.slice (some ⟨gr,0,none⟩) k cr):=B2x.out.1.1.cell (show 7<8 by decide)
 have lP:=tP.lt
 have lga:=tga.lt
 have lgr:=tgr.lt
 have zr2:w2.cell? ⟨gr,a,none⟩=some (.slice az (T a).length cz):=by
  obtain ⟨g9,c9,F9,e9,-,hr9,hc9,f9⟩:=row_of_own VR.out hk0
  cases e9
  have:=f9 a ha
  rw [hr9.cell (by omega)]
  simpa [ha,hEZ.out] using this
 have FZ:Hid (∀ i,w2.frozen? ⟨P,i,none⟩=false):=fun i=>B2x.out.1.1.frozen i
 have hgaB:=(VA.out.lt ga rfl).1
 have hgrB:=(VR.out.lt gr rfl).1
 obtain ⟨i1,hi10,hi11,hi12,hi13⟩:=info_parts infoCaches
 obtain ⟨i2,hi20,hi21,hi22,hi23⟩:=info_parts infoLays
 clear MID CU BU DU FU HW KS VS I1 I2 KM VM h0 SZ CZ PP PC PB Y5 Y6 Y7 c7u zru zau p6 p6u t0 t2 t3 t4 t5
 go_upto_region 15 with (go_at_call 40;refine (next_any (α:=Tok) az cz (T a) _ SZ2.out hT0 hT1).mono ?_;rintro e w' ⟨rfl,hww⟩;cases hww.symm;clear hww;rw [LY.out.nxt])
 have KS:Hid (∀ v,Below w2.heap.size w2 v->v.cell? ⟨P,6,none⟩=some (.slice (some ⟨ga,0,none⟩) k ca)/\v.cell? ⟨P,7,none⟩=some (.slice (some ⟨gr,0,none⟩) k cr)/\v.cell? ⟨gr,a,none⟩=some (.slice az (T a).length cz)):=fun v hv=>⟨(hv.cell (p:=⟨P,6,none⟩) lP).trans p62,(hv.cell (p:=⟨P,7,none⟩) lP).trans c72,(hv.cell (p:=⟨gr,a,none⟩) lgr).trans zr2⟩
 have H0:=Ca.hid (KS.out w2.drew (Below.refl _ _).drew)
 have H1:=Ca.hid (KS.out (w2.drew.alloc (.cells #[.pointer (some ⟨C2,0,none⟩)] 55)) ((Below.refl w2.heap.size w2).drew.alloc (Nat.le_refl _) _))
 clear hHQ hEZ gN bN lN hRn hkz hkn hkl hqb hqn SH UB UO GD hmx tP tga tgr sW sG sG2
 refine AnyL.begin (fun w'=>w'.cell? ⟨P,6,none⟩=some (.slice (some ⟨ga,0,none⟩) k ca)/\w'.cell? ⟨P,7,none⟩=some (.slice (some ⟨gr,0,none⟩) k cr)/\w'.cell? ⟨gr,a,none⟩=some (.slice az (T a).length cz)) [22,25,28] (by kernel_rfl) ?_
 refine AnyL.take 0 82 (v:=?_) rfl rfl (by kernel_rfl) (by kernel_rfl) (by kernel_rfl) (fun _ _ _ h=>h) (by kernel_rfl) (fun _=>H0.out) (by rfl) (fun w=>?_) ?_
 rotate_left
 ·go_simp;try rfl
 try simp only [Act.put,List.setIfInBounds_toArray,List.set_cons_zero,List.set_cons_succ]
 refine AnyL.take 1 83 (v:=?_) rfl rfl (by kernel_rfl) (by kernel_rfl) (by kernel_rfl) (fun _ _ _ h=>h) (by kernel_rfl) (fun _=>H0.out) (by rfl) (fun w=>?_) ?_
 rotate_left
 ·go_simp;try rfl
 try simp only [Act.put,List.setIfInBounds_toArray,List.set_cons_zero,List.set_cons_succ]
 refine AnyL.take 2 84 (v:=?_) rfl rfl (by kernel_rfl) (by kernel_rfl) (by kernel_rfl) (fun _ _ _ h=>h) (by kernel_rfl) (fun _=>H0.out) (by rfl) (fun w=>?_) ?_
 rotate_left
 ·go_simp;try rfl
 try simp only [Act.put,List.setIfInBounds_toArray,List.set_cons_zero,List.set_cons_succ]
 refine AnyL.take 3 85 (v:=?_) rfl rfl (by kernel_rfl) (by kernel_rfl) (by kernel_rfl) (fun _ _ _ h=>h) (by kernel_rfl) (fun _=>H0.out) (by rfl) (fun w=>?_) ?_
 rotate_left
 ·go_simp;try rfl
 try simp only [Act.put,List.setIfInBounds_toArray,List.set_cons_zero,List.set_cons_succ]
 refine AnyL.take 4 86 (v:=?_) rfl rfl (by kernel_rfl) (by kernel_rfl) (by kernel_rfl) (fun _ _ _ h=>h) (by kernel_rfl) (fun _=>H0.out) (by rfl) (fun w=>?_) ?_
 rotate_left
 ·go_simp;try rfl
 try simp only [Act.put,List.setIfInBounds_toArray,List.set_cons_zero,List.set_cons_succ]
 refine AnyL.load 5 87 [8,20,21,22,25,28] (v:=?_) rfl rfl (by kernel_rfl) (by kernel_rfl) (by kernel_rfl) (fun _ _ _ h=>h) (by kernel_rfl) (by kernel_rfl) (by kernel_rfl) (by kernel_rfl) (fun _=>H0.out) (by rfl) (fun w hSw=>?_) ?_
 rotate_left
 ·obtain ⟨s6,s7,sr⟩:=hSw;go_simp;try rfl
 try simp only [Act.put,List.setIfInBounds_toArray,List.set_cons_zero,List.set_cons_succ]
 refine AnyL.take 6 88 (v:=?_) rfl rfl (by kernel_rfl) (by kernel_rfl) (by kernel_rfl) (fun _ _ _ h=>h) (by kernel_rfl) (fun _=>H0.out) (by rfl) (fun w=>?_) ?_
 rotate_left
 ·go_simp;try rfl
 try simp only [Act.put,List.setIfInBounds_toArray,List.set_cons_zero,List.set_cons_succ]
 refine AnyL.take 9 91 (v:=?_) rfl rfl (by kernel_rfl) (by kernel_rfl) (by kernel_rfl) (fun _ _ _ h=>h) (by kernel_rfl) (fun _=>H0.out) (by rfl) (fun w=>?_) ?_
 rotate_left
 ·go_simp;try rfl
 try simp only [Act.put,List.setIfInBounds_toArray,List.set_cons_zero,List.set_cons_succ]
 refine AnyL.take 10 92 (v:=?_) rfl rfl (by kernel_rfl) (by kernel_rfl) (by kernel_rfl) (fun _ _ _ h=>h) (by kernel_rfl) (fun _=>H0.out) (by rfl) (fun w=>?_) ?_
 rotate_left
 ·go_simp;try rfl
 try simp only [Act.put,List.setIfInBounds_toArray,List.set_cons_zero,List.set_cons_succ]
 refine AnyL.take 11 93 (v:=?_) rfl rfl (by kernel_rfl) (by kernel_rfl) (by kernel_rfl) (fun _ _ _ h=>h) (by kernel_rfl) (fun _=>H0.out) (by rfl) (fun w=>?_) ?_
 rotate_left
 ·go_simp;try rfl
 try simp only [Act.put,List.setIfInBounds_toArray,List.set_cons_zero,List.set_cons_succ]
 refine AnyL.load 12 94 [22,25,28] (v:=?_) rfl rfl (by kernel_rfl) (by kernel_rfl) (by kernel_rfl) (fun _ _ _ h=>h) (by kernel_rfl) (by kernel_rfl) (by kernel_rfl) (by kernel_rfl) (fun _=>H0.out) (by rfl) (fun w hSw=>?_) ?_
 rotate_left
 ·obtain ⟨s6,s7,sr⟩:=hSw;go_simp;try rfl
 try simp only [Act.put,List.setIfInBounds_toArray,List.set_cons_zero,List.set_cons_succ]
 refine AnyL.take 13 95 (v:=?_) rfl rfl (by kernel_rfl) (by kernel_rfl) (by kernel_rfl) (fun _ _ _ h=>h) (by kernel_rfl) (fun _=>H0.out) (by rfl) (fun w=>?_) ?_
 rotate_left
 ·go_simp;try rfl
 try simp only [Act.put,List.setIfInBounds_toArray,List.set_cons_zero,List.set_cons_succ]
 refine AnyL.take 14 96 (v:=?_) rfl rfl (by kernel_rfl) (by kernel_rfl) (by kernel_rfl) (fun _ _ _ h=>h) (by kernel_rfl) (fun _=>H0.out) (by rfl) (fun w=>?_) ?_
 rotate_left
 ·go_simp;try rfl
 try simp only [Act.put,List.setIfInBounds_toArray,List.set_cons_zero,List.set_cons_succ]
 refine AnyL.take 15 97 (v:=?_) rfl rfl (by kernel_rfl) (by kernel_rfl) (by kernel_rfl) (fun _ _ _ h=>h) (by kernel_rfl) (fun _=>H0.out) (by rfl) (fun w=>?_) ?_
 rotate_left
 ·go_simp;try rfl
 try simp only [Act.put,List.setIfInBounds_toArray,List.set_cons_zero,List.set_cons_succ]
 refine AnyL.load 16 98 [18,19,20,21,22,25,28] (v:=?_) rfl rfl (by kernel_rfl) (by kernel_rfl) (by kernel_rfl) (fun _ _ _ h=>h) (by kernel_rfl) (by kernel_rfl) (by kernel_rfl) (by kernel_rfl) (fun _=>H0.out) (by rfl) (fun w hSw=>?_) ?_
 rotate_left
 ·obtain ⟨s6,s7,sr⟩:=hSw;go_simp;try rfl
 try simp only [Act.put,List.setIfInBounds_toArray,List.set_cons_zero,List.set_cons_succ]
 refine AnyL.take 17 99 (v:=?_) rfl rfl (by kernel_rfl) (by kernel_rfl) (by kernel_rfl) (fun _ _ _ h=>h) (by kernel_rfl) (fun _=>H0.out) (by rfl) (fun w=>?_) ?_
 rotate_left
 ·go_simp;try rfl
 try simp only [Act.put,List.setIfInBounds_toArray,List.set_cons_zero,List.set_cons_succ]
 refine AnyL.take 18 100 (v:=?_) rfl rfl (by kernel_rfl) (by kernel_rfl) (by kernel_rfl) (fun _ _ _ h=>h) (by kernel_rfl) (fun _=>H0.out) (by rfl) (fun w=>?_) ?_
 rotate_left
 ·go_simp;try rfl
 try simp only [Act.put,List.setIfInBounds_toArray,List.set_cons_zero,List.set_cons_succ]
 refine AnyL.load 19 101 [20,21,22,25,28] (v:=?_) rfl rfl (by kernel_rfl) (by kernel_rfl) (by kernel_rfl) (fun _ _ _ h=>h) (by kernel_rfl) (by kernel_rfl) (by kernel_rfl) (by kernel_rfl) (fun _=>H0.out) (by rfl) (fun w hSw=>?_) ?_
 rotate_left
 ·obtain ⟨s6,s7,sr⟩:=hSw;go_simp;try rfl
 try simp only [Act.put,List.setIfInBounds_toArray,List.set_cons_zero,List.set_cons_succ]
 refine AnyL.one 7 (by kernel_rfl) rfl (fun K hK=>?_)
 go_simp
 refine hK.out _ _ (fun _=>H1.out) ?_
 clear hK K
 try simp only [Act.put,List.setIfInBounds_toArray,List.set_cons_zero,List.set_cons_succ]
 refine AnyL.one 8 (by kernel_rfl) rfl (fun K hK=>?_)
 refine step_append_lies _ (by rfl) _ _ _ (by rfl) B 55 i1 _ 1 8 Tryz.underlying47 hi10 hi11 hi12 hi13 rfl (by omega) _ k _ (by rfl) (VA.out.drew.alloc _) ⟨w2.heap.size,0,none⟩ 1 1 [.pointer (some ⟨C2,0,none⟩)] (by rfl) (by rfl) (World.news_of_block (cs:=#[.pointer (some ⟨C2,0,none⟩)]) (t:=55) (fr:=(0,0)) (heap_alloc_new w2.drew _)) (by simp [Value.oneCell']) (by omega) (by unfold maxLen;omega) (by omega) (by simp;omega) (w2.heap.size+1) (by simp) ?_;intro ga' ca' w3 hown3 hgrow3 hat3 hlt3;have A3:Hid (w3.ownsRow B 55 1 (.slice (some ⟨ga',0,none⟩) (k+1) ca') (k+1) (cptrs C k ++ [.pointer (some ⟨C2,0,none⟩)])):=hown3;have T3:Hid (ga=ga'\/ga'=w2.heap.size+1):=hat3.imp (fun e=>by cases e;rfl) id;have G3:=grown_one3 hgrow3 ((Below.refl w2.heap.size w2).drew.alloc (Nat.le_refl _) _) (H:=ga) rfl;have J3:Hid ((∀ q,q<w2.heap.size->¬ q=ga->w3.heap[q]?=w2.heap[q]?)/\w2.heap.size<=w3.heap.size/\∀ B,B<=ga->B<=w2.heap.size->Below B w2 w3):=G3;have p63:=(World.cell?_of_block (a:=⟨P,6,none⟩) (J3.out.1 P lP n1)).trans p62;have c73:=(World.cell?_of_block (a:=⟨P,7,none⟩) (J3.out.1 P lP n1)).trans c72;have zr3:=(World.cell?_of_block (a:=⟨gr,a,none⟩) (J3.out.1 gr lgr n3)).trans zr2;have SZ3:Hid (SlQ (fun x=>col' x=0/\x<w2.heap.size) 1 eToks w3 az (T a)):=SZ2.out.carry carry_toks (fun x hx h0=>⟨⟨h0,hx⟩,J3.out.1 x hx (fun e=>by rw [e,cga] at h0;omega)⟩) J3.out.2.1;have lP3:P<w3.heap.size:=Nat.lt_of_lt_of_le lP J3.out.2.1;clear hown3 hgrow3 hat3 G3
 have H3:Hid (w3.cell? ⟨P,6,none⟩=some (.slice (some ⟨ga,0,none⟩) k ca)/\w3.cell? ⟨P,7,none⟩=some (.slice (some ⟨gr,0,none⟩) k cr)/\w3.cell? ⟨gr,a,none⟩=some (.slice az (T a).length cz)):=⟨p63,c73,zr3⟩
 refine hK.out _ _ (fun _=>H3.out) ?_
 clear hK K
 try simp only [Act.put,List.setIfInBounds_toArray,List.set_cons_zero,List.set_cons_succ]
 refine AnyL.one 20 (by kernel_rfl) rfl (fun K hK=>?_)
 go_simp
 go_at_call 43;refine (copiedL_any (Q:=fun x=>col' x=0/\x<w2.heap.size) az cz (T a) w3 SZ3.out hT1 hLZ.out).mono ?_;rintro e w4 ⟨v4,xs4,rfl,aq,-,-,hb4⟩;rw [LY.out.1] at aq;obtain ⟨la,lc,rfl,hs4⟩:=copied_slq (Q':=fun x=>(col' x=0/\x<w2.heap.size)\/w3.heap.size<=x) aq LY.out.1.symm (fun q hq=>.inr hq) (fun q hq=>hq.imp (fun h=>h.1) id);have L4:=Ca.hid hs4;have B4:Hid (Below w3.heap.size w3 w4):=hb4;have S4:w3.heap.size<=w4.heap.size:=hb4.size;have lr3:Hid (gr<w3.heap.size):=Nat.lt_of_lt_of_le lgr J3.out.2.1;have VR4:Hid (w4.ownsRow B 59 1 (.slice (some ⟨gr,0,none⟩) k cr) k ((List.range k).map zs)):=Ca.own_at VR.out (fun q hq=>(by cases hq;rw [B4.out.block gr lr3.out,J3.out.1 gr lgr n3]));have p64:=(B4.out.cell (p:=⟨P,6,none⟩) lP3).trans p63;have c74:=(B4.out.cell (p:=⟨P,7,none⟩) lP3).trans c73;have lP4:P<w4.heap.size:=Nat.lt_of_lt_of_le lP3 S4;have FZ4:Hid (∀ i,w4.frozen? ⟨P,i,none⟩=false):=(fun i=>((B4.out.frozen (p:=⟨P,i,none⟩) lP3).trans (World.frozen?_of_block (a:=⟨P,i,none⟩) (J3.out.1 P lP n1))).trans (FZ.out i));clear aq hb4 hs4
 have H4:Hid (∀ v,Below w4.heap.size w4 v->v.cell? ⟨P,6,none⟩=some (.slice (some ⟨ga,0,none⟩) k ca)/\v.cell? ⟨P,7,none⟩=some (.slice (some ⟨gr,0,none⟩) k cr)/\v.cell? ⟨gr,a,none⟩=some (.slice az (T a).length cz)):=fun v hv=>⟨(hv.cell (p:=⟨P,6,none⟩) lP4).trans p64,(hv.cell (p:=⟨P,7,none⟩) lP4).trans c74,(hv.cell (p:=⟨gr,a,none⟩) (Nat.lt_of_lt_of_le lr3.out S4)).trans ((B4.out.cell (p:=⟨gr,a,none⟩) lr3.out).trans zr3)⟩
 refine hK.out _ _ (fun _=>H4.out _ (Below.refl _ _)) ?_
 clear hK K
 try simp only [Act.put,List.setIfInBounds_toArray,List.set_cons_zero,List.set_cons_succ]
 refine AnyL.one 21 (by kernel_rfl) rfl (fun K hK=>?_)
 go_simp
 refine hK.out _ _ (fun _=>H4.out _ (Rt.box_below _ _)) ?_
 clear hK K
 try simp only [Act.put,List.setIfInBounds_toArray,List.set_cons_zero,List.set_cons_succ]
 refine AnyL.one 22 (by kernel_rfl) rfl (fun K hK=>?_)
 refine step_append_lies _ (by rfl) _ _ _ (by rfl) B 59 i2 _ 1 24 Tryz.underlying48 hi20 hi21 hi22 hi23 rfl (by omega) _ k _ (by rfl) (VR4.out.alloc _) ⟨w4.heap.size,0,none⟩ 1 1 [.slice la ls.length lc] (by rfl) (by rfl) (World.news_of_block (cs:=#[.slice la ls.length lc]) (t:=59) (fr:=(0,0)) (heap_alloc_new w4 _)) (by simp [Value.oneCell']) (by omega) (by unfold maxLen;omega) (by omega) (by have:=J3.out.2.1;simp;omega) (w4.heap.size+1) (by simp) ?_;intro gr' cr' w5 hown5 hgrow5 hat5 hlt5;have A5:Hid (w5.ownsRow B 59 1 (.slice (some ⟨gr',0,none⟩) (k+1) cr') (k+1) ((List.range k).map zs ++ [.slice la ls.length lc])):=hown5;have T5:Hid (gr=gr'\/gr'=w4.heap.size+1):=hat5.imp (fun e=>by cases e;rfl) id;have G5:=grown_one3 hgrow5 (Rt.box_below w4 _) (H:=gr) rfl;have J5:Hid ((∀ q,q<w4.heap.size->¬ q=gr->w5.heap[q]?=w4.heap[q]?)/\w4.heap.size<=w5.heap.size/\∀ B,B<=gr->B<=w4.heap.size->Below B w4 w5):=G5;have p65:=(World.cell?_of_block (a:=⟨P,6,none⟩) (J5.out.1 P lP4 n2)).trans p64;have c75:=(World.cell?_of_block (a:=⟨P,7,none⟩) (J5.out.1 P lP4 n2)).trans c74;have f65:=(World.frozen?_of_block (a:=⟨P,6,none⟩) (J5.out.1 P lP4 n2)).trans (FZ4.out 6);have f75:=(World.frozen?_of_block (a:=⟨P,7,none⟩) (J5.out.1 P lP4 n2)).trans (FZ4.out 7);clear hown5 hgrow5 hat5 hlt5 G5
 refine hK.out _ _ (fun q=>off_no (by kernel_rfl) q) ?_
 clear hK K
 try simp only [Act.put,List.setIfInBounds_toArray,List.set_cons_zero,List.set_cons_succ]
 refine AnyL.take 23 105 (v:=?_) rfl rfl (by kernel_rfl) (by kernel_rfl) (by kernel_rfl) (fun _ _ _ h=>h) (by kernel_rfl) (fun q=>off_no (by kernel_rfl) q) (by rfl) (fun w=>?_) ?_
 rotate_left
 ·go_simp;try rfl
 try simp only [Act.put,List.setIfInBounds_toArray,List.set_cons_zero,List.set_cons_succ]
 refine AnyL.take 24 106 (v:=?_) rfl rfl (by kernel_rfl) (by kernel_rfl) (by kernel_rfl) (fun _ _ _ h=>h) (by kernel_rfl) (fun q=>off_no (by kernel_rfl) q) (by rfl) (fun w=>?_) ?_
 rotate_left
 ·go_simp;try rfl
 try simp only [Act.put,List.setIfInBounds_toArray,List.set_cons_zero,List.set_cons_succ]
 refine AnyL.one 25 (by kernel_rfl) rfl (fun K hK=>?_)
 go_simp
 refine hK.out _ _ (fun q=>off_no (by kernel_rfl) q) ?_
 clear hK K
 try simp only [Act.put,List.setIfInBounds_toArray,List.set_cons_zero,List.set_cons_succ]
 refine AnyL.take 26 107 (v:=?_) rfl rfl (by kernel_rfl) (by kernel_rfl) (by kernel_rfl) (fun _ _ _ h=>h) (by kernel_rfl) (fun q=>off_no (by kernel_rfl) q) (by rfl) (fun w=>?_) ?_
 rotate_left
 ·go_simp;try rfl
 try simp only [Act.put,List.setIfInBounds_toArray,List.set_cons_zero,List.set_cons_succ]
 refine AnyL.take 27 108 (v:=?_) rfl rfl (by kernel_rfl) (by kernel_rfl) (by kernel_rfl) (fun _ _ _ h=>h) (by kernel_rfl) (fun q=>off_no (by kernel_rfl) q) (by rfl) (fun w=>?_) ?_
 rotate_left
 ·go_simp;try rfl
 try simp only [Act.put,List.setIfInBounds_toArray,List.set_cons_zero,List.set_cons_succ]
 refine AnyL.one 28 (by kernel_rfl) rfl (fun K hK=>?_)
 go_simp
 refine hK.out _ _ (fun q=>off_no (by kernel_rfl) q) ?_
 clear hK K
 try simp only [Act.put,List.setIfInBounds_toArray,List.set_cons_zero,List.set_cons_succ]
 refine AnyL.done (by kernel_rfl) ?_ _
 go_wp2
 all_goals
  go_ret
  have s3:=J3.out.2.1
  have s5:=J5.out.2.1
  have s4:=B4.out.size
  have FIN:=fork_end (la:=la) (lc:=lc) C2x.out B2x.out (fun i hi=>(upd_off C C2 (a:=k) (i:=i) (by omega)).symm) D2x.out F2x.out G2x.out W2x.out S2x hk J3.out.1 J3.out.2.1 (J3.out.2.2 B hgaB S2x) (by rw [upd_at];exact A3.out) (T3.out.imp id (fun e=>by omega)) B4.out (by rw [upd_at];exact L4.out) J5.out.1 J5.out.2.1 (J5.out.2.2 B hgrB (by omega)) A5.out (T5.out.imp id (fun e=>by omega))
  exact ⟨rfl,k+1,FIN⟩
end Cc
end Go.Proofs.YtnchnlgnnlgjcaaGreat
