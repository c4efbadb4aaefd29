import Derived.Test.YtnchnlgnnlgjcaaGreatCo19
import Derived.Test.YtnchnlgnnlgjcaaGreatCo23
import Derived.Test.YtnchnlgnnlgjcaaGreatCo21
import Derived.Test.YtnchnlgnnlgjcaaGreatCo17
import Derived.Test.YtnchnlgnnlgjcaaGreatCo22
set_option linter.unusedVariables false
set_option linter.unusedSimpArgs false
namespace Go.Proofs.YtnchnlgnnlgjcaaGreat
open Go.RowKit
namespace Cc
def UnB (w:World) (q:Nat):Prop:=∃ cs,w.heap[q]?=some (.cells cs 77 (0,0))
theorem UnB.of_block {w w':World} {q:Nat} (h:UnB w q) (e:w'.heap[q]?=w.heap[q]?):UnB w' q:=by
 obtain ⟨cs,h⟩:=h
 exact ⟨cs,e.trans h⟩
theorem unB_own {w:World} {base s:Nat} {v:Value} {n:Nat} {xs:List Value} (h:w.ownsRow base 77 s v n xs) {q:Nat} (hq:v.ownBlock=some q):UnB w q:=by
 rcases h.2 with ⟨rfl,_⟩ | ⟨g,cap,cur,rfl,_,hg,_⟩
 ·cases hq
 ·cases hq;exact ⟨cur,hg⟩
set_option maxRecDepth 100000 in
theorem cloneBits_u (a:Option Addr) (c n:Nat) (ls:List (Int × Int)) (w:World) (h:Tn.Tr.Ps w a ls) (h0:0<ls.length) (hl:ls.length<=1000) (hn:ls.length=n) :
 Calls Tryz.prog 94 #[.slice a n c] w fun e w'=>∃ a' c',e=.returned (.slice (some ⟨a',0,none⟩) n c')/\w.heap.size<=a'/\UnB w' a'/\Tn.Tr.Ps w' (some ⟨a',0,none⟩) ls/\Below w.heap.size w w':=by
 subst hn
 have hS:=ps_slq (Q:=fun _=>True) h (fun _ _=>trivial)
 obtain ⟨b,o,rfl,-⟩:=hS.get h0
 have HA:Hid (SlQ (fun _=>True) 2 ePair w (some ⟨b,o,none⟩) ls):=hS
 clear h hS
 have hq:(binOp .eql 22 (.slice (some ⟨b,o,none⟩) ls.length c) (.slice none 0 0)).run Tryz.prog w=.ok (.bool false) w:=slice_nil w _ _ (some ⟨b,o,none⟩) _ _ Tryz.underlying22
 go_enter Tryz.func94,Tryz.ntmps94
 go_wp2_with (at_builtin;refine wpList_append_slq carry_pair full_pair rfl _ _ 22 rfl w.heap.size 77 _ 16 Tryz.underlying22 infoBits (by rfl) (by decide) _ 0 [] (by rfl) (World.ownsRow_made w #[] 0 (Nat.le_refl _) (by decide) rfl) (some ⟨b,o,none⟩) ls c (by rfl) (HA.out.keep carry_pair (box_below _ _)) (fun e=>nomatch e) (by unfold maxLen;omega) (by omega) (by simp) ?_;intro v1 u1 news hnl hne ho1 hg1;simp only [Nat.zero_add,List.nil_append] at ho1;obtain ⟨va,vc,rfl⟩:=Ca.own_slice ho1;have O1:Hid (u1.ownsRow w.heap.size 77 2 (.slice va ls.length vc) ls.length news):=ho1;have NE:=Ca.hid hne;have B1:Hid (Below w.heap.size w u1):=(box_below _ _).grown hg1 (by simp) (by intro k hk;cases hk;exact Nat.le_refl _);clear ho1 hg1 hne)
 go_ret
 obtain ⟨g,cp,e,_⟩:=O1.out.form (by omega)
 cases e
 obtain ⟨a',c',e,hs,_⟩:=slq_of_own (E:=ePair) (Q:=fun _=>True) (l:=ls) O1.out rfl (fun _ _=>trivial) (fun i hi cc hcc=>NE.out i hi cc hcc)
 cases e
 have hlt:=O1.out.lt g rfl
 exact ⟨g,_,rfl,hlt.1,unB_own O1.out rfl,slq_ps hs,B1.out⟩
set_option maxHeartbeats 1600000 in
theorem copied_u (H D G W:Int) (al:Option Addr) (cl n:Nat) (ls:List (Int × Int)) (w:World) (h:Tn.Tr.Ps w al ls) (h0:0<ls.length) (hl:ls.length<=1000) (hn:ls.length=n) :
 Calls Tryz.prog 52 #[.agg #[.int .i64 H,.int .i64 D,.int .i64 G,.int .i64 W,.slice al n cl]] w fun e w'=>∃ a' c',e=.returned (.agg #[.int .i64 H,.int .i64 D,.int .i64 G,.int .i64 W,.slice (some ⟨a',0,none⟩) n c'])/\w.heap.size<=a'/\UnB w' a'/\Tn.Tr.Ps w' (some ⟨a',0,none⟩) ls/\Below w.heap.size w w':=by
 have HP:=Ca.hid h
 have HN:=Ca.hid hn
 clear h hn
 go_enter Tryz.func52,Tryz.ntmps52
 go_wp2_with fail
 obtain ⟨u,hu⟩:∃ u,(w.alloc (.cells #[.int .i64 H,.int .i64 D,.int .i64 G,.int .i64 W,.slice al n cl] 26)).alloc (.cells #[.int .i64 0,.int .i64 0,.int .i64 0,.int .i64 0,.slice none 0 0] 26)=u:=⟨_,rfl⟩
 have U:Hid (Below w.heap.size w u):=by rw [<-hu];exact two_boxes _ _ _
 have su:Hid (u.heap.size=w.heap.size+2):=by show _=_;rw [<-hu];simp
 have r0:Hid (u.rowIs w.heap.size 26 5 (fun i=>if i=0 then .int .i64 H else if i=1 then .int .i64 D else if i=2 then .int .i64 G else if i=3 then .int .i64 W else .slice al n cl)):=by rw [<-hu];exact shape_box.alloc _
 have r1:Hid (u.rowIs (w.heap.size+1) 26 5 (fun i=>if i=0 then .int .i64 0 else if i=1 then .int .i64 0 else if i=2 then .int .i64 0 else if i=3 then .int .i64 0 else .slice none 0 0)):=by
  have:=shape_box (w:=w.alloc (.cells #[.int .i64 H,.int .i64 D,.int .i64 G,.int .i64 W,.slice al n cl] 26)) (H:=0) (D:=0) (G:=0) (W:=0) (v:=.slice none 0 0)
  rw [hu,World.size_alloc] at this
  exact this
 rw [hu]
 clear hu
 refine (cloneBits_u al cl n ls u (HP.out.keep U.out) h0 hl HN.out).mono ?_
 rintro e v ⟨a',c',rfl,g1,g2,g3,hb⟩
 have RS:=Ca.hid (And.intro g1 (And.intro g2 (And.intro g3 hb)))
 have s0:=r0.out.of_block (hb.block _ r0.out.lt)
 have s1:=r1.out.of_block (hb.block _ r1.out.lt)
 have S0:=Ca.hid s0
 have S1:=Ca.hid s1
 have x0:v.cell? ⟨w.heap.size,0,none⟩=some (.int .i64 H):=s0.cell (show 0<5 by decide)
 have x1:v.cell? ⟨w.heap.size,1,none⟩=some (.int .i64 D):=s0.cell (show 1<5 by decide)
 have x2:v.cell? ⟨w.heap.size,2,none⟩=some (.int .i64 G):=s0.cell (show 2<5 by decide)
 have x3:v.cell? ⟨w.heap.size,3,none⟩=some (.int .i64 W):=s0.cell (show 3<5 by decide)
 have x4:v.cell? ⟨w.heap.size,4,none⟩=some (.slice al n cl):=s0.cell (show 4<5 by decide)
 have z4:=s0.frozen 4
 have y0:v.cell? ⟨w.heap.size+1,0,none⟩=some (.int .i64 0):=s1.cell (show 0<5 by decide)
 have y1:v.cell? ⟨w.heap.size+1,1,none⟩=some (.int .i64 0):=s1.cell (show 1<5 by decide)
 have y2:v.cell? ⟨w.heap.size+1,2,none⟩=some (.int .i64 0):=s1.cell (show 2<5 by decide)
 have y3:v.cell? ⟨w.heap.size+1,3,none⟩=some (.int .i64 0):=s1.cell (show 3<5 by decide)
 have y4:v.cell? ⟨w.heap.size+1,4,none⟩=some (.slice none 0 0):=s1.cell (show 4<5 by decide)
 have f0:=s1.frozen 0
 have f1:=s1.frozen 1
 have f2:=s1.frozen 2
 have f3:=s1.frozen 3
 have f4:=s1.frozen 4
 clear g1 g2 g3 hb s0 s1
 go_wp2
 have nb:∀ (y:World) (b o:Nat) (vv:Value),¬ a'=b->Tn.Tr.Ps y (some ⟨a',0,none⟩) ls->Tn.Tr.Ps (y.setCell ⟨b,o,none⟩ vv) (some ⟨a',0,none⟩) ls:=fun y b o vv hn hps i hi=>by
  obtain ⟨b1,o1,e,q1,q2⟩:=hps i hi
  cases e
  refine ⟨a',0,rfl,?_,?_⟩
  ·rw [World.cell?_of_block (a:=⟨a',0+i*2,none⟩) (Below.heap_setCell _ _ _ _ (show a' ≠ b from hn))];exact q1
  ·rw [World.cell?_of_block (a:=⟨a',0+i*2+1,none⟩) (Below.heap_setCell _ _ _ _ (show a' ≠ b from hn))];exact q2
 have n0:¬ a'=w.heap.size:=by have:=RS.out.1;have:=su.out;omega
 have n1:¬ a'=w.heap.size+1:=by have:=RS.out.1;have:=su.out;omega
 have BV:Below w.heap.size w v:=U.out.trans (RS.out.2.2.2.mono U.out.size)
 refine bodyPost_ret (v:=.agg #[.int .i64 H,.int .i64 D,.int .i64 G,.int .i64 W,.slice (some ⟨a',0,none⟩) n c']) (by simp [results,Tryz.results52,go_sem,y0,y1,y2,y3,y4]) rfl ⟨a',c',rfl,by have:=RS.out.1;have:=su.out;omega,?_,?_,?_⟩
 ·exact RS.out.2.1.of_block ((Below.heap_setCell _ _ _ _ (show a' ≠ w.heap.size+1 from n1)).trans ((Below.heap_setCell _ _ _ _ (show a' ≠ w.heap.size+1 from n1)).trans ((Below.heap_setCell _ _ _ _ (show a' ≠ w.heap.size+1 from n1)).trans ((Below.heap_setCell _ _ _ _ (show a' ≠ w.heap.size+1 from n1)).trans ((Below.heap_setCell _ _ _ _ (show a' ≠ w.heap.size+1 from n1)).trans (Below.heap_setCell _ _ _ _ (show a' ≠ w.heap.size from n0)))))))
 ·exact nb _ _ _ _ n1 (nb _ _ _ _ n1 (nb _ _ _ _ n1 (nb _ _ _ _ n1 (nb _ _ _ _ n1 (nb _ _ _ _ n0 RS.out.2.2.1)))))
 ·exact (((((BV.setCell (by simp) _).setCell (by simp) _).setCell (by simp) _).setCell (by simp) _).setCell (by simp) _).setCell (by simp) _
set_option maxHeartbeats 1600000 in
theorem shape_u (C g H D G W:Nat) (ls:List (Int × Int)) (M:List Int) (L:Nat->List Int) (cnt:List Int) (tk:Nat->List Tok) (q:Nat->Nat) (c:Nat) (col:Nat->Nat) (w:World) (h:CaAt w col c g C H D G W ls M L cnt tk q) (h0:0<ls.length) (hl:ls.length<=1000) :
 Calls Tryz.prog 31 #[.pointer (some ⟨C,0,none⟩)] w fun e w'=>∃ a' c',e=.returned (.agg #[.int .i64 (H:Int),.int .i64 (D:Int),.int .i64 (G:Int),.int .i64 (W:Int),.slice (some ⟨a',0,none⟩) ls.length c'])/\w.heap.size<=a'/\UnB w' a'/\Tn.Tr.Ps w' (some ⟨a',0,none⟩) ls/\Below w.heap.size w w':=by
 obtain ⟨al,cl,T,pb,pc,ct,cc,rg,rs,F,⟨hC,zC⟩,⟨hps,-⟩,-⟩:=h.in
 have HP:=Ca.hid hps.1
 have HC:=Ca.hid hC
 clear h hC hps zC
 go_enter Tryz.func31,Tryz.ntmps31
 go_upto_region 1 with fail
 obtain ⟨u,hu⟩:∃ u,w.alloc (.cells #[.int .i64 0,.int .i64 0,.int .i64 0,.int .i64 0,.slice none 0 0] 26)=u:=⟨_,rfl⟩
 have U:Hid (Below w.heap.size w u):=by rw [<-hu];exact Rt.box_below _ _
 have su:Hid (u.heap.size=w.heap.size+1):=by show _=_;rw [<-hu];simp
 have r1:Hid (u.rowIs w.heap.size 26 5 (fun i=>if i=0 then .int .i64 0 else if i=1 then .int .i64 0 else if i=2 then .int .i64 0 else if i=3 then .int .i64 0 else .slice none 0 0)):=by rw [<-hu];exact shape_box
 have hCu:=HC.out.of_block (U.out.block _ HC.out.lt)
 have x1:u.cell? ⟨C,1,none⟩=some (.int .i64 (H:Int)):=hCu.cell (show 1<9 by decide)
 have x2:u.cell? ⟨C,2,none⟩=some (.int .i64 (D:Int)):=hCu.cell (show 2<9 by decide)
 have x3:u.cell? ⟨C,3,none⟩=some (.int .i64 (G:Int)):=hCu.cell (show 3<9 by decide)
 have x4:u.cell? ⟨C,4,none⟩=some (.int .i64 (W:Int)):=hCu.cell (show 4<9 by decide)
 have x5:u.cell? ⟨C,5,none⟩=some (.slice al ls.length cl):=hCu.cell (show 5<9 by decide)
 rw [hu]
 clear hu hCu
 go_wp2_with (go_at_call 52;refine (copied_u (H:Int) (D:Int) (G:Int) (W:Int) al cl ls.length ls u (HP.out.keep U.out) h0 hl rfl).mono ?_;rintro e v ⟨a',c',rfl,g1,g2,g3,hb⟩;have RS:=Ca.hid (And.intro g1 (And.intro g2 (And.intro g3 hb)));have s1:=r1.out.of_block (hb.block _ r1.out.lt);have S1:=Ca.hid s1;have y0:v.cell? ⟨w.heap.size,0,none⟩=some (.int .i64 0):=s1.cell (show 0<5 by decide);have y1:v.cell? ⟨w.heap.size,1,none⟩=some (.int .i64 0):=s1.cell (show 1<5 by decide);have y2:v.cell? ⟨w.heap.size,2,none⟩=some (.int .i64 0):=s1.cell (show 2<5 by decide);have y3:v.cell? ⟨w.heap.size,3,none⟩=some (.int .i64 0):=s1.cell (show 3<5 by decide);have y4:v.cell? ⟨w.heap.size,4,none⟩=some (.slice none 0 0):=s1.cell (show 4<5 by decide);have f0:=s1.frozen 0;have f1:=s1.frozen 1;have f2:=s1.frozen 2;have f3:=s1.frozen 3;have f4:=s1.frozen 4;clear g1 g2 g3 hb s1)
 have nb:∀ (y:World) (b o:Nat) (vv:Value),¬ a'=b->Tn.Tr.Ps y (some ⟨a',0,none⟩) ls->Tn.Tr.Ps (y.setCell ⟨b,o,none⟩ vv) (some ⟨a',0,none⟩) ls:=fun y b o vv hn hps i hi=>by
  obtain ⟨b1,o1,e,q1,q2⟩:=hps i hi
  cases e
  refine ⟨a',0,rfl,?_,?_⟩
  ·rw [World.cell?_of_block (a:=⟨a',0+i*2,none⟩) (Below.heap_setCell _ _ _ _ (show a' ≠ b from hn))];exact q1
  ·rw [World.cell?_of_block (a:=⟨a',0+i*2+1,none⟩) (Below.heap_setCell _ _ _ _ (show a' ≠ b from hn))];exact q2
 have n0:¬ a'=w.heap.size:=by have:=RS.out.1;have:=su.out;omega
 have BV:Below w.heap.size w v:=U.out.trans (RS.out.2.2.2.mono U.out.size)
 refine bodyPost_ret (v:=.agg #[.int .i64 (H:Int),.int .i64 (D:Int),.int .i64 (G:Int),.int .i64 (W:Int),.slice (some ⟨a',0,none⟩) ls.length c']) (by simp [results,Tryz.results31,go_sem,y0,y1,y2,y3,y4]) rfl ⟨a',c',rfl,by have:=RS.out.1;have:=su.out;omega,?_,?_,?_⟩
 ·exact RS.out.2.1.of_block ((Below.heap_setCell _ _ _ _ (show a' ≠ w.heap.size from n0)).trans ((Below.heap_setCell _ _ _ _ (show a' ≠ w.heap.size from n0)).trans ((Below.heap_setCell _ _ _ _ (show a' ≠ w.heap.size from n0)).trans ((Below.heap_setCell _ _ _ _ (show a' ≠ w.heap.size from n0)).trans (Below.heap_setCell _ _ _ _ (show a' ≠ w.heap.size from n0))))))
 ·exact nb _ _ _ _ n0 (nb _ _ _ _ n0 (nb _ _ _ _ n0 (nb _ _ _ _ n0 (nb _ _ _ _ n0 RS.out.2.2.1))))
 ·exact ((((BV.setCell (by simp) _).setCell (by simp) _).setCell (by simp) _).setCell (by simp) _).setCell (by simp) _
end Cc
end Go.Proofs.YtnchnlgnnlgjcaaGreat
namespace Go.Proofs.YtnchnlgnnlgjcaaGreat
open Go.RowKit
namespace Cc
theorem cells_at {w:World} {b i:Nat} {cs:Array Value} {t:TypeId} (h:w.heap[b]?=some (.cells cs t (0,0))):w.cell? ⟨b,i,none⟩=cs[i]?:=by
 simp [World.cell?,h]
theorem row_all {w:World} {b:Nat} {cs:Array Value} {t:TypeId} (h:w.heap[b]?=some (.cells cs t (0,0))):w.rowIs b t cs.size (fun i=>cs[i]?.getD undef) :=
 ⟨cs,h,rfl,fun i hi=>by simp [hi]⟩
def LooseU (B:Nat) (w:World) (u:Value):Prop:=∃ a l c,u=.slice a l c/\l<=35184372087808/\(0<l->∃ b o n f,a=some ⟨b,o,none⟩/\B<=b/\w.rowIs b 21 n f/\o+l<=n/\∀ j,j<l->∃ y,f (o+j)=.int .i32 y)
theorem looseU_of {B:Nat} {Q:Nat->Prop} {w:World} {c:Nat->Option Value} {l:List Int} {u:Value} (h:eUn Q w c l) (hc:c 0=some u) (hl:l.length<=35184372087808) (hQ:∀ q,Q q->B<=q):LooseU B w u:=by
 obtain ⟨A,C,h1,h2,h3,h4,h5⟩:=h
 rw [hc] at h1
 cases h1
 refine ⟨A,l.length,C,rfl,hl,fun h0=>?_⟩
 obtain ⟨b,o,e,hb,⟨hq,hu⟩,-⟩:=h5 0 h0
 obtain ⟨cs,hcs⟩:=hu
 have hat:∀ j (hj:j<l.length),cs[o+j]?=some (.int .i32 l[j]):=fun j hj=>by
  obtain ⟨b',o',e',-,-,he⟩:=h5 j hj
  rw [e] at e'
  cases e'
  have he:w.cell? ⟨b,o+(j*1+0),none⟩=some (.int .i32 l[j]):=he
  rw [show o+(j*1+0)=o+j by omega,cells_at hcs] at he
  exact he
 refine ⟨b,o,cs.size,_,e,hQ _ hq,row_all hcs,?_,fun j hj=>⟨l[j],by rw [hat j hj];rfl⟩⟩
 have:=hat (l.length - 1) (by omega)
 have:=(Array.getElem?_eq_some_iff.1 this).1
 omega
theorem LooseU.set {B:Nat} {w:World} {u:Value} (h:LooseU B w u) (b j:Nat) (y:Int):LooseU B (w.setCell ⟨b,j,none⟩ (.int .i32 y)) u:=by
 obtain ⟨a,l,c,e,hl,hr⟩:=h
 refine ⟨a,l,c,e,hl,fun h0=>?_⟩
 obtain ⟨b',o,n,f,ea,hz,hb,hn,hc⟩:=hr h0
 by_cases hbb:b'=b
 ·subst hbb
  refine ⟨b',o,n,fun i=>if i=j then .int .i32 y else f i,ea,hz,(hb.set j (.int .i32 y)).congr (fun i hi=>rfl),hn,fun i hi=>?_⟩
  by_cases hij:o+i=j
  ·exact ⟨y,if_pos hij⟩
  ·obtain ⟨z,hz⟩:=hc i hi
   exact ⟨z,by show (if o+i=j then _ else f (o+i))=_;rw [if_neg hij];exact hz⟩
 ·exact ⟨b',o,n,f,ea,hz,hb.setOther (by show b' ≠ b;exact hbb) _,hn,hc⟩
theorem LooseU.keep {B:Nat} {w w':World} {u:Value} (h:LooseU B w u) (hb:Below w.heap.size w w'):LooseU B w' u:=by
 obtain ⟨a,l,c,e,hl,hr⟩:=h
 refine ⟨a,l,c,e,hl,fun h0=>?_⟩
 obtain ⟨b',o,n,f,ea,hz,hr,hn,hc⟩:=hr h0
 exact ⟨b',o,n,f,ea,hz,hr.of_block (hb.block _ hr.lt),hn,hc⟩
def RowsU (B:Nat) (w:World) (v:Value) (n:Nat) (xs:List Value):Prop:=w.ownsRow B 74 1 v n xs/\∀ (i:Nat) (u:Value),xs[i]?=some u->LooseU B w u
theorem rows_of_acc {B S:Nat} {K:Nat->Prop} {w:World} {v:Value} {n:Nat} {l:List (List Int)} {xs:List Value} (h:AccQ K S 1 74 eUn w v n l xs) (hK:∀ q,K q->B<=q) (hS:B<=S) (hl:∀ x,x ∈ l->x.length<=35184372087808):RowsU B w v n xs:=by
 obtain ⟨h1,h2,h3,h4⟩:=h
 refine ⟨own_monoB h1 hS,fun i u hu=>?_⟩
 have hi:i<l.length:=by have:=(List.getElem?_eq_some_iff.1 hu).1;omega
 exact looseU_of (h4 i hi (fun j=>xs[i*1+j]?) fun j _=>rfl) (by show xs[i*1+0]?=_;rw [show i*1+0=i by omega];exact hu) (hl _ (List.getElem_mem hi)) fun q hq=>hK q hq.1
theorem TwoU.rows {B:Nat} {w:World} {v1 v2:Value} {n1 n2:Nat} {l1 l2:List (List Int)} {xs ys:List Value} (h:TwoU B w v1 v2 n1 n2 l1 l2 xs ys) (hl:∀ x,x ∈ l1->x.length<=35184372087808):RowsU B w v1 n1 xs:=by
 obtain ⟨K,h1,h2,h3,h4⟩:=h
 exact rows_of_acc h1 (fun q hq=>(h3 q hq).1) (Nat.le_refl _) hl
theorem RowsU.mono {B B':Nat} {w:World} {v:Value} {n:Nat} {xs:List Value} (h:RowsU B w v n xs) (hB:B'<=B):RowsU B' w v n xs :=
 ⟨own_monoB h.1 hB,fun i u hu=>by
  obtain ⟨a,l,c,e,hl,hr⟩:=h.2 i u hu
  refine ⟨a,l,c,e,hl,fun h0=>?_⟩
  obtain ⟨b',o,n,f,ea,hz,hr⟩:=hr h0
  exact ⟨b',o,n,f,ea,by omega,hr⟩⟩
theorem RowsU.keep {B:Nat} {w w':World} {v:Value} {n:Nat} {xs:List Value} (h:RowsU B w v n xs) (hb:Below w.heap.size w w'):RowsU B w' v n xs :=
 ⟨Ca.own_at h.1 fun g hg=>hb.block g (h.1.lt g hg).2,fun i u hu=>(h.2 i u hu).keep hb⟩
theorem RowsU.set {B b:Nat} {w:World} {v:Value} {n:Nat} {xs:List Value} (h:RowsU B w v n xs) (hb:Ty w b 21) (j:Nat) (y:Int):RowsU B (w.setCell ⟨b,j,none⟩ (.int .i32 y)) v n xs :=
 ⟨Ca.own_at h.1 fun g hg=>Below.heap_setCell _ _ _ _ (show g ≠ b from fun e=>by subst e;exact (ty_own h.1 hg).ne hb (by decide) rfl),fun i u hu=>(h.2 i u hu).set b j y⟩
def F4 (B:Nat) (w:World) (bb:Nat) (vec:Nat->Value) (ns:Nat->Nat) (xss:Nat->List Value):Prop:=(w.rowIs bb 42 4 vec/\B<=bb)/\∀ i,i<4->ns i<=100000/\RowsU B w (vec i) (ns i) (xss i)
theorem F4.set {B b bb:Nat} {w:World} {vec:Nat->Value} {ns:Nat->Nat} {xss:Nat->List Value} (h:F4 B w bb vec ns xss) (hb:Ty w b 21) (j:Nat) (y:Int):F4 B (w.setCell ⟨b,j,none⟩ (.int .i32 y)) bb vec ns xss :=
 ⟨⟨h.1.1.setOther (by show bb ≠ b;exact (ty_row h.1.1).ne hb (by decide)) _,h.1.2⟩,fun i hi=>⟨(h.2 i hi).1,(h.2 i hi).2.set hb j y⟩⟩
def vec4 (a b c d:Value):Nat->Value:=fun i=>if i=0 then a else if i=1 then b else if i=2 then c else d
def num4 (a b c d:Nat):Nat->Nat:=fun i=>if i=0 then a else if i=1 then b else if i=2 then c else d
def xss4 (a b c d:List Value):Nat->List Value:=fun i=>if i=0 then a else if i=1 then b else if i=2 then c else d
theorem f4_made {B n1 n2 n3 n4:Nat} {w:World} {v1 v2 v3 v4:Value} {x1 x2 x3 x4:List Value} (h1:RowsU B w v1 n1 x1) (h2:RowsU B w v2 n2 x2) (h3:RowsU B w v3 n3 x3) (h4:RowsU B w v4 n4 x4) (m1:n1<=100000) (m2:n2<=100000) (m3:n3<=100000) (m4:n4<=100000) (hB:B<=w.heap.size) :
 F4 B (w.alloc (.cells #[v1,v2,v3,v4] 42)) w.heap.size (vec4 v1 v2 v3 v4) (num4 n1 n2 n3 n4) (xss4 x1 x2 x3 x4):=by
 have hb:=Rt.box_below w (.cells #[v1,v2,v3,v4] 42)
 refine ⟨⟨World.rowIs_alloc w _ _ _ (fun i hi=>by match i,hi with | 0,_=>rfl | 1,_=>rfl | 2,_=>rfl | 3,_=>rfl),hB⟩,fun i hi=>?_⟩
 match i,hi with
 | 0,_=>exact ⟨m1,h1.keep hb⟩
 | 1,_=>exact ⟨m2,h2.keep hb⟩
 | 2,_=>exact ⟨m3,h3.keep hb⟩
 | 3,_=>exact ⟨m4,h4.keep hb⟩
def BitsU (B:Nat) (w:World) (b nl:Nat):Prop:=B<=b/\∃ n f,w.rowIs b 77 n f/\nl*2<=n/\∀ i,i<nl->∃ y,f (i*2)=.int .i64 y
theorem bitsU_of {B b:Nat} {w:World} {ls:List (Int × Int)} (hu:UnB w b) (hp:Tn.Tr.Ps w (some ⟨b,0,none⟩) ls) (hB:B<=b):BitsU B w b ls.length:=by
 obtain ⟨cs,hcs⟩:=hu
 have hat:∀ i,i<ls.length->cs[i*2]?=some (.int .i64 (Tn.Tr.fst ls i))/\cs[i*2+1]?=some (.int .i64 (Tn.Tr.snd ls i)):=fun i hi=>by
  obtain ⟨b',o',e',q1,q2⟩:=hp i hi
  cases e'
  rw [show 0+i*2=i*2 by omega,cells_at hcs] at q1
  rw [show 0+i*2+1=i*2+1 by omega,cells_at hcs] at q2
  exact ⟨q1,q2⟩
 refine ⟨hB,cs.size,_,row_all hcs,?_,fun i hi=>⟨Tn.Tr.fst ls i,by rw [(hat i hi).1];rfl⟩⟩
 by_cases h0:ls.length=0
 ·omega
 ·have:=(Array.getElem?_eq_some_iff.1 (hat (ls.length - 1) (by omega)).2).1
  omega
theorem BitsU.set {B b nl:Nat} {w:World} (h:BitsU B w b nl) (j:Nat) (y:Int):BitsU B (w.setCell ⟨b,j,none⟩ (.int .i64 y)) b nl:=by
 obtain ⟨hB,n,f,hr,hn,hc⟩:=h
 refine ⟨hB,n,fun i=>if i=j then .int .i64 y else f i,(hr.set j (.int .i64 y)).congr (fun i hi=>rfl),hn,fun i hi=>?_⟩
 by_cases hij:i*2=j
 ·exact ⟨y,if_pos hij⟩
 ·obtain ⟨z,hz⟩:=hc i hi
  exact ⟨z,by show (if i*2=j then _ else f (i*2))=_;rw [if_neg hij];exact hz⟩
theorem BitsU.keep {B b nl:Nat} {w w':World} (h:BitsU B w b nl) (hb:Below w.heap.size w w'):BitsU B w' b nl:=by
 obtain ⟨hB,n,f,hr,hn,hc⟩:=h
 exact ⟨hB,n,f,hr.of_block (hb.block _ hr.lt),hn,hc⟩
end Cc
end Go.Proofs.YtnchnlgnnlgjcaaGreat
namespace Go.Proofs.YtnchnlgnnlgjcaaGreat
open Go.RowKit
namespace Cc
theorem plain_no_c (C g H D G W:Nat) (ls:List (Int × Int)) (t k:Nat) (ly hd:Int) (w:World) (h:Bd w C g H D G W ls t k) (hl:ls.length<=4) (hH:H<=4) (hn:¬ (0<=ly/\ly<ls.length/\0<=hd/\hd<H)) :
 Calls Tryz.prog 30 #[.pointer (some ⟨C,0,none⟩),.int .i64 ly,.int .i64 hd] w fun e w'=>e=.returned (.tuple #[.slice none 0 0,.slice none 0 0])/\Below w.heap.size w w':=by
 have U:Hid (Below w.heap.size w ((w.alloc (.cells #[.slice none 0 0] 42)).alloc (.cells #[.slice none 0 0] 42))):=two_boxes _ _ _
 have HS:=Ca.hid (has_c C g H D G W ls t k ly hd false _ (h.keep U.out) hl hH (decide_eq_false hn))
 clear h hn
 go_enter Tryz.func30,Tryz.ntmps30
 go_wp2_with (go_at_call 67;refine HS.out.mono ?_;rintro e w' ⟨rfl,hww⟩;cases hww.symm;clear hww)
 have y0:((w.alloc (.cells #[.slice none 0 0] 42)).alloc (.cells #[.slice none 0 0] 42)).cell? ⟨w.heap.size,0,none⟩=some (.slice none 0 0):=by
  rw [World.cell?_of_block (a:=⟨w.heap.size,0,none⟩) (Below.heap_alloc _ _ _ (by show w.heap.size<_;simp))]
  exact (World.cell?_alloc_new w _ _ _)
 have y1:((w.alloc (.cells #[.slice none 0 0] 42)).alloc (.cells #[.slice none 0 0] 42)).cell? ⟨w.heap.size+1,0,none⟩=some (.slice none 0 0):=by
  have:=World.cell?_alloc_new (w.alloc (.cells #[.slice none 0 0] 42)) #[.slice none 0 0] 42 0
  rw [World.size_alloc] at this
  exact this
 refine bodyPost_ret (v:=.tuple #[.slice none 0 0,.slice none 0 0]) (by simp [results,Tryz.results30,go_sem,y0,y1]) rfl ⟨rfl,U.out⟩
end Cc
end Go.Proofs.YtnchnlgnnlgjcaaGreat
namespace Go.Proofs.YtnchnlgnnlgjcaaGreat
open Go.RowKit
namespace Cc
set_option maxRecDepth 100000 in
set_option maxHeartbeats 1600000 in
theorem view_no_c (C g H D G W:Nat) (ls:List (Int × Int)) (t k:Nat) (ly hd:Int) (w:World) (h:Bd w C g H D G W ls t k) (hl:ls.length<=4) (hH:H<=4) (hn:¬ (0<=ly/\ly<ls.length/\0<=hd/\hd<H)) :
 Calls Tryz.prog 22 #[.pointer (some ⟨C,0,none⟩),.int .i64 ly,.int .i64 hd] w fun e w'=>e=.returned (.tuple #[.slice none 0 0,.slice none 0 0])/\Below w.heap.size w w':=by
 obtain ⟨i1,hi10,hi11,hi12,hi13⟩:=info_parts Ca.infoRow
 have PN:=Ca.hid (pages_no_c C g H D G W ls t k ly hd w h hl hH hn)
 have QN:=Ca.hid (plain_no_c C g H D G W ls t k ly hd w h hl hH hn)
 clear h hn
 go_enter Tryz.func22,Tryz.ntmps22
 go_wp2_with (go_at_call 24;refine PN.out.mono ?_;rintro e w' ⟨rfl,hww⟩;cases hww.symm;clear hww)
 refine wp_loop_rounds 1 ?_
 rw [rounds_succ]
 go_wp2_with (first
  | (go_at_call 30;refine QN.out.mono ?_;rintro e w2 ⟨rfl,hb⟩;have BL:=Ca.hid hb;clear hb)
  | (at_builtin;refine wpList_append_own_none rfl _ _ _ rfl w.heap.size 74 i1 1 Tryz.underlying42 hi10 _ _ [] (by rfl) ((twoN_nil _ _).own) (by rfl) ?_))
 go_ret2
 exact ⟨rfl,BL.out⟩
end Cc
end Go.Proofs.YtnchnlgnnlgjcaaGreat
