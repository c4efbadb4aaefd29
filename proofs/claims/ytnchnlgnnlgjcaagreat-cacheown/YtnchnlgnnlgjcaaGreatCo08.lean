import Derived.Test.YtnchnlgnnlgjcaaGreatCo01
import Derived.Test.YtnchnlgnnlgjcaaGreatCo07
import Derived.Laws.LoneSync
set_option linter.unusedVariables false
namespace Go.Proofs.YtnchnlgnnlgjcaaGreat
open Go.RowKit
def PgM (w:World) (q:Nat) (m:Int):Prop:=m=(q:Int)/\∃ f,w.rowIs q 176 9 f
theorem PgM.lt {w:World} {q:Nat} {m:Int} (h:PgM w q m):q<w.heap.size:=by
 obtain ⟨_,f,hr⟩:=h
 exact hr.lt
theorem PgM.of_block {w w':World} {q:Nat} {m:Int} (h:PgM w q m) (hb:w'.heap[q]?=w.heap[q]?):PgM w' q m:=by
 obtain ⟨e,f,hr⟩:=h
 exact ⟨e,f,hr.of_block hb⟩
theorem PgM.keep {w w':World} {q:Nat} {m:Int} (h:PgM w q m) (hb:Below w.heap.size w w'):PgM w' q m:=h.of_block (hb.block q h.lt)
theorem PageAt.mark {w:World} {p m0 m1 n d:Nat} {h4 h5 h6:Int} {ks vs:List (Int × Int × List Int)} (h:PageAt w p m0 m1 n d h4 h5 h6 ks vs):PgM w p (p:Int):=by
 obtain ⟨g1,g2,hr,_⟩:=h
 exact ⟨rfl,_,hr⟩
def But2 (g b:Nat) (w w':World):Prop:=Below (min g b) w w'/\∀ j,j<w.heap.size->¬ j=g->¬ j=b->w'.heap[j]?=w.heap[j]?
theorem But2.refl (g b:Nat) (w:World):But2 g b w w:=⟨Below.refl _ _,fun _ _ _ _=>rfl⟩
theorem But2.size {g b:Nat} {w w':World} (h:But2 g b w w'):w.heap.size<=w'.heap.size:=h.1.size
theorem But2.trans {g b:Nat} {w v u:World} (h:But2 g b w v) (k:But2 g b v u):But2 g b w u :=
 ⟨h.1.trans k.1,fun j hj h1 h2=>by rw [k.2 j (Nat.lt_of_lt_of_le hj h.size) h1 h2,h.2 j hj h1 h2]⟩
theorem But2.of_below {g b:Nat} {w v:World} (h:Below w.heap.size w v) (hg:min g b<=w.heap.size):But2 g b w v:=⟨h.mono hg,fun j hj _ _=>h.block j hj⟩
theorem But2.setG {g b:Nat} {w v:World} (h:But2 g b w v) (o:Nat) (y:Value):But2 g b w (v.setCell ⟨g,o,none⟩ y) :=
 ⟨h.1.setCell (p:=⟨g,o,none⟩) (Nat.min_le_left _ _) y,fun j hj h1 h2=>by rw [Below.heap_setCell _ _ _ _ (show j ≠ g from h1),h.2 j hj h1 h2]⟩
theorem But2.setB {g b:Nat} {w v:World} (h:But2 g b w v) (o:Nat) (y:Value):But2 g b w (v.setCell ⟨b,o,none⟩ y) :=
 ⟨h.1.setCell (p:=⟨b,o,none⟩) (Nat.min_le_right _ _) y,fun j hj h1 h2=>by rw [Below.heap_setCell _ _ _ _ (show j ≠ b from h2),h.2 j hj h1 h2]⟩
def Off (g b:Nat) (a:Option Addr):Prop:=∀ x,a=some x->¬ x.block=g/\¬ x.block=b
theorem But2.lst {g b:Nat} {w v:World} (h:But2 g b w v) {k:IntKind} {a:Option Addr} {l:List Int} (hl:Lst k w a l) (hp:Off g b a):Lst k v a l:=fun i hi=>by
 obtain ⟨c,o,e,hc⟩:=hl i hi
 refine ⟨c,o,e,?_⟩
 have:=hp _ e
 rw [World.cell?_of_block (w:=w) (h.2 c (World.block_lt_of_cell? w _ hc) this.1 this.2)]
 exact hc
def poc (b n:Nat) (f:Int) (i:Nat):Value:=if i=0 then .slice (some ⟨b,0,none⟩) n n else .int .i64 f
def slc (P:Nat->Value) (R:List Int) (j:Nat):Value:=if j % 2=0 then P (j / 2) else .int .i64 (Ls.nth R (j / 2))
theorem slc_page (P:Nat->Value) (R:List Int) (k:Nat):slc P R (k*2)=P k:=by unfold slc;rw [if_pos (by omega),show k*2 / 2=k by omega]
theorem slc_refs (P:Nat->Value) (R:List Int) (k:Nat):slc P R (k*2+1)=.int .i64 (Ls.nth R k):=by unfold slc;rw [if_neg (by omega),show (k*2+1) / 2=k by omega]
def PoolAt (w:World) (g b n:Nat) (R M:List Int):Prop :=
 ∃ P,w.rowIs g 99 2 (poc b n (Po.cnt R))/\w.rowIs b 133 (n*2) (slc P R)/\¬ b=g/\R.length=n/\M.length=n/\n<=16384/\(∀ i,0<=Ls.nth R i) /\
   ∀ i,i<n->0<Ls.nth R i->∃ q,P i=.pointer (some ⟨q,0,none⟩)/\¬ q=g/\¬ q=b/\PgM w q (Ls.nth M i)
theorem PoolAt.lt {w:World} {g b n:Nat} {R M:List Int} (h:PoolAt w g b n R M):g<w.heap.size/\b<w.heap.size:=by
 obtain ⟨P,h1,h2,_⟩:=h
 exact ⟨h1.lt,h2.lt⟩
theorem PoolAt.nums {w:World} {g b n:Nat} {R M:List Int} (h:PoolAt w g b n R M):¬ b=g/\R.length=n/\M.length=n/\n<=16384/\∀ i,0<=Ls.nth R i:=by
 obtain ⟨P,_,_,h1,h2,h3,h4,h5,_⟩:=h
 exact ⟨h1,h2,h3,h4,h5⟩
theorem PoolAt.keep {w w':World} {g b n:Nat} {R M:List Int} (h:PoolAt w g b n R M) (hb:Below w.heap.size w w'):PoolAt w' g b n R M:=by
 obtain ⟨P,h1,h2,h3,h4,h5,h6,h7,h8⟩:=h
 refine ⟨P,h1.of_block (hb.block g h1.lt),h2.of_block (hb.block b h2.lt),h3,h4,h5,h6,h7,fun i hi hr=>?_⟩
 obtain ⟨q,e,n1,n2,hq⟩:=h8 i hi hr
 exact ⟨q,e,n1,n2,hq.keep hb⟩
theorem PoolAt.cells {w:World} {g b n:Nat} {R M:List Int} (h:PoolAt w g b n R M) :
 w.cell? ⟨g,0,none⟩=some (.slice (some ⟨b,0,none⟩) n n)/\w.cell? ⟨g,1,none⟩=some (.int .i64 (Po.cnt R))/\w.frozen? ⟨g,1,none⟩=false:=by
 obtain ⟨P,h1,_⟩:=h
 exact ⟨by rw [h1.cell (show 0<2 by decide)];rfl,by rw [h1.cell (show 1<2 by decide)];rfl,h1.frozen 1⟩
theorem PoolAt.slot {w:World} {g b n:Nat} {R M:List Int} (h:PoolAt w g b n R M) {k:Nat} (hk:k<n) :
 (∃ v,w.cell? ⟨b,k*2,none⟩=some v)/\w.cell? ⟨b,k*2+1,none⟩=some (.int .i64 (Ls.nth R k))/\w.frozen? ⟨b,k*2,none⟩=false/\w.frozen? ⟨b,k*2+1,none⟩=false:=by
 obtain ⟨P,_,h2,_⟩:=h
 exact ⟨⟨_,h2.cell (by omega)⟩,by rw [h2.cell (by omega),slc_refs],h2.frozen _,h2.frozen _⟩
theorem PoolAt.page {w:World} {g b n:Nat} {R M:List Int} (h:PoolAt w g b n R M) {k:Nat} (hk:k<n) (hr:0<Ls.nth R k) :
 ∃ q,w.cell? ⟨b,k*2,none⟩=some (.pointer (some ⟨q,0,none⟩))/\¬ q=g/\¬ q=b/\PgM w q (Ls.nth M k):=by
 obtain ⟨P,_,h2,_,_,_,_,_,h8⟩:=h
 obtain ⟨q,e,n1,n2,hq⟩:=h8 k hk hr
 exact ⟨q,by rw [h2.cell (by omega),slc_page,e],n1,n2,hq⟩
theorem poc_set (b n:Nat) (f f':Int) (j:Nat) (hj:j<2):(if j=1 then .int .i64 f' else poc b n f j)=poc b n f' j:=by
 match j,hj with
 | 0,_=>rfl
 | 1,_=>rfl
theorem PoolAt.count {w:World} {g b n:Nat} {R M:List Int} (h:PoolAt w g b n R M) {k:Nat} (hk:k<n) {x:Int} (h0:0<Ls.nth R k) (hx:0<x) :
 PoolAt (w.setCell ⟨b,k*2+1,none⟩ (.int .i64 x)) g b n (R.set k x) M:=by
 obtain ⟨P,h1,h2,h3,h4,h5,h6,h7,h8⟩:=h
 have hkR:k<R.length:=by omega
 have hc:Po.cnt (R.set k x)=Po.cnt R:=by have:=Po.cnt_set hkR x;rw [if_neg (by omega),if_neg (by omega)] at this;omega
 refine ⟨P,?_,(h2.set (k*2+1) _).congr ?_,h3,by simp [h4],h5,h6,?_,?_⟩
 ·rw [hc];exact h1.of_block (Below.heap_setCell _ _ _ _ (show g ≠ b from fun e=>h3 e.symm))
 ·intro j hj
  unfold slc
  by_cases e:j=k*2+1
  ·subst e;rw [if_pos rfl,if_neg (by omega),show (k*2+1) / 2=k by omega,Po.nth_set hkR,if_pos rfl]
  ·rw [if_neg e]
   by_cases e2:j % 2=0
   ·rw [if_pos e2,if_pos e2]
   ·rw [if_neg e2,if_neg e2,Po.nth_set hkR,if_neg (by omega)]
 ·intro i;rw [Po.nth_set hkR];split
  ·omega
  ·exact h7 i
 ·intro i hi hr
  have hr':0<Ls.nth R i:=by
   rw [Po.nth_set hkR] at hr
   by_cases e:i=k
   ·rw [e];exact h0
   ·rw [if_neg e] at hr;exact hr
  obtain ⟨q,e,n1,n2,hq⟩:=h8 i hi hr'
  exact ⟨q,e,n1,n2,hq.of_block (Below.heap_setCell _ _ _ _ n2)⟩
theorem PoolAt.put {w:World} {g b n:Nat} {R M:List Int} (h:PoolAt w g b n R M) {k:Nat} (hk:k<n) (h0:Ls.nth R k=0) {q:Nat} {m:Int} (hq:PgM w q m) (q1:¬ q=g) (q2:¬ q=b) {c:Int} (ec:c=(Po.cnt R:Int) - 1) :
 PoolAt (((w.setCell ⟨b,k*2,none⟩ (.pointer (some ⟨q,0,none⟩))).setCell ⟨b,k*2+1,none⟩ (.int .i64 1)).setCell ⟨g,1,none⟩ (.int .i64 c)) g b n (R.set k 1) (M.set k m):=by
 obtain ⟨P,h1,h2,h3,h4,h5,h6,h7,h8⟩:=h
 have hkR:k<R.length:=by omega
 have hkM:k<M.length:=by omega
 have hc:(Po.cnt (R.set k 1):Int)=c:=by have:=Po.cnt_set hkR 1;rw [if_pos h0,if_neg (by decide)] at this;omega
 have step:∀ j,¬ j=g->¬ j=b->(((w.setCell ⟨b,k*2,none⟩ (.pointer (some ⟨q,0,none⟩))).setCell ⟨b,k*2+1,none⟩ (.int .i64 1)).setCell ⟨g,1,none⟩ (.int .i64 c)).heap[j]?=w.heap[j]?:=fun j n1 n2=>by
  rw [Below.heap_setCell _ _ _ _ (show j ≠ g from n1),Below.heap_setCell _ _ _ _ (show j ≠ b from n2),Below.heap_setCell _ _ _ _ (show j ≠ b from n2)]
 have hg:((w.setCell ⟨b,k*2,none⟩ (.pointer (some ⟨q,0,none⟩))).setCell ⟨b,k*2+1,none⟩ (.int .i64 1)).rowIs g 99 2 (poc b n (Po.cnt R)) :=
  h1.of_block (by rw [Below.heap_setCell _ _ _ _ (show g ≠ b from fun e=>h3 e.symm),Below.heap_setCell _ _ _ _ (show g ≠ b from fun e=>h3 e.symm)])
 refine ⟨fun i=>if i=k then .pointer (some ⟨q,0,none⟩) else P i,?_,?_,h3,by simp [h4],by simp [h5],h6,?_,?_⟩
 ·refine (hg.set 1 (.int .i64 c)).congr fun j hj=>?_
  rw [poc_set _ _ _ _ _ hj,hc]
 ·refine (((h2.set (k*2) _).set (k*2+1) _).congr ?_).of_block (Below.heap_setCell _ _ _ _ (show b ≠ g from h3))
  intro j hj
  unfold slc
  by_cases e:j=k*2+1
  ·subst e;rw [if_pos rfl,if_neg (by omega),show (k*2+1) / 2=k by omega,Po.nth_set hkR,if_pos rfl]
  ·rw [if_neg e]
   by_cases e2:j=k*2
   ·subst e2;rw [if_pos rfl,if_pos (by omega)];exact (if_pos (by omega)).symm
   ·rw [if_neg e2]
    by_cases e3:j % 2=0
    ·rw [if_pos e3,if_pos e3];exact (if_neg (by omega)).symm
    ·rw [if_neg e3,if_neg e3,Po.nth_set hkR,if_neg (by omega)]
 ·intro i;rw [Po.nth_set hkR];split
  ·omega
  ·exact h7 i
 ·intro i hi hr
  rw [Po.nth_set hkR] at hr
  rw [Po.nth_set hkM]
  by_cases e:i=k
  ·rw [if_pos e]
   exact ⟨q,if_pos e,q1,q2,hq.of_block (step q q1 q2)⟩
  ·rw [if_neg e] at hr
   rw [if_neg e]
   obtain ⟨p,e1,n1,n2,hp⟩:=h8 i hi hr
   exact ⟨p,(if_neg e).trans e1,n1,n2,hp.of_block (step p n1 n2)⟩
theorem PoolAt.gone {w:World} {g b n:Nat} {R M:List Int} (h:PoolAt w g b n R M) {k:Nat} (hk:k<n) (h0:Ls.nth R k=1) {c:Int} (ec:c=(Po.cnt R:Int)+1) :
 PoolAt (((w.setCell ⟨b,k*2+1,none⟩ (.int .i64 0)).setCell ⟨b,k*2,none⟩ (.pointer none)).setCell ⟨g,1,none⟩ (.int .i64 c)) g b n (R.set k 0) M:=by
 obtain ⟨P,h1,h2,h3,h4,h5,h6,h7,h8⟩:=h
 have hkR:k<R.length:=by omega
 have hc:(Po.cnt (R.set k 0):Int)=c:=by have:=Po.cnt_set hkR 0;rw [if_neg (by omega),if_pos rfl] at this;omega
 have step:∀ j,¬ j=g->¬ j=b->(((w.setCell ⟨b,k*2+1,none⟩ (.int .i64 0)).setCell ⟨b,k*2,none⟩ (.pointer none)).setCell ⟨g,1,none⟩ (.int .i64 c)).heap[j]?=w.heap[j]?:=fun j n1 n2=>by
  rw [Below.heap_setCell _ _ _ _ (show j ≠ g from n1),Below.heap_setCell _ _ _ _ (show j ≠ b from n2),Below.heap_setCell _ _ _ _ (show j ≠ b from n2)]
 have hg:((w.setCell ⟨b,k*2+1,none⟩ (.int .i64 0)).setCell ⟨b,k*2,none⟩ (.pointer none)).rowIs g 99 2 (poc b n (Po.cnt R)) :=
  h1.of_block (by rw [Below.heap_setCell _ _ _ _ (show g ≠ b from fun e=>h3 e.symm),Below.heap_setCell _ _ _ _ (show g ≠ b from fun e=>h3 e.symm)])
 refine ⟨fun i=>if i=k then .pointer none else P i,?_,?_,h3,by simp [h4],h5,h6,?_,?_⟩
 ·refine (hg.set 1 (.int .i64 c)).congr fun j hj=>?_
  rw [poc_set _ _ _ _ _ hj,hc]
 ·refine (((h2.set (k*2+1) _).set (k*2) _).congr ?_).of_block (Below.heap_setCell _ _ _ _ (show b ≠ g from h3))
  intro j hj
  unfold slc
  by_cases e2:j=k*2
  ·subst e2;rw [if_pos rfl,if_pos (by omega)];exact (if_pos (by omega)).symm
  ·rw [if_neg e2]
   by_cases e:j=k*2+1
   ·subst e;rw [if_pos rfl,if_neg (by omega),show (k*2+1) / 2=k by omega,Po.nth_set hkR,if_pos rfl]
   ·rw [if_neg e]
    by_cases e3:j % 2=0
    ·rw [if_pos e3,if_pos e3];exact (if_neg (by omega)).symm
    ·rw [if_neg e3,if_neg e3,Po.nth_set hkR,if_neg (by omega)]
 ·intro i;rw [Po.nth_set hkR];split
  ·omega
  ·exact h7 i
 ·intro i hi hr
  rw [Po.nth_set hkR] at hr
  by_cases e:i=k
  ·rw [if_pos e] at hr;omega
  ·rw [if_neg e] at hr
   obtain ⟨p,e1,n1,n2,hp⟩:=h8 i hi hr
   exact ⟨p,(if_neg e).trans e1,n1,n2,hp.of_block (step p n1 n2)⟩
theorem PoolAt.made {w:World} {g b n:Nat} {zs:Array Value} (hz:zs=#[.pointer none,.int .i64 0]) (h1:w.rowIs g 99 2 (poc b n n)) (h2:w.rowIs b 133 (n*2) (fun j=>zs[j % zs.size]!)) (h3:¬ b=g) (hn:n<=16384):PoolAt w g b n (Po.zeros n) (Po.zeros n):=by
 subst hz
 refine ⟨fun _=>.pointer none,by rw [Po.cnt_zeros];exact h1,h2.congr ?_,h3,Po.zeros_length n,Po.zeros_length n,hn,fun i=>by rw [Po.nth_zeros];omega,fun i hi hr=>by rw [Po.nth_zeros] at hr;omega⟩
 intro j hj
 unfold slc
 show #[Value.pointer none,.int .i64 0][j % 2]! = _
 have:j % 2=0\/j % 2=1:=by omega
 rcases this with e | e
 ·rw [e];rfl
 ·rw [e,Po.nth_zeros];rfl
end Go.Proofs.YtnchnlgnnlgjcaaGreat
namespace Go.Proofs.YtnchnlgnnlgjcaaGreat
open Go.RowKit
theorem loadA_any (g o:Nat) (x:Int) (w:World) (hc:w.cell? ⟨g,o,none⟩=some (.int .i64 x)) :
 Calls Tryz.prog 76 #[.pointer (some ⟨g,o,none⟩)] w fun e w'=>e=.returned (.int .i64 x)/\w'=w:=by
 have hl:=run_call_load (P:=Tryz.prog) Tryz.func109 (by kernel_rfl) (by kernel_rfl) (by kernel_rfl) .i64 (by kernel_rfl) hc
 go_enter Tryz.func76,Tryz.ntmps76
 go_wp2
 go_ret
 exact ⟨rfl,rfl⟩
theorem storeA_any (g o:Nat) (x y:Int) (w:World) (hc:w.cell? ⟨g,o,none⟩=some (.int .i64 x)) (hf:w.frozen? ⟨g,o,none⟩=false) :
 Calls Tryz.prog 51 #[.pointer (some ⟨g,o,none⟩),.int .i64 y] w fun e w'=>e=.returned (.tuple #[])/\w'=w.setCell ⟨g,o,none⟩ (.int .i64 y):=by
 have hl:=run_call_store (P:=Tryz.prog) (y:=y) (k:=.i64) Tryz.func93 (by kernel_rfl) (by kernel_rfl) (by kernel_rfl) (by kernel_rfl) hc hf
 go_enter Tryz.func51,Tryz.ntmps51
 go_wp2
 go_end0
 exact ⟨rfl,rfl⟩
theorem addA_any (g o:Nat) (x y s:Int) (es:x+y=s) (h1:-9223372036854775808<=s) (h2:s<=9223372036854775807) (w:World) (hc:w.cell? ⟨g,o,none⟩=some (.int .i64 x)) (hf:w.frozen? ⟨g,o,none⟩=false) :
 Calls Tryz.prog 129 #[.pointer (some ⟨g,o,none⟩),.int .i64 y] w fun e w'=>e=.returned (.int .i64 s)/\w'=w.setCell ⟨g,o,none⟩ (.int .i64 s):=by
 have hs:(Op.intArith .add .i64 x y).run Tryz.prog w=.ok (.int .i64 s) w:=by
  simp [go_sem,IntKind.wrap_i64]
  omega
 have hl:=run_call_add (P:=Tryz.prog) Tryz.func145 (by kernel_rfl) (by kernel_rfl) (by kernel_rfl) .i64 (by kernel_rfl) hc hf hs
 go_enter Tryz.func129,Tryz.ntmps129
 go_wp2
 go_ret
 exact ⟨rfl,rfl⟩
theorem Tryz.infoSlot:(Tryz.prog.info? 133).map (fun i=>(i.zero,i.size,i.bytes))=some (some (.agg #[.pointer none,.int .i64 0]),2,16):=by kernel_rfl
theorem newPool_ok (n:Nat) (hn:n<=16384) (w:World) :
 Calls Tryz.prog 17 #[.int .i64 n] w fun e w'=>∃ g b,e=.returned (.tuple #[.pointer (some ⟨g,0,none⟩),.int .i64 0])/\PoolAt w' g b n (Po.zeros n) (Po.zeros n)/\w.heap.size<=g/\w.heap.size<=b/\Below w.heap.size w w':=by
 have hmk:=run_make_rows (P:=Tryz.prog) 92 133 (.agg #[.pointer none,.int .i64 0]) #[.pointer none,.int .i64 0] 2 16 rfl Tryz.underlying92 Tryz.infoSlot .i64 .i64 n (by omega) (by omega)
 go_enter Tryz.func17,Tryz.ntmps17
 go_wp2_with fail
 clear hmk
 obtain ⟨u,hu⟩:∃ u,(w.alloc (.cells (madeCells #[.pointer none,.int .i64 0] (n*2)) 133)).alloc (.cells #[.slice (some ⟨w.heap.size,0,none⟩) n n,.int .i64 0] 99)=u:=⟨_,rfl⟩
 have h1:Hid (u.rowIs (w.heap.size+1) 99 2 (poc w.heap.size n 0)):=by
  have:=World.rowIs_alloc (w.alloc (.cells (madeCells #[.pointer none,.int .i64 0] (n*2)) 133)) #[.slice (some ⟨w.heap.size,0,none⟩) n n,.int .i64 0] 99 (poc w.heap.size n 0) (by
   intro i hi
   match i,hi with
   | 0,_=>rfl
   | 1,_=>rfl)
  rw [hu] at this
  show u.rowIs _ _ _ _
  simpa using this
 have h2:Hid (u.rowIs w.heap.size 133 (n*2) (fun j=>#[Value.pointer none,.int .i64 0][j % 2]!)):=by
  rw [<-hu]
  exact (row_made w #[.pointer none,.int .i64 0] (n*2) 133).of_block (Below.heap_alloc _ _ _ (by simp))
 have h3:Hid (Below w.heap.size w u):=by rw [<-hu];exact two_boxes _ _ _
 rw [hu]
 clear hu
 refine (storeA_any (w.heap.size+1) 1 0 n u (by rw [h1.out.cell (show 1<2 by decide)];rfl) (h1.out.frozen 1)).mono ?_
 rintro e w' ⟨rfl,rfl⟩
 go_wp2
 go_ret2
 refine ⟨w.heap.size+1,w.heap.size,rfl,PoolAt.made rfl ((h1.out.set 1 _).congr fun j hj=>poc_set _ _ _ _ _ hj) (h2.out.of_block (Below.heap_setCell _ _ _ _ (by show w.heap.size ≠ w.heap.size+1;omega))) (by omega) hn,by omega,Nat.le_refl _,h3.out.setCell (p:=⟨w.heap.size+1,1,none⟩) (by show w.heap.size<=w.heap.size+1;omega) _⟩
theorem free_any (g b n c:Nat) (R M:List Int) (w:World) (h:PoolAt w g b n R M) (hc:Po.cnt R=c) :
 Calls Tryz.prog 29 #[.pointer (some ⟨g,0,none⟩)] w fun e w'=>e=.returned (.int .i64 c)/\w'=w:=by
 obtain ⟨_,c1,_⟩:=h.cells
 rw [hc] at c1
 clear h hc
 go_enter Tryz.func29,Tryz.ntmps29
 go_wp2_with (go_at_call 76;refine (loadA_any _ _ _ _ c1).mono ?_;rintro e w' ⟨rfl,hww⟩;cases hww.symm;clear hww)
 go_ret
 exact ⟨rfl,rfl⟩
theorem held_some (g b n k:Nat) (R M:List Int) (w:World) (h:PoolAt w g b n R M) (hk:k<n) (hr:0<Ls.nth R k) :
 Calls Tryz.prog 86 #[.pointer (some ⟨g,0,none⟩),.int .i64 k] w fun e w'=>e=.returned (.pointer (some ⟨b,k*2,none⟩))/\w'=w:=by
 obtain ⟨c0,_,_⟩:=h.cells
 obtain ⟨_,s1,_,_⟩:=h.slot hk
 obtain ⟨_,_,_,hn,_⟩:=h.nums
 obtain ⟨x,ex⟩:∃ x,Ls.nth R k=x:=⟨_,rfl⟩
 rw [ex] at s1 hr
 have z0:(x == 0)=false:=beq_eq_false_iff_ne.2 (by omega)
 clear h ex
 go_enter Tryz.func86,Tryz.ntmps86
 go_wp2_with (go_at_call 76;refine (loadA_any _ _ _ _ s1).mono ?_;rintro e w' ⟨rfl,hww⟩;cases hww.symm;clear hww)
 go_ret
 exact ⟨rfl,rfl⟩
theorem put_ok (g b n k q:Nat) (m:Int) (R M:List Int) (w:World) (h:PoolAt w g b n R M) (hk:k<n) (h0:Ls.nth R k=0) (hl:∀ i,i<k->¬ Ls.nth R i=0) (hq:PgM w q m) (q1:¬ q=g) (q2:¬ q=b) :
 Calls Tryz.prog 126 #[.pointer (some ⟨g,0,none⟩),.pointer (some ⟨q,0,none⟩)] w fun e w'=>e=.returned (.tuple #[.int .i64 k,.int .i64 0])/\PoolAt w' g b n (R.set k 1) (M.set k m)/\But2 g b w w':=by
 obtain ⟨c0,c1,f1⟩:=h.cells
 obtain ⟨nbg,lR,_,hn,hp⟩:=h.nums
 have HP:Hid (PoolAt w g b n R M):=h
 have HL:Hid (∀ i,i<k->¬ Ls.nth R i=0):=hl
 have H0:Hid (Ls.nth R k=0):=h0
 have HQ:Hid (PgM w q m):=hq
 have hcl:Po.cnt R<=n:=by rw [<-lR];exact Po.cnt_le R
 obtain ⟨ct,ect⟩:∃ c,Po.cnt R=c:=⟨_,rfl⟩
 have ECT:Hid (Po.cnt R=ct):=ect
 rw [ect] at c1 hcl
 clear h hl h0 hq hp lR ect
 go_enter Tryz.func126,Tryz.ntmps126
 go_wp2
 go_loop [13] (fun i=>∃ j:Nat,j<=k/\i=.int .i64 j) (fun i=>k - (intOf i).toNat)
 case atStart=>exact ⟨0,Nat.zero_le _,rfl⟩
 case round =>
  obtain ⟨j,hj,rfl⟩:=hrel
  by_cases e:j=k
  ·subst e
   obtain ⟨⟨v0,s0⟩,s1,z0,z1⟩:=HP.out.slot hk
   rw [H0.out] at s1
   have t1:(w.setCell ⟨b,j*2,none⟩ (.pointer (some ⟨q,0,none⟩))).cell? ⟨b,j*2+1,none⟩=some (.int .i64 0):=by rw [World.cell?_setCell_other _ _ _ _ (by simp)];exact s1
   have y1:(w.setCell ⟨b,j*2,none⟩ (.pointer (some ⟨q,0,none⟩))).frozen? ⟨b,j*2+1,none⟩=false:=by simp [z1]
   have t2:((w.setCell ⟨b,j*2,none⟩ (.pointer (some ⟨q,0,none⟩))).setCell ⟨b,j*2+1,none⟩ (.int .i64 1)).cell? ⟨g,1,none⟩=some (.int .i64 ct):=by
    rw [World.cell?_setCell_other _ _ _ _ (by simp),World.cell?_setCell_other _ _ _ _ (by simp)];exact c1
   have y2:((w.setCell ⟨b,j*2,none⟩ (.pointer (some ⟨q,0,none⟩))).setCell ⟨b,j*2+1,none⟩ (.int .i64 1)).frozen? ⟨g,1,none⟩=false:=by simp [f1]
   have hc0:0<ct:=by rw [<-ECT.out];exact Po.cnt_pos (by rw [HP.out.nums.2.1];exact hk) H0.out
   go_wp2_with (first
    | (go_at_call 76;refine (loadA_any _ _ _ _ s1).mono ?_;rintro e w' ⟨rfl,hww⟩;cases hww.symm;clear hww)
    | (go_at_call 51;refine (storeA_any _ _ _ _ _ t1 y1).mono ?_;rintro e w' ⟨rfl,rfl⟩)
    | (go_at_call 129;refine (addA_any _ _ _ _ ((ct:Int) - 1) (by omega) (by omega) (by omega) _ t2 y2).mono ?_;rintro e w' ⟨rfl,rfl⟩))
   go_ret2
   exact ⟨rfl,HP.out.put hk H0.out HQ.out q1 q2 (by rw [ECT.out]),(((But2.refl g b w).setB _ _).setB _ _).setG _ _⟩
  ·have hjk:j<k:=by omega
   obtain ⟨_,s1,_,_⟩:=HP.out.slot (show j<n by omega)
   have nz:=HL.out j hjk
   obtain ⟨x,ex⟩:∃ x,Ls.nth R j=x:=⟨_,rfl⟩
   rw [ex] at s1 nz
   have z0:(x == 0)=false:=beq_eq_false_iff_ne.2 nz
   clear ex
   go_wp2_with (go_at_call 76;refine (loadA_any _ _ _ _ s1).mono ?_;rintro e w' ⟨rfl,hww⟩;cases hww.symm;clear hww)
   go_round
   case rel=>exact ⟨j+1,by omega,by go_num⟩
   case measure=>simp [intOf];omega
theorem hold_some (g b n k:Nat) (x:Int) (R M:List Int) (w:World) (h:PoolAt w g b n R M) (hk:k<n) (ex:Ls.nth R k=x) (hr:0<x) (hx:x<1000000) :
 Calls Tryz.prog 111 #[.pointer (some ⟨g,0,none⟩),.int .i64 k] w fun e w'=>e=.returned (.int .i64 0)/\PoolAt w' g b n (R.set k (x+1)) M/\But2 g b w w':=by
 obtain ⟨_,s1,_,z1⟩:=h.slot hk
 rw [ex] at s1
 have HP:Hid (PoolAt w g b n R M):=h
 have HR:Hid (0<Ls.nth R k):=by show 0<Ls.nth R k;rw [ex];exact hr
 clear h ex
 go_enter Tryz.func111,Tryz.ntmps111
 go_wp2_with (first
  | (go_at_call 86;refine (held_some g b n k R M _ HP.out hk HR.out).mono ?_;rintro e w' ⟨rfl,hww⟩;cases hww.symm;clear hww)
  | (go_at_call 129;refine (addA_any _ _ _ _ (x+1) rfl (by omega) (by omega) _ s1 z1).mono ?_;rintro e w' ⟨rfl,rfl⟩))
 go_ret
 exact ⟨rfl,HP.out.count hk HR.out (by omega),(But2.refl g b w).setB _ _⟩
theorem drop_more (g b n k:Nat) (x:Int) (R M:List Int) (w:World) (h:PoolAt w g b n R M) (hk:k<n) (ex:Ls.nth R k=x) (hr:1<x) (hx:x<1000000) :
 Calls Tryz.prog 105 #[.pointer (some ⟨g,0,none⟩),.int .i64 k] w fun e w'=>e=.returned (.int .i64 0)/\PoolAt w' g b n (R.set k (x - 1)) M/\But2 g b w w':=by
 obtain ⟨_,s1,_,z1⟩:=h.slot hk
 rw [ex] at s1
 have HP:Hid (PoolAt w g b n R M):=h
 have HR:Hid (0<Ls.nth R k):=by show 0<Ls.nth R k;rw [ex];omega
 have z0:(x - 1 == 0)=false:=beq_eq_false_iff_ne.2 (by omega)
 obtain ⟨y,ey⟩:∃ y,x - 1=y:=⟨_,rfl⟩
 rw [ey] at z0 ⊢
 have ey1:x+-1=y:=by omega
 have ey2:0<y/\y<=1000000:=by omega
 clear h ex ey
 go_enter Tryz.func105,Tryz.ntmps105
 go_wp2_with (first
  | (go_at_call 86;refine (held_some g b n k R M _ HP.out hk HR.out).mono ?_;rintro e w' ⟨rfl,hww⟩;cases hww.symm;clear hww)
  | (go_at_call 129;refine (addA_any b (k*2+1) x (-1) y ey1 (by omega) (by omega) _ s1 z1).mono ?_;rintro e w' ⟨rfl,rfl⟩))
 go_ret
 exact ⟨rfl,HP.out.count hk HR.out (by omega),(But2.refl g b w).setB _ _⟩
set_option maxHeartbeats 800000 in
theorem drop_last (g b n k:Nat) (R M:List Int) (w:World) (h:PoolAt w g b n R M) (hk:k<n) (ex:Ls.nth R k=1) :
 Calls Tryz.prog 105 #[.pointer (some ⟨g,0,none⟩),.int .i64 k] w fun e w'=>e=.returned (.int .i64 0)/\PoolAt w' g b n (R.set k 0) M/\But2 g b w w':=by
 obtain ⟨⟨v0,s0⟩,s1,z0,z1⟩:=h.slot hk
 obtain ⟨c0,c1,f1⟩:=h.cells
 obtain ⟨nbg,lR,_,hn,hp⟩:=h.nums
 have hcl:Po.cnt R<=n:=by rw [<-lR];exact Po.cnt_le R
 obtain ⟨ct,ect⟩:∃ c,Po.cnt R=c:=⟨_,rfl⟩
 have ECT:Hid (Po.cnt R=ct):=ect
 rw [ect] at c1 hcl
 rw [ex] at s1
 have HP:Hid (PoolAt w g b n R M):=h
 have EX:Hid (Ls.nth R k=1):=ex
 have HR:Hid (0<Ls.nth R k):=by show 0<Ls.nth R k;rw [ex];decide
 have t0:(w.setCell ⟨b,k*2+1,none⟩ (.int .i64 0)).cell? ⟨b,k*2,none⟩=some v0:=by rw [World.cell?_setCell_other _ _ _ _ (by simp)];exact s0
 have y0:(w.setCell ⟨b,k*2+1,none⟩ (.int .i64 0)).frozen? ⟨b,k*2,none⟩=false:=by simp [z0]
 have t2:((w.setCell ⟨b,k*2+1,none⟩ (.int .i64 0)).setCell ⟨b,k*2,none⟩ (.pointer none)).cell? ⟨g,1,none⟩=some (.int .i64 ct):=by
  rw [World.cell?_setCell_other _ _ _ _ (by simp),World.cell?_setCell_other _ _ _ _ (by simp)];exact c1
 have y2:((w.setCell ⟨b,k*2+1,none⟩ (.int .i64 0)).setCell ⟨b,k*2,none⟩ (.pointer none)).frozen? ⟨g,1,none⟩=false:=by simp [f1]
 clear h ex lR hp ect
 go_enter Tryz.func105,Tryz.ntmps105
 go_wp2_with (go_at_call 86;refine (held_some g b n k R M _ HP.out hk HR.out).mono ?_;rintro e w' ⟨rfl,hww⟩;cases hww.symm;clear hww)
 refine (addA_any b (k*2+1) 1 (-1) 0 (by decide) (by decide) (by decide) w s1 z1).mono ?_
 rintro e w' ⟨rfl,rfl⟩
 go_wp2_with fail
 refine (addA_any g 1 ct 1 ((ct:Int)+1) rfl (by omega) (by omega) _ t2 y2).mono ?_
 rintro e w' ⟨rfl,rfl⟩
 go_wp2
 go_ret
 exact ⟨rfl,HP.out.gone hk EX.out (by rw [ECT.out]),(((But2.refl g b w).setB _ _).setB _ _).setG _ _⟩
end Go.Proofs.YtnchnlgnnlgjcaaGreat
namespace Go.Proofs.YtnchnlgnnlgjcaaGreat
open Go.RowKit
theorem own_none {w:World} {base:Nat} {t:TypeId} {v:Value} {n:Nat} {xs:List Value} {a:Option Addr} {c:Nat} (h:w.ownsRow base t 1 v n xs) (e:v=.slice a n c):a=none->c=0:=by
 intro ea
 rcases h.2 with ⟨e1,_⟩ | ⟨g,cap,cur,e1,hbg,hg,_⟩
 ·rw [e] at e1;cases e1;rfl
 ·rw [e,ea] at e1;cases e1
end Go.Proofs.YtnchnlgnnlgjcaaGreat
namespace Go.Proofs.YtnchnlgnnlgjcaaGreat
open Go.RowKit
attribute [local go_sem ↓] Go.wp_at_zero Go.wp_at_succ
theorem PageAt.cells {w:World} {p m0 m1 n0 d0:Nat} {h4 h5 h6:Int} {ks vs:List (Int × Int × List Int)} (h:PageAt w p m0 m1 n0 d0 h4 h5 h6 ks vs):∃ g1 g2,HdAt w p m0 m1 n0 d0 h4 h5 h6/\w.cell? ⟨p,7,none⟩=some (.slice (some ⟨g1,0,none⟩) d0 d0)/\w.cell? ⟨p,8,none⟩=some (.slice (some ⟨g2,0,none⟩) n0 n0)/\Pks w g1 m0 ks/\Pks w g2 m1 vs:=by
 obtain ⟨g1,g2,hr,hk,hv,_⟩:=h
 exact ⟨g1,g2,⟨hr.cell (i:=0) (by decide),hr.cell (i:=1) (by decide),hr.cell (i:=2) (by decide),hr.cell (i:=3) (by decide),hr.cell (i:=4) (by decide),hr.cell (i:=5) (by decide),hr.cell (i:=6) (by decide)⟩,hr.cell (i:=7) (by decide),hr.cell (i:=8) (by decide),hk,hv⟩
theorem PageAt.page {w:World} {p m0 m1 n0 d0:Nat} {h4 h5 h6:Int} {ks vs:List (Int × Int × List Int)} (h:PageAt w p m0 m1 n0 d0 h4 h5 h6 ks vs):Pg.Page [(m0:Int),m1,n0,d0,h4,h5,h6] ks vs:=by
 obtain ⟨g1,g2,_,_,_,hp⟩:=h
 exact hp
theorem Pg.page_nums {m0 m1 n0 d0:Nat} {h4 h5 h6:Int} {ks vs:List (Int × Int × List Int)} (h:Pg.Page [(m0:Int),m1,n0,d0,h4,h5,h6] ks vs):Pk.Ok m0/\Pk.Ok m1/\1<=n0/\n0<=16/\1<=d0/\d0<=16/\ks.length=d0/\vs.length=n0/\Pg.AllFit m0 n0 ks/\Pg.AllFit m1 d0 vs:=by
 obtain ⟨_,hr,lk,lv,fk,fv,_⟩:=h
 obtain ⟨a,b,c,d,e,f,_⟩:=Pg.rightH_all hr
 have a':(m0:Int)=2\/(m0:Int)=4\/(m0:Int)=8:=a
 have b':(m1:Int)=2\/(m1:Int)=4\/(m1:Int)=8:=b
 have c':(1:Int)<=n0:=c
 have d':(n0:Int)<=16:=d
 have e':(1:Int)<=d0:=e
 have f':(d0:Int)<=16:=f
 have x0:m0=2\/m0=4\/m0=8:=by omega
 have x1:m1=2\/m1=4\/m1=8:=by omega
 exact ⟨x0,x1,by omega,by omega,by omega,by omega,lk,lv,fk,fv⟩
theorem hasP_any (p m0 m1 n0 d0:Nat) (h4 h5 h6:Int) (ks vs:List (Int × Int × List Int)) (t i:Int) (q:Bool) (w:World) (h:PageAt w p m0 m1 n0 d0 h4 h5 h6 ks vs) (hq:((decide (0<=t) && decide (t<=(n0:Int) - 1)) && (decide (0<=i) && decide (i<=(d0:Int) - 1)))=q) :
 Calls Tryz.prog 127 #[.pointer (some ⟨p,0,none⟩),.int .i64 t,.int .i64 i] w fun e w'=>e=.returned (.bool q)/\w'=w:=by
 obtain ⟨k0,k1,b1,b2,b3,b4,_⟩:=Pg.page_nums h.page
 obtain ⟨g1,g2,⟨x0,x1,x2,x3,x4,x5,x6⟩,_⟩:=h.cells
 obtain ⟨p1,e1⟩:∃ p,(decide (0<=t) && decide (t<=(n0:Int) - 1))=p:=⟨_,rfl⟩
 obtain ⟨p2,e2⟩:∃ p,(decide (0<=i) && decide (i<=(d0:Int) - 1))=p:=⟨_,rfl⟩
 rw [e1,e2] at hq
 have E1:Hid ((decide (0<=t) && decide (t<=(n0:Int) - 1))=p1):=e1
 have E2:Hid ((decide (0<=i) && decide (i<=(d0:Int) - 1))=p2):=e2
 have HQ:Hid ((p1 && p2)=q):=hq
 clear h k0 k1 x0 x1 x4 x5 x6 e1 e2 hq
 cases p1
 all_goals
  go_enter Tryz.func127,Tryz.ntmps127
  go_wp2_with (go_at_call 138;(first | (with_reducible refine (within_any t 0 _ _ E1.out _).mono ?_) | (with_reducible refine (within_any i 0 _ _ E2.out _).mono ?_));rintro r w' ⟨rfl,hw⟩;cases hw.symm;clear hw)
  go_ret
  exact ⟨ret_bool (by rw [<-HQ.out];simp),rfl⟩
theorem lane_okm (a:Option Addr) (m c i b:Nat) (cd:List Int) (w:World) (hm:m=Pk.size b cd.length) (h:Pk.Ok b) (hi:i<cd.length) (hl:cd.length<=256) (ha:Lst .u64 w a (Pk.pack b cd)) (hc:Pk.Cds b cd) :
 Calls Tryz.prog 144 #[.slice a m c,.int .i64 i,.int .i64 b] w fun e w'=>e=.returned (.int .i64 (Ls.nth cd i))/\Below w.heap.size w w':=by
 obtain rfl:m=(Pk.pack b cd).length:=by rw [Pk.pack_length,hm]
 refine (lane_ok a c i b (Pk.pack b cd) h (by omega) (by rw [Pk.pack_length];exact Pk.word_size h hi) w ha (Pk.pack_wds h hc)).mono ?_
 rintro e w' ⟨rfl,n,rfl⟩
 exact ⟨by rw [Pk.lane_pack h hc hi],below_drewN (Below.refl _ _) n⟩
theorem Pg.code_bd {b:Nat} {cd:List Int} (h:Pk.Ok b) (hc:Pk.Cds b cd) (i:Nat):0<=Ls.nth cd i/\Ls.nth cd i<=255:=by
 have:=hc i
 have h8:2 ^ b<=256:=by rcases h with rfl | rfl | rfl <;> decide
 omega
set_option maxHeartbeats 800000 in
theorem meant_any (z sc:Int) (a:Option Addr) (m c i b:Nat) (cd:List Int) (w:World) (hm:m=Pk.size b cd.length) (h:Pk.Ok b) (hi:i<cd.length) (hl:cd.length<=256) (ha:Lst .u64 w a (Pk.pack b cd)) (hc:Pk.Cds b cd) (hz1:-2147483648<=z) (hz2:z<=2147483647) (hs1:0<=sc) (hs2:sc<=4294967295) :
 Calls Tryz.prog 128 #[.agg #[.int .i32 z,.int .u32 sc,.slice none 0 0,.slice a m c],.int .i64 i,.int .i64 b] w fun e w'=>e=.returned (.int .i32 (Gp.mean z sc (Ls.nth cd i)))/\Below w.heap.size w w':=by
 have HA:Hid (Lst .u64 w a (Pk.pack b cd)):=ha
 have HM:Hid (m=Pk.size b cd.length):=hm
 have HO:Hid (Pk.Ok b):=h
 have HC:Hid (Pk.Cds b cd):=hc
 have cb:=Pg.code_bd h hc i
 clear ha hm h hc
 go_enter Tryz.func128,Tryz.ntmps128
 go_wp2
 obtain ⟨u,hu⟩:∃ u,w.alloc (.cells #[.int .i32 z,.int .u32 sc,.slice none 0 0,.slice a m c] 180)=u:=⟨_,rfl⟩
 have BU:Hid (Below w.heap.size w u):=by rw [<-hu];exact box_below _ _
 have KS:Hid (∀ w',Below u.heap.size u w'->w'.cell? ⟨w.heap.size,0,none⟩=some (.int .i32 z)/\w'.cell? ⟨w.heap.size,1,none⟩=some (.int .u32 sc)/\w'.cell? ⟨w.heap.size,2,none⟩=some (.slice none 0 0)/\w'.cell? ⟨w.heap.size,3,none⟩=some (.slice a m c)/\Hid (Below u.heap.size u w')):=by
  rw [<-hu]
  exact fun w' hb=>⟨box_cells hb 0 _ rfl,box_cells hb 1 _ rfl,box_cells hb 2 _ rfl,box_cells hb 3 _ rfl,hb⟩
 rw [hu]
 clear hu
 go_region_held3 (fun w'=>w'.cell? ⟨w.heap.size,0,none⟩=some (.int .i32 z)/\w'.cell? ⟨w.heap.size,1,none⟩=some (.int .u32 sc)/\w'.cell? ⟨w.heap.size,2,none⟩=some (.slice none 0 0)/\w'.cell? ⟨w.heap.size,3,none⟩=some (.slice a m c)/\Hid (Below u.heap.size u w'))
  (first
    | exact KS.out _ ((Below.refl u.heap.size u).drew)
    | exact KS.out _ hbd.out
    | exact KS.out _ hbc.out
    | assumption)
  (first
    | (go_at_call 144;refine (lane_okm _ m _ i b cd _ HM.out HO.out hi hl (HA.out.keep (below_then BU.out ((Below.refl u.heap.size u).drew))) HC.out).mono ?_;rintro e v1 ⟨rfl,hb⟩;have hbc:Hid (Below u.heap.size u v1):=((Below.refl u.heap.size u).drew).trans hb;clear hb)
    | (go_at_call 143;refine (one_any _ _ _ _ _ _ hz1 hz2 hs1 hs2 cb.1 cb.2 _).mono ?_;rintro e v2 ⟨rfl,hb⟩;have hbd:Hid (Below u.heap.size u v2):=below_then hbc.out hb;clear hb))
 go_wp2
 go_ret
 exact ⟨rfl,below_then BU.out hbd.out⟩
def Pg.keyAt (ks:List (Int × Int × List Int)) (t i:Nat):Int:=Gp.mean (Pg.gz (Pg.nth ks i)) (Pg.gs (Pg.nth ks i)) (Ls.nth (Pg.gc (Pg.nth ks i)) t)
def Pg.valAt (vs:List (Int × Int × List Int)) (t i:Nat):Int:=Gp.mean (Pg.gz (Pg.nth vs t)) (Pg.gs (Pg.nth vs t)) (Ls.nth (Pg.gc (Pg.nth vs t)) i)
set_option maxHeartbeats 800000 in
theorem keyP_any (p m0 m1 n0 d0:Nat) (h4 h5 h6:Int) (ks vs:List (Int × Int × List Int)) (t i:Nat) (x:Int) (w:World) (h:PageAt w p m0 m1 n0 d0 h4 h5 h6 ks vs) (ht:t<n0) (hi:i<d0) (hx:Pg.keyAt ks t i=x) :
 Calls Tryz.prog 101 #[.pointer (some ⟨p,0,none⟩),.int .i64 t,.int .i64 i] w fun e w'=>e=.returned (.int .i32 x)/\Below w.heap.size w w':=by
 obtain ⟨k0,k1,b1,b2,b3,b4,lk,lv,fk,fv⟩:=Pg.page_nums h.page
 obtain ⟨g1,g2,⟨x0,x1,x2,x3,_,_,_⟩,x7,x8,hk,hv⟩:=h.cells
 have H:Hid (PageAt w p m0 m1 n0 d0 h4 h5 h6 ks vs):=h
 have HX:Hid (Pg.keyAt ks t i=x):=hx
 have HQ:Hid (((decide (0<=(t:Int)) && decide ((t:Int)<=(n0:Int) - 1)) && (decide (0<=(i:Int)) && decide ((i:Int)<=(d0:Int) - 1)))=true):=by
  show _=_
  simp only [Bool.and_eq_true,decide_eq_true_eq]
  omega
 obtain ⟨a',c',y0,y1,y2,y3,y4⟩:=hk i (by omega)
 have F1:=fk i (by omega)
 obtain ⟨f1,f2,f3,f4,f5,f6⟩:=F1
 have KO:Hid (Pk.Ok m0):=k0
 have HL:Hid (Lst .u64 w a' (Pk.pack m0 (Pg.gc (Pg.nth ks i)))):=y4
 have FL:Hid ((Pg.gc (Pg.nth ks i)).length=n0):=f1
 have FC:Hid (Pk.Cds m0 (Pg.gc (Pg.nth ks i))):=f2
 obtain ⟨N,eN⟩:∃ N,Pk.size m0 (Pg.gc (Pg.nth ks i)).length=N:=⟨_,rfl⟩
 have EN:Hid (N=Pk.size m0 (Pg.gc (Pg.nth ks i)).length):=eN.symm
 rw [eN] at y3
 have e0:(0:Int)<=(i:Int):=by omega
 have e1:(i:Int)<(d0:Int):=by omega
 have KS:Hid (∀ w',Below w.heap.size w w'->w'.cell? ⟨p,0,none⟩=some (.int .i64 (m0:Int))/\w'.cell? ⟨p,7,none⟩=some (.slice (some ⟨g1,0,none⟩) d0 d0)/\(w'.cell? ⟨g1,i*4,none⟩=some (.int .i32 (Pg.gz (Pg.nth ks i)))/\w'.cell? ⟨g1,i*4+1,none⟩=some (.int .u32 (Pg.gs (Pg.nth ks i)))/\w'.cell? ⟨g1,i*4+2,none⟩=some (.slice none 0 0)/\w'.cell? ⟨g1,i*4+3,none⟩=some (.slice a' N c'))/\Hid (Below w.heap.size w w')):=fun w' hb =>
  ⟨by rw [hb.cell (p:=⟨p,0,none⟩) (World.block_lt_of_cell? w _ x0)];exact x0,by rw [hb.cell (p:=⟨p,7,none⟩) (World.block_lt_of_cell? w _ x7)];exact x7,⟨by rw [hb.cell (p:=⟨g1,i*4,none⟩) (World.block_lt_of_cell? w _ y0)];exact y0,by rw [hb.cell (p:=⟨g1,i*4+1,none⟩) (World.block_lt_of_cell? w _ y1)];exact y1,by rw [hb.cell (p:=⟨g1,i*4+2,none⟩) (World.block_lt_of_cell? w _ y2)];exact y2,by rw [hb.cell (p:=⟨g1,i*4+3,none⟩) (World.block_lt_of_cell? w _ y3)];exact y3⟩,hb⟩
 clear h hx k0 k1 lk lv fk fv x0 x1 x2 x3 x7 x8 hk hv y0 y1 y2 y3 y4 f1 f2 eN
 go_enter Tryz.func101,Tryz.ntmps101
 go_wp2_with (go_at_call 127;refine (hasP_any p m0 m1 n0 d0 h4 h5 h6 ks vs t i true _ H.out HQ.out).mono ?_;rintro r w' ⟨rfl,hw⟩;cases hw.symm;clear hw)
 go_region_held3 (fun w'=>w'.cell? ⟨p,0,none⟩=some (.int .i64 (m0:Int))/\w'.cell? ⟨p,7,none⟩=some (.slice (some ⟨g1,0,none⟩) d0 d0)/\(w'.cell? ⟨g1,i*4,none⟩=some (.int .i32 (Pg.gz (Pg.nth ks i)))/\w'.cell? ⟨g1,i*4+1,none⟩=some (.int .u32 (Pg.gs (Pg.nth ks i)))/\w'.cell? ⟨g1,i*4+2,none⟩=some (.slice none 0 0)/\w'.cell? ⟨g1,i*4+3,none⟩=some (.slice a' N c'))/\Hid (Below w.heap.size w w'))
  (first
    | exact KS.out _ ((Below.refl w.heap.size w).drew)
    | exact KS.out _ hbc.out
    | assumption)
  (first
    | (go_at_call 128;refine (meant_any _ _ _ N _ t m0 (Pg.gc (Pg.nth ks i)) _ EN.out KO.out (by rw [FL.out];omega) (by rw [FL.out];omega) (HL.out.keep ((Below.refl w.heap.size w).drew)) FC.out f3 f4 f5 f6).mono ?_;rintro e v ⟨rfl,hb⟩;have hbc:Hid (Below w.heap.size w v):=((Below.refl w.heap.size w).drew).trans hb;clear hb))
 go_wp2
 go_ret
 exact ⟨ret_num HX.out,hbc.out⟩
set_option maxHeartbeats 800000 in
theorem valueP_any (p m0 m1 n0 d0:Nat) (h4 h5 h6:Int) (ks vs:List (Int × Int × List Int)) (t i:Nat) (x:Int) (w:World) (h:PageAt w p m0 m1 n0 d0 h4 h5 h6 ks vs) (ht:t<n0) (hi:i<d0) (hx:Pg.valAt vs t i=x) :
 Calls Tryz.prog 102 #[.pointer (some ⟨p,0,none⟩),.int .i64 t,.int .i64 i] w fun e w'=>e=.returned (.int .i32 x)/\Below w.heap.size w w':=by
 obtain ⟨k0,k1,b1,b2,b3,b4,lk,lv,fk,fv⟩:=Pg.page_nums h.page
 obtain ⟨g1,g2,⟨x0,x1,x2,x3,_,_,_⟩,x7,x8,hk,hv⟩:=h.cells
 have H:Hid (PageAt w p m0 m1 n0 d0 h4 h5 h6 ks vs):=h
 have HX:Hid (Pg.valAt vs t i=x):=hx
 have HQ:Hid (((decide (0<=(t:Int)) && decide ((t:Int)<=(n0:Int) - 1)) && (decide (0<=(i:Int)) && decide ((i:Int)<=(d0:Int) - 1)))=true):=by
  show _=_
  simp only [Bool.and_eq_true,decide_eq_true_eq]
  omega
 obtain ⟨a',c',y0,y1,y2,y3,y4⟩:=hv t (by omega)
 have F1:=fv t (by omega)
 obtain ⟨f1,f2,f3,f4,f5,f6⟩:=F1
 have KO:Hid (Pk.Ok m1):=k1
 have HL:Hid (Lst .u64 w a' (Pk.pack m1 (Pg.gc (Pg.nth vs t)))):=y4
 have FL:Hid ((Pg.gc (Pg.nth vs t)).length=d0):=f1
 have FC:Hid (Pk.Cds m1 (Pg.gc (Pg.nth vs t))):=f2
 obtain ⟨N,eN⟩:∃ N,Pk.size m1 (Pg.gc (Pg.nth vs t)).length=N:=⟨_,rfl⟩
 have EN:Hid (N=Pk.size m1 (Pg.gc (Pg.nth vs t)).length):=eN.symm
 rw [eN] at y3
 have e0:(0:Int)<=(t:Int):=by omega
 have e1:(t:Int)<(n0:Int):=by omega
 have KS:Hid (∀ w',Below w.heap.size w w'->w'.cell? ⟨p,1,none⟩=some (.int .i64 (m1:Int))/\w'.cell? ⟨p,8,none⟩=some (.slice (some ⟨g2,0,none⟩) n0 n0)/\(w'.cell? ⟨g2,t*4,none⟩=some (.int .i32 (Pg.gz (Pg.nth vs t)))/\w'.cell? ⟨g2,t*4+1,none⟩=some (.int .u32 (Pg.gs (Pg.nth vs t)))/\w'.cell? ⟨g2,t*4+2,none⟩=some (.slice none 0 0)/\w'.cell? ⟨g2,t*4+3,none⟩=some (.slice a' N c'))/\Hid (Below w.heap.size w w')):=fun w' hb =>
  ⟨by rw [hb.cell (p:=⟨p,1,none⟩) (World.block_lt_of_cell? w _ x1)];exact x1,by rw [hb.cell (p:=⟨p,8,none⟩) (World.block_lt_of_cell? w _ x8)];exact x8,⟨by rw [hb.cell (p:=⟨g2,t*4,none⟩) (World.block_lt_of_cell? w _ y0)];exact y0,by rw [hb.cell (p:=⟨g2,t*4+1,none⟩) (World.block_lt_of_cell? w _ y1)];exact y1,by rw [hb.cell (p:=⟨g2,t*4+2,none⟩) (World.block_lt_of_cell? w _ y2)];exact y2,by rw [hb.cell (p:=⟨g2,t*4+3,none⟩) (World.block_lt_of_cell? w _ y3)];exact y3⟩,hb⟩
 clear h hx k0 k1 lk lv fk fv x0 x1 x2 x3 x7 x8 hk hv y0 y1 y2 y3 y4 f1 f2 eN
 go_enter Tryz.func102,Tryz.ntmps102
 go_wp2_with (go_at_call 127;refine (hasP_any p m0 m1 n0 d0 h4 h5 h6 ks vs t i true _ H.out HQ.out).mono ?_;rintro r w' ⟨rfl,hw⟩;cases hw.symm;clear hw)
 go_region_held3 (fun w'=>w'.cell? ⟨p,1,none⟩=some (.int .i64 (m1:Int))/\w'.cell? ⟨p,8,none⟩=some (.slice (some ⟨g2,0,none⟩) n0 n0)/\(w'.cell? ⟨g2,t*4,none⟩=some (.int .i32 (Pg.gz (Pg.nth vs t)))/\w'.cell? ⟨g2,t*4+1,none⟩=some (.int .u32 (Pg.gs (Pg.nth vs t)))/\w'.cell? ⟨g2,t*4+2,none⟩=some (.slice none 0 0)/\w'.cell? ⟨g2,t*4+3,none⟩=some (.slice a' N c'))/\Hid (Below w.heap.size w w'))
  (first
    | exact KS.out _ ((Below.refl w.heap.size w).drew)
    | exact KS.out _ hbc.out
    | assumption)
  (first
    | (go_at_call 128;refine (meant_any _ _ _ N _ i m1 (Pg.gc (Pg.nth vs t)) _ EN.out KO.out (by rw [FL.out];omega) (by rw [FL.out];omega) (HL.out.keep ((Below.refl w.heap.size w).drew)) FC.out f3 f4 f5 f6).mono ?_;rintro e v ⟨rfl,hb⟩;have hbc:Hid (Below w.heap.size w v):=((Below.refl w.heap.size w).drew).trans hb;clear hb))
 go_wp2
 go_ret
 exact ⟨ret_num HX.out,hbc.out⟩
end Go.Proofs.YtnchnlgnnlgjcaaGreat
