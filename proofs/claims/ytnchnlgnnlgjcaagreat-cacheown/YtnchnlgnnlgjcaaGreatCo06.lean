import Derived.Test.YtnchnlgnnlgjcaaGreatCo05
import Derived.Test.YtnchnlgnnlgjcaaGreatCo02
import Derived.Deep.RegionLaw
import Derived.Deep.RegionLawGrows
set_option linter.unusedVariables false
namespace Go.Proofs.YtnchnlgnnlgjcaaGreat
open Go.RowKit
attribute [local go_sem ↓] Go.wp_at_zero Go.wp_at_succ
def Pg.key (ks:List (Int × Int × List Int)) (t:Nat):List Int:=Ls.gen ks.length fun i=>Gp.mean (Pg.gz (Pg.nth ks i)) (Pg.gs (Pg.nth ks i)) (Ls.nth (Pg.gc (Pg.nth ks i)) t)
theorem Pg.key_length (ks:List (Int × Int × List Int)) (t:Nat):(Pg.key ks t).length=ks.length:=Ls.gen_length _ _
def Pg.Deep (n:Nat) (l:List (Int × Int × List Int)):Prop:=∀ i,i<l.length->(Pg.gc (Pg.nth l i)).length=n/\Gp.fits 255 (Pg.gc (Pg.nth l i))=true/\-2147483648<=Pg.gz (Pg.nth l i)/\Pg.gz (Pg.nth l i)<=2147483647/\0<=Pg.gs (Pg.nth l i)/\Pg.gs (Pg.nth l i)<=4294967295
theorem Pg.deep_of {b n:Nat} {l:List (Int × Int × List Int)} (hb:b=2\/b=4\/b=8) (h:Pg.AllFit b n l):Pg.Deep n l:=fun i hi=>by
 obtain ⟨h1,h2,h3,h4,h5,h6⟩:=h i hi
 refine ⟨h1,Gp.fits_yes fun j hj=>?_,h3,h4,h5,h6⟩
 have:=h2 j
 have hp:2 ^ b<=256:=by rcases hb with rfl | rfl | rfl <;> decide
 omega
end Go.Proofs.YtnchnlgnnlgjcaaGreat
namespace Go.Proofs.YtnchnlgnnlgjcaaGreat
open Go.RowKit
attribute [local go_sem ↓] Go.wp_at_zero Go.wp_at_succ
def Pg.shapedB (ls:List (List Int)) (n d:Int):Bool:=decide ((∀ i,i<ls.length->((Tb.row ls i).length:Int)=d)/\(ls.length:Int)=n)
end Go.Proofs.YtnchnlgnnlgjcaaGreat
namespace Go.Proofs.YtnchnlgnnlgjcaaGreat
open Go.RowKit
attribute [local go_sem ↓] Go.wp_at_zero Go.wp_at_succ
def pcell (H:Array Value) (v7 v8:Value) (i:Nat):Value:=if i=7 then v7 else if i=8 then v8 else H.getD i undef
theorem pcell_set7 (H:Array Value) (v7 v8 v:Value) (j:Nat):(if j=7 then v else pcell H v7 v8 j)=pcell H v v8 j:=by
 unfold pcell
 by_cases e:j=7
 ·rw [if_pos e,if_pos e]
 ·rw [if_neg e,if_neg e,if_neg e]
theorem pcell_set8 (H:Array Value) (v7 v8 v:Value) (j:Nat):(if j=8 then v else pcell H v7 v8 j)=pcell H v7 v j:=by
 unfold pcell
 by_cases e:j=8
 ·rw [if_pos e,if_neg (by omega),if_pos e]
 ·simp [e]
theorem Pg.own3 {w:World} {base:Nat} {t:TypeId} {v:Value} {n:Nat} {xs:List Value} (h:w.ownsRow base t 3 v n xs):∃ a c,v=.slice a n c:=by
 rcases h.2 with ⟨e,hn⟩ | ⟨g,cap,cur,e,_⟩
 ·exact ⟨none,0,by rw [e,hn]⟩
 ·exact ⟨_,_,e⟩
theorem own3_at {w w':World} {base:Nat} {t:TypeId} {v:Value} {n:Nat} {xs:List Value} (h:w.ownsRow base t 3 v n xs) (hb:∀ g,v.ownBlock=some g->w'.heap[g]?=w.heap[g]?):w'.ownsRow base t 3 v n xs:=by
 refine ⟨h.1,?_⟩
 rcases h.2 with h0 | ⟨g,cap,cur,e,h1,h2,h3⟩
 ·exact Or.inl h0
 ·refine Or.inr ⟨g,cap,cur,e,h1,?_,h3⟩
  subst e
  rw [hb g rfl]
  exact h2
theorem own3_below {w w':World} {base:Nat} {t:TypeId} {v:Value} {n:Nat} {xs:List Value} (h:w.ownsRow base t 3 v n xs) (hb:Below w.heap.size w w'):w'.ownsRow base t 3 v n xs :=
 own3_at h fun g hg=>hb.block g (h.lt g hg).2
theorem own3_set {w:World} {base:Nat} {t:TypeId} {v:Value} {n:Nat} {xs:List Value} (h:w.ownsRow base t 3 v n xs) {p:Addr} (hp:p.block<base) (y:Value):(w.setCell p y).ownsRow base t 3 v n xs :=
 own3_at h fun g hg=>Go.Deep.blk_setCell_other _ _ _ _ (by have:=(h.lt g hg).1;omega)
theorem refOf_anym (a:Option Addr) (n cp b s:Nat) (l:List Int) (w:World) (hn:n=l.length) (ha:Lst .i32 w a l) (hx:Ls.In32 l) (hst:Gp.St b s) (h0:0<n) (hl:n<=256) (z sc:Int) (ez:Gp.low l=z) (es:Gp.scale s l=sc) :
 Calls Tryz.prog 131 #[.slice a n cp,.int .i64 b] w fun e w'=>∃ a' c',e=.returned (.agg #[.int .i32 z,.int .u32 sc,.slice a' n c']) /\
  Lst .i64 w' a' (Gp.codes z sc l)/\Below w.heap.size w w'/\∀ x,a'=some x->w.heap.size<=x.block:=by
 subst hn
 exact refOf_new a cp b s l w ha hx hst h0 hl z sc ez es
theorem Lst.grown {k:IntKind} {w w':World} {a:Option Addr} {l:List Int} {row:Option Nat} (h:Lst k w a l) (hg:w.grownBy w' row) (ne:∀ x,a=some x->some x.block ≠ row):Lst k w' a l:=fun i hi=>by
 obtain ⟨b,o,e,hc⟩:=h i hi
 refine ⟨b,o,e,?_⟩
 rw [hg.cell_far ⟨b,o+i,none⟩ (World.block_lt_of_cell? w _ hc) (ne ⟨b,o,none⟩ e)]
 exact hc
theorem Lst.set_otherP {k:IntKind} {w:World} {a:Option Addr} {l:List Int} (h:Lst k w a l) {p:Addr} (hp:∀ x,a=some x->¬ x.block=p.block) (v:Value):Lst k (w.setCell p v) a l:=fun i hi=>by
 obtain ⟨b,o,e,hc⟩:=h i hi
 refine ⟨b,o,e,?_⟩
 rw [World.cell?_of_block (Go.Deep.blk_setCell_other w p v b (hp ⟨b,o,none⟩ e))]
 exact hc
def Keeps (u w':World) (P:Nat):Prop:=u.heap.size<=w'.heap.size/\∀ g,g<u.heap.size->¬ g=P->w'.heap[g]?=u.heap[g]?
theorem Keeps.refl (u:World) (P:Nat):Keeps u u P:=⟨Nat.le_refl _,fun _ _ _=>rfl⟩
theorem Keeps.below {u v w':World} {P:Nat} (h:Keeps u v P) (hb:Below v.heap.size v w'):Keeps u w' P:=⟨Nat.le_trans h.1 hb.size,fun g hg hp=>by have:=h.1;rw [hb.block g (by omega),h.2 g hg hp]⟩
theorem Keeps.set {u v:World} {P:Nat} (h:Keeps u v P) (o:Nat) (y:Value):Keeps u (v.setCell ⟨P,o,none⟩ y) P:=⟨by rw [Go.Deep.nblk_setCell];exact h.1,fun g hg hp=>by rw [Go.Deep.blk_setCell_other v ⟨P,o,none⟩ y g hp,h.2 g hg hp]⟩
theorem Keeps.grown {u v w':World} {P:Nat} {row:Option Nat} (h:Keeps u v P) (hg:v.grownBy w' row) (hr:∀ g,row=some g->u.heap.size<=g):Keeps u w' P:=⟨Nat.le_trans h.1 hg.size,fun g hlt hp=>by
 have:=h.1
 rw [hg.block g (by omega) (fun e=>by have:=hr g e.symm;omega),h.2 g hlt hp]⟩
theorem Keeps.lst {u w':World} {P:Nat} {k:IntKind} {a:Option Addr} {l:List Int} (h:Keeps u w' P) (hl:Lst k u a l) (hp:∀ x,a=some x->¬ x.block=P):Lst k w' a l:=fun i hi=>by
 obtain ⟨b,o,e,hc⟩:=hl i hi
 refine ⟨b,o,e,?_⟩
 rw [World.cell?_of_block (h.2 b (World.block_lt_of_cell? u _ hc) (hp ⟨b,o,none⟩ e))]
 exact hc
theorem gflat_snoc {l:List (Int × Int × List Int)} {A:Nat->Option Addr} {C:Nat->Nat} {k n:Nat} {z sc:Int} {cd:List Int} {a9:Option Addr} {c9:Nat} (e:Pg.nth l k=(z,sc,cd)) (hn:cd.length=n) :
 gflat l (fun j=>if j=k then a9 else A j) (fun j=>if j=k then c9 else C j) (k+1)=gflat l A C k ++ [.int .i32 z,.int .u32 sc,.slice a9 n c9]:=by
 simp only [gflat]
 rw [gflat_congr (m:=l) (B:=A) (D:=C) k (fun i hi=>⟨rfl,if_neg (by omega),if_neg (by omega)⟩),e,if_pos trivial,if_pos trivial]
 rw [show (Pg.gc (z,sc,cd)).length=n from hn]
 rfl
end Go.Proofs.YtnchnlgnnlgjcaaGreat
namespace Go.Proofs.YtnchnlgnnlgjcaaGreat
open Go.RowKit
theorem run_make_rows {P:Program} (t e:TypeId) (z:Value) (zs:Array Value) (m bytes:Nat) (hzs:z.cells=zs) (ht:P.underlying t=some (.slice e)) (hinfo:(P.info? e).map (fun i=>(i.zero,i.size,i.bytes))=some (some z,m,bytes)) (kl kc:IntKind) (n:Nat) (hb:bytes*n<=281474976710656) (h63:n<=9223372036854775807) :
 ∀ w:World,(Instr.makeSlice t (.int kl (n:Int)) (.int kc (n:Int))).run P w=.ok (.slice (some ⟨w.heap.size,0,none⟩) n n) (w.alloc (.cells (madeCells zs (n*m)) e)):=by
 subst hzs
 obtain ⟨i,hi,h1,h2,h3⟩:=info_parts hinfo
 intro w
 have hb':(i.bytes:Int)*(n:Int)<=281474976710656:=by
  rw [h3]
  have h:((bytes*n:Nat):Int)<=281474976710656:=by omega
  rwa [Int.natCast_mul] at h
 have hr:=run_make (P:=P) w t e i z ht hi h1 kl kc n n (by omega) (Int.le_refl _) hb' (by omega)
 simp only [Int.toNat_natCast] at hr
 rw [hr,h2]
theorem row_made (w:World) (zs:Array Value) (N:Nat) (t:TypeId):(w.alloc (.cells (madeCells zs N) t)).rowIs w.heap.size t N (fun j=>zs[j % zs.size]!) :=
 ⟨_,heap_alloc_new _ _,size_madeCells _ _,fun i hi=>by simp [madeCells,hi]⟩
theorem row_keep {w w':World} {g:Nat} {t:TypeId} {N:Nat} {f:Nat->Value} (h:w.rowIs g t N f) (hb:Below w.heap.size w w'):w'.rowIs g t N f:=World.rowIs.of_block h (hb.block g h.lt)
def GRow (w:World) (g:Nat) (t:TypeId) (N:Nat) (l:List (Int × Int × List Int)) (k:Nat):Prop :=
 ∃ f,w.rowIs g t N f/\∀ i,i<k->∃ a c,f (i*3)=.int .i32 (Pg.gz (Pg.nth l i))/\f (i*3+1)=.int .u32 (Pg.gs (Pg.nth l i))/\f (i*3+2)=.slice a (Pg.gc (Pg.nth l i)).length c/\Lst .i64 w a (Pg.gc (Pg.nth l i))/\∀ x,a=some x->g<x.block
theorem GRow.made (w:World) (zs:Array Value) (N:Nat) (t:TypeId) (l:List (Int × Int × List Int)):GRow (w.alloc (.cells (madeCells zs N) t)) w.heap.size t N l 0:=⟨_,row_made w zs N t,fun i hi=>by omega⟩
theorem GRow.keep {w w':World} {g:Nat} {t:TypeId} {N:Nat} {l:List (Int × Int × List Int)} {k:Nat} (h:GRow w g t N l k) (hb:Below w.heap.size w w'):GRow w' g t N l k:=by
 obtain ⟨f,hr,hc⟩:=h
 refine ⟨f,row_keep hr hb,fun i hi=>?_⟩
 obtain ⟨a,c,h0,h1,h2,h3,h4⟩:=hc i hi
 exact ⟨a,c,h0,h1,h2,h3.keep hb,h4⟩
theorem GRow.lt {w:World} {g:Nat} {t:TypeId} {N:Nat} {l:List (Int × Int × List Int)} {k:Nat} (h:GRow w g t N l k):g<w.heap.size:=by
 obtain ⟨f,hr,_⟩:=h
 exact hr.lt
theorem GRow.room {w:World} {g:Nat} {t:TypeId} {N:Nat} {l:List (Int × Int × List Int)} {k:Nat} (h:GRow w g t N l k):∃ f,w.rowIs g t N f:=by
 obtain ⟨f,hr,_⟩:=h
 exact ⟨f,hr⟩
theorem GRow.step {w:World} {g:Nat} {t:TypeId} {N:Nat} {l:List (Int × Int × List Int)} {k:Nat} (h:GRow w g t N l k) {a:Option Addr} {c n:Nat} {z sc:Int} (ez:Pg.gz (Pg.nth l k)=z) (es:Pg.gs (Pg.nth l k)=sc) (en:(Pg.gc (Pg.nth l k)).length=n) (hl:Lst .i64 w a (Pg.gc (Pg.nth l k))) (hx:∀ x,a=some x->g<x.block) :
 GRow (((w.setCell ⟨g,k*3,none⟩ (.int .i32 z)).setCell ⟨g,k*3+1,none⟩ (.int .u32 sc)).setCell ⟨g,k*3+2,none⟩ (.slice a n c)) g t N l (k+1):=by
 obtain ⟨f,hr,hc⟩:=h
 have other:∀ (b:Option Addr) (m:List Int),Lst .i64 w b m->(∀ x,b=some x->g<x.block)->Lst .i64 (((w.setCell ⟨g,k*3,none⟩ (.int .i32 z)).setCell ⟨g,k*3+1,none⟩ (.int .u32 sc)).setCell ⟨g,k*3+2,none⟩ (.slice a n c)) b m:=fun b m hb hg =>
  ((hb.set_otherP (p:=⟨g,k*3,none⟩) (fun x e=>by have:=hg x e;show ¬ x.block=g;omega) _).set_otherP (p:=⟨g,k*3+1,none⟩) (fun x e=>by have:=hg x e;show ¬ x.block=g;omega) _).set_otherP (p:=⟨g,k*3+2,none⟩) (fun x e=>by have:=hg x e;show ¬ x.block=g;omega) _
 refine ⟨_,((hr.set (k*3) _).set (k*3+1) _).set (k*3+2) _,fun i hi=>?_⟩
 by_cases e:i=k
 ·subst e
  refine ⟨a,c,?_,?_,?_,other a _ hl hx,hx⟩
  ·rw [if_neg (by omega),if_neg (by omega),if_pos rfl,ez]
  ·rw [if_neg (by omega),if_pos rfl,es]
  ·rw [if_pos rfl,en]
 ·obtain ⟨a',c',h0,h1,h2,h3,h4⟩:=hc i (by omega)
  refine ⟨a',c',?_,?_,?_,other a' _ h3 h4,h4⟩
  ·rw [if_neg (by omega),if_neg (by omega),if_neg (by omega),h0]
  ·rw [if_neg (by omega),if_neg (by omega),if_neg (by omega),h1]
  ·rw [if_neg (by omega),if_neg (by omega),if_neg (by omega),h2]
theorem GRow.gps {w:World} {g:Nat} {t:TypeId} {N:Nat} {l:List (Int × Int × List Int)} (h:GRow w g t N l l.length) (hN:N=l.length*3):Gps w (some ⟨g,0,none⟩) l:=by
 obtain ⟨f,hr,hc⟩:=h
 intro i hi
 obtain ⟨a,c,h0,h1,h2,h3,_⟩:=hc i hi
 refine ⟨g,0,a,c,rfl,?_,?_,?_,h3⟩
 ·rw [Nat.zero_add,hr.cell (by omega),h0]
 ·rw [Nat.zero_add,hr.cell (by omega),h1]
 ·rw [Nat.zero_add,hr.cell (by omega),h2]
def PkAt (w:World) (g i b:Nat) (x:Int × Int × List Int) (a:Option Addr) (c:Nat):Prop :=
 w.cell? ⟨g,i*4,none⟩=some (.int .i32 (Pg.gz x))/\w.cell? ⟨g,i*4+1,none⟩=some (.int .u32 (Pg.gs x))/\w.cell? ⟨g,i*4+2,none⟩=some (.slice none 0 0)/\w.cell? ⟨g,i*4+3,none⟩=some (.slice a (Pk.size b (Pg.gc x).length) c)/\Lst .u64 w a (Pk.pack b (Pg.gc x))
def Pks (w:World) (g b:Nat) (l:List (Int × Int × List Int)):Prop:=∀ i,i<l.length->∃ a c,PkAt w g i b (Pg.nth l i) a c
theorem PkAt.keep {w w':World} {g i b:Nat} {x:Int × Int × List Int} {a:Option Addr} {c:Nat} (h:PkAt w g i b x a c) (hb:Below w.heap.size w w'):PkAt w' g i b x a c:=by
 obtain ⟨h0,h1,h2,h3,h4⟩:=h
 refine ⟨?_,?_,?_,?_,h4.keep hb⟩
 ·rw [hb.cell (p:=⟨g,i*4,none⟩) (World.block_lt_of_cell? w _ h0)];exact h0
 ·rw [hb.cell (p:=⟨g,i*4+1,none⟩) (World.block_lt_of_cell? w _ h1)];exact h1
 ·rw [hb.cell (p:=⟨g,i*4+2,none⟩) (World.block_lt_of_cell? w _ h2)];exact h2
 ·rw [hb.cell (p:=⟨g,i*4+3,none⟩) (World.block_lt_of_cell? w _ h3)];exact h3
theorem Pks.keep {w w':World} {g b:Nat} {l:List (Int × Int × List Int)} (h:Pks w g b l) (hb:Below w.heap.size w w'):Pks w' g b l:=fun i hi=>by
 obtain ⟨a,c,h'⟩:=h i hi
 exact ⟨a,c,h'.keep hb⟩
def PRow (w:World) (g:Nat) (t:TypeId) (N b:Nat) (l:List (Int × Int × List Int)) (k:Nat):Prop :=
 ∃ f,w.rowIs g t N f/\∀ i,i<k->∃ a c,f (i*4)=.int .i32 (Pg.gz (Pg.nth l i))/\f (i*4+1)=.int .u32 (Pg.gs (Pg.nth l i))/\f (i*4+2)=.slice none 0 0/\f (i*4+3)=.slice a (Pk.size b (Pg.gc (Pg.nth l i)).length) c/\Lst .u64 w a (Pk.pack b (Pg.gc (Pg.nth l i)))/\∀ x,a=some x->g<x.block
theorem PRow.made (w:World) (zs:Array Value) (N b:Nat) (t:TypeId) (l:List (Int × Int × List Int)):PRow (w.alloc (.cells (madeCells zs N) t)) w.heap.size t N b l 0:=⟨_,row_made w zs N t,fun i hi=>by omega⟩
theorem PRow.keep {w w':World} {g:Nat} {t:TypeId} {N b:Nat} {l:List (Int × Int × List Int)} {k:Nat} (h:PRow w g t N b l k) (hb:Below w.heap.size w w'):PRow w' g t N b l k:=by
 obtain ⟨f,hr,hc⟩:=h
 refine ⟨f,row_keep hr hb,fun i hi=>?_⟩
 obtain ⟨a,c,h0,h1,h2,h3,h4,h5⟩:=hc i hi
 exact ⟨a,c,h0,h1,h2,h3,h4.keep hb,h5⟩
theorem PRow.lt {w:World} {g:Nat} {t:TypeId} {N b:Nat} {l:List (Int × Int × List Int)} {k:Nat} (h:PRow w g t N b l k):g<w.heap.size:=by
 obtain ⟨f,hr,_⟩:=h
 exact hr.lt
theorem PRow.room {w:World} {g:Nat} {t:TypeId} {N b:Nat} {l:List (Int × Int × List Int)} {k:Nat} (h:PRow w g t N b l k):∃ f,w.rowIs g t N f:=by
 obtain ⟨f,hr,_⟩:=h
 exact ⟨f,hr⟩
theorem PRow.step {w:World} {g:Nat} {t:TypeId} {N b:Nat} {l:List (Int × Int × List Int)} {k:Nat} (h:PRow w g t N b l k) {a:Option Addr} {c n:Nat} {z sc:Int} (ez:Pg.gz (Pg.nth l k)=z) (es:Pg.gs (Pg.nth l k)=sc) (en:Pk.size b (Pg.gc (Pg.nth l k)).length=n) (hl:Lst .u64 w a (Pk.pack b (Pg.gc (Pg.nth l k)))) (hx:∀ x,a=some x->g<x.block) :
 PRow ((((w.setCell ⟨g,k*4,none⟩ (.int .i32 z)).setCell ⟨g,k*4+1,none⟩ (.int .u32 sc)).setCell ⟨g,k*4+2,none⟩ (.slice none 0 0)).setCell ⟨g,k*4+3,none⟩ (.slice a n c)) g t N b l (k+1):=by
 obtain ⟨f,hr,hc⟩:=h
 have other:∀ (y:Option Addr) (m:List Int),Lst .u64 w y m->(∀ x,y=some x->g<x.block)->Lst .u64 ((((w.setCell ⟨g,k*4,none⟩ (.int .i32 z)).setCell ⟨g,k*4+1,none⟩ (.int .u32 sc)).setCell ⟨g,k*4+2,none⟩ (.slice none 0 0)).setCell ⟨g,k*4+3,none⟩ (.slice a n c)) y m:=fun y m hb hg =>
  (((hb.set_otherP (p:=⟨g,k*4,none⟩) (fun x e=>by have:=hg x e;show ¬ x.block=g;omega) _).set_otherP (p:=⟨g,k*4+1,none⟩) (fun x e=>by have:=hg x e;show ¬ x.block=g;omega) _).set_otherP (p:=⟨g,k*4+2,none⟩) (fun x e=>by have:=hg x e;show ¬ x.block=g;omega) _).set_otherP (p:=⟨g,k*4+3,none⟩) (fun x e=>by have:=hg x e;show ¬ x.block=g;omega) _
 refine ⟨_,(((hr.set (k*4) _).set (k*4+1) _).set (k*4+2) _).set (k*4+3) _,fun i hi=>?_⟩
 by_cases e:i=k
 ·subst e
  refine ⟨a,c,?_,?_,?_,?_,other a _ hl hx,hx⟩
  ·rw [if_neg (by omega),if_neg (by omega),if_neg (by omega),if_pos rfl,ez]
  ·rw [if_neg (by omega),if_neg (by omega),if_pos rfl,es]
  ·rw [if_neg (by omega),if_pos rfl]
  ·rw [if_pos rfl,en]
 ·obtain ⟨a',c',h0,h1,h2,h3,h4,h5⟩:=hc i (by omega)
  refine ⟨a',c',?_,?_,?_,?_,other a' _ h4 h5,h5⟩
  ·rw [if_neg (by omega),if_neg (by omega),if_neg (by omega),if_neg (by omega),h0]
  ·rw [if_neg (by omega),if_neg (by omega),if_neg (by omega),if_neg (by omega),h1]
  ·rw [if_neg (by omega),if_neg (by omega),if_neg (by omega),if_neg (by omega),h2]
  ·rw [if_neg (by omega),if_neg (by omega),if_neg (by omega),if_neg (by omega),h3]
theorem PRow.pks {w:World} {g:Nat} {t:TypeId} {N b:Nat} {l:List (Int × Int × List Int)} (h:PRow w g t N b l l.length) (hN:N=l.length*4):Pks w g b l:=by
 obtain ⟨f,hr,hc⟩:=h
 intro i hi
 obtain ⟨a,c,h0,h1,h2,h3,h4,_⟩:=hc i hi
 refine ⟨a,c,?_,?_,?_,?_,h4⟩
 ·rw [hr.cell (by omega),h0]
 ·rw [hr.cell (by omega),h1]
 ·rw [hr.cell (by omega),h2]
 ·rw [hr.cell (by omega),h3]
def pgc (m0 m1 n d:Nat) (h4 h5 h6:Int) (v7 v8:Value) (i:Nat):Value :=
 if i=0 then .int .i64 m0 else if i=1 then .int .i64 m1 else if i=2 then .int .i64 n else if i=3 then .int .i64 d else if i=4 then .int .i64 h4 else if i=5 then .int .i64 h5 else if i=6 then .int .i64 h6 else if i=7 then v7 else v8
def PageAt (w:World) (p m0 m1 n d:Nat) (h4 h5 h6:Int) (ks vs:List (Int × Int × List Int)):Prop :=
 ∃ g1 g2,w.rowIs p 176 9 (pgc m0 m1 n d h4 h5 h6 (.slice (some ⟨g1,0,none⟩) d d) (.slice (some ⟨g2,0,none⟩) n n))/\Pks w g1 m0 ks/\Pks w g2 m1 vs/\Pg.Page [(m0:Int),m1,n,d,h4,h5,h6] ks vs
theorem PageAt.keep {w w':World} {p m0 m1 n d:Nat} {h4 h5 h6:Int} {ks vs:List (Int × Int × List Int)} (h:PageAt w p m0 m1 n d h4 h5 h6 ks vs) (hb:Below w.heap.size w w'):PageAt w' p m0 m1 n d h4 h5 h6 ks vs:=by
 obtain ⟨g1,g2,hr,hk,hv,hp⟩:=h
 exact ⟨g1,g2,row_keep hr hb,hk.keep hb,hv.keep hb,hp⟩
theorem PageAt.lt {w:World} {p m0 m1 n d:Nat} {h4 h5 h6:Int} {ks vs:List (Int × Int × List Int)} (h:PageAt w p m0 m1 n d h4 h5 h6 ks vs):p<w.heap.size:=by
 obtain ⟨g1,g2,hr,_⟩:=h
 exact hr.lt
end Go.Proofs.YtnchnlgnnlgjcaaGreat
namespace Go.Proofs.YtnchnlgnnlgjcaaGreat
open Go.RowKit
attribute [local go_sem ↓] Go.wp_at_zero Go.wp_at_succ
theorem within_any (n l m:Int) (q:Bool) (hq:(decide (l<=n) && decide (n<=m))=q) (w:World) :
 Calls Tryz.prog 138 #[.int .i64 n,.int .i64 l,.int .i64 m] w fun e w'=>e=.returned (.bool q)/\w'=w:=by
 obtain ⟨p,ep⟩:∃ p,decide (l<=n)=p:=⟨_,rfl⟩
 rw [ep] at hq
 have HQ:Hid ((p && decide (n<=m))=q):=hq
 clear hq
 cases p
 ·go_enter Tryz.func138,Tryz.ntmps138
  go_wp2
  go_ret
  exact ⟨ret_bool (by rw [<-HQ.out];simp),rfl⟩
 ·go_enter Tryz.func138,Tryz.ntmps138
  go_wp2
  go_ret
  exact ⟨ret_bool (by rw [<-HQ.out];simp),rfl⟩
set_option maxHeartbeats 1600000 in
theorem rightP_any (h0 h1 h2 h3 h4 h5 h6:Int) (q:Bool) (hq:Pg.rightH [h0,h1,h2,h3,h4,h5,h6]=q) (w:World) :
 Calls Tryz.prog 121 #[.agg #[.int .i64 h0,.int .i64 h1,.int .i64 h2,.int .i64 h3,.int .i64 h4,.int .i64 h5,.int .i64 h6]] w fun e w'=>e=.returned (.bool q)/\Below w.heap.size w w':=by
 rw [Pg.rightH_eq] at hq
 obtain ⟨p0,e0⟩:∃ p,Gp.okB h0=p:=⟨_,rfl⟩
 obtain ⟨p1,e1⟩:∃ p,Gp.okB h1=p:=⟨_,rfl⟩
 obtain ⟨p2,e2⟩:∃ p,(decide (1<=h2) && decide (h2<=16))=p:=⟨_,rfl⟩
 obtain ⟨p3,e3⟩:∃ p,(decide (1<=h3) && decide (h3<=16))=p:=⟨_,rfl⟩
 obtain ⟨p4,e4⟩:∃ p,(decide (0<=h4) && decide (h4<=3))=p:=⟨_,rfl⟩
 obtain ⟨p5,e5⟩:∃ p,(decide (0<=h5) && decide (h5<=3))=p:=⟨_,rfl⟩
 obtain ⟨p6,e6⟩:∃ p,(decide (0<=h6) && decide (h6<=1023))=p:=⟨_,rfl⟩
 have HQ:Hid ((p0 && p1 && p2 && p3 && p4 && p5 && p6)=q):=by
  show _=_
  rw [<-hq,<-e0,<-e1,<-e2,<-e3,<-e4,<-e5,<-e6]
  simp only [Bool.and_assoc]
 have E0:Hid (Gp.okB h0=p0):=e0
 have E1:Hid (Gp.okB h1=p1):=e1
 have E2:Hid ((decide (1<=h2) && decide (h2<=16))=p2):=e2
 have E3:Hid ((decide (1<=h3) && decide (h3<=16))=p3):=e3
 have E4:Hid ((decide (0<=h4) && decide (h4<=3))=p4):=e4
 have E5:Hid ((decide (0<=h5) && decide (h5<=3))=p5):=e5
 have E6:Hid ((decide (0<=h6) && decide (h6<=1023))=p6):=e6
 clear e0 e1 e2 e3 e4 e5 e6 hq
 cases p0
 ·go_enter Tryz.func121,Tryz.ntmps121
  go_wp2_with (first
   | (go_at_call 81;(first | (with_reducible refine (bitsB_any h0 _ E0.out _).mono ?_) | (with_reducible refine (bitsB_any h1 _ E1.out _).mono ?_));rintro r w' ⟨rfl,hw⟩;cases hw.symm;clear hw)
   | (go_at_call 138;(first | (with_reducible refine (within_any h2 1 16 _ E2.out _).mono ?_) | (with_reducible refine (within_any h3 1 16 _ E3.out _).mono ?_) | (with_reducible refine (within_any h4 0 3 _ E4.out _).mono ?_) | (with_reducible refine (within_any h5 0 3 _ E5.out _).mono ?_) | (with_reducible refine (within_any h6 0 1023 _ E6.out _).mono ?_));rintro r w' ⟨rfl,hw⟩;cases hw.symm;clear hw))
  go_ret
  exact ⟨ret_bool (by rw [<-HQ.out];simp),box_below _ _⟩
 cases p1
 ·go_enter Tryz.func121,Tryz.ntmps121
  go_wp2_with (first
   | (go_at_call 81;(first | (with_reducible refine (bitsB_any h0 _ E0.out _).mono ?_) | (with_reducible refine (bitsB_any h1 _ E1.out _).mono ?_));rintro r w' ⟨rfl,hw⟩;cases hw.symm;clear hw)
   | (go_at_call 138;(first | (with_reducible refine (within_any h2 1 16 _ E2.out _).mono ?_) | (with_reducible refine (within_any h3 1 16 _ E3.out _).mono ?_) | (with_reducible refine (within_any h4 0 3 _ E4.out _).mono ?_) | (with_reducible refine (within_any h5 0 3 _ E5.out _).mono ?_) | (with_reducible refine (within_any h6 0 1023 _ E6.out _).mono ?_));rintro r w' ⟨rfl,hw⟩;cases hw.symm;clear hw))
  go_ret
  exact ⟨ret_bool (by rw [<-HQ.out];simp),box_below _ _⟩
 cases p2
 ·go_enter Tryz.func121,Tryz.ntmps121
  go_wp2_with (first
   | (go_at_call 81;(first | (with_reducible refine (bitsB_any h0 _ E0.out _).mono ?_) | (with_reducible refine (bitsB_any h1 _ E1.out _).mono ?_));rintro r w' ⟨rfl,hw⟩;cases hw.symm;clear hw)
   | (go_at_call 138;(first | (with_reducible refine (within_any h2 1 16 _ E2.out _).mono ?_) | (with_reducible refine (within_any h3 1 16 _ E3.out _).mono ?_) | (with_reducible refine (within_any h4 0 3 _ E4.out _).mono ?_) | (with_reducible refine (within_any h5 0 3 _ E5.out _).mono ?_) | (with_reducible refine (within_any h6 0 1023 _ E6.out _).mono ?_));rintro r w' ⟨rfl,hw⟩;cases hw.symm;clear hw))
  go_ret
  exact ⟨ret_bool (by rw [<-HQ.out];simp),box_below _ _⟩
 cases p3
 ·go_enter Tryz.func121,Tryz.ntmps121
  go_wp2_with (first
   | (go_at_call 81;(first | (with_reducible refine (bitsB_any h0 _ E0.out _).mono ?_) | (with_reducible refine (bitsB_any h1 _ E1.out _).mono ?_));rintro r w' ⟨rfl,hw⟩;cases hw.symm;clear hw)
   | (go_at_call 138;(first | (with_reducible refine (within_any h2 1 16 _ E2.out _).mono ?_) | (with_reducible refine (within_any h3 1 16 _ E3.out _).mono ?_) | (with_reducible refine (within_any h4 0 3 _ E4.out _).mono ?_) | (with_reducible refine (within_any h5 0 3 _ E5.out _).mono ?_) | (with_reducible refine (within_any h6 0 1023 _ E6.out _).mono ?_));rintro r w' ⟨rfl,hw⟩;cases hw.symm;clear hw))
  go_ret
  exact ⟨ret_bool (by rw [<-HQ.out];simp),box_below _ _⟩
 cases p4
 ·go_enter Tryz.func121,Tryz.ntmps121
  go_wp2_with (first
   | (go_at_call 81;(first | (with_reducible refine (bitsB_any h0 _ E0.out _).mono ?_) | (with_reducible refine (bitsB_any h1 _ E1.out _).mono ?_));rintro r w' ⟨rfl,hw⟩;cases hw.symm;clear hw)
   | (go_at_call 138;(first | (with_reducible refine (within_any h2 1 16 _ E2.out _).mono ?_) | (with_reducible refine (within_any h3 1 16 _ E3.out _).mono ?_) | (with_reducible refine (within_any h4 0 3 _ E4.out _).mono ?_) | (with_reducible refine (within_any h5 0 3 _ E5.out _).mono ?_) | (with_reducible refine (within_any h6 0 1023 _ E6.out _).mono ?_));rintro r w' ⟨rfl,hw⟩;cases hw.symm;clear hw))
  go_ret
  exact ⟨ret_bool (by rw [<-HQ.out];simp),box_below _ _⟩
 cases p5
 ·go_enter Tryz.func121,Tryz.ntmps121
  go_wp2_with (first
   | (go_at_call 81;(first | (with_reducible refine (bitsB_any h0 _ E0.out _).mono ?_) | (with_reducible refine (bitsB_any h1 _ E1.out _).mono ?_));rintro r w' ⟨rfl,hw⟩;cases hw.symm;clear hw)
   | (go_at_call 138;(first | (with_reducible refine (within_any h2 1 16 _ E2.out _).mono ?_) | (with_reducible refine (within_any h3 1 16 _ E3.out _).mono ?_) | (with_reducible refine (within_any h4 0 3 _ E4.out _).mono ?_) | (with_reducible refine (within_any h5 0 3 _ E5.out _).mono ?_) | (with_reducible refine (within_any h6 0 1023 _ E6.out _).mono ?_));rintro r w' ⟨rfl,hw⟩;cases hw.symm;clear hw))
  go_ret
  exact ⟨ret_bool (by rw [<-HQ.out];simp),box_below _ _⟩
 cases p6
 ·go_enter Tryz.func121,Tryz.ntmps121
  go_wp2_with (first
   | (go_at_call 81;(first | (with_reducible refine (bitsB_any h0 _ E0.out _).mono ?_) | (with_reducible refine (bitsB_any h1 _ E1.out _).mono ?_));rintro r w' ⟨rfl,hw⟩;cases hw.symm;clear hw)
   | (go_at_call 138;(first | (with_reducible refine (within_any h2 1 16 _ E2.out _).mono ?_) | (with_reducible refine (within_any h3 1 16 _ E3.out _).mono ?_) | (with_reducible refine (within_any h4 0 3 _ E4.out _).mono ?_) | (with_reducible refine (within_any h5 0 3 _ E5.out _).mono ?_) | (with_reducible refine (within_any h6 0 1023 _ E6.out _).mono ?_));rintro r w' ⟨rfl,hw⟩;cases hw.symm;clear hw))
  go_ret
  exact ⟨ret_bool (by rw [<-HQ.out];simp),box_below _ _⟩
 go_enter Tryz.func121,Tryz.ntmps121
 go_wp2_with (first
  | (go_at_call 81;(first | (with_reducible refine (bitsB_any h0 _ E0.out _).mono ?_) | (with_reducible refine (bitsB_any h1 _ E1.out _).mono ?_));rintro r w' ⟨rfl,hw⟩;cases hw.symm;clear hw)
  | (go_at_call 138;(first | (with_reducible refine (within_any h2 1 16 _ E2.out _).mono ?_) | (with_reducible refine (within_any h3 1 16 _ E3.out _).mono ?_) | (with_reducible refine (within_any h4 0 3 _ E4.out _).mono ?_) | (with_reducible refine (within_any h5 0 3 _ E5.out _).mono ?_) | (with_reducible refine (within_any h6 0 1023 _ E6.out _).mono ?_));rintro r w' ⟨rfl,hw⟩;cases hw.symm;clear hw))
 go_ret
 exact ⟨ret_bool (by rw [<-HQ.out];simp),box_below _ _⟩
theorem groupsOf_any (a:Option Addr) (c:Nat) (l:List (Int × Int × List Int)) (n each:Int) (q:Bool) (w:World) (ha:Gps w a l) (hl:l.length<=maxLen) (hq:Pg.shapeB l n each=q) :
 Calls Tryz.prog 139 #[.slice a l.length c,.int .i64 n,.int .i64 each] w fun e w'=>e=.returned (.bool q)/\Below w.heap.size w w':=by
 unfold maxLen at hl
 have HA:Hid (Gps w a l):=ha
 have HQ:Hid (Pg.shapeB l n each=q):=hq
 clear ha hq
 go_enter Tryz.func139,Tryz.ntmps139
 go_wp2
 go_loopw [11] (fun i wr=>∃ k:Nat,k<=l.length/\i=.int .i64 k/\Below w.heap.size w wr/\∀ j,j<k->((Pg.gc (Pg.nth l j)).length:Int)=each) (fun i _=>l.length - (intOf i).toNat)
 case atStart=>exact ⟨0,Nat.zero_le _,rfl,Below.refl _ _,fun j hj=>by omega⟩
 case round =>
  obtain ⟨k,hk,rfl,hbel,hall⟩:=hrel
  have HL:Hid (∀ j,j<k->((Pg.gc (Pg.nth l j)).length:Int)=each):=hall
  have HB:Hid (Below w.heap.size w wr):=hbel
  have hsz:=hbel.size
  clear hall hbel
  by_cases hlt:k<l.length
  ·obtain ⟨b,o,rfl,hall⟩:=HA.out.get hlt
   obtain ⟨a',c',hg⟩:=hall k hlt
   obtain ⟨d0,d1,d2,d3⟩:=hg.keep HB.out
   have hbl:=hg.lt
   clear hall d3 hg
   by_cases hz:((Pg.gc (Pg.nth l k)).length:Int)=each
   ·have HZ:Hid (((Pg.gc (Pg.nth l k)).length:Int)=each):=hz
    have g:(((Pg.gc (Pg.nth l k)).length:Int) != each)=false:=by rw [hz];simp
    clear hz
    go_wp2
    go_roundw
    case rel =>
     refine ⟨k+1,by omega,by go_num,HB.out.alloc (by omega) _,fun j hj=>?_⟩
     by_cases e:j=k
     ·subst e;exact HZ.out
     ·exact HL.out j (by omega)
    case measure=>simp [intOf];omega
   ·have g:(((Pg.gc (Pg.nth l k)).length:Int) != each)=true:=by simp [hz]
    go_wp2
    go_ret
    refine ⟨ret_bool ?_,HB.out.alloc (by omega) _⟩
    rw [<-HQ.out]
    unfold Pg.shapeB
    exact (decide_eq_false (fun e=>hz (e.1 k hlt))).symm
  ·go_wp2
   go_ret
   refine ⟨ret_bool ?_,HB.out⟩
   rw [<-HQ.out]
   unfold Pg.shapeB
   rw [Bool.eq_iff_iff]
   simp only [beq_iff_eq,decide_eq_true_eq]
   exact ⟨fun e=>⟨fun i hi=>HL.out i (by omega),e⟩,fun e=>e.2⟩
theorem listsOf_any (a:Option Addr) (c:Nat) (ls:List (List Int)) (n d:Int) (q:Bool) (w:World) (ha:Tbl w a ls) (hl:ls.length<=maxLen) (hq:Pg.shapedB ls n d=q) :
 Calls Tryz.prog 122 #[.slice a ls.length c,.int .i64 n,.int .i64 d] w fun e w'=>e=.returned (.bool q)/\w'=w:=by
 unfold maxLen at hl
 have HA:Hid (Tbl w a ls):=ha
 have HQ:Hid (Pg.shapedB ls n d=q):=hq
 clear ha hq
 go_enter Tryz.func122,Tryz.ntmps122
 go_wp2
 go_loop [11] (fun i=>∃ k:Nat,k<=ls.length/\i=.int .i64 k/\∀ j,j<k->((Tb.row ls j).length:Int)=d) (fun i=>ls.length - (intOf i).toNat)
 case atStart=>exact ⟨0,Nat.zero_le _,rfl,fun j hj=>by omega⟩
 case round =>
  obtain ⟨k,hk,rfl,hall⟩:=hrel
  have HL:Hid (∀ j,j<k->((Tb.row ls j).length:Int)=d):=hall
  clear hall
  by_cases hlt:k<ls.length
  ·obtain ⟨b,o,rfl,hall⟩:=HA.out.get hlt
   obtain ⟨A,C,d0,_,_⟩:=hall k hlt
   clear hall
   by_cases hz:((Tb.row ls k).length:Int)=d
   ·have HZ:Hid (((Tb.row ls k).length:Int)=d):=hz
    have g:(((Tb.row ls k).length:Int) != d)=false:=by rw [hz];simp
    clear hz
    go_wp2
    go_round
    case rel =>
     refine ⟨k+1,by omega,by go_num,fun j hj=>?_⟩
     by_cases e:j=k
     ·subst e;exact HZ.out
     ·exact HL.out j (by omega)
    case measure=>simp [intOf];omega
   ·have g:(((Tb.row ls k).length:Int) != d)=true:=by simp [hz]
    go_wp2
    go_ret
    refine ⟨ret_bool ?_,rfl⟩
    rw [<-HQ.out]
    unfold Pg.shapedB
    exact (decide_eq_false (fun e=>hz (e.1 k hlt))).symm
  ·go_wp2
   go_ret
   refine ⟨ret_bool ?_,rfl⟩
   rw [<-HQ.out]
   unfold Pg.shapedB
   rw [Bool.eq_iff_iff]
   simp only [beq_iff_eq,decide_eq_true_eq]
   exact ⟨fun e=>⟨fun i hi=>HL.out i (by omega),e⟩,fun e=>e.2⟩
theorem allRight_any (a:Option Addr) (c b s n:Nat) (l:List (Int × Int × List Int)) (e:Int) (w:World) (ha:Gps w a l) (hl:l.length<=10000) (hst:Gp.St b s) (hn:∀ i,i<l.length->(Pg.gc (Pg.nth l i)).length=n) (h1:1<=n) (h2:n<=256) (hi:InG l) (he:Pg.rightsN s l l.length=e) :
 Calls Tryz.prog 140 #[.slice a l.length c,.int .i64 b] w fun r w'=>r=.returned (.int .i64 e)/\Below w.heap.size w w':=by
 have HA:Hid (Gps w a l):=ha
 have HI:Hid (InG l):=hi
 have HN:Hid (∀ i,i<l.length->(Pg.gc (Pg.nth l i)).length=n):=hn
 have ST:Hid (Gp.St b s):=hst
 have HE:Hid (Pg.rightsN s l l.length=e):=he
 clear ha hi hn hst he
 go_enter Tryz.func140,Tryz.ntmps140
 go_wp2
 go_loopw [10] (fun i wr=>∃ k:Nat,k<=l.length/\i=.int .i64 k/\Below w.heap.size w wr/\Pg.rightsN (s:Int) l k=0) (fun i _=>l.length - (intOf i).toNat)
 case atStart=>exact ⟨0,Nat.zero_le _,rfl,Below.refl _ _,rfl⟩
 case round =>
  obtain ⟨k,hk,rfl,hbel,hall⟩:=hrel
  have HL:Hid (Pg.rightsN (s:Int) l k=0):=hall
  have HB:Hid (Below w.heap.size w wr):=hbel
  have hsz:=hbel.size
  clear hall hbel
  by_cases hlt:k<l.length
  ·obtain ⟨b1,o1,rfl,hall⟩:=HA.out.get hlt
   obtain ⟨a',c',hg⟩:=hall k hlt
   obtain ⟨d0,d1,d2,d3⟩:=hg.keep HB.out
   have D3:Hid (Lst .i64 wr a' (Pg.gc (Pg.nth l k))):=d3
   have hbl:=hg.lt
   obtain ⟨_,_,g2,g3,_⟩:=HI.out k hlt
   obtain ⟨r,er⟩:∃ r,Gp.right (s:Int) (Pg.gs (Pg.nth l k)) (Pg.gc (Pg.nth l k))=r:=⟨_,rfl⟩
   have ER:Hid (Gp.right (s:Int) (Pg.gs (Pg.nth l k)) (Pg.gc (Pg.nth l k))=r):=er
   clear hall d3 hg er
   obtain ⟨pz,epz⟩:∃ p,(r != 0)=p:=⟨_,rfl⟩
   cases pz
   all_goals
    go_wp2_with (go_at_call 153;refine (right_any _ _ _ _ b s (Pg.gc (Pg.nth l k)) r _ (D3.out.keep (box_below _ _)) ST.out (by rw [HN.out k hlt];omega) (by rw [HN.out k hlt];omega) g2 g3 ER.out).mono ?_;rintro e v1 ⟨rfl,hb⟩;have hbc:Hid (Below w.heap.size w v1):=below_then (below_then HB.out (box_below _ _)) hb;clear hb)
   ·have r0:r=0:=by simpa using epz
    go_roundw
    case rel =>
     refine ⟨k+1,by omega,by go_num,hbc.out,?_⟩
     rw [Pg.rightsN_ok HL.out,ER.out,r0]
    case measure=>simp [intOf];omega
   ·have r0:¬ r=0:=by simpa using epz
    go_ret
    refine ⟨ret_num ?_,hbc.out⟩
    have hk1:Pg.rightsN (s:Int) l (k+1)=r:=by rw [Pg.rightsN_ok HL.out,ER.out]
    rw [<-HE.out,Pg.rightsN_stop (k:=k+1) (by rw [hk1];exact r0) (by omega),hk1]
  ·have e:k=l.length:=by omega
   subst e
   go_wp2
   go_ret
   exact ⟨ret_num (by rw [<-HE.out,HL.out]),HB.out⟩
end Go.Proofs.YtnchnlgnnlgjcaaGreat
