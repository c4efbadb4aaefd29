import Derived.Test.YtnchnlgnnlgjcaaGreatCp05
import Derived.Test.YtnchnlgnnlgjcaaGreatCp02
import Derived.Deep.RegionLaw
import Derived.Deep.RegionLawGrows
set_option linter.unusedVariables false
namespace Go.Proofs.YtnchnlgnnlgjcaaGreat
open Go.RowKit
attribute [local go_sem ↓] Go.wp_at_zero Go.wp_at_succ
def Pg.key (ks:List (Int × Int × List Int)) (t:Nat):List Int:=Ls.gen ks.length fun i=>Gp.mean (Pg.gz (Pg.nth ks i)) (Pg.gs (Pg.nth ks i)) (Ls.nth (Pg.gc (Pg.nth ks i)) t)
theorem Pg.key_length (ks:List (Int × Int × List Int)) (t:Nat):(Pg.key ks t).length = ks.length:=Ls.gen_length _ _
def Pg.Deep (n:Nat) (l:List (Int × Int × List Int)):Prop:=∀ i,i < l.length -> (Pg.gc (Pg.nth l i)).length = n /\ Gp.fits 255 (Pg.gc (Pg.nth l i)) = true /\ -2147483648 <= Pg.gz (Pg.nth l i) /\ Pg.gz (Pg.nth l i) <= 2147483647 /\ 0 <= Pg.gs (Pg.nth l i) /\ Pg.gs (Pg.nth l i) <= 4294967295
theorem Pg.deep_of {b n:Nat} {l:List (Int × Int × List Int)} (hb:b = 2 \/ b = 4 \/ b = 8) (h:Pg.AllFit b n l):Pg.Deep n l:=fun i hi=>by
 obtain ⟨h1,h2,h3,h4,h5,h6⟩:=h i hi
 refine ⟨h1,Gp.fits_yes fun j hj=>?_,h3,h4,h5,h6⟩
 have:=h2 j
 have hp:2 ^ b <= 256:=by rcases hb with rfl | rfl | rfl <;> decide
 omega
end Go.Proofs.YtnchnlgnnlgjcaaGreat
namespace Go.Proofs.YtnchnlgnnlgjcaaGreat
open Go.RowKit
attribute [local go_sem ↓] Go.wp_at_zero Go.wp_at_succ
def Pg.shapedB (ls:List (List Int)) (n d:Int):Bool:=decide ((∀ i,i < ls.length -> ((Tb.row ls i).length:Int) = d) /\ (ls.length:Int) = n)
end Go.Proofs.YtnchnlgnnlgjcaaGreat
namespace Go.Proofs.YtnchnlgnnlgjcaaGreat
open Go.RowKit
attribute [local go_sem ↓] Go.wp_at_zero Go.wp_at_succ
def pcell (H:Array Value) (v7 v8:Value) (i:Nat):Value:=if i = 7 then v7 else if i = 8 then v8 else H.getD i undef
theorem pcell_set7 (H:Array Value) (v7 v8 v:Value) (j:Nat):(if j = 7 then v else pcell H v7 v8 j) = pcell H v v8 j:=by
 unfold pcell
 by_cases e:j = 7
 ·rw [if_pos e,if_pos e]
 ·rw [if_neg e,if_neg e,if_neg e]
theorem pcell_set8 (H:Array Value) (v7 v8 v:Value) (j:Nat):(if j = 8 then v else pcell H v7 v8 j) = pcell H v7 v j:=by
 unfold pcell
 by_cases e:j = 8
 ·rw [if_pos e,if_neg (by omega),if_pos e]
 ·simp [e]
theorem Pg.own3 {w:World} {base:Nat} {t:TypeId} {v:Value} {n:Nat} {xs:List Value} (h:w.ownsRow base t 3 v n xs):∃ a c,v = .slice a n c:=by
 rcases h.2 with ⟨e,hn⟩ | ⟨g,cap,cur,e,_⟩
 ·exact ⟨none,0,by rw [e,hn]⟩
 ·exact ⟨_,_,e⟩
theorem own3_at {w w':World} {base:Nat} {t:TypeId} {v:Value} {n:Nat} {xs:List Value} (h:w.ownsRow base t 3 v n xs) (hb:∀ g,v.ownBlock = some g -> w'.heap[g]? = w.heap[g]?):w'.ownsRow base t 3 v n xs:=by
 refine ⟨h.1,?_⟩
 rcases h.2 with h0 | ⟨g,cap,cur,e,h1,h2,h3⟩
 ·exact Or.inl h0
 ·refine Or.inr ⟨g,cap,cur,e,h1,?_,h3⟩
  subst e
  rw [hb g rfl]
  exact h2
theorem own3_below {w w':World} {base:Nat} {t:TypeId} {v:Value} {n:Nat} {xs:List Value} (h:w.ownsRow base t 3 v n xs) (hb:Below w.heap.size w w'):w'.ownsRow base t 3 v n xs :=
 own3_at h fun g hg=>hb.block g (h.lt g hg).2
theorem own3_set {w:World} {base:Nat} {t:TypeId} {v:Value} {n:Nat} {xs:List Value} (h:w.ownsRow base t 3 v n xs) {p:Addr} (hp:p.block < base) (y:Value):(w.setCell p y).ownsRow base t 3 v n xs :=
 own3_at h fun g hg=>Go.Deep.blk_setCell_other _ _ _ _ (by have:=(h.lt g hg).1;omega)
theorem refOf_anym (a:Option Addr) (n cp b s:Nat) (l:List Int) (w:World) (hn:n = l.length) (ha:Lst .i32 w a l) (hx:Ls.In32 l) (hst:Gp.St b s) (h0:0 < n) (hl:n <= 256) (z sc:Int) (ez:Gp.low l = z) (es:Gp.scale s l = sc) :
 Calls Tryz.prog 131 #[.slice a n cp,.int .i64 b] w fun e w'=>∃ a' c',e = .returned (.agg #[.int .i32 z,.int .u32 sc,.slice a' n c']) /\
  Lst .i64 w' a' (Gp.codes z sc l) /\ Below w.heap.size w w' /\ ∀ x,a' = some x -> w.heap.size <= x.block:=by
 subst hn
 exact refOf_new a cp b s l w ha hx hst h0 hl z sc ez es
theorem Lst.grown {k:IntKind} {w w':World} {a:Option Addr} {l:List Int} {row:Option Nat} (h:Lst k w a l) (hg:w.grownBy w' row) (ne:∀ x,a = some x -> some x.block ≠ row):Lst k w' a l:=fun i hi=>by
 obtain ⟨b,o,e,hc⟩:=h i hi
 refine ⟨b,o,e,?_⟩
 rw [hg.cell_far ⟨b,o + i,none⟩ (World.block_lt_of_cell? w _ hc) (ne ⟨b,o,none⟩ e)]
 exact hc
theorem Lst.set_otherP {k:IntKind} {w:World} {a:Option Addr} {l:List Int} (h:Lst k w a l) {p:Addr} (hp:∀ x,a = some x -> ¬ x.block = p.block) (v:Value):Lst k (w.setCell p v) a l:=fun i hi=>by
 obtain ⟨b,o,e,hc⟩:=h i hi
 refine ⟨b,o,e,?_⟩
 rw [World.cell?_of_block (Go.Deep.blk_setCell_other w p v b (hp ⟨b,o,none⟩ e))]
 exact hc
def Keeps (u w':World) (P:Nat):Prop:=u.heap.size <= w'.heap.size /\ ∀ g,g < u.heap.size -> ¬ g = P -> w'.heap[g]? = u.heap[g]?
theorem Keeps.refl (u:World) (P:Nat):Keeps u u P:=⟨Nat.le_refl _,fun _ _ _=>rfl⟩
theorem Keeps.below {u v w':World} {P:Nat} (h:Keeps u v P) (hb:Below v.heap.size v w'):Keeps u w' P:=⟨Nat.le_trans h.1 hb.size,fun g hg hp=>by have:=h.1;rw [hb.block g (by omega),h.2 g hg hp]⟩
theorem Keeps.set {u v:World} {P:Nat} (h:Keeps u v P) (o:Nat) (y:Value):Keeps u (v.setCell ⟨P,o,none⟩ y) P:=⟨by rw [Go.Deep.nblk_setCell];exact h.1,fun g hg hp=>by rw [Go.Deep.blk_setCell_other v ⟨P,o,none⟩ y g hp,h.2 g hg hp]⟩
theorem Keeps.grown {u v w':World} {P:Nat} {row:Option Nat} (h:Keeps u v P) (hg:v.grownBy w' row) (hr:∀ g,row = some g -> u.heap.size <= g):Keeps u w' P:=⟨Nat.le_trans h.1 hg.size,fun g hlt hp=>by
 have:=h.1
 rw [hg.block g (by omega) (fun e=>by have:=hr g e.symm;omega),h.2 g hlt hp]⟩
theorem Keeps.lst {u w':World} {P:Nat} {k:IntKind} {a:Option Addr} {l:List Int} (h:Keeps u w' P) (hl:Lst k u a l) (hp:∀ x,a = some x -> ¬ x.block = P):Lst k w' a l:=fun i hi=>by
 obtain ⟨b,o,e,hc⟩:=hl i hi
 refine ⟨b,o,e,?_⟩
 rw [World.cell?_of_block (h.2 b (World.block_lt_of_cell? u _ hc) (hp ⟨b,o,none⟩ e))]
 exact hc
theorem gflat_snoc {l:List (Int × Int × List Int)} {A:Nat -> Option Addr} {C:Nat -> Nat} {k n:Nat} {z sc:Int} {cd:List Int} {a9:Option Addr} {c9:Nat} (e:Pg.nth l k = (z,sc,cd)) (hn:cd.length = n) :
 gflat l (fun j=>if j = k then a9 else A j) (fun j=>if j = k then c9 else C j) (k + 1) = gflat l A C k ++ [.int .i32 z,.int .u32 sc,.slice a9 n c9]:=by
 simp only [gflat]
 rw [gflat_congr (m:=l) (B:=A) (D:=C) k (fun i hi=>⟨rfl,if_neg (by omega),if_neg (by omega)⟩),e,if_pos trivial,if_pos trivial]
 rw [show (Pg.gc (z,sc,cd)).length = n from hn]
 rfl
end Go.Proofs.YtnchnlgnnlgjcaaGreat
namespace Go.Proofs.YtnchnlgnnlgjcaaGreat
open Go.RowKit
theorem run_make_rows {P:Program} (t e:TypeId) (z:Value) (zs:Array Value) (m bytes:Nat) (hzs:z.cells = zs) (ht:P.underlying t = some (.slice e)) (hinfo:(P.info? e).map (fun i=>(i.zero,i.size,i.bytes)) = some (some z,m,bytes)) (kl kc:IntKind) (n:Nat) (hb:bytes * n <= 281474976710656) (h63:n <= 9223372036854775807) :
 ∀ w:World,(Instr.makeSlice t (.int kl (n:Int)) (.int kc (n:Int))).run P w = .ok (.slice (some ⟨w.heap.size,0,none⟩) n n) (w.alloc (.cells (madeCells zs (n * m)) e)):=by
 subst hzs
 obtain ⟨i,hi,h1,h2,h3⟩:=info_parts hinfo
 intro w
 have hb':(i.bytes:Int) * (n:Int) <= 281474976710656:=by
  rw [h3]
  have h:((bytes * n:Nat):Int) <= 281474976710656:=by omega
  rwa [Int.natCast_mul] at h
 have hr:=run_make (P:=P) w t e i z ht hi h1 kl kc n n (by omega) (Int.le_refl _) hb' (by omega)
 simp only [Int.toNat_natCast] at hr
 rw [hr,h2]
theorem row_made (w:World) (zs:Array Value) (N:Nat) (t:TypeId):(w.alloc (.cells (madeCells zs N) t)).rowIs w.heap.size t N (fun j=>zs[j % zs.size]!) :=
 ⟨_,heap_alloc_new _ _,size_madeCells _ _,fun i hi=>by simp [madeCells,hi]⟩
theorem row_keep {w w':World} {g:Nat} {t:TypeId} {N:Nat} {f:Nat -> Value} (h:w.rowIs g t N f) (hb:Below w.heap.size w w'):w'.rowIs g t N f:=World.rowIs.of_block h (hb.block g h.lt)
def GRow (w:World) (g:Nat) (t:TypeId) (N:Nat) (l:List (Int × Int × List Int)) (k:Nat):Prop :=
 ∃ f,w.rowIs g t N f /\ ∀ i,i < k -> ∃ a c,f (i * 3) = .int .i32 (Pg.gz (Pg.nth l i)) /\ f (i * 3 + 1) = .int .u32 (Pg.gs (Pg.nth l i)) /\ f (i * 3 + 2) = .slice a (Pg.gc (Pg.nth l i)).length c /\ Lst .i64 w a (Pg.gc (Pg.nth l i)) /\ ∀ x,a = some x -> g < x.block
theorem GRow.made (w:World) (zs:Array Value) (N:Nat) (t:TypeId) (l:List (Int × Int × List Int)):GRow (w.alloc (.cells (madeCells zs N) t)) w.heap.size t N l 0:=⟨_,row_made w zs N t,fun i hi=>by omega⟩
theorem GRow.keep {w w':World} {g:Nat} {t:TypeId} {N:Nat} {l:List (Int × Int × List Int)} {k:Nat} (h:GRow w g t N l k) (hb:Below w.heap.size w w'):GRow w' g t N l k:=by
 obtain ⟨f,hr,hc⟩:=h
 refine ⟨f,row_keep hr hb,fun i hi=>?_⟩
 obtain ⟨a,c,h0,h1,h2,h3,h4⟩:=hc i hi
 exact ⟨a,c,h0,h1,h2,h3.keep hb,h4⟩
theorem GRow.lt {w:World} {g:Nat} {t:TypeId} {N:Nat} {l:List (Int × Int × List Int)} {k:Nat} (h:GRow w g t N l k):g < w.heap.size:=by
 obtain ⟨f,hr,_⟩:=h
 exact hr.lt
theorem GRow.room {w:World} {g:Nat} {t:TypeId} {N:Nat} {l:List (Int × Int × List Int)} {k:Nat} (h:GRow w g t N l k):∃ f,w.rowIs g t N f:=by
 obtain ⟨f,hr,_⟩:=h
 exact ⟨f,hr⟩
theorem GRow.step {w:World} {g:Nat} {t:TypeId} {N:Nat} {l:List (Int × Int × List Int)} {k:Nat} (h:GRow w g t N l k) {a:Option Addr} {c n:Nat} {z sc:Int} (ez:Pg.gz (Pg.nth l k) = z) (es:Pg.gs (Pg.nth l k) = sc) (en:(Pg.gc (Pg.nth l k)).length = n) (hl:Lst .i64 w a (Pg.gc (Pg.nth l k))) (hx:∀ x,a = some x -> g < x.block) :
 GRow (((w.setCell ⟨g,k * 3,none⟩ (.int .i32 z)).setCell ⟨g,k * 3 + 1,none⟩ (.int .u32 sc)).setCell ⟨g,k * 3 + 2,none⟩ (.slice a n c)) g t N l (k + 1):=by
 obtain ⟨f,hr,hc⟩:=h
 have other:∀ (b:Option Addr) (m:List Int),Lst .i64 w b m -> (∀ x,b = some x -> g < x.block) -> Lst .i64 (((w.setCell ⟨g,k * 3,none⟩ (.int .i32 z)).setCell ⟨g,k * 3 + 1,none⟩ (.int .u32 sc)).setCell ⟨g,k * 3 + 2,none⟩ (.slice a n c)) b m:=fun b m hb hg =>
  ((hb.set_otherP (p:=⟨g,k * 3,none⟩) (fun x e=>by have:=hg x e;show ¬ x.block = g;omega) _).set_otherP (p:=⟨g,k * 3 + 1,none⟩) (fun x e=>by have:=hg x e;show ¬ x.block = g;omega) _).set_otherP (p:=⟨g,k * 3 + 2,none⟩) (fun x e=>by have:=hg x e;show ¬ x.block = g;omega) _
 refine ⟨_,((hr.set (k * 3) _).set (k * 3 + 1) _).set (k * 3 + 2) _,fun i hi=>?_⟩
 by_cases e:i = k
 ·subst e
  refine ⟨a,c,?_,?_,?_,other a _ hl hx,hx⟩
  ·rw [if_neg (by omega),if_neg (by omega),if_pos rfl,ez]
  ·rw [if_neg (by omega),if_pos rfl,es]
  ·rw [if_pos rfl,en]
 ·obtain ⟨a',c',h0,h1,h2,h3,h4⟩:=hc i (by omega)
  refine ⟨a',c',?_,?_,?_,other a' _ h3 h4,h4⟩
  ·rw [if_neg (by omega),if_neg (by omega),if_neg (by omega),h0]
  ·rw [if_neg (by omega),if_neg (by omega),if_neg (by omega),h1]
  ·rw [if_neg (by omega),if_neg (by omega),if_neg (by omega),h2]
theorem GRow.gps {w:World} {g:Nat} {t:TypeId} {N:Nat} {l:List (Int × Int × List Int)} (h:GRow w g t N l l.length) (hN:N = l.length * 3):Gps w (some ⟨g,0,none⟩) l:=by
 obtain ⟨f,hr,hc⟩:=h
 intro i hi
 obtain ⟨a,c,h0,h1,h2,h3,_⟩:=hc i hi
 refine ⟨g,0,a,c,rfl,?_,?_,?_,h3⟩
 ·rw [Nat.zero_add,hr.cell (by omega),h0]
 ·rw [Nat.zero_add,hr.cell (by omega),h1]
 ·rw [Nat.zero_add,hr.cell (by omega),h2]
def PkAt (w:World) (g i b:Nat) (x:Int × Int × List Int) (a:Option Addr) (c:Nat):Prop :=
 w.cell? ⟨g,i * 4,none⟩ = some (.int .i32 (Pg.gz x)) /\ w.cell? ⟨g,i * 4 + 1,none⟩ = some (.int .u32 (Pg.gs x)) /\ w.cell? ⟨g,i * 4 + 2,none⟩ = some (.slice none 0 0) /\ w.cell? ⟨g,i * 4 + 3,none⟩ = some (.slice a (Pk.size b (Pg.gc x).length) c) /\ Lst .u64 w a (Pk.pack b (Pg.gc x))
def Pks (w:World) (g b:Nat) (l:List (Int × Int × List Int)):Prop:=∀ i,i < l.length -> ∃ a c,PkAt w g i b (Pg.nth l i) a c
theorem PkAt.keep {w w':World} {g i b:Nat} {x:Int × Int × List Int} {a:Option Addr} {c:Nat} (h:PkAt w g i b x a c) (hb:Below w.heap.size w w'):PkAt w' g i b x a c:=by
 obtain ⟨h0,h1,h2,h3,h4⟩:=h
 refine ⟨?_,?_,?_,?_,h4.keep hb⟩
 ·rw [hb.cell (p:=⟨g,i * 4,none⟩) (World.block_lt_of_cell? w _ h0)];exact h0
 ·rw [hb.cell (p:=⟨g,i * 4 + 1,none⟩) (World.block_lt_of_cell? w _ h1)];exact h1
 ·rw [hb.cell (p:=⟨g,i * 4 + 2,none⟩) (World.block_lt_of_cell? w _ h2)];exact h2
 ·rw [hb.cell (p:=⟨g,i * 4 + 3,none⟩) (World.block_lt_of_cell? w _ h3)];exact h3
theorem Pks.keep {w w':World} {g b:Nat} {l:List (Int × Int × List Int)} (h:Pks w g b l) (hb:Below w.heap.size w w'):Pks w' g b l:=fun i hi=>by
 obtain ⟨a,c,h'⟩:=h i hi
 exact ⟨a,c,h'.keep hb⟩
def PRow (w:World) (g:Nat) (t:TypeId) (N b:Nat) (l:List (Int × Int × List Int)) (k:Nat):Prop :=
 ∃ f,w.rowIs g t N f /\ ∀ i,i < k -> ∃ a c,f (i * 4) = .int .i32 (Pg.gz (Pg.nth l i)) /\ f (i * 4 + 1) = .int .u32 (Pg.gs (Pg.nth l i)) /\ f (i * 4 + 2) = .slice none 0 0 /\ f (i * 4 + 3) = .slice a (Pk.size b (Pg.gc (Pg.nth l i)).length) c /\ Lst .u64 w a (Pk.pack b (Pg.gc (Pg.nth l i))) /\ ∀ x,a = some x -> g < x.block
theorem PRow.made (w:World) (zs:Array Value) (N b:Nat) (t:TypeId) (l:List (Int × Int × List Int)):PRow (w.alloc (.cells (madeCells zs N) t)) w.heap.size t N b l 0:=⟨_,row_made w zs N t,fun i hi=>by omega⟩
theorem PRow.keep {w w':World} {g:Nat} {t:TypeId} {N b:Nat} {l:List (Int × Int × List Int)} {k:Nat} (h:PRow w g t N b l k) (hb:Below w.heap.size w w'):PRow w' g t N b l k:=by
 obtain ⟨f,hr,hc⟩:=h
 refine ⟨f,row_keep hr hb,fun i hi=>?_⟩
 obtain ⟨a,c,h0,h1,h2,h3,h4,h5⟩:=hc i hi
 exact ⟨a,c,h0,h1,h2,h3,h4.keep hb,h5⟩
theorem PRow.lt {w:World} {g:Nat} {t:TypeId} {N b:Nat} {l:List (Int × Int × List Int)} {k:Nat} (h:PRow w g t N b l k):g < w.heap.size:=by
 obtain ⟨f,hr,_⟩:=h
 exact hr.lt
theorem PRow.room {w:World} {g:Nat} {t:TypeId} {N b:Nat} {l:List (Int × Int × List Int)} {k:Nat} (h:PRow w g t N b l k):∃ f,w.rowIs g t N f:=by
 obtain ⟨f,hr,_⟩:=h
 exact ⟨f,hr⟩
theorem PRow.step {w:World} {g:Nat} {t:TypeId} {N b:Nat} {l:List (Int × Int × List Int)} {k:Nat} (h:PRow w g t N b l k) {a:Option Addr} {c n:Nat} {z sc:Int} (ez:Pg.gz (Pg.nth l k) = z) (es:Pg.gs (Pg.nth l k) = sc) (en:Pk.size b (Pg.gc (Pg.nth l k)).length = n) (hl:Lst .u64 w a (Pk.pack b (Pg.gc (Pg.nth l k)))) (hx:∀ x,a = some x -> g < x.block) :
 PRow ((((w.setCell ⟨g,k * 4,none⟩ (.int .i32 z)).setCell ⟨g,k * 4 + 1,none⟩ (.int .u32 sc)).setCell ⟨g,k * 4 + 2,none⟩ (.slice none 0 0)).setCell ⟨g,k * 4 + 3,none⟩ (.slice a n c)) g t N b l (k + 1):=by
 obtain ⟨f,hr,hc⟩:=h
 have other:∀ (y:Option Addr) (m:List Int),Lst .u64 w y m -> (∀ x,y = some x -> g < x.block) -> Lst .u64 ((((w.setCell ⟨g,k * 4,none⟩ (.int .i32 z)).setCell ⟨g,k * 4 + 1,none⟩ (.int .u32 sc)).setCell ⟨g,k * 4 + 2,none⟩ (.slice none 0 0)).setCell ⟨g,k * 4 + 3,none⟩ (.slice a n c)) y m:=fun y m hb hg =>
  (((hb.set_otherP (p:=⟨g,k * 4,none⟩) (fun x e=>by have:=hg x e;show ¬ x.block = g;omega) _).set_otherP (p:=⟨g,k * 4 + 1,none⟩) (fun x e=>by have:=hg x e;show ¬ x.block = g;omega) _).set_otherP (p:=⟨g,k * 4 + 2,none⟩) (fun x e=>by have:=hg x e;show ¬ x.block = g;omega) _).set_otherP (p:=⟨g,k * 4 + 3,none⟩) (fun x e=>by have:=hg x e;show ¬ x.block = g;omega) _
 refine ⟨_,(((hr.set (k * 4) _).set (k * 4 + 1) _).set (k * 4 + 2) _).set (k * 4 + 3) _,fun i hi=>?_⟩
 by_cases e:i = k
 ·subst e
  refine ⟨a,c,?_,?_,?_,?_,other a _ hl hx,hx⟩
  ·rw [if_neg (by omega),if_neg (by omega),if_neg (by omega),if_pos rfl,ez]
  ·rw [if_neg (by omega),if_neg (by omega),if_pos rfl,es]
  ·rw [if_neg (by omega),if_pos rfl]
  ·rw [if_pos rfl,en]
 ·obtain ⟨a',c',h0,h1,h2,h3,h4,h5⟩:=hc i (by omega)
  refine ⟨a',c',?_,?_,?_,?_,other a' _ h4 h5,h5⟩
  ·rw [if_neg (by omega),if_neg (by omega),if_neg (by omega),if_neg (by omega),h0]
  ·rw [if_neg (by omega),if_neg (by omega),if_neg (by omega),if_neg (by omega),h1]
  ·rw [if_neg (by omega),if_neg (by omega),if_neg (by omega),if_neg (by omega),h2]
  ·rw [if_neg (by omega),if_neg (by omega),if_neg (by omega),if_neg (by omega),h3]
theorem PRow.pks {w:World} {g:Nat} {t:TypeId} {N b:Nat} {l:List (Int × Int × List Int)} (h:PRow w g t N b l l.length) (hN:N = l.length * 4):Pks w g b l:=by
 obtain ⟨f,hr,hc⟩:=h
 intro i hi
 obtain ⟨a,c,h0,h1,h2,h3,h4,_⟩:=hc i hi
 refine ⟨a,c,?_,?_,?_,?_,h4⟩
 ·rw [hr.cell (by omega),h0]
 ·rw [hr.cell (by omega),h1]
 ·rw [hr.cell (by omega),h2]
 ·rw [hr.cell (by omega),h3]
def pgc (m0 m1 n d:Nat) (h4 h5 h6:Int) (v7 v8:Value) (i:Nat):Value :=
 if i = 0 then .int .i64 m0 else if i = 1 then .int .i64 m1 else if i = 2 then .int .i64 n else if i = 3 then .int .i64 d else if i = 4 then .int .i64 h4 else if i = 5 then .int .i64 h5 else if i = 6 then .int .i64 h6 else if i = 7 then v7 else v8
def PageAt (w:World) (p m0 m1 n d:Nat) (h4 h5 h6:Int) (ks vs:List (Int × Int × List Int)):Prop :=
 ∃ g1 g2,w.rowIs p 176 9 (pgc m0 m1 n d h4 h5 h6 (.slice (some ⟨g1,0,none⟩) d d) (.slice (some ⟨g2,0,none⟩) n n)) /\ Pks w g1 m0 ks /\ Pks w g2 m1 vs /\ Pg.Page [(m0:Int),m1,n,d,h4,h5,h6] ks vs
theorem PageAt.keep {w w':World} {p m0 m1 n d:Nat} {h4 h5 h6:Int} {ks vs:List (Int × Int × List Int)} (h:PageAt w p m0 m1 n d h4 h5 h6 ks vs) (hb:Below w.heap.size w w'):PageAt w' p m0 m1 n d h4 h5 h6 ks vs:=by
 obtain ⟨g1,g2,hr,hk,hv,hp⟩:=h
 exact ⟨g1,g2,row_keep hr hb,hk.keep hb,hv.keep hb,hp⟩
theorem PageAt.lt {w:World} {p m0 m1 n d:Nat} {h4 h5 h6:Int} {ks vs:List (Int × Int × List Int)} (h:PageAt w p m0 m1 n d h4 h5 h6 ks vs):p < w.heap.size:=by
 obtain ⟨g1,g2,hr,_⟩:=h
 exact hr.lt
end Go.Proofs.YtnchnlgnnlgjcaaGreat
