import Derived.Test.YtnchnlgnnlgjcaaGreatCa07
import Derived.Test.YtnchnlgnnlgjcaaGreatCa04
import Derived.Test.YtnchnlgnnlgjcaaGreatCa01
import Derived.Laws.OwnMore
set_option linter.unusedVariables false
set_option linter.unusedSimpArgs false
namespace Go.Proofs.YtnchnlgnnlgjcaaGreat
open Go.RowKit
attribute [local go_sem ↓] Go.wp_at_zero Go.wp_at_succ
def Pg.tab (n d:Nat) (F:Nat->Nat->Int):List (List Int):=(List.range n).map fun t=>Ls.gen d (F t)
theorem Pg.tab_length (n d:Nat) (F:Nat->Nat->Int):(Pg.tab n d F).length=n:=by simp [Pg.tab]
theorem Pg.row_tab {n d t:Nat} {F:Nat->Nat->Int} (h:t<n):Tb.row (Pg.tab n d F) t=Ls.gen d (F t):=Tb.row_map_range _ h
set_option maxRecDepth 100000 in
set_option maxHeartbeats 1600000 in
theorem tokensKey_any (p m0 m1 n0 d0:Nat) (h4 h5 h6:Int) (ks vs:List (Int × Int × List Int)) (w:World) (h:PageAt w p m0 m1 n0 d0 h4 h5 h6 ks vs) :
 Calls Tryz.prog 100 #[.pointer (some ⟨p,0,none⟩),.func (.func 101) #[.pointer (some ⟨p,0,none⟩)] #[]] w fun e w'=>∃ g B,e=.returned (.slice (some ⟨g,0,none⟩) n0 n0)/\w.heap.size<=g/\TRow w' g 74 n0 (Pg.tab n0 d0 (Pg.keyAt ks)) n0 B/\Below w.heap.size w w':=by
 obtain ⟨k0,k1,b1,b2,b3,b4,_⟩:=Pg.page_nums h.page
 obtain ⟨g1,g2,⟨_,_,x2,x3,_,_,_⟩,_⟩:=h.cells
 have H:Hid (PageAt w p m0 m1 n0 d0 h4 h5 h6 ks vs):=h
 have hpl:=h.lt
 have hmk:=run_make_row' (P:=Tryz.prog) 42 74 (.slice none 0 0) 24 Tryz.underlying42 Tryz.infoRow32 rfl .i64 .i64 n0 (by omega) (by omega)
 have hmr:=run_make_row' (P:=Tryz.prog) 74 21 (.int .i32 0) 4 Tryz.underlying74 Tryz.infoInt32 rfl .i64 .i64 d0 (by omega) (by omega)
 clear h k0 k1 x3
 go_enter Tryz.func100,Tryz.ntmps100
 go_wp2
 clear hmk x2
 go_loopw [16] (fun i wr=>∃ k:Nat,k<=n0/\i=.int .i64 k/\TRow wr w.heap.size 74 n0 (Pg.tab n0 d0 (Pg.keyAt ks)) k wr.heap.size/\Below w.heap.size w wr) (fun i _=>n0 - (intOf i).toNat)
 case atStart=>exact ⟨0,Nat.zero_le _,rfl,⟨_,World.rowIs_made w (.slice none 0 0) n0 74,fun i hi=>by omega⟩,(Below.refl _ _).alloc (Nat.le_refl _) _⟩
 case round =>
  obtain ⟨k,hk,rfl,hrow,hbel⟩:=hrel
  by_cases hlt:k<n0
  ·obtain ⟨S,eS⟩:∃ S,wr.heap.size=S:=⟨_,rfl⟩
   have hgS:w.heap.size<S:=by rw [<-eS];exact hrow.lt
   obtain ⟨f,hr⟩:=hrow.room
   have r0:=hr.cell hlt
   have s0:=hr.frozen k
   rw [eS] at hrow
   have hmr2:=hmr wr
   rw [eS] at hmr2
   obtain ⟨_,_,⟨_,_,_,x3,_,_,_⟩,_⟩:=(H.out.keep hbel).cells
   obtain ⟨T1,C1⟩:=hrow.top hlt (.slice (some ⟨S,0,none⟩) d0 d0)
   have eS2:(wr.setCell ⟨w.heap.size,k,none⟩ (.slice (some ⟨S,0,none⟩) d0 d0)).heap.size=S:=by rw [<-eS];simp [World.setCell]
   have C2:((wr.setCell ⟨w.heap.size,k,none⟩ (.slice (some ⟨S,0,none⟩) d0 d0)).alloc (.cells (madeCells #[.int .i32 0] d0) 21)).cell? ⟨w.heap.size,k,none⟩=some (.slice (some ⟨S,0,none⟩) d0 d0):=by
    rw [(box_below _ _).cell (p:=⟨w.heap.size,k,none⟩) (by rw [eS2];exact hgS)]
    exact C1
   have R1:((wr.setCell ⟨w.heap.size,k,none⟩ (.slice (some ⟨S,0,none⟩) d0 d0)).alloc (.cells (madeCells #[.int .i32 0] d0) 21)).rowIs S 21 d0 (fun _=>.int .i32 0):=by
    have:=World.rowIs_made (wr.setCell ⟨w.heap.size,k,none⟩ (.slice (some ⟨S,0,none⟩) d0 d0)) (.int .i32 0) d0 21
    rw [eS2] at this
    exact this
   have B1:Below w.heap.size w ((wr.setCell ⟨w.heap.size,k,none⟩ (.slice (some ⟨S,0,none⟩) d0 d0)).alloc (.cells (madeCells #[.int .i32 0] d0) 21)):=(hbel.setCell (by simp) _).alloc (by rw [eS2];omega) _
   have ALL:Hid (TRow ((wr.setCell ⟨w.heap.size,k,none⟩ (.slice (some ⟨S,0,none⟩) d0 d0)).alloc (.cells (madeCells #[.int .i32 0] d0) 21)) w.heap.size 74 n0 (Pg.tab n0 d0 (Pg.keyAt ks)) k S/\((wr.setCell ⟨w.heap.size,k,none⟩ (.slice (some ⟨S,0,none⟩) d0 d0)).alloc (.cells (madeCells #[.int .i32 0] d0) 21)).cell? ⟨w.heap.size,k,none⟩=some (.slice (some ⟨S,0,none⟩) d0 d0)/\((wr.setCell ⟨w.heap.size,k,none⟩ (.slice (some ⟨S,0,none⟩) d0 d0)).alloc (.cells (madeCells #[.int .i32 0] d0) 21)).rowIs S 21 d0 (fun _=>.int .i32 0)/\Below w.heap.size w ((wr.setCell ⟨w.heap.size,k,none⟩ (.slice (some ⟨S,0,none⟩) d0 d0)).alloc (.cells (madeCells #[.int .i32 0] d0) 21))):=⟨T1.keep (box_below _ _),C2,R1,B1⟩
   have c2:=C2
   clear eS2 C2 T1 C1 R1 B1 hrow hbel hr hmr
   go_wp2
   clear hmr2 r0 s0 x3 c2
   go_loopw [33] (fun i wr=>∃ j:Nat,j<=d0/\i=.int .i64 j/\TRow wr w.heap.size 74 n0 (Pg.tab n0 d0 (Pg.keyAt ks)) k S/\wr.cell? ⟨w.heap.size,k,none⟩=some (.slice (some ⟨S,0,none⟩) d0 d0)/\wr.rowIs S 21 d0 (part (Pg.keyAt ks k) j)/\Below w.heap.size w wr) (fun i _=>d0 - (intOf i).toNat)
   case atStart=>exact ⟨0,Nat.zero_le _,rfl,ALL.out.1,ALL.out.2.1,ALL.out.2.2.1.congr (fun j hj=>by simp [part]),ALL.out.2.2.2⟩
   case round =>
    clear ALL eS
    obtain ⟨j,hj,rfl,htop,hcl,hrow,hbel⟩:=hrel
    by_cases hjl:j<d0
    ·obtain ⟨x,ex⟩:∃ x,Pg.keyAt ks k j=x:=⟨_,rfl⟩
     have EX:Hid (Pg.keyAt ks k j=x):=ex
     have HR:Hid (wr.rowIs S 21 d0 (part (Pg.keyAt ks k) j)):=hrow
     have HB:Hid (Below w.heap.size w wr):=hbel
     have HT:Hid (TRow wr w.heap.size 74 n0 (Pg.tab n0 d0 (Pg.keyAt ks)) k S):=htop
     have HC:Hid (∀ w',Below wr.heap.size wr w'->w'.cell? ⟨w.heap.size,k,none⟩=some (.slice (some ⟨S,0,none⟩) d0 d0)):=fun w' hb=>by
      rw [hb.cell (p:=⟨w.heap.size,k,none⟩) (World.block_lt_of_cell? wr _ hcl)];exact hcl
     clear hrow hbel htop ex
     have e0:(0:Int)<=(j:Int):=by omega
     have e1:(j:Int)<(d0:Int):=by omega
     have e2:(0:Int)<=(k:Int):=by omega
     have e3:(k:Int)<(n0:Int):=by omega
     go_wp2
     clear hcl
     go_region_held3 (fun w'=>w'.cell? ⟨w.heap.size,k,none⟩=some (.slice (some ⟨S,0,none⟩) d0 d0))
      (first
        | exact HC.out _ ((Below.refl wr.heap.size wr).drew)
        | exact HC.out _ hbc.out
        | exact HS.out _
        | assumption)
      (first
        | (go_at_call 101;refine (keyP_any p m0 m1 n0 d0 h4 h5 h6 ks vs k j x _ (H.out.keep (HB.out.trans ((Below.refl w.heap.size wr).drew))) hlt hjl EX.out).mono ?_;rintro e v ⟨rfl,hb⟩;have hbc:Hid (Below wr.heap.size wr v):=((Below.refl wr.heap.size wr).drew).trans hb;have RV:Hid (v.rowIs S 21 d0 (part (Pg.keyAt ks k) j)):=row_keep HR.out hbc.out;have hcg:=RV.out.cell hjl;have hfg:=RV.out.frozen j;have HS:Hid (∀ y,(v.setCell ⟨S,j,none⟩ y).cell? ⟨w.heap.size,k,none⟩=some (.slice (some ⟨S,0,none⟩) d0 d0)):=(fun y=>by rw [World.cell?_of_block (w:=v) (Go.Deep.blk_setCell_other _ _ _ _ (by show w.heap.size ≠ S;omega))];exact HC.out _ hbc.out);clear hb))
     all_goals go_wp2
     all_goals go_roundw
     case rel =>
      refine ⟨j+1,by omega,by go_num,(HT.out.keep hbc.out).other (by omega) (Nat.le_refl _) _,HS.out _,?_,(below_then HB.out hbc.out).setCell (by show w.heap.size<=S;omega) _⟩
      rw [<-EX.out]
      exact (RV.out.set j _).congr (fun q hq=>part_set _ j q)
     case measure=>simp [intOf];omega
    ·have ej:j=d0:=by omega
     subst ej
     have TT:Hid (TRow wr w.heap.size 74 n0 (Pg.tab n0 j (Pg.keyAt ks)) (k+1) wr.heap.size):=(htop.close hlt hcl (by omega) (Nat.le_refl _) (by rw [Pg.row_tab hlt,Ls.gen_length]) hrow (fun q hq=>by rw [part_lt hq,Pg.row_tab hlt,Ls.nth_gen hq])).mono (by have:=hrow.lt;omega)
     have HB:Hid (Below w.heap.size w wr):=hbel
     clear htop hcl hrow hbel
     go_wp2
     go_roundw
     case rel=>exact ⟨k+1,by omega,by go_num,TT.out,HB.out⟩
     case measure=>simp [intOf];omega
  ·have e:k=n0:=by omega
   subst e
   have T:Hid (TRow wr w.heap.size 74 k (Pg.tab k d0 (Pg.keyAt ks)) k wr.heap.size):=hrow
   have HB:Hid (Below w.heap.size w wr):=hbel
   clear hrow hbel hmr
   go_wp2
   go_ret
   exact ⟨w.heap.size,wr.heap.size,rfl,Nat.le_refl _,T.out,HB.out⟩
theorem keys_any (p m0 m1 n0 d0:Nat) (h4 h5 h6:Int) (ks vs:List (Int × Int × List Int)) (w:World) (h:PageAt w p m0 m1 n0 d0 h4 h5 h6 ks vs) :
 Calls Tryz.prog 64 #[.pointer (some ⟨p,0,none⟩)] w fun e w'=>∃ g B,e=.returned (.slice (some ⟨g,0,none⟩) n0 n0)/\w.heap.size<=g/\TRow w' g 74 n0 (Pg.tab n0 d0 (Pg.keyAt ks)) n0 B/\Below w.heap.size w w':=by
 have H:Hid (PageAt w p m0 m1 n0 d0 h4 h5 h6 ks vs):=h
 clear h
 go_enter Tryz.func64,Tryz.ntmps64
 go_wp2_with (go_at_call 100;refine (tokensKey_any p m0 m1 n0 d0 h4 h5 h6 ks vs _ H.out).mono ?_;rintro e v ⟨g,B,rfl,hg,ht,hb⟩;have R:Hid (w.heap.size<=g/\TRow v g 74 n0 (Pg.tab n0 d0 (Pg.keyAt ks)) n0 B/\Below w.heap.size w v):=⟨hg,ht,hb⟩;clear hg ht hb)
 go_ret
 exact ⟨g,B,rfl,R.out.1,R.out.2.1,R.out.2.2⟩
set_option maxRecDepth 100000 in
set_option maxHeartbeats 1600000 in
theorem tokensValue_any (p m0 m1 n0 d0:Nat) (h4 h5 h6:Int) (ks vs:List (Int × Int × List Int)) (w:World) (h:PageAt w p m0 m1 n0 d0 h4 h5 h6 ks vs) :
 Calls Tryz.prog 100 #[.pointer (some ⟨p,0,none⟩),.func (.func 102) #[.pointer (some ⟨p,0,none⟩)] #[]] w fun e w'=>∃ g B,e=.returned (.slice (some ⟨g,0,none⟩) n0 n0)/\w.heap.size<=g/\TRow w' g 74 n0 (Pg.tab n0 d0 (Pg.valAt vs)) n0 B/\Below w.heap.size w w':=by
 obtain ⟨k0,k1,b1,b2,b3,b4,_⟩:=Pg.page_nums h.page
 obtain ⟨g1,g2,⟨_,_,x2,x3,_,_,_⟩,_⟩:=h.cells
 have H:Hid (PageAt w p m0 m1 n0 d0 h4 h5 h6 ks vs):=h
 have hpl:=h.lt
 have hmk:=run_make_row' (P:=Tryz.prog) 42 74 (.slice none 0 0) 24 Tryz.underlying42 Tryz.infoRow32 rfl .i64 .i64 n0 (by omega) (by omega)
 have hmr:=run_make_row' (P:=Tryz.prog) 74 21 (.int .i32 0) 4 Tryz.underlying74 Tryz.infoInt32 rfl .i64 .i64 d0 (by omega) (by omega)
 clear h k0 k1 x3
 go_enter Tryz.func100,Tryz.ntmps100
 go_wp2
 clear hmk x2
 go_loopw [16] (fun i wr=>∃ k:Nat,k<=n0/\i=.int .i64 k/\TRow wr w.heap.size 74 n0 (Pg.tab n0 d0 (Pg.valAt vs)) k wr.heap.size/\Below w.heap.size w wr) (fun i _=>n0 - (intOf i).toNat)
 case atStart=>exact ⟨0,Nat.zero_le _,rfl,⟨_,World.rowIs_made w (.slice none 0 0) n0 74,fun i hi=>by omega⟩,(Below.refl _ _).alloc (Nat.le_refl _) _⟩
 case round =>
  obtain ⟨k,hk,rfl,hrow,hbel⟩:=hrel
  by_cases hlt:k<n0
  ·obtain ⟨S,eS⟩:∃ S,wr.heap.size=S:=⟨_,rfl⟩
   have hgS:w.heap.size<S:=by rw [<-eS];exact hrow.lt
   obtain ⟨f,hr⟩:=hrow.room
   have r0:=hr.cell hlt
   have s0:=hr.frozen k
   rw [eS] at hrow
   have hmr2:=hmr wr
   rw [eS] at hmr2
   obtain ⟨_,_,⟨_,_,_,x3,_,_,_⟩,_⟩:=(H.out.keep hbel).cells
   obtain ⟨T1,C1⟩:=hrow.top hlt (.slice (some ⟨S,0,none⟩) d0 d0)
   have eS2:(wr.setCell ⟨w.heap.size,k,none⟩ (.slice (some ⟨S,0,none⟩) d0 d0)).heap.size=S:=by rw [<-eS];simp [World.setCell]
   have C2:((wr.setCell ⟨w.heap.size,k,none⟩ (.slice (some ⟨S,0,none⟩) d0 d0)).alloc (.cells (madeCells #[.int .i32 0] d0) 21)).cell? ⟨w.heap.size,k,none⟩=some (.slice (some ⟨S,0,none⟩) d0 d0):=by
    rw [(box_below _ _).cell (p:=⟨w.heap.size,k,none⟩) (by rw [eS2];exact hgS)]
    exact C1
   have R1:((wr.setCell ⟨w.heap.size,k,none⟩ (.slice (some ⟨S,0,none⟩) d0 d0)).alloc (.cells (madeCells #[.int .i32 0] d0) 21)).rowIs S 21 d0 (fun _=>.int .i32 0):=by
    have:=World.rowIs_made (wr.setCell ⟨w.heap.size,k,none⟩ (.slice (some ⟨S,0,none⟩) d0 d0)) (.int .i32 0) d0 21
    rw [eS2] at this
    exact this
   have B1:Below w.heap.size w ((wr.setCell ⟨w.heap.size,k,none⟩ (.slice (some ⟨S,0,none⟩) d0 d0)).alloc (.cells (madeCells #[.int .i32 0] d0) 21)):=(hbel.setCell (by simp) _).alloc (by rw [eS2];omega) _
   have ALL:Hid (TRow ((wr.setCell ⟨w.heap.size,k,none⟩ (.slice (some ⟨S,0,none⟩) d0 d0)).alloc (.cells (madeCells #[.int .i32 0] d0) 21)) w.heap.size 74 n0 (Pg.tab n0 d0 (Pg.valAt vs)) k S/\((wr.setCell ⟨w.heap.size,k,none⟩ (.slice (some ⟨S,0,none⟩) d0 d0)).alloc (.cells (madeCells #[.int .i32 0] d0) 21)).cell? ⟨w.heap.size,k,none⟩=some (.slice (some ⟨S,0,none⟩) d0 d0)/\((wr.setCell ⟨w.heap.size,k,none⟩ (.slice (some ⟨S,0,none⟩) d0 d0)).alloc (.cells (madeCells #[.int .i32 0] d0) 21)).rowIs S 21 d0 (fun _=>.int .i32 0)/\Below w.heap.size w ((wr.setCell ⟨w.heap.size,k,none⟩ (.slice (some ⟨S,0,none⟩) d0 d0)).alloc (.cells (madeCells #[.int .i32 0] d0) 21))):=⟨T1.keep (box_below _ _),C2,R1,B1⟩
   have c2:=C2
   clear eS2 C2 T1 C1 R1 B1 hrow hbel hr hmr
   go_wp2
   clear hmr2 r0 s0 x3 c2
   go_loopw [33] (fun i wr=>∃ j:Nat,j<=d0/\i=.int .i64 j/\TRow wr w.heap.size 74 n0 (Pg.tab n0 d0 (Pg.valAt vs)) k S/\wr.cell? ⟨w.heap.size,k,none⟩=some (.slice (some ⟨S,0,none⟩) d0 d0)/\wr.rowIs S 21 d0 (part (Pg.valAt vs k) j)/\Below w.heap.size w wr) (fun i _=>d0 - (intOf i).toNat)
   case atStart=>exact ⟨0,Nat.zero_le _,rfl,ALL.out.1,ALL.out.2.1,ALL.out.2.2.1.congr (fun j hj=>by simp [part]),ALL.out.2.2.2⟩
   case round =>
    clear ALL eS
    obtain ⟨j,hj,rfl,htop,hcl,hrow,hbel⟩:=hrel
    by_cases hjl:j<d0
    ·obtain ⟨x,ex⟩:∃ x,Pg.valAt vs k j=x:=⟨_,rfl⟩
     have EX:Hid (Pg.valAt vs k j=x):=ex
     have HR:Hid (wr.rowIs S 21 d0 (part (Pg.valAt vs k) j)):=hrow
     have HB:Hid (Below w.heap.size w wr):=hbel
     have HT:Hid (TRow wr w.heap.size 74 n0 (Pg.tab n0 d0 (Pg.valAt vs)) k S):=htop
     have HC:Hid (∀ w',Below wr.heap.size wr w'->w'.cell? ⟨w.heap.size,k,none⟩=some (.slice (some ⟨S,0,none⟩) d0 d0)):=fun w' hb=>by
      rw [hb.cell (p:=⟨w.heap.size,k,none⟩) (World.block_lt_of_cell? wr _ hcl)];exact hcl
     clear hrow hbel htop ex
     have e0:(0:Int)<=(j:Int):=by omega
     have e1:(j:Int)<(d0:Int):=by omega
     have e2:(0:Int)<=(k:Int):=by omega
     have e3:(k:Int)<(n0:Int):=by omega
     go_wp2
     clear hcl
     go_region_held3 (fun w'=>w'.cell? ⟨w.heap.size,k,none⟩=some (.slice (some ⟨S,0,none⟩) d0 d0))
      (first
        | exact HC.out _ ((Below.refl wr.heap.size wr).drew)
        | exact HC.out _ hbc.out
        | exact HS.out _
        | assumption)
      (first
        | (go_at_call 102;refine (valueP_any p m0 m1 n0 d0 h4 h5 h6 ks vs k j x _ (H.out.keep (HB.out.trans ((Below.refl w.heap.size wr).drew))) hlt hjl EX.out).mono ?_;rintro e v ⟨rfl,hb⟩;have hbc:Hid (Below wr.heap.size wr v):=((Below.refl wr.heap.size wr).drew).trans hb;have RV:Hid (v.rowIs S 21 d0 (part (Pg.valAt vs k) j)):=row_keep HR.out hbc.out;have hcg:=RV.out.cell hjl;have hfg:=RV.out.frozen j;have HS:Hid (∀ y,(v.setCell ⟨S,j,none⟩ y).cell? ⟨w.heap.size,k,none⟩=some (.slice (some ⟨S,0,none⟩) d0 d0)):=(fun y=>by rw [World.cell?_of_block (w:=v) (Go.Deep.blk_setCell_other _ _ _ _ (by show w.heap.size ≠ S;omega))];exact HC.out _ hbc.out);clear hb))
     all_goals go_wp2
     all_goals go_roundw
     case rel =>
      refine ⟨j+1,by omega,by go_num,(HT.out.keep hbc.out).other (by omega) (Nat.le_refl _) _,HS.out _,?_,(below_then HB.out hbc.out).setCell (by show w.heap.size<=S;omega) _⟩
      rw [<-EX.out]
      exact (RV.out.set j _).congr (fun q hq=>part_set _ j q)
     case measure=>simp [intOf];omega
    ·have ej:j=d0:=by omega
     subst ej
     have TT:Hid (TRow wr w.heap.size 74 n0 (Pg.tab n0 j (Pg.valAt vs)) (k+1) wr.heap.size):=(htop.close hlt hcl (by omega) (Nat.le_refl _) (by rw [Pg.row_tab hlt,Ls.gen_length]) hrow (fun q hq=>by rw [part_lt hq,Pg.row_tab hlt,Ls.nth_gen hq])).mono (by have:=hrow.lt;omega)
     have HB:Hid (Below w.heap.size w wr):=hbel
     clear htop hcl hrow hbel
     go_wp2
     go_roundw
     case rel=>exact ⟨k+1,by omega,by go_num,TT.out,HB.out⟩
     case measure=>simp [intOf];omega
  ·have e:k=n0:=by omega
   subst e
   have T:Hid (TRow wr w.heap.size 74 k (Pg.tab k d0 (Pg.valAt vs)) k wr.heap.size):=hrow
   have HB:Hid (Below w.heap.size w wr):=hbel
   clear hrow hbel hmr
   go_wp2
   go_ret
   exact ⟨w.heap.size,wr.heap.size,rfl,Nat.le_refl _,T.out,HB.out⟩
theorem values_any (p m0 m1 n0 d0:Nat) (h4 h5 h6:Int) (ks vs:List (Int × Int × List Int)) (w:World) (h:PageAt w p m0 m1 n0 d0 h4 h5 h6 ks vs) :
 Calls Tryz.prog 65 #[.pointer (some ⟨p,0,none⟩)] w fun e w'=>∃ g B,e=.returned (.slice (some ⟨g,0,none⟩) n0 n0)/\w.heap.size<=g/\TRow w' g 74 n0 (Pg.tab n0 d0 (Pg.valAt vs)) n0 B/\Below w.heap.size w w':=by
 have H:Hid (PageAt w p m0 m1 n0 d0 h4 h5 h6 ks vs):=h
 clear h
 go_enter Tryz.func65,Tryz.ntmps65
 go_wp2_with (go_at_call 100;refine (tokensValue_any p m0 m1 n0 d0 h4 h5 h6 ks vs _ H.out).mono ?_;rintro e v ⟨g,B,rfl,hg,ht,hb⟩;have R:Hid (w.heap.size<=g/\TRow v g 74 n0 (Pg.tab n0 d0 (Pg.valAt vs)) n0 B/\Below w.heap.size w v):=⟨hg,ht,hb⟩;clear hg ht hb)
 go_ret
 exact ⟨g,B,rfl,R.out.1,R.out.2.1,R.out.2.2⟩
end Go.Proofs.YtnchnlgnnlgjcaaGreat
namespace Go.Proofs.YtnchnlgnnlgjcaaGreat
open Go.RowKit
attribute [local go_sem ↓] Go.wp_at_zero Go.wp_at_succ
theorem own_mono {w:World} {base base':Nat} {t:TypeId} {v:Value} {n:Nat} {xs:List Value} (h:w.ownsRow base t 1 v n xs) (hb:base'<=base):w.ownsRow base' t 1 v n xs:=by
 refine ⟨h.1,?_⟩
 rcases h.2 with h0 | ⟨g,cap,cur,e,h1,h2,h3⟩
 ·exact Or.inl h0
 ·exact Or.inr ⟨g,cap,cur,e,by omega,h2,h3⟩
end Go.Proofs.YtnchnlgnnlgjcaaGreat
namespace Go.Proofs.YtnchnlgnnlgjcaaGreat
open Go.RowKit
def Ty (w:World) (j:Nat) (t:TypeId):Prop:=∃ cs fz,w.heap[j]?=some (.cells cs t fz)
theorem Ty.ne {w:World} {i j:Nat} {s t:TypeId} (h:Ty w i s) (k:Ty w j t) (e:¬ s=t):¬ i=j:=fun q=>by
 subst q
 obtain ⟨a,f,h⟩:=h
 obtain ⟨b,g,k⟩:=k
 rw [h] at k
 cases k
 exact e rfl
theorem ty_row {w:World} {b:Nat} {t:TypeId} {n:Nat} {f:Nat->Value} (h:w.rowIs b t n f):Ty w b t:=by
 obtain ⟨c,e,_⟩:=h
 exact ⟨c,_,e⟩
theorem ty_own {w:World} {base s:Nat} {t:TypeId} {v:Value} {n:Nat} {xs:List Value} (h:w.ownsRow base t s v n xs) {q:Nat} (hq:v.ownBlock=some q):Ty w q t:=by
 rcases h.2 with ⟨rfl,_⟩ | ⟨g,cap,cur,rfl,_,hg,_⟩
 ·cases hq
 ·cases hq;exact ⟨cur,_,hg⟩
theorem Ty.lt {w:World} {j:Nat} {t:TypeId} (h:Ty w j t):j<w.heap.size:=by
 obtain ⟨c,f,e⟩:=h
 exact (Array.getElem?_eq_some_iff.1 e).1
theorem Ty.of_block {w w':World} {j:Nat} {t:TypeId} (h:Ty w j t) (e:w'.heap[j]?=w.heap[j]?):Ty w' j t:=by
 obtain ⟨c,f,h⟩:=h
 exact ⟨c,f,e.trans h⟩
theorem PoolAt.stand {w w':World} {g b n:Nat} {R M:List Int} (h:PoolAt w g b n R M) (hk:∀ j,Ty w j 99\/Ty w j 133\/Ty w j 176->w'.heap[j]?=w.heap[j]?):PoolAt w' g b n R M:=by
 obtain ⟨P,h1,h2,h3,h4,h5,h6,h7,h8⟩:=h
 refine ⟨P,h1.of_block (hk _ (.inl (ty_row h1))),h2.of_block (hk _ (.inr (.inl (ty_row h2)))),h3,h4,h5,h6,h7,fun i hi hr=>?_⟩
 obtain ⟨q,e,n1,n2,hq⟩:=h8 i hi hr
 refine ⟨q,e,n1,n2,hq.of_block (hk _ (.inr (.inr ?_)))⟩
 obtain ⟨_,f,hr'⟩:=hq
 exact ty_row hr'
theorem PoolAt.tys {w:World} {g b n:Nat} {R M:List Int} (h:PoolAt w g b n R M):Ty w g 99/\Ty w b 133:=by
 obtain ⟨P,h1,h2,_⟩:=h
 exact ⟨ty_row h1,ty_row h2⟩
theorem PoolAt.far {w:World} {g b n:Nat} {R M:List Int} (h:PoolAt w g b n R M) {H:Nat} {t:TypeId} (ht:Ty w H t) (e1:¬ t=99) (e2:¬ t=133) (e3:¬ t=176) (o:Nat) (y:Value):PoolAt (w.setCell ⟨H,o,none⟩ y) g b n R M :=
 h.stand fun j hj=>by
  apply Below.heap_setCell
  show j ≠ H
  rcases hj with q | q | q
  ·exact fun e=>Ty.ne q ht (fun e=>e1 e.symm) e
  ·exact fun e=>Ty.ne q ht (fun e=>e2 e.symm) e
  ·exact fun e=>Ty.ne q ht (fun e=>e3 e.symm) e
def RowAt (w:World) (v:Value) (l:List Int):Prop:=w.ownsRow 0 3 1 v l.length (l.map (Value.int .i64))
theorem RowAt.of_block {w w':World} {v:Value} {l:List Int} (h:RowAt w v l) (hb:∀ q,v.ownBlock=some q->w'.heap[q]?=w.heap[q]?):RowAt w' v l:=own_at h hb
theorem row_none (w:World):RowAt w (.slice none 0 0) []:=World.ownsRow_nil _ _ _ _
theorem RowAt.slice {w:World} {v:Value} {l:List Int} (h:RowAt w v l):∃ A C,v=.slice A l.length C/\Lst .i64 w A l/\(A=none->C=0)/\∀ x,A=some x->v.ownBlock=some x.block:=by
 obtain ⟨A,C,e,hl,_⟩:=lst_of_own h
 refine ⟨A,C,e,hl,own_none h e,fun x ex=>?_⟩
 subst ex
 rw [e];rfl
def Rws (w:World) (v:Value) (m:Nat) (L:Nat->List Int) (Q:Nat->Prop):Prop :=
 (v=.slice none 0 0/\m=0) \/
 ∃ d c F,v=.slice (some ⟨d,0,none⟩) m c/\m<=c/\w.rowIs d 70 c F/\Q d/\(∀ j,j<m->RowAt w (F j) (L j))/\(∀ j,j<m->∀ q,(F j).ownBlock=some q->Q q) /\
   ∀ i j q,i<m->j<m->(F i).ownBlock=some q->(F j).ownBlock=some q->i=j
theorem Rws.stand {w w':World} {v:Value} {m:Nat} {L:Nat->List Int} {Q:Nat->Prop} (h:Rws w v m L Q) (hk:∀ q,Q q->Ty w q 70\/Ty w q 3->w'.heap[q]?=w.heap[q]?):Rws w' v m L Q:=by
 rcases h with h | ⟨d,c,F,e,hc,hr,hd,h1,h2,h3⟩
 ·exact .inl h
 ·exact .inr ⟨d,c,F,e,hc,hr.of_block (hk d hd (.inl (ty_row hr))),hd,fun j hj=>(h1 j hj).of_block fun q hq=>hk q (h2 j hj q hq) (.inr (ty_own (h1 j hj) hq)),h2,h3⟩
theorem Rws.keep {w w':World} {v:Value} {m:Nat} {L:Nat->List Int} {Q:Nat->Prop} (h:Rws w v m L Q) (hb:Below w.heap.size w w'):Rws w' v m L Q:=h.stand fun q _ ht=>hb.block q (by rcases ht with t | t <;> exact t.lt)
theorem Rws.mono {w:World} {v:Value} {m:Nat} {L:Nat->List Int} {Q Q':Nat->Prop} (h:Rws w v m L Q) (hq:∀ q,q<w.heap.size->Q q->Q' q):Rws w v m L Q':=by
 rcases h with h | ⟨d,c,F,e,hc,hr,hd,h1,h2,h3⟩
 ·exact .inl h
 ·exact .inr ⟨d,c,F,e,hc,hr,hq d hr.lt hd,h1,fun j hj q ho=>hq q (ty_own (h1 j hj) ho).lt (h2 j hj q ho),h3⟩
theorem Rws.congr {w:World} {v:Value} {m:Nat} {L L':Nat->List Int} {Q:Nat->Prop} (h:Rws w v m L Q) (hl:∀ j,j<m->L j=L' j):Rws w v m L' Q:=by
 rcases h with h | ⟨d,c,F,e,hc,hr,hd,h1,h2,h3⟩
 ·exact .inl h
 ·exact .inr ⟨d,c,F,e,hc,hr,hd,fun j hj=>by rw [<-hl j hj];exact h1 j hj,h2,h3⟩
theorem Rws.slice {w:World} {v:Value} {m:Nat} {L:Nat->List Int} {Q:Nat->Prop} (h:Rws w v m L Q):∃ a c,v=.slice a m c:=by
 rcases h with ⟨h,hm⟩ | ⟨d,c,F,e,_⟩
 ·exact ⟨none,0,by rw [hm];exact h⟩
 ·exact ⟨_,c,e⟩
theorem Rws.cell {w:World} {v:Value} {m:Nat} {L:Nat->List Int} {Q:Nat->Prop} (h:Rws w v m L Q) {j:Nat} (hj:j<m) :
 ∃ d c A C,v=.slice (some ⟨d,0,none⟩) m c/\w.cell? ⟨d,j,none⟩=some (.slice A (L j).length C)/\RowAt w (.slice A (L j).length C) (L j)/\Lst .i64 w A (L j)/\(A=none->C=0):=by
 rcases h with ⟨_,hm⟩ | ⟨d,c,F,e,hc,hr,hd,h1,_⟩
 ·omega
 ·obtain ⟨A,C,e1,hl,hn,_⟩:=(h1 j hj).slice
  have hcell:=hr.cell (show j<c by omega)
  have hj1:=h1 j hj
  rw [e1] at hcell hj1
  exact ⟨d,c,A,C,e,hcell,hj1,hl,hn⟩
theorem rws_made {w:World} {d n:Nat} {Q:Nat->Prop} (h:w.rowIs d 70 n (fun _=>.slice none 0 0)) (hd:Q d):Rws w (.slice (some ⟨d,0,none⟩) n n) n (fun _=>[]) Q :=
 .inr ⟨d,n,_,rfl,Nat.le_refl _,h,hd,fun j _=>row_none w,fun j _ q e=>absurd (show (none:Option Nat)=some q from e) (by simp),fun i j q _ _ e=>absurd (show (none:Option Nat)=some q from e) (by simp)⟩
theorem Rws.more {w w':World} {d m c j:Nat} {L:Nat->List Int} {Q:Nat->Prop} (h:Rws w (.slice (some ⟨d,0,none⟩) m c) m L Q) (hj:j<m) {v0 v1:Value} (hv:w.cell? ⟨d,j,none⟩=some v0)
 {l:List Int} (hnew:RowAt w' v1 l) (hat:∀ g,v1.ownBlock=some g->v0.ownBlock=some g\/w.heap.size<=g)
 (hk:∀ q,q<w.heap.size->¬ v0.ownBlock=some q->w'.heap[q]?=w.heap[q]?):Rws (w'.setCell ⟨d,j,none⟩ v1) (.slice (some ⟨d,0,none⟩) m c) m (Bk.up L j l) (fun q=>Q q\/w.heap.size<=q):=by
 rcases h with ⟨h,hm⟩ | ⟨d',c',F,e,hc,hr,hd,h1,h2,h3⟩
 ·cases h
 ·cases e
  have hv0:v0=F j:=by have:=hr.cell (show j<c by omega);rw [this] at hv;cases hv;rfl
  subst hv0
  have td:=ty_row hr
  have nd:∀ q,(F j).ownBlock=some q->¬ q=d:=fun q hq=>(ty_own (h1 j hj) hq).ne td (by decide)
  have hr':w'.rowIs d 70 c F:=hr.of_block (hk d hr.lt (fun e=>nd d e rfl))
  have gd:∀ g,v1.ownBlock=some g->¬ g=d:=fun g hg=>by
   rcases hat g hg with q | q
   ·exact nd g q
   ·have:=hr.lt;omega
  refine .inr ⟨d,c,fun i=>if i=j then v1 else F i,rfl,hc,hr'.set j v1,.inl hd,fun i hi=>?_,fun i hi q hq=>?_,fun i i2 q hi hi2 ei ei2=>?_⟩
  ·by_cases e:i=j
   ·show RowAt _ (if i=j then v1 else F i) (Bk.up L j l i)
    rw [if_pos e,e,Bk.up_at]
    exact hnew.of_block fun q hq=>Below.heap_setCell _ _ _ _ (show q ≠ d from gd q hq)
   ·show RowAt _ (if i=j then v1 else F i) (Bk.up L j l i)
    rw [if_neg e,Bk.up_off L l e]
    refine (h1 i hi).of_block fun q hq=>?_
    rw [Below.heap_setCell _ _ _ _ (show q ≠ d from (ty_own (h1 i hi) hq).ne td (by decide))]
    exact hk q (ty_own (h1 i hi) hq).lt fun e2=>e (h3 i j q hi hj hq e2)
  ·have hq:(if i=j then v1 else F i).ownBlock=some q:=hq
   show Q q\/_
   by_cases e:i=j
   ·rw [if_pos e] at hq
    rcases hat q hq with q1 | q1
    ·exact .inl (h2 j hj _ q1)
    ·exact .inr q1
   ·rw [if_neg e] at hq
    exact .inl (h2 i hi q hq)
  ·have far:∀ t,¬ t=j->t<m->(F t).ownBlock=some q->v1.ownBlock=some q->False:=fun t nt ht et ev=>by
    rcases hat q ev with q1 | q1
    ·exact nt (h3 t j q ht hj et q1)
    ·have:=(ty_own (h1 t ht) et).lt;omega
   have ei:(if i=j then v1 else F i).ownBlock=some q:=ei
   have ei2:(if i2=j then v1 else F i2).ownBlock=some q:=ei2
   by_cases e:i=j
   ·by_cases e2:i2=j
    ·rw [e,e2]
    ·rw [if_pos e] at ei
     rw [if_neg e2] at ei2
     exact (far i2 e2 hi2 ei2 ei).elim
   ·rw [if_neg e] at ei
    by_cases e2:i2=j
    ·rw [if_pos e2] at ei2
     exact (far i e hi ei ei2).elim
    ·rw [if_neg e2] at ei2
     exact h3 i i2 q hi hi2 ei ei2
def tbc (g r m:Nat) (i:Nat):Value:=if i=0 then .pointer (some ⟨g,0,none⟩) else .slice (some ⟨r,0,none⟩) m m
def Tab (w:World) (g T m:Nat) (L:Nat->List Int) (Q:Nat->Prop):Prop :=
 ∃ r,w.rowIs T 151 2 (tbc g r m)/\Rws w (.slice (some ⟨r,0,none⟩) m m) m L Q
theorem Tab.stand {w w':World} {g T m:Nat} {L:Nat->List Int} {Q:Nat->Prop} (h:Tab w g T m L Q) (ht:w'.heap[T]?=w.heap[T]?) (hk:∀ q,Q q->Ty w q 70\/Ty w q 3->w'.heap[q]?=w.heap[q]?):Tab w' g T m L Q:=by
 obtain ⟨r,h1,h2⟩:=h
 exact ⟨r,h1.of_block ht,h2.stand hk⟩
theorem Tab.lt {w:World} {g T m:Nat} {L:Nat->List Int} {Q:Nat->Prop} (h:Tab w g T m L Q):T<w.heap.size:=by
 obtain ⟨r,h1,_⟩:=h
 exact h1.lt
theorem Tab.ty {w:World} {g T m:Nat} {L:Nat->List Int} {Q:Nat->Prop} (h:Tab w g T m L Q):Ty w T 151:=by
 obtain ⟨r,h1,_⟩:=h
 exact ty_row h1
theorem Tab.keep {w w':World} {g T m:Nat} {L:Nat->List Int} {Q:Nat->Prop} (h:Tab w g T m L Q) (hb:Below w.heap.size w w'):Tab w' g T m L Q:=by
 obtain ⟨r,h1,h2⟩:=h
 exact ⟨r,h1.of_block (hb.block T h1.lt),h2.keep hb⟩
theorem Tab.mono {w:World} {g T m:Nat} {L:Nat->List Int} {Q Q':Nat->Prop} (h:Tab w g T m L Q) (hq:∀ q,q<w.heap.size->Q q->Q' q):Tab w g T m L Q':=by
 obtain ⟨r,h1,h2⟩:=h
 exact ⟨r,h1,h2.mono hq⟩
theorem Tab.congr {w:World} {g T m:Nat} {L L':Nat->List Int} {Q:Nat->Prop} (h:Tab w g T m L Q) (hl:∀ j,j<m->L j=L' j):Tab w g T m L' Q:=by
 obtain ⟨r,h1,h2⟩:=h
 exact ⟨r,h1,h2.congr hl⟩
theorem Tab.cells {w:World} {g T m:Nat} {L:Nat->List Int} {Q:Nat->Prop} (h:Tab w g T m L Q) :
 ∃ r,w.cell? ⟨T,0,none⟩=some (.pointer (some ⟨g,0,none⟩))/\w.cell? ⟨T,1,none⟩=some (.slice (some ⟨r,0,none⟩) m m)/\Rws w (.slice (some ⟨r,0,none⟩) m m) m L Q:=by
 obtain ⟨r,h1,h2⟩:=h
 exact ⟨r,h1.cell (show 0<2 by decide),h1.cell (show 1<2 by decide),h2⟩
def ButQ (g b:Nat) (Q:Nat->Prop) (w w':World):Prop :=
 w'.os=w.os/\w'.tape=w.tape/\w'.output=w.output/\w.heap.size<=w'.heap.size/\∀ j,j<w.heap.size->¬ j=g->¬ j=b->¬ Q j->w'.heap[j]?=w.heap[j]?
theorem ButQ.refl (g b:Nat) (Q:Nat->Prop) (w:World):ButQ g b Q w w:=⟨rfl,rfl,rfl,Nat.le_refl _,fun _ _ _ _ _=>rfl⟩
theorem ButQ.trans {g b:Nat} {Q:Nat->Prop} {w v u:World} (h:ButQ g b Q w v) (k:ButQ g b Q v u):ButQ g b Q w u :=
 ⟨k.1.trans h.1,k.2.1.trans h.2.1,k.2.2.1.trans h.2.2.1,Nat.le_trans h.2.2.2.1 k.2.2.2.1,fun j h0 h1 h2 h3=>by rw [k.2.2.2.2 j (Nat.lt_of_lt_of_le h0 h.2.2.2.1) h1 h2 h3,h.2.2.2.2 j h0 h1 h2 h3]⟩
theorem ButQ.size {g b:Nat} {Q:Nat->Prop} {w v:World} (h:ButQ g b Q w v):w.heap.size<=v.heap.size:=h.2.2.2.1
theorem ButQ.of_below {g b:Nat} {Q:Nat->Prop} {w v:World} (h:Below w.heap.size w v):ButQ g b Q w v:=⟨h.os,h.tape,h.output,h.size,fun j hj _ _ _=>h.block j hj⟩
theorem ButQ.of_but2 {g b:Nat} {Q:Nat->Prop} {w v:World} (h:But2 g b w v):ButQ g b Q w v:=⟨h.1.os,h.1.tape,h.1.output,h.1.size,fun j hj h1 h2 _=>h.2 j hj h1 h2⟩
theorem ButQ.mono {g b:Nat} {Q Q':Nat->Prop} {w v:World} (h:ButQ g b Q w v) (hq:∀ q,q<w.heap.size->Q q->Q' q):ButQ g b Q' w v:=⟨h.1,h.2.1,h.2.2.1,h.2.2.2.1,fun j h0 h1 h2 h3=>h.2.2.2.2 j h0 h1 h2 fun q=>h3 (hq j h0 q)⟩
theorem ButQ.set {g b:Nat} {Q:Nat->Prop} {w v:World} (h:ButQ g b Q w v) {p:Addr} (hp:Q p.block\/w.heap.size<=p.block) (y:Value):ButQ g b Q w (v.setCell p y) :=
 ⟨((Below.refl 0 v).setCell (p:=p) (Nat.zero_le _) y).os.trans h.1,((Below.refl 0 v).setCell (p:=p) (Nat.zero_le _) y).tape.trans h.2.1,((Below.refl 0 v).setCell (p:=p) (Nat.zero_le _) y).output.trans h.2.2.1,Nat.le_trans h.2.2.2.1 ((Below.refl 0 v).setCell (p:=p) (Nat.zero_le _) y).size,fun j h0 h1 h2 h3=>by
   rw [Below.heap_setCell _ _ _ _ (show j ≠ p.block from fun e=>by subst e;rcases hp with q | q;exact h3 q;omega)];exact h.2.2.2.2 j h0 h1 h2 h3⟩
theorem ButQ.block {g b:Nat} {Q:Nat->Prop} {w v:World} (h:ButQ g b Q w v) {j:Nat} (h0:j<w.heap.size) (h1:¬ j=g) (h2:¬ j=b) (h3:¬ Q j):v.heap[j]?=w.heap[j]?:=h.2.2.2.2 j h0 h1 h2 h3
end Go.Proofs.YtnchnlgnnlgjcaaGreat
namespace Go.Proofs.YtnchnlgnnlgjcaaGreat
open Go.RowKit
namespace Rt
abbrev Tv:=(Option Addr × Nat × Nat) × (Option Addr × Nat × Nat)
def key (x:Tv):Value:=.slice x.1.1 x.1.2.1 x.1.2.2
def val (x:Tv):Value:=.slice x.2.1 x.2.2.1 x.2.2.2
def zero:Tv:=((none,0,0),(none,0,0))
def nth (l:List Tv) (i:Nat):Tv:=l.getD i zero
theorem nth_at {l:List Tv} {i:Nat} (h:i<l.length):nth l i=l[i]:=by simp [nth,h]
theorem nth_left {l r:List Tv} {i:Nat} (h:i<l.length):nth (l ++ r) i=nth l i:=by
 rw [nth_at h,nth_at (by simp;omega),List.getElem_append_left h]
theorem nth_last {l:List Tv} {x:Tv} {i:Nat} (h:i=l.length):nth (l ++ [x]) i=x:=by
 subst h
 rw [nth_at (by simp)]
 simp
theorem nth_take {l:List Tv} {i k:Nat} (h:i<k):nth (l.take k) i=nth l i:=by
 unfold nth
 simp [List.getElem?_take,h]
theorem nth_drop {l:List Tv} {i k:Nat}:nth (l.drop k) i=nth l (k+i):=by
 unfold nth
 simp [List.getElem?_drop]
theorem take_succ {l:List Tv} {k:Nat} (h:k<l.length):l.take (k+1)=l.take k ++ [nth l k]:=by
 rw [List.take_succ_eq_append_getElem h,nth_at h]
open Rn (pl pl_lt pl_inj pl_shift pl_zero)
theorem below_drewN {n:Nat} {a w:World} (h:Below n a w) (q:Nat):Below n a (w.drewN q):=h.trans ⟨rfl,rfl,rfl,Nat.le_refl _,fun _ _=>rfl⟩
theorem box_below (w:World) (o:Obj):Below w.heap.size w (w.alloc o):=(Below.refl _ _).alloc (Nat.le_refl _) _
def rc (r n f c:Nat) (i:Nat):Value:=if i=0 then .slice (some ⟨r,0,none⟩) n n else if i=1 then .int .i64 f else .int .i64 c
def RingAt (w:World) (g r n f:Nat) (l:List Tv):Prop :=
 ∃ F,w.rowIs g 154 3 (rc r n f l.length)/\w.rowIs r 111 (n*2) F/\l.length<=n/\n<=1024/\(f<n\/n=0/\f=0)/\∀ i,i<l.length->F (pl f n i*2)=key (nth l i)/\F (pl f n i*2+1)=val (nth l i)
theorem RingAt.of_block {w w':World} {g r n f:Nat} {l:List Tv} (h:RingAt w g r n f l) (h1:w'.heap[g]?=w.heap[g]?) (h2:w'.heap[r]?=w.heap[r]?):RingAt w' g r n f l:=by
 obtain ⟨F,a,b,c⟩:=h
 exact ⟨F,a.of_block h1,b.of_block h2,c⟩
theorem RingAt.lt {w:World} {g r n f:Nat} {l:List Tv} (h:RingAt w g r n f l):g<w.heap.size/\r<w.heap.size:=by
 obtain ⟨F,a,b,_⟩:=h
 exact ⟨a.lt,b.lt⟩
theorem RingAt.tys {w:World} {g r n f:Nat} {l:List Tv} (h:RingAt w g r n f l):Ty w g 154/\Ty w r 111:=by
 obtain ⟨F,a,b,_⟩:=h
 exact ⟨ty_row a,ty_row b⟩
theorem RingAt.ne {w:World} {g r n f:Nat} {l:List Tv} (h:RingAt w g r n f l):¬ g=r:=h.tys.1.ne h.tys.2 (by decide)
theorem RingAt.nums {w:World} {g r n f:Nat} {l:List Tv} (h:RingAt w g r n f l):l.length<=n/\n<=1024/\(f<n\/n=0/\f=0):=by
 obtain ⟨F,_,_,h1,h2,h3,_⟩:=h
 exact ⟨h1,h2,h3⟩
theorem RingAt.keep {w w':World} {g r n f:Nat} {l:List Tv} (h:RingAt w g r n f l) (hb:Below w.heap.size w w'):RingAt w' g r n f l :=
 h.of_block (hb.block _ h.lt.1) (hb.block _ h.lt.2)
theorem RingAt.cells {w:World} {g r n f:Nat} {l:List Tv} (h:RingAt w g r n f l) :
 w.cell? ⟨g,0,none⟩=some (.slice (some ⟨r,0,none⟩) n n)/\w.cell? ⟨g,1,none⟩=some (.int .i64 f)/\w.cell? ⟨g,2,none⟩=some (.int .i64 l.length)/\w.frozen? ⟨g,1,none⟩=false/\w.frozen? ⟨g,2,none⟩=false/\g<w.heap.size:=by
 obtain ⟨F,a,_⟩:=h
 exact ⟨a.cell (show 0<3 by decide),a.cell (show 1<3 by decide),a.cell (show 2<3 by decide),a.frozen 1,a.frozen 2,a.lt⟩
theorem RingAt.thing {w:World} {g r n f:Nat} {l:List Tv} (h:RingAt w g r n f l) {i:Nat} (hi:i<l.length):w.cell? ⟨r,pl f n i*2,none⟩=some (key (nth l i))/\w.cell? ⟨r,pl f n i*2+1,none⟩=some (val (nth l i)):=by
 obtain ⟨F,a,b,h1,h2,h3,h4⟩:=h
 have hp:pl f n i<n:=pl_lt (by omega)
 rw [<-(h4 i hi).1,<-(h4 i hi).2]
 exact ⟨b.cell (by omega),b.cell (by omega)⟩
def But (g r:Nat) (w w':World):Prop:=Below 0 w w'/\∀ j,j<w.heap.size->¬ j=g->¬ j=r->w'.heap[j]?=w.heap[j]?
theorem But.size {g r:Nat} {w w':World} (h:But g r w w'):w.heap.size<=w'.heap.size:=h.1.size
theorem But.trans {g r:Nat} {w v u:World} (h:But g r w v) (k:But g r v u):But g r w u :=
 ⟨h.1.trans k.1,fun j h0 h1 h2=>by rw [k.2 j (Nat.lt_of_lt_of_le h0 h.size) h1 h2,h.2 j h0 h1 h2]⟩
theorem But.of_below {g r:Nat} {w v:World} (h:Below w.heap.size w v):But g r w v:=⟨h.mono (Nat.zero_le _),fun j hj _ _=>h.block j hj⟩
theorem But.set {g r:Nat} {w v:World} (h:But g r w v) {p:Addr} (hp:p.block=g\/p.block=r) (y:Value):But g r w (v.setCell p y) :=
 ⟨h.1.setCell (p:=p) (Nat.zero_le _) y,fun j h0 h1 h2=>by
  rw [Below.heap_setCell _ _ _ _ (show j ≠ p.block by rcases hp with e | e <;> rw [e] <;> assumption)]
  exact h.2 j h0 h1 h2⟩
theorem But.drew {g r:Nat} {w v:World} (h:But g r w v) (n:Nat):But g r w (v.drewN n):=h.trans ⟨below_drewN (Below.refl _ _) _,fun _ _ _ _=>rfl⟩
theorem But.below {g r B:Nat} {w v:World} (h:But g r w v) (hg:B<=g) (hr:B<=r) (hs:B<=w.heap.size):Below B w v :=
 ⟨h.1.os,h.1.tape,h.1.output,h.1.size,fun j hj=>h.2 j (by omega) (by omega) (by omega)⟩
theorem But.cell {g r:Nat} {w v:World} (h:But g r w v) {a:Addr} (hl:a.block<w.heap.size) (h1:¬ a.block=g) (h2:¬ a.block=r):v.cell? a=w.cell? a:=World.cell?_of_block (h.2 _ hl h1 h2)
end Rt
end Go.Proofs.YtnchnlgnnlgjcaaGreat
