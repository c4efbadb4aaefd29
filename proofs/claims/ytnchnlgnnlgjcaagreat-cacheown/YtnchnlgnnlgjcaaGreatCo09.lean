import Derived.Test.YtnchnlgnnlgjcaaGreatCo08
import Derived.Test.YtnchnlgnnlgjcaaGreatCo05
set_option linter.unusedVariables false
namespace Go.Proofs.YtnchnlgnnlgjcaaGreat
open Go.RowKit
attribute [local go_sem ↓] Go.wp_at_zero Go.wp_at_succ
def Pg.tab (n d:Nat) (F:Nat->Nat->Int):List (List Int):=(List.range n).map fun t=>Ls.gen d (F t)
theorem Pg.tab_length (n d:Nat) (F:Nat->Nat->Int):(Pg.tab n d F).length=n:=by simp [Pg.tab]
theorem Pg.row_tab {n d t:Nat} {F:Nat->Nat->Int} (h:t<n):Tb.row (Pg.tab n d F) t=Ls.gen d (F t):=Tb.row_map_range _ h
set_option maxRecDepth 100000 in
set_option maxHeartbeats 1600000 in
theorem tokensKey_any (p m0 m1 n0 d0:Nat) (h4 h5 h6:Int) (ks vs:List (Int × Int × List Int)) (w:World) (h:PageAt w p m0 m1 n0 d0 h4 h5 h6 ks vs) :
 Calls Tryz.prog 100 #[.pointer (some ⟨p,0,none⟩),.func (.func 101) #[.pointer (some ⟨p,0,none⟩)] #[]] w fun e w'=>∃ g B,e=.returned (.slice (some ⟨g,0,none⟩) n0 n0)/\w.heap.size<=g/\TRow w' g 74 n0 (Pg.tab n0 d0 (Pg.keyAt ks)) n0 B/\Below w.heap.size w w':=by
 obtain ⟨k0,k1,b1,b2,b3,b4,_⟩:=Pg.page_nums h.page
 obtain ⟨g1,g2,⟨_,_,x2,x3,_,_,_⟩,_⟩:=h.cells
 have H:Hid (PageAt w p m0 m1 n0 d0 h4 h5 h6 ks vs):=h
 have hpl:=h.lt
 have hmk:=run_make_row' (P:=Tryz.prog) 42 74 (.slice none 0 0) 24 Tryz.underlying42 Tryz.infoRow32 rfl .i64 .i64 n0 (by omega) (by omega)
 have hmr:=run_make_row' (P:=Tryz.prog) 74 21 (.int .i32 0) 4 Tryz.underlying74 Tryz.infoInt32 rfl .i64 .i64 d0 (by omega) (by omega)
 clear h k0 k1 x3
 go_enter Tryz.func100,Tryz.ntmps100
 go_wp2
 clear hmk x2
 go_loopw [16] (fun i wr=>∃ k:Nat,k<=n0/\i=.int .i64 k/\TRow wr w.heap.size 74 n0 (Pg.tab n0 d0 (Pg.keyAt ks)) k wr.heap.size/\Below w.heap.size w wr) (fun i _=>n0 - (intOf i).toNat)
 case atStart=>exact ⟨0,Nat.zero_le _,rfl,⟨_,World.rowIs_made w (.slice none 0 0) n0 74,fun i hi=>by omega⟩,(Below.refl _ _).alloc (Nat.le_refl _) _⟩
 case round =>
  obtain ⟨k,hk,rfl,hrow,hbel⟩:=hrel
  by_cases hlt:k<n0
  ·obtain ⟨S,eS⟩:∃ S,wr.heap.size=S:=⟨_,rfl⟩
   have hgS:w.heap.size<S:=by rw [<-eS];exact hrow.lt
   obtain ⟨f,hr⟩:=hrow.room
   have r0:=hr.cell hlt
   have s0:=hr.frozen k
   rw [eS] at hrow
   have hmr2:=hmr wr
   rw [eS] at hmr2
   obtain ⟨_,_,⟨_,_,_,x3,_,_,_⟩,_⟩:=(H.out.keep hbel).cells
   obtain ⟨T1,C1⟩:=hrow.top hlt (.slice (some ⟨S,0,none⟩) d0 d0)
   have eS2:(wr.setCell ⟨w.heap.size,k,none⟩ (.slice (some ⟨S,0,none⟩) d0 d0)).heap.size=S:=by rw [<-eS];simp [World.setCell]
   have C2:((wr.setCell ⟨w.heap.size,k,none⟩ (.slice (some ⟨S,0,none⟩) d0 d0)).alloc (.cells (madeCells #[.int .i32 0] d0) 21)).cell? ⟨w.heap.size,k,none⟩=some (.slice (some ⟨S,0,none⟩) d0 d0):=by
    rw [(box_below _ _).cell (p:=⟨w.heap.size,k,none⟩) (by rw [eS2];exact hgS)]
    exact C1
   have R1:((wr.setCell ⟨w.heap.size,k,none⟩ (.slice (some ⟨S,0,none⟩) d0 d0)).alloc (.cells (madeCells #[.int .i32 0] d0) 21)).rowIs S 21 d0 (fun _=>.int .i32 0):=by
    have:=World.rowIs_made (wr.setCell ⟨w.heap.size,k,none⟩ (.slice (some ⟨S,0,none⟩) d0 d0)) (.int .i32 0) d0 21
    rw [eS2] at this
    exact this
   have B1:Below w.heap.size w ((wr.setCell ⟨w.heap.size,k,none⟩ (.slice (some ⟨S,0,none⟩) d0 d0)).alloc (.cells (madeCells #[.int .i32 0] d0) 21)):=(hbel.setCell (by simp) _).alloc (by rw [eS2];omega) _
   have ALL:Hid (TRow ((wr.setCell ⟨w.heap.size,k,none⟩ (.slice (some ⟨S,0,none⟩) d0 d0)).alloc (.cells (madeCells #[.int .i32 0] d0) 21)) w.heap.size 74 n0 (Pg.tab n0 d0 (Pg.keyAt ks)) k S/\((wr.setCell ⟨w.heap.size,k,none⟩ (.slice (some ⟨S,0,none⟩) d0 d0)).alloc (.cells (madeCells #[.int .i32 0] d0) 21)).cell? ⟨w.heap.size,k,none⟩=some (.slice (some ⟨S,0,none⟩) d0 d0)/\((wr.setCell ⟨w.heap.size,k,none⟩ (.slice (some ⟨S,0,none⟩) d0 d0)).alloc (.cells (madeCells #[.int .i32 0] d0) 21)).rowIs S 21 d0 (fun _=>.int .i32 0)/\Below w.heap.size w ((wr.setCell ⟨w.heap.size,k,none⟩ (.slice (some ⟨S,0,none⟩) d0 d0)).alloc (.cells (madeCells #[.int .i32 0] d0) 21))):=⟨T1.keep (box_below _ _),C2,R1,B1⟩
   have c2:=C2
   clear eS2 C2 T1 C1 R1 B1 hrow hbel hr hmr
   go_wp2
   clear hmr2 r0 s0 x3 c2
   go_loopw [33] (fun i wr=>∃ j:Nat,j<=d0/\i=.int .i64 j/\TRow wr w.heap.size 74 n0 (Pg.tab n0 d0 (Pg.keyAt ks)) k S/\wr.cell? ⟨w.heap.size,k,none⟩=some (.slice (some ⟨S,0,none⟩) d0 d0)/\wr.rowIs S 21 d0 (part (Pg.keyAt ks k) j)/\Below w.heap.size w wr) (fun i _=>d0 - (intOf i).toNat)
   case atStart=>exact ⟨0,Nat.zero_le _,rfl,ALL.out.1,ALL.out.2.1,ALL.out.2.2.1.congr (fun j hj=>by simp [part]),ALL.out.2.2.2⟩
   case round =>
    clear ALL eS
    obtain ⟨j,hj,rfl,htop,hcl,hrow,hbel⟩:=hrel
    by_cases hjl:j<d0
    ·obtain ⟨x,ex⟩:∃ x,Pg.keyAt ks k j=x:=⟨_,rfl⟩
     have EX:Hid (Pg.keyAt ks k j=x):=ex
     have HR:Hid (wr.rowIs S 21 d0 (part (Pg.keyAt ks k) j)):=hrow
     have HB:Hid (Below w.heap.size w wr):=hbel
     have HT:Hid (TRow wr w.heap.size 74 n0 (Pg.tab n0 d0 (Pg.keyAt ks)) k S):=htop
     have HC:Hid (∀ w',Below wr.heap.size wr w'->w'.cell? ⟨w.heap.size,k,none⟩=some (.slice (some ⟨S,0,none⟩) d0 d0)):=fun w' hb=>by
      rw [hb.cell (p:=⟨w.heap.size,k,none⟩) (World.block_lt_of_cell? wr _ hcl)];exact hcl
     clear hrow hbel htop ex
     have e0:(0:Int)<=(j:Int):=by omega
     have e1:(j:Int)<(d0:Int):=by omega
     have e2:(0:Int)<=(k:Int):=by omega
     have e3:(k:Int)<(n0:Int):=by omega
     go_wp2
     clear hcl
     go_region_held3 (fun w'=>w'.cell? ⟨w.heap.size,k,none⟩=some (.slice (some ⟨S,0,none⟩) d0 d0))
      (first
        | exact HC.out _ ((Below.refl wr.heap.size wr).drew)
        | exact HC.out _ hbc.out
        | exact HS.out _
        | assumption)
      (first
        | (go_at_call 101;refine (keyP_any p m0 m1 n0 d0 h4 h5 h6 ks vs k j x _ (H.out.keep (HB.out.trans ((Below.refl w.heap.size wr).drew))) hlt hjl EX.out).mono ?_;rintro e v ⟨rfl,hb⟩;have hbc:Hid (Below wr.heap.size wr v):=((Below.refl wr.heap.size wr).drew).trans hb;have RV:Hid (v.rowIs S 21 d0 (part (Pg.keyAt ks k) j)):=row_keep HR.out hbc.out;have hcg:=RV.out.cell hjl;have hfg:=RV.out.frozen j;have HS:Hid (∀ y,(v.setCell ⟨S,j,none⟩ y).cell? ⟨w.heap.size,k,none⟩=some (.slice (some ⟨S,0,none⟩) d0 d0)):=(fun y=>by rw [World.cell?_of_block (w:=v) (Go.Deep.blk_setCell_other _ _ _ _ (by show w.heap.size ≠ S;omega))];exact HC.out _ hbc.out);clear hb))
     all_goals go_wp2
     all_goals go_roundw
     case rel =>
      refine ⟨j+1,by omega,by go_num,(HT.out.keep hbc.out).other (by omega) (Nat.le_refl _) _,HS.out _,?_,(below_then HB.out hbc.out).setCell (by show w.heap.size<=S;omega) _⟩
      rw [<-EX.out]
      exact (RV.out.set j _).congr (fun q hq=>part_set _ j q)
     case measure=>simp [intOf];omega
    ·have ej:j=d0:=by omega
     subst ej
     have TT:Hid (TRow wr w.heap.size 74 n0 (Pg.tab n0 j (Pg.keyAt ks)) (k+1) wr.heap.size):=(htop.close hlt hcl (by omega) (Nat.le_refl _) (by rw [Pg.row_tab hlt,Ls.gen_length]) hrow (fun q hq=>by rw [part_lt hq,Pg.row_tab hlt,Ls.nth_gen hq])).mono (by have:=hrow.lt;omega)
     have HB:Hid (Below w.heap.size w wr):=hbel
     clear htop hcl hrow hbel
     go_wp2
     go_roundw
     case rel=>exact ⟨k+1,by omega,by go_num,TT.out,HB.out⟩
     case measure=>simp [intOf];omega
  ·have e:k=n0:=by omega
   subst e
   have T:Hid (TRow wr w.heap.size 74 k (Pg.tab k d0 (Pg.keyAt ks)) k wr.heap.size):=hrow
   have HB:Hid (Below w.heap.size w wr):=hbel
   clear hrow hbel hmr
   go_wp2
   go_ret
   exact ⟨w.heap.size,wr.heap.size,rfl,Nat.le_refl _,T.out,HB.out⟩
theorem keys_any (p m0 m1 n0 d0:Nat) (h4 h5 h6:Int) (ks vs:List (Int × Int × List Int)) (w:World) (h:PageAt w p m0 m1 n0 d0 h4 h5 h6 ks vs) :
 Calls Tryz.prog 64 #[.pointer (some ⟨p,0,none⟩)] w fun e w'=>∃ g B,e=.returned (.slice (some ⟨g,0,none⟩) n0 n0)/\w.heap.size<=g/\TRow w' g 74 n0 (Pg.tab n0 d0 (Pg.keyAt ks)) n0 B/\Below w.heap.size w w':=by
 have H:Hid (PageAt w p m0 m1 n0 d0 h4 h5 h6 ks vs):=h
 clear h
 go_enter Tryz.func64,Tryz.ntmps64
 go_wp2_with (go_at_call 100;refine (tokensKey_any p m0 m1 n0 d0 h4 h5 h6 ks vs _ H.out).mono ?_;rintro e v ⟨g,B,rfl,hg,ht,hb⟩;have R:Hid (w.heap.size<=g/\TRow v g 74 n0 (Pg.tab n0 d0 (Pg.keyAt ks)) n0 B/\Below w.heap.size w v):=⟨hg,ht,hb⟩;clear hg ht hb)
 go_ret
 exact ⟨g,B,rfl,R.out.1,R.out.2.1,R.out.2.2⟩
set_option maxRecDepth 100000 in
set_option maxHeartbeats 1600000 in
theorem tokensValue_any (p m0 m1 n0 d0:Nat) (h4 h5 h6:Int) (ks vs:List (Int × Int × List Int)) (w:World) (h:PageAt w p m0 m1 n0 d0 h4 h5 h6 ks vs) :
 Calls Tryz.prog 100 #[.pointer (some ⟨p,0,none⟩),.func (.func 102) #[.pointer (some ⟨p,0,none⟩)] #[]] w fun e w'=>∃ g B,e=.returned (.slice (some ⟨g,0,none⟩) n0 n0)/\w.heap.size<=g/\TRow w' g 74 n0 (Pg.tab n0 d0 (Pg.valAt vs)) n0 B/\Below w.heap.size w w':=by
 obtain ⟨k0,k1,b1,b2,b3,b4,_⟩:=Pg.page_nums h.page
 obtain ⟨g1,g2,⟨_,_,x2,x3,_,_,_⟩,_⟩:=h.cells
 have H:Hid (PageAt w p m0 m1 n0 d0 h4 h5 h6 ks vs):=h
 have hpl:=h.lt
 have hmk:=run_make_row' (P:=Tryz.prog) 42 74 (.slice none 0 0) 24 Tryz.underlying42 Tryz.infoRow32 rfl .i64 .i64 n0 (by omega) (by omega)
 have hmr:=run_make_row' (P:=Tryz.prog) 74 21 (.int .i32 0) 4 Tryz.underlying74 Tryz.infoInt32 rfl .i64 .i64 d0 (by omega) (by omega)
 clear h k0 k1 x3
 go_enter Tryz.func100,Tryz.ntmps100
 go_wp2
 clear hmk x2
 go_loopw [16] (fun i wr=>∃ k:Nat,k<=n0/\i=.int .i64 k/\TRow wr w.heap.size 74 n0 (Pg.tab n0 d0 (Pg.valAt vs)) k wr.heap.size/\Below w.heap.size w wr) (fun i _=>n0 - (intOf i).toNat)
 case atStart=>exact ⟨0,Nat.zero_le _,rfl,⟨_,World.rowIs_made w (.slice none 0 0) n0 74,fun i hi=>by omega⟩,(Below.refl _ _).alloc (Nat.le_refl _) _⟩
 case round =>
  obtain ⟨k,hk,rfl,hrow,hbel⟩:=hrel
  by_cases hlt:k<n0
  ·obtain ⟨S,eS⟩:∃ S,wr.heap.size=S:=⟨_,rfl⟩
   have hgS:w.heap.size<S:=by rw [<-eS];exact hrow.lt
   obtain ⟨f,hr⟩:=hrow.room
   have r0:=hr.cell hlt
   have s0:=hr.frozen k
   rw [eS] at hrow
   have hmr2:=hmr wr
   rw [eS] at hmr2
   obtain ⟨_,_,⟨_,_,_,x3,_,_,_⟩,_⟩:=(H.out.keep hbel).cells
   obtain ⟨T1,C1⟩:=hrow.top hlt (.slice (some ⟨S,0,none⟩) d0 d0)
   have eS2:(wr.setCell ⟨w.heap.size,k,none⟩ (.slice (some ⟨S,0,none⟩) d0 d0)).heap.size=S:=by rw [<-eS];simp [World.setCell]
   have C2:((wr.setCell ⟨w.heap.size,k,none⟩ (.slice (some ⟨S,0,none⟩) d0 d0)).alloc (.cells (madeCells #[.int .i32 0] d0) 21)).cell? ⟨w.heap.size,k,none⟩=some (.slice (some ⟨S,0,none⟩) d0 d0):=by
    rw [(box_below _ _).cell (p:=⟨w.heap.size,k,none⟩) (by rw [eS2];exact hgS)]
    exact C1
   have R1:((wr.setCell ⟨w.heap.size,k,none⟩ (.slice (some ⟨S,0,none⟩) d0 d0)).alloc (.cells (madeCells #[.int .i32 0] d0) 21)).rowIs S 21 d0 (fun _=>.int .i32 0):=by
    have:=World.rowIs_made (wr.setCell ⟨w.heap.size,k,none⟩ (.slice (some ⟨S,0,none⟩) d0 d0)) (.int .i32 0) d0 21
    rw [eS2] at this
    exact this
   have B1:Below w.heap.size w ((wr.setCell ⟨w.heap.size,k,none⟩ (.slice (some ⟨S,0,none⟩) d0 d0)).alloc (.cells (madeCells #[.int .i32 0] d0) 21)):=(hbel.setCell (by simp) _).alloc (by rw [eS2];omega) _
   have ALL:Hid (TRow ((wr.setCell ⟨w.heap.size,k,none⟩ (.slice (some ⟨S,0,none⟩) d0 d0)).alloc (.cells (madeCells #[.int .i32 0] d0) 21)) w.heap.size 74 n0 (Pg.tab n0 d0 (Pg.valAt vs)) k S/\((wr.setCell ⟨w.heap.size,k,none⟩ (.slice (some ⟨S,0,none⟩) d0 d0)).alloc (.cells (madeCells #[.int .i32 0] d0) 21)).cell? ⟨w.heap.size,k,none⟩=some (.slice (some ⟨S,0,none⟩) d0 d0)/\((wr.setCell ⟨w.heap.size,k,none⟩ (.slice (some ⟨S,0,none⟩) d0 d0)).alloc (.cells (madeCells #[.int .i32 0] d0) 21)).rowIs S 21 d0 (fun _=>.int .i32 0)/\Below w.heap.size w ((wr.setCell ⟨w.heap.size,k,none⟩ (.slice (some ⟨S,0,none⟩) d0 d0)).alloc (.cells (madeCells #[.int .i32 0] d0) 21))):=⟨T1.keep (box_below _ _),C2,R1,B1⟩
   have c2:=C2
   clear eS2 C2 T1 C1 R1 B1 hrow hbel hr hmr
   go_wp2
   clear hmr2 r0 s0 x3 c2
   go_loopw [33] (fun i wr=>∃ j:Nat,j<=d0/\i=.int .i64 j/\TRow wr w.heap.size 74 n0 (Pg.tab n0 d0 (Pg.valAt vs)) k S/\wr.cell? ⟨w.heap.size,k,none⟩=some (.slice (some ⟨S,0,none⟩) d0 d0)/\wr.rowIs S 21 d0 (part (Pg.valAt vs k) j)/\Below w.heap.size w wr) (fun i _=>d0 - (intOf i).toNat)
   case atStart=>exact ⟨0,Nat.zero_le _,rfl,ALL.out.1,ALL.out.2.1,ALL.out.2.2.1.congr (fun j hj=>by simp [part]),ALL.out.2.2.2⟩
   case round =>
    clear ALL eS
    obtain ⟨j,hj,rfl,htop,hcl,hrow,hbel⟩:=hrel
    by_cases hjl:j<d0
    ·obtain ⟨x,ex⟩:∃ x,Pg.valAt vs k j=x:=⟨_,rfl⟩
     have EX:Hid (Pg.valAt vs k j=x):=ex
     have HR:Hid (wr.rowIs S 21 d0 (part (Pg.valAt vs k) j)):=hrow
     have HB:Hid (Below w.heap.size w wr):=hbel
     have HT:Hid (TRow wr w.heap.size 74 n0 (Pg.tab n0 d0 (Pg.valAt vs)) k S):=htop
     have HC:Hid (∀ w',Below wr.heap.size wr w'->w'.cell? ⟨w.heap.size,k,none⟩=some (.slice (some ⟨S,0,none⟩) d0 d0)):=fun w' hb=>by
      rw [hb.cell (p:=⟨w.heap.size,k,none⟩) (World.block_lt_of_cell? wr _ hcl)];exact hcl
     clear hrow hbel htop ex
     have e0:(0:Int)<=(j:Int):=by omega
     have e1:(j:Int)<(d0:Int):=by omega
     have e2:(0:Int)<=(k:Int):=by omega
     have e3:(k:Int)<(n0:Int):=by omega
     go_wp2
     clear hcl
     go_region_held3 (fun w'=>w'.cell? ⟨w.heap.size,k,none⟩=some (.slice (some ⟨S,0,none⟩) d0 d0))
      (first
        | exact HC.out _ ((Below.refl wr.heap.size wr).drew)
        | exact HC.out _ hbc.out
        | exact HS.out _
        | assumption)
      (first
        | (go_at_call 102;refine (valueP_any p m0 m1 n0 d0 h4 h5 h6 ks vs k j x _ (H.out.keep (HB.out.trans ((Below.refl w.heap.size wr).drew))) hlt hjl EX.out).mono ?_;rintro e v ⟨rfl,hb⟩;have hbc:Hid (Below wr.heap.size wr v):=((Below.refl wr.heap.size wr).drew).trans hb;have RV:Hid (v.rowIs S 21 d0 (part (Pg.valAt vs k) j)):=row_keep HR.out hbc.out;have hcg:=RV.out.cell hjl;have hfg:=RV.out.frozen j;have HS:Hid (∀ y,(v.setCell ⟨S,j,none⟩ y).cell? ⟨w.heap.size,k,none⟩=some (.slice (some ⟨S,0,none⟩) d0 d0)):=(fun y=>by rw [World.cell?_of_block (w:=v) (Go.Deep.blk_setCell_other _ _ _ _ (by show w.heap.size ≠ S;omega))];exact HC.out _ hbc.out);clear hb))
     all_goals go_wp2
     all_goals go_roundw
     case rel =>
      refine ⟨j+1,by omega,by go_num,(HT.out.keep hbc.out).other (by omega) (Nat.le_refl _) _,HS.out _,?_,(below_then HB.out hbc.out).setCell (by show w.heap.size<=S;omega) _⟩
      rw [<-EX.out]
      exact (RV.out.set j _).congr (fun q hq=>part_set _ j q)
     case measure=>simp [intOf];omega
    ·have ej:j=d0:=by omega
     subst ej
     have TT:Hid (TRow wr w.heap.size 74 n0 (Pg.tab n0 j (Pg.valAt vs)) (k+1) wr.heap.size):=(htop.close hlt hcl (by omega) (Nat.le_refl _) (by rw [Pg.row_tab hlt,Ls.gen_length]) hrow (fun q hq=>by rw [part_lt hq,Pg.row_tab hlt,Ls.nth_gen hq])).mono (by have:=hrow.lt;omega)
     have HB:Hid (Below w.heap.size w wr):=hbel
     clear htop hcl hrow hbel
     go_wp2
     go_roundw
     case rel=>exact ⟨k+1,by omega,by go_num,TT.out,HB.out⟩
     case measure=>simp [intOf];omega
  ·have e:k=n0:=by omega
   subst e
   have T:Hid (TRow wr w.heap.size 74 k (Pg.tab k d0 (Pg.valAt vs)) k wr.heap.size):=hrow
   have HB:Hid (Below w.heap.size w wr):=hbel
   clear hrow hbel hmr
   go_wp2
   go_ret
   exact ⟨w.heap.size,wr.heap.size,rfl,Nat.le_refl _,T.out,HB.out⟩
theorem values_any (p m0 m1 n0 d0:Nat) (h4 h5 h6:Int) (ks vs:List (Int × Int × List Int)) (w:World) (h:PageAt w p m0 m1 n0 d0 h4 h5 h6 ks vs) :
 Calls Tryz.prog 65 #[.pointer (some ⟨p,0,none⟩)] w fun e w'=>∃ g B,e=.returned (.slice (some ⟨g,0,none⟩) n0 n0)/\w.heap.size<=g/\TRow w' g 74 n0 (Pg.tab n0 d0 (Pg.valAt vs)) n0 B/\Below w.heap.size w w':=by
 have H:Hid (PageAt w p m0 m1 n0 d0 h4 h5 h6 ks vs):=h
 clear h
 go_enter Tryz.func65,Tryz.ntmps65
 go_wp2_with (go_at_call 100;refine (tokensValue_any p m0 m1 n0 d0 h4 h5 h6 ks vs _ H.out).mono ?_;rintro e v ⟨g,B,rfl,hg,ht,hb⟩;have R:Hid (w.heap.size<=g/\TRow v g 74 n0 (Pg.tab n0 d0 (Pg.valAt vs)) n0 B/\Below w.heap.size w v):=⟨hg,ht,hb⟩;clear hg ht hb)
 go_ret
 exact ⟨g,B,rfl,R.out.1,R.out.2.1,R.out.2.2⟩
end Go.Proofs.YtnchnlgnnlgjcaaGreat
namespace Go.Proofs.YtnchnlgnnlgjcaaGreat
open Go.RowKit
def Sl.laid (l:List Int) (k v t j:Nat):Value:=if j<l.length then .int .u8 (Ls.nth l j) else if j+t<l.length+k then .int .u8 0 else .int .u8 ((v / 256 ^ (l.length+k - 1 - j) % 256:Nat):Int)
theorem Sl.laid_whole (l:List Int) (k v j:Nat) (hj:j<l.length+k):Sl.laid l k v k j=.int .u8 (Ls.nth (l ++ Sl.be k v) j):=by
 unfold Sl.laid
 by_cases c:j<l.length
 ·rw [if_pos c,Ls.nth_append_left c]
 ·rw [if_neg c,if_neg (by omega)]
  have:Ls.nth (l ++ Sl.be k v) j=Ls.nth (Sl.be k v) (j - l.length):=by
   unfold Ls.nth
   simp [List.getElem?_append_right (show l.length<=j by omega)]
  rw [this,Sl.nth_be (by omega),show k - 1 - (j - l.length)=l.length+k - 1 - j by omega]
theorem Sl.laid_first {l:List Int} {k v T:Nat} (hT:l.length+k=T) (j:Nat) (hj:j<T):(if j<l.length then Value.int .u8 (Ls.nth l j) else Value.int .u8 0)=Sl.laid l k v 0 j:=by
 unfold Sl.laid
 by_cases cj:j<l.length
 ·rw [if_pos cj,if_pos cj]
 ·rw [if_neg cj,if_neg cj,if_pos (by omega)]
theorem Sl.laid_step {l:List Int} {k v t n p:Nat} (ht:t<k) (hp:p=l.length+k - 1 - t) (hn:v / 256 ^ t=n) (j:Nat) :
 (if j=p then Value.int .u8 ((n:Int) % 256) else Sl.laid l k v t j)=Sl.laid l k v (t+1) j:=by
 unfold Sl.laid
 by_cases e:j=p
 ·rw [e,if_pos rfl,if_neg (by omega),if_neg (by omega),hp,show l.length+k - 1 - (l.length+k - 1 - t)=t by omega,hn]
  rfl
 ·rw [if_neg e]
  by_cases c:j<l.length
  ·rw [if_pos c,if_pos c]
  ·rw [if_neg c,if_neg c]
   by_cases d:j+t<l.length+k
   ·rw [if_pos d,if_pos (by omega)]
   ·rw [if_neg d,if_neg (by omega)]
theorem put_any (a:Option Addr) (m c:Nat) (l:List Int) (v:Nat) (n:Int) (k T:Nat) (hm:m=l.length) (hl:l.length<=10000) (hk:Sl.wid n=k) (hT:l.length+k=T) (hv:v<18446744073709551616) (w:World) (ha:Lst .u8 w a l) :
 Calls Tryz.prog 133 #[.slice a m c,.int .u64 v,.int .i64 n] w fun e w'=>∃ g,e=.returned (.slice (some ⟨g,0,none⟩) T T)/\w.heap.size<=g/\w'.rowIs g 5 T (fun j=>.int .u8 (Ls.nth (l ++ Sl.be k v) j))/\Below w.heap.size w w':=by
 subst hm
 have hk8:k<=8:=by rw [<-hk];exact Sl.wid_le n
 have hT1:T<=10008:=by omega
 have hTk:k<=T:=by omega
 have HA:Hid (Lst .u8 w a l):=ha
 have HK:Hid (Sl.wid n=k):=hk
 have HT:Hid (l.length+k=T):=hT
 have hTi:(l.length:Int)+(k:Int)=(T:Int):=by omega
 have hmk:=run_make_row' (P:=Tryz.prog) 142 5 (.int .u8 0) 1 Tryz.underlying142 Tryz.infoU8 rfl .i64 .i64 T (by omega) (by omega)
 clear ha hk hT
 go_enter Tryz.func133,Tryz.ntmps133
 go_wp2_with (first
  | (go_at_call 149;refine (width_any _ _ HK.out _).mono ?_;rintro e w' ⟨rfl,hww⟩;cases hww.symm;clear hww)
  | (refine wpList_copy_lst rfl (.tmp 16) (.tmp 17) 142 rfl .u8 5 Tryz.underlying142 Tryz.sizeU8 w.heap.size T T _ (World.rowIs_made w (.int .u8 0) T 5) (by rfl) a l c (by rfl) (HA.out.keep (box_over _ _)) (by have:=HT.out;omega) w.heap.size w (box_over _ _) (Nat.le_refl _) ?_;intro w1 hr1 hb1;have R1:Hid (w1.rowIs w.heap.size 5 T (Sl.laid l k v 0)):=hr1.congr (Sl.laid_first HT.out);have B1:Hid (Below w.heap.size w w1):=hb1;clear hr1 hb1))
 clear hmk hTi
 have GO:=B1.out.size
 go_loopw [1,20] (fun x i wr=>∃ t y:Nat,t<=k/\i=.int .i64 t/\x=.int .u64 y/\y<18446744073709551616/\Hid (v / 256 ^ t=y)/\wr.rowIs w.heap.size 5 T (Sl.laid l k v t)/\Below w.heap.size w wr) (fun _ i _=>k - (intOf i).toNat)
 case atStart=>exact ⟨0,v,Nat.zero_le _,rfl,rfl,hv,(by show _=_;rw [Nat.pow_zero,Nat.div_one]),R1.out,B1.out⟩
 case round =>
  obtain ⟨t,y,ht,rfl,rfl,hy,HY,hrow,hbel⟩:=hrel
  clear R1 B1 GO
  by_cases hlt:t<k
  ·obtain ⟨p,ep⟩:∃ p,T - 1 - t=p:=⟨_,rfl⟩
   have hp:p<T:=by omega
   have hpi:(T:Int) - 1 - (t:Int)=(p:Int):=by omega
   have hcell:=hrow.cell hp
   have hfro:=hrow.frozen p
   go_wp2
   go_roundw
   case rel =>
    refine ⟨t+1,y / 256,by omega,by go_num,by go_num,by omega,?_,(hrow.set p _).congr (fun j hj=>Sl.laid_step hlt (by have:=HT.out;omega) HY.out j),hbel.setCell (Nat.le_refl _) _⟩
    show _=_
    rw [Nat.pow_succ,<-Nat.div_div_eq_div_mul,HY.out]
   case measure=>simp [intOf];omega
  ·have e:t=k:=by omega
   subst e
   go_wp2
   go_ret
   exact ⟨_,rfl,Nat.le_refl _,hrow.congr (fun j hj=>Sl.laid_whole _ _ _ _ (by rw [HT.out];exact hj)),hbel⟩
end Go.Proofs.YtnchnlgnnlgjcaaGreat
namespace Go.Proofs.YtnchnlgnnlgjcaaGreat
open Go.RowKit
theorem close_any (a:Option Addr) (m c:Nat) (l:List Int) (T:Nat) (hm:m=l.length) (hl:l.length<=10000) (hT:l.length+4=T) (w:World) (ha:Lst .u8 w a l) (hb:Sl.Byt l) :
 Calls Tryz.prog 117 #[.slice a m c] w fun e w'=>∃ g,e=.returned (.slice (some ⟨g,0,none⟩) T T)/\w.heap.size<=g/\w'.rowIs g 5 T (fun j=>.int .u8 (Ls.nth (Sl.close l) j))/\Below w.heap.size w w':=by
 obtain ⟨h,eh⟩:∃ h,Sl.sum l=h:=⟨_,rfl⟩
 have hh:h<4294967296:=by rw [<-eh];exact Sl.sum_lt l
 have HM:Hid (m=l.length):=hm
 have HT:Hid (l.length+4=T):=hT
 have HA:Hid (Lst .u8 w a l):=ha
 have HB:Hid (Sl.Byt l):=hb
 have EH:Hid (Sl.sum l=h):=eh
 clear ha hb eh hm hT
 go_enter Tryz.func117,Tryz.ntmps117
 go_wp2_with (first
  | (go_at_call 134;refine (sum_any a m c l h HM.out (by unfold maxLen;omega) EH.out _ HA.out HB.out).mono ?_;rintro e w' ⟨rfl,hww⟩;cases hww.symm;clear hww)
  | (go_at_call 133;refine (put_any a m c l h 4 4 T HM.out hl rfl HT.out (by omega) _ HA.out).mono ?_;rintro e w' ⟨g,rfl,hg,hr,hww⟩;have R1:Hid (w'.rowIs g 5 T (fun j=>.int .u8 (Ls.nth (l ++ Sl.be 4 h) j))):=hr;have B1:Hid (Below w.heap.size w w'):=hww;clear hww hr))
 go_ret
 refine ⟨g,rfl,hg,?_,B1.out⟩
 have:=R1.out
 rw [<-EH.out] at this
 exact this
end Go.Proofs.YtnchnlgnnlgjcaaGreat
namespace Go.Proofs.YtnchnlgnnlgjcaaGreat
open Go.RowKit
attribute [local go_sem ↓] Go.wp_at_zero Go.wp_at_succ
theorem headPut_any (h0 h1 h2 h3 h4 h5 h6 x y:Int) (b0:0<=h0) (c0:h0<256) (b1:0<=h1) (c1:h1<256) (b2:0<=h2) (c2:h2<256) (b3:0<=h3) (c3:h3<256) (b4:0<=h4) (c4:h4<256) (b5:0<=h5) (c5:h5<256) (b6:0<=h6) (c6:h6<65536) (hx:h6 / 256=x) (hy:h6 % 256=y) (w:World) :
 Calls Tryz.prog 115 #[.agg #[.int .i64 h0,.int .i64 h1,.int .i64 h2,.int .i64 h3,.int .i64 h4,.int .i64 h5,.int .i64 h6]] w fun e w' =>
  e=.returned (.agg #[.int .u8 75,.int .u8 h0,.int .u8 h1,.int .u8 h2,.int .u8 h3,.int .u8 h4,.int .u8 h5,.int .u8 x,.int .u8 y])/\Below w.heap.size w w':=by
 have e0:h0 % 256=h0:=by omega
 have e1:h1 % 256=h1:=by omega
 have e2:h2 % 256=h2:=by omega
 have e3:h3 % 256=h3:=by omega
 have e4:h4 % 256=h4:=by omega
 have e5:h5 % 256=h5:=by omega
 have e6:h6 / 2 ^ 8 % 256=x:=by show h6 / 256 % 256=x;omega
 have e7:x % 256=x:=by omega
 go_enter Tryz.func115,Tryz.ntmps115
 go_wp2
 refine bodyPost_ret (v:=.agg #[.int .u8 75,.int .u8 h0,.int .u8 h1,.int .u8 h2,.int .u8 h3,.int .u8 h4,.int .u8 h5,.int .u8 x,.int .u8 y]) (by simp [results,Tryz.results115,go_sem]) rfl ⟨rfl,?_⟩
 exact two_boxes _ _ _
theorem Pg.word4_wide {z:Int} {v:Nat} (hv:z % 18446744073709551616=(v:Int)) (h0:-2147483648<=z) (h1:z<=2147483647):Sl.be 4 v=Pg.word4 z:=by
 unfold Pg.word4
 rw [<-Pg.be_mod 4 v,<-Pg.be_mod 4 (z+4294967296).toNat,Sl.four]
 congr 1
 omega
set_option maxHeartbeats 1600000 in
theorem bytesOne_any (z sc:Int) (a:Option Addr) (m c b T:Nat) (cd:List Int) (w:World) (hm:m=Pk.size b cd.length) (hb:Pk.Ok b) (hl:cd.length<=256) (ha:Lst .u64 w a (Pk.pack b cd)) (hf:Pg.Fits b cd.length (z,sc,cd)) (hT:Pg.gsize b cd.length=T) :
 Calls Tryz.prog 116 #[.agg #[.int .i32 z,.int .u32 sc,.slice none 0 0,.slice a m c]] w fun e w'=>∃ g,e=.returned (.slice (some ⟨g,0,none⟩) T T)/\w.heap.size<=g/\Lst .u8 w' (some ⟨g,0,none⟩) (Pg.gb b (z,sc,cd))/\Below w.heap.size w w':=by
 obtain ⟨_,hcd,z0,z1,s0,s1⟩:=hf
 have z0':-2147483648<=z:=z0
 have z1':z<=2147483647:=z1
 have s0':0<=sc:=s0
 have s1':sc<=4294967295:=s1
 obtain ⟨v,hv⟩:=Int.eq_ofNat_of_zero_le (show 0<=z % 18446744073709551616 by omega)
 obtain ⟨sn,hsn⟩:=Int.eq_ofNat_of_zero_le s0'
 subst hsn
 have hv2:v<18446744073709551616:=by omega
 obtain ⟨ws,ews⟩:∃ ws,Pk.pack b cd=ws:=⟨_,rfl⟩
 have WL:Hid (ws.length=m):=by show _=_;rw [<-ews,Pk.pack_length,hm]
 have WD:Hid (Pk.Wds ws):=by rw [<-ews];exact Pk.pack_wds hb hcd
 have EW:Hid (Pk.pack b cd=ws):=ews
 rw [ews] at ha
 have HA:Hid (Lst .u64 w a ws):=ha
 have HM:Hid (m=Pk.size b cd.length):=hm
 have hm32:m<=32:=by rw [hm];exact Pk.size_le hb hl
 have HT:Hid (8+8*m=T):=by show _=_;rw [<-hT,hm];rfl
 have E4:Hid (Sl.be 4 v=Pg.word4 z):=Pg.word4_wide hv z0' z1'
 have hv3:IntKind.u64.wrap z=(v:Int):=by rw [<-hv];rfl
 have hs3:IntKind.u64.wrap (sn:Int)=(sn:Int):=u64_same (by omega) (by omega)
 clear ha hm hb hl hcd z0 z1 s0 s1 hT ews hv
 go_enter Tryz.func116,Tryz.ntmps116
 go_wp2_with fail
 obtain ⟨u,hu⟩:∃ u,w.alloc (.cells #[.int .i32 z,.int .u32 (sn:Int),.slice none 0 0,.slice a m c] 180)=u:=⟨_,rfl⟩
 have BU:Hid (Below w.heap.size w u):=by rw [<-hu];exact box_below _ _
 have KS:Hid (∀ w',Below u.heap.size u w'->w'.cell? ⟨w.heap.size,1,none⟩=some (.int .u32 (sn:Int))/\w'.cell? ⟨w.heap.size,3,none⟩=some (.slice a m c)):=by
  rw [<-hu]
  exact fun w' hb=>⟨box_cells hb 1 _ rfl,box_cells hb 3 _ rfl⟩
 rw [hu]
 clear hu hv3
 refine (put_any none 0 0 [] v 4 4 4 rfl (by simp) (by decide) rfl hv2 _ (Lst.nil _ _ _)).mono ?_
 rintro e v1 ⟨g1,rfl,hg1,hr1,hb1⟩
 obtain ⟨y1,y3⟩:=KS.out v1 hb1
 have B1:Hid (Below u.heap.size u v1):=hb1
 have L1:Hid (Lst .u8 v1 (some ⟨g1,0,none⟩) (Pg.word4 z)):=by
  show Lst _ _ _ _
  rw [<-E4.out]
  exact lst_of_row (by rw [Sl.be_length];exact hr1) (fun j hj=>rfl)
 clear hg1 hr1 hb1
 go_wp2_with fail
 refine (put_any (some ⟨g1,0,none⟩) 4 4 (Pg.word4 z) sn 4 4 8 (Sl.be_length _ _).symm (by unfold Pg.word4;rw [Sl.be_length];omega) (by decide) (by unfold Pg.word4;rw [Sl.be_length]) (by omega) _ L1.out).mono ?_
 rintro e v2 ⟨g2,rfl,hg2,hr2,hb2⟩
 have B2:Hid (Below u.heap.size u v2):=below_then B1.out hb2
 clear y1 y3
 obtain ⟨y1,y3⟩:=KS.out v2 B2.out
 have L2:Hid (Lst .u8 v2 (some ⟨g2,0,none⟩) (Pg.word4 z ++ (Sl.be 4 sn ++ Pg.wbN ws 0))):=by
  show Lst _ _ _ _
  rw [show Pg.wbN ws 0=[] from rfl,List.append_nil]
  exact lst_of_row (by unfold Pg.word4;rw [List.length_append,Sl.be_length,Sl.be_length];exact hr2) (fun j hj=>rfl)
 have hg2':w.heap.size<=g2:=by have:=(below_then BU.out B1.out).size;omega
 clear hg2 hr2 hb2 L1 y1
 go_wp2
 clear y3
 go_loopw [3,20] (fun o i wr=>∃ (k g T:Nat),k<=m/\i=.int .i64 k/\o=.slice (some ⟨g,0,none⟩) T T/\8+8*k=T/\w.heap.size<=g/\Lst .u8 wr (some ⟨g,0,none⟩) (Pg.word4 z ++ (Sl.be 4 sn ++ Pg.wbN ws k))/\Below u.heap.size u wr) (fun _ i _=>m - (intOf i).toNat)
 case atStart=>exact ⟨0,g2,8,Nat.zero_le _,rfl,rfl,rfl,hg2',L2.out,B2.out⟩
 case round =>
  obtain ⟨k,g,U,hk,rfl,rfl,hU,hg,hL,hbel⟩:=hrel
  have HL:Hid (Lst .u8 wr (some ⟨g,0,none⟩) (Pg.word4 z ++ (Sl.be 4 sn ++ Pg.wbN ws k))):=hL
  have HW:Hid (Below u.heap.size u wr):=hbel
  have LL:Hid ((Pg.word4 z ++ (Sl.be 4 sn ++ Pg.wbN ws k)).length=U):=by
   show _=_
   unfold Pg.word4
   rw [List.length_append,List.length_append,Sl.be_length,Sl.be_length,Pg.wbN_length]
   omega
  clear hL hbel
  by_cases hlt:k<m
  ·obtain ⟨b1,o1,rfl,hc1⟩:=(HA.out.keep (below_then BU.out HW.out)).get (show k<ws.length by rw [WL.out];exact hlt)
   have hck:=hc1 k (by rw [WL.out];exact hlt)
   obtain ⟨x,ex⟩:=Int.eq_ofNat_of_zero_le (WD.out k).1
   have hx64:=(WD.out k).2
   rw [ex] at hck hx64
   have EX:Hid (Ls.nth ws k=(x:Int)):=ex
   clear hc1 ex
   go_wp2_with (go_at_call 133;refine (put_any (some ⟨g,0,none⟩) U U (Pg.word4 z ++ (Sl.be 4 sn ++ Pg.wbN ws k)) x 8 8 (U+8) LL.out.symm (by rw [LL.out];omega) (by decide) (by rw [LL.out]) (by omega) _ HL.out).mono ?_;rintro e v3 ⟨g3,rfl,hg3,hr3,hb3⟩;have B3:Hid (Below u.heap.size u v3):=below_then HW.out hb3;have R3:Hid (wr.heap.size<=g3/\v3.rowIs g3 5 (U+8) (fun j=>.int .u8 (Ls.nth ((Pg.word4 z ++ (Sl.be 4 sn ++ Pg.wbN ws k)) ++ Sl.be 8 x) j))):=⟨hg3,hr3⟩;clear hg3 hr3 hb3)
   go_roundw
   case rel =>
    refine ⟨k+1,g3,U+8,by omega,by go_num,rfl,by omega,?_,?_,B3.out⟩
    ·have:=(below_then BU.out HW.out).size
     have:=R3.out.1
     omega
    ·have e:Pg.word4 z ++ (Sl.be 4 sn ++ Pg.wbN ws (k+1))=(Pg.word4 z ++ (Sl.be 4 sn ++ Pg.wbN ws k)) ++ Sl.be 8 x:=by
      simp only [Pg.wbN]
      rw [EX.out,Int.toNat_natCast,List.append_assoc,List.append_assoc]
     rw [e]
     exact lst_of_row (by rw [List.length_append,LL.out,Sl.be_length];exact R3.out.2) (fun j hj=>rfl)
   case measure=>simp [intOf];omega
  ·have e:k=m:=by omega
   subst e
   have eT:U=T:=by rw [<-HT.out];omega
   subst eT
   go_wp2
   go_ret
   refine ⟨g,rfl,hg,?_,below_then BU.out HW.out⟩
   have e2:Pg.gb b (z,(sn:Int),cd)=Pg.word4 z ++ (Sl.be 4 sn ++ Pg.wbN ws k):=by
    show Pg.word4 z ++ (Sl.be 4 ((sn:Int)).toNat ++ Pg.wbN (Pk.pack b cd) (Pk.size b cd.length))=_
    rw [Int.toNat_natCast,EW.out,<-HM.out]
   rw [e2]
   exact HL.out
end Go.Proofs.YtnchnlgnnlgjcaaGreat
namespace Go.Proofs.YtnchnlgnnlgjcaaGreat
open Go.RowKit
attribute [local go_sem ↓] Go.wp_at_zero Go.wp_at_succ
def Acc (w:World) (base:Nat) (e:TypeId) (v:Value) (n:Nat) (l:List Int):Prop :=
 w.ownsRow base e 1 v n (l.map (Value.int .u8))\/∃ H,v=.slice (some ⟨H,0,none⟩) n n/\Lst .u8 w (some ⟨H,0,none⟩) l
theorem Acc.keep {w w':World} {base:Nat} {e:TypeId} {v:Value} {n:Nat} {l:List Int} (h:Acc w base e v n l) (hb:Below w.heap.size w w'):Acc w' base e v n l:=by
 rcases h with h | ⟨H,h1,h2⟩
 ·exact .inl (own_below h hb)
 ·exact .inr ⟨H,h1,h2.keep hb⟩
theorem Acc.slice {w:World} {base:Nat} {e:TypeId} {v:Value} {n:Nat} {l:List Int} (h:Acc w base e v n l) (hn:l.length=n):∃ a c,v=.slice a n c/\Lst .u8 w a l:=by
 rcases h with h | ⟨H,h1,h2⟩
 ·exact lst_of_ownm h hn.symm
 ·exact ⟨_,_,h1,h2⟩
theorem own_mono {w:World} {base base':Nat} {t:TypeId} {v:Value} {n:Nat} {xs:List Value} (h:w.ownsRow base t 1 v n xs) (hb:base'<=base):w.ownsRow base' t 1 v n xs:=by
 refine ⟨h.1,?_⟩
 rcases h.2 with h0 | ⟨g,cap,cur,e,h1,h2,h3⟩
 ·exact Or.inl h0
 ·exact Or.inr ⟨g,cap,cur,e,by omega,h2,h3⟩
theorem wpList_append_acc {P:Program} {w:World} {ops:Array Oper} {rest:List Oper} {o:Oper} {a:Act} {Q:Exit->Act->World->Prop} (hgd:o.guard=none) (s x:Operand) (t:TypeId)
 (ho:o.op=.call { callee:=.builtin .append,args:=#[s,x],argTypes:=#[t,t] })
 (base:Nat) (e:TypeId) (ht:P.underlying t=some (.slice e)) (hinfo:(P.info? e).map (fun i=>(i.zero,i.size,i.bytes))=some (some (.int .u8 0),1,1))
 (v:Value) (n:Nat) (l0:List Int) (hs:a.eval s=v) (hacc:Acc w base e v n l0) (hn0:l0.length=n)
 (g m c:Nat) (l:List Int) (hm:m=l.length) (hx:a.eval x=.slice (some ⟨g,0,none⟩) m c) (hL:Lst .u8 w (some ⟨g,0,none⟩) l) (hpos:0<m) (hbd:n+m<=100000) (hbase:base<=w.heap.size)
 (h:∀ v' w',w'.ownsRow base e 1 v' (n+m) ((l0 ++ l).map (Value.int .u8))->Below base w w'->wpList P ops Q rest (a.put o.dst v') w'):wpList P ops Q (o :: rest) a w:=by
 subst hm
 rw [List.map_append] at h
 rcases hacc with hown | ⟨H,rfl,h0⟩
 ·refine wpList_append_lst hgd s x t ho base e .u8 1 ht hinfo v n _ hs hown _ l c hx hL (fun e=>by cases e) (by unfold maxLen;omega) (by omega) hbase (fun v' w' h1 h2=>h v' w' h1 ?_)
  exact (Below.refl base w).grown h2 hbase (fun k hk=>(hown.lt k hk).1)
 ·obtain ⟨i,hi,hz0,hz1,hz2⟩:=info_parts hinfo
  have cells:∀ (G:Nat) (q:List Int),Lst .u8 w (some ⟨G,0,none⟩) q->∀ (j:Nat) (u:Value),(q.map (Value.int .u8))[j]?=some u->w.cell? ((⟨G,0,none⟩:Addr).add j)=some u:=fun G q hq j u hu=>by
   have hj:j<q.length:=by
    have:=(List.getElem?_eq_some_iff.1 hu).1
    simpa using this
   have:=hq.cell0 hj
   rw [Addr.add_lit,Nat.zero_add,this]
   simpa [Ls.nth,hj] using hu
  refine wpList_append_grows w hgd s x t ho e i (.int .u8 0) 1 1 ht hi hz0 hz1 hz2 rfl (by omega) (some ⟨H,0,none⟩) n n (l0.map (Value.int .u8)) hs (fun e=>by cases e) (by simp [hn0]) (fun b hb j u hu=>by cases hb;exact cells H l0 h0 j u hu) ⟨g,0,none⟩ l.length c (l.map (Value.int .u8)) hx (by simp) (cells g l hL) (ints_oneCell .u8 l) (by omega) (by unfold maxLen;omega) (by omega) (fun v' w' h1 h2=>h v' w' (own_mono h1 hbase) ?_)
  exact (Below.refl base w).grown h2 hbase (fun k hk=>by cases hk)
theorem Tryz.infoU8p:(Tryz.prog.info? 5).map (fun i=>(i.zero,i.size,i.bytes))=some (some (.int .u8 0),1,1):=by kernel_rfl
theorem Pg.be_two {x:Nat} (h:x<65536):Sl.be 2 x=[((x / 256:Nat):Int),((x % 256:Nat):Int)]:=by
 apply Ls.ext_nth (by rw [Sl.be_length];rfl)
 intro i hi
 rw [Sl.be_length] at hi
 rw [Sl.nth_be hi]
 match i,hi with
 | 0,_=>show ((x / 256 ^ 1 % 256:Nat):Int)=((x / 256:Nat):Int);congr 1;omega
 | 1,_=>show ((x / 256 ^ 0 % 256:Nat):Int)=((x % 256:Nat):Int);congr 1;omega
set_option maxRecDepth 100000 in
set_option maxHeartbeats 1600000 in
theorem bytesP_any (p m0 m1 n0 d0:Nat) (h4 h5 h6:Int) (ks vs:List (Int × Int × List Int)) (T:Nat) (w:World) (h:PageAt w p m0 m1 n0 d0 h4 h5 h6 ks vs) (hT:Pg.psize [(m0:Int),m1,n0,d0,h4,h5,h6]=T) :
 Calls Tryz.prog 91 #[.pointer (some ⟨p,0,none⟩)] w fun e w'=>∃ g,e=.returned (.slice (some ⟨g,0,none⟩) T T)/\w.heap.size<=g/\w'.rowIs g 5 T (fun j=>.int .u8 (Ls.nth (Pg.bytes [(m0:Int),m1,n0,d0,h4,h5,h6] ks vs) j))/\Below w.heap.size w w':=by
 have hp:=h.page
 obtain ⟨k0,k1,b1,b2,b3,b4,lk,lv,fk,fv⟩:=Pg.page_nums hp
 obtain ⟨g1,g2,⟨x0,x1,x2,x3,x4,x5,x6⟩,x7,x8,hk,hv⟩:=h.cells
 obtain ⟨_,_,_,_,_,_,q4,q4',q5,q5',q6,q6'⟩:=Pg.rightH_all hp.2.1
 have r4:0<=h4:=q4
 have r4':h4<=3:=q4'
 have r5:0<=h5:=q5
 have r5':h5<=3:=q5'
 have r6:0<=h6:=q6
 have r6':h6<=1023:=q6'
 have o0:m0<=8:=by rcases k0 with rfl | rfl | rfl <;> omega
 have o1:m1<=8:=by rcases k1 with rfl | rfl | rfl <;> omega
 have gs0:=Pg.gsize_small (b:=m0) (n:=n0) k0 b2
 have gs1:=Pg.gsize_small (b:=m1) (n:=d0) k1 b4
 have hbl:=Pg.body_length hp
 have hps:=Pg.psize_le hp.2.1
 have H:Hid (PageAt w p m0 m1 n0 d0 h4 h5 h6 ks vs):=h
 have HP:Hid (Pg.Page [(m0:Int),m1,n0,d0,h4,h5,h6] ks vs):=hp
 have FK:Hid (Pg.AllFit m0 n0 ks):=fk
 have FV:Hid (Pg.AllFit m1 d0 vs):=fv
 have KO:Hid (Pk.Ok m0):=k0
 have K1:Hid (Pk.Ok m1):=k1
 have LK:Hid (ks.length=d0):=lk
 have LV:Hid (vs.length=n0):=lv
 have HK:Hid (Pks w g1 m0 ks):=hk
 have HV:Hid (Pks w g2 m1 vs):=hv
 have HT:Hid ((Pg.body [(m0:Int),m1,n0,d0,h4,h5,h6] ks vs).length+4=T):=by rw [<-hT];exact hbl
 have HT2:Hid ((Pg.body [(m0:Int),m1,n0,d0,h4,h5,h6] ks vs).length<=10000):=by show (Pg.body [(m0:Int),m1,n0,d0,h4,h5,h6] ks vs).length<=10000;omega
 obtain ⟨hi,ehi⟩:∃ x,h6 / 256=x:=⟨_,rfl⟩
 obtain ⟨lo,elo⟩:∃ x,h6 % 256=x:=⟨_,rfl⟩
 have EHI:Hid (h6 / 256=hi):=ehi
 have ELO:Hid (h6 % 256=lo):=elo
 have HB9:Hid (Pg.hbytes [(m0:Int),m1,n0,d0,h4,h5,h6]=[75,(m0:Int),(m1:Int),(n0:Int),(d0:Int),h4,h5,hi,lo]):=by
  show [75,(m0:Int),(m1:Int),(n0:Int),(d0:Int),h4,h5] ++ Sl.be 2 h6.toNat=_
  rw [Pg.be_two (by omega),show ((h6.toNat / 256:Nat):Int)=hi by omega,show ((h6.toNat % 256:Nat):Int)=lo by omega]
  rfl
 have hpl:=h.lt
 have S7:Hid (∀ w',Below w.heap.size w w'->w'.cell? ⟨p,7,none⟩=some (.slice (some ⟨g1,0,none⟩) d0 d0)/\w'.cell? ⟨p,8,none⟩=some (.slice (some ⟨g2,0,none⟩) n0 n0)):=fun w' hb =>
  ⟨by rw [hb.cell (p:=⟨p,7,none⟩) hpl];exact x7,by rw [hb.cell (p:=⟨p,8,none⟩) hpl];exact x8⟩
 clear h hp k0 k1 lk lv fk fv hk hv q4 q4' q5 q5' q6 q6' hbl hps hT ehi elo x7 x8
 go_enter Tryz.func91,Tryz.ntmps91
 go_wp2_with fail
 refine (headPut_any _ _ _ _ _ _ _ hi lo (by omega) (by omega) (by omega) (by omega) (by omega) (by omega) (by omega) (by omega) (by omega) (by omega) (by omega) (by omega) (by omega) (by omega) EHI.out ELO.out _).mono ?_
 rintro e v0 ⟨rfl,hb⟩
 have B0:Hid (Below w.heap.size w v0):=hb
 have hs0:=hb.size
 obtain ⟨x7,_⟩:=S7.out v0 hb
 have hpl0:p<v0.heap.size:=by omega
 have A0:Hid (Acc (v0.alloc (.cells #[.int .u8 75,.int .u8 (m0:Int),.int .u8 (m1:Int),.int .u8 (n0:Int),.int .u8 (d0:Int),.int .u8 h4,.int .u8 h5,.int .u8 hi,.int .u8 lo] 172)) w.heap.size 5 (.slice (some ⟨v0.heap.size,0,none⟩) 9 9) 9 (Pg.hbytes [(m0:Int),m1,n0,d0,h4,h5,h6] ++ Pg.gbN m0 ks 0)):=by
  refine .inr ⟨v0.heap.size,rfl,?_⟩
  rw [show Pg.gbN m0 ks 0=[] from rfl,List.append_nil,HB9.out]
  exact lst_new v0 [75,(m0:Int),(m1:Int),(n0:Int),(d0:Int),h4,h5,hi,lo]
 clear hb x0 x1 x2 x3 x4 x5 x6
 go_wp2
 clear x7
 go_loopw [4,20] (fun v i wr=>∃ (k n:Nat),k<=d0/\i=.int .i64 k/\(Pg.hbytes [(m0:Int),m1,n0,d0,h4,h5,h6] ++ Pg.gbN m0 ks k).length=n/\Acc wr w.heap.size 5 v n (Pg.hbytes [(m0:Int),m1,n0,d0,h4,h5,h6] ++ Pg.gbN m0 ks k)/\Below w.heap.size w wr) (fun _ i _=>d0 - (intOf i).toNat)
 case atStart=>exact ⟨0,9,Nat.zero_le _,rfl,by rw [List.length_append,Pg.hbytes_length];rfl,A0.out,below_then B0.out (box_below _ _)⟩
 case round =>
  obtain ⟨k,n,hk,rfl,hn,hacc,hbel⟩:=hrel
  have HN:Hid ((Pg.hbytes [(m0:Int),m1,n0,d0,h4,h5,h6] ++ Pg.gbN m0 ks k).length=n):=hn
  have HA:Hid (Acc wr w.heap.size 5 u4 n (Pg.hbytes [(m0:Int),m1,n0,d0,h4,h5,h6] ++ Pg.gbN m0 ks k)):=hacc
  have HW:Hid (Below w.heap.size w wr):=hbel
  have hsz:=hbel.size
  have hnb:n<=9+24*16:=by
   rw [<-hn,List.length_append,Pg.hbytes_length,Pg.gbN_length (n:=n0) FK.out.even k (by rw [LK.out];exact hk)]
   have:=Nat.mul_le_mul gs0 (show k<=16 by omega)
   omega
  clear hn hacc hbel
  by_cases hlt:k<d0
  ·obtain ⟨a',c',hg⟩:=HK.out k (by rw [LK.out];exact hlt)
   obtain ⟨y0,y1,y2,y3,y4⟩:=hg.keep HW.out
   have Y4:Hid (Lst .u64 wr a' (Pk.pack m0 (Pg.gc (Pg.nth ks k)))):=y4
   have hbl:g1<wr.heap.size:=World.block_lt_of_cell? wr _ y0
   have F1:=FK.out k (by rw [LK.out];exact hlt)
   have FL:Hid ((Pg.gc (Pg.nth ks k)).length=n0):=F1.1
   have FF:Hid (Pg.Fits m0 (Pg.gc (Pg.nth ks k)).length (Pg.gz (Pg.nth ks k),Pg.gs (Pg.nth ks k),Pg.gc (Pg.nth ks k))):=by rw [F1.1];exact F1
   obtain ⟨N,eN⟩:∃ N,Pk.size m0 (Pg.gc (Pg.nth ks k)).length=N:=⟨_,rfl⟩
   have EN:Hid (N=Pk.size m0 (Pg.gc (Pg.nth ks k)).length):=eN.symm
   rw [eN] at y3
   obtain ⟨G,eG⟩:∃ G,Pg.gsize m0 (Pg.gc (Pg.nth ks k)).length=G:=⟨_,rfl⟩
   have EG:Hid (Pg.gsize m0 (Pg.gc (Pg.nth ks k)).length=G):=eG
   have hG1:8<=G:=by rw [<-eG];unfold Pg.gsize;omega
   have hG2:G<=24:=by rw [<-eG,F1.1];exact gs0
   clear y4 hg F1 eN eG
   go_wp2_with (first
    | (go_at_call 116;refine (bytesOne_any _ _ _ N _ m0 G (Pg.gc (Pg.nth ks k)) _ EN.out KO.out (by rw [FL.out];omega) (Y4.out.keep (box_below _ _)) FF.out EG.out).mono ?_;rintro e v1 ⟨gg,rfl,hgg,hL,hb⟩;have B1:Hid (Below w.heap.size w v1):=below_then (below_then HW.out (box_below _ _)) hb;have A1:Hid (Acc v1 w.heap.size 5 u4 n (Pg.hbytes [(m0:Int),m1,n0,d0,h4,h5,h6] ++ Pg.gbN m0 ks k)):=(HA.out.keep (box_below _ _)).keep hb;have L1:Hid (Lst .u8 v1 (some ⟨gg,0,none⟩) (Pg.gb m0 (Pg.nth ks k))):=hL;have hs1:=(below_then (below_then HW.out (box_below _ _)) hb).size;clear hgg hL hb)
    | (at_builtin;refine wpList_append_acc rfl _ _ 142 rfl w.heap.size 5 Tryz.underlying142 Tryz.infoU8p u4 n _ (by rfl) A1.out HN.out gg G G (Pg.gb m0 (Pg.nth ks k)) (by rw [Pg.gb_length];exact EG.out.symm) (by rfl) L1.out (by omega) (by omega) hs1 ?_;intro v' w' hown hb;have B2:Hid (Below w.heap.size w w'):=B1.out.trans hb;have A2:Hid (Acc w' w.heap.size 5 v' (n+G) (Pg.hbytes [(m0:Int),m1,n0,d0,h4,h5,h6] ++ Pg.gbN m0 ks (k+1))):=(by refine .inl ?_;rw [show Pg.gbN m0 ks (k+1)=Pg.gbN m0 ks k ++ Pg.gb m0 (Pg.nth ks k) from rfl,<-List.append_assoc];exact hown);clear hown hb))
   go_roundw
   case rel =>
    refine ⟨k+1,n+G,by omega,by go_num,?_,A2.out,B2.out⟩
    rw [show Pg.gbN m0 ks (k+1)=Pg.gbN m0 ks k ++ Pg.gb m0 (Pg.nth ks k) from rfl,<-List.append_assoc,List.length_append,HN.out,Pg.gb_length,EG.out]
   case measure=>simp [intOf];omega
  ·have e:k=d0:=by omega
   subst e
   have A3:Hid (Acc wr w.heap.size 5 u4 n ((Pg.hbytes [(m0:Int),m1,n0,k,h4,h5,h6] ++ Pg.gbN m0 ks k) ++ Pg.gbN m1 vs 0)):=by
    rw [show Pg.gbN m1 vs 0=[] from rfl,List.append_nil]
    exact HA.out
   have HWK:Hid (Below w.heap.size w wr):=HW.out
   have HNK:Hid ((Pg.hbytes [(m0:Int),m1,n0,k,h4,h5,h6] ++ Pg.gbN m0 ks k).length=n):=HN.out
   obtain ⟨_,x8⟩:=S7.out wr HW.out
   clear HW HA HN A0 hsz
   go_wp2
   clear x8
   go_loopw [4,34] (fun v i wr=>∃ (j n:Nat),j<=n0/\i=.int .i64 j/\((Pg.hbytes [(m0:Int),m1,n0,k,h4,h5,h6] ++ Pg.gbN m0 ks k) ++ Pg.gbN m1 vs j).length=n/\Acc wr w.heap.size 5 v n ((Pg.hbytes [(m0:Int),m1,n0,k,h4,h5,h6] ++ Pg.gbN m0 ks k) ++ Pg.gbN m1 vs j)/\Below w.heap.size w wr) (fun _ i _=>n0 - (intOf i).toNat)
   case atStart=>exact ⟨0,n,Nat.zero_le _,rfl,by rw [List.length_append,HNK.out];rfl,A3.out,HWK.out⟩
   case round =>
    obtain ⟨j,n,hj,rfl,hn,hacc,hbel⟩:=hrel
    have HN:Hid (((Pg.hbytes [(m0:Int),m1,n0,k,h4,h5,h6] ++ Pg.gbN m0 ks k) ++ Pg.gbN m1 vs j).length=n):=hn
    have HA:Hid (Acc wr w.heap.size 5 u4 n ((Pg.hbytes [(m0:Int),m1,n0,k,h4,h5,h6] ++ Pg.gbN m0 ks k) ++ Pg.gbN m1 vs j)):=hacc
    have HW:Hid (Below w.heap.size w wr):=hbel
    have hsz:=hbel.size
    have hnb2:n<=9+24*16+24*16:=by
     rw [<-hn,List.length_append,HNK.out,Pg.gbN_length (n:=k) FV.out.even j (by rw [LV.out];exact hj)]
     have:=Nat.mul_le_mul gs1 (show j<=16 by omega)
     omega
    clear hn hacc hbel
    by_cases hlt2:j<n0
    ·obtain ⟨a',c',hg⟩:=HV.out j (by rw [LV.out];exact hlt2)
     obtain ⟨y0,y1,y2,y3,y4⟩:=hg.keep HW.out
     have Y4:Hid (Lst .u64 wr a' (Pk.pack m1 (Pg.gc (Pg.nth vs j)))):=y4
     have hbl:g2<wr.heap.size:=World.block_lt_of_cell? wr _ y0
     have F1:=FV.out j (by rw [LV.out];exact hlt2)
     have FL:Hid ((Pg.gc (Pg.nth vs j)).length=k):=F1.1
     have FF:Hid (Pg.Fits m1 (Pg.gc (Pg.nth vs j)).length (Pg.gz (Pg.nth vs j),Pg.gs (Pg.nth vs j),Pg.gc (Pg.nth vs j))):=by rw [F1.1];exact F1
     obtain ⟨N,eN⟩:∃ N,Pk.size m1 (Pg.gc (Pg.nth vs j)).length=N:=⟨_,rfl⟩
     have EN:Hid (N=Pk.size m1 (Pg.gc (Pg.nth vs j)).length):=eN.symm
     rw [eN] at y3
     obtain ⟨G,eG⟩:∃ G,Pg.gsize m1 (Pg.gc (Pg.nth vs j)).length=G:=⟨_,rfl⟩
     have EG:Hid (Pg.gsize m1 (Pg.gc (Pg.nth vs j)).length=G):=eG
     have hG1:8<=G:=by rw [<-eG];unfold Pg.gsize;omega
     have hG2:G<=24:=by rw [<-eG,F1.1];exact gs1
     clear y4 hg F1 eN eG
     go_wp2_with (first
      | (go_at_call 116;refine (bytesOne_any _ _ _ N _ m1 G (Pg.gc (Pg.nth vs j)) _ EN.out K1.out (by rw [FL.out];omega) (Y4.out.keep (box_below _ _)) FF.out EG.out).mono ?_;rintro e v1 ⟨gg,rfl,hgg,hL,hb⟩;have B1:Hid (Below w.heap.size w v1):=below_then (below_then HW.out (box_below _ _)) hb;have A1:Hid (Acc v1 w.heap.size 5 u4 n ((Pg.hbytes [(m0:Int),m1,n0,k,h4,h5,h6] ++ Pg.gbN m0 ks k) ++ Pg.gbN m1 vs j)):=(HA.out.keep (box_below _ _)).keep hb;have L1:Hid (Lst .u8 v1 (some ⟨gg,0,none⟩) (Pg.gb m1 (Pg.nth vs j))):=hL;have hs1:=(below_then (below_then HW.out (box_below _ _)) hb).size;clear hgg hL hb)
      | (at_builtin;refine wpList_append_acc rfl _ _ 142 rfl w.heap.size 5 Tryz.underlying142 Tryz.infoU8p u4 n _ (by rfl) A1.out HN.out gg G G (Pg.gb m1 (Pg.nth vs j)) (by rw [Pg.gb_length];exact EG.out.symm) (by rfl) L1.out (by omega) (by omega) hs1 ?_;intro v' w' hown hb;have B2:Hid (Below w.heap.size w w'):=B1.out.trans hb;have A2:Hid (Acc w' w.heap.size 5 v' (n+G) ((Pg.hbytes [(m0:Int),m1,n0,k,h4,h5,h6] ++ Pg.gbN m0 ks k) ++ Pg.gbN m1 vs (j+1))):=(by refine .inl ?_;rw [show Pg.gbN m1 vs (j+1)=Pg.gbN m1 vs j ++ Pg.gb m1 (Pg.nth vs j) from rfl,<-List.append_assoc];exact hown);clear hown hb))
     go_roundw
     case rel =>
      refine ⟨j+1,n+G,by omega,by go_num,?_,A2.out,B2.out⟩
      rw [show Pg.gbN m1 vs (j+1)=Pg.gbN m1 vs j ++ Pg.gb m1 (Pg.nth vs j) from rfl,<-List.append_assoc,List.length_append,HN.out,Pg.gb_length,EG.out]
     case measure=>simp [intOf];omega
    ·have e:j=n0:=by omega
     subst e
     have EB:Hid ((Pg.hbytes [(m0:Int),m1,j,k,h4,h5,h6] ++ Pg.gbN m0 ks k) ++ Pg.gbN m1 vs j=Pg.body [(m0:Int),m1,j,k,h4,h5,h6] ks vs):=by
      show _=Pg.hbytes [(m0:Int),m1,j,k,h4,h5,h6] ++ (Pg.gbN m0 ks ks.length ++ Pg.gbN m1 vs vs.length)
      rw [LK.out,LV.out,List.append_assoc]
     obtain ⟨a5,c5,rfl,hL⟩:=HA.out.slice HN.out
     rw [EB.out] at hL
     have L5:Hid (Lst .u8 wr a5 (Pg.body [(m0:Int),m1,j,k,h4,h5,h6] ks vs)):=hL
     have N5:Hid (n=(Pg.body [(m0:Int),m1,j,k,h4,h5,h6] ks vs).length):=by show _=_;rw [<-HN.out,EB.out]
     clear hL
     go_wp2_with (go_at_call 117;refine (close_any _ n _ (Pg.body [(m0:Int),m1,j,k,h4,h5,h6] ks vs) T N5.out HT2.out HT.out _ L5.out (Pg.body_byt HP.out)).mono ?_;rintro e v9 ⟨g9,rfl,hg9,hr9,hb⟩;have R9:Hid (w.heap.size<=g9/\v9.rowIs g9 5 T (fun q=>.int .u8 (Ls.nth (Sl.close (Pg.body [(m0:Int),m1,j,k,h4,h5,h6] ks vs)) q))/\Below w.heap.size w v9):=⟨by omega,hr9,below_then HW.out hb⟩;clear hg9 hr9 hb)
     go_ret
     exact ⟨g9,rfl,R9.out.1,R9.out.2.1,R9.out.2.2⟩
end Go.Proofs.YtnchnlgnnlgjcaaGreat
