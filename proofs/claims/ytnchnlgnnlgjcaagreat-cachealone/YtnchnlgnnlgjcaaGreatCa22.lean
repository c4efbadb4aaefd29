import Derived.Test.YtnchnlgnnlgjcaaGreatCa16
set_option linter.unusedVariables false
set_option linter.unusedSimpArgs false
namespace Go.Proofs.YtnchnlgnnlgjcaaGreat
open Go.RowKit Go.Shelf
attribute [local go_sem] Oper.semAt_some
namespace Rt
open Rn (pl pl_lt pl_inj pl_shift pl_zero)
theorem boxed_far {W:World} {B:Nat} {t:TypeId} {u y:Value} {p:Addr} (h:Boxed W B t u) (hne:¬ B=p.block):Boxed (W.setCell p y) B t u:=by
 show (W.setCell p y).heap[B]?=_
 rw [Below.heap_setCell _ _ _ _ (show B ≠ p.block from hne)]
 exact h
theorem row_ownFrom {β:Type} (B b n:Nat) (t:TypeId) (F:β->Nat->Value):OwnFrom (β:=β) B (fun s W=>W.rowIs b t n (F s)):=fun s A A' row hs hg hr =>
 hs.of_block (hg.block b hs.lt fun e=>by
  obtain ⟨_,o,q1,q2⟩:=hr b e.symm
  obtain ⟨cs,fz,q3⟩:=ty_row hs
  rw [q3] at q1
  cases q1
  cases q2)
def shf (l:List Tv) (j i:Nat):Value:=if i / 2<j then (if i % 2=0 then key (nth l (i / 2)) else val (nth l (i / 2))) else .slice none 0 0
theorem shf_at (l:List Tv) {j i:Nat} (h:i<j):shf l j (i*2)=key (nth l i)/\shf l j (i*2+1)=val (nth l i):=by
 unfold shf
 rw [if_pos (by omega),if_pos (by omega),if_pos (by omega),if_neg (by omega),show i*2 / 2=i by omega,show (i*2+1) / 2=i by omega]
 exact ⟨rfl,rfl⟩
theorem shf_step (l:List Tv) (j i:Nat):(if i=j*2+1 then val (nth l j) else if i=j*2 then key (nth l j) else shf l j i)=shf l (j+1) i:=by
 by_cases e:i=j*2+1
 ·rw [if_pos e,e,(shf_at l (Nat.lt_succ_self j)).2]
 ·rw [if_neg e]
  by_cases e2:i=j*2
  ·rw [if_pos e2,e2,(shf_at l (Nat.lt_succ_self j)).1]
  ·rw [if_neg e2]
   unfold shf
   by_cases h:i / 2<j
   ·rw [if_pos h,if_pos (show i / 2<j+1 by omega)]
   ·rw [if_neg h,if_neg (show ¬ i / 2<j+1 by omega)]
theorem But.put {g r D:Nat} {o:Obj} {w v:World} (h:But g r w v) (hD:w.heap.size<=D):But g r w (v.putObj D o) :=
 ⟨h.1.grown (grownBy_putObj' v D o) (Nat.zero_le _) (fun k _=>Nat.zero_le _),fun j h0 h1 h2=>by
  rw [World.putObj_heap_other (by omega)]
  exact h.2 j h0 h1 h2⟩
set_option maxRecDepth 100000 in
set_option maxHeartbeats 2000000 in
theorem shift_yes (g r n f k p:Nat) (l:List Tv) (w:World) (h:RingAt w g r n f l) (hk0:1<=k) (hk:k<=l.length) (hp0:pl f n k=p) :
 Calls Tryz.prog 97 #[.pointer (some ⟨g,0,none⟩),.int .i64 k] w fun e w'=>∃ a,e=.returned (.slice (some ⟨a,0,none⟩) k k)/\w.heap.size<=a/\w'.rowIs a 111 (k*2) (shf l k)/\RingAt w' g r n p (l.drop k)/\But g r w w':=by
 have EP:Hid (pl f n k=p):=hp0
 clear hp0
 obtain ⟨n0,n1,n2⟩:=h.nums
 obtain ⟨c,ec⟩:∃ c,l.length=c:=⟨_,rfl⟩
 have EC:Hid (l.length=c):=ec
 have hmk:=run_make_rows (P:=Tryz.prog) 152 111 (.agg #[.slice none 0 0,.slice none 0 0]) #[.slice none 0 0,.slice none 0 0] 2 48 rfl Tryz.underlying152 Tryz.infoTokR .i64 .i64 k (by omega) (by omega)
 have HR:Hid (RingAt w g r n f l):=h
 have glt:=h.lt
 have c2:=h.hd.c2
 rw [ec] at c2 hk n0
 have q1:decide ((k:Int)<1)=false:=decide_eq_false (by omega)
 have q2:decide ((c:Int)<k)=false:=decide_eq_false (by omega)
 clear h ec
 refine (callsIn_wide (n:=6)).1 ?_
 refine callsIn_of_wp_marks Tryz.func97 rfl trivial ?_ rfl
 simp only [Tryz.ntmps97,List.size_toArray,List.length_cons,List.length_nil,Nat.reduceAdd,Nat.reduceSub,Array.replicate_succ,Array.replicate_zero,List.push_toArray,List.append_toArray,List.nil_append,List.cons_append]
 refine wpIn_wide.2 ?_
 go_wp2
 go_quiet (fail)
 go_wp2_with (go_at_call 77;refine (all_any g _).mono ?_;rintro e w' ⟨rfl,hww⟩;cases hww.symm;clear hww)
 clear hmk
 obtain ⟨W0,hW0⟩:∃ W0,((((w.alloc (.cells #[.int .i64 k] 3)).drewN nq).alloc (.cells (madeCells #[.slice none 0 0,.slice none 0 0] (k*2)) 111)).alloc (.cells #[.slice (some ⟨w.heap.size+1,0,none⟩) k k] 152)).alloc (.cells #[.pointer (some ⟨g,0,none⟩)] 107)=W0:=⟨_,rfl⟩
 have hsz:W0.heap.size=w.heap.size+4:=by rw [<-hW0];simp
 have hB0:Below w.heap.size w W0:=by rw [<-hW0];exact (((below_drewN ((Below.refl _ w).alloc (Nat.le_refl _) _) _).alloc (by simp) _).alloc (by simp;omega) _).alloc (by simp;omega) _
 have bN:Boxed W0 w.heap.size 3 (.int .i64 k):=by
  rw [<-hW0]
  exact (((show Boxed ((w.alloc (.cells #[.int .i64 k] 3)).drewN nq) w.heap.size 3 (.int .i64 k) from Boxed.new w _ _).alloc _).alloc _).alloc _
 have bO:Boxed W0 (w.heap.size+1+1) 152 (.slice (some ⟨w.heap.size+1,0,none⟩) k k):=by
  have:=(Boxed.new (((w.alloc (.cells #[.int .i64 k] 3)).drewN nq).alloc (.cells (madeCells #[.slice none 0 0,.slice none 0 0] (k*2)) 111)) 152 (.slice (some ⟨w.heap.size+1,0,none⟩) k k)).alloc (.cells #[.pointer (some ⟨g,0,none⟩)] 107)
  rw [hW0] at this
  simpa using this
 have bP:Boxed W0 (w.heap.size+1+1+1) 107 (.pointer (some ⟨g,0,none⟩)):=by
  have:=Boxed.new ((((w.alloc (.cells #[.int .i64 k] 3)).drewN nq).alloc (.cells (madeCells #[.slice none 0 0,.slice none 0 0] (k*2)) 111)).alloc (.cells #[.slice (some ⟨w.heap.size+1,0,none⟩) k k] 152)) 107 (.pointer (some ⟨g,0,none⟩))
  rw [hW0] at this
  simpa using this
 have rM:W0.rowIs (w.heap.size+1) 111 (k*2) (shf l 0):=by
  have:=((row_made ((w.alloc (.cells #[.int .i64 k] 3)).drewN nq) #[.slice none 0 0,.slice none 0 0] (k*2) 111).alloc (.cells #[.slice (some ⟨w.heap.size+1,0,none⟩) k k] 152)).alloc (.cells #[.pointer (some ⟨g,0,none⟩)] 107)
  rw [hW0] at this
  refine World.rowIs.congr (by simpa using this) fun i hi=>?_
  have e2:shf l 0 i=.slice none 0 0:=by unfold shf;rw [if_neg (Nat.not_lt_zero _)]
  rw [e2]
  have:i % 2=0\/i % 2=1:=by omega
  rcases this with e | e <;> rw [e] <;> rfl
 rw [hW0]
 clear hW0
 refine (wpIn_wide (n:=6)).1 ?_
 refine range_at2 (m:=6) (by omega) (gf:=110) (lb:=#[.pointer (some ⟨w.heap.size+1+1+1,0,none⟩)]) rfl (enters_of Tryz.func110 (by kernel_rfl) rfl)
  (all_stops 5 (by omega) (w.heap.size+1+1+1) g r n f l W0 (by omega) bP.cell (HR.out.keep hB0)) (fun h k=>h.trans k) (kp_put (by omega) (by omega) (by omega)) (Below.refl _ _) (fun _=>rfl)
  (fun j W=>j<=k/\Boxed W w.heap.size 3 (.int .i64 k)/\Boxed W (w.heap.size+1+1) 152 (.slice (some ⟨w.heap.size+1,0,none⟩) k k)/\W.rowIs (w.heap.size+1) 111 (k*2) (shf l j)/\Boxed W (w.heap.size+1+1+1) 107 (.pointer (some ⟨g,0,none⟩))/\Below w.heap.size w W)
  (fun c' j W=>c'=.exit 0/\Boxed W w.heap.size 3 (.int .i64 k)/\Boxed W (w.heap.size+1+1) 152 (.slice (some ⟨w.heap.size+1,0,none⟩) k k)/\W.rowIs (w.heap.size+1) 111 (k*2) (shf l k)/\Boxed W (w.heap.size+1+1+1) 107 (.pointer (some ⟨g,0,none⟩))/\Below w.heap.size w W)
  (OwnFrom.and (fun _ _ _ _ hs _ _=>hs) (OwnFrom.and (boxed_ownFrom _ _ _ _) (OwnFrom.and (boxed_ownFrom _ _ _ _) (OwnFrom.and (row_ownFrom _ _ _ _ (fun j=>shf l j)) (OwnFrom.and (boxed_ownFrom _ _ _ _) (ownFrom_below (Nat.le_refl _) (by omega)))))))
  (fun c'=>OwnFrom.and (fun _ _ _ _ hs _ _=>hs) (OwnFrom.and (boxed_ownFrom _ _ _ _) (OwnFrom.and (boxed_ownFrom _ _ _ _) (OwnFrom.and (row_ownFrom _ _ _ _ (fun _=>shf l k)) (OwnFrom.and (boxed_ownFrom _ _ _ _) (ownFrom_below (Nat.le_refl _) (by omega)))))))
  ⟨Nat.zero_le _,bN,bO,rM,bP,hB0⟩
  (fun j ak W=>∃ B x,nth l j=x/\ak={ tmps:=#[.pointer (some ⟨g,0,none⟩),.int .i64 k,undef,.pointer (some ⟨w.heap.size,0,none⟩),.slice none 0 0,.pointer (some ⟨w.heap.size+1+1,0,none⟩),.int .i64 j,.pointer (some ⟨B,0,none⟩),.int .i64 k,.bool false,.bool false,.int .i64 k,.pointer (some ⟨g,0,none⟩),.pointer (some ⟨g,0,none⟩),.pointer (some ⟨g,2,none⟩),.int .i64 c,.bool false,.bool false,.int .i64 k,.slice (some ⟨w.heap.size+1,0,none⟩) k k,.pointer (some ⟨g,0,none⟩),.func (.func 110) #[] #[.pointer (some ⟨w.heap.size+1+1+1,0,none⟩)],.int .i64 j,tv x,undef,undef,undef,undef,undef,undef,undef,undef,undef,undef,undef,undef,undef,undef,undef,undef,undef,undef,undef,undef,undef,undef,undef,undef,undef],defers:=[] }/\W.rowIs B 111 2 (tvc x)/\j<=k/\Boxed W w.heap.size 3 (.int .i64 k)/\Boxed W (w.heap.size+1+1) 152 (.slice (some ⟨w.heap.size+1,0,none⟩) k k)/\W.rowIs (w.heap.size+1) 111 (k*2) (shf l j)/\Boxed W (w.heap.size+1+1+1) 107 (.pointer (some ⟨g,0,none⟩))/\Below w.heap.size w W)
  ?own ?assign ?body ?done ?stop
 case own =>
  rintro ak j A A' row ⟨B,x,e1,e2,h0,h1,h2,h3,h4,h5,h6⟩ hgr hr
  exact ⟨B,x,e1,e2,row_own h0 hgr hr,h1,boxed_ownFrom _ _ _ _ j A A' row h2 hgr hr,boxed_ownFrom _ _ _ _ j A A' row h3 hgr hr,row_own h4 hgr hr,boxed_ownFrom _ _ _ _ j A A' row h5 hgr hr,ownFrom_below (Nat.le_refl _) (by omega) j A A' row h6 hgr hr⟩
 case assign =>
  rintro lp j W K hj ⟨hjk,hn,hv,hrow,hpp,hB⟩ hK
  obtain ⟨x,ex⟩:∃ x,nth l j=x:=⟨_,rfl⟩
  have EX:Hid (nth l j=x):=ex
  have hK2:=hK
  rw [ex]
  clear ex hK
  obtain ⟨⟨xa,xn,xc⟩,⟨ya,yn,yc⟩⟩:=x
  simp only [tv,key,val]
  gi_wp2
  have hbx:=box_below W (.cells #[.slice xa xn xc,.slice ya yn yc] 111)
  refine hK2 _ _ ((keeps_alloc W _).from _) ⟨?_,?_,?_⟩ ⟨W.heap.size,((xa,xn,xc),(ya,yn,yc)),EX.out,rfl,tv_alloc W ((xa,xn,xc),(ya,yn,yc)),hjk,hn.alloc _,hv.alloc _,hrow.alloc _,hpp.alloc _,hB.trans (hbx.mono hB.size)⟩
  ·exact hbx.block _ (ty_box hpp).lt
  ·exact hbx.block _ (Nat.lt_of_lt_of_le glt.1 hB.size)
  ·exact hbx.block _ (Nat.lt_of_lt_of_le glt.2 hB.size)
 case body =>
  rintro lp j ak W hj ⟨B,x,ex,rfl,hbx,hjk,hn,hv,hrow,hpp,hB⟩
  obtain ⟨⟨xa,xn,xc⟩,⟨ya,yn,yc⟩⟩:=x
  have EX:Hid (nth l j=((xa,xn,xc),(ya,yn,yc))):=ex
  have c0:=hn.cell
  have ct:=hv.cell
  have q0:W.cell? ⟨B,0,none⟩=some (.slice xa xn xc):=hbx.cell (show 0<2 by decide)
  have q1:W.cell? ⟨B,1,none⟩=some (.slice ya yn yc):=hbx.cell (show 1<2 by decide)
  clear ex hbx
  simp only [tv,key,val]
  by_cases e:j=k
  ·subst e
   gi_wp2
   exact ⟨KeepsFrom.refl _ _,.inr ⟨.exit 0,.inr ⟨0,rfl,rfl⟩,rfl,hn,hv,hrow,hpp,hB⟩⟩
  ·have dj:decide ((j:Int)=(k:Int))=false:=decide_eq_false (by omega)
   have hj1:j<k:=by omega
   have v0:=hrow.cell (show j*2<k*2 by omega)
   have v1:=hrow.cell (show j*2+1<k*2 by omega)
   have f0:=hrow.frozen (j*2)
   have f1:=hrow.frozen (j*2+1)
   gi_wp2
   refine ⟨((KeepsOthers.setCell _ _ _).trans (KeepsOthers.setCell _ _ _)).from _,.inl ⟨rfl,⟨?_,?_,?_⟩,by omega,boxed_far (boxed_far hn (show ¬ w.heap.size=w.heap.size+1 by omega)) (show ¬ w.heap.size=w.heap.size+1 by omega),boxed_far (boxed_far hv (show ¬ w.heap.size+1+1=w.heap.size+1 by omega)) (show ¬ w.heap.size+1+1=w.heap.size+1 by omega),((hrow.set (j*2) (.slice xa xn xc)).set (j*2+1) (.slice ya yn yc)).congr fun i hi=>?_,boxed_far (boxed_far hpp (show ¬ w.heap.size+1+1+1=w.heap.size+1 by omega)) (show ¬ w.heap.size+1+1+1=w.heap.size+1 by omega),(hB.setCell (p:=⟨w.heap.size+1,j*2,none⟩) (Nat.le_succ _) _).setCell (p:=⟨w.heap.size+1,j*2+1,none⟩) (Nat.le_succ _) _⟩⟩
   ·rw [Below.heap_setCell _ _ _ _ (show w.heap.size+1+1+1 ≠ w.heap.size+1 by omega),Below.heap_setCell _ _ _ _ (show w.heap.size+1+1+1 ≠ w.heap.size+1 by omega)]
   ·rw [Below.heap_setCell _ _ _ _ (show g ≠ w.heap.size+1 by omega),Below.heap_setCell _ _ _ _ (show g ≠ w.heap.size+1 by omega)]
   ·rw [Below.heap_setCell _ _ _ _ (show r ≠ w.heap.size+1 by omega),Below.heap_setCell _ _ _ _ (show r ≠ w.heap.size+1 by omega)]
   ·rw [<-shf_step l j i,EX.out]
    rfl
 case done =>
  rintro D W hD ⟨hjk,hn,hv,hrow,hpp,hB⟩ hK
  have ek:l.length=k:=by have:=EC.out;omega
  rw [ek] at hrow
  clear ek
  have RW:=HR.out.keep hB
  have hlt3:g<w.heap.size/\r<w.heap.size:=glt
  have c0:=hn.cell
  have ct:=hv.cell
  obtain ⟨F,h1,h2,_,_,_,h4⟩:=RW
  have H1:Hid (W.rowIs g 154 3 (rc r n f l.length)):=h1
  have H2:Hid (W.rowIs r 111 (n*2) F):=h2
  have H4:Hid (∀ i,i<l.length->F (pl f n i*2)=key (nth l i)/\F (pl f n i*2+1)=val (nth l i)):=h4
  have N2:Hid (f<n\/n=0/\f=0):=n2
  have hp:p<n:=by rw [<-EP.out];exact pl_lt (by omega)
  clear h1 h2 h4 c2
  go_wp2_with (first
   | (go_at_call 106;refine (forget_any g r n f 0 k l _ F H1.out H2.out (by have:=EC.out;omega) n1 N2.out (Nat.zero_le _) (by omega)).mono ?_;rintro e w1 ⟨rfl,hb,F1,r1,r2,hF⟩;have HB1:Hid (But g r W w1):=hb;have R1:Hid (w1.rowIs g 154 3 (rc r n f l.length)):=r1;have R2:Hid (w1.rowIs r 111 (n*2) F1):=r2;have HF:Hid (∀ i,i<n->(i<0\/k<=i)->F1 (pl f n i*2)=F (pl f n i*2)/\F1 (pl f n i*2+1)=F (pl f n i*2+1)):=hF;have k0:=(hb.cell (a:=⟨w.heap.size,0,none⟩) hn.lt (show ¬ w.heap.size=g by omega) (show ¬ w.heap.size=r by omega)).trans c0;have kt:=(hb.cell (a:=⟨w.heap.size+1+1,0,none⟩) hv.lt (show ¬ w.heap.size+1+1=g by omega) (show ¬ w.heap.size+1+1=r by omega)).trans ct;have g1':w1.cell? ⟨g,1,none⟩=some (.int .i64 f):=R1.out.cell (show 1<3 by decide);have g2':w1.cell? ⟨g,2,none⟩=some (.int .i64 l.length):=R1.out.cell (show 2<3 by decide);rw [EC.out] at g2';have f1':=R1.out.frozen 1;have f2':=R1.out.frozen 2;clear hb r1 r2 hF)
   | (go_at_call 96;refine (place_any g r n f l.length k p _ R1.out (by omega) n1 (by omega) (by omega) EP.out).mono ?_;rintro e w2 ⟨rfl,q,rfl⟩))
  go_region
  all_goals
   go_wp2
   have hK1:w1.heap[D]?=some (.deferred (some [])):=(HB1.out.keeps ⟨F,H1.out,H2.out,by have:=EC.out;omega,n1,N2.out,H4.out⟩).same D _ hK rfl
   have hK2:=(KeepsOthers.setCell (w1.drewN q) ⟨g,1,none⟩ (.int .i64 p)).same D _ hK1 rfl
   have hK':=(KeepsOthers.setCell ((w1.drewN q).setCell ⟨g,1,none⟩ (.int .i64 p)).drew ⟨g,2,none⟩ (.int .i64 ((c:Int) - k))).same D _ hK2 rfl
   refine ⟨by simp,.inl ⟨_,_,rfl,run_takeDeferred hK',?_⟩⟩
   have gr:¬ g=r:=(ty_row H1.out).ne (ty_row H2.out) (by decide)
   have rg:¬ r=g:=fun e=>gr e.symm
   have hD3:w.heap.size+4<=D:=by omega
   have a1:Hd ((w1.drewN q).setCell ⟨g,1,none⟩ (.int .i64 p)) g r n p l.length:=Hd.set1 (w:=w1.drewN q) R1.out p
   have a2:Hd ((((w1.drewN q).setCell ⟨g,1,none⟩ (.int .i64 p)).drew).setCell ⟨g,2,none⟩ (.int .i64 ((c:Int) - k))) g r n p (c - k):=by
    have:=Hd.set2 (w:=((w1.drewN q).setCell ⟨g,1,none⟩ (.int .i64 p)).drew) a1 (c - k)
    rw [show (((c - k:Nat):Int))=(c:Int) - k by omega] at this
    exact this
   have a3:((((w1.drewN q).setCell ⟨g,1,none⟩ (.int .i64 p)).drew).setCell ⟨g,2,none⟩ (.int .i64 ((c:Int) - k))).rowIs r 111 (n*2) F1 :=
    World.rowIs.setOther (World.rowIs.setOther (w:=w1.drewN q) R2.out (show r ≠ g from rg) _) (show r ≠ g from rg) _
   have a4:((((w1.drewN q).setCell ⟨g,1,none⟩ (.int .i64 p)).drew).setCell ⟨g,2,none⟩ (.int .i64 ((c:Int) - k))).rowIs (w.heap.size+1) 111 (k*2) (shf l k) :=
    World.rowIs.setOther (World.rowIs.setOther (w:=w1.drewN q) (hrow.of_block (HB1.out.2 (w.heap.size+1) hrow.lt (by omega) (by omega))) (show w.heap.size+1 ≠ g by omega) _) (show w.heap.size+1 ≠ g by omega) _
   have lk:(l.drop k).length=c - k:=by rw [List.length_drop,EC.out]
   have lt:(l.take k).length=k:=by rw [List.length_take,EC.out];omega
   refine ⟨_,results_tmp rfl _ _ _,w.heap.size+1,rfl,Nat.le_succ _,?_,⟨F1,?_,a3.of_block (World.putObj_heap_other (by omega)),by omega,n1,.inl hp,fun i hi=>?_⟩,?_⟩
   ·have a5:=a4.of_block (w':=World.putObj _ D (.deferred none)) (World.putObj_heap_other (by omega))
    exact a5
   ·rw [lk]
    exact World.rowIs.of_block a2 (World.putObj_heap_other (by omega))
   ·rw [<-EP.out,pl_shift,(HF.out (k+i) (by omega) (.inr (by omega))).1,(HF.out (k+i) (by omega) (.inr (by omega))).2,nth_drop]
    exact H4.out (k+i) (by have:=EC.out;omega)
   ·refine But.put ?_ (by omega)
    exact ((((But.of_below (g:=g) (r:=r) hB).trans HB1.out).drew q).set (p:=⟨g,1,none⟩) (.inl rfl) _).drew 1 |>.set (p:=⟨g,2,none⟩) (.inl rfl) _
 case stop =>
  rintro D c' j W hD hj ⟨rfl,hn,hv,hrow,hpp,hB⟩ hK
  have RW:=HR.out.keep hB
  have hlt3:g<w.heap.size/\r<w.heap.size:=glt
  have c0:=hn.cell
  have ct:=hv.cell
  obtain ⟨F,h1,h2,_,_,_,h4⟩:=RW
  have H1:Hid (W.rowIs g 154 3 (rc r n f l.length)):=h1
  have H2:Hid (W.rowIs r 111 (n*2) F):=h2
  have H4:Hid (∀ i,i<l.length->F (pl f n i*2)=key (nth l i)/\F (pl f n i*2+1)=val (nth l i)):=h4
  have N2:Hid (f<n\/n=0/\f=0):=n2
  have hp:p<n:=by rw [<-EP.out];exact pl_lt (by omega)
  clear h1 h2 h4 c2
  refine wpIn_wide.2 ?_
  go_wp2_with (first
   | (go_at_call 106;refine (forget_any g r n f 0 k l _ F H1.out H2.out (by have:=EC.out;omega) n1 N2.out (Nat.zero_le _) (by omega)).mono ?_;rintro e w1 ⟨rfl,hb,F1,r1,r2,hF⟩;have HB1:Hid (But g r W w1):=hb;have R1:Hid (w1.rowIs g 154 3 (rc r n f l.length)):=r1;have R2:Hid (w1.rowIs r 111 (n*2) F1):=r2;have HF:Hid (∀ i,i<n->(i<0\/k<=i)->F1 (pl f n i*2)=F (pl f n i*2)/\F1 (pl f n i*2+1)=F (pl f n i*2+1)):=hF;have k0:=(hb.cell (a:=⟨w.heap.size,0,none⟩) hn.lt (show ¬ w.heap.size=g by omega) (show ¬ w.heap.size=r by omega)).trans c0;have kt:=(hb.cell (a:=⟨w.heap.size+1+1,0,none⟩) hv.lt (show ¬ w.heap.size+1+1=g by omega) (show ¬ w.heap.size+1+1=r by omega)).trans ct;have g1':w1.cell? ⟨g,1,none⟩=some (.int .i64 f):=R1.out.cell (show 1<3 by decide);have g2':w1.cell? ⟨g,2,none⟩=some (.int .i64 l.length):=R1.out.cell (show 2<3 by decide);rw [EC.out] at g2';have f1':=R1.out.frozen 1;have f2':=R1.out.frozen 2;clear hb r1 r2 hF)
   | (go_at_call 96;refine (place_any g r n f l.length k p _ R1.out (by omega) n1 (by omega) (by omega) EP.out).mono ?_;rintro e w2 ⟨rfl,q,rfl⟩))
  go_region
  all_goals
   go_wp2
   have hK1:w1.heap[D]?=some (.deferred (some [])):=(HB1.out.keeps ⟨F,H1.out,H2.out,by have:=EC.out;omega,n1,N2.out,H4.out⟩).same D _ hK rfl
   have hK2:=(KeepsOthers.setCell (w1.drewN q) ⟨g,1,none⟩ (.int .i64 p)).same D _ hK1 rfl
   have hK':=(KeepsOthers.setCell ((w1.drewN q).setCell ⟨g,1,none⟩ (.int .i64 p)).drew ⟨g,2,none⟩ (.int .i64 ((c:Int) - k))).same D _ hK2 rfl
   refine ⟨by simp,.inl ⟨_,_,rfl,run_takeDeferred hK',?_⟩⟩
   have gr:¬ g=r:=(ty_row H1.out).ne (ty_row H2.out) (by decide)
   have rg:¬ r=g:=fun e=>gr e.symm
   have hD3:w.heap.size+4<=D:=by omega
   have a1:Hd ((w1.drewN q).setCell ⟨g,1,none⟩ (.int .i64 p)) g r n p l.length:=Hd.set1 (w:=w1.drewN q) R1.out p
   have a2:Hd ((((w1.drewN q).setCell ⟨g,1,none⟩ (.int .i64 p)).drew).setCell ⟨g,2,none⟩ (.int .i64 ((c:Int) - k))) g r n p (c - k):=by
    have:=Hd.set2 (w:=((w1.drewN q).setCell ⟨g,1,none⟩ (.int .i64 p)).drew) a1 (c - k)
    rw [show (((c - k:Nat):Int))=(c:Int) - k by omega] at this
    exact this
   have a3:((((w1.drewN q).setCell ⟨g,1,none⟩ (.int .i64 p)).drew).setCell ⟨g,2,none⟩ (.int .i64 ((c:Int) - k))).rowIs r 111 (n*2) F1 :=
    World.rowIs.setOther (World.rowIs.setOther (w:=w1.drewN q) R2.out (show r ≠ g from rg) _) (show r ≠ g from rg) _
   have a4:((((w1.drewN q).setCell ⟨g,1,none⟩ (.int .i64 p)).drew).setCell ⟨g,2,none⟩ (.int .i64 ((c:Int) - k))).rowIs (w.heap.size+1) 111 (k*2) (shf l k) :=
    World.rowIs.setOther (World.rowIs.setOther (w:=w1.drewN q) (hrow.of_block (HB1.out.2 (w.heap.size+1) hrow.lt (by omega) (by omega))) (show w.heap.size+1 ≠ g by omega) _) (show w.heap.size+1 ≠ g by omega) _
   have lk:(l.drop k).length=c - k:=by rw [List.length_drop,EC.out]
   have lt:(l.take k).length=k:=by rw [List.length_take,EC.out];omega
   refine ⟨_,results_tmp rfl _ _ _,w.heap.size+1,rfl,Nat.le_succ _,?_,⟨F1,?_,a3.of_block (World.putObj_heap_other (by omega)),by omega,n1,.inl hp,fun i hi=>?_⟩,?_⟩
   ·have a5:=a4.of_block (w':=World.putObj _ D (.deferred none)) (World.putObj_heap_other (by omega))
    exact a5
   ·rw [lk]
    exact World.rowIs.of_block a2 (World.putObj_heap_other (by omega))
   ·rw [<-EP.out,pl_shift,(HF.out (k+i) (by omega) (.inr (by omega))).1,(HF.out (k+i) (by omega) (.inr (by omega))).2,nth_drop]
    exact H4.out (k+i) (by have:=EC.out;omega)
   ·refine But.put ?_ (by omega)
    exact ((((But.of_below (g:=g) (r:=r) hB).trans HB1.out).drew q).set (p:=⟨g,1,none⟩) (.inl rfl) _).drew 1 |>.set (p:=⟨g,2,none⟩) (.inl rfl) _
end Rt
end Go.Proofs.YtnchnlgnnlgjcaaGreat
