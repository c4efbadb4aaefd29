import Derived.Test.YtnchnlgnnlgjcaaGreatCo14
import Derived.Test.YtnchnlgnnlgjcaaGreatCo03
set_option linter.unusedVariables false
namespace Go.Proofs.YtnchnlgnnlgjcaaGreat
open Go.RowKit
def ShAt (w:World) (b:Nat) (H D g i:Int) (al:Option Addr) (n cl:Nat):Prop :=
 w.cell? ⟨b,0,none⟩=some (.int .i64 H)/\w.cell? ⟨b,1,none⟩=some (.int .i64 D)/\w.cell? ⟨b,2,none⟩=some (.int .i64 g)/\w.cell? ⟨b,3,none⟩=some (.int .i64 i)/\w.cell? ⟨b,4,none⟩=some (.slice al n cl)
theorem ShAt.keep {w w':World} {b:Nat} {H D g i:Int} {al:Option Addr} {n cl:Nat} (h:ShAt w b H D g i al n cl) (hb:Below w.heap.size w w'):ShAt w' b H D g i al n cl:=by
 obtain ⟨h0,h1,h2,h3,h4⟩:=h
 have hl:=World.block_lt_of_cell? w _ h0
 refine ⟨?_,?_,?_,?_,?_⟩ <;> (rw [hb.cell (by exact hl)];assumption)
theorem ShAt.made (w:World) (H D g i:Int) (al:Option Addr) (n cl:Nat) (t:TypeId):ShAt (w.alloc (.cells #[.int .i64 H,.int .i64 D,.int .i64 g,.int .i64 i,.slice al n cl] t)) w.heap.size H D g i al n cl:=by
 refine ⟨?_,?_,?_,?_,?_⟩ <;> simp
theorem Ca.row_map (f:Tok->List Int) (L:List Tok) {q:Nat} (h:q<L.length):Tb.row (L.map f) q=f L[q]:=by simp [Tb.row,h]
theorem Ca.row_in (f:Tok->List Int) (L:List Tok) (h:∀ q (hq:q<L.length),Ls.In32 (f L[q])) (q:Nat):Ls.In32 (Tb.row (L.map f) q):=by
 by_cases hq:q<L.length
 ·rw [Ca.row_map f L hq];exact h q hq
 ·rw [Tb.row_past (by simp;omega)];exact fun i=>by rw [Ls.nth_nil];omega
def Ca.nine (m0 m1 n d h4 h5 h6:Int) (v7 v8:Value):List Value:=[.int .i64 m0,.int .i64 m1,.int .i64 n,.int .i64 d,.int .i64 h4,.int .i64 h5,.int .i64 h6,v7,v8]
theorem ePg_new {K:Nat->Prop} {w:World} (m0 m1 n d h4 h5 h6:Int) {x7 x8:Option Addr} {e7 e8:Nat} {ks vs:List G3} (hk:SlQ K 3 eGp w x7 ks) (hv:SlQ K 3 eGp w x8 vs)
 (c:Nat->Option Value) (hc:∀ j,j<9->c j=(Ca.nine m0 m1 n d h4 h5 h6 (.slice x7 ks.length e7) (.slice x8 vs.length e8))[j]?):ePg K w c ([m0,m1,n,d,h4,h5,h6],ks,vs):=by
 refine ⟨fun j hj=>?_,⟨x7,e7,by rw [hc 7 (by decide)];rfl,hk⟩,x8,e8,by rw [hc 8 (by decide)];rfl,hv⟩
 rw [hc j (by omega)]
 match j,hj with
 | 0,_=>rfl
 | 1,_=>rfl
 | 2,_=>rfl
 | 3,_=>rfl
 | 4,_=>rfl
 | 5,_=>rfl
 | 6,_=>rfl
theorem listsL_anym {Q:Nat->Prop} (a:Option Addr) (m c:Nat) (L:List Tok) (hd:Nat) (w:World) (hm:m=L.length) (h:SlQ Q 2 eTok w a L) (hl:L.length<=100000) (hh:∀ k (hk:k<L.length),hd<(L[k]).1.length/\hd<(L[k]).2.length) (hd4:hd<1000) :
 Calls Tryz.prog 90 #[.slice a m c,.int .i64 (hd:Int)] w fun e w'=>∃ a1 c1 a2 c2,e=.returned (.tuple #[.slice a1 m c1,.slice a2 m c2])/\Tbl w' a1 (Ca.ksOf L hd)/\Tbl w' a2 (Ca.vsOf L hd)/\Below w.heap.size w w':=by
 subst hm
 refine (listsL_any a c L hd w h hl hh hd4).mono ?_
 rintro e w' ⟨v1,v2,xs,ys,rfl,h1,h2,_,hb⟩
 obtain ⟨a1,c1,rfl,s1,_⟩:=h1.slq carry_row (Q':=fun _=>True) (fun _ _=>trivial) (fun _ _=>trivial)
 obtain ⟨a2,c2,rfl,s2,_⟩:=h2.slq carry_row (Q':=fun _=>True) (fun _ _=>trivial) (fun _ _=>trivial)
 exact ⟨a1,c1,a2,c2,rfl,s1.tbl,s2.tbl,hb⟩
theorem refQuantizeB_anym (m0 m1 n0 d0 s0 s1:Nat) (h4 h5 h6:Int) (a1 a2:Option Addr) (c1 c2:Nat) (ks vs:List (List Int)) (w:World) (st0:Gp.St m0 s0) (st1:Gp.St m1 s1)
 (hk:Tbl w a1 ks) (hv:Tbl w a2 vs) (ik:∀ k,Ls.In32 (Tb.row ks k)) (iv:∀ k,Ls.In32 (Tb.row vs k)) (lk:ks.length=n0) (lv:vs.length=n0) (b1:1<=n0) (b2:n0<=16) (b3:1<=d0) (b4:d0<=16)
 (rk:∀ k,k<ks.length->(Tb.row ks k).length=d0) (rv:∀ k,k<vs.length->(Tb.row vs k).length=d0) :
 Calls Tryz.prog 112 #[.agg #[.int .i64 (m0:Int),.int .i64 (m1:Int),.int .i64 (n0:Int),.int .i64 (d0:Int),.int .i64 h4,.int .i64 h5,.int .i64 h6],.slice a1 n0 c1,.slice a2 n0 c2] w fun e w'=>∃ x7 e7 x8 e8,e=.returned (.agg #[.int .i64 (m0:Int),.int .i64 (m1:Int),.int .i64 (n0:Int),.int .i64 (d0:Int),.int .i64 h4,.int .i64 h5,.int .i64 h6,.slice x7 d0 e7,.slice x8 n0 e8])/\GpsB w.heap.size w' x7 (Pg.qk s0 d0 ks)/\GpsB w.heap.size w' x8 (Pg.qv s1 vs)/\Below w.heap.size w w':=by
 have h:=refQuantizeB_any m0 m1 n0 d0 s0 s1 h4 h5 h6 a1 a2 c1 c2 ks vs w st0 st1 hk hv ik iv lk lv b1 b2 b3 b4 rk rv
 rw [lk,lv] at h
 exact h
set_option maxRecDepth 100000 in
set_option maxHeartbeats 1600000 in
theorem pagesL_any {Q:Nat->Prop} (H D g win m0 m1 s0 s1 ly hd G:Nat) (al:Option Addr) (ls:List (Int × Int)) (cl:Nat) (a:Option Addr) (c:Nat) (L:List Tok) (w:World) (st0:Gp.St m0 s0) (st1:Gp.St m1 s1)
 (hp:Tn.Tr.Ps w al ls) (hly:ly<ls.length) (f0:Tn.Tr.fst ls ly=(m0:Int)) (f1:Tn.Tr.snd ls ly=(m1:Int)) (hls:ls.length<=4) (h:SlQ Q 2 eTok w a L) (hc:L.length<=c) (hl:L.length<=1000) (hd4:hd<4)
 (hg:1<=g) (hg2:g<=16) (hw:win<=64) (hD:1<=D) (hD2:D<=16) (hG:Tn.Tr.grp g win (L.length:Int)=(G:Int)) (hGL:G*g<=L.length)
 (ht:∀ k (hk:k<L.length),hd<(L[k]).1.length/\hd<(L[k]).2.length/\(Ca.nt (L[k]).1 hd).length=D/\(Ca.nt (L[k]).2 hd).length=D/\Ls.In32 (Ca.nt (L[k]).1 hd)/\Ls.In32 (Ca.nt (L[k]).2 hd)) :
 Calls Tryz.prog 87 #[.agg #[.int .i64 (H:Int),.int .i64 (D:Int),.int .i64 (g:Int),.int .i64 (win:Int),.slice al ls.length cl],.slice a L.length c,.int .i64 (ly:Int),.int .i64 (hd:Int)] w fun e w' =>
  ∃ v xs,e=.returned v/\AccQ (fun q=>w.heap.size+1<=q) (w.heap.size+1) 9 139 ePg w' v G (Ca.pgs m0 m1 s0 s1 g D ly hd L G) xs/\Below w.heap.size w w':=by
 obtain ⟨i1,hi10,hi11,hi12,hi13⟩:=info_parts Ca.infoPg
 have HR:Hid (SlQ Q 2 eTok w a L):=h
 have HP:Hid (Tn.Tr.Ps w al ls):=hp
 have HT:=Ca.hid ht
 have HG:=Ca.hid hG
 have F0:=Ca.hid f0
 have F1:=Ca.hid f1
 have GL:=Ca.hid hGL
 clear h hp ht hG f0 f1 hGL
 go_enter Tryz.func87,Tryz.ntmps87
 go_wp2
 obtain ⟨wb,ewb⟩:∃ wb,w.alloc (.cells #[.int .i64 (H:Int),.int .i64 (D:Int),.int .i64 (g:Int),.int .i64 (win:Int),.slice al ls.length cl] 39)=wb:=⟨_,rfl⟩
 have WB:Hid (Below w.heap.size w wb/\wb.heap.size=w.heap.size+1/\ShAt wb w.heap.size H D g win al ls.length cl):=by
  rw [<-ewb]
  exact ⟨box_below _ _,by simp,ShAt.made _ _ _ _ _ _ _ _ _⟩
 rw [ewb]
 clear ewb
 go_loopw [9,11] (fun v i wq=>∃ (k:Nat) (xs:List Value),k<=G/\i=.int .i64 k/\Hid (AccQ (fun q=>w.heap.size+1<=q) (w.heap.size+1) 9 139 ePg wq v k (Ca.pgs m0 m1 s0 s1 g D ly hd L k) xs)/\Hid (Below (w.heap.size+1) wb wq)) (fun _ i _=>G - (intOf i).toNat)
 case atStart=>exact ⟨0,[],Nat.zero_le _,rfl,acc_nil _ _ _ _ _ _,Below.refl _ _⟩
 case round =>
  obtain ⟨k,xs,hk,rfl,AC,B0⟩:=hrel
  have SH:Hid (ShAt wr w.heap.size H D g win al ls.length cl):=WB.out.2.2.keep (by rw [WB.out.2.1];exact B0.out)
  obtain ⟨z0,z1,z2,z3,z4⟩:=SH.out
  have hs:w.heap.size+1<=wr.heap.size:=by have:=B0.out.size;have:=WB.out.2.1;omega
  by_cases hlt:k<G
  ·have hkg:(k+1)*g<=L.length:=Nat.le_trans (Nat.mul_le_mul_right g hlt) GL.out
   rw [Nat.add_mul,Nat.one_mul] at hkg
   have hge:k*g<=1000:=by omega
   have hk1:k<1000:=by have:=Nat.le_mul_of_pos_right G hg;have:=GL.out;omega
   have LP:Hid (g=(Ca.piece g L k).length):=by show _=_;unfold Ca.piece;rw [List.length_take,List.length_drop];omega
   have PT:Hid (∀ j (hj:j<(Ca.piece g L k).length),hd<((Ca.piece g L k)[j]).1.length/\hd<((Ca.piece g L k)[j]).2.length/\(Ca.nt ((Ca.piece g L k)[j]).1 hd).length=D/\(Ca.nt ((Ca.piece g L k)[j]).2 hd).length=D/\Ls.In32 (Ca.nt ((Ca.piece g L k)[j]).1 hd)/\Ls.In32 (Ca.nt ((Ca.piece g L k)[j]).2 hd)):=fun j hj=>by
    have hj2:k*g+j<L.length:=by rw [<-LP.out] at hj;omega
    have e:(Ca.piece g L k)[j]=L[k*g+j]:=by simp [Ca.piece]
    rw [e]
    exact HT.out _ hj2
   have PH:Hid (∀ j (hj:j<(Ca.piece g L k).length),hd<((Ca.piece g L k)[j]).1.length/\hd<((Ca.piece g L k)[j]).2.length):=fun j hj=>⟨(PT.out j hj).1,(PT.out j hj).2.1⟩
   go_wp2_with (first
    | (go_at_call 46;refine (Tn.refGroups_any (g:Int) (win:Int) (L.length:Int) (G:Int) al ls.length cl (by omega) (by omega) (by omega) (by omega) (by omega) (by omega) HG.out _).mono ?_;rintro e w1 ⟨rfl,hb⟩;have B1:=Ca.hid hb;clear hb z0 z1 z2 z3 z4;have BW:Hid (Below w.heap.size w w1):=(WB.out.1.trans (B0.out.mono (by omega))).trans (B1.out.mono (by omega)))
    | (go_at_call 90;refine (listsL_anym _ _ _ (Ca.piece g L k) hd _ LP.out ((HR.out.keep carry_tok BW.out).from (k*g) g (fun _ b o e=>by rw [e];simp [Addr.add])) (by have:=LP.out;omega) PH.out (by omega)).mono ?_;rintro e w2 ⟨a1,c1,a2,c2,rfl,t1,t2,hb⟩;have B2:=Ca.hid hb;have T1:=Ca.hid t1;have T2:=Ca.hid t2;clear hb t1 t2;obtain ⟨z0,z1,z2,z3,z4⟩:=SH.out.keep (below_then B1.out B2.out);obtain ⟨pb,po,rfl,hpc⟩:=(HP.out.keep (below_then BW.out B2.out)).get (by omega);obtain ⟨y0,y1⟩:=hpc ly hly;rw [F0.out] at y0;rw [F1.out] at y1;clear hpc))
   have bl2:pb<w2.heap.size:=World.block_lt_of_cell? w2 _ y0
   have bl1:w.heap.size<w2.heap.size:=World.block_lt_of_cell? w2 _ z1
   have ne1:=World.new_ne w2 _ z1
   have ne2:=World.new_ne w2 _ z4
   have ne3:=World.new_ne w2 _ y0
   have ne4:=World.new_ne w2 _ y1
   go_region_held3 (fun w'=>w'.cell? ⟨w.heap.size,1,none⟩=some (.int .i64 (D:Int))/\w'.cell? ⟨w.heap.size,4,none⟩=some (.slice (some ⟨pb,po,none⟩) ls.length cl)/\w'.cell? ⟨pb,po+ly*2,none⟩=some (.int .i64 (m0:Int))/\w'.cell? ⟨pb,po+ly*2+1,none⟩=some (.int .i64 (m1:Int)))
    (go_keep)
    (fail)
   obtain ⟨w3,ew3⟩:∃ w3,(w2.alloc (.cells #[.int .i64 (m0:Int),.int .i64 (m1:Int),.int .i64 (g:Int),.int .i64 (D:Int),.int .i64 (ly:Int),.int .i64 (hd:Int),.int .i64 (k:Int)] 136)).drew=w3:=⟨_,rfl⟩
   have B3:Hid (Below w2.heap.size w2 w3):=by rw [<-ew3];exact (box_below _ _).drew
   have p0:w3.cell? ⟨w2.heap.size,0,none⟩=some (.int .i64 (m0:Int)):=by rw [<-ew3];simp
   have p1:w3.cell? ⟨w2.heap.size,1,none⟩=some (.int .i64 (m1:Int)):=by rw [<-ew3];simp
   have p2:w3.cell? ⟨w2.heap.size,2,none⟩=some (.int .i64 (g:Int)):=by rw [<-ew3];simp
   have p3:w3.cell? ⟨w2.heap.size,3,none⟩=some (.int .i64 (D:Int)):=by rw [<-ew3];simp
   have p4:w3.cell? ⟨w2.heap.size,4,none⟩=some (.int .i64 (ly:Int)):=by rw [<-ew3];simp
   have p5:w3.cell? ⟨w2.heap.size,5,none⟩=some (.int .i64 (hd:Int)):=by rw [<-ew3];simp
   have p6:w3.cell? ⟨w2.heap.size,6,none⟩=some (.int .i64 (k:Int)):=by rw [<-ew3];simp
   have IK:Hid ((∀ q,Ls.In32 (Tb.row (Ca.ksOf (Ca.piece g L k) hd) q))/\∀ q,Ls.In32 (Tb.row (Ca.vsOf (Ca.piece g L k) hd) q)):=⟨Ca.row_in _ _ fun q hq=>(PT.out q hq).2.2.2.2.1,Ca.row_in _ _ fun q hq=>(PT.out q hq).2.2.2.2.2⟩
   have LK:Hid ((Ca.ksOf (Ca.piece g L k) hd).length=g/\(Ca.vsOf (Ca.piece g L k) hd).length=g):=⟨by simp [Ca.ksOf];exact LP.out.symm,by simp [Ca.vsOf];exact LP.out.symm⟩
   have RK:Hid ((∀ q,q<(Ca.ksOf (Ca.piece g L k) hd).length->(Tb.row (Ca.ksOf (Ca.piece g L k) hd) q).length=D)/\∀ q,q<(Ca.vsOf (Ca.piece g L k) hd).length->(Tb.row (Ca.vsOf (Ca.piece g L k) hd) q).length=D) :=
    ⟨fun q hq=>by have hq2:q<(Ca.piece g L k).length:=by simpa [Ca.ksOf] using hq
                  unfold Ca.ksOf;rw [Ca.row_map _ _ hq2];exact (PT.out q hq2).2.2.1,fun q hq=>by
                  have hq2:q<(Ca.piece g L k).length:=by simpa [Ca.vsOf] using hq
                  unfold Ca.vsOf;rw [Ca.row_map _ _ hq2];exact (PT.out q hq2).2.2.2.1⟩
   have BA:Hid (Below wr.heap.size wr w3):=below_then (below_then B1.out B2.out) B3.out
   rename_i hheld
   clear hheld
   rw [ew3]
   clear ew3 ne1 ne2 ne3 ne4 y0 y1 z0 z1 z2 z3 z4
   go_wp2_with (first
    | (go_at_call 112;refine (refQuantizeB_anym m0 m1 g D s0 s1 (ly:Int) (hd:Int) (k:Int) a1 a2 c1 c2 (Ca.ksOf (Ca.piece g L k) hd) (Ca.vsOf (Ca.piece g L k) hd) _ st0 st1 (T1.out.keep B3.out) (T2.out.keep B3.out) IK.out.1 IK.out.2 LK.out.1 LK.out.2 hg hg2 hD hD2 RK.out.1 RK.out.2).mono ?_;rintro e w4 ⟨x7,e7,x8,e8,rfl,g7,g8,hb⟩;have B4:Hid (Below wr.heap.size wr w4):=below_then BA.out hb;have G7:=Ca.hid g7;have G8:=Ca.hid g8;clear g7 g8 hb)
    | (at_builtin;refine wpList_append_lies _ rfl _ _ _ rfl (w.heap.size+1) 139 i1 _ 9 104 Tryz.underlying134 hi10 hi11 hi12 hi13 rfl (by omega) _ k xs (by rfl) (((AC.out.to carry_pg B4.out).to carry_pg (box_below _ _)).1) ⟨w4.heap.size,0,none⟩ 1 1 (Ca.nine m0 m1 g D ly hd k (.slice x7 D e7) (.slice x8 g e8)) (by rfl) (by rfl) (World.news_of_block (cs:=(Ca.nine m0 m1 g D ly hd k (.slice x7 D e7) (.slice x8 g e8)).toArray) (t:=139) (fr:=(0,0)) (heap_alloc_new w4 _)) (by simp [Ca.nine,Value.oneCell']) (by omega) (by unfold maxLen;omega) (by omega) (by have:=B4.out.size;simp;omega) (w4.heap.size+1) (by simp) ?_;intro gg cap w5 hown1 hgrow hat hlt1;have O5:Hid (w5.ownsRow (w.heap.size+1) 139 9 (.slice (some ⟨gg,0,none⟩) (k+1) cap) (k+1) (xs ++ Ca.nine m0 m1 g D ly hd k (.slice x7 D e7) (.slice x8 g e8))):=hown1;have G5:Hid ((w4.alloc (.cells (Ca.nine m0 m1 g D ly hd k (.slice x7 D e7) (.slice x8 g e8)).toArray 139)).grownBy w5 u9.ownBlock):=hgrow;have AT:Hid (u9.ownBlock=some gg\/gg=w4.heap.size+1):=hat;clear hown1 hgrow hat hlt1))
   go_roundw
   case rel =>
    have b4:=B4.out.size
    refine ⟨k+1,xs ++ Ca.nine m0 m1 g D ly hd k (.slice x7 D e7) (.slice x8 g e8),by omega,by go_num,?_,?_⟩
    ·rw [Ca.pgs_succ]
     have A2:=(AC.out.to carry_pg B4.out).to carry_pg (box_below w4 (.cells (Ca.nine m0 m1 g D ly hd k (.slice x7 D e7) (.slice x8 g e8)).toArray 139))
     have w23:wr.heap.size<=w3.heap.size:=BA.out.size
     have far:∀ q,u9.ownBlock=some q->q<wr.heap.size:=fun q hq=>(AC.out.1.lt q hq).2
     refine A2.snoc carry_pg O5.out rfl G5.out ?_ fun c hc=>?_
     ·rcases AT.out with q | q
      ·exact .inl q
      ·right;simp;exact q
     ·have k7:SlQ (fun q=>(w.heap.size+1<=q)/\q<(w4.alloc (.cells (Ca.nine m0 m1 g D ly hd k (.slice x7 D e7) (.slice x8 g e8)).toArray 139)).heap.size/\¬ u9.ownBlock=some q) 3 eGp (w4.alloc (.cells (Ca.nine m0 m1 g D ly hd k (.slice x7 D e7) (.slice x8 g e8)).toArray 139)) x7 (Pg.qk s0 D (Ca.ksOf (Ca.piece g L k) hd)) :=
       G7.out.slq.carry carry_gp (fun q h1 h2=>⟨⟨by omega,by simp;omega,fun e=>by have:=far q e;omega⟩,(box_below w4 _).block q h1⟩) (by simp)
      have k8:SlQ (fun q=>(w.heap.size+1<=q)/\q<(w4.alloc (.cells (Ca.nine m0 m1 g D ly hd k (.slice x7 D e7) (.slice x8 g e8)).toArray 139)).heap.size/\¬ u9.ownBlock=some q) 3 eGp (w4.alloc (.cells (Ca.nine m0 m1 g D ly hd k (.slice x7 D e7) (.slice x8 g e8)).toArray 139)) x8 (Pg.qv s1 (Ca.vsOf (Ca.piece g L k) hd)) :=
       G8.out.slq.carry carry_gp (fun q h1 h2=>⟨⟨by omega,by simp;omega,fun e=>by have:=far q e;omega⟩,(box_below w4 _).block q h1⟩) (by simp)
      exact ePg_new m0 m1 g D ly hd k (e7:=e7) (e8:=e8) k7 k8 c (by rw [Pg.qk_length,Pg.qv_length,LK.out.2];exact hc)
    ·exact ((B0.out.trans (B4.out.mono hs)).alloc (by omega) _).grown G5.out (by simp;omega) (fun q hq=>(AC.out.1.lt q hq).1)
   case measure=>simp [intOf];omega
  ·have ek:k=G:=by omega
   subst ek
   go_wp2_with (first
    | (go_at_call 46;refine (Tn.refGroups_any (g:Int) (win:Int) (L.length:Int) (k:Int) al ls.length cl (by omega) (by omega) (by omega) (by omega) (by omega) (by omega) HG.out _).mono ?_;rintro e w1 ⟨rfl,hb⟩;have B1:=Ca.hid hb;clear hb z0 z1 z2 z3 z4))
   go_ret
   exact ⟨_,xs,rfl,AC.out.to carry_pg B1.out,(WB.out.1.trans (B0.out.mono (by omega))).trans (B1.out.mono (by omega))⟩
end Go.Proofs.YtnchnlgnnlgjcaaGreat
namespace Go.Proofs.YtnchnlgnnlgjcaaGreat
open Go.RowKit
attribute [local go_sem ↓] Go.wp_at_zero Go.wp_at_succ
def Fr (B:Nat) (w:World) (a:Option Addr) (c:Nat) (l:List Int):Prop:=SlQ (fun q=>B<=q) 1 (eNum .i32) w a l/\l.length<=c/\c<=maxLen/\(a=none->c=0)
theorem Fr.mono {A B:Nat} {w:World} {a:Option Addr} {c:Nat} {l:List Int} (h:Fr B w a c l) (e:A<=B):Fr A w a c l:=⟨h.1.carry (carry_num _) (fun q _ hq=>⟨by omega,rfl⟩) (Nat.le_refl _),h.2⟩
theorem fr_of_ownm {w:World} {B base:Nat} {t:TypeId} {v:Value} {n:Nat} (hB:B<=base) {l:List Int} (h:w.ownsRow base t 1 v n (l.map (Value.int .i32))) (hn:n=l.length):∃ a c,v=.slice a n c/\Fr B w a c l:=by
 obtain ⟨a,c,e,hs,h1,h2,h3⟩:=slq_of_own (E:=eNum .i32) (Q:=fun q=>B<=q) (l:=l) h hn (fun q hq=>by have:=(h.lt q hq).1;omega) fun i hi c hc=>by
  show c 0=_
  rw [hc 0 (by decide)]
  simp [hi]
 exact ⟨a,c,e,hs,by omega,h2,h3⟩
set_option maxRecDepth 100000 in
set_option maxHeartbeats 1600000 in
theorem refBackN_any (z sc:Int) (a:Option Addr) (cp:Nat) (c:List Int) (w:World) (ha:Lst .i64 w a c) (hl:c.length<=256) (hf:Gp.fits 255 c=true) (hz1:-2147483648<=z) (hz2:z<=2147483647) (hs1:0<=sc) (hs2:sc<=4294967295) :
 Calls Tryz.prog 114 #[.agg #[.int .i32 z,.int .u32 sc,.slice a c.length cp]] w fun e w'=>∃ a' c',e=.returned (.slice a' c.length c') /\
  Fr w.heap.size w' a' c' (Gp.means z sc c)/\Below w.heap.size w w':=by
 obtain ⟨i0,hi0,hi1,hi2,hi3⟩:=info_parts Tryz.infoInt32
 have HA:Hid (Lst .i64 w a c):=ha
 have HF:Hid (Gp.fits 255 c=true):=hf
 clear ha hf
 go_enter Tryz.func114,Tryz.ntmps114
 go_wp2
 go_loopw [3,4] (fun v i wr=>∃ k:Nat,k<=c.length/\i=.int .i64 k/\wr.ownsRow (w.heap.size+1) 21 1 v k ((Ls.gen k fun j=>Gp.mean z sc (Ls.nth c j)).map (Value.int .i32))/\Below (w.heap.size+1) (w.alloc (.cells #[.int .i32 z,.int .u32 sc,.slice a c.length cp] 170)) wr) (fun _ i _=>c.length - (intOf i).toNat)
 case atStart=>exact ⟨0,Nat.zero_le _,rfl,World.ownsRow_nil _ _ _ _,Below.refl _ _⟩
 case round =>
  obtain ⟨k,hk,rfl,hown,hbel⟩:=hrel
  have hb0:Below w.heap.size w wr:=(box_below w _).trans (hbel.mono (by omega))
  have d2:wr.cell? ⟨w.heap.size,2,none⟩=some (.slice a c.length cp):=by rw [hbel.cell (p:=⟨w.heap.size,2,none⟩) (by simp)];exact cell_of_row _ _ _ _ _ _ (heap_alloc_new w _)
  by_cases hlt:k<c.length
  ·obtain ⟨b1,o1,rfl,hc1⟩:=HA.out.get hlt
   have hck:=hc1 k hlt
   have l1:b1<w.heap.size:=World.block_lt_of_cell? w _ hck
   have hfk:=Gp.fits_all HF.out k hlt
   have hsz:w.heap.size+1<=wr.heap.size:=by have:=hbel.size;simpa using this
   have KS:Hid (∀ w',Below (w.heap.size+1) (w.alloc (.cells #[.int .i32 z,.int .u32 sc,.slice (some ⟨b1,o1,none⟩) c.length cp] 170)) w' ->
    w'.cell? ⟨w.heap.size,0,none⟩=some (.int .i32 z)/\w'.cell? ⟨w.heap.size,1,none⟩=some (.int .u32 sc)/\w'.cell? ⟨w.heap.size,2,none⟩=some (.slice (some ⟨b1,o1,none⟩) c.length cp)/\w'.cell? ⟨b1,o1+k,none⟩=some (.int .i64 (Ls.nth c k)) /\
    Hid (Below (w.heap.size+1) (w.alloc (.cells #[.int .i32 z,.int .u32 sc,.slice (some ⟨b1,o1,none⟩) c.length cp] 170)) w')):=by
    intro w' hb
    refine ⟨?_,?_,?_,?_,hb⟩
    ·rw [hb.cell (p:=⟨w.heap.size,0,none⟩) (by simp)];exact cell_of_row _ _ _ _ _ _ (heap_alloc_new w _)
    ·rw [hb.cell (p:=⟨w.heap.size,1,none⟩) (by simp)];exact cell_of_row _ _ _ _ _ _ (heap_alloc_new w _)
    ·rw [hb.cell (p:=⟨w.heap.size,2,none⟩) (by simp)];exact cell_of_row _ _ _ _ _ _ (heap_alloc_new w _)
    ·rw [hb.cell (p:=⟨b1,o1+k,none⟩) (show b1<w.heap.size+1 by omega),(box_below w _).cell (p:=⟨b1,o1+k,none⟩) l1];exact hck
   have HO:Hid (wr.ownsRow (w.heap.size+1) 21 1 u3 k ((Ls.gen k fun j=>Gp.mean z sc (Ls.nth c j)).map (Value.int .i32))):=hown
   have HB:Hid (Below (w.heap.size+1) (w.alloc (.cells #[.int .i32 z,.int .u32 sc,.slice (some ⟨b1,o1,none⟩) c.length cp] 170)) wr):=hbel
   have e0:(0:Int)<=(k:Int):=by omega
   have e1:(k:Int)<(c.length:Int):=by omega
   clear hc1 hck hown hbel hb0
   go_wp2_with fail
   clear d2
   go_region_held3 (fun w'=>w'.cell? ⟨w.heap.size,0,none⟩=some (.int .i32 z)/\w'.cell? ⟨w.heap.size,1,none⟩=some (.int .u32 sc)/\w'.cell? ⟨w.heap.size,2,none⟩=some (.slice (some ⟨b1,o1,none⟩) c.length cp)/\w'.cell? ⟨b1,o1+k,none⟩=some (.int .i64 (Ls.nth c k)) /\
    Hid (Below (w.heap.size+1) (w.alloc (.cells #[.int .i32 z,.int .u32 sc,.slice (some ⟨b1,o1,none⟩) c.length cp] 170)) w'))
    (first
      | exact KS.out _ HB.out.drew
      | exact KS.out _ hb2.out
      | exact KS.out _ (hb1.out.alloc (hz1'.out) _)
      | exact KS.out _ hb1.out)
    (first
      | (go_at_call 113;refine (refOne_any _ _ _ _ _ _ hz1 hz2 hs1 hs2 hfk.1 hfk.2 _).mono ?_;rintro e w' ⟨rfl,hb⟩;have hb1:Hid (Below (w.heap.size+1) (w.alloc (.cells #[.int .i32 z,.int .u32 sc,.slice (some ⟨b1,o1,none⟩) c.length cp] 170)) w'):=HB.out.drew.trans (hb.mono hsz);have hz1':Hid (w.heap.size+1<=w'.heap.size):=Nat.le_trans hsz hb.size;have HO1:Hid (w'.ownsRow (w.heap.size+1) 21 1 u3 k ((Ls.gen k fun j=>Gp.mean z sc (Ls.nth c j)).map (Value.int .i32))):=own_below HO.out.drew hb;clear hb)
      | (refine step_append_lies _ (by rfl) _ _ _ (by rfl) (w.heap.size+1) 21 i0 _ 1 4 Tryz.underlying74 hi0 hi1 hi2 hi3 rfl (by omega) _ k _ (by rfl) (HO1.out.alloc _) ⟨w'.heap.size,0,none⟩ 1 1 [.int .i32 (Gp.mean z sc (Ls.nth c k))] (by rfl) (by rfl) (World.news_of_block (cs:=#[.int .i32 (Gp.mean z sc (Ls.nth c k))]) (t:=21) (fr:=(0,0)) (heap_alloc_new w' _)) (by simp [Value.oneCell']) (by omega) (by unfold maxLen;omega) (by omega) (by have:=hz1'.out;simp;omega) (w'.heap.size+1) (by simp) ?_;intro gg cap w1 hown1 hgrow hat hlt1;have hb2:Hid (Below (w.heap.size+1) (w.alloc (.cells #[.int .i32 z,.int .u32 sc,.slice (some ⟨b1,o1,none⟩) c.length cp] 170)) w1):=(hb1.out.alloc hz1'.out _).grown hgrow (by have:=hz1'.out;simp;omega) (fun j hj=>(HO1.out.lt j hj).1);have HO2:Hid (w1.ownsRow (w.heap.size+1) 21 1 (.slice (some ⟨gg,0,none⟩) (k+1) cap) (k+1) ((Ls.gen k fun j=>Gp.mean z sc (Ls.nth c j)).map (Value.int .i32) ++ [.int .i32 (Gp.mean z sc (Ls.nth c k))])):=hown1;clear hown1 hgrow))
   go_wp2
   go_roundw
   case rel=>exact ⟨k+1,by omega,by go_num,gen_snoc HO2.out rfl,hb2.out⟩
   case measure=>simp [intOf];omega
  ·have e:k=c.length:=by omega
   subst e
   have HO:Hid (wr.ownsRow (w.heap.size+1) 21 1 u3 c.length ((Ls.gen c.length fun j=>Gp.mean z sc (Ls.nth c j)).map (Value.int .i32))/\Below w.heap.size w wr):=⟨hown,hb0⟩
   clear hown hbel hb0
   go_wp2
   go_ret
   have hm:c.length=(Gp.means z sc c).length:=(Gp.means_length _ _ _).symm
   obtain ⟨a',c',h1,h2⟩:=fr_of_ownm (B:=w.heap.size) (by omega) (l:=Gp.means z sc c) HO.out.1 hm
   have hb:=HO.out.2
   clear HO
   subst h1
   exact ⟨a',c',rfl,h2,hb⟩
set_option maxRecDepth 100000 in
set_option maxHeartbeats 1600000 in
theorem refKeyN_any (h0 h1 h2 h3 h4 h5 h6:Int) (a1:Option Addr) (c1:Nat) (v2:Value) (hv2:∃ a n c,v2=.slice a n c) (ks:List (Int × Int × List Int)) (n t:Nat) (w:World) (ha:Gps w a1 ks) (hl:ks.length<=256) (hd:Pg.Deep n ks) (ht:t<n) :
 Calls Tryz.prog 88 #[.agg #[.int .i64 h0,.int .i64 h1,.int .i64 h2,.int .i64 h3,.int .i64 h4,.int .i64 h5,.int .i64 h6,.slice a1 ks.length c1,v2],.int .i64 t] w fun e w'=>∃ a' c',e=.returned (.slice a' ks.length c') /\
  Fr w.heap.size w' a' c' (Pg.key ks t)/\Below w.heap.size w w':=by
 obtain ⟨av,nv,cv,rfl⟩:=hv2
 obtain ⟨i0,hi0,hi1,hi2,hi3⟩:=info_parts Tryz.infoInt32
 have HA:Hid (Gps w a1 ks):=ha
 have HD:Hid (Pg.Deep n ks):=hd
 clear ha hd
 go_enter Tryz.func88,Tryz.ntmps88
 go_wp2
 go_loopw [5,6] (fun v i wr=>∃ k:Nat,k<=ks.length/\i=.int .i64 k/\wr.ownsRow (w.heap.size+1) 21 1 v k ((Ls.gen k fun i=>Gp.mean (Pg.gz (Pg.nth ks i)) (Pg.gs (Pg.nth ks i)) (Ls.nth (Pg.gc (Pg.nth ks i)) t)).map (Value.int .i32))/\Below (w.heap.size+1) (w.alloc (.cells #[.int .i64 h0,.int .i64 h1,.int .i64 h2,.int .i64 h3,.int .i64 h4,.int .i64 h5,.int .i64 h6,.slice a1 ks.length c1,.slice av nv cv] 139)) wr) (fun _ i _=>ks.length - (intOf i).toNat)
 case atStart=>exact ⟨0,Nat.zero_le _,rfl,World.ownsRow_nil _ _ _ _,Below.refl _ _⟩
 case round =>
  obtain ⟨k,hk,rfl,hown,hbel⟩:=hrel
  have hb0:Below w.heap.size w wr:=(box_below w _).trans (hbel.mono (by omega))
  have d7:wr.cell? ⟨w.heap.size,7,none⟩=some (.slice a1 ks.length c1):=by rw [hbel.cell (p:=⟨w.heap.size,7,none⟩) (by simp)];exact cell_of_row _ _ _ _ _ _ (heap_alloc_new w _)
  by_cases hlt:k<ks.length
  ·obtain ⟨b1,o1,rfl,hg1⟩:=HA.out.get hlt
   obtain ⟨x1,y1,G1⟩:=hg1 k hlt
   obtain ⟨hn,hf,hz1,hz2,hs1,hs2⟩:=HD.out k hlt
   have htl:t<(Pg.gc (Pg.nth ks k)).length:=by omega
   have hfk:=Gp.fits_all hf t htl
   obtain ⟨b2,o2,rfl,hc2⟩:=G1.2.2.2.get htl
   have hct:=hc2 t htl
   have l1:b1<w.heap.size:=G1.lt
   have l2:b2<w.heap.size:=World.block_lt_of_cell? w _ hct
   have hsz:w.heap.size+1<=wr.heap.size:=by have:=hbel.size;simpa using this
   have HC1:Hid (w.cell? ⟨b1,o1+k*3,none⟩=some (.int .i32 (Pg.gz (Pg.nth ks k)))/\w.cell? ⟨b1,o1+k*3+1,none⟩=some (.int .u32 (Pg.gs (Pg.nth ks k)))/\w.cell? ⟨b1,o1+k*3+2,none⟩=some (.slice (some ⟨b2,o2,none⟩) (Pg.gc (Pg.nth ks k)).length y1)):=G1.cells
   have old:∀ (w':World),Below (w.heap.size+1) (w.alloc (.cells #[.int .i64 h0,.int .i64 h1,.int .i64 h2,.int .i64 h3,.int .i64 h4,.int .i64 h5,.int .i64 h6,.slice (some ⟨b1,o1,none⟩) ks.length c1,.slice av nv cv] 139)) w'->∀ (b o:Nat),b<w.heap.size->w'.cell? ⟨b,o,none⟩=w.cell? ⟨b,o,none⟩:=fun w' hb b o hbo=>by
    rw [hb.cell (p:=⟨b,o,none⟩) (show b<w.heap.size+1 by omega),(box_below w _).cell (p:=⟨b,o,none⟩) hbo]
   have KS:Hid (∀ w',Below (w.heap.size+1) (w.alloc (.cells #[.int .i64 h0,.int .i64 h1,.int .i64 h2,.int .i64 h3,.int .i64 h4,.int .i64 h5,.int .i64 h6,.slice (some ⟨b1,o1,none⟩) ks.length c1,.slice av nv cv] 139)) w'->(w'.cell? ⟨b1,o1+k*3,none⟩=some (.int .i32 (Pg.gz (Pg.nth ks k)))/\w'.cell? ⟨b1,o1+k*3+1,none⟩=some (.int .u32 (Pg.gs (Pg.nth ks k)))/\w'.cell? ⟨b1,o1+k*3+2,none⟩=some (.slice (some ⟨b2,o2,none⟩) (Pg.gc (Pg.nth ks k)).length y1))/\w'.cell? ⟨w.heap.size,7,none⟩=some (.slice (some ⟨b1,o1,none⟩) ks.length c1)/\w'.cell? ⟨b2,o2+t,none⟩=some (.int .i64 (Ls.nth (Pg.gc (Pg.nth ks k)) t))/\Hid (Below (w.heap.size+1) (w.alloc (.cells #[.int .i64 h0,.int .i64 h1,.int .i64 h2,.int .i64 h3,.int .i64 h4,.int .i64 h5,.int .i64 h6,.slice (some ⟨b1,o1,none⟩) ks.length c1,.slice av nv cv] 139)) w')):=fun w' hb=>by
    refine ⟨⟨?_,?_,?_⟩,?_,?_,hb⟩
    ·rw [old w' hb _ _ l1];exact HC1.out.1
    ·rw [old w' hb _ _ l1];exact HC1.out.2.1
    ·rw [old w' hb _ _ l1];exact HC1.out.2.2
    ·rw [hb.cell (p:=⟨w.heap.size,7,none⟩) (by simp)];exact cell_of_row _ _ _ _ _ _ (heap_alloc_new w _)
    ·rw [old w' hb _ _ l2];exact hct
   have HO:Hid (wr.ownsRow (w.heap.size+1) 21 1 u5 k ((Ls.gen k fun i=>Gp.mean (Pg.gz (Pg.nth ks i)) (Pg.gs (Pg.nth ks i)) (Ls.nth (Pg.gc (Pg.nth ks i)) t)).map (Value.int .i32))):=hown
   have HB:Hid (Below (w.heap.size+1) (w.alloc (.cells #[.int .i64 h0,.int .i64 h1,.int .i64 h2,.int .i64 h3,.int .i64 h4,.int .i64 h5,.int .i64 h6,.slice (some ⟨b1,o1,none⟩) ks.length c1,.slice av nv cv] 139)) wr):=hbel
   have e0:(0:Int)<=(k:Int):=by omega
   have e1:(k:Int)<(ks.length:Int):=by omega
   have e2:(0:Int)<=(t:Int):=by omega
   have e3:(t:Int)<((Pg.gc (Pg.nth ks k)).length:Int):=by omega
   clear hg1 G1 hc2 hct hown hbel hb0 old hn hf
   go_wp2_with fail
   clear d7
   go_region_held3 (fun w'=>(w'.cell? ⟨b1,o1+k*3,none⟩=some (.int .i32 (Pg.gz (Pg.nth ks k)))/\w'.cell? ⟨b1,o1+k*3+1,none⟩=some (.int .u32 (Pg.gs (Pg.nth ks k)))/\w'.cell? ⟨b1,o1+k*3+2,none⟩=some (.slice (some ⟨b2,o2,none⟩) (Pg.gc (Pg.nth ks k)).length y1))/\w'.cell? ⟨w.heap.size,7,none⟩=some (.slice (some ⟨b1,o1,none⟩) ks.length c1)/\w'.cell? ⟨b2,o2+t,none⟩=some (.int .i64 (Ls.nth (Pg.gc (Pg.nth ks k)) t))/\Hid (Below (w.heap.size+1) (w.alloc (.cells #[.int .i64 h0,.int .i64 h1,.int .i64 h2,.int .i64 h3,.int .i64 h4,.int .i64 h5,.int .i64 h6,.slice (some ⟨b1,o1,none⟩) ks.length c1,.slice av nv cv] 139)) w'))
    (first
      | exact KS.out _ HB.out.drew
      | exact KS.out _ hb2.out
      | exact KS.out _ (hb1.out.alloc (hz1'.out) _)
      | exact KS.out _ hb1.out)
    (first
      | (go_at_call 113;refine (refOne_any _ _ _ _ _ _ hz1 hz2 hs1 hs2 hfk.1 hfk.2 _).mono ?_;rintro e w' ⟨rfl,hb⟩;have hb1:Hid (Below (w.heap.size+1) (w.alloc (.cells #[.int .i64 h0,.int .i64 h1,.int .i64 h2,.int .i64 h3,.int .i64 h4,.int .i64 h5,.int .i64 h6,.slice (some ⟨b1,o1,none⟩) ks.length c1,.slice av nv cv] 139)) w'):=HB.out.drew.trans (hb.mono hsz);have hz1':Hid (w.heap.size+1<=w'.heap.size):=Nat.le_trans hsz hb.size;have HO1:Hid (w'.ownsRow (w.heap.size+1) 21 1 u5 k ((Ls.gen k fun i=>Gp.mean (Pg.gz (Pg.nth ks i)) (Pg.gs (Pg.nth ks i)) (Ls.nth (Pg.gc (Pg.nth ks i)) t)).map (Value.int .i32))):=own_below HO.out.drew hb;clear hb)
      | (refine step_append_lies _ (by rfl) _ _ _ (by rfl) (w.heap.size+1) 21 i0 _ 1 4 Tryz.underlying74 hi0 hi1 hi2 hi3 rfl (by omega) _ k _ (by rfl) (HO1.out.alloc _) ⟨w'.heap.size,0,none⟩ 1 1 [.int .i32 (Gp.mean (Pg.gz (Pg.nth ks k)) (Pg.gs (Pg.nth ks k)) (Ls.nth (Pg.gc (Pg.nth ks k)) t))] (by rfl) (by rfl) (World.news_of_block (cs:=#[.int .i32 (Gp.mean (Pg.gz (Pg.nth ks k)) (Pg.gs (Pg.nth ks k)) (Ls.nth (Pg.gc (Pg.nth ks k)) t))]) (t:=21) (fr:=(0,0)) (heap_alloc_new w' _)) (by simp [Value.oneCell']) (by omega) (by unfold maxLen;omega) (by omega) (by have:=hz1'.out;simp;omega) (w'.heap.size+1) (by simp) ?_;intro gg cap w1 hown1 hgrow hat hlt1;have hb2:Hid (Below (w.heap.size+1) (w.alloc (.cells #[.int .i64 h0,.int .i64 h1,.int .i64 h2,.int .i64 h3,.int .i64 h4,.int .i64 h5,.int .i64 h6,.slice (some ⟨b1,o1,none⟩) ks.length c1,.slice av nv cv] 139)) w1):=(hb1.out.alloc hz1'.out _).grown hgrow (by have:=hz1'.out;simp;omega) (fun j hj=>(HO1.out.lt j hj).1);have HO2:Hid (w1.ownsRow (w.heap.size+1) 21 1 (.slice (some ⟨gg,0,none⟩) (k+1) cap) (k+1) ((Ls.gen k fun i=>Gp.mean (Pg.gz (Pg.nth ks i)) (Pg.gs (Pg.nth ks i)) (Ls.nth (Pg.gc (Pg.nth ks i)) t)).map (Value.int .i32) ++ [.int .i32 (Gp.mean (Pg.gz (Pg.nth ks k)) (Pg.gs (Pg.nth ks k)) (Ls.nth (Pg.gc (Pg.nth ks k)) t))])):=hown1;clear hown1 hgrow))
   go_wp2
   go_roundw
   case rel=>exact ⟨k+1,by omega,by go_num,gen_snoc HO2.out rfl,hb2.out⟩
   case measure=>simp [intOf];omega
  ·have e:k=ks.length:=by omega
   subst e
   have HO:Hid (wr.ownsRow (w.heap.size+1) 21 1 u5 ks.length ((Ls.gen ks.length fun i=>Gp.mean (Pg.gz (Pg.nth ks i)) (Pg.gs (Pg.nth ks i)) (Ls.nth (Pg.gc (Pg.nth ks i)) t)).map (Value.int .i32))/\Below w.heap.size w wr):=⟨hown,hb0⟩
   clear hown hbel hb0
   go_wp2
   go_ret
   have hm:ks.length=(Pg.key ks t).length:=(Pg.key_length _ _).symm
   obtain ⟨a',c',h1,h2⟩:=fr_of_ownm (B:=w.heap.size) (by omega) (l:=Pg.key ks t) HO.out.1 hm
   have hb:=HO.out.2
   clear HO
   subst h1
   exact ⟨a',c',rfl,h2,hb⟩
set_option maxRecDepth 100000 in
set_option maxHeartbeats 1600000 in
theorem refValueN_any (h0 h1 h2 h3 h4 h5 h6:Int) (a2:Option Addr) (c2:Nat) (v1:Value) (hv1:∃ a n c,v1=.slice a n c) (vs:List (Int × Int × List Int)) (n t:Nat) (w:World) (ha:Gps w a2 vs) (hl:vs.length<=256) (hn:n<=256) (hd:Pg.Deep n vs) (ht:t<vs.length) :
 Calls Tryz.prog 89 #[.agg #[.int .i64 h0,.int .i64 h1,.int .i64 h2,.int .i64 h3,.int .i64 h4,.int .i64 h5,.int .i64 h6,v1,.slice a2 vs.length c2],.int .i64 t] w fun e w'=>∃ a' c',e=.returned (.slice a' n c') /\
  Fr w.heap.size w' a' c' (Gp.means (Pg.gz (Pg.nth vs t)) (Pg.gs (Pg.nth vs t)) (Pg.gc (Pg.nth vs t)))/\Below w.heap.size w w':=by
 obtain ⟨av,nv,cv,rfl⟩:=hv1
 obtain ⟨b1,o1,rfl,hg1⟩:=ha.get ht
 obtain ⟨x1,y1,G1⟩:=hg1 t ht
 obtain ⟨hn1,hf,hz1,hz2,hs1,hs2⟩:=hd t ht
 have K1:Hid (GpAt w b1 o1 t (Pg.nth vs t) x1 y1):=G1
 have HN:Hid ((Pg.gc (Pg.nth vs t)).length=n):=hn1
 have HF:Hid (Gp.fits 255 (Pg.gc (Pg.nth vs t))=true):=hf
 obtain ⟨d0,d1,d2⟩:=G1.cells
 have l1:=G1.lt
 clear hg1 G1 hd ha hn1 hf
 go_enter Tryz.func89,Tryz.ntmps89
 go_wp2_with fail
 refine (refBackN_any _ _ _ _ (Pg.gc (Pg.nth vs t)) _ (K1.out.2.2.2.keep (box_below _ _)) (by rw [HN.out];exact hn) HF.out hz1 hz2 hs1 hs2).mono ?_
 rintro e v ⟨a',c',rfl,hL,hb⟩
 have R:Hid (Fr w.heap.size v a' c' (Gp.means (Pg.gz (Pg.nth vs t)) (Pg.gs (Pg.nth vs t)) (Pg.gc (Pg.nth vs t)))/\Below w.heap.size w v):=⟨hL.mono (by simp),below_then (box_below _ _) hb⟩
 clear hL hb d0 d1 d2
 go_wp2
 go_ret
 refine ⟨a',c',?_,R.out⟩
 rw [HN.out]
 rfl
end Go.Proofs.YtnchnlgnnlgjcaaGreat
