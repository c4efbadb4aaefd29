import Derived.Test.YtnchnlgnnlgjcaaGreatCo07
import Derived.Test.YtnchnlgnnlgjcaaGreatCo15
import Derived.Test.YtnchnlgnnlgjcaaGreatCo10
import Derived.Test.YtnchnlgnnlgjcaaGreatCo11
import Derived.Test.YtnchnlgnnlgjcaaGreatCo14
set_option linter.unusedVariables false
set_option linter.unusedSimpArgs false
namespace Go.Proofs.YtnchnlgnnlgjcaaGreat
open Go.RowKit
attribute [local go_sem ↓] Go.wp_at_zero Go.wp_at_succ
def PkN (w:World) (g:Nat):Prop:=∀ (i:Nat) (x:Addr) (n c:Nat),w.cell? ⟨g,i*4+3,none⟩=some (.slice (some x) n c)->g<x.block
theorem PkN.keep {w w':World} {g:Nat} (h:PkN w g) (hg:g<w.heap.size) (hb:Below w.heap.size w w'):PkN w' g:=fun i x n c e=>h i x n c (by rw [hb.cell (p:=⟨g,i*4+3,none⟩) hg] at e;exact e)
theorem row_past {w:World} {g:Nat} {t:TypeId} {N o:Nat} {f:Nat->Value} (h:w.rowIs g t N f) (ho:N<=o):w.cell? ⟨g,o,none⟩=none:=by
 obtain ⟨cs,e,hn,_⟩:=h
 rw [cell_of_row w g o cs t (0,0) e]
 exact Array.getElem?_eq_none (by omega)
theorem PRow.pkn {w:World} {g:Nat} {t:TypeId} {N b:Nat} {l:List (Int × Int × List Int)} (h:PRow w g t N b l l.length) (hN:N=l.length*4):PkN w g:=by
 obtain ⟨f,hr,hc⟩:=h
 intro i x n c e
 by_cases hi:i<l.length
 ·obtain ⟨a,c',_,_,_,h3,_,h5⟩:=hc i hi
  rw [hr.cell (by omega),h3] at e
  cases e
  exact h5 x rfl
 ·rw [row_past hr (by omega)] at e
  cases e
def PgN (s:Nat) (w:World) (p:Nat):Prop:=s<=p/\∀ (a:Addr) (n c:Nat),w.cell? ⟨p,7,none⟩=some (.slice (some a) n c)\/w.cell? ⟨p,8,none⟩=some (.slice (some a) n c)->s<=a.block/\PkN w a.block
set_option maxHeartbeats 1600000 in
theorem packAll_z (a:Option Addr) (c b n:Nat) (l:List (Int × Int × List Int)) (w:World) (ha:Gps w a l) (hl:l.length<=10000) (hb:Pk.Ok b) (hf:Pg.AllFit b n l) (hn:n<=256) :
 Calls Tryz.prog 141 #[.slice a l.length c,.int .i64 b] w fun e w'=>∃ g,e=.returned (.slice (some ⟨g,0,none⟩) l.length l.length)/\w.heap.size<=g/\Pks w' g b l/\PkN w' g/\Below w.heap.size w w':=by
 have HA:Hid (Gps w a l):=ha
 have HB:Hid (Pk.Ok b):=hb
 have HF:Hid (Pg.AllFit b n l):=hf
 clear ha hb hf
 have hmk:=run_make_rows (P:=Tryz.prog) 174 180 (.agg #[.int .i32 0,.int .u32 0,.slice none 0 0,.slice none 0 0]) #[.int .i32 0,.int .u32 0,.slice none 0 0,.slice none 0 0] 4 56 rfl Tryz.underlying174 Tryz.infoPk .i64 .i64 l.length (by omega) (by omega)
 go_enter Tryz.func141,Tryz.ntmps141
 go_wp2
 clear hmk
 go_loopw [13] (fun i wr=>∃ k:Nat,k<=l.length/\i=.int .i64 k/\PRow wr w.heap.size 180 (l.length*4) b l k/\Below w.heap.size w wr) (fun i _=>l.length - (intOf i).toNat)
 case atStart=>exact ⟨0,Nat.zero_le _,rfl,PRow.made w _ _ _ _ _,(Below.refl _ _).alloc (Nat.le_refl _) _⟩
 case round =>
  obtain ⟨k,hk,rfl,hrow,hbel⟩:=hrel
  have HR:Hid (PRow wr w.heap.size 180 (l.length*4) b l k):=hrow
  have HW:Hid (Below w.heap.size w wr):=hbel
  have hsz:=hbel.size
  have hlt0:=hrow.lt
  clear hrow hbel
  by_cases hlt:k<l.length
  ·obtain ⟨b1,o1,rfl,hall⟩:=HA.out.get hlt
   obtain ⟨a',c',hg⟩:=hall k hlt
   obtain ⟨d0,d1,d2,d3⟩:=hg.keep HW.out
   have D3:Hid (Lst .i64 wr a' (Pg.gc (Pg.nth l k))):=d3
   have hbl:=hg.lt
   have F1:=HF.out k hlt
   have FL:Hid ((Pg.gc (Pg.nth l k)).length=n):=F1.1
   have FC:Hid (Pk.Cds b (Pg.gc (Pg.nth l k))):=F1.2.1
   clear hall d3 hg F1
   obtain ⟨N,eN⟩:∃ N,Pk.size b (Pg.gc (Pg.nth l k)).length=N:=⟨_,rfl⟩
   have EN:Hid (Pk.size b (Pg.gc (Pg.nth l k)).length=N):=eN
   clear eN
   go_wp2_with fail
   refine (packOne_any _ _ _ _ b (Pg.gc (Pg.nth l k)) N _ (D3.out.keep (box_below _ _)) HB.out (by rw [FL.out];omega) FC.out EN.out).mono ?_
   rintro e v ⟨g,rfl,hg,hL,hbv⟩
   have BV:Hid (Below w.heap.size w v):=below_then (below_then HW.out (box_below _ _)) hbv
   have RV:Hid (PRow v w.heap.size 180 (l.length*4) b l k):=(HR.out.keep (box_below _ _)).keep hbv
   have LV:Hid (Lst .u64 v (some ⟨g,0,none⟩) (Pk.pack b (Pg.gc (Pg.nth l k)))):=hL
   have hg0:w.heap.size<g:=by simp at hg;omega
   obtain ⟨f,hr⟩:=RV.out.room
   have r0:=hr.cell (show k*4<l.length*4 by omega)
   have r1:=hr.cell (show k*4+1<l.length*4 by omega)
   have r2:=hr.cell (show k*4+2<l.length*4 by omega)
   have r3:=hr.cell (show k*4+3<l.length*4 by omega)
   have s0:=hr.frozen (k*4)
   have s1:=hr.frozen (k*4+1)
   have s2:=hr.frozen (k*4+2)
   have s3:=hr.frozen (k*4+3)
   clear hg hL hbv hr d0 d1 d2
   go_wp2
   go_roundw
   case rel =>
    refine ⟨k+1,by omega,by go_num,RV.out.step rfl rfl EN.out LV.out (fun x e=>by cases e;exact hg0),?_⟩
    exact (((BV.out.setCell (by simp) _).setCell (by simp) _).setCell (by simp) _).setCell (by simp) _
   case measure=>simp [intOf];omega
  ·have e:k=l.length:=by omega
   subst e
   go_wp2
   go_ret
   exact ⟨w.heap.size,rfl,Nat.le_refl _,HR.out.pks rfl,HR.out.pkn rfl,HW.out⟩
theorem PkN.lt {w:World} {g b:Nat} {l:List (Int × Int × List Int)} (h:Pks w g b l) (h0:0<l.length):g<w.heap.size:=by
 obtain ⟨a,c,q,_⟩:=h 0 h0
 exact World.block_lt_of_cell? w _ q
set_option maxRecDepth 100000 in
set_option maxHeartbeats 3200000 in
theorem newP_z (m0 m1 n0 d0:Nat) (h4 h5 h6:Int) (a1 a2:Option Addr) (c1 c2:Nat) (ks vs:List (Int × Int × List Int)) (w:World) (ha:Gps w a1 ks) (hb:Gps w a2 vs) (lk:ks.length<=10000) (lv:vs.length<=10000) (ik:InG ks) (iv:InG vs) (he:Pg.newE [(m0:Int),m1,n0,d0,h4,h5,h6] ks vs=0) :
 Calls Tryz.prog 123 #[.agg #[.int .i64 (m0:Int),.int .i64 (m1:Int),.int .i64 (n0:Int),.int .i64 (d0:Int),.int .i64 h4,.int .i64 h5,.int .i64 h6],.slice a1 ks.length c1,.slice a2 vs.length c2] w fun r w'=>∃ p,r=.returned (.tuple #[.pointer (some ⟨p,0,none⟩),.int .i64 0])/\w.heap.size<=p/\PageAt w' p m0 m1 n0 d0 h4 h5 h6 ks vs/\PgN w.heap.size w' p/\Below w.heap.size w w':=by
 have hp:=Pg.newE_page (h:=[(m0:Int),m1,n0,d0,h4,h5,h6]) rfl ik iv he
 have HA:Hid (Gps w a1 ks):=ha
 have HB:Hid (Gps w a2 vs):=hb
 have IK:Hid (InG ks):=ik
 have IV:Hid (InG vs):=iv
 have LK:Hid (ks.length<=maxLen):=by show ks.length<=maxLen;unfold maxLen;omega
 have LV:Hid (vs.length<=maxLen):=by show vs.length<=maxLen;unfold maxLen;omega
 clear ha hb ik iv
 obtain ⟨hr,sk,sv,rk,rv⟩:=Pg.newE_zero he
 obtain ⟨qa,qb,qc,qd,qe,qf,_⟩:=Pg.rightH_all hr
 have qa':(m0:Int)=2\/(m0:Int)=4\/(m0:Int)=8:=qa
 have qb':(m1:Int)=2\/(m1:Int)=4\/(m1:Int)=8:=qb
 have q1:1<=n0:=by have:(1:Int)<=n0:=qc;omega
 have q2:n0<=256:=by have:(n0:Int)<=16:=qd;omega
 have q3:1<=d0:=by have:(1:Int)<=d0:=qe;omega
 have q4:d0<=256:=by have:(d0:Int)<=16:=qf;omega
 obtain ⟨m0',s0,e0,st0⟩:=Pg.okB_st (show Gp.okB (m0:Int)=true by unfold Gp.okB;rcases qa' with e | e | e <;> rw [e] <;> rfl)
 obtain ⟨m1',s1,e1,st1⟩:=Pg.okB_st (show Gp.okB (m1:Int)=true by unfold Gp.okB;rcases qb' with e | e | e <;> rw [e] <;> rfl)
 obtain rfl:m0=m0':=by omega
 obtain rfl:m1=m1':=by omega
 have EQ:Hid (Pg.rightH [(m0:Int),m1,n0,d0,h4,h5,h6]=true):=hr
 have P1:Hid (Pg.shapeB ks (d0:Int) (n0:Int)=true):=sk
 have P2:Hid (Pg.shapeB vs (n0:Int) (d0:Int)=true):=sv
 have ST0:Hid (Gp.St m0 s0):=st0
 have ST1:Hid (Gp.St m1 s1):=st1
 have SK:Hid (∀ i,i<ks.length->(Pg.gc (Pg.nth ks i)).length=n0):=fun i hi=>by have:=(Pg.shapeB_all P1.out).1 i hi;omega
 have SV:Hid (∀ i,i<vs.length->(Pg.gc (Pg.nth vs i)).length=d0):=fun i hi=>by have:=(Pg.shapeB_all P2.out).1 i hi;omega
 have NK:Hid (ks.length=d0):=by show _=_;have:=(Pg.shapeB_all P1.out).2;omega
 have NV:Hid (vs.length=n0):=by show _=_;have:=(Pg.shapeB_all P2.out).2;omega
 have RK:Hid (Pg.rightsN (s0:Int) ks ks.length=0):=by rw [<-Pg.top_st st0];exact rk
 have RV:Hid (Pg.rightsN (s1:Int) vs vs.length=0):=by rw [<-Pg.top_st st1];exact rv
 have HP:Hid (Pg.Page [(m0:Int),m1,n0,d0,h4,h5,h6] ks vs):=hp
 have FK:Hid (Pg.AllFit m0 n0 ks):=hp.2.2.2.2.1
 have FV:Hid (Pg.AllFit m1 d0 vs):=hp.2.2.2.2.2.1
 have Q0:Hid (0<ks.length):=by show 0<ks.length;rw [NK.out];omega
 have Q1:Hid (0<vs.length):=by show 0<vs.length;rw [NV.out];omega
 have OK0:Hid (Pk.Ok m0):=St.ok st0
 have OK1:Hid (Pk.Ok m1):=St.ok st1
 clear he hp hr sk sv rk rv qa qb qc qd qe qf qa' qb' e0 e1 st0 st1
 go_enter Tryz.func123,Tryz.ntmps123
 go_wp2_with fail
 obtain ⟨u0,hu0⟩:∃ u,w.alloc (.cells #[.int .i64 (m0:Int),.int .i64 (m1:Int),.int .i64 (n0:Int),.int .i64 (d0:Int),.int .i64 h4,.int .i64 h5,.int .i64 h6] 156)=u:=⟨_,rfl⟩
 have U0:Hid (Below w.heap.size w u0):=by rw [<-hu0];exact box_below _ _
 have HD:Hid (∀ v,Below u0.heap.size u0 v->HdAt v w.heap.size m0 m1 n0 d0 h4 h5 h6):=by rw [<-hu0];exact fun v hb=>hd_box hb
 rw [hu0]
 clear hu0
 refine (rightP_any _ _ _ _ _ _ _ true EQ.out _).mono ?_
 rintro r v0 ⟨rfl,hb⟩
 have B0:Hid (Below u0.heap.size u0 v0):=hb
 obtain ⟨x0,x1,x2,x3,_,_,_⟩:=HD.out v0 B0.out
 clear hb
 go_wp2_with fail
 refine (groupsOf_any _ _ ks _ _ true _ (HA.out.keep (below_then U0.out B0.out)) LK.out P1.out).mono ?_
 rintro r v1 ⟨rfl,hb⟩
 clear x0 x1 x2 x3
 have B1:Hid (Below u0.heap.size u0 v1):=below_then B0.out hb
 obtain ⟨x0,x1,x2,x3,_,_,_⟩:=HD.out v1 B1.out
 clear hb
 go_wp2_with fail
 refine (groupsOf_any _ _ vs _ _ true _ (HB.out.keep (below_then U0.out B1.out)) LV.out P2.out).mono ?_
 rintro r v2 ⟨rfl,hb⟩
 clear x0 x1 x2 x3
 have B2:Hid (Below u0.heap.size u0 v2):=below_then B1.out hb
 obtain ⟨x0,x1,x2,x3,_,_,_⟩:=HD.out v2 B2.out
 clear hb
 go_wp2_with fail
 refine (allRight_any _ _ m0 s0 n0 ks 0 _ (HA.out.keep (below_then U0.out B2.out)) lk ST0.out SK.out q1 q2 IK.out RK.out).mono ?_
 rintro r v3 ⟨rfl,hb⟩
 clear x0 x1 x2 x3
 have B3:Hid (Below u0.heap.size u0 v3):=below_then B2.out hb
 obtain ⟨x0,x1,x2,x3,_,_,_⟩:=HD.out v3 B3.out
 clear hb
 go_wp2_with fail
 refine (allRight_any _ _ m1 s1 d0 vs 0 _ (HB.out.keep (below_then U0.out B3.out)) lv ST1.out SV.out q3 q4 IV.out RV.out).mono ?_
 rintro r v4 ⟨rfl,hb⟩
 clear x0 x1 x2 x3
 have B4:Hid (Below u0.heap.size u0 v4):=below_then B3.out hb
 obtain ⟨x0,x1,x2,x3,_,_,_⟩:=HD.out v4 B4.out
 clear hb
 go_wp2_with fail
 clear x0 x1 x2 x3
 have KS:Hid (∀ w',Below v4.heap.size v4 w'->HdAt w' w.heap.size m0 m1 n0 d0 h4 h5 h6/\Hid (Below v4.heap.size v4 w')):=fun w' hb=>⟨HD.out w' (below_then B4.out hb),hb⟩
 unfold HdAt at KS
 go_region_held3 (fun w'=>(w'.cell? ⟨w.heap.size,0,none⟩=some (.int .i64 (m0:Int))/\w'.cell? ⟨w.heap.size,1,none⟩=some (.int .i64 (m1:Int))/\w'.cell? ⟨w.heap.size,2,none⟩=some (.int .i64 (n0:Int))/\w'.cell? ⟨w.heap.size,3,none⟩=some (.int .i64 (d0:Int))/\w'.cell? ⟨w.heap.size,4,none⟩=some (.int .i64 h4)/\w'.cell? ⟨w.heap.size,5,none⟩=some (.int .i64 h5)/\w'.cell? ⟨w.heap.size,6,none⟩=some (.int .i64 h6))/\Hid (Below v4.heap.size v4 w'))
  (first
    | exact KS.out _ ((Below.refl v4.heap.size v4).drew)
    | exact KS.out _ hbd.out
    | exact KS.out _ (below_then hbd.out (box_below _ _))
    | exact KS.out _ hbc.out
    | assumption)
  (first
    | (go_at_call 141;(with_reducible refine (packAll_z _ _ m0 n0 ks _ (HA.out.keep (below_then (below_then U0.out B4.out) ((Below.refl v4.heap.size v4).drew))) lk OK0.out FK.out q2).mono ?_);rintro e v5 ⟨g1,rfl,hg1,hk1,hn1,hb⟩;have hbc:Hid (Below v4.heap.size v4 v5):=((Below.refl v4.heap.size v4).drew).trans hb;have K1:Hid (Pks v5 g1 m0 ks):=hk1;have N1:Hid (PkN v5 g1/\v4.heap.size<=g1/\g1<v5.heap.size):=⟨hn1,hg1,PkN.lt hk1 Q0.out⟩;clear hb hg1 hk1 hn1)
    | (go_at_call 141;(with_reducible refine (packAll_z _ _ m1 d0 vs _ (HB.out.keep (below_then (below_then U0.out B4.out) hbc.out)) lv OK1.out FV.out q4).mono ?_);rintro e v6 ⟨g2,rfl,hg2,hk2,hn2,hb⟩;have hbd:Hid (Below v4.heap.size v4 v6):=below_then hbc.out hb;have K2:Hid (Pks v6 g1 m0 ks/\Pks v6 g2 m1 vs):=⟨K1.out.keep hb,hk2⟩;have N2:Hid ((PkN v6 g1/\v4.heap.size<=g1/\g1<v6.heap.size)/\PkN v6 g2/\v4.heap.size<=g2/\g2<v6.heap.size):=⟨⟨N1.out.1.keep N1.out.2.2 hb,N1.out.2.1,Nat.lt_of_lt_of_le N1.out.2.2 hb.size⟩,hn2,Nat.le_trans hbc.out.size hg2,PkN.lt hk2 Q1.out⟩;clear hb hg2 hk2 hn2))
 go_wp2
 go_ret2
 have B6:Below w.heap.size w v6:=below_then U0.out (below_then B4.out hbd.out)
 have SZ:w.heap.size<=v4.heap.size:=(below_then U0.out B4.out).size
 have ROW:(v6.alloc (.cells #[.int .i64 (m0:Int),.int .i64 (m1:Int),.int .i64 (n0:Int),.int .i64 (d0:Int),.int .i64 h4,.int .i64 h5,.int .i64 h6,.slice (some ⟨g1,0,none⟩) ks.length ks.length,.slice (some ⟨g2,0,none⟩) vs.length vs.length] 176)).rowIs v6.heap.size 176 9 (pgc m0 m1 n0 d0 h4 h5 h6 (.slice (some ⟨g1,0,none⟩) d0 d0) (.slice (some ⟨g2,0,none⟩) n0 n0)):=by
  rw [NK.out,NV.out]
  exact World.rowIs_alloc v6 _ 176 _ (fun i hi=>by match i,hi with | 0,_=>rfl | 1,_=>rfl | 2,_=>rfl | 3,_=>rfl | 4,_=>rfl | 5,_=>rfl | 6,_=>rfl | 7,_=>rfl | 8,_=>rfl)
 refine ⟨v6.heap.size,rfl,B6.size,⟨g1,g2,ROW,K2.out.1.keep (box_below _ _),K2.out.2.keep (box_below _ _),HP.out⟩,⟨B6.size,fun a n c e=>?_⟩,below_then B6 (box_below _ _)⟩
 rw [ROW.cell (show 7<9 by decide),ROW.cell (show 8<9 by decide)] at e
 obtain ⟨⟨n1,z1,l1⟩,n2,z2,l2⟩:=N2.out
 rcases e with e | e
 ·cases e
  exact ⟨by show w.heap.size<=g1;omega,n1.keep l1 (box_below _ _)⟩
 ·cases e
  exact ⟨by show w.heap.size<=g2;omega,n2.keep l2 (box_below _ _)⟩
theorem newP_zm (m0 m1 n0 d0:Nat) (h4 h5 h6:Int) (a1 a2:Option Addr) (k1 k2 c1 c2:Nat) (ks vs:List (Int × Int × List Int)) (w:World) (e1:k1=ks.length) (e2:k2=vs.length) (ha:Gps w a1 ks) (hb:Gps w a2 vs) (hp:Pg.Page [(m0:Int),m1,n0,d0,h4,h5,h6] ks vs) :
 Calls Tryz.prog 123 #[.agg #[.int .i64 (m0:Int),.int .i64 (m1:Int),.int .i64 (n0:Int),.int .i64 (d0:Int),.int .i64 h4,.int .i64 h5,.int .i64 h6],.slice a1 k1 c1,.slice a2 k2 c2] w fun r w'=>∃ p,r=.returned (.tuple #[.pointer (some ⟨p,0,none⟩),.int .i64 0])/\w.heap.size<=p/\PageAt w' p m0 m1 n0 d0 h4 h5 h6 ks vs/\PgN w.heap.size w' p/\Below w.heap.size w w':=by
 subst e1 e2
 obtain ⟨_,_,qc,qd,qe,qf,_⟩:=Pg.rightH_all hp.2.1
 have qd':(n0:Int)<=16:=qd
 have qf':(d0:Int)<=16:=qf
 have lk:ks.length=d0:=hp.2.2.1
 have lv:vs.length=n0:=hp.2.2.2.1
 exact newP_z m0 m1 n0 d0 h4 h5 h6 a1 a2 c1 c2 ks vs w ha hb (by omega) (by omega) (Pg.fit_ing hp.2.2.2.2.1 (show n0<=maxLen by unfold maxLen;omega)) (Pg.fit_ing hp.2.2.2.2.2.1 (show d0<=maxLen by unfold maxLen;omega)) (Pg.page_newE hp)
set_option maxRecDepth 100000 in
set_option maxHeartbeats 1600000 in
theorem quantP_z (m0 m1 n0 d0 s0 s1:Nat) (h4 h5 h6:Int) (a1 a2:Option Addr) (c1 c2:Nat) (ks vs:List (List Int)) (w:World) (st0:Gp.St m0 s0) (st1:Gp.St m1 s1)
 (hk:Tbl w a1 ks) (hv:Tbl w a2 vs) (ik:∀ k,Ls.In32 (Tb.row ks k)) (iv:∀ k,Ls.In32 (Tb.row vs k)) (hr:Pg.rightH [(m0:Int),m1,n0,d0,h4,h5,h6]=true) (sk:Pg.shapedB ks n0 d0=true) (sv:Pg.shapedB vs n0 d0=true) :
 Calls Tryz.prog 98 #[.agg #[.int .i64 (m0:Int),.int .i64 (m1:Int),.int .i64 (n0:Int),.int .i64 (d0:Int),.int .i64 h4,.int .i64 h5,.int .i64 h6],.slice a1 ks.length c1,.slice a2 vs.length c2] w fun r w'=>∃ p,r=.returned (.tuple #[.pointer (some ⟨p,0,none⟩),.int .i64 0])/\w.heap.size<=p/\PageAt w' p m0 m1 n0 d0 h4 h5 h6 (Pg.qk s0 d0 ks) (Pg.qv s1 vs)/\PgN w.heap.size w' p/\Below w.heap.size w w':=by
 have HA:Hid (Tbl w a1 ks):=hk
 have HB:Hid (Tbl w a2 vs):=hv
 have IK:Hid (∀ k,Ls.In32 (Tb.row ks k)):=ik
 have IV:Hid (∀ k,Ls.In32 (Tb.row vs k)):=iv
 have EQ:Hid (Pg.rightH [(m0:Int),m1,n0,d0,h4,h5,h6]=true):=hr
 have P1:Hid (Pg.shapedB ks (n0:Int) (d0:Int)=true):=sk
 have P2:Hid (Pg.shapedB vs (n0:Int) (d0:Int)=true):=sv
 have ST0:Hid (Gp.St m0 s0):=st0
 have ST1:Hid (Gp.St m1 s1):=st1
 unfold Pg.shapedB at sk sv
 simp only [decide_eq_true_eq] at sk sv
 obtain ⟨_,_,qc,qd,qe,qf,_⟩:=Pg.rightH_all hr
 have qc':(1:Int)<=n0:=qc
 have qd':(n0:Int)<=16:=qd
 have qe':(1:Int)<=d0:=qe
 have qf':(d0:Int)<=16:=qf
 have b1:1<=n0:=by omega
 have b2:n0<=16:=by omega
 have b3:1<=d0:=by omega
 have b4:d0<=16:=by omega
 have NK:Hid (ks.length=n0):=by show _=_;have:=sk.2;omega
 have NV:Hid (vs.length=n0):=by show _=_;have:=sv.2;omega
 have RK:Hid (∀ k,k<ks.length->(Tb.row ks k).length=d0):=fun k hk=>by have:=sk.1 k hk;omega
 have RV:Hid (∀ k,k<vs.length->(Tb.row vs k).length=d0):=fun k hk=>by have:=sv.1 k hk;omega
 have lk:ks.length<=256:=by rw [NK.out];omega
 have lv:vs.length<=256:=by rw [NV.out];omega
 have LK:Hid (ks.length<=maxLen):=by show ks.length<=maxLen;unfold maxLen;omega
 have LV:Hid (vs.length<=maxLen):=by show vs.length<=maxLen;unfold maxLen;omega
 have HP:Hid (Pg.Page [(m0:Int),m1,n0,d0,h4,h5,h6] (Pg.qk s0 d0 ks) (Pg.qv s1 vs)):=Pg.quant_page (h:=[(m0:Int),m1,n0,d0,h4,h5,h6]) rfl hr rfl rfl st0 st1 ik iv sk.2 sv.2 sv.1
 have XK:Hid (∀ k,Ls.In32 (Tb.row (Pg.cols d0 ks) k)):=fun k=>by
  by_cases e:k<d0
  ·rw [Pg.row_cols e];exact Pg.col_in ik k
  ·rw [Tb.row_past (by rw [Pg.cols_length];omega)];intro i;rw [Ls.nth_nil];omega
 have CL:Hid (d0=(Pg.cols d0 ks).length):=(Pg.cols_length _ _).symm
 have CR:Hid (∀ k,k<(Pg.cols d0 ks).length->(Tb.row (Pg.cols d0 ks) k).length=n0):=fun k hk=>by
  rw [Pg.cols_length] at hk
  rw [Pg.row_cols hk,Pg.col_length]
  exact NK.out
 clear hk hv ik iv hr sk sv st0 st1 qc qd qe qf qc' qd' qe' qf'
 go_enter Tryz.func98,Tryz.ntmps98
 go_wp2_with fail
 obtain ⟨u0,hu0⟩:∃ u,w.alloc (.cells #[.int .i64 (m0:Int),.int .i64 (m1:Int),.int .i64 (n0:Int),.int .i64 (d0:Int),.int .i64 h4,.int .i64 h5,.int .i64 h6] 156)=u:=⟨_,rfl⟩
 have U0:Hid (Below w.heap.size w u0):=by rw [<-hu0];exact box_below _ _
 have HD:Hid (∀ v,Below u0.heap.size u0 v->HdAt v w.heap.size m0 m1 n0 d0 h4 h5 h6):=by rw [<-hu0];exact fun v hb=>hd_box hb
 rw [hu0]
 clear hu0
 refine (rightP_any _ _ _ _ _ _ _ true EQ.out _).mono ?_
 rintro r v0 ⟨rfl,hb⟩
 have B0:Hid (Below u0.heap.size u0 v0):=hb
 obtain ⟨x0,x1,x2,x3,_,_,_⟩:=HD.out v0 B0.out
 clear hb
 go_wp2_with fail
 refine (listsOf_any _ _ ks _ _ true _ (HA.out.keep (below_then U0.out B0.out)) LK.out P1.out).mono ?_
 rintro r v ⟨rfl,hw⟩
 cases hw.symm
 clear hw
 go_wp2_with fail
 refine (listsOf_any _ _ vs _ _ true _ (HB.out.keep (below_then U0.out B0.out)) LV.out P2.out).mono ?_
 rintro r v ⟨rfl,hw⟩
 cases hw.symm
 clear hw
 go_wp2_with fail
 clear x0 x1 x2 x3
 have KS:Hid (∀ w',Below v0.heap.size v0 w'->HdAt w' w.heap.size m0 m1 n0 d0 h4 h5 h6/\Hid (Below v0.heap.size v0 w')):=fun w' hb=>⟨HD.out w' (below_then B0.out hb),hb⟩
 unfold HdAt at KS
 have BW:Hid (Below w.heap.size w v0):=below_then U0.out B0.out
 go_region_held3 (fun w'=>(w'.cell? ⟨w.heap.size,0,none⟩=some (.int .i64 (m0:Int))/\w'.cell? ⟨w.heap.size,1,none⟩=some (.int .i64 (m1:Int))/\w'.cell? ⟨w.heap.size,2,none⟩=some (.int .i64 (n0:Int))/\w'.cell? ⟨w.heap.size,3,none⟩=some (.int .i64 (d0:Int))/\w'.cell? ⟨w.heap.size,4,none⟩=some (.int .i64 h4)/\w'.cell? ⟨w.heap.size,5,none⟩=some (.int .i64 h5)/\w'.cell? ⟨w.heap.size,6,none⟩=some (.int .i64 h6))/\Hid (Below v0.heap.size v0 w'))
  (first
    | exact KS.out _ ((Below.refl v0.heap.size v0).drew)
    | exact KS.out _ b4'.out
    | exact KS.out _ b3'.out
    | exact KS.out _ b2'.out
    | exact KS.out _ b1'.out
    | assumption)
  (first
    | (go_at_call 125;refine (turned_any _ _ d0 ks _ (HA.out.keep (below_then BW.out ((Below.refl v0.heap.size v0).drew))) lk (by omega) RK.out).mono ?_;rintro e v1 ⟨g1,rfl,hg1,ht1,hb⟩;have b1':Hid (Below v0.heap.size v0 v1):=((Below.refl v0.heap.size v0).drew).trans hb;have T1:Hid (Tbl v1 (some ⟨g1,0,none⟩) (Pg.cols d0 ks)):=ht1;clear hb hg1 ht1)
    | (go_at_call 124;(with_reducible refine (groupAll_anym (some ⟨g1,0,none⟩) d0 _ m0 s0 n0 (Pg.cols d0 ks) _ CL.out T1.out (by rw [<-CL.out];omega) ST0.out XK.out CR.out b1 (by omega)).mono ?_);rintro e v2 ⟨g2,rfl,hg2,ht2,hb⟩;have b2':Hid (Below v0.heap.size v0 v2):=below_then b1'.out hb;have T2:Hid (Gps v2 (some ⟨g2,0,none⟩) (Pg.qk s0 d0 ks)):=(by rw [<-Pg.qv_cols];exact ht2);clear hb hg2 ht2)
    | (go_at_call 124;(with_reducible refine (groupAll_anym a2 _ _ m1 s1 d0 vs _ rfl (HB.out.keep (below_then BW.out b2'.out)) lv ST1.out IV.out RV.out b3 (by omega)).mono ?_);rintro e v3 ⟨g3,rfl,hg3,ht3,hb⟩;have b3':Hid (Below v0.heap.size v0 v3):=below_then b2'.out hb;have T3:Hid (Gps v3 (some ⟨g2,0,none⟩) (Pg.qk s0 d0 ks)/\Gps v3 (some ⟨g3,0,none⟩) (Pg.qv s1 vs)):=⟨T2.out.keep hb,ht3⟩;clear hb hg3 ht3)
    | (go_at_call 123;refine (newP_zm m0 m1 n0 d0 h4 h5 h6 _ _ _ _ _ _ (Pg.qk s0 d0 ks) (Pg.qv s1 vs) _ (Pg.qk_length _ _ _).symm (Pg.qv_length _ _).symm T3.out.1 T3.out.2 HP.out).mono ?_;rintro e v4 ⟨p,rfl,hp,hpa,hpn,hb⟩;have b4':Hid (Below v0.heap.size v0 v4):=below_then b3'.out hb;have PA:Hid (v3.heap.size<=p/\PageAt v4 p m0 m1 n0 d0 h4 h5 h6 (Pg.qk s0 d0 ks) (Pg.qv s1 vs)):=⟨hp,hpa⟩;have PN:Hid (PgN v3.heap.size v4 p):=hpn;clear hb hp hpa hpn))
 go_wp2
 go_ret2
 exact ⟨p,rfl,Nat.le_trans (below_then BW.out b3'.out).size PA.out.1,PA.out.2,⟨Nat.le_trans (below_then BW.out b3'.out).size PN.out.1,fun a n c e=>⟨Nat.le_trans (below_then BW.out b3'.out).size (PN.out.2 a n c e).1,(PN.out.2 a n c e).2⟩⟩,below_then BW.out b4'.out⟩
end Go.Proofs.YtnchnlgnnlgjcaaGreat
namespace Go.Proofs.YtnchnlgnnlgjcaaGreat
open Go.RowKit
theorem Lst.stand {w w':World} {k:IntKind} {a:Option Addr} {l:List Int} (h:Lst k w a l) (hk:∀ x,a=some x->0<l.length->x.block<w.heap.size->w'.heap[x.block]?=w.heap[x.block]?):Lst k w' a l:=fun i hi=>by
 obtain ⟨b,o,e,hc⟩:=h i hi
 refine ⟨b,o,e,?_⟩
 rw [World.cell?_of_block (a:=⟨b,o+i,none⟩) (hk ⟨b,o,none⟩ e (by omega) (show b<_ from World.block_lt_of_cell? w ⟨b,o+i,none⟩ hc))]
 exact hc
theorem lst_lt {w:World} {k:IntKind} {a:Option Addr} {l:List Int} (h:Lst k w a l) (hl:0<l.length):∀ x,a=some x->x.block<w.heap.size:=fun x e=>by
 obtain ⟨b,o,e2,hc⟩:=h 0 hl
 rw [e2] at e
 cases e
 exact World.block_lt_of_cell? w _ hc
def PksZ (Z:Nat->Prop) (w:World) (g b:Nat) (l:List (Int × Int × List Int)):Prop:=∀ i,i<l.length->Z g/\∃ a c,PkAt w g i b (Pg.nth l i) a c/\∀ x,a=some x->0<(Pk.pack b (Pg.gc (Pg.nth l i))).length->Z x.block
theorem PksZ.pks {Z:Nat->Prop} {w:World} {g b:Nat} {l:List (Int × Int × List Int)} (h:PksZ Z w g b l):Pks w g b l:=fun i hi=>by
 obtain ⟨_,a,c,h1,_⟩:=h i hi
 exact ⟨a,c,h1⟩
theorem PksZ.carry {Z Z':Nat->Prop} {w w':World} {g b:Nat} {l:List (Int × Int × List Int)} (h:PksZ Z w g b l) (hk:∀ q,q<w.heap.size->Z q->Z' q/\w'.heap[q]?=w.heap[q]?):PksZ Z' w' g b l:=fun i hi=>by
 obtain ⟨hg,a,c,⟨h0,h1,h2,h3,h4⟩,hz1⟩:=h i hi
 have gl:g<w.heap.size:=World.block_lt_of_cell? w _ h0
 have e:=(hk g gl hg).2
 refine ⟨(hk g gl hg).1,a,c,⟨?_,?_,?_,?_,h4.stand fun x ex hl hx=>(hk _ hx (hz1 x ex hl)).2⟩,fun x ex hl=>(hk _ (lst_lt h4 hl x ex) (hz1 x ex hl)).1⟩
 ·rw [World.cell?_of_block (a:=⟨g,i*4,none⟩) e];exact h0
 ·rw [World.cell?_of_block (a:=⟨g,i*4+1,none⟩) e];exact h1
 ·rw [World.cell?_of_block (a:=⟨g,i*4+2,none⟩) e];exact h2
 ·rw [World.cell?_of_block (a:=⟨g,i*4+3,none⟩) e];exact h3
def PageZ (Z:Nat->Prop) (w:World) (p m0 m1 n d:Nat) (h4 h5 h6:Int) (ks vs:List (Int × Int × List Int)):Prop :=
 ∃ g1 g2,w.rowIs p 176 9 (pgc m0 m1 n d h4 h5 h6 (.slice (some ⟨g1,0,none⟩) d d) (.slice (some ⟨g2,0,none⟩) n n))/\PksZ Z w g1 m0 ks/\PksZ Z w g2 m1 vs/\Pg.Page [(m0:Int),m1,n,d,h4,h5,h6] ks vs/\Z p
theorem PageZ.at {Z:Nat->Prop} {w:World} {p m0 m1 n d:Nat} {h4 h5 h6:Int} {ks vs:List (Int × Int × List Int)} (h:PageZ Z w p m0 m1 n d h4 h5 h6 ks vs):PageAt w p m0 m1 n d h4 h5 h6 ks vs:=by
 obtain ⟨g1,g2,hr,hk,hv,hp,_⟩:=h
 exact ⟨g1,g2,hr,hk.pks,hv.pks,hp⟩
theorem PageZ.carry {Z Z':Nat->Prop} {w w':World} {p m0 m1 n d:Nat} {h4 h5 h6:Int} {ks vs:List (Int × Int × List Int)} (h:PageZ Z w p m0 m1 n d h4 h5 h6 ks vs) (hk:∀ q,q<w.heap.size->Z q->Z' q/\w'.heap[q]?=w.heap[q]?):PageZ Z' w' p m0 m1 n d h4 h5 h6 ks vs:=by
 obtain ⟨g1,g2,hr,h1,h2,hp,z0⟩:=h
 exact ⟨g1,g2,hr.of_block (hk p hr.lt z0).2,h1.carry hk,h2.carry hk,hp,(hk p hr.lt z0).1⟩
theorem pageZ_of {Z:Nat->Prop} {s:Nat} {w:World} {p m0 m1 n d:Nat} {h4 h5 h6:Int} {ks vs:List (Int × Int × List Int)} (h:PageAt w p m0 m1 n d h4 h5 h6 ks vs) (hn:PgN s w p) (hz:∀ q,s<=q->Z q):PageZ Z w p m0 m1 n d h4 h5 h6 ks vs:=by
 obtain ⟨g1,g2,hr,hk,hv,hp⟩:=h
 obtain ⟨z0,hn⟩:=hn
 obtain ⟨a1,k1⟩:=hn ⟨g1,0,none⟩ d d (.inl (by rw [hr.cell (show 7<9 by decide)];rfl))
 obtain ⟨a2,k2⟩:=hn ⟨g2,0,none⟩ n n (.inr (by rw [hr.cell (show 8<9 by decide)];rfl))
 have a1:s<=g1:=a1
 have a2:s<=g2:=a2
 have k1:PkN w g1:=k1
 have k2:PkN w g2:=k2
 refine ⟨g1,g2,hr,fun i hi=>⟨hz _ a1,?_⟩,fun i hi=>⟨hz _ a2,?_⟩,hp,hz _ z0⟩
 ·obtain ⟨a,c,q⟩:=hk i hi
  refine ⟨a,c,q,fun x ex _=>hz _ ?_⟩
  subst ex
  have:=k1 i x _ _ q.2.2.2.1
  omega
 ·obtain ⟨a,c,q⟩:=hv i hi
  refine ⟨a,c,q,fun x ex _=>hz _ ?_⟩
  subst ex
  have:=k2 i x _ _ q.2.2.2.1
  omega
namespace Cc
def gn (G W t:Nat):Nat:=(t - W) / G
theorem grp_gn {G W t:Nat} (ht:t<=1024):Tn.Tr.grp G W t=(gn G W t:Int):=by
 unfold Tn.Tr.grp Tn.Tr.over Tn.Tr.near gn
 rw [if_neg (by omega:¬ (t:Int)<0),if_neg (by omega:¬ 1024<(t:Int)),Int.natCast_ediv]
 congr 1
 split <;> omega
theorem gn_le {G W t:Nat} (hG:1<=G):gn G W t*G+W<=t\/gn G W t=0:=by
 by_cases h:t<=W
 ·right;unfold gn;rw [show t - W=0 by omega];exact Nat.zero_div _
 ·left
  have:=Nat.div_mul_le_self (t - W) G
  unfold gn
  omega
theorem gn_mul {G W t:Nat} (hG:1<=G):gn G W t*G<=t:=by
 rcases gn_le (W:=W) (t:=t) hG with h | h
 ·omega
 ·rw [h];omega
theorem gn_lt {G W t:Nat} (hG:1<=G):t<gn G W t*G+G+W:=by
 have h:=Nat.div_add_mod (t - W) G
 have h2:=Nat.mod_lt (t - W) (show 0<G by omega)
 unfold gn
 rw [Nat.mul_comm] at h
 omega
theorem gn_mono {G W t u:Nat} (h:t<=u):gn G W t<=gn G W u:=Nat.div_le_div_right (by omega)
theorem gn_succ {G W t:Nat} (hG:1<=G):gn G W (t+1)=gn G W t\/gn G W (t+1)=gn G W t+1:=by
 have h1:gn G W t<=gn G W (t+1):=gn_mono (by omega)
 by_cases h:gn G W (t+1)<=gn G W t+1
 ·omega
 ·exfalso
  have h2:=gn_lt (W:=W) (t:=t) hG
  rcases gn_le (W:=W) (t:=t+1) hG with h3 | h3
  ·have h4:(gn G W t+2)*G<=gn G W (t+1)*G:=Nat.mul_le_mul_right G (by omega)
   rw [Nat.add_mul] at h4
   omega
  ·omega
def mk (ls:List (Int × Int)) (ly:Nat):Nat:=(Tn.Tr.fst ls ly).toNat
def mv (ls:List (Int × Int)) (ly:Nat):Nat:=(Tn.Tr.snd ls ly).toNat
def top (b:Nat):Nat:=2 ^ b - 1
def ShOk (H D G W:Nat) (ls:List (Int × Int)):Prop:=1<=H/\H<=4/\1<=D/\D<=16/\Tn.Tr.right G W ls=0
theorem ShOk.nums {H D G W:Nat} {ls:List (Int × Int)} (h:ShOk H D G W ls):1<=G/\G<=16/\W<=64/\1<=ls.length/\ls.length<=4/\Tn.Tr.allB ls=true:=by
 obtain ⟨_,_,_,_,h5⟩:=h
 obtain ⟨a,b,c,d,e,f,g⟩:=Tn.Tr.right_zero h5
 exact ⟨by omega,by omega,by omega,e,f,g⟩
theorem ShOk.bits {H D G W:Nat} {ls:List (Int × Int)} (h:ShOk H D G W ls) {ly:Nat} (hl:ly<ls.length) :
 Tn.Tr.fst ls ly=(mk ls ly:Int)/\Tn.Tr.snd ls ly=(mv ls ly:Int)/\Gp.St (mk ls ly) (top (mk ls ly))/\Gp.St (mv ls ly) (top (mv ls ly)):=by
 have:=(Tn.Tr.allB_iff ls).1 h.nums.2.2.2.2.2 ly hl
 unfold Tn.Tr.okP at this
 rw [Bool.and_eq_true] at this
 obtain ⟨a,b⟩:=this
 have st:∀ x:Int,Tn.Tr.okB x=true->x=(x.toNat:Int)/\Gp.St x.toNat (top x.toNat):=fun x hx=>by
  rcases Tn.Tr.okB_cases hx with e | e | e <;> subst e <;> exact ⟨rfl,by unfold Gp.St top;decide⟩
 exact ⟨(st _ a).1,(st _ b).1,(st _ a).2,(st _ b).2⟩
def TokOk (H D:Nat) (t:Tok):Prop:=t.1.length=H/\t.2.length=H/\∀ h,h<H->(Ca.nt t.1 h).length=D/\(Ca.nt t.2 h).length=D/\Ls.In32 (Ca.nt t.1 h)/\Ls.In32 (Ca.nt t.2 h)
def KAt (col:Nat->Nat) (w:World) (y:Option Addr × Nat × Nat) (l:List Int):Prop:=y.2.1=l.length/\SlQ (fun q=>col q=0) 1 (eNum .i32) w y.1 l/\l.length<=y.2.2/\l.length<=maxLen/\(y.1=none->y.2.2=0)
def TvAt (col:Nat->Nat) (w:World) (x:Rt.Tv) (t:Tok) (hd:Nat):Prop:=KAt col w x.1 (Ca.nt t.1 hd)/\KAt col w x.2 (Ca.nt t.2 hd)
theorem KAt.carry {col col':Nat->Nat} {w w':World} {y:Option Addr × Nat × Nat} {l:List Int} (h:KAt col w y l) (hk:∀ q,q<w.heap.size->col q=0->col' q=0/\w'.heap[q]?=w.heap[q]?) (hs:w.heap.size<=w'.heap.size):KAt col' w' y l :=
 ⟨h.1,h.2.1.carry (carry_num _) hk hs,h.2.2⟩
theorem TvAt.carry {col col':Nat->Nat} {w w':World} {x:Rt.Tv} {t:Tok} {hd:Nat} (h:TvAt col w x t hd) (hk:∀ q,q<w.heap.size->col q=0->col' q=0/\w'.heap[q]?=w.heap[q]?) (hs:w.heap.size<=w'.heap.size):TvAt col' w' x t hd :=
 ⟨h.1.carry hk hs,h.2.carry hk hs⟩
def RowIn (w:World) (col:Nat->Nat) (c:Nat) (M:List Int) (G D n0:Nat) (ls:List (Int × Int)) (ly hd rg rs:Nat) (sl:List Int) (tk:List Tok) (q:Nat):Prop :=
 sl.length=q/\q*G<=tk.length /\
 (∀ i,i<q->∃ p:Nat,Ls.nth M (Ls.nth sl i).toNat=(p:Int)/\PageZ (fun x=>col x=0) w p (mk ls ly) (mv ls ly) G D ly hd i (Ca.pg (mk ls ly) (mv ls ly) (top (mk ls ly)) (top (mv ls ly)) G D ly hd tk i).2.1 (Ca.pg (mk ls ly) (mv ls ly) (top (mk ls ly)) (top (mv ls ly)) G D ly hd tk i).2.2) /\
 ∃ f l,Rt.RingAt w rg rs n0 f l/\l.length+q*G=tk.length/\(∀ i (h:q*G+i<tk.length),TvAt col w (Rt.nth l i) tk[q*G+i] hd)/\col rg=c/\col rs=c
theorem RowIn.carry {w w':World} {col col':Nat->Nat} {c:Nat} {M M':List Int} {G D n0:Nat} {ls:List (Int × Int)} {ly hd rg rs:Nat} {sl:List Int} {tk:List Tok} {q:Nat} (h:RowIn w col c M G D n0 ls ly hd rg rs sl tk q)
 (hk:∀ x,x<w.heap.size->col x=0->col' x=0/\w'.heap[x]?=w.heap[x]?) (hs:w.heap.size<=w'.heap.size) (hg:col' rg=col rg/\w'.heap[rg]?=w.heap[rg]?) (hr:col' rs=col rs/\w'.heap[rs]?=w.heap[rs]?)
 (hM:∀ x,x ∈ sl->Ls.nth M' x.toNat=Ls.nth M x.toNat):RowIn w' col' c M' G D n0 ls ly hd rg rs sl tk q:=by
 obtain ⟨h1,h2,h3,f,l,h4,h5,h6,h7,h8⟩:=h
 refine ⟨h1,h2,fun i hi=>?_,f,l,h4.of_block hg.2 hr.2,h5,fun i hi=>(h6 i hi).carry hk hs,hg.1.trans h7,hr.1.trans h8⟩
 obtain ⟨p,e,hp⟩:=h3 i hi
 refine ⟨p,?_,hp.carry hk⟩
 rw [hM _ (by
  rw [show Ls.nth sl i=sl[i]'(by omega) by simp [Ls.nth,show i<sl.length by omega]]
  exact List.getElem_mem _)]
 exact e
def cac (g H D G W:Nat) (vl:Value) (T:Nat) (vp vc:Value) (i:Nat):Value :=
 if i=0 then .pointer (some ⟨g,0,none⟩) else if i=1 then .int .i64 H else if i=2 then .int .i64 D else if i=3 then .int .i64 G else if i=4 then .int .i64 W else if i=5 then vl else if i=6 then .pointer (some ⟨T,0,none⟩) else if i=7 then vp else vc
def PsZ (col:Nat->Nat) (w:World) (a:Option Addr) (ls:List (Int × Int)):Prop:=Tn.Tr.Ps w a ls/\∀ x,a=some x->x.block<w.heap.size/\col x.block=0
theorem PsZ.carry {col col':Nat->Nat} {w w':World} {a:Option Addr} {ls:List (Int × Int)} (h:PsZ col w a ls) (hk:∀ x,x<w.heap.size->col x=0->col' x=0/\w'.heap[x]?=w.heap[x]?) (hs:w.heap.size<=w'.heap.size):PsZ col' w' a ls:=by
 refine ⟨fun i hi=>?_,fun x ex=>⟨Nat.lt_of_lt_of_le (h.2 x ex).1 hs,(hk _ (h.2 x ex).1 (h.2 x ex).2).1⟩⟩
 obtain ⟨b,o,e,h1,h2⟩:=h.1 i hi
 have eb:=(hk b (h.2 _ e).1 (h.2 _ e).2).2
 refine ⟨b,o,e,?_,?_⟩
 ·rw [World.cell?_of_block (a:=⟨b,o+i*2,none⟩) eb];exact h1
 ·rw [World.cell?_of_block (a:=⟨b,o+i*2+1,none⟩) eb];exact h2
def CaAt (w:World) (col:Nat->Nat) (c g C H D G W:Nat) (ls:List (Int × Int)) (M:List Int) (L:Nat->List Int) (cnt:List Int) (tk:Nat->List Tok) (q:Nat->Nat):Prop :=
 ∃ (al:Option Addr) (cl T pb pc ct cc:Nat) (rg rs:Nat->Nat) (F:Nat->Value),
   (w.rowIs C 104 9 (cac g H D G W (.slice al ls.length cl) T (.slice (some ⟨pb,0,none⟩) (ls.length*H) pc) (.slice (some ⟨ct,0,none⟩) ls.length cc))/\col C=0) /\
   (PsZ col w al ls/\(al=none->cl=0)) /\
   (Tab w g T (ls.length*H) L (fun x=>col x=c/\¬ x=ct)/\col T=0) /\
   (w.ownsRow 0 3 1 (.slice (some ⟨ct,0,none⟩) ls.length cc) ls.length (cnt.map (Value.int .i64))/\cnt.length=ls.length/\col ct=c) /\
   (w.rowIs pb 107 pc F/\(∀ r,r<ls.length*H->F r=.pointer (some ⟨rg r,0,none⟩))/\ls.length*H<=pc/\col pb=0) /\
   (∀ i j,i<ls.length*H->j<ls.length*H->rg i=rg j\/rs i=rs j->i=j) /\
   ∀ r,r<ls.length*H->RowIn w col c M G D (W+G) ls (r / H) (r % H) (rg r) (rs r) (L r) (tk r) (q r)
theorem CaAt.carry {w w':World} {col col':Nat->Nat} {c g C H D G W:Nat} {ls:List (Int × Int)} {M M':List Int} {L:Nat->List Int} {cnt:List Int} {tk:Nat->List Tok} {q:Nat->Nat} (h:CaAt w col c g C H D G W ls M L cnt tk q)
 (hk:∀ x,x<w.heap.size->col x=0\/col x=c->col' x=col x/\w'.heap[x]?=w.heap[x]?) (hs:w.heap.size<=w'.heap.size)
 (hM:∀ r,r<ls.length*H->∀ x,x ∈ L r->Ls.nth M' x.toNat=Ls.nth M x.toNat):CaAt w' col' c g C H D G W ls M' L cnt tk q:=by
 obtain ⟨al,cl,T,pb,pc,ct,cc,rg,rs,F,⟨hC,zC⟩,⟨hl,hln⟩,⟨hT,zT⟩,⟨hc,hcl,zc⟩,⟨hp,hF,hpc,zp⟩,hd,hr⟩:=h
 have k0:∀ x,x<w.heap.size->col x=0->col' x=0/\w'.heap[x]?=w.heap[x]?:=fun x hx h0=>⟨((hk x hx (.inl h0)).1).trans h0,(hk x hx (.inl h0)).2⟩
 have lct:ct<w.heap.size:=(hc.lt ct rfl).2
 refine ⟨al,cl,T,pb,pc,ct,cc,rg,rs,F,⟨hC.of_block (k0 C hC.lt zC).2,(k0 C hC.lt zC).1⟩,⟨hl.carry k0 hs,hln⟩,⟨?_,(k0 T hT.lt zT).1⟩,⟨?_,hcl,by rw [(hk ct lct (.inr zc)).1];exact zc⟩,⟨hp.of_block (k0 pb hp.lt zp).2,hF,hpc,(k0 pb hp.lt zp).1⟩,hd,fun r hr1=>?_⟩
 ·exact ((hT.mono (Q':=fun x=>(col' x=c/\¬ x=ct)/\x<w.heap.size/\col x=c) fun x hx hq=>⟨⟨by rw [(hk x hx (.inr hq.1)).1];exact hq.1,hq.2⟩,hx,hq.1⟩).stand (k0 T hT.lt zT).2 fun x hq ht=>(hk x hq.2.1 (.inr hq.2.2)).2).mono fun x _ hq=>hq.1
 ·exact own_at hc fun x ex=>by cases ex;exact (hk ct lct (.inr zc)).2
 ·have hrr:=hr r hr1
  obtain ⟨_,_,_,f,l,h4,_,_,h7,h8⟩:=hrr
  exact (hr r hr1).carry k0 hs (hk _ h4.lt.1 (.inr h7)) (hk _ h4.lt.2 (.inr h8)) (hM r hr1)
end Cc
end Go.Proofs.YtnchnlgnnlgjcaaGreat
namespace Go.Proofs.YtnchnlgnnlgjcaaGreat
open Go.RowKit
namespace Cc
set_option maxRecDepth 100000 in
theorem clone32_any {Q:Nat->Prop} (a:Option Addr) (c:Nat) (l:List Int) (w:World) (h:SlQ Q 1 (eNum .i32) w a l) (h0:0<l.length) (hl:l.length<=1000) :
 Calls Tryz.prog 61 #[.slice a l.length c] w fun e w'=>∃ a' c',e=.returned (.slice a' l.length c')/\Fr w.heap.size w' a' c' l/\Below w.heap.size w w':=by
 obtain ⟨b,o,rfl,-⟩:=h.get h0
 have HA:Hid (Lst .i32 w (some ⟨b,o,none⟩) l):=h.lst
 clear h
 have hq:(binOp .eql 74 (.slice (some ⟨b,o,none⟩) l.length c) (.slice none 0 0)).run Tryz.prog w=.ok (.bool false) w:=slice_nil w _ _ (some ⟨b,o,none⟩) _ _ Tryz.underlying74
 go_enter Tryz.func61,Tryz.ntmps61
 go_wp2_with (at_builtin;refine wpList_append_lst rfl _ _ 74 rfl w.heap.size 21 .i32 4 Tryz.underlying74 Tryz.infoInt32 _ 0 [] (by rfl) (World.ownsRow_made w #[] 0 (Nat.le_refl _) (by decide) rfl) (some ⟨b,o,none⟩) l c (by rfl) (HA.out.keep (box_below _ _)) (fun e=>nomatch e) (by unfold maxLen;omega) (by omega) (by simp) ?_;intro v1 u1 ho1 hg1;simp only [Nat.zero_add,List.nil_append] at ho1;obtain ⟨va,vc,rfl⟩:=Ca.own_slice ho1;have O1:Hid (u1.ownsRow w.heap.size 21 1 (.slice va l.length vc) l.length (l.map (Value.int .i32))):=ho1;have B1:Hid (Below w.heap.size w u1):=(box_below _ _).grown hg1 (by simp) (by intro k hk;cases hk;exact Nat.le_refl _);clear ho1 hg1)
 go_ret
 obtain ⟨a',c',e,hf⟩:=fr_of_ownm (B:=w.heap.size) (Nat.le_refl _) O1.out rfl
 cases e
 exact ⟨_,_,rfl,hf,B1.out⟩
set_option maxRecDepth 100000 in
theorem clone64_any (a:Option Addr) (c n:Nat) (l:List Int) (w:World) (h:Lst .i64 w a l) (h0:0<l.length) (hl:l.length<=1000) (hn:l.length=n) :
 Calls Tryz.prog 84 #[.slice a n c] w fun e w'=>∃ a' c',e=.returned (.slice (some ⟨a',0,none⟩) n c')/\w'.ownsRow w.heap.size 3 1 (.slice (some ⟨a',0,none⟩) n c') n (l.map (Value.int .i64))/\Below w.heap.size w w':=by
 subst hn
 obtain ⟨b,o,rfl,-⟩:=h.get h0
 have HA:Hid (Lst .i64 w (some ⟨b,o,none⟩) l):=h
 clear h
 have hq:(binOp .eql 70 (.slice (some ⟨b,o,none⟩) l.length c) (.slice none 0 0)).run Tryz.prog w=.ok (.bool false) w:=slice_nil w _ _ (some ⟨b,o,none⟩) _ _ Tryz.underlying70
 go_enter Tryz.func84,Tryz.ntmps84
 go_wp2_with (at_builtin;refine wpList_append_lst rfl _ _ 70 rfl w.heap.size 3 .i64 8 Tryz.underlying70 Tryz.infoIntG _ 0 [] (by rfl) (World.ownsRow_made w #[] 0 (Nat.le_refl _) (by decide) rfl) (some ⟨b,o,none⟩) l c (by rfl) (HA.out.keep (box_below _ _)) (fun e=>nomatch e) (by unfold maxLen;omega) (by omega) (by simp) ?_;intro v1 u1 ho1 hg1;simp only [Nat.zero_add,List.nil_append] at ho1;obtain ⟨va,vc,rfl⟩:=Ca.own_slice ho1;have O1:Hid (u1.ownsRow w.heap.size 3 1 (.slice va l.length vc) l.length (l.map (Value.int .i64))):=ho1;have B1:Hid (Below w.heap.size w u1):=(box_below _ _).grown hg1 (by simp) (by intro k hk;cases hk;exact Nat.le_refl _);clear ho1 hg1)
 go_ret
 obtain ⟨g,cp,e,_⟩:=O1.out.form (by omega)
 cases e
 exact ⟨_,_,rfl,O1.out,B1.out⟩
theorem infoBits:(Tryz.prog.info? 77).map (fun i=>(i.zero,i.size,i.bytes))=some (some (.agg #[.int .i64 0,.int .i64 0]),2,16):=by kernel_rfl
def ePair:El (Int × Int):=fun Q w c x=>c 0=some (.int .i64 x.1)/\c 1=some (.int .i64 x.2)
theorem carry_pair:Carries 2 ePair:=fun Q Q' w w' c c' x _ _ hc h=>⟨hc 0 (by decide) _ h.1,hc 1 (by decide) _ h.2⟩
theorem full_pair:Full 2 ePair:=fun Q w c x h j hj=>by
 rcases Nat.lt_or_ge j 1 with q | q
 ·obtain rfl:j=0:=by omega
  exact ⟨_,h.1,rfl⟩
 ·obtain rfl:j=1:=by omega
  exact ⟨_,h.2,rfl⟩
theorem slq_ps {Q:Nat->Prop} {w:World} {a:Option Addr} {ls:List (Int × Int)} (h:SlQ Q 2 ePair w a ls):Tn.Tr.Ps w a ls:=fun i hi=>by
 obtain ⟨b,o,e,_,_,h1,h2⟩:=h i hi
 refine ⟨b,o,e,?_,?_⟩
 ·rw [Tn.Tr.fst_of hi];exact h1
 ·rw [Tn.Tr.snd_of hi];exact h2
theorem ps_slq {Q:Nat->Prop} {w:World} {a:Option Addr} {ls:List (Int × Int)} (h:Tn.Tr.Ps w a ls) (hQ:∀ x,a=some x->Q x.block):SlQ Q 2 ePair w a ls:=fun i hi=>by
 obtain ⟨b,o,e,h1,h2⟩:=h i hi
 rw [Tn.Tr.fst_of hi] at h1
 rw [Tn.Tr.snd_of hi] at h2
 exact ⟨b,o,e,World.block_lt_of_cell? w _ h1,hQ _ e,h1,h2⟩
end Cc
end Go.Proofs.YtnchnlgnnlgjcaaGreat
