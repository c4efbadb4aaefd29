import Derived.Test.YtnchnlgnnlgjcaaGreatCa14
import Derived.Test.YtnchnlgnnlgjcaaGreatCa22
import Derived.Test.YtnchnlgnnlgjcaaGreatCa18
import Derived.Test.YtnchnlgnnlgjcaaGreatCa12
import Derived.Deep.DeepCutAuto
import Derived.Deep.RegionWith
set_option linter.unusedVariables false
set_option linter.unusedSimpArgs false
namespace Go.Proofs.YtnchnlgnnlgjcaaGreat
open Go.RowKit
namespace Cc
theorem piece_get (G:Nat) (L:List Tok) (q0 i:Nat) (h:i<(Ca.piece G L q0).length):(Ca.piece G L q0)[i]=L[q0*G+i]'(by unfold Ca.piece at h;rw [List.length_take,List.length_drop] at h;omega):=by
 simp only [Ca.piece,List.getElem_take,List.getElem_drop]
theorem right7 {m0 m1 s0 s1 G D ly hd q0:Nat} (st0:Gp.St m0 s0) (st1:Gp.St m1 s1) (h1:1<=G) (h2:G<=16) (h3:1<=D) (h4:D<=16) (h5:ly<=3) (h6:hd<=3) (h7:q0<=1023):Pg.rightH [(m0:Int),m1,G,D,ly,hd,q0]=true:=by
 have ok:∀ (m s:Nat),Gp.St m s->Gp.okB (m:Int)=true:=fun m s h=>by
  unfold Gp.St at h
  rcases h with h | h | h <;> (obtain ⟨rfl,_⟩:=h;rfl)
 show (Gp.okB (m0:Int) && Gp.okB (m1:Int) && decide (1<=(G:Int)) && decide ((G:Int)<=16) && decide (1<=(D:Int)) && decide ((D:Int)<=16) && decide (0<=(ly:Int)) && decide ((ly:Int)<=3) && decide (0<=(hd:Int)) && decide ((hd:Int)<=3) && decide (0<=(q0:Int)) && decide ((q0:Int)<=1023))=true
 rw [ok _ _ st0,ok _ _ st1,decide_eq_true (show (1:Int)<=G by omega),decide_eq_true (show (G:Int)<=16 by omega),decide_eq_true (show (1:Int)<=D by omega),decide_eq_true (show (D:Int)<=16 by omega),decide_eq_true (show (0:Int)<=ly by omega),decide_eq_true (show (ly:Int)<=3 by omega),decide_eq_true (show (0:Int)<=hd by omega),decide_eq_true (show (hd:Int)<=3 by omega),decide_eq_true (show (0:Int)<=q0 by omega),decide_eq_true (show (q0:Int)<=1023 by omega)]
 rfl
theorem shaped_of {n d:Nat} (f:Tok->List Int) (P:List Tok) (hn:P.length=n) (h:∀ i (hi:i<P.length),(f P[i]).length=d):Pg.shapedB (P.map f) n d=true:=by
 unfold Pg.shapedB
 simp only [decide_eq_true_eq]
 refine ⟨fun k hk=>?_,by rw [List.length_map,hn]⟩
 rw [List.length_map] at hk
 rw [Ca.row_map f P hk,h k hk]
set_option maxRecDepth 100000 in
set_option maxHeartbeats 6400000 in
theorem quantize_c (C c g b n k0 H D G W ly hd r q0:Nat) (ls:List (Int × Int)) (R M:List Int) (L:Nat->List Int) (t k:Nat) (tk:Nat->List Tok) (q:Nat->Nat) (col:Nat->Nat) (w:World) (hp:PoolAt w g b n R M) (h:CaAt w col c g C H D G W ls M L (cn ls.length t k) tk q)
 (sh:ShOk H D G W ls) (hly:ly<ls.length) (hhd:hd<H) (hr:ly*H+hd=r) (hq0:q r=q0) (hqG:q0*G+G<=(tk r).length) (hq1:q0<=1000) (htl:(tk r).length<=1000) (htk:∀ i (hi:i<(tk r).length),TokOk H D (tk r)[i])
 (hfree:0<Po.cnt R) (hL:∀ i,i<ls.length*H->∀ x,x ∈ L i->0<=x/\x<n/\0<Ls.nth R x.toNat) (hfr:∀ x,w.heap.size<=x->col x=0) (c0:¬ c=0) (cg:¬ col g=c/\¬ col g=0) (cb:¬ col b=c/\¬ col b=0) :
 Calls Tryz.prog 62 #[.pointer (some ⟨C,0,none⟩),.int .i64 (ly:Int),.int .i64 (hd:Int)] w fun e w'=>e=.returned (.tuple #[])/\∃ (kf p:Nat) (col':Nat->Nat),kf<n/\Ls.nth R kf=0/\PoolAt w' g b n (R.set kf 1) (M.set kf (p:Int)) /\
  CaAt w' col' c g C H D G W ls (M.set kf (p:Int)) (Bk.up L r (L r ++ [(kf:Int)])) (cn ls.length t k) tk (fun i=>if i=r then q0+1 else q i)/\Chg c g b w w' col col':=by
 have HB:Hid (Bd w C g H D G W ls t k):=h.bd
 have HC:Hid (CaAt w col c g C H D G W ls M L (cn ls.length t k) tk q):=h
 have HP:Hid (PoolAt w g b n R M):=hp
 obtain ⟨sH,sH2,sD,sD2,-⟩:=id sh
 obtain ⟨sG,sG2,sW,sl,sl2,-⟩:=sh.nums
 obtain ⟨eb0,eb1,-,-⟩:=sh.bits hly
 obtain ⟨al,cl,T,pb,pc,ct,cc,rg,rs,F,hin⟩:=h.in
 have HI0:=hin
 obtain ⟨⟨hC,zC⟩,⟨⟨hl,hlz⟩,hln⟩,⟨hT,zT⟩,⟨hc,hcl,zc⟩,⟨hpb,hF,hpc,zp⟩,hdis,hrow⟩:=hin
 have hl0:=hl
 obtain ⟨ab,ao,ea,hg⟩:=hl.get (show 0<ls.length by omega)
 subst ea
 have HI:Hid (CaIn w col c g C H D G W ls M L (cn ls.length t k) tk q (some ⟨ab,ao,none⟩) cl T pb pc ct cc rg rs F):=HI0
 clear HI0 hl0
 obtain ⟨g0,g1⟩:=hg ly hly
 rw [eb0] at g0
 rw [eb1] at g1
 obtain ⟨m0,em0⟩:∃ m,mk ls ly=m:=⟨_,rfl⟩
 obtain ⟨m1,em1⟩:∃ m,mv ls ly=m:=⟨_,rfl⟩
 rw [em0] at g0
 rw [em1] at g1
 have KS:Hid (∀ w',Below w.heap.size w w'->(w'.cell? ⟨C,5,none⟩=some (.slice (some ⟨ab,ao,none⟩) ls.length cl)/\w'.cell? ⟨ab,ao+ly*2,none⟩=some (.int .i64 (m0:Int))/\w'.cell? ⟨ab,ao+ly*2+1,none⟩=some (.int .i64 (m1:Int)))/\Hid (Below w.heap.size w w')):=fun w' hb=>by
  refine ⟨⟨?_,?_,?_⟩,hb⟩
  ·rw [hb.cell (p:=⟨C,5,none⟩) hC.lt];exact hC.cell (show 5<9 by decide)
  ·rw [hb.cell (p:=⟨ab,ao+ly*2,none⟩) (World.block_lt_of_cell? w _ g0)];exact g0
  ·rw [hb.cell (p:=⟨ab,ao+ly*2+1,none⟩) (World.block_lt_of_cell? w _ g1)];exact g1
 have hlt:C<w.heap.size:=hC.lt
 have habl:ab<w.heap.size:=World.block_lt_of_cell? w _ g0
 have HN:Hid (w.rowIs C 104 9 (cac g H D G W (.slice (some ⟨ab,ao,none⟩) ls.length cl) T (.slice (some ⟨pb,0,none⟩) (ls.length*H) pc) (.slice (some ⟨ct,0,none⟩) ls.length cc))/\True):=⟨hC,trivial⟩
 have HT:Hid (Tab w g T (ls.length*H) L (fun x=>col x=c/\¬ x=ct)):=hT
 have rlt:r<ls.length*H:=by
  have h1:(ly+1)*H<=ls.length*H:=Nat.mul_le_mul_right H (by omega)
  rw [Nat.add_mul] at h1
  omega
 have LQ:Hid ((L r).length=q0):=(hrow r rlt).1.trans hq0
 have hdiv:r / H=ly/\r % H=hd:=by
  rw [<-hr]
  refine ⟨?_,?_⟩
  ·rw [Nat.mul_comm,Nat.mul_add_div (by omega),Nat.div_eq_of_lt hhd];omega
  ·rw [Nat.mul_comm,Nat.mul_add_mod,Nat.mod_eq_of_lt hhd]
 obtain ⟨_,_,hpg,f,l,hring,hll,htv,crg,crs⟩:=hrow r rlt
 rw [hdiv.2] at htv
 rw [hq0] at hll htv
 have RG:Hid (Rt.RingAt w (rg r) (rs r) (W+G) f l):=hring
 have LL:Hid (l.length+q0*G=(tk r).length):=hll
 have TV:Hid (∀ i (h:q0*G+i<(tk r).length),TvAt col w (Rt.nth l i) (tk r)[q0*G+i] hd):=htv
 have CR:Hid (col (rg r)=c/\col (rs r)=c):=⟨crg,crs⟩
 have PB:Hid (w.rowIs pb 107 pc F/\F r=.pointer (some ⟨rg r,0,none⟩)/\r<pc):=⟨hpb,hF r rlt,by omega⟩
 obtain ⟨pl,epl⟩:∃ p,Rn.pl f (W+G) G=p:=⟨_,rfl⟩
 have EPL:Hid (Rn.pl f (W+G) G=pl):=epl
 have DV:Hid (r / H=ly/\r % H=hd):=hdiv
 have lG:G<=l.length:=by omega
 have SH:Hid (ShOk H D G W ls):=sh
 have HTK:Hid (∀ i (hi:i<(tk r).length),TokOk H D (tk r)[i]):=htk
 have HLL:Hid (∀ i,i<ls.length*H->∀ x,x ∈ L i->0<=x/\x<n/\0<Ls.nth R x.toNat):=hL
 have EM:Hid (mk ls ly=m0/\mv ls ly=m1):=⟨em0,em1⟩
 have HFR:Hid (∀ x,w.heap.size<=x->col x=0):=hfr
 have CG:Hid ((¬ col g=c/\¬ col g=0)/\¬ col b=c/\¬ col b=0):=⟨cg,cb⟩
 have ZZ:Hid (col C=0/\col T=0/\col pb=0):=⟨zC,zT,zp⟩
 clear hring hll htv crg crs epl hpg hdiv htk hL em0 em1 hfr cg cb
 clear hp hg g0 g1 hrow hdis hC hT hc hl hpb zC zT zp zc hF
 go_enter Tryz.func62,Tryz.ntmps62
 go_upto_region 0 with fail
 go_cut [6,7] from 15 to 27 (fun v6 v7 wx=>v6=.int .i64 (r:Int)/\∃ B:Nat,v7=.pointer (some ⟨B,0,none⟩)/\wx.cell? ⟨B,0,none⟩=some (.int .i64 (m0:Int))/\wx.cell? ⟨B,1,none⟩=some (.int .i64 (m1:Int))/\Hid (Below w.heap.size w wx))
 case first =>
  go_region_held3 (fun w'=>(w'.cell? ⟨C,5,none⟩=some (.slice (some ⟨ab,ao,none⟩) ls.length cl)/\w'.cell? ⟨ab,ao+ly*2,none⟩=some (.int .i64 (m0:Int))/\w'.cell? ⟨ab,ao+ly*2+1,none⟩=some (.int .i64 (m1:Int)))/\Hid (Below w.heap.size w w'))
   (first
     | assumption
     | exact KS.out _ ((Below.refl _ _).drew)
     | exact KS.out _ (((Below.refl w.heap.size w).drew).alloc (Nat.le_refl _) _)
     | exact KS.out _ (((((Below.refl w.heap.size w).drew).alloc (Nat.le_refl _) _).setCell (Nat.le_refl _) _).setCell (Nat.le_refl _) _))
   (first
     | (go_at_call 59;(with_reducible refine (row_c C g H D G W ls t k ly hd r _ (HB.out.keep ?_) hr (by omega) (by omega) (by omega)).mono ?_);(first | exact (Below.refl _ _).drew | exact ((Below.refl w.heap.size w).drew).alloc (Nat.le_refl _) _ | exact ((((Below.refl w.heap.size w).drew).alloc (Nat.le_refl _) _).setCell (Nat.le_refl _) _).setCell (Nat.le_refl _) _);rintro e w' ⟨rfl,hww⟩;cases hww.symm;clear hww))
  all_goals (go_wp2_with fail)
  all_goals go_meet
  all_goals exact ⟨rfl,w.heap.size,rfl,by simp,by simp,((Below.refl w.heap.size w).alloc (Nat.le_refl _) _).drew⟩
 case rest =>
  obtain ⟨rfl,B,rfl,b0,b1,BL⟩:=hcut
  have KT:Hid (∀ w',Below wc.heap.size wc w'->(w'.cell? ⟨C,2,none⟩=some (.int .i64 (D:Int))/\w'.cell? ⟨C,3,none⟩=some (.int .i64 (G:Int))/\w'.cell? ⟨C,6,none⟩=some (.pointer (some ⟨T,0,none⟩))/\w'.cell? ⟨B,0,none⟩=some (.int .i64 (m0:Int))/\w'.cell? ⟨B,1,none⟩=some (.int .i64 (m1:Int)))/\Hid (Below wc.heap.size wc w')):=fun w' hb=>by
   have hw:=BL.out.trans (hb.mono BL.out.size)
   refine ⟨⟨?_,?_,?_,?_,?_⟩,hb⟩
   ·rw [hw.cell (p:=⟨C,2,none⟩) HN.out.1.lt];exact HN.out.1.cell (show 2<9 by decide)
   ·rw [hw.cell (p:=⟨C,3,none⟩) HN.out.1.lt];exact HN.out.1.cell (show 3<9 by decide)
   ·rw [hw.cell (p:=⟨C,6,none⟩) HN.out.1.lt];exact HN.out.1.cell (show 6<9 by decide)
   ·rw [hb.cell (p:=⟨B,0,none⟩) (World.block_lt_of_cell? wc _ b0)];exact b0
   ·rw [hb.cell (p:=⟨B,1,none⟩) (World.block_lt_of_cell? wc _ b1)];exact b1
  clear b0 b1
  go_upto_region 1 with fail
  go_cut [8] from 28 to 51 (fun v8 wx=>∃ B:Nat,v8=.pointer (some ⟨B,0,none⟩)/\w.heap.size<=B/\HdAt wx B m0 m1 G D ly hd q0/\Hid (Below wc.heap.size wc wx))
  case first =>
   go_region_held3 (fun w'=>(w'.cell? ⟨C,2,none⟩=some (.int .i64 (D:Int))/\w'.cell? ⟨C,3,none⟩=some (.int .i64 (G:Int))/\w'.cell? ⟨C,6,none⟩=some (.pointer (some ⟨T,0,none⟩))/\w'.cell? ⟨B,0,none⟩=some (.int .i64 (m0:Int))/\w'.cell? ⟨B,1,none⟩=some (.int .i64 (m1:Int)))/\Hid (Below wc.heap.size wc w'))
    (first
      | assumption
      | exact KT.out _ ((Below.refl _ _).drew)
      | exact KT.out _ (((Below.refl wc.heap.size wc).drew).alloc (Nat.le_refl _) _)
      | exact KT.out _ (((Below.refl wc.heap.size wc).alloc (Nat.le_refl _) _).drew))
    (first
      | (go_at_call 68;(with_reducible refine (len_yes g T (ls.length*H) r q0 L _ _ (HT.out.keep ?_) rlt LQ.out).mono ?_);(first | exact BL.out.trans ((Below.refl _ _).drew.mono BL.out.size) | exact BL.out.trans ((((Below.refl wc.heap.size wc).drew).alloc (Nat.le_refl _) _).mono BL.out.size) | exact BL.out.trans ((((Below.refl wc.heap.size wc).alloc (Nat.le_refl _) _).drew).mono BL.out.size));rintro e w' ⟨rfl,hww⟩;cases hww.symm;clear hww))
   all_goals (go_wp2_with fail)
   all_goals go_meet
   all_goals exact ⟨wc.heap.size,rfl,BL.out.size,hd_box ((Below.refl _ _).drew),((Below.refl wc.heap.size wc).alloc (Nat.le_refl _) _).drew⟩
  case rest =>
   obtain ⟨B2,rfl,hB2,hd2,BL2⟩:=hcut
   have HD2:Hid (HdAt wc B2 m0 m1 G D ly hd q0):=hd2
   have BW:Hid (Below w.heap.size w wc):=BL.out.trans (BL2.out.mono BL.out.size)
   have RW:Hid (Rt.RingAt wc (rg r) (rs r) (W+G) f l):=RG.out.keep BW.out
   have KU:Hid (∀ w',Rt.But (rg r) (rs r) wc w'->(w'.cell? ⟨C,3,none⟩=some (.int .i64 (G:Int))/\w'.cell? ⟨C,7,none⟩=some (.slice (some ⟨pb,0,none⟩) (ls.length*H) pc)/\w'.cell? ⟨pb,r,none⟩=some (.pointer (some ⟨rg r,0,none⟩)))/\Hid (Rt.But (rg r) (rs r) wc w')):=fun w' hb=>by
    have far:∀ x v o,x<w.heap.size->col x=0->w.cell? ⟨x,o,none⟩=some v->w'.cell? ⟨x,o,none⟩=some v:=fun x v o hx hc hv=>by
     rw [hb.cell (a:=⟨x,o,none⟩) (Nat.lt_of_lt_of_le hx BW.out.size) (fun e=>c0 (by rw [<-CR.out.1,<-e];exact hc)) (fun e=>c0 (by rw [<-CR.out.2,<-e];exact hc)),BW.out.cell (p:=⟨x,o,none⟩) hx]
     exact hv
    exact ⟨⟨far C _ 3 HN.out.1.lt ZZ.out.1 (HN.out.1.cell (show 3<9 by decide)),far C _ 7 HN.out.1.lt ZZ.out.1 (HN.out.1.cell (show 7<9 by decide)),far pb _ r PB.out.1.lt ZZ.out.2.2 (by rw [PB.out.1.cell PB.out.2.2,PB.out.2.1])⟩,hb⟩
   have rlt':(r:Int)<(ls.length:Int)*(H:Int):=by rw [<-Int.natCast_mul];omega
   have rge:(0:Int)<=(r:Int):=by omega
   clear hd2
   go_upto_region 3 with fail
   go_cut [65,66,67] from 52 to 64 (fun v65 v66 v67 wx=>v66=.int .i64 (G:Int)/\v67=.int .i64 0/\∃ a:Nat,v65=.slice (some ⟨a,0,none⟩) G G/\wc.heap.size<=a/\Hid (wx.rowIs a 111 (G*2) (Rt.shf l G))/\Hid (Rt.RingAt wx (rg r) (rs r) (W+G) pl (l.drop G))/\Hid (Rt.But (rg r) (rs r) wc wx))
   case first =>
    go_region_held3 (fun w'=>(w'.cell? ⟨C,3,none⟩=some (.int .i64 (G:Int))/\w'.cell? ⟨C,7,none⟩=some (.slice (some ⟨pb,0,none⟩) (ls.length*H) pc)/\w'.cell? ⟨pb,r,none⟩=some (.pointer (some ⟨rg r,0,none⟩)))/\Hid (Rt.But (rg r) (rs r) wc w'))
     (first
       | assumption
       | exact KU.out _ (Rt.But.of_below (Below.refl _ _).drew)
       | exact KU.out _ BT.out)
     (first
       | (go_at_call 97;(with_reducible refine (Rt.shift_yes (rg r) (rs r) (W+G) f G pl l _ (RW.out.keep ?_) sG lG EPL.out).mono ?_);(exact (Below.refl _ _).drew);rintro e w' ⟨a,rfl,ha,hsh,hri,hbt⟩;have BT:Hid (Rt.But (rg r) (rs r) wc w'):=(Rt.But.of_below (Below.refl _ _).drew).trans hbt;have SF:Hid (wc.heap.size<=a/\w'.rowIs a 111 (G*2) (Rt.shf l G)/\Rt.RingAt w' (rg r) (rs r) (W+G) pl (l.drop G)):=⟨ha,hsh,hri⟩;clear ha hsh hri hbt))
    all_goals (go_wp2_with fail)
    all_goals go_meet
    all_goals exact ⟨rfl,rfl,a,rfl,SF.out.1,SF.out.2.1,SF.out.2.2,BT.out⟩
   case rest =>
    obtain ⟨rfl,rfl,a,rfl,ha,SF,RG2,BT⟩:=hcut
    have FAR:Hid (∀ x,x<w.heap.size->¬ x=rg r->¬ x=rs r->wc.heap[x]?=w.heap[x]?):=fun x hx n1 n2=>(BT.out.2 x (Nat.lt_of_lt_of_le hx BW.out.size) n1 n2).trans (BW.out.block x hx)
    have SZ:Hid (w.heap.size<=a/\w.heap.size<=wc.heap.size/\a<wc.heap.size):=⟨Nat.le_trans BW.out.size ha,Nat.le_trans BW.out.size BT.out.size,SF.out.lt⟩
    have OS:Hid (wc.os=w.os/\wc.tape=w.tape/\wc.output=w.output):=⟨BT.out.1.os.trans BW.out.os,BT.out.1.tape.trans BW.out.tape,BT.out.1.output.trans BW.out.output⟩
    have HD3:Hid (HdAt wc B2 m0 m1 G D ly hd q0):=by
     have n1:¬ B2=rg r:=fun e=>by have:=RG.out.lt.1;omega
     have n2:¬ B2=rs r:=fun e=>by have:=RG.out.lt.2;omega
     have hl2:=World.block_lt_of_cell? _ _ HD2.out.1
     obtain ⟨y0,y1,y2,y3,y4,y5,y6⟩:=HD2.out
     exact ⟨by rw [BT.out.cell (a:=⟨B2,0,none⟩) hl2 n1 n2];exact y0,by rw [BT.out.cell (a:=⟨B2,1,none⟩) hl2 n1 n2];exact y1,by rw [BT.out.cell (a:=⟨B2,2,none⟩) hl2 n1 n2];exact y2,by rw [BT.out.cell (a:=⟨B2,3,none⟩) hl2 n1 n2];exact y3,by rw [BT.out.cell (a:=⟨B2,4,none⟩) hl2 n1 n2];exact y4,by rw [BT.out.cell (a:=⟨B2,5,none⟩) hl2 n1 n2];exact y5,by rw [BT.out.cell (a:=⟨B2,6,none⟩) hl2 n1 n2];exact y6⟩
    obtain ⟨P,eP⟩:∃ P,Ca.piece G (tk r) q0=P:=⟨_,rfl⟩
    have EP:Hid (Ca.piece G (tk r) q0=P):=eP
    have hPl:P.length=G:=by rw [<-eP];unfold Ca.piece;rw [List.length_take,List.length_drop];omega
    have hPi:∀ i (h:i<P.length),P[i]=(tk r)[q0*G+i]'(by omega):=fun i h=>by
     subst eP
     exact piece_get _ _ _ _ _
    have PL:Hid (P.length=G/\∀ i (h:i<P.length),TokOk H D P[i]):=⟨hPl,fun i h=>by rw [hPi i h];exact HTK.out _ _⟩
    have EL:Hid (∀ i (h:i<P.length),∃ e1 f1 e2 f2,wc.cell? ⟨a,i*2,none⟩=some (.slice e1 (Ca.nt P[i].1 hd).length f1)/\wc.cell? ⟨a,i*2+1,none⟩=some (.slice e2 (Ca.nt P[i].2 hd).length f2) /\
     ((Ca.nt P[i].1 hd).length<=f1/\(Ca.nt P[i].1 hd).length<=maxLen/\(e1=none->f1=0)/\SlQ (fun x=>col x=0/\x<w.heap.size) 1 (eNum .i32) wc e1 (Ca.nt P[i].1 hd)) /\
     ((Ca.nt P[i].2 hd).length<=f2/\(Ca.nt P[i].2 hd).length<=maxLen/\(e2=none->f2=0)/\SlQ (fun x=>col x=0/\x<w.heap.size) 1 (eNum .i32) wc e2 (Ca.nt P[i].2 hd))):=fun i h=>by
     have hv:=TV.out i (by omega)
     rw [<-hPi i h] at hv
     obtain ⟨⟨v1,v2,v3,v4,v5⟩,u1,u2,u3,u4,u5⟩:=hv
     have sf:=Rt.shf_at l (show i<G by omega)
     have kz:∀ x,x<w.heap.size->col x=0->(col x=0/\x<w.heap.size)/\wc.heap[x]?=w.heap[x]?:=fun x hx h0=>⟨⟨h0,hx⟩,FAR.out x hx (fun e=>c0 (by rw [<-CR.out.1,<-e];exact h0)) (fun e=>c0 (by rw [<-CR.out.2,<-e];exact h0))⟩
     refine ⟨_,_,_,_,?_,?_,⟨v3,v4,v5,v2.carry (carry_num _) kz SZ.out.2.1⟩,u3,u4,u5,u2.carry (carry_num _) kz SZ.out.2.1⟩
     ·rw [SF.out.cell (show i*2<G*2 by omega),sf.1];unfold Rt.key;rw [v1]
     ·rw [SF.out.cell (show i*2+1<G*2 by omega),sf.2];unfold Rt.val;rw [u1]
    obtain ⟨i1,hi10,hi11,hi12,hi13⟩:=info_parts Ca.infoRow
    clear eP hPl hPi RW KU ha
    go_wp2
    go_loopw [9,10,67] (fun v1 v2 i wq=>∃ (k:Nat) (xs ys:List Value),k<=G/\i=.int .i64 k/\Hid (AccQ (fun x=>col x=0/\x<w.heap.size) wc.heap.size 1 74 eRow wq v1 k ((Ca.ksOf P hd).take k) xs) /\
     Hid (AccQ (fun x=>col x=0/\x<w.heap.size) wc.heap.size 1 74 eRow wq v2 k ((Ca.vsOf P hd).take k) ys)/\Hid (∀ x,v1.ownBlock=some x->¬ v2.ownBlock=some x)/\Hid (Below wc.heap.size wc wq)) (fun _ _ i _=>G - (intOf i).toNat)
    case atStart=>exact ⟨0,[],[],Nat.zero_le _,rfl,acc_nil _ _ _ _ _ _,acc_nil _ _ _ _ _ _,(fun x e=>absurd (show (none:Option Nat)=some x from e) (by simp)),Below.refl _ _⟩
    case round =>
     obtain ⟨k,xs,ys,hk,rfl,A1,A2,AP,B0⟩:=hrel
     by_cases hlt:k<G
     ·have hltP:k<P.length:=by rw [PL.out.1];exact hlt
      obtain ⟨e1,f1,e2,f2,z0,z1,t1,t2⟩:=EL.out k hltP
      have T1:=Ca.hid t1
      have T2:=Ca.hid t2
      have y0:wr.cell? ⟨a,k*2,none⟩=some (.slice e1 (Ca.nt P[k].1 hd).length f1):=by rw [B0.out.cell (p:=⟨a,k*2,none⟩) SZ.out.2.2];exact z0
      have y1:wr.cell? ⟨a,k*2+1,none⟩=some (.slice e2 (Ca.nt P[k].2 hd).length f2):=by rw [B0.out.cell (p:=⟨a,k*2+1,none⟩) SZ.out.2.2];exact z1
      have alt:a<wr.heap.size:=Nat.lt_of_lt_of_le SZ.out.2.2 B0.out.size
      clear z0 z1 t1 t2
      go_upto_region 6 with fail
      obtain ⟨wb,hwb⟩:∃ u,wr.alloc (.cells #[.slice e1 (Ca.nt P[k].1 hd).length f1,.slice e2 (Ca.nt P[k].2 hd).length f2] 111)=u:=⟨_,rfl⟩
      have WB:Hid (Below wr.heap.size wr wb/\wb.heap.size=wr.heap.size+1):=by rw [<-hwb];exact ⟨box_below _ _,by simp⟩
      have x0:wb.cell? ⟨wr.heap.size,0,none⟩=some (.slice e1 (Ca.nt P[k].1 hd).length f1):=by rw [<-hwb];simp
      have x1:wb.cell? ⟨wr.heap.size,1,none⟩=some (.slice e2 (Ca.nt P[k].2 hd).length f2):=by rw [<-hwb];simp
      have X1:=Ca.hid x1
      rw [hwb]
      clear hwb y0 y1 x1
      have A1b:=Ca.hid (A1.out.to carry_row WB.out.1)
      have A2b:=Ca.hid (A2.out.to carry_row WB.out.1)
      have hsB:wc.heap.size<=wb.heap.size:=by have:=WB.out.2;have:=B0.out.size;omega
      have hkz:Hid (∀ x,x<w.heap.size->(col x=0/\x<w.heap.size)->(col x=0/\x<w.heap.size)/\wb.heap[x]?=wc.heap[x]?):=fun x hx hq=>⟨hq,(WB.out.1.block x (by have:=B0.out.size;have:=SZ.out.2.1;omega)).trans (B0.out.block x (by have:=SZ.out.2.1;omega))⟩
      have T1b:Hid ((Ca.nt P[k].1 hd).length<=f1/\(Ca.nt P[k].1 hd).length<=maxLen/\(e1=none->f1=0)/\SlQ (fun x=>col x=0/\x<w.heap.size) 1 (eNum .i32) wb e1 (Ca.nt P[k].1 hd)):=⟨T1.out.1,T1.out.2.1,T1.out.2.2.1,T1.out.2.2.2.carry (carry_num _) (fun x _ hq=>hkz.out x hq.2 hq) hsB⟩
      have T2b:Hid ((Ca.nt P[k].2 hd).length<=f2/\(Ca.nt P[k].2 hd).length<=maxLen/\(e2=none->f2=0)/\SlQ (fun x=>col x=0/\x<w.heap.size) 1 (eNum .i32) wb e2 (Ca.nt P[k].2 hd)):=⟨T2.out.1,T2.out.2.1,T2.out.2.2.1,T2.out.2.2.2.carry (carry_num _) (fun x _ hq=>hkz.out x hq.2 hq) hsB⟩
      have bwb:Hid (Below wc.heap.size wc wb):=B0.out.trans (WB.out.1.mono B0.out.size)
      have kB:Hid (∀ x,(col x=0/\x<w.heap.size)->x<wc.heap.size):=fun x hq=>by have:=SZ.out.2.1;have:=hq.2;omega
      have o9:Hid (∀ x,u9.ownBlock=some x->wc.heap.size<=x/\x<wr.heap.size):=fun x e=>A1.out.1.lt x e
      have o10:Hid (∀ x,u10.ownBlock=some x->wc.heap.size<=x/\x<wr.heap.size):=fun x e=>A2.out.1.lt x e
      go_wp2_with (first
       | (at_builtin;refine wpList_append_lies _ rfl _ _ _ rfl wc.heap.size 74 i1 _ 1 24 Tryz.underlying42 hi10 hi11 hi12 hi13 rfl (by omega) _ k xs (by rfl) ((A1b.out.to carry_row (box_below _ _)).1) ⟨wb.heap.size,0,none⟩ 1 1 [.slice e1 (Ca.nt P[k].1 hd).length f1] (by rfl) (by rfl) (World.news_of_block (cs:=#[.slice e1 (Ca.nt P[k].1 hd).length f1]) (t:=74) (fr:=(0,0)) (heap_alloc_new wb _)) (fun x hx=>by simp at hx;subst hx;rfl) (by omega) (by unfold maxLen;omega) (by omega) (by simp;omega) (wb.heap.size+1) (by simp) ?_;intro ggp capp wp hown hgrow hat hlt1;have Op:Hid (wp.ownsRow wc.heap.size 74 1 (.slice (some ⟨ggp,0,none⟩) (k+1) capp) (k+1) (xs ++ [.slice e1 (Ca.nt P[k].1 hd).length f1])):=hown;have Gp:Hid ((wb.alloc (.cells #[.slice e1 (Ca.nt P[k].1 hd).length f1] 74)).grownBy wp u9.ownBlock):=hgrow;have Tp:Hid ((u9.ownBlock=some ggp\/ggp=wb.heap.size+1)/\ggp<wp.heap.size):=⟨hat,hlt1⟩;clear hown hgrow hat hlt1;have A1p:Hid (AccQ (fun x=>col x=0/\x<w.heap.size) wc.heap.size 1 74 eRow wp (.slice (some ⟨ggp,0,none⟩) (k+1) capp) (k+1) ((Ca.ksOf P hd).take (k+1)) (xs ++ [.slice e1 (Ca.nt P[k].1 hd).length f1])):=lists_snoc A1b.out Op.out Gp.out Tp.out.1 T1b.out (Ca.take_map_succ _ P hltP) kB.out;have A2p:Hid (AccQ (fun x=>col x=0/\x<w.heap.size) wc.heap.size 1 74 eRow wp u10 k ((Ca.vsOf P hd).take k) ys):=((A2b.out.to carry_row (box_below wb _)).far carry_row Gp.out (fun x hq=>⟨fun hh=>by have:=(o9.out x hq).1;have:=kB.out x hh;omega,AP.out x hq⟩));have Bp:Hid (Below wc.heap.size wc wp):=(bwb.out.alloc hsB _).grown Gp.out (by simp;omega) (fun x hq=>(o9.out x hq).1);have sp:wb.heap.size+1<=wp.heap.size:=(by have h3:=Gp.out.size;simpa using h3);have x1p:wp.cell? ⟨wr.heap.size,1,none⟩=some (.slice e2 (Ca.nt P[k].2 hd).length f2):=(by rw [World.cell?_of_block (a:=⟨wr.heap.size,1,none⟩) ((Gp.out.block wr.heap.size (by simp;have:=WB.out.2;omega) (fun e=>by have:=(o9.out _ e.symm).2;omega)).trans ((box_below wb _).block wr.heap.size (by have:=WB.out.2;omega)))];exact X1.out);have sp2:wc.heap.size<=wp.heap.size:=by omega)
       | (at_builtin;refine wpList_append_lies _ rfl _ _ _ rfl wc.heap.size 74 i1 _ 1 24 Tryz.underlying42 hi10 hi11 hi12 hi13 rfl (by omega) _ k ys (by rfl) ((A2p.out.to carry_row (box_below _ _)).1) ⟨wp.heap.size,0,none⟩ 1 1 [.slice e2 (Ca.nt P[k].2 hd).length f2] (by rfl) (by rfl) (World.news_of_block (cs:=#[.slice e2 (Ca.nt P[k].2 hd).length f2]) (t:=74) (fr:=(0,0)) (heap_alloc_new wp _)) (fun x hx=>by simp at hx;subst hx;rfl) (by omega) (by unfold maxLen;omega) (by omega) (by simp;omega) (wp.heap.size+1) (by simp) ?_;intro ggr capr wq hown hgrow hat hlt1;have Or:Hid (wq.ownsRow wc.heap.size 74 1 (.slice (some ⟨ggr,0,none⟩) (k+1) capr) (k+1) (ys ++ [.slice e2 (Ca.nt P[k].2 hd).length f2])):=hown;have Gr:Hid ((wp.alloc (.cells #[.slice e2 (Ca.nt P[k].2 hd).length f2] 74)).grownBy wq u10.ownBlock):=hgrow;have Tr:Hid ((u10.ownBlock=some ggr\/ggr=wp.heap.size+1)/\ggr<wq.heap.size):=⟨hat,hlt1⟩;clear hown hgrow hat hlt1))
      go_roundw
      case rel =>
       refine ⟨k+1,xs ++ [.slice e1 (Ca.nt P[k].1 hd).length f1],ys ++ [.slice e2 (Ca.nt P[k].2 hd).length f2],by omega,by go_num,?_,?_,fun x h1 h2=>?_,?_⟩
       ·refine (A1p.out.to carry_row (box_below wp _)).far carry_row Gr.out (fun x hq=>⟨fun hh=>by have:=(o10.out x hq).1;have:=kB.out x hh;omega,fun e=>?_⟩)
        have e:ggp=x:=by injection e
        subst e
        rcases Tp.out.1 with q1 | q1
        ·exact AP.out ggp q1 hq
        ·have:=(o10.out ggp hq).2;have:=WB.out.2;omega
       ·exact lists_snoc A2p.out Or.out Gr.out Tr.out.1 ⟨T2b.out.1,T2b.out.2.1,T2b.out.2.2.1,T2b.out.2.2.2.carry (carry_num _) (fun x h1 h2=>⟨h2,by rw [Bp.out.block x (kB.out x h2),<-bwb.out.block x (kB.out x h2)]⟩) (by omega)⟩ (Ca.take_map_succ _ P hltP) kB.out
       ·have e1:ggp=x:=by injection h1
        have e2:ggr=x:=by injection h2
        subst e1
        rcases Tr.out.1 with q1 | q1
        ·rw [e2] at q1
         rcases Tp.out.1 with q3 | q3
         ·exact AP.out ggp q3 q1
         ·have:=(o10.out ggp q1).2;have:=WB.out.2;omega
        ·have:=Tp.out.2;omega
       ·exact (Bp.out.alloc sp2 _).grown Gr.out (by simp;omega) (fun x hq=>(o10.out x hq).1)
      case measure=>simp [intOf];omega
     ·have ek:k=G:=by omega
      subst ek
      obtain ⟨a1,c1,ea1,s1,-,-,n1⟩:=A1.out.slq carry_row (Q':=fun _=>True) (fun _ _=>trivial) (fun _ _=>trivial)
      obtain ⟨a2,c2,ea2,s2,-,-,n2⟩:=A2.out.slq carry_row (Q':=fun _=>True) (fun _ _=>trivial) (fun _ _=>trivial)
      subst ea1 ea2
      rw [List.take_of_length_le (by simp [Ca.ksOf,PL.out.1])] at s1
      rw [List.take_of_length_le (by simp [Ca.vsOf,PL.out.1])] at s2
      obtain ⟨y0,y1,y2,y3,y4,y5,y6⟩:=HD3.out.keep B0.out
      obtain ⟨-,-,st0,st1⟩:=SH.out.bits hly
      rw [EM.out.1] at st0
      rw [EM.out.2] at st1
      have QZ:=quantP_z m0 m1 k D (top m0) (top m1) (ly:Int) (hd:Int) (q0:Int) a1 a2 c1 c2 (Ca.ksOf P hd) (Ca.vsOf P hd) wr st0 st1 s1.tbl s2.tbl
       (Ca.row_in (fun t=>Ca.nt t.1 hd) P fun j hj=>((PL.out.2 j hj).2.2 hd hhd).2.2.1) (Ca.row_in (fun t=>Ca.nt t.2 hd) P fun j hj=>((PL.out.2 j hj).2.2 hd hhd).2.2.2)
       (right7 st0 st1 sG sG2 sD sD2 (by omega) (by omega) (by omega)) (shaped_of (fun t=>Ca.nt t.1 hd) P PL.out.1 fun j hj=>((PL.out.2 j hj).2.2 hd hhd).1) (shaped_of (fun t=>Ca.nt t.2 hd) P PL.out.1 fun j hj=>((PL.out.2 j hj).2.2 hd hhd).2.1)
      rw [show (Ca.ksOf P hd).length=k by simp [Ca.ksOf,PL.out.1],show (Ca.vsOf P hd).length=k by simp [Ca.vsOf,PL.out.1]] at QZ
      have QZ:=Ca.hid QZ
      have cT:wr.cell? ⟨C,6,none⟩=some (.pointer (some ⟨T,0,none⟩)):=by
       rw [B0.out.cell (p:=⟨C,6,none⟩) (by have:=HN.out.1.lt;have:=SZ.out.2.1;exact Nat.lt_of_lt_of_le HN.out.1.lt SZ.out.2.1),World.cell?_of_block (w:=w) (a:=⟨C,6,none⟩) (FAR.out C HN.out.1.lt (fun e=>c0 (by rw [<-CR.out.1,<-e];exact ZZ.out.1)) (fun e=>c0 (by rw [<-CR.out.2,<-e];exact ZZ.out.1)))]
       exact HN.out.1.cell (show 6<9 by decide)
      have hCr:C<wr.heap.size:=Nat.lt_of_lt_of_le HN.out.1.lt (Nat.le_trans SZ.out.2.1 B0.out.size)
      rcases Po.free_cases R with hno | ⟨kf,hk1,hk2,hk3⟩
      ·exact absurd hfree (by rw [Po.cnt_zero hno];omega)
      have KF:Hid (kf<n/\Ls.nth R kf=0/\∀ i,i<kf->¬ Ls.nth R i=0):=⟨by rw [<-HP.out.nums.2.1];exact hk1,hk2,hk3⟩
      clear s1 s2 hk1 hk2 hk3 st0 st1 EL
      go_wp2_with (first
       | (go_at_call 98;(with_reducible refine QZ.out.mono ?_);rintro e w5 ⟨p,rfl,hp,hpa,hpn,hb⟩;have B5:Hid (Below wr.heap.size wr w5):=hb;have PA:Hid (PageAt w5 p m0 m1 k D ly hd q0 (Pg.qk (top m0) D (Ca.ksOf P hd)) (Pg.qv (top m1) (Ca.vsOf P hd))/\PgN wr.heap.size w5 p):=⟨hpa,hpn⟩;have cT5:w5.cell? ⟨C,6,none⟩=some (.pointer (some ⟨T,0,none⟩)):=(by rw [hb.cell (p:=⟨C,6,none⟩) hCr];exact cT);clear hp hpa hpn hb;have FAR5:Hid (∀ x,x<w.heap.size->¬ x=rg r->¬ x=rs r->w5.heap[x]?=w.heap[x]?):=(fun x hx n1 n2=>(B5.out.block x (by have:=SZ.out.2.1;have:=B0.out.size;omega)).trans ((B0.out.block x (by have:=SZ.out.2.1;omega)).trans (FAR.out x hx n1 n2)));have HP5:Hid (PoolAt w5 g b n R M):=HP.out.stand (fun j hj=>FAR5.out j (by rcases hj with h | h | h <;> exact h.lt) (by rcases hj with h | h | h <;> exact h.ne RG.out.tys.1 (by decide)) (by rcases hj with h | h | h <;> exact h.ne RG.out.tys.2 (by decide)));have HT5:Hid (Tab w5 g T (ls.length*H) L (fun x=>(col x=c/\¬ x=ct)/\(Ty w5 x 70\/Ty w5 x 3))):=(HT.out.stand (FAR5.out T HT.out.lt (HT.out.ty.ne RG.out.tys.1 (by decide)) (HT.out.ty.ne RG.out.tys.2 (by decide))) (fun x _ ht=>FAR5.out x (by rcases ht with t | t <;> exact t.lt) (by rcases ht with t | t <;> exact t.ne RG.out.tys.1 (by decide)) (by rcases ht with t | t <;> exact t.ne RG.out.tys.2 (by decide)))).mono2 (fun x _ ht hq=>⟨hq,ht⟩))
       | (go_at_call 99;(with_reducible refine (add_ok g b n T (ls.length*H) r kf p (p:Int) R M L _ w5 HP5.out HT5.out rlt (by rw [LQ.out];omega) KF.out.1 KF.out.2.1 KF.out.2.2 PA.out.1.mark).mono ?_);rintro e w6 ⟨rfl,hp6,ht6,hb6⟩;have P6:=Ca.hid hp6;have T6:=Ca.hid ht6;have B6:=Ca.hid hb6;clear hp6 ht6 hb6))
      go_end0
      have hw5:w.heap.size<=wr.heap.size:=Nat.le_trans SZ.out.2.1 B0.out.size
      have fin:=HI.out.quant (w5:=w5) (w6:=w6) (n:=n) (s:=wr.heap.size) (f:=f) (l:=l) (pl:=pl) (p:=p) (kf:=kf) HP.out HFR.out c0 CG.out.1 CG.out.2 hly hhd hr rlt hq0 hqG KF.out.1 KF.out.2.1 HLL.out LL.out TV.out lG FAR5.out
       ⟨B5.out.os.trans (B0.out.os.trans OS.out.1),B5.out.tape.trans (B0.out.tape.trans OS.out.2.1),B5.out.output.trans (B0.out.output.trans OS.out.2.2)⟩ ⟨hw5,B5.out.size⟩ ((RG2.out.keep B0.out).keep B5.out)
       (by
         have:=pageZ_of (Z:=fun x=>wr.heap.size<=x) PA.out.1 PA.out.2 (fun _ h=>h)
         unfold Ca.pg
         rw [EP.out,EM.out.1,EM.out.2]
         exact this) B6.out T6.out
      exact ⟨rfl,kf,p,_,KF.out.1,KF.out.2.1,P6.out,fin.1,fin.2⟩
end Cc
end Go.Proofs.YtnchnlgnnlgjcaaGreat
namespace Go.Proofs.YtnchnlgnnlgjcaaGreat
open Go.RowKit
namespace Cc
theorem cell_new (w:World) (n:Nat) (cs:Array Value) (t:TypeId) (i:Nat):((w.drewN n).alloc (.cells cs t)).cell? ⟨w.heap.size,i,none⟩=cs[i]? :=
 cell_of_row _ _ i cs t (0,0) (heap_alloc_new (w.drewN n) _)
theorem box3 {w X:World} {B:Nat} {t:TypeId} {f:Nat->Value} (h:X.rowIs B t 3 f) (v0 v1 v2:Value) (hb:Below w.heap.size w X) :
 (((X.setCell ⟨B,0,none⟩ v0).setCell ⟨B,1,none⟩ v1).setCell ⟨B,2,none⟩ v2).cell? ⟨B,0,none⟩=some v0/\(((X.setCell ⟨B,0,none⟩ v0).setCell ⟨B,1,none⟩ v1).setCell ⟨B,2,none⟩ v2).cell? ⟨B,1,none⟩=some v1 /\
   (((X.setCell ⟨B,0,none⟩ v0).setCell ⟨B,1,none⟩ v1).setCell ⟨B,2,none⟩ v2).cell? ⟨B,2,none⟩=some v2/\(w.heap.size<=B->Below w.heap.size w (((X.setCell ⟨B,0,none⟩ v0).setCell ⟨B,1,none⟩ v1).setCell ⟨B,2,none⟩ v2)):=by
 have h3:=((h.set 0 v0).set 1 v1).set 2 v2
 refine ⟨by rw [h3.cell (show 0<3 by decide)];rfl,by rw [h3.cell (show 1<3 by decide)];rfl,by rw [h3.cell (show 2<3 by decide)];rfl,fun hB=>?_⟩
 exact ((hb.setCell (p:=⟨B,0,none⟩) hB _).setCell (p:=⟨B,1,none⟩) hB _).setCell (p:=⟨B,2,none⟩) hB _
set_option maxRecDepth 100000 in
set_option maxHeartbeats 1600000 in
theorem due_c (C g H D G W:Nat) (ls:List (Int × Int)) (t k:Nat) (q:Bool) (w:World) (h:Bd w C g H D G W ls t k) (hk:k<ls.length) (hl:ls.length<=4) (hG:1<=G) (hG2:G<=16) (hW:W<=64) (ht:t<=1000) (hq:decide (gn G W t<gn G W (t+1))=q) :
 Calls Tryz.prog 58 #[.pointer (some ⟨C,0,none⟩)] w fun e w'=>e=.returned (.bool q)/\Below w.heap.size w w':=by
 have HB:Hid (Bd w C g H D G W ls t k):=h
 obtain ⟨al,cl,T,pb,m,pc,ct,cc,-,-,-,c3,c4,c5,-,-,-,hlt,-⟩:=h.cells
 have G1:Hid (Tn.Tr.grp G W ((t:Int)+1)=(gn G W (t+1):Int)):=grp_gn (t:=t+1) (by omega)
 have G2:Hid (Tn.Tr.grp G W (t:Int)=(gn G W t:Int)):=grp_gn (t:=t) (by omega)
 obtain ⟨n1,e1⟩:∃ n,gn G W (t+1)=n:=⟨_,rfl⟩
 obtain ⟨n2,e2⟩:∃ n,gn G W t=n:=⟨_,rfl⟩
 rw [e1] at G1
 rw [e2] at G2
 rw [e1,e2] at hq
 have DQ:Hid (decide (n2<n1)=q):=hq
 clear h e1 e2 hq
 go_enter Tryz.func58,Tryz.ntmps58
 have ROW:Hid (∀ nq,((w.alloc (.cells #[.int .i64 0,.int .i64 0,.slice none 0 0] 24)).drewN (1+nq)).rowIs w.heap.size 24 3 (fun i=>if i=0 then .int .i64 0 else if i=1 then .int .i64 0 else .slice none 0 0)):=fun nq=>(World.rowIs_alloc w _ _ _ (fun i hi=>by match i,hi with | 0,_=>rfl | 1,_=>rfl | 2,_=>rfl):(w.alloc (.cells #[.int .i64 0,.int .i64 0,.slice none 0 0] 24)).rowIs w.heap.size 24 3 (fun i=>if i=0 then .int .i64 0 else if i=1 then .int .i64 0 else .slice none 0 0))
 have KS:Hid (∀ w',Below w.heap.size w w'->(w'.cell? ⟨C,3,none⟩=some (.int .i64 (G:Int))/\w'.cell? ⟨C,4,none⟩=some (.int .i64 (W:Int))/\w'.cell? ⟨C,5,none⟩=some (.slice al ls.length cl))/\Hid (Below w.heap.size w w')):=fun w' hb =>
  ⟨⟨by rw [hb.cell (p:=⟨C,3,none⟩) hlt];exact c3,by rw [hb.cell (p:=⟨C,4,none⟩) hlt];exact c4,by rw [hb.cell (p:=⟨C,5,none⟩) hlt];exact c5⟩,hb⟩
 clear c3 c4 c5
 go_upto_region 1 with fail
 go_cut [3,4] from 5 to 11 (fun b tt wx=>∃ B:Nat,b=.pointer (some ⟨B,0,none⟩)/\tt=.int .i64 (t:Int)/\wx.cell? ⟨B,0,none⟩=some (.int .i64 (G:Int))/\wx.cell? ⟨B,1,none⟩=some (.int .i64 (W:Int))/\wx.cell? ⟨B,2,none⟩=some (.slice al ls.length cl)/\Hid (Below w.heap.size w wx))
 case first =>
  go_region_held3 (fun w'=>(w'.cell? ⟨C,3,none⟩=some (.int .i64 (G:Int))/\w'.cell? ⟨C,4,none⟩=some (.int .i64 (W:Int))/\w'.cell? ⟨C,5,none⟩=some (.slice al ls.length cl))/\Hid (Below w.heap.size w w'))
   (first
     | assumption
     | exact KS.out _ ((Below.refl _ _).drew)
     | exact KS.out _ B1.out
     | exact KS.out _ (((Below.refl w.heap.size w).drew).alloc (Nat.le_refl _) _)
     | exact KS.out _ (B1.out.alloc B1.out.size _)
     | exact KS.out _ (Rt.below_drewN ((Below.refl w.heap.size w).alloc (Nat.le_refl _) _) _)
     | exact KS.out _ ((((Rt.below_drewN ((Below.refl w.heap.size w).alloc (Nat.le_refl _) _) _).setCell (Nat.le_refl _) _).setCell (Nat.le_refl _) _).setCell (Nat.le_refl _) _))
   (first
     | (go_at_call 26;(with_reducible refine (tokens_c C g H D G W ls t k w.drew (HB.out.keep (Below.refl w.heap.size w).drew) hk hl).mono ?_);rintro e w1 ⟨rfl,nq,hw1⟩;have B1:Hid (Below w.heap.size w w1):=(by rw [hw1];exact Rt.below_drewN ((Below.refl _ _).drew) _);clear hw1)
     | (go_at_call 26;(with_reducible refine (tokens_c C g H D G W ls t k _ (HB.out.keep ?_) hk hl).mono ?_);(first | exact ((Below.refl w.heap.size w).drew).alloc (Nat.le_refl _) _ | exact ((Below.refl w.heap.size w).alloc (Nat.le_refl _) _).drew);rintro e w' ⟨rfl,nq,rfl⟩))
  all_goals (go_wp2_with fail)
  all_goals go_meet
  case rel=>first | exact ⟨w1.heap.size,rfl,rfl,by simp,by simp,by simp,B1.out.alloc B1.out.size _⟩ | exact ⟨w.heap.size,rfl,rfl,by simp,by simp,by simp,Rt.below_drewN ((Below.refl w.heap.size w).alloc (Nat.le_refl _) _) _⟩ | (have hq:=box3 (w:=w) (X:=(w.alloc (.cells #[.int .i64 0,.int .i64 0,.slice none 0 0] 24)).drewN (1+nq)) (B:=w.heap.size) (ROW.out nq) (.int .i64 (G:Int)) (.int .i64 (W:Int)) (.slice al ls.length cl) (Rt.below_drewN ((Below.refl w.heap.size w).alloc (Nat.le_refl _) _) _);exact ⟨w.heap.size,rfl,rfl,hq.1,hq.2.1,hq.2.2.1,hq.2.2.2 (Nat.le_refl _)⟩)
  all_goals first | exact ⟨w1.heap.size,rfl,rfl,by simp,by simp,by simp,B1.out.alloc B1.out.size _⟩ | exact ⟨w.heap.size,rfl,rfl,by simp,by simp,by simp,Rt.below_drewN ((Below.refl w.heap.size w).alloc (Nat.le_refl _) _) _⟩ | (have hq:=box3 (w:=w) (X:=(w.alloc (.cells #[.int .i64 0,.int .i64 0,.slice none 0 0] 24)).drewN (1+nq)) (B:=w.heap.size) (ROW.out nq) (.int .i64 (G:Int)) (.int .i64 (W:Int)) (.slice al ls.length cl) (Rt.below_drewN ((Below.refl w.heap.size w).alloc (Nat.le_refl _) _) _);exact ⟨w.heap.size,rfl,rfl,hq.1,hq.2.1,hq.2.2.1,hq.2.2.2 (Nat.le_refl _)⟩) | trace_state
 case rest =>
  obtain ⟨B,rfl,rfl,b0,b1,b2,BL⟩:=hcut
  have k0:=cell_regrown b0
  have k1:=cell_regrown b1
  have k2:=cell_regrown b2
  have cG1:=Tn.reg_of (u:=wc) fun v _=>Tn.groups_any (G:Int) (W:Int) ((t:Int)+1) (n1:Int) al ls.length cl (by omega) (by omega) (by omega) (by omega) G1.out v
  have cG2:=Tn.reg_of (u:=wc) fun v _=>Tn.groups_any (G:Int) (W:Int) (t:Int) (n2:Int) al ls.length cl (by omega) (by omega) (by omega) (by omega) G2.out v
  have hw1:IntKind.i64.wrap ((t:Int)+1)=(t:Int)+1:=by rw [IntKind.wrap_i64];omega
  go_wp2_with fail
  refine wp_region_quiet_below (by kernel_rfl) (by kernel_rfl) ?_
  repeat (quiet_step (first | (with_reducible exact cG1 _ _) | (with_reducible exact cG2 _ _)))
  refine wpQuiet_nil ?_
  intro _ hw'
  obtain ⟨⟨dq,osq⟩,hw''⟩:=hw'
  subst hw''
  go_wp2
  go_ret
  exact ⟨ret_bool DQ.out,BL.out.trans ((below_regrown wc dq osq).mono BL.out.size)⟩
end Cc
end Go.Proofs.YtnchnlgnnlgjcaaGreat
