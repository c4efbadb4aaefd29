import Derived.Test.YtnchnlgnnlgjcaaGreatCa04
import Derived.Test.YtnchnlgnnlgjcaaGreatCa03
set_option linter.unusedVariables false
namespace Go.Proofs.YtnchnlgnnlgjcaaGreat
open Go.RowKit
attribute [local go_sem ↓] Go.wp_at_zero Go.wp_at_succ
theorem within_any (n l m:Int) (q:Bool) (hq:(decide (l<=n) && decide (n<=m))=q) (w:World) :
 Calls Tryz.prog 138 #[.int .i64 n,.int .i64 l,.int .i64 m] w fun e w'=>e=.returned (.bool q)/\w'=w:=by
 obtain ⟨p,ep⟩:∃ p,decide (l<=n)=p:=⟨_,rfl⟩
 rw [ep] at hq
 have HQ:Hid ((p && decide (n<=m))=q):=hq
 clear hq
 cases p
 ·go_enter Tryz.func138,Tryz.ntmps138
  go_wp2
  go_ret
  exact ⟨ret_bool (by rw [<-HQ.out];simp),rfl⟩
 ·go_enter Tryz.func138,Tryz.ntmps138
  go_wp2
  go_ret
  exact ⟨ret_bool (by rw [<-HQ.out];simp),rfl⟩
set_option maxHeartbeats 1600000 in
theorem rightP_any (h0 h1 h2 h3 h4 h5 h6:Int) (q:Bool) (hq:Pg.rightH [h0,h1,h2,h3,h4,h5,h6]=q) (w:World) :
 Calls Tryz.prog 121 #[.agg #[.int .i64 h0,.int .i64 h1,.int .i64 h2,.int .i64 h3,.int .i64 h4,.int .i64 h5,.int .i64 h6]] w fun e w'=>e=.returned (.bool q)/\Below w.heap.size w w':=by
 rw [Pg.rightH_eq] at hq
 obtain ⟨p0,e0⟩:∃ p,Gp.okB h0=p:=⟨_,rfl⟩
 obtain ⟨p1,e1⟩:∃ p,Gp.okB h1=p:=⟨_,rfl⟩
 obtain ⟨p2,e2⟩:∃ p,(decide (1<=h2) && decide (h2<=16))=p:=⟨_,rfl⟩
 obtain ⟨p3,e3⟩:∃ p,(decide (1<=h3) && decide (h3<=16))=p:=⟨_,rfl⟩
 obtain ⟨p4,e4⟩:∃ p,(decide (0<=h4) && decide (h4<=3))=p:=⟨_,rfl⟩
 obtain ⟨p5,e5⟩:∃ p,(decide (0<=h5) && decide (h5<=3))=p:=⟨_,rfl⟩
 obtain ⟨p6,e6⟩:∃ p,(decide (0<=h6) && decide (h6<=1023))=p:=⟨_,rfl⟩
 have HQ:Hid ((p0 && p1 && p2 && p3 && p4 && p5 && p6)=q):=by
  show _=_
  rw [<-hq,<-e0,<-e1,<-e2,<-e3,<-e4,<-e5,<-e6]
  simp only [Bool.and_assoc]
 have E0:Hid (Gp.okB h0=p0):=e0
 have E1:Hid (Gp.okB h1=p1):=e1
 have E2:Hid ((decide (1<=h2) && decide (h2<=16))=p2):=e2
 have E3:Hid ((decide (1<=h3) && decide (h3<=16))=p3):=e3
 have E4:Hid ((decide (0<=h4) && decide (h4<=3))=p4):=e4
 have E5:Hid ((decide (0<=h5) && decide (h5<=3))=p5):=e5
 have E6:Hid ((decide (0<=h6) && decide (h6<=1023))=p6):=e6
 clear e0 e1 e2 e3 e4 e5 e6 hq
 cases p0
 ·go_enter Tryz.func121,Tryz.ntmps121
  go_wp2_with (first
   | (go_at_call 81;(first | (with_reducible refine (bitsB_any h0 _ E0.out _).mono ?_) | (with_reducible refine (bitsB_any h1 _ E1.out _).mono ?_));rintro r w' ⟨rfl,hw⟩;cases hw.symm;clear hw)
   | (go_at_call 138;(first | (with_reducible refine (within_any h2 1 16 _ E2.out _).mono ?_) | (with_reducible refine (within_any h3 1 16 _ E3.out _).mono ?_) | (with_reducible refine (within_any h4 0 3 _ E4.out _).mono ?_) | (with_reducible refine (within_any h5 0 3 _ E5.out _).mono ?_) | (with_reducible refine (within_any h6 0 1023 _ E6.out _).mono ?_));rintro r w' ⟨rfl,hw⟩;cases hw.symm;clear hw))
  go_ret
  exact ⟨ret_bool (by rw [<-HQ.out];simp),box_below _ _⟩
 cases p1
 ·go_enter Tryz.func121,Tryz.ntmps121
  go_wp2_with (first
   | (go_at_call 81;(first | (with_reducible refine (bitsB_any h0 _ E0.out _).mono ?_) | (with_reducible refine (bitsB_any h1 _ E1.out _).mono ?_));rintro r w' ⟨rfl,hw⟩;cases hw.symm;clear hw)
   | (go_at_call 138;(first | (with_reducible refine (within_any h2 1 16 _ E2.out _).mono ?_) | (with_reducible refine (within_any h3 1 16 _ E3.out _).mono ?_) | (with_reducible refine (within_any h4 0 3 _ E4.out _).mono ?_) | (with_reducible refine (within_any h5 0 3 _ E5.out _).mono ?_) | (with_reducible refine (within_any h6 0 1023 _ E6.out _).mono ?_));rintro r w' ⟨rfl,hw⟩;cases hw.symm;clear hw))
  go_ret
  exact ⟨ret_bool (by rw [<-HQ.out];simp),box_below _ _⟩
 cases p2
 ·go_enter Tryz.func121,Tryz.ntmps121
  go_wp2_with (first
   | (go_at_call 81;(first | (with_reducible refine (bitsB_any h0 _ E0.out _).mono ?_) | (with_reducible refine (bitsB_any h1 _ E1.out _).mono ?_));rintro r w' ⟨rfl,hw⟩;cases hw.symm;clear hw)
   | (go_at_call 138;(first | (with_reducible refine (within_any h2 1 16 _ E2.out _).mono ?_) | (with_reducible refine (within_any h3 1 16 _ E3.out _).mono ?_) | (with_reducible refine (within_any h4 0 3 _ E4.out _).mono ?_) | (with_reducible refine (within_any h5 0 3 _ E5.out _).mono ?_) | (with_reducible refine (within_any h6 0 1023 _ E6.out _).mono ?_));rintro r w' ⟨rfl,hw⟩;cases hw.symm;clear hw))
  go_ret
  exact ⟨ret_bool (by rw [<-HQ.out];simp),box_below _ _⟩
 cases p3
 ·go_enter Tryz.func121,Tryz.ntmps121
  go_wp2_with (first
   | (go_at_call 81;(first | (with_reducible refine (bitsB_any h0 _ E0.out _).mono ?_) | (with_reducible refine (bitsB_any h1 _ E1.out _).mono ?_));rintro r w' ⟨rfl,hw⟩;cases hw.symm;clear hw)
   | (go_at_call 138;(first | (with_reducible refine (within_any h2 1 16 _ E2.out _).mono ?_) | (with_reducible refine (within_any h3 1 16 _ E3.out _).mono ?_) | (with_reducible refine (within_any h4 0 3 _ E4.out _).mono ?_) | (with_reducible refine (within_any h5 0 3 _ E5.out _).mono ?_) | (with_reducible refine (within_any h6 0 1023 _ E6.out _).mono ?_));rintro r w' ⟨rfl,hw⟩;cases hw.symm;clear hw))
  go_ret
  exact ⟨ret_bool (by rw [<-HQ.out];simp),box_below _ _⟩
 cases p4
 ·go_enter Tryz.func121,Tryz.ntmps121
  go_wp2_with (first
   | (go_at_call 81;(first | (with_reducible refine (bitsB_any h0 _ E0.out _).mono ?_) | (with_reducible refine (bitsB_any h1 _ E1.out _).mono ?_));rintro r w' ⟨rfl,hw⟩;cases hw.symm;clear hw)
   | (go_at_call 138;(first | (with_reducible refine (within_any h2 1 16 _ E2.out _).mono ?_) | (with_reducible refine (within_any h3 1 16 _ E3.out _).mono ?_) | (with_reducible refine (within_any h4 0 3 _ E4.out _).mono ?_) | (with_reducible refine (within_any h5 0 3 _ E5.out _).mono ?_) | (with_reducible refine (within_any h6 0 1023 _ E6.out _).mono ?_));rintro r w' ⟨rfl,hw⟩;cases hw.symm;clear hw))
  go_ret
  exact ⟨ret_bool (by rw [<-HQ.out];simp),box_below _ _⟩
 cases p5
 ·go_enter Tryz.func121,Tryz.ntmps121
  go_wp2_with (first
   | (go_at_call 81;(first | (with_reducible refine (bitsB_any h0 _ E0.out _).mono ?_) | (with_reducible refine (bitsB_any h1 _ E1.out _).mono ?_));rintro r w' ⟨rfl,hw⟩;cases hw.symm;clear hw)
   | (go_at_call 138;(first | (with_reducible refine (within_any h2 1 16 _ E2.out _).mono ?_) | (with_reducible refine (within_any h3 1 16 _ E3.out _).mono ?_) | (with_reducible refine (within_any h4 0 3 _ E4.out _).mono ?_) | (with_reducible refine (within_any h5 0 3 _ E5.out _).mono ?_) | (with_reducible refine (within_any h6 0 1023 _ E6.out _).mono ?_));rintro r w' ⟨rfl,hw⟩;cases hw.symm;clear hw))
  go_ret
  exact ⟨ret_bool (by rw [<-HQ.out];simp),box_below _ _⟩
 cases p6
 ·go_enter Tryz.func121,Tryz.ntmps121
  go_wp2_with (first
   | (go_at_call 81;(first | (with_reducible refine (bitsB_any h0 _ E0.out _).mono ?_) | (with_reducible refine (bitsB_any h1 _ E1.out _).mono ?_));rintro r w' ⟨rfl,hw⟩;cases hw.symm;clear hw)
   | (go_at_call 138;(first | (with_reducible refine (within_any h2 1 16 _ E2.out _).mono ?_) | (with_reducible refine (within_any h3 1 16 _ E3.out _).mono ?_) | (with_reducible refine (within_any h4 0 3 _ E4.out _).mono ?_) | (with_reducible refine (within_any h5 0 3 _ E5.out _).mono ?_) | (with_reducible refine (within_any h6 0 1023 _ E6.out _).mono ?_));rintro r w' ⟨rfl,hw⟩;cases hw.symm;clear hw))
  go_ret
  exact ⟨ret_bool (by rw [<-HQ.out];simp),box_below _ _⟩
 go_enter Tryz.func121,Tryz.ntmps121
 go_wp2_with (first
  | (go_at_call 81;(first | (with_reducible refine (bitsB_any h0 _ E0.out _).mono ?_) | (with_reducible refine (bitsB_any h1 _ E1.out _).mono ?_));rintro r w' ⟨rfl,hw⟩;cases hw.symm;clear hw)
  | (go_at_call 138;(first | (with_reducible refine (within_any h2 1 16 _ E2.out _).mono ?_) | (with_reducible refine (within_any h3 1 16 _ E3.out _).mono ?_) | (with_reducible refine (within_any h4 0 3 _ E4.out _).mono ?_) | (with_reducible refine (within_any h5 0 3 _ E5.out _).mono ?_) | (with_reducible refine (within_any h6 0 1023 _ E6.out _).mono ?_));rintro r w' ⟨rfl,hw⟩;cases hw.symm;clear hw))
 go_ret
 exact ⟨ret_bool (by rw [<-HQ.out];simp),box_below _ _⟩
theorem groupsOf_any (a:Option Addr) (c:Nat) (l:List (Int × Int × List Int)) (n each:Int) (q:Bool) (w:World) (ha:Gps w a l) (hl:l.length<=maxLen) (hq:Pg.shapeB l n each=q) :
 Calls Tryz.prog 139 #[.slice a l.length c,.int .i64 n,.int .i64 each] w fun e w'=>e=.returned (.bool q)/\Below w.heap.size w w':=by
 unfold maxLen at hl
 have HA:Hid (Gps w a l):=ha
 have HQ:Hid (Pg.shapeB l n each=q):=hq
 clear ha hq
 go_enter Tryz.func139,Tryz.ntmps139
 go_wp2
 go_loopw [11] (fun i wr=>∃ k:Nat,k<=l.length/\i=.int .i64 k/\Below w.heap.size w wr/\∀ j,j<k->((Pg.gc (Pg.nth l j)).length:Int)=each) (fun i _=>l.length - (intOf i).toNat)
 case atStart=>exact ⟨0,Nat.zero_le _,rfl,Below.refl _ _,fun j hj=>by omega⟩
 case round =>
  obtain ⟨k,hk,rfl,hbel,hall⟩:=hrel
  have HL:Hid (∀ j,j<k->((Pg.gc (Pg.nth l j)).length:Int)=each):=hall
  have HB:Hid (Below w.heap.size w wr):=hbel
  have hsz:=hbel.size
  clear hall hbel
  by_cases hlt:k<l.length
  ·obtain ⟨b,o,rfl,hall⟩:=HA.out.get hlt
   obtain ⟨a',c',hg⟩:=hall k hlt
   obtain ⟨d0,d1,d2,d3⟩:=hg.keep HB.out
   have hbl:=hg.lt
   clear hall d3 hg
   by_cases hz:((Pg.gc (Pg.nth l k)).length:Int)=each
   ·have HZ:Hid (((Pg.gc (Pg.nth l k)).length:Int)=each):=hz
    have g:(((Pg.gc (Pg.nth l k)).length:Int) != each)=false:=by rw [hz];simp
    clear hz
    go_wp2
    go_roundw
    case rel =>
     refine ⟨k+1,by omega,by go_num,HB.out.alloc (by omega) _,fun j hj=>?_⟩
     by_cases e:j=k
     ·subst e;exact HZ.out
     ·exact HL.out j (by omega)
    case measure=>simp [intOf];omega
   ·have g:(((Pg.gc (Pg.nth l k)).length:Int) != each)=true:=by simp [hz]
    go_wp2
    go_ret
    refine ⟨ret_bool ?_,HB.out.alloc (by omega) _⟩
    rw [<-HQ.out]
    unfold Pg.shapeB
    exact (decide_eq_false (fun e=>hz (e.1 k hlt))).symm
  ·go_wp2
   go_ret
   refine ⟨ret_bool ?_,HB.out⟩
   rw [<-HQ.out]
   unfold Pg.shapeB
   rw [Bool.eq_iff_iff]
   simp only [beq_iff_eq,decide_eq_true_eq]
   exact ⟨fun e=>⟨fun i hi=>HL.out i (by omega),e⟩,fun e=>e.2⟩
theorem listsOf_any (a:Option Addr) (c:Nat) (ls:List (List Int)) (n d:Int) (q:Bool) (w:World) (ha:Tbl w a ls) (hl:ls.length<=maxLen) (hq:Pg.shapedB ls n d=q) :
 Calls Tryz.prog 122 #[.slice a ls.length c,.int .i64 n,.int .i64 d] w fun e w'=>e=.returned (.bool q)/\w'=w:=by
 unfold maxLen at hl
 have HA:Hid (Tbl w a ls):=ha
 have HQ:Hid (Pg.shapedB ls n d=q):=hq
 clear ha hq
 go_enter Tryz.func122,Tryz.ntmps122
 go_wp2
 go_loop [11] (fun i=>∃ k:Nat,k<=ls.length/\i=.int .i64 k/\∀ j,j<k->((Tb.row ls j).length:Int)=d) (fun i=>ls.length - (intOf i).toNat)
 case atStart=>exact ⟨0,Nat.zero_le _,rfl,fun j hj=>by omega⟩
 case round =>
  obtain ⟨k,hk,rfl,hall⟩:=hrel
  have HL:Hid (∀ j,j<k->((Tb.row ls j).length:Int)=d):=hall
  clear hall
  by_cases hlt:k<ls.length
  ·obtain ⟨b,o,rfl,hall⟩:=HA.out.get hlt
   obtain ⟨A,C,d0,_,_⟩:=hall k hlt
   clear hall
   by_cases hz:((Tb.row ls k).length:Int)=d
   ·have HZ:Hid (((Tb.row ls k).length:Int)=d):=hz
    have g:(((Tb.row ls k).length:Int) != d)=false:=by rw [hz];simp
    clear hz
    go_wp2
    go_round
    case rel =>
     refine ⟨k+1,by omega,by go_num,fun j hj=>?_⟩
     by_cases e:j=k
     ·subst e;exact HZ.out
     ·exact HL.out j (by omega)
    case measure=>simp [intOf];omega
   ·have g:(((Tb.row ls k).length:Int) != d)=true:=by simp [hz]
    go_wp2
    go_ret
    refine ⟨ret_bool ?_,rfl⟩
    rw [<-HQ.out]
    unfold Pg.shapedB
    exact (decide_eq_false (fun e=>hz (e.1 k hlt))).symm
  ·go_wp2
   go_ret
   refine ⟨ret_bool ?_,rfl⟩
   rw [<-HQ.out]
   unfold Pg.shapedB
   rw [Bool.eq_iff_iff]
   simp only [beq_iff_eq,decide_eq_true_eq]
   exact ⟨fun e=>⟨fun i hi=>HL.out i (by omega),e⟩,fun e=>e.2⟩
theorem allRight_any (a:Option Addr) (c b s n:Nat) (l:List (Int × Int × List Int)) (e:Int) (w:World) (ha:Gps w a l) (hl:l.length<=10000) (hst:Gp.St b s) (hn:∀ i,i<l.length->(Pg.gc (Pg.nth l i)).length=n) (h1:1<=n) (h2:n<=256) (hi:InG l) (he:Pg.rightsN s l l.length=e) :
 Calls Tryz.prog 140 #[.slice a l.length c,.int .i64 b] w fun r w'=>r=.returned (.int .i64 e)/\Below w.heap.size w w':=by
 have HA:Hid (Gps w a l):=ha
 have HI:Hid (InG l):=hi
 have HN:Hid (∀ i,i<l.length->(Pg.gc (Pg.nth l i)).length=n):=hn
 have ST:Hid (Gp.St b s):=hst
 have HE:Hid (Pg.rightsN s l l.length=e):=he
 clear ha hi hn hst he
 go_enter Tryz.func140,Tryz.ntmps140
 go_wp2
 go_loopw [10] (fun i wr=>∃ k:Nat,k<=l.length/\i=.int .i64 k/\Below w.heap.size w wr/\Pg.rightsN (s:Int) l k=0) (fun i _=>l.length - (intOf i).toNat)
 case atStart=>exact ⟨0,Nat.zero_le _,rfl,Below.refl _ _,rfl⟩
 case round =>
  obtain ⟨k,hk,rfl,hbel,hall⟩:=hrel
  have HL:Hid (Pg.rightsN (s:Int) l k=0):=hall
  have HB:Hid (Below w.heap.size w wr):=hbel
  have hsz:=hbel.size
  clear hall hbel
  by_cases hlt:k<l.length
  ·obtain ⟨b1,o1,rfl,hall⟩:=HA.out.get hlt
   obtain ⟨a',c',hg⟩:=hall k hlt
   obtain ⟨d0,d1,d2,d3⟩:=hg.keep HB.out
   have D3:Hid (Lst .i64 wr a' (Pg.gc (Pg.nth l k))):=d3
   have hbl:=hg.lt
   obtain ⟨_,_,g2,g3,_⟩:=HI.out k hlt
   obtain ⟨r,er⟩:∃ r,Gp.right (s:Int) (Pg.gs (Pg.nth l k)) (Pg.gc (Pg.nth l k))=r:=⟨_,rfl⟩
   have ER:Hid (Gp.right (s:Int) (Pg.gs (Pg.nth l k)) (Pg.gc (Pg.nth l k))=r):=er
   clear hall d3 hg er
   obtain ⟨pz,epz⟩:∃ p,(r != 0)=p:=⟨_,rfl⟩
   cases pz
   all_goals
    go_wp2_with (go_at_call 153;refine (right_any _ _ _ _ b s (Pg.gc (Pg.nth l k)) r _ (D3.out.keep (box_below _ _)) ST.out (by rw [HN.out k hlt];omega) (by rw [HN.out k hlt];omega) g2 g3 ER.out).mono ?_;rintro e v1 ⟨rfl,hb⟩;have hbc:Hid (Below w.heap.size w v1):=below_then (below_then HB.out (box_below _ _)) hb;clear hb)
   ·have r0:r=0:=by simpa using epz
    go_roundw
    case rel =>
     refine ⟨k+1,by omega,by go_num,hbc.out,?_⟩
     rw [Pg.rightsN_ok HL.out,ER.out,r0]
    case measure=>simp [intOf];omega
   ·have r0:¬ r=0:=by simpa using epz
    go_ret
    refine ⟨ret_num ?_,hbc.out⟩
    have hk1:Pg.rightsN (s:Int) l (k+1)=r:=by rw [Pg.rightsN_ok HL.out,ER.out]
    rw [<-HE.out,Pg.rightsN_stop (k:=k+1) (by rw [hk1];exact r0) (by omega),hk1]
  ·have e:k=l.length:=by omega
   subst e
   go_wp2
   go_ret
   exact ⟨ret_num (by rw [<-HE.out,HL.out]),HB.out⟩
end Go.Proofs.YtnchnlgnnlgjcaaGreat
namespace Go.Proofs.YtnchnlgnnlgjcaaGreat
open Go.RowKit
attribute [local go_sem ↓] Go.wp_at_zero Go.wp_at_succ
theorem Tryz.infoPk:(Tryz.prog.info? 180).map (fun i=>(i.zero,i.size,i.bytes))=some (some (.agg #[.int .i32 0,.int .u32 0,.slice none 0 0,.slice none 0 0]),4,56):=by kernel_rfl
theorem Tryz.infoGp:(Tryz.prog.info? 177).map (fun i=>(i.zero,i.size,i.bytes))=some (some (.agg #[.int .i32 0,.int .u32 0,.slice none 0 0]),3,32):=by kernel_rfl
theorem packOne_any (z sc:Int) (a:Option Addr) (cp b:Nat) (l:List Int) (N:Nat) (w:World) (ha:Lst .i64 w a l) (hb:Pk.Ok b) (hl:l.length<=256) (hc:Pk.Cds b l) (hN:Pk.size b l.length=N) :
 Calls Tryz.prog 154 #[.agg #[.int .i32 z,.int .u32 sc,.slice a l.length cp],.int .i64 b] w fun e w'=>∃ g,e=.returned (.agg #[.int .i32 z,.int .u32 sc,.slice none 0 0,.slice (some ⟨g,0,none⟩) N N])/\w.heap.size<=g/\Lst .u64 w' (some ⟨g,0,none⟩) (Pk.pack b l)/\Below w.heap.size w w':=by
 have HA:Hid (Lst .i64 w a l):=ha
 have HB:Hid (Pk.Ok b):=hb
 have HC:Hid (Pk.Cds b l):=hc
 have HN:Hid (Pk.size b l.length=N):=hN
 clear ha hb hc hN
 go_enter Tryz.func154,Tryz.ntmps154
 go_wp2_with fail
 refine (pack_ok _ _ b l HB.out hl _ (HA.out.keep (two_boxes _ _ _)) HC.out).mono ?_
 rintro e v ⟨g,rfl,hg,hL,hbv⟩
 rw [HN.out]
 have q:=boxes_cells hbv
 have c0:=q.1 0 _ rfl
 have c1:=q.1 1 _ rfl
 have y0:=q.2 0 _ rfl
 have y1:=q.2 1 _ rfl
 have y2:=q.2 2 _ rfl
 have y3:=q.2 3 _ rfl
 have r1:v.rowIs (w.heap.size+1) 180 4 (fun i=>if i=0 then .int .i32 0 else if i=1 then .int .u32 0 else .slice none 0 0):=by
  have:=World.rowIs_alloc (w.alloc (.cells #[.int .i32 z,.int .u32 sc,.slice a l.length cp] 177)) #[.int .i32 0,.int .u32 0,.slice none 0 0,.slice none 0 0] 180 (fun i=>if i=0 then .int .i32 0 else if i=1 then .int .u32 0 else .slice none 0 0) (fun i hi=>by match i,hi with | 0,_=>rfl | 1,_=>rfl | 2,_=>rfl | 3,_=>rfl)
  rw [show (w.alloc (.cells #[.int .i32 z,.int .u32 sc,.slice a l.length cp] 177)).heap.size=w.heap.size+1 by simp] at this
  exact this.of_block (hbv.block _ (by simp))
 have f0:=r1.frozen 0
 have f1:=r1.frozen 1
 have f2:=r1.frozen 2
 have f3:=r1.frozen 3
 have hg2:w.heap.size+2<=g:=by simpa using hg
 have HL:Hid (Lst .u64 v (some ⟨g,0,none⟩) (Pk.pack b l)):=hL
 have BV:Hid (Below w.heap.size w v):=below_then (two_boxes _ _ _) hbv
 clear q hg hL hbv r1
 go_wp2
 refine bodyPost_ret (v:=.agg #[.int .i32 z,.int .u32 sc,.slice none 0 0,.slice (some ⟨g,0,none⟩) N N]) (by simp [results,Tryz.results154,go_sem,y0,y1,y2,y3]) rfl ⟨g,rfl,by omega,?_,?_⟩
 ·exact (((HL.out.set_otherP (fun x e=>by cases e;show ¬ g=w.heap.size+1;omega) _).set_otherP (fun x e=>by cases e;show ¬ g=w.heap.size+1;omega) _).set_otherP (fun x e=>by cases e;show ¬ g=w.heap.size+1;omega) _).set_otherP (fun x e=>by cases e;show ¬ g=w.heap.size+1;omega) _
 ·exact (((BV.out.setCell (by simp) _).setCell (by simp) _).setCell (by simp) _).setCell (by simp) _
end Go.Proofs.YtnchnlgnnlgjcaaGreat
namespace Go.Proofs.YtnchnlgnnlgjcaaGreat
open Go.RowKit
attribute [local go_sem ↓] Go.wp_at_zero Go.wp_at_succ
theorem box_cells {w v:World} {X:Array Value} {s:TypeId} (hb:Below (w.alloc (.cells X s)).heap.size (w.alloc (.cells X s)) v):∀ i x,X[i]?=some x->v.cell? ⟨w.heap.size,i,none⟩=some x:=fun i x hx=>by
 rw [hb.cell (p:=⟨w.heap.size,i,none⟩) (by simp),cell_of_row _ _ _ _ _ _ (heap_alloc_new w _)]
 exact hx
def HdAt (u:World) (g:Nat) (h0 h1 h2 h3 h4 h5 h6:Int):Prop:=u.cell? ⟨g,0,none⟩=some (.int .i64 h0)/\u.cell? ⟨g,1,none⟩=some (.int .i64 h1)/\u.cell? ⟨g,2,none⟩=some (.int .i64 h2)/\u.cell? ⟨g,3,none⟩=some (.int .i64 h3)/\u.cell? ⟨g,4,none⟩=some (.int .i64 h4)/\u.cell? ⟨g,5,none⟩=some (.int .i64 h5)/\u.cell? ⟨g,6,none⟩=some (.int .i64 h6)
theorem hd_box {w v:World} {h0 h1 h2 h3 h4 h5 h6:Int} {s:TypeId} (hb:Below (w.alloc (.cells #[.int .i64 h0,.int .i64 h1,.int .i64 h2,.int .i64 h3,.int .i64 h4,.int .i64 h5,.int .i64 h6] s)).heap.size (w.alloc (.cells #[.int .i64 h0,.int .i64 h1,.int .i64 h2,.int .i64 h3,.int .i64 h4,.int .i64 h5,.int .i64 h6] s)) v):HdAt v w.heap.size h0 h1 h2 h3 h4 h5 h6 :=
 ⟨box_cells hb 0 _ rfl,box_cells hb 1 _ rfl,box_cells hb 2 _ rfl,box_cells hb 3 _ rfl,box_cells hb 4 _ rfl,box_cells hb 5 _ rfl,box_cells hb 6 _ rfl⟩
theorem HdAt.keep {u v:World} {g:Nat} {h0 h1 h2 h3 h4 h5 h6:Int} (h:HdAt u g h0 h1 h2 h3 h4 h5 h6) (hb:Below u.heap.size u v):HdAt v g h0 h1 h2 h3 h4 h5 h6:=by
 obtain ⟨a,b,c,d,e,f,k⟩:=h
 have hlt:=World.block_lt_of_cell? u _ a
 refine ⟨?_,?_,?_,?_,?_,?_,?_⟩
 ·rw [hb.cell (p:=⟨g,0,none⟩) hlt];exact a
 ·rw [hb.cell (p:=⟨g,1,none⟩) hlt];exact b
 ·rw [hb.cell (p:=⟨g,2,none⟩) hlt];exact c
 ·rw [hb.cell (p:=⟨g,3,none⟩) hlt];exact d
 ·rw [hb.cell (p:=⟨g,4,none⟩) hlt];exact e
 ·rw [hb.cell (p:=⟨g,5,none⟩) hlt];exact f
 ·rw [hb.cell (p:=⟨g,6,none⟩) hlt];exact k
end Go.Proofs.YtnchnlgnnlgjcaaGreat
namespace Go.Proofs.YtnchnlgnnlgjcaaGreat
open Go.RowKit
set_option maxHeartbeats 800000 in
theorem of_ok (a:Option Addr) (cp b s:Nat) (l:List Int) (w:World) (ha:Lst .i32 w a l) (hx:Ls.In32 l) (hst:Gp.St b s) (h0:0<l.length) (hl:l.length<=256) (z sc:Int) (ez:Gp.low l=z) (es:Gp.scale s l=sc) :
 Calls Tryz.prog 142 #[.slice a l.length cp,.int .i64 b] w fun e w'=>∃ g,e=.returned (.tuple #[.agg #[.int .i32 z,.int .u32 sc,.slice (some ⟨g,0,none⟩) l.length l.length],.int .i64 0])/\w.heap.size<=g /\
  Lst .i64 w' (some ⟨g,0,none⟩) (Gp.codes z sc l)/\Below w.heap.size w w':=by
 have HE:Hid (Gp.many l.length (b:Int)=0):=Gp.many_ok hst h0 hl
 have HN:Hid (l.length<=maxLen):=by show l.length<=maxLen;unfold maxLen;omega
 have bs:=hst.bd
 have bd:=Gp.spread_bd hx
 have zb:=Gp.lowN_in hx l.length
 have yb:=Gp.highN_in hx l.length
 have sb:=Gp.scale_bd (s:=(s:Int)) hx (by omega)
 obtain ⟨y,ey⟩:∃ y,Gp.high l=y:=⟨_,rfl⟩
 have EZ:Hid (Gp.low l=z):=ez
 have EY:Hid (Gp.high l=y):=ey
 have ES:Hid (Gp.up (y - z) s=sc):=by show _=_;rw [<-ey,<-ez];exact es
 rw [ez,ey] at bd
 rw [es] at sb
 have zb:-2147483648<=z/\z<=2147483647:=by rw [<-ez];exact zb
 have yb:-2147483648<=y/\y<=2147483647:=by rw [<-ey];exact yb
 have HA:Hid (Lst .i32 w a l):=ha
 have HX:Hid (Ls.In32 l):=hx
 have HS:Hid (Gp.St b s):=hst
 clear ha hx hst ez ey es
 have hmk:=run_make_row' (P:=Tryz.prog) 70 3 (.int .i64 0) 8 Tryz.underlying70 Tryz.infoIntG rfl .i64 .i64 l.length (by omega) (by omega)
 go_enter Tryz.func142,Tryz.ntmps142
 go_wp2_with (first
  | (go_at_call 155;refine (countG_any _ _ 0 HE.out HN.out _).mono ?_;rintro r w' ⟨rfl,rfl⟩)
  | (go_at_call 156;refine (min_any _ _ l _ (HA.out.keep (box_below _ _)) HN.out h0 z EZ.out).mono ?_;rintro r w' ⟨rfl,rfl⟩)
  | (go_at_call 159;refine (max_any _ _ l _ (HA.out.keep (box_below _ _)) HN.out h0 y EY.out).mono ?_;rintro r w' ⟨rfl,rfl⟩)
  | (go_at_call 158;refine (apart_any _ _ yb.1 yb.2 zb.1 zb.2 _).mono ?_;rintro r w' ⟨rfl,rfl⟩)
  | (go_at_call 157;refine (scaleOf_any _ _ _ HS.out bd.1 bd.2 sc ES.out _).mono ?_;rintro r w' ⟨rfl,rfl⟩))
 clear hmk
 go_loopw [33] (fun i wr=>∃ k:Nat,k<=l.length/\i=.int .i64 k/\wr.rowIs (w.heap.size+1) 3 l.length (partG .i64 (fun j=>Gp.code z sc (Ls.nth l j)) k)/\Below (w.heap.size+1) (w.alloc (.cells #[.int .i32 0,.int .u32 0,.slice none 0 0] 177)) wr) (fun i _=>l.length - (intOf i).toNat)
 case atStart =>
  refine ⟨0,Nat.zero_le _,rfl,?_,(Below.refl _ _).alloc (by simp) _⟩
  have:=World.rowIs_made (w.alloc (.cells #[.int .i32 0,.int .u32 0,.slice none 0 0] 177)) (.int .i64 0) l.length 3
  rw [show (w.alloc (.cells #[.int .i32 0,.int .u32 0,.slice none 0 0] 177)).heap.size=w.heap.size+1 by simp] at this
  exact this.congr (fun j hj=>by simp [partG])
 case round =>
  obtain ⟨k,hk,rfl,hrow,hbel⟩:=hrel
  have hb0:Below w.heap.size w wr:=(box_below w _).trans (hbel.mono (by omega))
  by_cases hlt:k<l.length
  ·obtain ⟨b1,o1,rfl,hc1⟩:=(HA.out.keep hb0).get hlt
   have hck:=hc1 k hlt
   have hxk:=HX.out k
   have HR:Hid (wr.rowIs (w.heap.size+1) 3 l.length (partG .i64 (fun j=>Gp.code z sc (Ls.nth l j)) k)):=hrow
   have HB:Hid (Below (w.heap.size+1) (w.alloc (.cells #[.int .i32 0,.int .u32 0,.slice none 0 0] 177)) wr):=hbel
   clear hc1 hrow hbel hb0
   have hrat:Calls Tryz.prog 160 #[.int .i64 (Ls.nth l k - z),.int .i64 sc] wr fun e w'=>e=.returned (.int .i64 (Gp.code z sc (Ls.nth l k)))/\∃ n,w'=wr.drewN n:=by
    by_cases hp:0<sc
    ·rw [Gp.code_yes hp]
     exact ratio_any _ _ (by omega) (by omega) hp (by omega) _
    ·rw [Gp.code_no hp]
     refine (ratio_none _ _ (by omega) _).mono ?_
     rintro e w' ⟨rfl,rfl⟩
     exact ⟨rfl,0,rfl⟩
   have HQ:Hid (Calls Tryz.prog 160 #[.int .i64 (Ls.nth l k - z),.int .i64 sc] wr fun e w'=>e=.returned (.int .i64 (Gp.code z sc (Ls.nth l k)))/\∃ n,w'=wr.drewN n):=hrat
   clear hrat
   go_wp2_with (go_at_call 158;refine (apart_any _ _ hxk.1 hxk.2 zb.1 zb.2 _).mono ?_;rintro r w' ⟨rfl,hw⟩;cases hw.symm)
   refine (HQ.out).mono ?_
   rintro e w' ⟨rfl,n,rfl⟩
   have R1:Hid ((wr.drewN n).rowIs (w.heap.size+1) 3 l.length (partG .i64 (fun j=>Gp.code z sc (Ls.nth l j)) k)):=HR.out.of_block rfl
   have B1:Hid (Below (w.heap.size+1) (w.alloc (.cells #[.int .i32 0,.int .u32 0,.slice none 0 0] 177)) (wr.drewN n)):=below_drewN HB.out n
   have hcg:=R1.out.cell hlt
   have hfg:=R1.out.frozen k
   clear HQ
   go_wp2
   go_roundw
   case rel=>exact ⟨k+1,by omega,by go_num,(R1.out.set k _).congr (fun j hj=>partG_set _ _ k j),B1.out.setCell (by simp) _⟩
   case measure=>simp [intOf];omega
  ·have e:k=l.length:=by omega
   subst e
   have r0:wr.rowIs w.heap.size 177 3 (fun i=>if i=0 then .int .i32 0 else if i=1 then .int .u32 0 else .slice none 0 0) :=
    (World.rowIs_alloc w #[.int .i32 0,.int .u32 0,.slice none 0 0] 177 _ (fun i hi=>by match i,hi with | 0,_=>rfl | 1,_=>rfl | 2,_=>rfl)).of_block (hbel.block _ (by omega))
   have c0:=r0.cell (show 0<3 by decide)
   have c1:=r0.cell (show 1<3 by decide)
   have c2:=r0.cell (show 2<3 by decide)
   have f0:=r0.frozen 0
   have f1:=r0.frozen 1
   have f2:=r0.frozen 2
   have hcells:Hid (wr.rowIs (w.heap.size+1) 3 l.length (partG .i64 (fun j=>Gp.code z sc (Ls.nth l j)) l.length)/\Below w.heap.size w wr):=⟨hrow,hb0⟩
   clear hrow hb0 hbel r0
   go_wp2
   refine bodyPost_ret (v:=.tuple #[.agg #[.int .i32 z,.int .u32 sc,.slice (some ⟨w.heap.size+1,0,none⟩) l.length l.length],.int .i64 0]) (by simp [results,Tryz.results142,go_sem,c0,c1,c2]) rfl ⟨w.heap.size+1,rfl,by omega,?_,?_⟩
   ·obtain ⟨hrow,hb0⟩:=hcells.out
    refine lst_of_row (f:=partG .i64 (fun j=>Gp.code z sc (Ls.nth l j)) l.length) (t:=3) ?_ (fun i hi=>?_)
    ·rw [Gp.codes_length]
     exact ((hrow.setOther (by simp) _).setOther (by simp) _).setOther (by simp) _
    ·rw [Gp.codes_length] at hi
     rw [partG_lt hi,Gp.nth_codes hi]
   ·exact (((hcells.out.2).setCell (by simp) _).setCell (by simp) _).setCell (by simp) _
end Go.Proofs.YtnchnlgnnlgjcaaGreat
