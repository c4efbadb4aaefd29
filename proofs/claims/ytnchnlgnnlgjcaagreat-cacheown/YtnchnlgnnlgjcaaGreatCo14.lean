import Derived.Test.YtnchnlgnnlgjcaaGreatCo02
import Derived.Test.YtnchnlgnnlgjcaaGreatCo13
import Derived.Outline
import Derived.Test.YtnchnlgnnlgjcaaGreatCo03
import Derived.Deep.AppendLies
import Derived.Laws.StructEq
import Derived.Lib.QuietBelow
import Derived.WalkKit
import Derived.ProofKit
import Derived.OpenShut
import Derived.Deep.QuietTactic
import Derived.BigQuiet
import Derived.WalkSmall
import Derived.Deep.RegionWith
import Derived.Deep.RegionHeld3
import Derived.Deep.RegionLaw
import Derived.Deep.Fields
import Derived.Test.YtnchnlgnnlgjcaaGreatCo12
import Derived.Deep.SlicePairs
set_option linter.unusedVariables false
namespace Go.Proofs.YtnchnlgnnlgjcaaGreat
open Go.RowKit Go.Sort
namespace Tn
namespace Tr
end Tr
open _root_.Go.Proofs.YtnchnlgnnlgjcaaGreat.Tn.Tr
theorem below_draws (w:World) (n:Nat):Below w.heap.size w (w.drewN n):=by
 refine ⟨rfl,rfl,rfl,?_,fun j _=>?_⟩
 ·simp
 ·simp
theorem within_yes (n a b:Int) (h1:a<=n) (h2:n<=b) (w:World) :
 Calls Tryz.prog 80 #[.int .i64 n,.int .i64 a,.int .i64 b] w fun e w'=>e=.returned (.bool true)/\w'=w:=by
 go_enter Tryz.func80,Tryz.ntmps80
 go_wp2
 go_ret
 exact ⟨rfl,rfl⟩
theorem within_no (n a b:Int) (h:n<a\/b<n) (w:World) :
 Calls Tryz.prog 80 #[.int .i64 n,.int .i64 a,.int .i64 b] w fun e w'=>e=.returned (.bool false)/\w'=w:=by
 by_cases h1:n<a
 ·have g:decide (a<=n)=false:=decide_eq_false (by omega)
  clear h
  go_enter Tryz.func80,Tryz.ntmps80
  go_wp2
  go_ret
  exact ⟨rfl,rfl⟩
 ·have h2:a<=n:=by omega
  have g:decide (n<=b)=false:=decide_eq_false (by omega)
  clear h h1
  go_enter Tryz.func80,Tryz.ntmps80
  go_wp2
  go_ret
  exact ⟨rfl,rfl⟩
-- TrPlan
namespace Tr
def fst (ls:List (Int × Int)) (i:Nat):Int:=(ls.getD i (0,0)).1
def snd (ls:List (Int × Int)) (i:Nat):Int:=(ls.getD i (0,0)).2
theorem fst_of {ls:List (Int × Int)} {i:Nat} (h:i<ls.length):fst ls i=(ls[i]).1:=by simp [fst,h]
theorem snd_of {ls:List (Int × Int)} {i:Nat} (h:i<ls.length):snd ls i=(ls[i]).2:=by simp [snd,h]
theorem pairs_ext {a b:List (Int × Int)} (hl:a.length=b.length) (h:∀ i,i<a.length->fst a i=fst b i/\snd a i=snd b i):a=b:=by
 apply List.ext_getElem hl
 intro i h1 h2
 obtain ⟨e1,e2⟩:=h i h1
 rw [fst_of h1,fst_of h2] at e1
 rw [snd_of h1,snd_of h2] at e2
 exact Prod.ext e1 e2
def Ps (w:World) (a:Option Addr) (ls:List (Int × Int)):Prop :=
 ∀ i,i<ls.length->∃ b o,a=some ⟨b,o,none⟩/\w.cell? ⟨b,o+i*2,none⟩=some (.int .i64 (fst ls i))/\w.cell? ⟨b,o+i*2+1,none⟩=some (.int .i64 (snd ls i))
theorem Ps.nil (w:World) (a:Option Addr):Ps w a []:=fun i hi=>by simp at hi
theorem Ps.get {w:World} {a:Option Addr} {ls:List (Int × Int)} (h:Ps w a ls) (h0:0<ls.length) :
 ∃ b o,a=some ⟨b,o,none⟩/\∀ j,j<ls.length->w.cell? ⟨b,o+j*2,none⟩=some (.int .i64 (fst ls j))/\w.cell? ⟨b,o+j*2+1,none⟩=some (.int .i64 (snd ls j)):=by
 obtain ⟨b,o,e,_⟩:=h 0 h0
 refine ⟨b,o,e,fun j hj=>?_⟩
 obtain ⟨b',o',e',hc⟩:=h j hj
 rw [e] at e'
 cases e'
 exact hc
theorem Ps.keep {w w':World} {a:Option Addr} {ls:List (Int × Int)} (h:Ps w a ls) (hb:Below w.heap.size w w'):Ps w' a ls:=fun i hi=>by
 obtain ⟨b,o,e,h1,h2⟩:=h i hi
 have hlt:=World.block_lt_of_cell? w _ h1
 refine ⟨b,o,e,?_,?_⟩
 ·rw [hb.cell (p:=⟨b,o+i*2,none⟩) hlt];exact h1
 ·rw [hb.cell (p:=⟨b,o+i*2+1,none⟩) hlt];exact h2
def okB (b:Int):Bool:=b == 2 || b == 4 || b == 8
def okP (ls:List (Int × Int)) (i:Nat):Bool:=okB (fst ls i) && okB (snd ls i)
def allB (ls:List (Int × Int)):Bool:=ls.all fun p=>okB p.1 && okB p.2
theorem allB_iff (ls:List (Int × Int)):allB ls=true ↔ ∀ i,i<ls.length->okP ls i=true:=by
 unfold allB okP
 rw [List.all_eq_true]
 constructor
 ·intro h i hi
  rw [fst_of hi,snd_of hi]
  exact h _ (List.getElem_mem hi)
 ·intro h x hx
  obtain ⟨i,hi,rfl⟩:=List.getElem_of_mem hx
  have:=h i hi
  rw [fst_of hi,snd_of hi] at this
  exact this
theorem okB_cases {b:Int} (h:okB b=true):b=2\/b=4\/b=8:=by unfold okB at h;simp at h;omega
def rng (g w:Int):Bool:=decide (1<=g) && decide (g<=16) && decide (0<=w) && decide (w<=64)
def right (g w:Int) (ls:List (Int × Int)):Int:=if rng g w then (if ls.length=0\/4<ls.length then 12 else if allB ls then 0 else 20) else 11
theorem right_zero {g w:Int} {ls:List (Int × Int)} (h:right g w ls=0):1<=g/\g<=16/\0<=w/\w<=64/\1<=ls.length/\ls.length<=4/\allB ls=true:=by
 unfold right at h
 split at h
 ·rename_i h1
  simp [rng] at h1
  split at h
  ·omega
  ·split at h
   ·exact ⟨h1.1.1.1,h1.1.1.2,h1.1.2,h1.2,by omega,by omega,by assumption⟩
   ·omega
 ·omega
end Tr
theorem bits_any (b:Int) (q:Bool) (hq:okB b=q) (w:World) :
 Calls Tryz.prog 81 #[.int .i64 b] w fun e w'=>e=.returned (.bool q)/\w'=w:=by
 subst hq
 rcases ok_or b with h | ⟨n,rfl,h⟩
 ·have:okB b=false:=by obtain ⟨h1,h2,h3⟩:=h;unfold okB;simp [h1,h2,h3]
  rw [this];exact bits_no b h w
 ·have:okB (n:Int)=true:=by rcases h with rfl | rfl | rfl <;> rfl
  rw [this];exact bits_yes n h w
theorem refBits_any (b:Int) (q:Bool) (hq:okB b=q) (w:World) :
 Calls Tryz.prog 78 #[.int .i64 b] w fun e w'=>e=.returned (.bool q)/\w'=w:=by
 subst hq
 rcases ok_or b with h | ⟨n,rfl,h⟩
 ·have:okB b=false:=by obtain ⟨h1,h2,h3⟩:=h;unfold okB;simp [h1,h2,h3]
  rw [this];exact refBits_no b h w
 ·have:okB (n:Int)=true:=by rcases h with rfl | rfl | rfl <;> rfl
  rw [this];exact refBits_yes n h w
theorem within_any (n a b:Int) (q:Bool) (hq:(decide (a<=n) && decide (n<=b))=q) (w:World) :
 Calls Tryz.prog 80 #[.int .i64 n,.int .i64 a,.int .i64 b] w fun e w'=>e=.returned (.bool q)/\w'=w:=by
 subst hq
 by_cases h:a<=n/\n<=b
 ·have:(decide (a<=n) && decide (n<=b))=true:=by simp [h.1,h.2]
  rw [this];exact within_yes n a b h.1 h.2 w
 ·have:(decide (a<=n) && decide (n<=b))=false:=by simp;omega
  rw [this];exact within_no n a b (by omega) w
theorem ranged_any (g i:Int) (v:Value) (q:Bool) (hq:rng g i=q) (w:World) :
 Calls Tryz.prog 79 #[.agg #[.int .i64 g,.int .i64 i,v]] w fun e w'=>e=.returned (.bool q)/\Below w.heap.size w w':=by
 have HQ:Hid (rng g i=q):=hq
 clear hq
 obtain ⟨q1,e1⟩:∃ q1,(decide (1<=g) && decide (g<=16))=q1:=⟨_,rfl⟩
 obtain ⟨q2,e2⟩:∃ q2,(decide (0<=i) && decide (i<=64))=q2:=⟨_,rfl⟩
 have E1:Hid ((decide (1<=g) && decide (g<=16))=q1):=e1
 have E2:Hid ((decide (0<=i) && decide (i<=64))=q2):=e2
 have EQ:Hid (q=(q1 && q2)):=by show q=(q1 && q2);rw [<-HQ.out,<-e1,<-e2];unfold rng;simp [Bool.and_assoc]
 clear e1 e2
 cases q1
 ·go_enter Tryz.func79,Tryz.ntmps79
  go_wp2_with (go_at_call 80;refine (within_any g 1 16 false E1.out _).mono ?_;rintro e w' ⟨rfl,rfl⟩)
  go_ret
  exact ⟨by rw [EQ.out];rfl,(Below.refl _ _).alloc (Nat.le_refl _) _⟩
 ·go_enter Tryz.func79,Tryz.ntmps79
  go_wp2_with (first
   | (go_at_call_of 80 (g);refine (within_any g 1 16 true E1.out _).mono ?_;rintro e w' ⟨rfl,rfl⟩)
   | (go_at_call 80;refine (within_any i 0 64 q2 E2.out _).mono ?_;rintro e w' ⟨rfl,rfl⟩))
  go_ret
  exact ⟨by rw [EQ.out];rfl,(Below.refl _ _).alloc (Nat.le_refl _) _⟩
-- TrRight
theorem Tr.okP_no {ls:List (Int × Int)} {k:Nat} (h:k<ls.length) (hk:okP ls k=false):allB ls=false:=by
 cases e:allB ls
 ·rfl
 ·rw [(allB_iff ls).1 e k h] at hk;cases hk
theorem Tr.right_rng {g i:Int} {ls:List (Int × Int)} (h:rng g i=false):right g i ls=11:=by unfold right;rw [h];rfl
theorem Tr.right_many {g i:Int} {ls:List (Int × Int)} (h:rng g i=true) (h2:ls.length=0\/4<ls.length):right g i ls=12:=by unfold right;rw [h,if_pos rfl,if_pos h2]
theorem Tr.right_all {g i:Int} {ls:List (Int × Int)} (h:rng g i=true) (h2:¬ (ls.length=0\/4<ls.length)) (h3:allB ls=true):right g i ls=0:=by unfold right;rw [h,if_pos rfl,if_neg h2,h3];rfl
theorem Tr.right_bits {g i:Int} {ls:List (Int × Int)} (h:rng g i=true) (h2:¬ (ls.length=0\/4<ls.length)) (h3:allB ls=false):right g i ls=20:=by unfold right;rw [h,if_pos rfl,if_neg h2,h3];rfl
set_option maxHeartbeats 1600000 in
theorem right_any (g i:Int) (a:Option Addr) (c:Nat) (ls:List (Int × Int)) (e:Int) (he:right g i ls=e) (w:World) (hp:Ps w a ls) (hl:ls.length<=maxLen) :
 Calls Tryz.prog 38 #[.agg #[.int .i64 g,.int .i64 i,.slice a ls.length c]] w fun r w'=>r=.returned (.int .i64 e)/\Below w.heap.size w w':=by
 unfold maxLen at hl
 have HE:Hid (right g i ls=e):=he
 have HP:Hid (Ps w a ls):=hp
 clear he hp
 obtain ⟨q,hq⟩:∃ q,rng g i=q:=⟨_,rfl⟩
 have HQ:Hid (rng g i=q):=hq
 clear hq
 cases q
 ·go_enter Tryz.func38,Tryz.ntmps38
  go_wp2_with (go_at_call 79;refine (ranged_any g i _ false HQ.out _).mono ?_;rintro r w1 ⟨rfl,hb⟩;have B1:Hid (Below w.heap.size w w1):=((Below.refl _ _).alloc (Nat.le_refl _) _).trans (hb.mono (by simp));clear hb)
  go_ret
  exact ⟨ret_num (show (11:Int)=e by rw [<-HE.out,right_rng HQ.out]),B1.out⟩
 ·by_cases hm:ls.length=0\/4<ls.length
  ·have HM:Hid (ls.length=0\/4<ls.length):=hm
   clear hm
   go_enter Tryz.func38,Tryz.ntmps38
   go_wp2_with (go_at_call 79;refine (ranged_any g i _ true HQ.out _).mono ?_;rintro r w1 ⟨rfl,hb⟩;have B1:Hid (Below w.heap.size w w1):=((Below.refl _ _).alloc (Nat.le_refl _) _).trans (hb.mono (by simp));have c2:w1.cell? ⟨w.heap.size,2,none⟩=some (.slice a ls.length c):=(by rw [hb.cell (p:=⟨w.heap.size,2,none⟩) (by simp)];simp);clear hb)
   refine (within_any (ls.length:Int) 1 4 false (by have:=HM.out;simp;omega) _).mono ?_
   rintro r w' ⟨rfl,rfl⟩
   go_wp2
   go_ret
   exact ⟨ret_num (show (12:Int)=e by rw [<-HE.out,right_many HQ.out HM.out]),B1.out⟩
  ·have h0:0<ls.length:=by omega
   have h4:ls.length<=4:=by omega
   have HM:Hid (¬ (ls.length=0\/4<ls.length)):=hm
   clear hm
   obtain ⟨b,o,rfl,hc⟩:=HP.out.get h0
   have HC:Hid (∀ j,j<ls.length->w.cell? ⟨b,o+j*2,none⟩=some (.int .i64 (fst ls j))/\w.cell? ⟨b,o+j*2+1,none⟩=some (.int .i64 (snd ls j))):=hc
   clear hc
   go_enter Tryz.func38,Tryz.ntmps38
   go_wp2_with (go_at_call 79;refine (ranged_any g i _ true HQ.out _).mono ?_;rintro r w1 ⟨rfl,hb⟩;have B1:Hid (Below w.heap.size w w1):=((Below.refl _ _).alloc (Nat.le_refl _) _).trans (hb.mono (by simp));have c2:w1.cell? ⟨w.heap.size,2,none⟩=some (.slice (some ⟨b,o,none⟩) ls.length c):=(by rw [hb.cell (p:=⟨w.heap.size,2,none⟩) (by simp)];simp);clear hb)
   refine (within_any (ls.length:Int) 1 4 true (by simp;omega) _).mono ?_
   rintro r w' ⟨rfl,hw⟩
   have hw:=hw.symm
   subst hw
   go_wp2
   go_loopw [16] (fun i' wr=>∃ k:Nat,k<=ls.length/\i'=.int .i64 k/\Hid (∀ j,j<k->okP ls j=true)/\Hid (Below w.heap.size w wr)) (fun i' _=>ls.length - (intOf i').toNat)
   case atStart=>exact ⟨0,Nat.zero_le _,rfl,fun j hj=>by omega,B1.out⟩
   case round =>
    obtain ⟨k,hk,rfl,HK,BK⟩:=hrel
    by_cases hlt:k<ls.length
    ·have d0:=(HC.out k hlt).1
     have d1:=(HC.out k hlt).2
     have d0:wr.cell? ⟨b,o+k*2,none⟩=some (.int .i64 (fst ls k)):=by rw [BK.out.cell (p:=⟨b,o+k*2,none⟩) (World.block_lt_of_cell? w _ d0)];exact d0
     have d1:wr.cell? ⟨b,o+k*2+1,none⟩=some (.int .i64 (snd ls k)):=by rw [BK.out.cell (p:=⟨b,o+k*2+1,none⟩) (World.block_lt_of_cell? w _ d1)];exact d1
     obtain ⟨q1,e1⟩:∃ q1,okB (fst ls k)=q1:=⟨_,rfl⟩
     obtain ⟨q2,e2⟩:∃ q2,okB (snd ls k)=q2:=⟨_,rfl⟩
     have E1:Hid (okB (fst ls k)=q1):=e1
     have E2:Hid (okB (snd ls k)=q2):=e2
     have E3:Hid (okP ls k=(q1 && q2)):=by show okP ls k=_;unfold okP;rw [e1,e2]
     clear e1 e2
     cases q1
     ·go_wp2_with (go_at_call 81;refine (bits_any _ false E1.out _).mono ?_;rintro r w' ⟨rfl,rfl⟩)
      go_ret
      exact ⟨ret_num (show (20:Int)=e by rw [<-HE.out,right_bits HQ.out HM.out (okP_no hlt E3.out)]),BK.out.alloc BK.out.size _⟩
     ·cases q2
      ·go_wp2_with (first | (go_at_call_of 81 (fst ls k);refine (bits_any _ true E1.out _).mono ?_;rintro r w' ⟨rfl,rfl⟩) | (go_at_call 81;refine (bits_any _ false E2.out _).mono ?_;rintro r w' ⟨rfl,rfl⟩))
       go_ret
       exact ⟨ret_num (show (20:Int)=e by rw [<-HE.out,right_bits HQ.out HM.out (okP_no hlt E3.out)]),BK.out.alloc BK.out.size _⟩
      ·go_wp2_with (first | (go_at_call_of 81 (fst ls k);refine (bits_any _ true E1.out _).mono ?_;rintro r w' ⟨rfl,rfl⟩) | (go_at_call 81;refine (bits_any _ true E2.out _).mono ?_;rintro r w' ⟨rfl,rfl⟩))
       go_roundw
       case rel=>exact ⟨k+1,by omega,by go_num,fun j hj=>by rcases Nat.lt_or_ge j k with h | h;exact HK.out j h;rw [show j=k by omega];exact E3.out,BK.out.alloc BK.out.size _⟩
       case measure=>simp [intOf];omega
    ·have e:k=ls.length:=by omega
     subst e
     go_wp2
     go_ret
     exact ⟨ret_num (show (0:Int)=e by rw [<-HE.out,right_all HQ.out HM.out ((allB_iff ls).2 HK.out)]),BK.out⟩
-- TrRef
namespace Tr
def pcell (g i:Int) (v:Value) (j:Nat):Value:=if j=0 then .int .i64 g else if j=1 then .int .i64 i else v
def pflat (ls:List (Int × Int)):Nat->List Value
 | 0=>[]
 | n+1=>pflat ls n ++ [.int .i64 (fst ls n),.int .i64 (snd ls n)]
theorem pflat_length (ls:List (Int × Int)) (n:Nat):(pflat ls n).length=n*2:=by
 induction n with
 | zero=>rfl
 | succ n ih=>simp only [pflat];rw [List.length_append,ih];simp;omega
theorem pflat_at (ls:List (Int × Int)) (n i:Nat) (hi:i<n):(pflat ls n)[i*2]?=some (.int .i64 (fst ls i))/\(pflat ls n)[i*2+1]?=some (.int .i64 (snd ls i)):=by
 induction n with
 | zero=>omega
 | succ n ih =>
   simp only [pflat]
   have hl:=pflat_length ls n
   by_cases e:i=n
   ·subst e
    rw [List.getElem?_append_right (by omega),List.getElem?_append_right (by omega),hl,show i*2 - i*2=0 by omega,show i*2+1 - i*2=1 by omega]
    exact ⟨rfl,rfl⟩
   ·rw [List.getElem?_append_left (by omega),List.getElem?_append_left (by omega)]
    exact ih (by omega)
theorem ps_of_own {w:World} {base:Nat} {t:TypeId} {a:Option Addr} {n c:Nat} {ls:List (Int × Int)} (h:w.ownsRow base t 2 (.slice a n c) n (pflat ls n)) (hn:n=ls.length) :
 Ps w a ls/\n<=c/\c<=maxLen/\(a=none->c=0)/\∀ x,a=some x->base<=x.block:=by
 rcases h.2 with ⟨e,h0⟩ | ⟨g,cap,cur,e,hb,hg,h1,h2,h3,h4⟩
 ·cases e
  exact ⟨(fun i hi=>by omega),Nat.le_refl _,Nat.zero_le _,fun _=>rfl,(fun x e=>nomatch e)⟩
 ·cases e
  refine ⟨fun i hi=>?_,h1,h2,(fun e=>nomatch e),fun x e=>by cases e;exact hb⟩
  have hc:∀ j,j<n*2->w.cell? ⟨g,j,none⟩=(pflat ls n)[j]?:=fun j hj=>by
   rw [cell_of_row w g j cur t (0,0) hg,<-h4,List.getElem?_take,if_pos hj]
   simp
  obtain ⟨q0,q1⟩:=pflat_at ls n i (by omega)
  refine ⟨g,0,rfl,?_,?_⟩
  ·rw [Nat.zero_add,hc _ (by omega)];exact q0
  ·rw [Nat.zero_add,hc _ (by omega)];exact q1
theorem own2_at {w w':World} {base:Nat} {t:TypeId} {v:Value} {n:Nat} {xs:List Value} (h:w.ownsRow base t 2 v n xs) (hb:∀ g,v.ownBlock=some g->w'.heap[g]?=w.heap[g]?):w'.ownsRow base t 2 v n xs:=by
 refine ⟨h.1,?_⟩
 rcases h.2 with h0 | ⟨g,cap,cur,e,h1,h2,h3⟩
 ·exact Or.inl h0
 ·refine Or.inr ⟨g,cap,cur,e,h1,?_,h3⟩
  subst e
  rw [hb g rfl]
  exact h2
theorem own2_slice {w:World} {base:Nat} {t:TypeId} {v:Value} {n:Nat} {xs:List Value} (h:w.ownsRow base t 2 v n xs):∃ a c,v=.slice a n c:=by
 rcases h.2 with ⟨e,hn⟩ | ⟨g,cap,cur,e,_⟩
 ·exact ⟨none,0,by rw [e,hn]⟩
 ·exact ⟨_,_,e⟩
theorem own2_set {w:World} {base:Nat} {t:TypeId} {v:Value} {n:Nat} {xs:List Value} (h:w.ownsRow base t 2 v n xs) {p:Addr} (hp:p.block<base) (y:Value):(w.setCell p y).ownsRow base t 2 v n xs :=
 own2_at h fun g hg=>Go.Deep.blk_setCell_other _ _ _ _ (by have:=(h.lt g hg).1;omega)
end Tr
theorem box_over (w:World) (o:Obj):Below w.heap.size w (w.alloc o):=(Below.refl _ _).alloc (Nat.le_refl _) o
theorem Tryz.infoPair:(Tryz.prog.info? 78).map (fun i=>(i.zero,i.size,i.bytes))=some (some (.agg #[.int .i64 0,.int .i64 0]),2,16):=by kernel_rfl
-- TrSame
theorem eqPair (a b c d:Int) (q:Bool) (hq:(a == c && b == d)=q) (w:World):(Op.equalIn 10000 78 (.agg #[.int .i64 a,.int .i64 b]) (.agg #[.int .i64 c,.int .i64 d])).run Tryz.prog w=.ok q w:=by
 have u3:=Tryz.underlying3
 have a3:=Tryz.isAgg3
 have z3:=Tryz.sizeOf3
 rw [show (10000:Nat)=9999+1 from rfl,Op.equalIn]
 simp only [Sem.run_bind,run_underlying Tryz.underlying78,Result.andThen_ok]
 simp only [Std.Legacy.Range.forIn_eq_forIn_range',Std.Legacy.Range.size,Nat.sub_zero,Nat.add_sub_cancel,Nat.div_one,List.range'_succ,List.range'_zero,List.forIn_cons,List.forIn_nil]
 subst hq
 by_cases h1:a=c <;> by_cases h2:b=d <;> (go_simp;try simp [h1,h2])
theorem Tr.two {ls ms:List (Int × Int)} {k:Nat} (hk:(fst ls k == fst ms k && snd ls k == snd ms k)=true):fst ls k=fst ms k/\snd ls k=snd ms k:=by simpa using hk
-- TrTests
namespace Tr
def same (g i:Int) (ls:List (Int × Int)) (g' i':Int) (ms:List (Int × Int)):Bool:=decide (g=g'/\i=i'/\ls=ms)
end Tr
set_option maxHeartbeats 1600000 in
theorem refSame_any (g i g' i':Int) (a1 a2:Option Addr) (c1 c2:Nat) (ls ms:List (Int × Int)) (q:Bool) (hq:same g i ls g' i' ms=q) (w:World) (h1:Ps w a1 ls) (h2:Ps w a2 ms) (hl:ls.length<=maxLen) :
 Calls Tryz.prog 48 #[.agg #[.int .i64 g,.int .i64 i,.slice a1 ls.length c1],.agg #[.int .i64 g',.int .i64 i',.slice a2 ms.length c2]] w fun e w'=>e=.returned (.bool q)/\Below w.heap.size w w':=by
 unfold maxLen at hl
 have H1:Hid (Ps w a1 ls):=h1
 have H2:Hid (Ps w a2 ms):=h2
 have HQ:Hid (same g i ls g' i' ms=q):=hq
 clear h1 h2 hq
 by_cases e1:g=g'
 ·subst e1
  by_cases e2:i=i'
  ·subst e2
   by_cases hn:ls.length=ms.length
   ·have gn:((ls.length:Int) != (ms.length:Int))=false:=by rw [hn];simp
    have HN:Hid (ls.length=ms.length):=hn
    have hn1:ls.length<=ms.length:=by omega
    have hn2:ms.length<=ls.length:=by omega
    clear hn
    go_enter Tryz.func48,Tryz.ntmps48
    go_wp2
    go_loopw [5] (fun k' wr=>∃ k n:Nat,k<=ls.length/\k'=.int .i64 k/\wr=((w.alloc (.cells #[.int .i64 g,.int .i64 i,.slice a1 ls.length c1] 37)).alloc (.cells #[.int .i64 g,.int .i64 i,.slice a2 ms.length c2] 37)).drewN n/\Hid (∀ j,j<k->fst ls j=fst ms j/\snd ls j=snd ms j)) (fun k' _=>ls.length - (intOf k').toNat)
    case atStart=>exact ⟨0,0,Nat.zero_le _,rfl,rfl,fun j hj=>by omega⟩
    case round =>
     obtain ⟨k,n,hk,rfl,rfl,HK⟩:=hrel
     by_cases hlt:k<ls.length
     ·obtain ⟨b1,o1,rfl,hc1⟩:=H1.out.get (by omega)
      obtain ⟨b2,o2,rfl,hc2⟩:=H2.out.get (by omega)
      have d0:=(hc1 k hlt).1
      have d1:=(hc1 k hlt).2
      have e0:=(hc2 k (by omega)).1
      have e1:=(hc2 k (by omega)).2
      have l1:b1<w.heap.size:=World.block_lt_of_cell? w _ d0
      have l2:b2<w.heap.size:=World.block_lt_of_cell? w _ e0
      have l3:b1<w.heap.size+1:=by omega
      have l4:b2<w.heap.size+1:=by omega
      have hlt2:k<ms.length:=by omega
      clear hc1 hc2
      obtain ⟨p,hp⟩:∃ p,(fst ls k == fst ms k && snd ls k == snd ms k)=p:=⟨_,rfl⟩
      have HP:Hid ((fst ls k == fst ms k && snd ls k == snd ms k)=p):=hp
      have heq:∀ u:World,(Op.equalIn 10000 78 (.agg #[.int .i64 (fst ls k),.int .i64 (snd ls k)]) (.agg #[.int .i64 (fst ms k),.int .i64 (snd ms k)])).run Tryz.prog u=.ok p u:=fun u=>eqPair _ _ _ _ p hp u
      clear hp
      cases p
      ·go_wp2
       go_quiet (fail)
       go_wp2
       go_ret
       refine ⟨ret_bool (show false=q from ?_),?_⟩
       ·rw [<-HQ.out]
        symm
        apply decide_eq_false
        intro e
        have:=HP.out
        rw [e.2.2] at this
        simp at this
       ·exact (((box_over _ _).trans ((box_over _ _).mono (by simp))).trans ((below_draws _ _).mono (by simp;omega))).trans ((below_draws _ _).mono (by simp;omega))
      ·go_wp2
       go_quiet (fail)
       go_wp2
       go_roundw
       case rel=>exact ⟨k+1,_,by omega,by go_num,by first | rfl | exact World.drewN_drewN _ _ _,fun j hj=>by rcases Nat.lt_or_ge j k with h | h;exact HK.out j h;rw [show j=k by omega];exact Tr.two HP.out⟩
       case measure=>simp [intOf];omega
     ·have e:k=ls.length:=by omega
      subst e
      go_wp2
      go_ret
      refine ⟨ret_bool (show true=q from ?_),?_⟩
      ·rw [<-HQ.out]
       symm
       exact decide_eq_true ⟨rfl,rfl,pairs_ext HN.out HK.out⟩
      ·exact ((box_over _ _).trans ((box_over _ _).mono (by simp))).trans ((below_draws _ _).mono (by simp;omega))
   ·have gn:((ls.length:Int) != (ms.length:Int))=true:=by simp;omega
    have H3:Hid (false=q):=by show false=q;rw [<-HQ.out];symm;exact decide_eq_false (fun e=>hn (by rw [e.2.2]))
    clear hn
    go_enter Tryz.func48,Tryz.ntmps48
    go_wp2
    go_ret
    exact ⟨ret_bool H3.out,(box_over _ _).trans ((box_over _ _).mono (by simp))⟩
  ·have e3:(i != i')=true:=by simp [e2]
   have H3:Hid (false=q):=by show false=q;rw [<-HQ.out];unfold same;simp [e2]
   clear e2
   go_enter Tryz.func48,Tryz.ntmps48
   go_wp2
   go_ret
   exact ⟨ret_bool H3.out,(box_over _ _).trans ((box_over _ _).mono (by simp))⟩
 ·have e3:(g != g')=true:=by simp [e1]
  have H3:Hid (false=q):=by show false=q;rw [<-HQ.out];unfold same;simp [e1]
  clear e1
  go_enter Tryz.func48,Tryz.ntmps48
  go_wp2
  go_ret
  exact ⟨ret_bool H3.out,(box_over _ _).trans ((box_over _ _).mono (by simp))⟩
set_option maxHeartbeats 1600000 in
theorem refRight_any (g i:Int) (a:Option Addr) (c:Nat) (ls:List (Int × Int)) (e:Int) (he:right g i ls=e) (w:World) (hp:Ps w a ls) (hl:ls.length<=maxLen) :
 Calls Tryz.prog 36 #[.agg #[.int .i64 g,.int .i64 i,.slice a ls.length c]] w fun r w'=>r=.returned (.int .i64 e)/\Below w.heap.size w w':=by
 unfold maxLen at hl
 have HE:Hid (right g i ls=e):=he
 have HP:Hid (Ps w a ls):=hp
 clear he hp
 by_cases hr:rng g i=true
 ·have hb:=hr
  simp [rng] at hb
  obtain ⟨⟨⟨r1,r2⟩,r3⟩,r4⟩:=hb
  have HQ:Hid (rng g i=true):=hr
  clear hr
  by_cases hm:ls.length=0\/4<ls.length
  ·have H3:Hid ((12:Int)=e):=by show _=_;rw [<-HE.out,right_many HQ.out hm]
   by_cases h0:ls.length<1
   ·have g0:decide ((ls.length:Int)<1)=true:=decide_eq_true (by omega)
    clear hm
    go_enter Tryz.func36,Tryz.ntmps36
    go_wp2
    go_ret
    exact ⟨ret_num H3.out,box_over _ _⟩
   ·have h4:4<ls.length:=by omega
    have h0':1<=ls.length:=by omega
    clear hm h0
    go_enter Tryz.func36,Tryz.ntmps36
    go_wp2
    go_ret
    exact ⟨ret_num H3.out,box_over _ _⟩
  ·have HM:Hid (¬ (ls.length=0\/4<ls.length)):=hm
   have h0:1<=ls.length:=by omega
   have h4:ls.length<=4:=by omega
   clear hm
   obtain ⟨b,o,rfl,hc⟩:=HP.out.get h0
   have HC:Hid (∀ j,j<ls.length->w.cell? ⟨b,o+j*2,none⟩=some (.int .i64 (fst ls j))/\w.cell? ⟨b,o+j*2+1,none⟩=some (.int .i64 (snd ls j))):=hc
   clear hc
   go_enter Tryz.func36,Tryz.ntmps36
   go_wp2
   go_loop [3] (fun k'=>∃ k:Nat,k<=ls.length/\k'=.int .i64 k/\Hid (∀ j,j<k->okP ls j=true)) (fun k'=>ls.length - (intOf k').toNat)
   case atStart=>exact ⟨0,Nat.zero_le _,rfl,fun j hj=>by omega⟩
   case round =>
    obtain ⟨k,hk,rfl,HK⟩:=hrel
    by_cases hlt:k<ls.length
    ·have d0:=(HC.out k hlt).1
     have d1:=(HC.out k hlt).2
     have hbl:b<w.heap.size:=World.block_lt_of_cell? w _ d0
     obtain ⟨q1,e1⟩:∃ q1,okB (fst ls k)=q1:=⟨_,rfl⟩
     obtain ⟨q2,e2⟩:∃ q2,okB (snd ls k)=q2:=⟨_,rfl⟩
     have E1:Hid (okB (fst ls k)=q1):=e1
     have E2:Hid (okB (snd ls k)=q2):=e2
     have E3:Hid (okP ls k=(q1 && q2)):=by show okP ls k=_;unfold okP;rw [e1,e2]
     clear e1 e2
     cases q1
     ·go_wp2_with (go_at_call 78;refine (refBits_any _ false E1.out _).mono ?_;rintro r w' ⟨rfl,rfl⟩)
      go_ret
      exact ⟨ret_num (show (20:Int)=e by rw [<-HE.out,right_bits HQ.out HM.out (okP_no hlt E3.out)]),box_over _ _⟩
     ·cases q2
      ·go_wp2_with (first | (go_at_call_of 78 (fst ls k);refine (refBits_any _ true E1.out _).mono ?_;rintro r w' ⟨rfl,rfl⟩) | (go_at_call 78;refine (refBits_any _ false E2.out _).mono ?_;rintro r w' ⟨rfl,rfl⟩))
       go_ret
       exact ⟨ret_num (show (20:Int)=e by rw [<-HE.out,right_bits HQ.out HM.out (okP_no hlt E3.out)]),box_over _ _⟩
      ·go_wp2_with (first | (go_at_call_of 78 (fst ls k);refine (refBits_any _ true E1.out _).mono ?_;rintro r w' ⟨rfl,rfl⟩) | (go_at_call 78;refine (refBits_any _ true E2.out _).mono ?_;rintro r w' ⟨rfl,rfl⟩))
       go_round
       case rel=>exact ⟨k+1,by omega,by go_num,fun j hj=>by rcases Nat.lt_or_ge j k with h | h;exact HK.out j h;rw [show j=k by omega];exact E3.out⟩
       case measure=>simp [intOf];omega
    ·have e:k=ls.length:=by omega
     subst e
     go_wp2
     go_ret
     exact ⟨ret_num (show (0:Int)=e by rw [<-HE.out,right_all HQ.out HM.out ((allB_iff ls).2 HK.out)]),box_over _ _⟩
 ·have hr':rng g i=false:=by simpa using hr
  have H3:Hid ((11:Int)=e):=by show _=_;rw [<-HE.out,right_rng hr']
  have hb:¬ (1<=g/\g<=16/\0<=i/\i<=64):=fun ⟨q1,q2,q3,q4⟩=>hr (by simp [rng,q1,q2,q3,q4])
  clear hr hr'
  by_cases h1:g<1
  ·clear hb
   go_enter Tryz.func36,Tryz.ntmps36
   go_wp2
   go_ret
   exact ⟨ret_num H3.out,box_over _ _⟩
  ·by_cases h2:16<g
   ·have h1':1<=g:=by omega
    clear hb h1
    go_enter Tryz.func36,Tryz.ntmps36
    go_wp2
    go_ret
    exact ⟨ret_num H3.out,box_over _ _⟩
   ·have h1':1<=g:=by omega
    have h2':g<=16:=by omega
    by_cases h3:i<0
    ·clear hb h1 h2
     go_enter Tryz.func36,Tryz.ntmps36
     go_wp2
     go_ret
     exact ⟨ret_num H3.out,box_over _ _⟩
    ·have h3':0<=i:=by omega
     have h4:64<i:=by omega
     clear hb h1 h2 h3
     go_enter Tryz.func36,Tryz.ntmps36
     go_wp2
     go_ret
     exact ⟨ret_num H3.out,box_over _ _⟩
-- TrGroups
namespace Tr
def near (t:Int):Int:=if t<0 then 0 else if 1024<t then 1024 else t
theorem near_bd (t:Int):0<=near t/\near t<=1024:=by unfold near;split <;> (try split) <;> omega
def over (n i:Int):Int:=if n - i<0 then 0 else n - i
theorem over_bd {n i:Int} (h0:0<=n) (h1:n<=1024) (h2:0<=i):0<=over n i/\over n i<=1024:=by unfold over;split <;> omega
def grp (g i t:Int):Int:=over (near t) i / g
theorem grp_bd {g i t:Int} (h1:1<=g) (h2:0<=i):0<=grp g i t/\grp g i t<=1024/\grp g i t*g<=over (near t) i/\over (near t) i<(grp g i t+1)*g:=by
 have hn:=near_bd t
 have ho:=over_bd hn.1 hn.2 h2
 unfold grp
 refine ⟨Int.ediv_nonneg ho.1 (by omega),?_,Int.ediv_mul_le _ (by omega),?_⟩
 ·have:=Int.ediv_le_self (a:=over (near t) i) g ho.1;omega
 ·exact Int.lt_ediv_add_one_mul_self _ (by omega)
end Tr
theorem reg_of {P:Program} {f:FuncId} {args:Array Value} {u:World} {x:Value} (h:∀ v,Below u.heap.size u v->Calls P f args v fun e w'=>e=.returned x/\Below v.heap.size v w') :
 ∀ d os,Calls P f args (grow (redrawn u d) os) fun e w''=>e=.returned x/\∃ p:Regrown,w''=grow (redrawn u p.d) p.os:=fun d os=>Calls.regrown_of (h _ (below_regrown u d os))
theorem i64_same9 {x:Int} (h1:-9223372036854775808<=x) (h2:x<=9223372036854775807):IntKind.i64.wrap x=x:=by
 rw [IntKind.wrap_i64];omega
theorem nearest_any (t n:Int) (hn:near t=n) (w:World) :
 Calls Tryz.prog 108 #[.int .i64 t] w fun e w'=>e=.returned (.int .i64 n)/\w'=w:=by
 have HN:Hid (near t=n):=hn
 clear hn
 by_cases h0:t<0
 ·have H:Hid ((0:Int)=n):=by show _=_;rw [<-HN.out];unfold near;rw [if_pos h0]
  go_enter Tryz.func108,Tryz.ntmps108
  go_wp2
  all_goals (go_ret;exact ⟨ret_num (by first | exact H.out | (have:=H.out;omega)),rfl⟩)
 ·by_cases h1:1024<t
  ·have H:Hid ((1024:Int)=n):=by show _=_;rw [<-HN.out];unfold near;rw [if_neg h0,if_pos h1]
   have h0':0<=t:=by omega
   clear h0
   go_enter Tryz.func108,Tryz.ntmps108
   go_wp2
   all_goals (go_ret;exact ⟨ret_num (by first | exact H.out | (have:=H.out;omega)),rfl⟩)
  ·have H:Hid (t=n):=by show _=_;rw [<-HN.out];unfold near;rw [if_neg h0,if_neg h1]
   have h0':0<=t:=by omega
   have h1':t<=1024:=by omega
   clear h0 h1
   go_enter Tryz.func108,Tryz.ntmps108
   go_wp2
   all_goals (go_ret;exact ⟨ret_num (by first | exact H.out | (have:=H.out;omega)),rfl⟩)
theorem most_any (g i:Int) (v:Value) (hg:1<=g) (hg2:g<=16) (hi:0<=i) (hi2:i<=64) (w:World) :
 Calls Tryz.prog 56 #[.agg #[.int .i64 g,.int .i64 i,v]] w fun e w'=>e=.returned (.int .i64 (i+g - 1))/\Below w.heap.size w w':=by
 go_enter Tryz.func56,Tryz.ntmps56
 go_wp2
 go_ret
 exact ⟨ret_num (by omega),box_over _ _⟩
set_option maxHeartbeats 800000 in
theorem groups_any (g i t r:Int) (a:Option Addr) (m c:Nat) (hg:1<=g) (hg2:g<=16) (hi:0<=i) (hi2:i<=64) (hr:grp g i t=r) (w:World) :
 Calls Tryz.prog 74 #[.agg #[.int .i64 g,.int .i64 i,.slice a m c],.int .i64 t] w fun e w'=>e=.returned (.int .i64 r)/\Below w.heap.size w w':=by
 have HR:Hid (grp g i t=r):=hr
 have bd:=grp_bd (t:=t) hg hi
 rw [hr] at bd
 obtain ⟨b1,b2,-,-⟩:=bd
 obtain ⟨n,hn⟩:∃ n,near t=n:=⟨_,rfl⟩
 have HN:Hid (near t=n):=hn
 have hnb:=near_bd t
 rw [hn] at hnb
 obtain ⟨n0,n1⟩:=hnb
 obtain ⟨m',hm⟩:∃ m',(if n - i<0 then 0 else n - i)=m':=⟨_,rfl⟩
 have mb:=over_bd n0 n1 hi
 unfold over at mb
 rw [hm] at mb
 obtain ⟨m0,m1⟩:=mb
 have hq:m'.tdiv g=r:=by rw [Int.tdiv_eq_ediv_of_nonneg m0,<-hr,<-hm];unfold grp over;rw [hn]
 have hq2:m' / g=r:=by rw [<-Int.tdiv_eq_ediv_of_nonneg m0];exact hq
 have hgz:¬ g=0:=by omega
 have HQ:Hid (rng g i=true):=by show rng g i=true;simp [rng,hg,hg2,hi,hi2]
 clear hr hn
 go_enter Tryz.func74,Tryz.ntmps74
 go_wp2_with (go_at_call 79;refine (ranged_any g i _ true HQ.out _).mono ?_;rintro e w1 ⟨rfl,hb⟩;have B1:Hid (Below w.heap.size w w1):=(box_over _ _).trans (hb.mono (by simp));have c0:w1.cell? ⟨w.heap.size,0,none⟩=some (.int .i64 g):=(by rw [hb.cell (p:=⟨w.heap.size,0,none⟩) (by simp)];simp);have c1:w1.cell? ⟨w.heap.size,1,none⟩=some (.int .i64 i):=(by rw [hb.cell (p:=⟨w.heap.size,1,none⟩) (by simp)];simp);clear hb)
 go_quiet ((go_at_call 108;exact Calls.quiet_of_same (nearest_any t n HN.out _)))
 go_wp2
 go_ret
 exact ⟨ret_num (by first | rfl | rw [show max (n - i) 0=m' by rw [<-hm];split <;> omega,hq2]),B1.out.trans ((below_draws _ _).mono B1.out.size)⟩
set_option maxHeartbeats 800000 in
theorem plain_any (g i t r:Int) (a:Option Addr) (m c:Nat) (hg:1<=g) (hg2:g<=16) (hi:0<=i) (hi2:i<=64) (hr:near t - grp g i t*g=r) (w:World) :
 Calls Tryz.prog 75 #[.agg #[.int .i64 g,.int .i64 i,.slice a m c],.int .i64 t] w fun e w'=>e=.returned (.int .i64 r)/\Below w.heap.size w w':=by
 obtain ⟨n,hn⟩:∃ n,near t=n:=⟨_,rfl⟩
 obtain ⟨s,hs⟩:∃ s,grp g i t=s:=⟨_,rfl⟩
 have bd:=grp_bd (t:=t) hg hi
 rw [hs] at bd
 have HN:Hid (near t=n):=hn
 have HS:Hid (grp g i t=s):=hs
 have hnb:=near_bd t
 rw [hn] at hnb
 obtain ⟨n0,n1⟩:=hnb
 have s0:0<=s*g:=Int.mul_nonneg bd.1 (by omega)
 have s1:s*g<=1024:=by have:=over_bd n0 n1 hi;rw [hn] at bd;omega
 rw [hn,hs] at hr
 have HR:Hid (n - s*g=r):=hr
 obtain ⟨b1,b2,-,-⟩:=bd
 clear hn hs hr
 have CG:=fun (v:World)=>groups_any g i t s a m c hg hg2 hi hi2 HS.out v
 have CN:=fun (v:World)=>nearest_any t n HN.out v
 go_enter Tryz.func75,Tryz.ntmps75
 go_wp2
 obtain ⟨u,hu⟩:∃ u,w.alloc (.cells #[.int .i64 g,.int .i64 i,.slice a m c] 24)=u:=⟨_,rfl⟩
 have U:Hid (Below w.heap.size w u):=by rw [<-hu];exact box_over _ _
 have c0:u.cell? ⟨w.heap.size,0,none⟩=some (.int .i64 g):=by rw [<-hu];simp
 have c1:u.cell? ⟨w.heap.size,1,none⟩=some (.int .i64 i):=by rw [<-hu];simp
 have c2:u.cell? ⟨w.heap.size,2,none⟩=some (.slice a m c):=by rw [<-hu];simp
 rw [hu]
 clear hu
 have k0:=cell_regrown c0
 have k1:=cell_regrown c1
 have k2:=cell_regrown c2
 have cG:=reg_of (u:=u) fun v _=>CG v
 have cN:=reg_of (u:=u) fun v _=>(CN v).mono fun _ _ ⟨h1,h2⟩=>⟨h1,by rw [h2];exact Below.refl _ _⟩
 refine wp_region_quiet_below (by kernel_rfl) (by kernel_rfl) ?_
 repeat (quiet_step (first | exact cG _ _ | exact cN _ _))
 refine wpQuiet_nil ?_
 intro _ hw'
 obtain ⟨⟨dq,osq⟩,hw''⟩:=hw'
 subst hw''
 go_wp2
 go_ret
 exact ⟨ret_num (by rw [i64_same9 (x:=s*g) (by omega) (by omega),i64_same9 (by omega) (by omega)];exact HR.out),U.out.trans ((below_regrown u dq osq).mono U.out.size)⟩
theorem Tr.grp_is {g i t:Int} {k:Nat} (hg:1<=g) (h0:0<=t) (h1:t<=1024) (h2:k=0\/(k:Int)*g<=t - i) (h3:¬ ((k:Int)+1)*g<=t - i):(k:Int)=grp g i t:=by
 have hn:near t=t:=by unfold near;rw [if_neg (by omega),if_neg (by omega)]
 have k0:0<=(k:Int)*g:=Int.mul_nonneg (by omega) (by omega)
 unfold grp
 rw [hn]
 have ho:(k:Int)*g<=over t i/\over t i<((k:Int)+1)*g:=by
  unfold over
  have e:((k:Int)+1)*g=k*g+g:=by rw [Int.add_mul];omega
  split
  ·rcases h2 with rfl | h2
   ·simp;omega
   ·omega
  ·rcases h2 with rfl | h2
   ·simp at *;omega
   ·omega
 symm
 apply Int.le_antisymm
 ·have:=Int.ediv_lt_of_lt_mul (show (0:Int)<g by omega) ho.2;omega
 ·exact Int.le_ediv_of_mul_le (by omega) ho.1
set_option maxHeartbeats 800000 in
theorem refGroups_any (g i t r:Int) (a:Option Addr) (m c:Nat) (hg:1<=g) (hg2:g<=16) (hi:0<=i) (hi2:i<=64) (h0:0<=t) (h1:t<=1024) (hr:grp g i t=r) (w:World) :
 Calls Tryz.prog 46 #[.agg #[.int .i64 g,.int .i64 i,.slice a m c],.int .i64 t] w fun e w'=>e=.returned (.int .i64 r)/\Below w.heap.size w w':=by
 have HR:Hid (grp g i t=r):=hr
 clear hr
 go_enter Tryz.func46,Tryz.ntmps46
 go_wp2
 go_loop [5] (fun k'=>∃ k:Nat,k'=.int .i64 k/\k<=1024/\Hid (k=0\/(k:Int)*g<=t - i)) (fun k'=>1024 - (intOf k').toNat)
 case atStart=>exact ⟨0,rfl,by omega,Or.inl rfl⟩
 case round =>
  obtain ⟨k,rfl,hk,HK⟩:=hrel
  have p0:0<=((k:Int)+1)*g:=Int.mul_nonneg (by omega) (by omega)
  have p1:((k:Int)+1)*g<=16400:=by
   have:=Int.mul_le_mul (show (k:Int)+1<=1025 by omega) hg2 (by omega) (by omega)
   omega
  have p2:(k:Int)+1<=((k:Int)+1)*g:=by have:=Int.mul_le_mul_of_nonneg_left hg (show (0:Int)<=(k:Int)+1 by omega);omega
  by_cases hlt:((k:Int)+1)*g<=t - i
  ·go_wp2
   go_round
   case rel=>exact ⟨k+1,by go_num,by omega,Or.inr (by push_cast;exact hlt)⟩
   case measure=>simp [intOf];omega
  ·go_wp2
   go_ret
   exact ⟨ret_num (show (k:Int)=r by rw [<-HR.out];exact Tr.grp_is hg h0 h1 HK.out (by omega)),box_over _ _⟩
end Tn
end Go.Proofs.YtnchnlgnnlgjcaaGreat
namespace Go.Proofs.YtnchnlgnnlgjcaaGreat
open Go.RowKit
abbrev G3:=Int × Int × List Int
def eGp:El G3:=fun Q w c g=>c 0=some (.int .i32 (Pg.gz g))/\c 1=some (.int .u32 (Pg.gs g))/\∃ A C,c 2=some (.slice A (Pg.gc g).length C)/\SlQ Q 1 (eNum .i64) w A (Pg.gc g)
def ePg:El (List Int × List G3 × List G3):=fun Q w c x=>(∀ j,j<7->c j=some (.int .i64 (Ls.nth x.1 j)))/\(∃ A C,c 7=some (.slice A x.2.1.length C)/\SlQ Q 3 eGp w A x.2.1)/\∃ A C,c 8=some (.slice A x.2.2.length C)/\SlQ Q 3 eGp w A x.2.2
theorem carry_gp:Carries 3 eGp:=fun Q Q' w w' c c' g hk hs hc ⟨h0,h1,A,C,h2,h3⟩=>⟨hc 0 (by decide) _ h0,hc 1 (by decide) _ h1,A,C,hc 2 (by decide) _ h2,h3.carry (carry_num _) hk hs⟩
theorem carry_pg:Carries 9 ePg:=fun Q Q' w w' c c' x hk hs hc ⟨h0,⟨A,C,h1,h2⟩,B,D,h3,h4⟩ =>
 ⟨fun j hj=>hc j (by omega) _ (h0 j hj),⟨A,C,hc 7 (by decide) _ h1,h2.carry carry_gp hk hs⟩,B,D,hc 8 (by decide) _ h3,h4.carry carry_gp hk hs⟩
theorem SlQ.gps {Q:Nat->Prop} {w:World} {a:Option Addr} {l:List G3} (h:SlQ Q 3 eGp w a l):Gps w a l:=fun i hi=>by
 obtain ⟨b,o,e,_,_,c0,c1,A,C,c2,s⟩:=h i hi
 have en:Pg.nth l i=l[i]:=by simp [Pg.nth,hi]
 refine ⟨b,o,A,C,e,?_⟩
 rw [en]
 exact ⟨c0,c1,c2,s.lst⟩
theorem GpsB.slq {B:Nat} {w:World} {a:Option Addr} {l:List G3} (h:GpsB B w a l):SlQ (fun q=>B<=q) 3 eGp w a l:=fun i hi=>by
 obtain ⟨b,o,A,C,e,⟨c0,c1,c2,hL⟩,hb,hA⟩:=h i hi
 have en:Pg.nth l i=l[i]:=by simp [Pg.nth,hi]
 rw [en] at c0 c1 c2 hL
 refine ⟨b,o,e,World.block_lt_of_cell? w _ c0,hb,c0,c1,A,C,c2,fun j hj=>?_⟩
 obtain ⟨b2,o2,e2,hc⟩:=hL j hj
 refine ⟨b2,o2,e2,World.block_lt_of_cell? w _ hc,hA _ e2,?_⟩
 show w.cell? ⟨b2,o2+(j*1+0),none⟩=_
 rw [show o2+(j*1+0)=o2+j by omega,hc]
 simp [Ls.nth,hj]
theorem SlQ.from {α:Type} {E:El α} {Q:Nat->Prop} {s:Nat} {w:World} {a a':Option Addr} {l:List α} (h:SlQ Q s E w a l) (t n:Nat) (ha:t<l.length->∀ b o,a=some ⟨b,o,none⟩->a'=some ⟨b,o+t*s,none⟩):SlQ Q s E w a' ((l.drop t).take n):=fun i hi=>by
 have h1:t+i<l.length:=by rw [List.length_take,List.length_drop] at hi;omega
 obtain ⟨b,o,e,hb,hq,he⟩:=h (t+i) h1
 refine ⟨b,o+t*s,ha (by omega) b o e,hb,hq,?_⟩
 rw [List.getElem_take,List.getElem_drop]
 have ee:(fun j=>w.cell? ⟨b,o+t*s+(i*s+j),none⟩)=fun j=>w.cell? ⟨b,o+((t+i)*s+j),none⟩:=by
  funext j
  rw [show o+t*s+(i*s+j)=o+((t+i)*s+j) by rw [Nat.add_mul];omega]
 rw [ee]
 exact he
namespace Ca
def piece (g:Nat) (L:List Tok) (i:Nat):List Tok:=(L.drop (i*g)).take g
def pg (m0 m1 s0 s1 g D ly hd:Nat) (L:List Tok) (i:Nat):List Int × List G3 × List G3 :=
 ([(m0:Int),m1,g,D,ly,hd,i],Pg.qk s0 D (ksOf (piece g L i) hd),Pg.qv s1 (vsOf (piece g L i) hd))
def pgs (m0 m1 s0 s1 g D ly hd:Nat) (L:List Tok) (n:Nat):List (List Int × List G3 × List G3):=(List.range n).map (pg m0 m1 s0 s1 g D ly hd L)
theorem pgs_succ (m0 m1 s0 s1 g D ly hd:Nat) (L:List Tok) (n:Nat):pgs m0 m1 s0 s1 g D ly hd L (n+1)=pgs m0 m1 s0 s1 g D ly hd L n ++ [pg m0 m1 s0 s1 g D ly hd L n]:=by simp [pgs,List.range_succ]
theorem pgs_length (m0 m1 s0 s1 g D ly hd:Nat) (L:List Tok) (n:Nat):(pgs m0 m1 s0 s1 g D ly hd L n).length=n:=by simp [pgs]
theorem infoPg:(Tryz.prog.info? 139).map (fun i=>(i.zero,i.size,i.bytes))=some (some (.agg #[.int .i64 0,.int .i64 0,.int .i64 0,.int .i64 0,.int .i64 0,.int .i64 0,.int .i64 0,.slice none 0 0,.slice none 0 0]),9,104):=by kernel_rfl
end Ca
end Go.Proofs.YtnchnlgnnlgjcaaGreat
