import Derived.Test.YtnchnlgnnlgjcaaGreatCa03
import Derived.Deep.RegionHeld3
import Derived.Deep.AppendLies
import Derived.Deep.DrawnRows
import Derived.Laws.OwnMore
import Derived.Deep.RegionWith
import Derived.Test.YtnchnlgnnlgjcaaGreatCa02
import Derived.Laws.BytesArg
import Derived.Laws.IdiomStrings
import Derived.Laws.CopyOwn
import Derived.Laws.Cover3
import Derived.Deep.RegionLaw
import Derived.Deep.RegionLawGrows
set_option linter.unusedVariables false
namespace Go.Proofs.YtnchnlgnnlgjcaaGreat
open Go.RowKit
attribute [local go_sem ↓] Go.wp_at_zero Go.wp_at_succ
theorem bitsB_any (b:Int) (q:Bool) (hq:Gp.okB b=q) (w:World) :
 Calls Tryz.prog 81 #[.int .i64 b] w fun e w'=>e=.returned (.bool q)/\w'=w:=by
 rcases ok_or b with h | ⟨n,rfl,h⟩
 ·have e:q=false:=by rw [<-hq];unfold Gp.okB;simp [h.1,h.2.1,h.2.2]
  subst e
  exact bits_no b h w
 ·have e:q=true:=by rw [<-hq];rcases h with rfl | rfl | rfl <;> rfl
  subst e
  exact bits_yes n h w
theorem Pg.rightH_eq (h0 h1 h2 h3 h4 h5 h6:Int):Pg.rightH [h0,h1,h2,h3,h4,h5,h6]=(Gp.okB h0 && Gp.okB h1 && decide (1<=h2) && decide (h2<=16) && decide (1<=h3) && decide (h3<=16) && decide (0<=h4) && decide (h4<=3) && decide (0<=h5) && decide (h5<=3) && decide (0<=h6) && decide (h6<=1023)):=rfl
def Pg.shapeB (l:List (Int × Int × List Int)) (n each:Int):Bool:=decide ((∀ i,i<l.length->((Pg.gc (Pg.nth l i)).length:Int)=each)/\(l.length:Int)=n)
end Go.Proofs.YtnchnlgnnlgjcaaGreat
namespace Go.Proofs.YtnchnlgnnlgjcaaGreat
open Go.RowKit
attribute [local go_sem ↓] Go.wp_at_zero Go.wp_at_succ
namespace Pg
def rightsN (s:Int) (l:List (Int × Int × List Int)):Nat->Int
 | 0=>0
 | k+1=>if rightsN s l k=0 then Gp.right s (gs (nth l k)) (gc (nth l k)) else rightsN s l k
theorem rightsN_ok {s:Int} {l:List (Int × Int × List Int)} {k:Nat} (h:rightsN s l k=0):rightsN s l (k+1)=Gp.right s (gs (nth l k)) (gc (nth l k)):=by simp only [rightsN];rw [if_pos h]
theorem rightsN_bad {s:Int} {l:List (Int × Int × List Int)} {k:Nat} (h:¬ rightsN s l k=0):rightsN s l (k+1)=rightsN s l k:=by simp only [rightsN];rw [if_neg h]
theorem rightsN_stop {s:Int} {l:List (Int × Int × List Int)} {k n:Nat} (h:¬ rightsN s l k=0) (hn:k<=n):rightsN s l n=rightsN s l k:=by
 obtain ⟨d,rfl⟩:=Nat.exists_eq_add_of_le hn
 clear hn
 induction d with
 | zero=>rfl
 | succ d ih=>rw [<-Nat.add_assoc,rightsN_bad (by rw [ih];exact h),ih]
theorem rightsN_all {s:Int} {l:List (Int × Int × List Int)} {k:Nat} (h:rightsN s l k=0) (i:Nat) (hi:i<k):Gp.right s (gs (nth l i)) (gc (nth l i))=0:=by
 induction k with
 | zero=>omega
 | succ k ih =>
   by_cases c:rightsN s l k=0
   ·by_cases e:i=k
    ·subst e;rw [rightsN_ok c] at h;exact h
    ·exact ih c (by omega)
   ·rw [rightsN_bad c] at h;exact absurd h c
def top (b:Int):Int:=if b=2 then 3 else if b=4 then 15 else 255
theorem top_st {b s:Nat} (h:Gp.St b s):top (b:Int)=s:=by rcases h with ⟨rfl,rfl⟩ | ⟨rfl,rfl⟩ | ⟨rfl,rfl⟩ <;> rfl
theorem okB_st {b:Int} (h:Gp.okB b=true):∃ n s:Nat,b=(n:Int)/\Gp.St n s:=by
 rcases okB_or h with rfl | rfl | rfl
 ·exact ⟨2,3,rfl,Or.inl ⟨rfl,rfl⟩⟩
 ·exact ⟨4,15,rfl,Or.inr (Or.inl ⟨rfl,rfl⟩)⟩
 ·exact ⟨8,255,rfl,Or.inr (Or.inr ⟨rfl,rfl⟩)⟩
theorem st_pow {b s:Nat} (h:Gp.St b s):2 ^ b - 1=s:=by rcases h with ⟨rfl,rfl⟩ | ⟨rfl,rfl⟩ | ⟨rfl,rfl⟩ <;> rfl
def newE (h:List Int) (ks vs:List (Int × Int × List Int)):Int :=
 if rightH h=false then 11 else if shapeB ks (Ls.nth h 3) (Ls.nth h 2)=false then 25 else if shapeB vs (Ls.nth h 2) (Ls.nth h 3)=false then 25 else
 if ¬ rightsN (top (Ls.nth h 0)) ks ks.length=0 then rightsN (top (Ls.nth h 0)) ks ks.length else rightsN (top (Ls.nth h 1)) vs vs.length
theorem shapeB_all {l:List (Int × Int × List Int)} {n each:Int} (h:shapeB l n each=true):(∀ i,i<l.length->((gc (nth l i)).length:Int)=each)/\(l.length:Int)=n:=by
 unfold shapeB at h
 simp only [decide_eq_true_eq] at h
 exact h
theorem newE_zero {h:List Int} {ks vs:List (Int × Int × List Int)} (e:newE h ks vs=0):rightH h=true/\shapeB ks (Ls.nth h 3) (Ls.nth h 2)=true/\shapeB vs (Ls.nth h 2) (Ls.nth h 3)=true /\
 rightsN (top (Ls.nth h 0)) ks ks.length=0/\rightsN (top (Ls.nth h 1)) vs vs.length=0:=by
 unfold newE at e
 split at e
 ·cases e
 ·rename_i h1
  split at e
  ·cases e
  ·rename_i h2
   split at e
   ·cases e
   ·rename_i h3
    split at e
    ·rename_i h4;exact absurd e h4
    ·rename_i h4
     exact ⟨by simpa using h1,by simpa using h2,by simpa using h3,by simpa using h4,e⟩
theorem right_fits {b s n:Nat} {g:Int × Int × List Int} (hst:Gp.St b s) (hn:(gc g).length=n) (h0:-2147483648<=gz g) (h1:gz g<=2147483647) (h2:0<=gs g) (h3:gs g<=4294967295) (hr:Gp.right s (gs g) (gc g)=0):Fits b n g:=by
 refine ⟨hn,?_,h0,h1,h2,h3⟩
 intro i
 have hf:=Gp.fits_all (Gp.right_zero hr).2.2
 have hp:=st_pow hst
 have hpos:0<2 ^ b:=Nat.two_pow_pos b
 by_cases hi:i<(gc g).length
 ·have:=hf i hi
  omega
 ·rw [Ls.nth_past (by omega)]
  exact ⟨Int.le_refl _,hpos⟩
theorem newE_page {h:List Int} {ks vs:List (Int × Int × List Int)} (h7:h.length=7) (ik:InG ks) (iv:InG vs) (e:newE h ks vs=0):Page h ks vs:=by
 obtain ⟨hr,sk,sv,rk,rv⟩:=newE_zero e
 obtain ⟨a,b,c,d,f,g,_⟩:=rightH_all hr
 obtain ⟨k1,k2⟩:=shapeB_all sk
 obtain ⟨v1,v2⟩:=shapeB_all sv
 have ok0:Gp.okB (Ls.nth h 0)=true:=by unfold Gp.okB;rcases a with a | a | a <;> simp [a]
 have ok1:Gp.okB (Ls.nth h 1)=true:=by unfold Gp.okB;rcases b with a | a | a <;> simp [a]
 obtain ⟨b0,s0,e0,st0⟩:=okB_st ok0
 obtain ⟨b1,s1,e1,st1⟩:=okB_st ok1
 have hb0:kb h=b0:=by unfold kb;omega
 have hb1:vb h=b1:=by unfold vb;omega
 have t0:top (Ls.nth h 0)=s0:=by rw [e0];exact top_st st0
 have t1:top (Ls.nth h 1)=s1:=by rw [e1];exact top_st st1
 rw [t0] at rk
 rw [t1] at rv
 refine ⟨h7,hr,by unfold dm;omega,by unfold tk;omega,fun i hi=>?_,fun i hi=>?_,fun i hi=>?_,fun i hi=>?_⟩
 ·obtain ⟨q0,q1,q2,q3,_⟩:=ik i hi
  rw [hb0]
  exact right_fits st0 (by have:=k1 i hi;unfold tk;omega) q0 q1 q2 q3 (rightsN_all rk i hi)
 ·obtain ⟨q0,q1,q2,q3,_⟩:=iv i hi
  rw [hb1]
  exact right_fits st1 (by have:=v1 i hi;unfold dm;omega) q0 q1 q2 q3 (rightsN_all rv i hi)
 ·rw [hb0,st_pow st0];exact rightsN_all rk i hi
 ·rw [hb1,st_pow st1];exact rightsN_all rv i hi
theorem newE_vals {h:List Int} {ks vs:List (Int × Int × List Int)} (hr:rightH h=true) (h1:shapeB ks (Ls.nth h 3) (Ls.nth h 2)=true) (h2:shapeB vs (Ls.nth h 2) (Ls.nth h 3)=true) (h3:rightsN (top (Ls.nth h 0)) ks ks.length=0):newE h ks vs=rightsN (top (Ls.nth h 1)) vs vs.length:=by
 unfold newE
 rw [if_neg (by rw [hr];simp),if_neg (by rw [h1];simp),if_neg (by rw [h2];simp),if_neg (by rw [h3];simp)]
end Pg
theorem boxes_cells {w v:World} {X Y:Array Value} {s t:TypeId} (hb:Below ((w.alloc (.cells X s)).alloc (.cells Y t)).heap.size ((w.alloc (.cells X s)).alloc (.cells Y t)) v) :
 (∀ i x,X[i]?=some x->v.cell? ⟨w.heap.size,i,none⟩=some x)/\(∀ i y,Y[i]?=some y->v.cell? ⟨w.heap.size+1,i,none⟩=some y):=by
 refine ⟨fun i x hx=>?_,fun i y hy=>?_⟩
 ·rw [hb.cell (p:=⟨w.heap.size,i,none⟩) (by simp;omega),(box_below (w.alloc (.cells X s)) (.cells Y t)).cell (p:=⟨w.heap.size,i,none⟩) (by simp),cell_of_row _ _ _ _ _ _ (heap_alloc_new w _)]
  exact hx
 ·have:=cell_of_row _ _ i _ _ _ (heap_alloc_new (w.alloc (.cells X s)) (.cells Y t))
  rw [show (w.alloc (.cells X s)).heap.size=w.heap.size+1 by simp] at this
  rw [hb.cell (p:=⟨w.heap.size+1,i,none⟩) (by simp),this]
  exact hy
end Go.Proofs.YtnchnlgnnlgjcaaGreat
namespace Go.Proofs.YtnchnlgnnlgjcaaGreat
open Go.RowKit
theorem div_cast {v:Int} (h0:0<=v) (s:Nat):v / 2 ^ s=((v.toNat / 2 ^ s:Nat):Int):=by
 rw [Int.natCast_ediv,Int.natCast_pow]
 congr 1
 omega
theorem and_low {x:Int} {b m q n:Nat} (hb:b<=8) (hm:2 ^ b - 1=m) (hx:x % 18446744073709551616=((n % 18446744073709551616:Nat):Int)) (hq:n % 2 ^ b=q):bits .and .i64 x m=q:=by
 have p8:2 ^ b<=256:=Pk.two_le (t:=8) hb
 have p0:=Nat.two_pow_pos b
 have hq8:q<2 ^ b:=by rw [<-hq];exact Nat.mod_lt _ p0
 have e1:(BitVec.ofInt 64 x).toNat=n % 18446744073709551616:=by
  rw [BitVec.toNat_ofInt]
  show (x % 18446744073709551616).toNat=_
  rw [hx]
  rfl
 have e2:(BitVec.ofInt 64 (m:Int)).toNat=2 ^ b - 1:=by
  rw [BitVec.toNat_ofInt,hm]
  show ((m:Int) % 18446744073709551616).toNat=_
  omega
 show IntKind.i64.wrap ((BitVec.ofInt 64 x &&& BitVec.ofInt 64 (m:Int)).toNat:Int)=_
 rw [BitVec.toNat_and,e1,e2,Nat.and_two_pow_sub_one_eq_mod,<-Pk.two_64,Nat.mod_mod_of_dvd _ (Nat.pow_dvd_pow 2 (show b<=64 by omega)),hq,IntKind.wrap_i64]
 omega
theorem wrap_low (n:Nat):wrap64 (n:Int) % 18446744073709551616=((n % 18446744073709551616:Nat):Int):=by
 unfold wrap64
 omega
theorem and_mask {v:Int} {s b m q:Nat} (h0:0<=v) (hb:b<=8) (hm:2 ^ b - 1=m) (hq:v.toNat / 2 ^ s % 2 ^ b=q):bits .and .i64 (wrap64 (v / 2 ^ s)) m=q:=by
 have e:=div_cast h0 s
 obtain ⟨n,en⟩:∃ n,v.toNat / 2 ^ s=n:=⟨_,rfl⟩
 rw [en] at hq e
 rw [e]
 exact and_low hb hm (wrap_low n) hq
theorem lane_ok (a:Option Addr) (c i b:Nat) (ws:List Int) (h:Pk.Ok b) (hi:i<=9223372036854775807) (hf:Pk.word b i<ws.length) (w:World) (ha:Lst .u64 w a ws) (hw:Pk.Wds ws) :
 Calls Tryz.prog 144 #[.slice a ws.length c,.int .i64 i,.int .i64 b] w fun e w'=>e=.returned (.int .i64 (Pk.lane b ws i:Nat))/\∃ n,w'=w.drewN n:=by
 have H:Hid (Pk.Ok b):=h
 have hs:=Pk.shift_le i h
 have hb:=ok_le h
 obtain ⟨b1,o1,rfl,hc1⟩:=ha.get hf
 have hc:=hc1 _ hf
 have hv:=hw (Pk.word b i)
 obtain ⟨q,eq⟩:∃ q,Pk.lane b ws i=q:=⟨_,rfl⟩
 rw [eq]
 unfold Pk.lane at eq
 clear h ha hw hc1
 obtain ⟨t,et⟩:∃ t,Pk.word b i=t:=⟨_,rfl⟩
 have ET:Hid (Pk.word b i=t):=et
 obtain ⟨s,es⟩:∃ s,Pk.shift b i=s:=⟨_,rfl⟩
 have ES:Hid (Pk.shift b i=s):=es
 obtain ⟨m,em⟩:∃ m,2 ^ b - 1=m:=⟨_,rfl⟩
 have EM:Hid (2 ^ b - 1=m):=em
 rw [et] at hf hc hv eq
 rw [es] at hs eq
 obtain ⟨v,ev⟩:∃ v,Ls.nth ws t=v:=⟨_,rfl⟩
 rw [ev] at hc hv eq
 have EQ:Hid (v.toNat / 2 ^ s % 2 ^ b=q):=eq
 clear et es em ev eq
 go_enter Tryz.func144,Tryz.ntmps144
 go_wp2_with (first
  | (go_at_call 81;refine (bits_yes _ H.out _).mono ?_;rintro e w' ⟨rfl,rfl⟩)
  | (go_at_call 162;refine (place_any _ _ t s H.out (by omega) ET.out ES.out _).mono ?_;rintro e w' ⟨rfl,n,rfl⟩))
 go_quiet ((go_at_call 163;exact (mask_any _ m H.out EM.out _).mono fun _ _ ⟨he,hw⟩=>⟨he,_,hw⟩))
 go_wp2
 go_ret
 exact ⟨ret_num (and_mask hv.1 hb.2 EM.out EQ.out),_,World.drewN_drewN _ _ _⟩
end Go.Proofs.YtnchnlgnnlgjcaaGreat
namespace Go.Proofs.YtnchnlgnnlgjcaaGreat
open Go.RowKit
theorem Tryz.infoU64:(Tryz.prog.info? 183).map (fun i=>(i.zero,i.size,i.bytes))=some (some (.int .u64 0),1,8):=by kernel_rfl
theorem or_top {a c s:Nat} (ha:a<2 ^ s) (h:a+c*2 ^ s<18446744073709551616):bits .or .u64 (a:Int) ((c*2 ^ s:Nat):Int)=((a+c*2 ^ s:Nat):Int):=by
 have e:=Nat.two_pow_add_eq_or_of_lt ha c
 have e1:(BitVec.ofInt 64 (a:Int)).toNat=a:=by
  rw [BitVec.toNat_ofInt]
  show ((a:Int) % 18446744073709551616).toNat=_
  omega
 have e2:(BitVec.ofInt 64 ((c*2 ^ s:Nat):Int)).toNat=c*2 ^ s:=by
  obtain ⟨x,ex⟩:∃ x,c*2 ^ s=x:=⟨_,rfl⟩
  rw [ex] at h
  rw [BitVec.toNat_ofInt,ex]
  show ((x:Int) % 18446744073709551616).toNat=_
  omega
 show IntKind.u64.wrap ((BitVec.ofInt 64 (a:Int) ||| BitVec.ofInt 64 ((c*2 ^ s:Nat):Int)).toNat:Int)=_
 rw [BitVec.toNat_or,e1,e2,Nat.or_comm,Nat.mul_comm,<-e,Nat.mul_comm,Nat.add_comm,IntKind.wrap_u64]
 omega
theorem u64_same {n:Int} (h1:0<=n) (h2:n<18446744073709551616):IntKind.u64.wrap n=n:=by rw [IntKind.wrap_u64];omega
def upTo (b:Nat) (l:List Int) (k t:Nat):Value:=.int .u64 (Pk.acc b l t k:Nat)
theorem upTo_set {b:Nat} {l:List Int} {k t A X:Nat} (ht:Pk.word b k=t) (hA:Pk.acc b l t k=A) (hX:(Ls.nth l k).toNat*2 ^ Pk.shift b k=X) (j:Nat) :
 (if j=t then Value.int .u64 ((A+X:Nat):Int) else upTo b l k j)=upTo b l (k+1) j:=by
 unfold upTo
 by_cases e:j=t
 ·subst e
  rw [if_pos rfl,Pk.acc_here ht,hA,hX]
 ·rw [if_neg e,Pk.acc_else (by omega)]
theorem pack_ok (a:Option Addr) (c b:Nat) (l:List Int) (h:Pk.Ok b) (hl:l.length<=256) (w:World) (ha:Lst .i64 w a l) (hc:Pk.Cds b l) :
 Calls Tryz.prog 169 #[.slice a l.length c,.int .i64 b] w fun e w'=>∃ g,e=.returned (.tuple #[.slice (some ⟨g,0,none⟩) (Pk.size b l.length) (Pk.size b l.length),.int .i64 0])/\w.heap.size<=g /\
  Lst .u64 w' (some ⟨g,0,none⟩) (Pk.pack b l)/\Below w.heap.size w w':=by
 have H:Hid (Pk.Ok b):=h
 have HA:Hid (Lst .i64 w a l):=ha
 have HC:Hid (Pk.Cds b l):=hc
 have p0:=Nat.two_pow_pos b
 have hb:=ok_le h
 have hz:=Pk.size_le h hl
 obtain ⟨z,ez⟩:∃ z,Pk.size b l.length=z:=⟨_,rfl⟩
 have EZ:Hid (Pk.size b l.length=z):=ez
 rw [ez] at hz
 rw [ez]
 obtain ⟨m,em⟩:∃ m,2 ^ b - 1=m:=⟨_,rfl⟩
 have EM:Hid (2 ^ b - 1=m):=em
 have EP:Hid (2 ^ b=m+1):=by show _=_;omega
 have hmk:=run_make_row' (P:=Tryz.prog) 178 183 (.int .u64 0) 8 Tryz.underlying178 Tryz.infoU64 rfl .i64 .i64 z (by omega) (by omega)
 clear h ha hc em p0 ez
 go_enter Tryz.func169,Tryz.ntmps169
 go_wp2_with (first
  | (go_at_call 81;refine (bits_yes _ H.out _).mono ?_;rintro e w' ⟨rfl,hww⟩;cases hww.symm;clear hww)
  | (go_at_call 173;refine (countable_yes _ (by omega) (by omega) _).mono ?_;rintro e w' ⟨rfl,hww⟩;cases hww.symm;clear hww))
 go_loop [22] (fun i=>∃ k:Nat,k<=l.length/\i=.int .i64 k) (fun i=>l.length - (intOf i).toNat)
 case atStart=>exact ⟨0,Nat.zero_le _,rfl⟩
 case round =>
  obtain ⟨k,hk,rfl⟩:=hrel
  by_cases hlt:k<l.length
  ·obtain ⟨b1,o1,rfl,hc1⟩:=HA.out.get hlt
   have hck1:=hc1 k hlt
   clear hc1 hmk
   have hcd:=HC.out k
   rw [EP.out] at hcd
   go_wp2_with (go_at_call 163;refine (mask_any _ m H.out EM.out _).mono ?_;rintro e w' ⟨rfl,hww⟩;cases hww.symm;clear hww)
   go_round
   case rel=>exact ⟨k+1,by omega,by go_num⟩
   case measure=>simp [intOf];omega
  ·have e:k=l.length:=by omega
   subst e
   clear hk hlt
   go_wp2_with (go_at_call 174;refine (words_yes _ _ H.out hl _).mono ?_;rintro e w' ⟨rfl,hww⟩;cases hww.symm;clear hww;rw [EZ.out])
   clear hmk
   go_loopw [42] (fun i wr=>∃ k:Nat,k<=l.length/\i=.int .i64 k/\wr.rowIs w.heap.size 183 z (upTo b l k)/\Below w.heap.size w wr) (fun i _=>l.length - (intOf i).toNat)
   case atStart=>exact ⟨0,Nat.zero_le _,rfl,(World.rowIs_made w (.int .u64 0) z 183).congr (fun j hj=>rfl),(Below.refl _ _).alloc (Nat.le_refl _) _⟩
   case round =>
    obtain ⟨k,hk,rfl,hrow,hbel⟩:=hrel
    by_cases hlt:k<l.length
    ·obtain ⟨b1,o1,rfl,hc1⟩:=(HA.out.keep hbel).get hlt
     have hck1:=hc1 k hlt
     have hcd:=HC.out k
     have hs:=Pk.shift_le k H.out
     have hts:=Pk.word_size H.out hlt
     have hlo:=(Pk.acc_low (Pk.word b k) k H.out HC.out).2.1 rfl
     have hup:=Pk.on_top hlo hcd.2
     have h64:2 ^ (Pk.shift b k+b)<=18446744073709551616:=by rw [<-Pk.two_64];exact Pk.two_le hs
     obtain ⟨t,et⟩:∃ t,Pk.word b k=t:=⟨_,rfl⟩
     have ET:Hid (Pk.word b k=t):=et
     obtain ⟨s,es⟩:∃ s,Pk.shift b k=s:=⟨_,rfl⟩
     have ES:Hid (Pk.shift b k=s):=es
     rw [et] at hlo hup hts
     rw [es] at hlo hup hs h64
     rw [EZ.out] at hts
     have hcg0:=hrow.cell hts
     have hfg:=hrow.frozen t
     have hor:=or_top hlo (Nat.lt_of_lt_of_le hup h64)
     obtain ⟨C,eC⟩:∃ C,(Ls.nth l k).toNat=C:=⟨_,rfl⟩
     have eC2:Ls.nth l k=(C:Int):=by omega
     obtain ⟨A,eA⟩:∃ A,Pk.acc b l t k=A:=⟨_,rfl⟩
     have EA:Hid (Pk.acc b l t k=A):=eA
     have hcg:wr.cell? ⟨w.heap.size,t,none⟩=some (.int .u64 (A:Int)):=by rw [hcg0];unfold upTo;rw [eA]
     rw [eC] at hor hup
     rw [eA] at hor hup
     have hmul:(C:Int)*2 ^ s=((C*2 ^ s:Nat):Int):=by rw [Int.natCast_mul,Int.natCast_pow];rfl
     obtain ⟨X,eX⟩:∃ X,C*2 ^ s=X:=⟨_,rfl⟩
     have EX:Hid ((Ls.nth l k).toNat*2 ^ Pk.shift b k=X):=by show _=_;rw [eC,es,eX]
     rw [eX] at hor hup hmul
     rw [eC2] at hck1
     have hAX:A+X<18446744073709551616:=by omega
     have hX:X<18446744073709551616:=by omega
     have hC:C<18446744073709551616:=by
      have hp:C<2 ^ b:=by rw [<-eC];exact hcd.2
      have hp8:2 ^ b<=2 ^ 8:=Pk.two_le hb.2
      omega
     have q1:=u64_same (n:=(C:Int)) (by omega) (by omega)
     have q2:IntKind.u64.wrap ((C:Int)*2 ^ s)=(X:Int):=by rw [hmul];exact u64_same (by omega) (by omega)
     have HR:Hid (wr.rowIs w.heap.size 183 z (upTo b l k)):=hrow
     have HB:Hid (Below w.heap.size w wr):=hbel
     clear hc1 hrow hbel et es eC eC2 eA eX hcd hlo hup h64 hcg0 hmul
     have e0:(0:Int)<=(t:Int):=by omega
     have e1:(t:Int)<(z:Int):=by omega
     go_wp2_with (go_at_call 162;refine (place_any _ _ t s H.out (by omega) ET.out ES.out _).mono ?_;rintro e w' ⟨rfl,n,hww⟩;cases hww.symm;clear hww)
     go_region
     all_goals go_wp2
     all_goals go_roundw
     case rel=>exact ⟨k+1,by omega,by go_num,(HR.out.set t _).drew.congr (fun j hj=>upTo_set ET.out EA.out EX.out j),(below_drewN HB.out (n+1)).setCell (by simp) _⟩
     case measure=>simp [intOf];omega
    ·go_wp2
     go_ret2
     have e:k=l.length:=by omega
     subst e
     refine ⟨w.heap.size,rfl,Nat.le_refl _,?_,hbel⟩
     refine lst_of_row (f:=upTo b l l.length) (t:=183) (by rw [Pk.pack_length,EZ.out];exact hrow) (fun i hi=>?_)
     rw [Pk.pack_length] at hi
     rw [Pk.nth_pack hi]
     rfl
end Go.Proofs.YtnchnlgnnlgjcaaGreat
namespace Go.Proofs.YtnchnlgnnlgjcaaGreat
open Go.RowKit
theorem slice_nil {P:Program} (w:World) (t e:TypeId) (a:Option Addr) (l c:Nat) (h:P.underlying t=some (.slice e)):(binOp .eql t (.slice a l c) (.slice none 0 0)).run P w=.ok (.bool a.isNone) w:=by
 simp only [binOp]
 simp [run_equal_slice_nil w t e a l c h]
theorem box_over (w:World) (o:Obj):Below w.heap.size w (w.alloc o):=(Below.refl _ _).alloc (Nat.le_refl _) o
end Go.Proofs.YtnchnlgnnlgjcaaGreat
namespace Go.Proofs.YtnchnlgnnlgjcaaGreat
open Go.RowKit
attribute [local go_sem ↓] Go.wp_at_zero Go.wp_at_succ
def Pg.key (ks:List (Int × Int × List Int)) (t:Nat):List Int:=Ls.gen ks.length fun i=>Gp.mean (Pg.gz (Pg.nth ks i)) (Pg.gs (Pg.nth ks i)) (Ls.nth (Pg.gc (Pg.nth ks i)) t)
theorem Pg.key_length (ks:List (Int × Int × List Int)) (t:Nat):(Pg.key ks t).length=ks.length:=Ls.gen_length _ _
def Pg.Deep (n:Nat) (l:List (Int × Int × List Int)):Prop:=∀ i,i<l.length->(Pg.gc (Pg.nth l i)).length=n/\Gp.fits 255 (Pg.gc (Pg.nth l i))=true/\-2147483648<=Pg.gz (Pg.nth l i)/\Pg.gz (Pg.nth l i)<=2147483647/\0<=Pg.gs (Pg.nth l i)/\Pg.gs (Pg.nth l i)<=4294967295
theorem Pg.deep_of {b n:Nat} {l:List (Int × Int × List Int)} (hb:b=2\/b=4\/b=8) (h:Pg.AllFit b n l):Pg.Deep n l:=fun i hi=>by
 obtain ⟨h1,h2,h3,h4,h5,h6⟩:=h i hi
 refine ⟨h1,Gp.fits_yes fun j hj=>?_,h3,h4,h5,h6⟩
 have:=h2 j
 have hp:2 ^ b<=256:=by rcases hb with rfl | rfl | rfl <;> decide
 omega
end Go.Proofs.YtnchnlgnnlgjcaaGreat
namespace Go.Proofs.YtnchnlgnnlgjcaaGreat
open Go.RowKit
attribute [local go_sem ↓] Go.wp_at_zero Go.wp_at_succ
def Pg.shapedB (ls:List (List Int)) (n d:Int):Bool:=decide ((∀ i,i<ls.length->((Tb.row ls i).length:Int)=d)/\(ls.length:Int)=n)
end Go.Proofs.YtnchnlgnnlgjcaaGreat
namespace Go.Proofs.YtnchnlgnnlgjcaaGreat
open Go.RowKit
attribute [local go_sem ↓] Go.wp_at_zero Go.wp_at_succ
theorem Lst.set_otherP {k:IntKind} {w:World} {a:Option Addr} {l:List Int} (h:Lst k w a l) {p:Addr} (hp:∀ x,a=some x->¬ x.block=p.block) (v:Value):Lst k (w.setCell p v) a l:=fun i hi=>by
 obtain ⟨b,o,e,hc⟩:=h i hi
 refine ⟨b,o,e,?_⟩
 rw [World.cell?_of_block (Go.Deep.blk_setCell_other w p v b (hp ⟨b,o,none⟩ e))]
 exact hc
end Go.Proofs.YtnchnlgnnlgjcaaGreat
namespace Go.Proofs.YtnchnlgnnlgjcaaGreat
open Go.RowKit
theorem run_make_rows {P:Program} (t e:TypeId) (z:Value) (zs:Array Value) (m bytes:Nat) (hzs:z.cells=zs) (ht:P.underlying t=some (.slice e)) (hinfo:(P.info? e).map (fun i=>(i.zero,i.size,i.bytes))=some (some z,m,bytes)) (kl kc:IntKind) (n:Nat) (hb:bytes*n<=281474976710656) (h63:n<=9223372036854775807) :
 ∀ w:World,(Instr.makeSlice t (.int kl (n:Int)) (.int kc (n:Int))).run P w=.ok (.slice (some ⟨w.heap.size,0,none⟩) n n) (w.alloc (.cells (madeCells zs (n*m)) e)):=by
 subst hzs
 obtain ⟨i,hi,h1,h2,h3⟩:=info_parts hinfo
 intro w
 have hb':(i.bytes:Int)*(n:Int)<=281474976710656:=by
  rw [h3]
  have h:((bytes*n:Nat):Int)<=281474976710656:=by omega
  rwa [Int.natCast_mul] at h
 have hr:=run_make (P:=P) w t e i z ht hi h1 kl kc n n (by omega) (Int.le_refl _) hb' (by omega)
 simp only [Int.toNat_natCast] at hr
 rw [hr,h2]
theorem row_made (w:World) (zs:Array Value) (N:Nat) (t:TypeId):(w.alloc (.cells (madeCells zs N) t)).rowIs w.heap.size t N (fun j=>zs[j % zs.size]!) :=
 ⟨_,heap_alloc_new _ _,size_madeCells _ _,fun i hi=>by simp [madeCells,hi]⟩
theorem row_keep {w w':World} {g:Nat} {t:TypeId} {N:Nat} {f:Nat->Value} (h:w.rowIs g t N f) (hb:Below w.heap.size w w'):w'.rowIs g t N f:=World.rowIs.of_block h (hb.block g h.lt)
def GRow (w:World) (g:Nat) (t:TypeId) (N:Nat) (l:List (Int × Int × List Int)) (k:Nat):Prop :=
 ∃ f,w.rowIs g t N f/\∀ i,i<k->∃ a c,f (i*3)=.int .i32 (Pg.gz (Pg.nth l i))/\f (i*3+1)=.int .u32 (Pg.gs (Pg.nth l i))/\f (i*3+2)=.slice a (Pg.gc (Pg.nth l i)).length c/\Lst .i64 w a (Pg.gc (Pg.nth l i))/\∀ x,a=some x->g<x.block
theorem GRow.made (w:World) (zs:Array Value) (N:Nat) (t:TypeId) (l:List (Int × Int × List Int)):GRow (w.alloc (.cells (madeCells zs N) t)) w.heap.size t N l 0:=⟨_,row_made w zs N t,fun i hi=>by omega⟩
theorem GRow.keep {w w':World} {g:Nat} {t:TypeId} {N:Nat} {l:List (Int × Int × List Int)} {k:Nat} (h:GRow w g t N l k) (hb:Below w.heap.size w w'):GRow w' g t N l k:=by
 obtain ⟨f,hr,hc⟩:=h
 refine ⟨f,row_keep hr hb,fun i hi=>?_⟩
 obtain ⟨a,c,h0,h1,h2,h3,h4⟩:=hc i hi
 exact ⟨a,c,h0,h1,h2,h3.keep hb,h4⟩
theorem GRow.lt {w:World} {g:Nat} {t:TypeId} {N:Nat} {l:List (Int × Int × List Int)} {k:Nat} (h:GRow w g t N l k):g<w.heap.size:=by
 obtain ⟨f,hr,_⟩:=h
 exact hr.lt
theorem GRow.room {w:World} {g:Nat} {t:TypeId} {N:Nat} {l:List (Int × Int × List Int)} {k:Nat} (h:GRow w g t N l k):∃ f,w.rowIs g t N f:=by
 obtain ⟨f,hr,_⟩:=h
 exact ⟨f,hr⟩
theorem GRow.step {w:World} {g:Nat} {t:TypeId} {N:Nat} {l:List (Int × Int × List Int)} {k:Nat} (h:GRow w g t N l k) {a:Option Addr} {c n:Nat} {z sc:Int} (ez:Pg.gz (Pg.nth l k)=z) (es:Pg.gs (Pg.nth l k)=sc) (en:(Pg.gc (Pg.nth l k)).length=n) (hl:Lst .i64 w a (Pg.gc (Pg.nth l k))) (hx:∀ x,a=some x->g<x.block) :
 GRow (((w.setCell ⟨g,k*3,none⟩ (.int .i32 z)).setCell ⟨g,k*3+1,none⟩ (.int .u32 sc)).setCell ⟨g,k*3+2,none⟩ (.slice a n c)) g t N l (k+1):=by
 obtain ⟨f,hr,hc⟩:=h
 have other:∀ (b:Option Addr) (m:List Int),Lst .i64 w b m->(∀ x,b=some x->g<x.block)->Lst .i64 (((w.setCell ⟨g,k*3,none⟩ (.int .i32 z)).setCell ⟨g,k*3+1,none⟩ (.int .u32 sc)).setCell ⟨g,k*3+2,none⟩ (.slice a n c)) b m:=fun b m hb hg =>
  ((hb.set_otherP (p:=⟨g,k*3,none⟩) (fun x e=>by have:=hg x e;show ¬ x.block=g;omega) _).set_otherP (p:=⟨g,k*3+1,none⟩) (fun x e=>by have:=hg x e;show ¬ x.block=g;omega) _).set_otherP (p:=⟨g,k*3+2,none⟩) (fun x e=>by have:=hg x e;show ¬ x.block=g;omega) _
 refine ⟨_,((hr.set (k*3) _).set (k*3+1) _).set (k*3+2) _,fun i hi=>?_⟩
 by_cases e:i=k
 ·subst e
  refine ⟨a,c,?_,?_,?_,other a _ hl hx,hx⟩
  ·rw [if_neg (by omega),if_neg (by omega),if_pos rfl,ez]
  ·rw [if_neg (by omega),if_pos rfl,es]
  ·rw [if_pos rfl,en]
 ·obtain ⟨a',c',h0,h1,h2,h3,h4⟩:=hc i (by omega)
  refine ⟨a',c',?_,?_,?_,other a' _ h3 h4,h4⟩
  ·rw [if_neg (by omega),if_neg (by omega),if_neg (by omega),h0]
  ·rw [if_neg (by omega),if_neg (by omega),if_neg (by omega),h1]
  ·rw [if_neg (by omega),if_neg (by omega),if_neg (by omega),h2]
theorem GRow.gps {w:World} {g:Nat} {t:TypeId} {N:Nat} {l:List (Int × Int × List Int)} (h:GRow w g t N l l.length) (hN:N=l.length*3):Gps w (some ⟨g,0,none⟩) l:=by
 obtain ⟨f,hr,hc⟩:=h
 intro i hi
 obtain ⟨a,c,h0,h1,h2,h3,_⟩:=hc i hi
 refine ⟨g,0,a,c,rfl,?_,?_,?_,h3⟩
 ·rw [Nat.zero_add,hr.cell (by omega),h0]
 ·rw [Nat.zero_add,hr.cell (by omega),h1]
 ·rw [Nat.zero_add,hr.cell (by omega),h2]
def PkAt (w:World) (g i b:Nat) (x:Int × Int × List Int) (a:Option Addr) (c:Nat):Prop :=
 w.cell? ⟨g,i*4,none⟩=some (.int .i32 (Pg.gz x))/\w.cell? ⟨g,i*4+1,none⟩=some (.int .u32 (Pg.gs x))/\w.cell? ⟨g,i*4+2,none⟩=some (.slice none 0 0)/\w.cell? ⟨g,i*4+3,none⟩=some (.slice a (Pk.size b (Pg.gc x).length) c)/\Lst .u64 w a (Pk.pack b (Pg.gc x))
def Pks (w:World) (g b:Nat) (l:List (Int × Int × List Int)):Prop:=∀ i,i<l.length->∃ a c,PkAt w g i b (Pg.nth l i) a c
theorem PkAt.keep {w w':World} {g i b:Nat} {x:Int × Int × List Int} {a:Option Addr} {c:Nat} (h:PkAt w g i b x a c) (hb:Below w.heap.size w w'):PkAt w' g i b x a c:=by
 obtain ⟨h0,h1,h2,h3,h4⟩:=h
 refine ⟨?_,?_,?_,?_,h4.keep hb⟩
 ·rw [hb.cell (p:=⟨g,i*4,none⟩) (World.block_lt_of_cell? w _ h0)];exact h0
 ·rw [hb.cell (p:=⟨g,i*4+1,none⟩) (World.block_lt_of_cell? w _ h1)];exact h1
 ·rw [hb.cell (p:=⟨g,i*4+2,none⟩) (World.block_lt_of_cell? w _ h2)];exact h2
 ·rw [hb.cell (p:=⟨g,i*4+3,none⟩) (World.block_lt_of_cell? w _ h3)];exact h3
theorem Pks.keep {w w':World} {g b:Nat} {l:List (Int × Int × List Int)} (h:Pks w g b l) (hb:Below w.heap.size w w'):Pks w' g b l:=fun i hi=>by
 obtain ⟨a,c,h'⟩:=h i hi
 exact ⟨a,c,h'.keep hb⟩
def PRow (w:World) (g:Nat) (t:TypeId) (N b:Nat) (l:List (Int × Int × List Int)) (k:Nat):Prop :=
 ∃ f,w.rowIs g t N f/\∀ i,i<k->∃ a c,f (i*4)=.int .i32 (Pg.gz (Pg.nth l i))/\f (i*4+1)=.int .u32 (Pg.gs (Pg.nth l i))/\f (i*4+2)=.slice none 0 0/\f (i*4+3)=.slice a (Pk.size b (Pg.gc (Pg.nth l i)).length) c/\Lst .u64 w a (Pk.pack b (Pg.gc (Pg.nth l i)))/\∀ x,a=some x->g<x.block
theorem PRow.made (w:World) (zs:Array Value) (N b:Nat) (t:TypeId) (l:List (Int × Int × List Int)):PRow (w.alloc (.cells (madeCells zs N) t)) w.heap.size t N b l 0:=⟨_,row_made w zs N t,fun i hi=>by omega⟩
theorem PRow.keep {w w':World} {g:Nat} {t:TypeId} {N b:Nat} {l:List (Int × Int × List Int)} {k:Nat} (h:PRow w g t N b l k) (hb:Below w.heap.size w w'):PRow w' g t N b l k:=by
 obtain ⟨f,hr,hc⟩:=h
 refine ⟨f,row_keep hr hb,fun i hi=>?_⟩
 obtain ⟨a,c,h0,h1,h2,h3,h4,h5⟩:=hc i hi
 exact ⟨a,c,h0,h1,h2,h3,h4.keep hb,h5⟩
theorem PRow.lt {w:World} {g:Nat} {t:TypeId} {N b:Nat} {l:List (Int × Int × List Int)} {k:Nat} (h:PRow w g t N b l k):g<w.heap.size:=by
 obtain ⟨f,hr,_⟩:=h
 exact hr.lt
theorem PRow.room {w:World} {g:Nat} {t:TypeId} {N b:Nat} {l:List (Int × Int × List Int)} {k:Nat} (h:PRow w g t N b l k):∃ f,w.rowIs g t N f:=by
 obtain ⟨f,hr,_⟩:=h
 exact ⟨f,hr⟩
theorem PRow.step {w:World} {g:Nat} {t:TypeId} {N b:Nat} {l:List (Int × Int × List Int)} {k:Nat} (h:PRow w g t N b l k) {a:Option Addr} {c n:Nat} {z sc:Int} (ez:Pg.gz (Pg.nth l k)=z) (es:Pg.gs (Pg.nth l k)=sc) (en:Pk.size b (Pg.gc (Pg.nth l k)).length=n) (hl:Lst .u64 w a (Pk.pack b (Pg.gc (Pg.nth l k)))) (hx:∀ x,a=some x->g<x.block) :
 PRow ((((w.setCell ⟨g,k*4,none⟩ (.int .i32 z)).setCell ⟨g,k*4+1,none⟩ (.int .u32 sc)).setCell ⟨g,k*4+2,none⟩ (.slice none 0 0)).setCell ⟨g,k*4+3,none⟩ (.slice a n c)) g t N b l (k+1):=by
 obtain ⟨f,hr,hc⟩:=h
 have other:∀ (y:Option Addr) (m:List Int),Lst .u64 w y m->(∀ x,y=some x->g<x.block)->Lst .u64 ((((w.setCell ⟨g,k*4,none⟩ (.int .i32 z)).setCell ⟨g,k*4+1,none⟩ (.int .u32 sc)).setCell ⟨g,k*4+2,none⟩ (.slice none 0 0)).setCell ⟨g,k*4+3,none⟩ (.slice a n c)) y m:=fun y m hb hg =>
  (((hb.set_otherP (p:=⟨g,k*4,none⟩) (fun x e=>by have:=hg x e;show ¬ x.block=g;omega) _).set_otherP (p:=⟨g,k*4+1,none⟩) (fun x e=>by have:=hg x e;show ¬ x.block=g;omega) _).set_otherP (p:=⟨g,k*4+2,none⟩) (fun x e=>by have:=hg x e;show ¬ x.block=g;omega) _).set_otherP (p:=⟨g,k*4+3,none⟩) (fun x e=>by have:=hg x e;show ¬ x.block=g;omega) _
 refine ⟨_,(((hr.set (k*4) _).set (k*4+1) _).set (k*4+2) _).set (k*4+3) _,fun i hi=>?_⟩
 by_cases e:i=k
 ·subst e
  refine ⟨a,c,?_,?_,?_,?_,other a _ hl hx,hx⟩
  ·rw [if_neg (by omega),if_neg (by omega),if_neg (by omega),if_pos rfl,ez]
  ·rw [if_neg (by omega),if_neg (by omega),if_pos rfl,es]
  ·rw [if_neg (by omega),if_pos rfl]
  ·rw [if_pos rfl,en]
 ·obtain ⟨a',c',h0,h1,h2,h3,h4,h5⟩:=hc i (by omega)
  refine ⟨a',c',?_,?_,?_,?_,other a' _ h4 h5,h5⟩
  ·rw [if_neg (by omega),if_neg (by omega),if_neg (by omega),if_neg (by omega),h0]
  ·rw [if_neg (by omega),if_neg (by omega),if_neg (by omega),if_neg (by omega),h1]
  ·rw [if_neg (by omega),if_neg (by omega),if_neg (by omega),if_neg (by omega),h2]
  ·rw [if_neg (by omega),if_neg (by omega),if_neg (by omega),if_neg (by omega),h3]
theorem PRow.pks {w:World} {g:Nat} {t:TypeId} {N b:Nat} {l:List (Int × Int × List Int)} (h:PRow w g t N b l l.length) (hN:N=l.length*4):Pks w g b l:=by
 obtain ⟨f,hr,hc⟩:=h
 intro i hi
 obtain ⟨a,c,h0,h1,h2,h3,h4,_⟩:=hc i hi
 refine ⟨a,c,?_,?_,?_,?_,h4⟩
 ·rw [hr.cell (by omega),h0]
 ·rw [hr.cell (by omega),h1]
 ·rw [hr.cell (by omega),h2]
 ·rw [hr.cell (by omega),h3]
def pgc (m0 m1 n d:Nat) (h4 h5 h6:Int) (v7 v8:Value) (i:Nat):Value :=
 if i=0 then .int .i64 m0 else if i=1 then .int .i64 m1 else if i=2 then .int .i64 n else if i=3 then .int .i64 d else if i=4 then .int .i64 h4 else if i=5 then .int .i64 h5 else if i=6 then .int .i64 h6 else if i=7 then v7 else v8
def PageAt (w:World) (p m0 m1 n d:Nat) (h4 h5 h6:Int) (ks vs:List (Int × Int × List Int)):Prop :=
 ∃ g1 g2,w.rowIs p 176 9 (pgc m0 m1 n d h4 h5 h6 (.slice (some ⟨g1,0,none⟩) d d) (.slice (some ⟨g2,0,none⟩) n n))/\Pks w g1 m0 ks/\Pks w g2 m1 vs/\Pg.Page [(m0:Int),m1,n,d,h4,h5,h6] ks vs
theorem PageAt.keep {w w':World} {p m0 m1 n d:Nat} {h4 h5 h6:Int} {ks vs:List (Int × Int × List Int)} (h:PageAt w p m0 m1 n d h4 h5 h6 ks vs) (hb:Below w.heap.size w w'):PageAt w' p m0 m1 n d h4 h5 h6 ks vs:=by
 obtain ⟨g1,g2,hr,hk,hv,hp⟩:=h
 exact ⟨g1,g2,row_keep hr hb,hk.keep hb,hv.keep hb,hp⟩
theorem PageAt.lt {w:World} {p m0 m1 n d:Nat} {h4 h5 h6:Int} {ks vs:List (Int × Int × List Int)} (h:PageAt w p m0 m1 n d h4 h5 h6 ks vs):p<w.heap.size:=by
 obtain ⟨g1,g2,hr,_⟩:=h
 exact hr.lt
end Go.Proofs.YtnchnlgnnlgjcaaGreat
