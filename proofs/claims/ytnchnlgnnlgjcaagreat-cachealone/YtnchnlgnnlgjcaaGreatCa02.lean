import Derived.Test.YtnchnlgnnlgjcaaGreatCa01
import Derived.Test.YtnchnlgnnlgjcaaGreatRows
import Derived.ChangeArms
import Derived.WideShapes
import Derived.OpenShut
import Derived.Deep.Fields
import Derived.WalkKit
import Derived.ProofKit
import Derived.Deep.OwnRows
import Derived.Deep.QuietTactic
import Derived.BigQuiet
import Derived.WalkSmall
import Derived.Laws.AppendOwnNone
import Derived.Deep.Matrix
set_option linter.unusedVariables false
namespace Go.Proofs.YtnchnlgnnlgjcaaGreat
namespace Pk
def Ok (b:Nat):Prop:=b=2\/b=4\/b=8
def word (b i:Nat):Nat:=i / (64 / b)
def shift (b i:Nat):Nat:=i % (64 / b)*b
def size (b n:Nat):Nat:=(n*b+63) / 64
theorem shift_le {b:Nat} (i:Nat) (h:Ok b):shift b i+b<=64:=by
 unfold shift;rcases h with rfl | rfl | rfl <;> simp only [Nat.reduceDiv] <;> omega
theorem next {b:Nat} (i:Nat) (h:Ok b):(word b (i+1)=word b i/\shift b (i+1)=shift b i+b)\/(word b (i+1)=word b i+1/\shift b (i+1)=0/\shift b i+b=64):=by
 unfold word shift;rcases h with rfl | rfl | rfl <;> simp only [Nat.reduceDiv] <;> omega
theorem word_same {b i n:Nat} (h:Ok b) (hi:i<n) (hw:word b n=word b i):shift b i+b<=shift b n:=by
 unfold word shift at *;rcases h with rfl | rfl | rfl <;> simp only [Nat.reduceDiv] at*<;> omega
theorem word_size {b i n:Nat} (h:Ok b) (hi:i<n):word b i<size b n:=by
 unfold word size;rcases h with rfl | rfl | rfl <;> simp only [Nat.reduceDiv] <;> omega
theorem size_le {b n:Nat} (h:Ok b) (hn:n<=256):size b n<=32:=by
 unfold size;rcases h with rfl | rfl | rfl <;> omega
def Cds (b:Nat) (l:List Int):Prop:=∀ i,0<=Ls.nth l i/\(Ls.nth l i).toNat<2 ^ b
def Wds (l:List Int):Prop:=∀ i,0<=Ls.nth l i/\Ls.nth l i<18446744073709551616
def cds (b:Nat) (l:List Int):Bool:=decide (∀ i,i<l.length->0<=Ls.nth l i/\Ls.nth l i<((2 ^ b:Nat):Int))
def right (b:Nat) (l:List Int):Int:=if cds b l=true then 0 else 11
theorem right_yes {b:Nat} {l:List Int} (h:cds b l=true):right b l=0:=by unfold right;rw [if_pos h]
theorem right_no {b:Nat} {l:List Int} (h:cds b l=false):right b l=11:=by unfold right;rw [h];rfl
def acc (b:Nat) (l:List Int) (t:Nat):Nat->Nat
 | 0=>0
 | n+1=>acc b l t n+if word b n=t then (Ls.nth l n).toNat*2 ^ shift b n else 0
theorem acc_here {b:Nat} {l:List Int} {t n:Nat} (h:word b n=t):acc b l t (n+1)=acc b l t n+(Ls.nth l n).toNat*2 ^ shift b n:=by simp only [acc];rw [if_pos h]
theorem acc_else {b:Nat} {l:List Int} {t n:Nat} (h:¬ word b n=t):acc b l t (n+1)=acc b l t n:=by simp only [acc];rw [if_neg h];rfl
theorem two_le {s t:Nat} (h:s<=t):2 ^ s<=2 ^ t:=Nat.pow_le_pow_right (by omega) h
theorem two_64:2 ^ 64=18446744073709551616:=by decide
theorem on_top {a c b s:Nat} (ha:a<2 ^ s) (hc:c<2 ^ b):a+c*2 ^ s<2 ^ (s+b):=by
 have h1:(c+1)*2 ^ s<=2 ^ b*2 ^ s:=Nat.mul_le_mul_right _ hc
 rw [Nat.add_mul,Nat.one_mul] at h1
 rw [Nat.pow_add,Nat.mul_comm (2 ^ s)]
 omega
theorem acc_low {b:Nat} {l:List Int} (t n:Nat) (h:Ok b) (hc:Cds b l):(word b n<t->acc b l t n=0)/\(word b n=t->acc b l t n<2 ^ shift b n)/\acc b l t n<2 ^ 64:=by
 induction n with
 | zero=>exact ⟨fun _=>rfl,fun _=>Nat.two_pow_pos _,Nat.two_pow_pos _⟩
 | succ n ih =>
   obtain ⟨i1,i2,i3⟩:=ih
   have hn:=next n h
   have hs:=shift_le n h
   by_cases e:word b n=t
   ·rw [acc_here e]
    have ht:=on_top (i2 e) (hc n).2
    have h64:2 ^ (shift b n+b)<=2 ^ 64:=two_le hs
    refine ⟨fun _=>by omega,fun e2=>?_,by omega⟩
    rcases hn with ⟨_,e3⟩ | ⟨e3,_⟩
    ·rw [e3];exact ht
    ·omega
   ·rw [acc_else e]
    by_cases e2:word b n<t
    ·rw [i1 e2]
     exact ⟨fun _=>rfl,fun _=>Nat.two_pow_pos _,Nat.two_pow_pos _⟩
    ·exact ⟨fun _=>by omega,fun _=>by omega,i3⟩
def lane (b:Nat) (ws:List Int) (i:Nat):Nat:=(Ls.nth ws (word b i)).toNat / 2 ^ shift b i % 2 ^ b
theorem acc_lane {b:Nat} {l:List Int} {i n:Nat} (h:Ok b) (hc:Cds b l) (hi:i<n):acc b l (word b i) n / 2 ^ shift b i % 2 ^ b=(Ls.nth l i).toNat:=by
 induction n with
 | zero=>omega
 | succ n ih =>
   have p:=Nat.two_pow_pos (shift b i)
   by_cases e:i=n
   ·subst e
    rw [acc_here rfl,Nat.add_mul_div_right _ _ p,Nat.div_eq_of_lt ((acc_low _ _ h hc).2.1 rfl),Nat.zero_add,Nat.mod_eq_of_lt (hc i).2]
   ·have hi2:i<n:=by omega
    by_cases e2:word b n=word b i
    ·rw [acc_here e2]
     have hs:=word_same h hi2 e2
     have e3:(Ls.nth l n).toNat*2 ^ shift b n=(Ls.nth l n).toNat*2 ^ (shift b n - shift b i - b)*2 ^ b*2 ^ shift b i:=by
      rw [Nat.mul_assoc,Nat.mul_assoc,<-Nat.pow_add,<-Nat.pow_add]
      congr 2;omega
     rw [e3,Nat.add_mul_div_right _ _ p,Nat.add_mul_mod_self_right]
     exact ih hi2
    ·rw [acc_else e2];exact ih hi2
def pack (b:Nat) (l:List Int):List Int:=Ls.gen (size b l.length) fun t=>(acc b l t l.length:Int)
theorem pack_length (b:Nat) (l:List Int):(pack b l).length=size b l.length:=Ls.gen_length _ _
theorem nth_pack {b t:Nat} {l:List Int} (h:t<size b l.length):Ls.nth (pack b l) t=(acc b l t l.length:Int):=Ls.nth_gen h
theorem pack_wds {b:Nat} {l:List Int} (h:Ok b) (hc:Cds b l):Wds (pack b l):=by
 intro i
 by_cases hi:i<size b l.length
 ·rw [nth_pack hi]
  have:=(acc_low i l.length h hc).2.2
  rw [two_64] at this
  omega
 ·rw [Ls.nth_past (by rw [pack_length];omega)];omega
theorem lane_pack {b i:Nat} {l:List Int} (h:Ok b) (hc:Cds b l) (hi:i<l.length):(lane b (pack b l) i:Int)=Ls.nth l i:=by
 unfold lane
 rw [nth_pack (word_size h hi),Int.toNat_natCast,acc_lane h hc hi]
 have:=(hc i).1
 omega
end Pk
end Go.Proofs.YtnchnlgnnlgjcaaGreat
namespace Go.Proofs.YtnchnlgnnlgjcaaGreat
namespace Sl
def step (h c:Nat):Nat:=(h ^^^ c)*16777619 % 4294967296
def sumN (l:List Int):Nat->Nat
 | 0=>2166136261
 | n+1=>step (sumN l n) (Ls.nth l n).toNat
def sum (l:List Int):Nat:=sumN l l.length
def be (n v:Nat):List Int:=Ls.gen n fun i=>((v / 256 ^ (n - 1 - i) % 256:Nat):Int)
def close (l:List Int):List Int:=l ++ be 4 (sum l)
end Sl
end Go.Proofs.YtnchnlgnnlgjcaaGreat
namespace Go.Proofs.YtnchnlgnnlgjcaaGreat
namespace Pg
def gz (g:Int × Int × List Int):Int:=g.1
def gs (g:Int × Int × List Int):Int:=g.2.1
def gc (g:Int × Int × List Int):List Int:=g.2.2
def nth (l:List (Int × Int × List Int)) (i:Nat):Int × Int × List Int:=l.getD i (0,0,[])
theorem nth_of_lt {l:List (Int × Int × List Int)} {i:Nat} (h:i<l.length):nth l i=l[i]:=by unfold nth;simp [h]
theorem ext_nth {l m:List (Int × Int × List Int)} (hl:l.length=m.length) (h:∀ i,i<l.length->nth l i=nth m i):l=m:=by
 apply List.ext_getElem hl
 intro i h1 h2
 have:=h i h1
 rw [nth_of_lt h1,nth_of_lt h2] at this
 exact this
def gen (n:Nat) (f:Nat->Int × Int × List Int):List (Int × Int × List Int):=(List.range n).map f
theorem gen_length (n:Nat) (f:Nat->Int × Int × List Int):(gen n f).length=n:=by simp [gen]
theorem nth_gen {n i:Nat} {f:Nat->Int × Int × List Int} (h:i<n):nth (gen n f) i=f i:=by unfold nth gen;simp [h]
def piece (d i:Nat) (l:List Int):List Int:=(l.drop (d*i)).take d
def wbN (ws:List Int):Nat->List Int
 | 0=>[]
 | n+1=>wbN ws n ++ Sl.be 8 (Ls.nth ws n).toNat
def word4 (x:Int):List Int:=Sl.be 4 (x+4294967296).toNat
def gb (b:Nat) (g:Int × Int × List Int):List Int:=word4 (gz g) ++ (Sl.be 4 (gs g).toNat ++ wbN (Pk.pack b (gc g)) (Pk.size b (gc g).length))
def Fits (b n:Nat) (g:Int × Int × List Int):Prop:=(gc g).length=n/\Pk.Cds b (gc g)/\-2147483648<=gz g/\gz g<=2147483647/\0<=gs g/\gs g<=4294967295
end Pg
end Go.Proofs.YtnchnlgnnlgjcaaGreat
namespace Go.Proofs.YtnchnlgnnlgjcaaGreat
namespace Pg
def gbN (b:Nat) (l:List (Int × Int × List Int)):Nat->List Int
 | 0=>[]
 | k+1=>gbN b l k ++ gb b (nth l k)
def gbs (b:Nat) (l:List (Int × Int × List Int)):List Int:=gbN b l l.length
def AllFit (b n:Nat) (l:List (Int × Int × List Int)):Prop:=∀ i,i<l.length->Fits b n (nth l i)
def rightH (h:List Int):Bool:=Gp.okB (Ls.nth h 0) && Gp.okB (Ls.nth h 1) && decide (1<=Ls.nth h 2) && decide (Ls.nth h 2<=16) && decide (1<=Ls.nth h 3) && decide (Ls.nth h 3<=16) && decide (0<=Ls.nth h 4) && decide (Ls.nth h 4<=3) && decide (0<=Ls.nth h 5) && decide (Ls.nth h 5<=3) && decide (0<=Ls.nth h 6) && decide (Ls.nth h 6<=1023)
theorem okB_or {b:Int} (h:Gp.okB b=true):b=2\/b=4\/b=8:=by unfold Gp.okB at h;simp at h;omega
theorem rightH_all {h:List Int} (hr:rightH h=true):(Ls.nth h 0=2\/Ls.nth h 0=4\/Ls.nth h 0=8)/\(Ls.nth h 1=2\/Ls.nth h 1=4\/Ls.nth h 1=8)/\1<=Ls.nth h 2/\Ls.nth h 2<=16/\1<=Ls.nth h 3/\Ls.nth h 3<=16/\0<=Ls.nth h 4/\Ls.nth h 4<=3/\0<=Ls.nth h 5/\Ls.nth h 5<=3/\0<=Ls.nth h 6/\Ls.nth h 6<=1023:=by
 unfold rightH at hr
 simp only [Bool.and_eq_true,decide_eq_true_eq] at hr
 obtain ⟨⟨⟨⟨⟨⟨⟨⟨⟨⟨⟨a,b⟩,c⟩,d⟩,e⟩,f⟩,g⟩,i⟩,j⟩,k⟩,l⟩,m⟩:=hr
 exact ⟨okB_or a,okB_or b,c,d,e,f,g,i,j,k,l,m⟩
def hbytes (h:List Int):List Int:=[75,Ls.nth h 0,Ls.nth h 1,Ls.nth h 2,Ls.nth h 3,Ls.nth h 4,Ls.nth h 5] ++ Sl.be 2 (Ls.nth h 6).toNat
def kb (h:List Int):Nat:=(Ls.nth h 0).toNat
def vb (h:List Int):Nat:=(Ls.nth h 1).toNat
def tk (h:List Int):Nat:=(Ls.nth h 2).toNat
def dm (h:List Int):Nat:=(Ls.nth h 3).toNat
def body (h:List Int) (ks vs:List (Int × Int × List Int)):List Int:=hbytes h ++ (gbs (kb h) ks ++ gbs (vb h) vs)
def bytes (h:List Int) (ks vs:List (Int × Int × List Int)):List Int:=Sl.close (body h ks vs)
def Page (h:List Int) (ks vs:List (Int × Int × List Int)):Prop:=h.length=7/\rightH h=true/\ks.length=dm h/\vs.length=tk h/\AllFit (kb h) (tk h) ks/\AllFit (vb h) (dm h) vs /\
 (∀ i,i<ks.length->Gp.right ((2 ^ kb h - 1:Nat):Int) (gs (nth ks i)) (gc (nth ks i))=0)/\(∀ i,i<vs.length->Gp.right ((2 ^ vb h - 1:Nat):Int) (gs (nth vs i)) (gc (nth vs i))=0)
end Pg
end Go.Proofs.YtnchnlgnnlgjcaaGreat
namespace Go.Proofs.YtnchnlgnnlgjcaaGreat
namespace Ex
def pa (f:Int):Int:=14743+f*5180 / 65536
def pb (f:Int):Int:=45613+f*pa f / 65536
def poly (f:Int):Int:=65536+f*pb f / 65536
def pow (t:Int):Int:=if 62 < -(t / 65536) then 0 else Fx.rnd (poly (t % 65536)) (2 ^ (-(t / 65536)).toNat)
def exp (x:Int):Int:=if 0<x then pow 0 else pow (Fx.rnd (x*94548) 65536)
end Ex
end Go.Proofs.YtnchnlgnnlgjcaaGreat
namespace Go.Proofs.YtnchnlgnnlgjcaaGreat
namespace Tb
def row (ls:List (List Int)) (i:Nat):List Int:=ls.getD i []
theorem row_past {ls:List (List Int)} {i:Nat} (h:ls.length<=i):row ls i=[]:=by unfold row;simp [List.getElem?_eq_none h]
theorem row_map_range {n r:Nat} (f:Nat->List Int) (h:r<n):row ((List.range n).map f) r=f r:=by unfold row;simp [h]
def sumN (w:List Int):Nat->Int
 | 0=>0
 | n+1=>sumN w n+Ls.nth w n
def sum (w:List Int):Int:=sumN w w.length
def mixN (w:List Int) (ls:List (List Int)) (i:Nat):Nat->Int
 | 0=>0
 | n+1=>mixN w ls i n+Ls.nth w n*Ls.nth (row ls n) i
def mix (w:List Int) (ls:List (List Int)) (i:Nat):Int:=mixN w ls i ls.length
def place (w:List Int) (ls:List (List Int)) (i:Nat):Int:=Fx.cut (Fx.rnd (mix w ls i) (sum w)) (-8388608) 8388608
def mean (w:List Int) (ls:List (List Int)):List Int:=Ls.gen (row ls 0).length (place w ls)
def wt (s:List Int) (i:Nat):Int:=Ex.exp (Fx.cut (Ls.nth s i - Ls.nth s (Ls.top s)) (-2147483648) 2147483647)
def weights (s:List Int):List Int:=Ls.gen s.length (wt s)
def even (ls:List (List Int)):Bool:=decide (∀ i,i<ls.length->(row ls i).length=(row ls 0).length)
def shape (m:Nat) (ls:List (List Int)):Int:=if ls.length=0 then 14 else if 1024<ls.length then 12 else if m=ls.length then (if even ls=true then 0 else 25) else 25
def weigh (w:List Int):Bool:=decide ((∀ i,i<w.length->0<=Ls.nth w i/\Ls.nth w i<=65536)/\0<sum w)
def milds (ls:List (List Int)):Bool:=decide (∀ i,i<ls.length->Ls.mild (row ls i)=true)
def fit (w:List Int) (ls:List (List Int)):Bool:=weigh w && milds ls
def right (w:List Int) (ls:List (List Int)):Int:=if shape w.length ls=0 then (if fit w ls=true then 0 else 11) else shape w.length ls
theorem right_zero {w:List Int} {ls:List (List Int)} (h:right w ls=0):shape w.length ls=0/\fit w ls=true:=by
 unfold right at h
 by_cases hs:shape w.length ls=0
 ·rw [if_pos hs] at h
  cases hf:fit w ls
  ·rw [hf] at h;simp at h
  ·exact ⟨hs,rfl⟩
 ·rw [if_neg hs] at h;exact absurd h hs
def shift (s:List Int) (z:Int):List Int:=Ls.gen s.length fun i=>z+Ls.nth s i
def lo (ls:List (List Int)) (i:Nat):Nat->Int
 | 0=>Ls.nth (row ls 0) i
 | n+1=>if Ls.nth (row ls n) i<lo ls i n then Ls.nth (row ls n) i else lo ls i n
def hi (ls:List (List Int)) (i:Nat):Nat->Int
 | 0=>Ls.nth (row ls 0) i
 | n+1=>if hi ls i n<Ls.nth (row ls n) i then Ls.nth (row ls n) i else hi ls i n
end Tb
end Go.Proofs.YtnchnlgnnlgjcaaGreat
namespace Go.Proofs.YtnchnlgnnlgjcaaGreat
namespace Pg
def grp (s:Int) (l:List Int):Int × Int × List Int:=(Gp.low l,Gp.scale s l,Gp.codes (Gp.low l) (Gp.scale s l) l)
def col (ls:List (List Int)) (i:Nat):List Int:=Ls.gen ls.length fun k=>Ls.nth (Tb.row ls k) i
theorem col_length (ls:List (List Int)) (i:Nat):(col ls i).length=ls.length:=Ls.gen_length _ _
theorem nth_col {ls:List (List Int)} {i k:Nat} (h:k<ls.length):Ls.nth (col ls i) k=Ls.nth (Tb.row ls k) i:=Ls.nth_gen h
theorem col_in {ls:List (List Int)} (h:∀ k,Ls.In32 (Tb.row ls k)) (i:Nat):Ls.In32 (col ls i):=Ls.in32_mk fun k hk=>by
 rw [col_length] at hk
 rw [nth_col hk]
 exact h k i
def qk (s:Int) (d:Nat) (ls:List (List Int)):List (Int × Int × List Int):=gen d fun i=>grp s (col ls i)
def qv (s:Int) (ls:List (List Int)):List (Int × Int × List Int):=gen ls.length fun k=>grp s (Tb.row ls k)
theorem qk_length (s:Int) (d:Nat) (ls:List (List Int)):(qk s d ls).length=d:=gen_length _ _
theorem qv_length (s:Int) (ls:List (List Int)):(qv s ls).length=ls.length:=gen_length _ _
theorem nth_qk {s:Int} {d i:Nat} {ls:List (List Int)} (h:i<d):nth (qk s d ls) i=grp s (col ls i):=nth_gen h
theorem nth_qv {s:Int} {k:Nat} {ls:List (List Int)} (h:k<ls.length):nth (qv s ls) k=grp s (Tb.row ls k):=nth_gen h
theorem grp_right {s:Int} {l:List Int} (h:Ls.In32 l) (hs:3<=s):Gp.right s (gs (grp s l)) (gc (grp s l))=0:=Gp.grouped_right h hs
theorem pow_st {b s:Nat} (h:Gp.St b s):2 ^ b=s+1:=by rcases h with ⟨rfl,rfl⟩ | ⟨rfl,rfl⟩ | ⟨rfl,rfl⟩ <;> rfl
theorem grp_fits {b s n:Nat} {l:List Int} (hst:Gp.St b s) (h:Ls.In32 l) (hn:l.length=n):Fits b n (grp s l):=by
 have bs:=hst.bd
 have sb:=Gp.scale_bd (s:=(s:Int)) h (by omega)
 have zb:=Gp.lowN_in h l.length
 refine ⟨by show (Gp.codes _ _ l).length=n;rw [Gp.codes_length,hn],?_,zb.1,zb.2,sb.1,?_⟩
 ·intro i
  show 0<=Ls.nth (Gp.codes (Gp.low l) (Gp.scale s l) l) i/\(Ls.nth (Gp.codes (Gp.low l) (Gp.scale s l) l) i).toNat<2 ^ b
  rw [pow_st hst]
  by_cases hi:i<l.length
  ·have:=Gp.codes_right (s:=(s:Int)) h (by omega) hi
   omega
  ·rw [Ls.nth_past (by rw [Gp.codes_length];omega)]
   omega
 ·have:gs (grp s l)<=1431655765:=sb.2
  omega
theorem quant_page {h:List Int} {b0 s0 b1 s1:Nat} {ks vs:List (List Int)} (h7:h.length=7) (hr:rightH h=true) (e0:Ls.nth h 0=(b0:Int)) (e1:Ls.nth h 1=(b1:Int)) (st0:Gp.St b0 s0) (st1:Gp.St b1 s1)
 (ik:∀ k,Ls.In32 (Tb.row ks k)) (iv:∀ k,Ls.In32 (Tb.row vs k)) (nk:(ks.length:Int)=Ls.nth h 2) (nv:(vs.length:Int)=Ls.nth h 2) (dv:∀ k,k<vs.length->((Tb.row vs k).length:Int)=Ls.nth h 3) :
 Page h (qk s0 (dm h) ks) (qv s1 vs):=by
 have k0:kb h=b0:=by unfold kb;omega
 have k1:vb h=b1:=by unfold vb;omega
 have t0:ks.length=tk h:=by unfold tk;omega
 have t1:vs.length=tk h:=by unfold tk;omega
 have bs0:=st0.bd
 have bs1:=st1.bd
 have p0:=pow_st st0
 have p1:=pow_st st1
 have r0:((2 ^ b0 - 1:Nat):Int)=(s0:Int):=by omega
 have r1:((2 ^ b1 - 1:Nat):Int)=(s1:Int):=by omega
 refine ⟨h7,hr,qk_length _ _ _,by rw [qv_length,t1],fun i hi=>?_,fun i hi=>?_,fun i hi=>?_,fun i hi=>?_⟩
 ·rw [qk_length] at hi
  rw [nth_qk hi,k0]
  exact grp_fits st0 (col_in ik i) (by rw [col_length,t0])
 ·rw [qv_length] at hi
  rw [nth_qv hi,k1]
  exact grp_fits st1 (iv i) (by have:=dv i hi;unfold dm;omega)
 ·rw [qk_length] at hi
  rw [nth_qk hi,k0,r0]
  exact grp_right (col_in ik i) (by omega)
 ·rw [qv_length] at hi
  rw [nth_qv hi,k1,r1]
  exact grp_right (iv i) (by omega)
end Pg
end Go.Proofs.YtnchnlgnnlgjcaaGreat
namespace Go.Proofs.YtnchnlgnnlgjcaaGreat
open Go.ChangeShapes Go.WideShapes
theorem cells7 {cs:Array Value} (h:cs.size=7):∃ a0 a1 a2 a3 a4 a5 a6,cs=#[a0,a1,a2,a3,a4,a5,a6]:=by
 obtain ⟨l⟩:=cs
 simp only [List.size_toArray] at h
 match l,h with
 | [a0,a1,a2,a3,a4,a5,a6],_=>exact ⟨a0,a1,a2,a3,a4,a5,a6,rfl⟩
end Go.Proofs.YtnchnlgnnlgjcaaGreat
namespace Go.Proofs.YtnchnlgnnlgjcaaGreat
open Go.RowKit
theorem ret_bool {a b:Bool} (h:a=b):Ending.returned (.bool a)=.returned (.bool b):=by rw [h]
theorem ret_num {k:IntKind} {a b:Int} (h:a=b):Ending.returned (.int k a)=.returned (.int k b):=by rw [h]
def Lst (k:IntKind) (w:World) (a:Option Addr) (l:List Int):Prop :=
 ∀ i,i<l.length->∃ b o,a=some ⟨b,o,none⟩/\w.cell? ⟨b,o+i,none⟩=some (.int k (Ls.nth l i))
theorem Lst.get {k:IntKind} {w:World} {a:Option Addr} {l:List Int} (h:Lst k w a l) {i:Nat} (hi:i<l.length) :
 ∃ b o,a=some ⟨b,o,none⟩/\∀ j,j<l.length->w.cell? ⟨b,o+j,none⟩=some (.int k (Ls.nth l j)):=by
 obtain ⟨b,o,rfl,_⟩:=h i hi
 refine ⟨b,o,rfl,fun j hj=>?_⟩
 obtain ⟨b',o',e,hc⟩:=h j hj
 simp at e
 obtain ⟨rfl,rfl⟩:=e
 exact hc
theorem Lst.keep {k:IntKind} {w w':World} {a:Option Addr} {l:List Int} (h:Lst k w a l) (hb:Below w.heap.size w w'):Lst k w' a l:=fun i hi=>by
 obtain ⟨b,o,e,hc⟩:=h i hi
 refine ⟨b,o,e,?_⟩
 rw [hb.cell (p:=⟨b,o+i,none⟩) (World.block_lt_of_cell? w _ hc)]
 exact hc
theorem Lst.draws {k:IntKind} {w:World} {a:Option Addr} {l:List Int} (h:Lst k w a l) (n:Nat):Lst k (w.drewN n) a l:=fun i hi=>by
 obtain ⟨b,o,e,hc⟩:=h i hi
 exact ⟨b,o,e,by simpa using hc⟩
theorem below_then {w0 w w':World} (h:Below w0.heap.size w0 w) (k:Below w.heap.size w w'):Below w0.heap.size w0 w':=h.trans (k.mono h.size)
theorem lst_of_row {k:IntKind} {w:World} {g:Nat} {t:TypeId} {l:List Int} {f:Nat->Value} (h:w.rowIs g t l.length f) (hf:∀ i,i<l.length->f i=.int k (Ls.nth l i)):Lst k w (some ⟨g,0,none⟩) l:=by
 intro i hi
 refine ⟨g,0,rfl,?_⟩
 rw [Nat.zero_add,h.cell hi,hf i hi]
theorem lst_of_own {k:IntKind} {w:World} {base:Nat} {t:TypeId} {v:Value} {l:List Int} (h:w.ownsRow base t 1 v l.length (l.map (Value.int k))) :
 ∃ a cap,v=.slice a l.length cap/\Lst k w a l/\l.length<=cap/\cap<=maxLen:=by
 have h':=h
 rcases h.2 with ⟨rfl,hn⟩ | ⟨g,cap,cur,rfl,hb,hg,h1,h2,h3,h4⟩
 ·refine ⟨none,0,by rw [hn],fun i hi=>by omega,by omega,by omega⟩
 ·refine ⟨_,cap,rfl,?_,h1,h2⟩
  intro i hi
  refine ⟨g,0,rfl,?_⟩
  rw [Nat.zero_add,h'.cellAt i (by omega)]
  simp [Ls.nth,hi]
theorem lst_of_ownm {k:IntKind} {w:World} {base:Nat} {t:TypeId} {v:Value} {n:Nat} {l:List Int} (h:w.ownsRow base t 1 v n (l.map (Value.int k))) (hn:n=l.length) :
 ∃ a cap,v=.slice a n cap/\Lst k w a l:=by
 subst hn
 obtain ⟨a,cap,h1,h2,_⟩:=lst_of_own h
 exact ⟨a,cap,h1,h2⟩
theorem Lst.none_nil {k:IntKind} {w:World} {l:List Int} (h:Lst k w none l):l=[]:=by
 cases l with
 | nil=>rfl
 | cons x l =>
   obtain ⟨b,o,e,_⟩:=h 0 (by simp)
   cases e
theorem wpList_append_lst {P:Program} {w:World} {ops:Array Oper} {rest:List Oper} {o:Oper} {a:Act} {Q:Exit->Act->World->Prop} (hgd:o.guard=none) (s x:Operand) (t:TypeId)
 (ho:o.op=.call { callee:=.builtin .append,args:=#[s,x],argTypes:=#[t,t] })
 (base:Nat) (e:TypeId) (k:IntKind) (bytes:Nat) (ht:P.underlying t=some (.slice e)) (hinfo:(P.info? e).map (fun i=>(i.zero,i.size,i.bytes))=some (some (.int k 0),1,bytes))
 (v:Value) (n:Nat) (xs:List Value) (hs:a.eval s=v) (hown:w.ownsRow base e 1 v n xs)
 (ao:Option Addr) (l:List Int) (c:Nat) (hx:a.eval x=.slice ao l.length c) (hL:Lst k w ao l) (hc:ao=none->c=0)
 (h63:n+l.length<=maxLen) (hbytes:(n+l.length)*bytes<=140737488355328) (hbase:base<=w.heap.size)
 (h:∀ v' w',w'.ownsRow base e 1 v' (n+l.length) (xs ++ l.map (Value.int k))->w.grownBy w' v.ownBlock->wpList P ops Q rest (a.put o.dst v') w'):wpList P ops Q (o :: rest) a w:=by
 obtain ⟨i,hi,hz0,hz1,hz2⟩:=info_parts hinfo
 cases ao with
 | none =>
   have e0:=hL.none_nil
   subst e0
   have hc0:=hc rfl
   subst hc0
   exact wpList_append_own_none hgd s x t ho base e i 1 ht hi v n xs hs hown hx (h v w (by simpa using hown) (World.grownBy.refl _ _))
 | some ad =>
   refine wpList_append_own w hgd s x t ho base e i (.int k 0) 1 bytes ht hi hz0 hz1 hz2 rfl (by omega) v n xs hs hown ad l.length c (l.map (Value.int k)) hx (by simp) ?_ (ints_oneCell k l) h63 hbytes hbase (fun v' w' h1 h2 _=>h v' w' h1 h2)
   intro j u hu
   have hj:j<l.length:=by
    have:=(List.getElem?_eq_some_iff.1 hu).1
    simpa using this
   obtain ⟨b,o1,e1,hcell⟩:=hL j hj
   simp at e1
   subst e1
   rw [Addr.add_lit,hcell]
   simpa [Ls.nth,hj] using hu
end Go.Proofs.YtnchnlgnnlgjcaaGreat
namespace Go.Proofs.YtnchnlgnnlgjcaaGreat
open Go.RowKit
def Tbl (w:World) (a:Option Addr) (ls:List (List Int)):Prop :=
 ∀ i,i<ls.length->∃ b o A C,a=some ⟨b,o,none⟩/\w.cell? ⟨b,o+i,none⟩=some (.slice A (Tb.row ls i).length C)/\Lst .i32 w A (Tb.row ls i)/\(Tb.row ls i).length<=maxLen
theorem Tbl.get {w:World} {a:Option Addr} {ls:List (List Int)} (h:Tbl w a ls) {i:Nat} (hi:i<ls.length) :
 ∃ b o,a=some ⟨b,o,none⟩/\∀ j,j<ls.length->∃ A C,w.cell? ⟨b,o+j,none⟩=some (.slice A (Tb.row ls j).length C)/\Lst .i32 w A (Tb.row ls j)/\(Tb.row ls j).length<=maxLen:=by
 obtain ⟨b,o,A,C,rfl,_⟩:=h i hi
 refine ⟨b,o,rfl,fun j hj=>?_⟩
 obtain ⟨b',o',A',C',e,hc⟩:=h j hj
 simp at e
 obtain ⟨rfl,rfl⟩:=e
 exact ⟨A',C',hc⟩
theorem Tbl.keep {w w':World} {a:Option Addr} {ls:List (List Int)} (h:Tbl w a ls) (hb:Below w.heap.size w w'):Tbl w' a ls:=fun i hi=>by
 obtain ⟨b,o,A,C,e,hc,hL,hm⟩:=h i hi
 refine ⟨b,o,A,C,e,?_,hL.keep hb,hm⟩
 rw [hb.cell (p:=⟨b,o+i,none⟩) (World.block_lt_of_cell? w _ hc)]
 exact hc
def IsTable (w:World) (a:Option Addr) (len cap:Nat):Prop :=
 (a=none/\len=0/\cap=0) \/
 ∃ (x:Addr) (A:Nat->Option Addr) (L C:Nat->Nat) (Z:Nat->List Int),a=some x/\len<=cap/\cap<=maxLen /\
   ∀ r,r<cap->w.cell? (x.add r)=some (.slice (A r) (L r) (C r))/\L r<=C r/\C r<=maxLen/\(Z r).length=C r/\(∀ n ∈ Z r,(Lit.int .i32 n).wf=true)/\(A r=none->C r=0) /\
     ∀ a',A r=some a'->∀ c,c<C r->w.cell? (a'.add c)=some (.int .i32 ((Z r).getD c 0))
theorem addr_plain {w:World} {x:Addr} {v:Value} (h:w.cell? x=some v):∃ b o,x=⟨b,o,none⟩:=by
 obtain ⟨b,o,s⟩:=x
 have:=World.cell?_spot h
 simp at this
 subst this
 exact ⟨b,o,rfl⟩
end Go.Proofs.YtnchnlgnnlgjcaaGreat
