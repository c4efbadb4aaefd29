import Derived.Test.YtnchnlgnnlgjcaaGreatCo01
import Derived.Test.YtnchnlgnnlgjcaaGreatRows
import Derived.ChangeArms
import Derived.WideShapes
import Derived.OpenShut
import Derived.Deep.Fields
import Derived.WalkKit
import Derived.ProofKit
import Derived.Deep.OwnRows
import Derived.Deep.QuietTactic
import Derived.BigQuiet
import Derived.WalkSmall
import Derived.Laws.AppendOwnNone
import Derived.Deep.Matrix
import Derived.Deep.Slices
set_option linter.unusedVariables false
namespace Go.Proofs.YtnchnlgnnlgjcaaGreat
namespace Sl
def Byt (l:List Int):Prop:=∀ i,0<=Ls.nth l i/\Ls.nth l i<256
theorem byt_mk {l:List Int} (h:∀ i,i<l.length->0<=Ls.nth l i/\Ls.nth l i<256):Byt l:=by
 intro i
 by_cases c:i<l.length
 ·exact h i c
 ·rw [Ls.nth_past (by omega)];omega
def step (h c:Nat):Nat:=(h ^^^ c)*16777619 % 4294967296
theorem step_lt (h c:Nat):step h c<4294967296:=Nat.mod_lt _ (by decide)
theorem xor_lt {h c:Nat} (hh:h<4294967296) (hc:c<4294967296):h ^^^ c<4294967296:=Nat.xor_lt_two_pow (n:=32) hh hc
def sumN (l:List Int):Nat->Nat
 | 0=>2166136261
 | n+1=>step (sumN l n) (Ls.nth l n).toNat
def sum (l:List Int):Nat:=sumN l l.length
theorem sumN_lt (l:List Int) (n:Nat):sumN l n<4294967296:=by
 cases n with
 | zero=>simp only [sumN];omega
 | succ n=>exact step_lt _ _
theorem sum_lt (l:List Int):sum l<4294967296:=sumN_lt _ _
def be (n v:Nat):List Int:=Ls.gen n fun i=>((v / 256 ^ (n - 1 - i) % 256:Nat):Int)
theorem be_length (n v:Nat):(be n v).length=n:=Ls.gen_length _ _
theorem nth_be {n v i:Nat} (h:i<n):Ls.nth (be n v) i=((v / 256 ^ (n - 1 - i) % 256:Nat):Int):=Ls.nth_gen h
theorem be_byt (n v:Nat):Byt (be n v):=by
 apply byt_mk
 intro i hi
 rw [be_length] at hi
 rw [nth_be hi]
 omega
theorem four:256 ^ 4=4294967296:=by decide
def close (l:List Int):List Int:=l ++ be 4 (sum l)
theorem close_length (l:List Int):(close l).length=l.length+4:=by unfold close;rw [List.length_append,be_length]
end Sl
end Go.Proofs.YtnchnlgnnlgjcaaGreat
namespace Go.Proofs.YtnchnlgnnlgjcaaGreat
namespace Pg
def gz (g:Int × Int × List Int):Int:=g.1
def gs (g:Int × Int × List Int):Int:=g.2.1
def gc (g:Int × Int × List Int):List Int:=g.2.2
theorem g_ext {g h:Int × Int × List Int} (h1:gz g=gz h) (h2:gs g=gs h) (h3:gc g=gc h):g=h:=by
 obtain ⟨a,b,c⟩:=g
 obtain ⟨d,e,f⟩:=h
 unfold gz gs gc at *
 simp at h1 h2 h3
 rw [h1,h2,h3]
def nth (l:List (Int × Int × List Int)) (i:Nat):Int × Int × List Int:=l.getD i (0,0,[])
theorem nth_of_lt {l:List (Int × Int × List Int)} {i:Nat} (h:i<l.length):nth l i=l[i]:=by unfold nth;simp [h]
theorem ext_nth {l m:List (Int × Int × List Int)} (hl:l.length=m.length) (h:∀ i,i<l.length->nth l i=nth m i):l=m:=by
 apply List.ext_getElem hl
 intro i h1 h2
 have:=h i h1
 rw [nth_of_lt h1,nth_of_lt h2] at this
 exact this
def gen (n:Nat) (f:Nat->Int × Int × List Int):List (Int × Int × List Int):=(List.range n).map f
theorem gen_length (n:Nat) (f:Nat->Int × Int × List Int):(gen n f).length=n:=by simp [gen]
theorem nth_gen {n i:Nat} {f:Nat->Int × Int × List Int} (h:i<n):nth (gen n f) i=f i:=by unfold nth gen;simp [h]
theorem gen_succ (n:Nat) (f:Nat->Int × Int × List Int):gen (n+1) f=gen n f ++ [f n]:=by simp [gen,List.range_succ]
def piece (d i:Nat) (l:List Int):List Int:=(l.drop (d*i)).take d
def wbN (ws:List Int):Nat->List Int
 | 0=>[]
 | n+1=>wbN ws n ++ Sl.be 8 (Ls.nth ws n).toNat
theorem wbN_length (ws:List Int) (n:Nat):(wbN ws n).length=8*n:=by
 induction n with
 | zero=>rfl
 | succ n ih=>simp only [wbN];rw [List.length_append,ih,Sl.be_length];omega
theorem nth_append (a c:List Int) (i:Nat):Ls.nth (a ++ c) i=if i<a.length then Ls.nth a i else Ls.nth c (i - a.length):=by
 unfold Ls.nth
 by_cases h:i<a.length
 ·rw [if_pos h];simp [List.getElem?_append_left h]
 ·rw [if_neg h];simp [List.getElem?_append_right (show a.length<=i by omega)]
theorem nth_wbN {ws:List Int} {n i j:Nat} (hi:i<n) (hj:j<8):Ls.nth (wbN ws n) (8*i+j)=Ls.nth (Sl.be 8 (Ls.nth ws i).toNat) j:=by
 induction n with
 | zero=>omega
 | succ n ih =>
   simp only [wbN]
   rw [nth_append,wbN_length]
   by_cases e:i=n
   ·subst e;rw [if_neg (by omega)];congr 1;omega
   ·rw [if_pos (by omega)];exact ih (by omega)
theorem wbN_byt (ws:List Int) (n:Nat):Sl.Byt (wbN ws n):=by
 apply Sl.byt_mk
 intro j hj
 rw [wbN_length] at hj
 have:=nth_wbN (ws:=ws) (n:=n) (i:=j / 8) (j:=j % 8) (by omega) (by omega)
 rw [show 8*(j / 8)+j % 8=j by omega] at this
 rw [this]
 exact Sl.be_byt _ _ _
def word4 (x:Int):List Int:=Sl.be 4 (x+4294967296).toNat
def gb (b:Nat) (g:Int × Int × List Int):List Int:=word4 (gz g) ++ (Sl.be 4 (gs g).toNat ++ wbN (Pk.pack b (gc g)) (Pk.size b (gc g).length))
def gsize (b n:Nat):Nat:=8+8*Pk.size b n
theorem gb_length (b:Nat) (g:Int × Int × List Int):(gb b g).length=gsize b (gc g).length:=by
 unfold gb word4 gsize
 rw [List.length_append,List.length_append,Sl.be_length,Sl.be_length,wbN_length]
 omega
theorem byt_append {l m:List Int} (hl:Sl.Byt l) (hm:Sl.Byt m):Sl.Byt (l ++ m):=fun i=>by
 rw [nth_append]
 split
 ·exact hl _
 ·exact hm _
theorem gb_byt (b:Nat) (g:Int × Int × List Int):Sl.Byt (gb b g):=byt_append (Sl.be_byt _ _) (byt_append (Sl.be_byt _ _) (wbN_byt _ _))
def Fits (b n:Nat) (g:Int × Int × List Int):Prop:=(gc g).length=n/\Pk.Cds b (gc g)/\-2147483648<=gz g/\gz g<=2147483647/\0<=gs g/\gs g<=4294967295
theorem be_mod (n v:Nat):Sl.be n (v % 256 ^ n)=Sl.be n v:=by
 apply Ls.ext_nth (by rw [Sl.be_length,Sl.be_length])
 intro i hi
 rw [Sl.be_length] at hi
 rw [Sl.nth_be hi,Sl.nth_be hi]
 congr 1
 have e:256 ^ n=256 ^ (n - 1 - i)*256 ^ (i+1):=by rw [<-Nat.pow_add];congr 1;omega
 have p:0<256 ^ (n - 1 - i):=Nat.pow_pos (by decide)
 rw [e,Nat.mod_mul_right_div_self,Nat.pow_succ,Nat.mul_comm (256 ^ i) 256,Nat.mod_mul_right_mod]
end Pg
end Go.Proofs.YtnchnlgnnlgjcaaGreat
namespace Go.Proofs.YtnchnlgnnlgjcaaGreat
namespace Pg
def gbN (b:Nat) (l:List (Int × Int × List Int)):Nat->List Int
 | 0=>[]
 | k+1=>gbN b l k ++ gb b (nth l k)
def gbs (b:Nat) (l:List (Int × Int × List Int)):List Int:=gbN b l l.length
def Even (n:Nat) (l:List (Int × Int × List Int)):Prop:=∀ i,i<l.length->(gc (nth l i)).length=n
def AllFit (b n:Nat) (l:List (Int × Int × List Int)):Prop:=∀ i,i<l.length->Fits b n (nth l i)
theorem AllFit.even {b n:Nat} {l:List (Int × Int × List Int)} (h:AllFit b n l):Even n l:=fun i hi=>(h i hi).1
theorem gbN_length {b n:Nat} {l:List (Int × Int × List Int)} (h:Even n l) (k:Nat) (hk:k<=l.length):(gbN b l k).length=gsize b n*k:=by
 induction k with
 | zero=>rfl
 | succ k ih =>
   simp only [gbN]
   rw [List.length_append,ih (by omega),gb_length,h k (by omega),Nat.mul_succ]
theorem gbs_length {b n:Nat} {l:List (Int × Int × List Int)} (h:Even n l):(gbs b l).length=gsize b n*l.length:=gbN_length h _ (Nat.le_refl _)
theorem gbN_byt (b:Nat) (l:List (Int × Int × List Int)) (k:Nat):Sl.Byt (gbN b l k):=by
 induction k with
 | zero=>intro i;rw [show gbN b l 0=[] from rfl,Ls.nth_nil];omega
 | succ k ih=>simp only [gbN];exact byt_append ih (gb_byt _ _)
theorem gbs_byt (b:Nat) (l:List (Int × Int × List Int)):Sl.Byt (gbs b l):=gbN_byt _ _ _
def rightH (h:List Int):Bool:=Gp.okB (Ls.nth h 0) && Gp.okB (Ls.nth h 1) && decide (1<=Ls.nth h 2) && decide (Ls.nth h 2<=16) && decide (1<=Ls.nth h 3) && decide (Ls.nth h 3<=16) && decide (0<=Ls.nth h 4) && decide (Ls.nth h 4<=3) && decide (0<=Ls.nth h 5) && decide (Ls.nth h 5<=3) && decide (0<=Ls.nth h 6) && decide (Ls.nth h 6<=1023)
theorem okB_or {b:Int} (h:Gp.okB b=true):b=2\/b=4\/b=8:=by unfold Gp.okB at h;simp at h;omega
theorem rightH_all {h:List Int} (hr:rightH h=true):(Ls.nth h 0=2\/Ls.nth h 0=4\/Ls.nth h 0=8)/\(Ls.nth h 1=2\/Ls.nth h 1=4\/Ls.nth h 1=8)/\1<=Ls.nth h 2/\Ls.nth h 2<=16/\1<=Ls.nth h 3/\Ls.nth h 3<=16/\0<=Ls.nth h 4/\Ls.nth h 4<=3/\0<=Ls.nth h 5/\Ls.nth h 5<=3/\0<=Ls.nth h 6/\Ls.nth h 6<=1023:=by
 unfold rightH at hr
 simp only [Bool.and_eq_true,decide_eq_true_eq] at hr
 obtain ⟨⟨⟨⟨⟨⟨⟨⟨⟨⟨⟨a,b⟩,c⟩,d⟩,e⟩,f⟩,g⟩,i⟩,j⟩,k⟩,l⟩,m⟩:=hr
 exact ⟨okB_or a,okB_or b,c,d,e,f,g,i,j,k,l,m⟩
def hbytes (h:List Int):List Int:=[75,Ls.nth h 0,Ls.nth h 1,Ls.nth h 2,Ls.nth h 3,Ls.nth h 4,Ls.nth h 5] ++ Sl.be 2 (Ls.nth h 6).toNat
theorem hbytes_length (h:List Int):(hbytes h).length=9:=by unfold hbytes;rw [List.length_append,Sl.be_length];rfl
theorem hbytes_byt {h:List Int} (hr:rightH h=true):Sl.Byt (hbytes h):=by
 obtain ⟨a,b,c,d,e,f,g,i,j,k,l,m⟩:=rightH_all hr
 apply byt_append _ (Sl.be_byt _ _)
 apply Sl.byt_mk
 intro n hn
 match n,hn with
 | 0,_=>show 0<=(75:Int)/\(75:Int)<256;omega
 | 1,_=>show 0<=Ls.nth h 0/\Ls.nth h 0<256;omega
 | 2,_=>show 0<=Ls.nth h 1/\Ls.nth h 1<256;omega
 | 3,_=>show 0<=Ls.nth h 2/\Ls.nth h 2<256;omega
 | 4,_=>show 0<=Ls.nth h 3/\Ls.nth h 3<256;omega
 | 5,_=>show 0<=Ls.nth h 4/\Ls.nth h 4<256;omega
 | 6,_=>show 0<=Ls.nth h 5/\Ls.nth h 5<256;omega
def kb (h:List Int):Nat:=(Ls.nth h 0).toNat
def vb (h:List Int):Nat:=(Ls.nth h 1).toNat
def tk (h:List Int):Nat:=(Ls.nth h 2).toNat
def dm (h:List Int):Nat:=(Ls.nth h 3).toNat
def psize (h:List Int):Nat:=9+gsize (kb h) (tk h)*dm h+gsize (vb h) (dm h)*tk h+4
def body (h:List Int) (ks vs:List (Int × Int × List Int)):List Int:=hbytes h ++ (gbs (kb h) ks ++ gbs (vb h) vs)
def bytes (h:List Int) (ks vs:List (Int × Int × List Int)):List Int:=Sl.close (body h ks vs)
def Page (h:List Int) (ks vs:List (Int × Int × List Int)):Prop:=h.length=7/\rightH h=true/\ks.length=dm h/\vs.length=tk h/\AllFit (kb h) (tk h) ks/\AllFit (vb h) (dm h) vs /\
 (∀ i,i<ks.length->Gp.right ((2 ^ kb h - 1:Nat):Int) (gs (nth ks i)) (gc (nth ks i))=0)/\(∀ i,i<vs.length->Gp.right ((2 ^ vb h - 1:Nat):Int) (gs (nth vs i)) (gc (nth vs i))=0)
theorem body_length {h:List Int} {ks vs:List (Int × Int × List Int)} (hp:Page h ks vs):(body h ks vs).length+4=psize h:=by
 obtain ⟨_,_,hk,hv,fk,fv,_,_⟩:=hp
 unfold body psize
 rw [List.length_append,List.length_append,hbytes_length,gbs_length fk.even,gbs_length fv.even,hk,hv]
 omega
theorem body_byt {h:List Int} {ks vs:List (Int × Int × List Int)} (hp:Page h ks vs):Sl.Byt (body h ks vs):=byt_append (hbytes_byt hp.2.1) (byt_append (gbs_byt _ _) (gbs_byt _ _))
theorem bytes_length {h:List Int} {ks vs:List (Int × Int × List Int)} (hp:Page h ks vs):(bytes h ks vs).length=psize h:=by
 unfold bytes
 rw [Sl.close_length,body_length hp]
theorem size_small {b n:Nat} (hb:b=2\/b=4\/b=8) (hn:n<=16):Pk.size b n<=2:=by
 unfold Pk.size
 rcases hb with rfl | rfl | rfl <;> omega
theorem gsize_small {b n:Nat} (hb:b=2\/b=4\/b=8) (hn:n<=16):gsize b n<=24:=by
 have:=size_small hb hn
 unfold gsize
 omega
theorem psize_le {h:List Int} (hr:rightH h=true):psize h<=781:=by
 obtain ⟨a,b,c,d,e,f,_⟩:=rightH_all hr
 have h1:=gsize_small (b:=kb h) (n:=tk h) (by unfold kb;omega) (by unfold tk;omega)
 have h2:=gsize_small (b:=vb h) (n:=dm h) (by unfold vb;omega) (by unfold dm;omega)
 have m1:gsize (kb h) (tk h)*dm h<=24*16:=Nat.mul_le_mul h1 (by unfold dm;omega)
 have m2:gsize (vb h) (dm h)*tk h<=24*16:=Nat.mul_le_mul h2 (by unfold tk;omega)
 unfold psize
 omega
end Pg
end Go.Proofs.YtnchnlgnnlgjcaaGreat
namespace Go.Proofs.YtnchnlgnnlgjcaaGreat
namespace Ex
def pa (f:Int):Int:=14743+f*5180 / 65536
def pb (f:Int):Int:=45613+f*pa f / 65536
def poly (f:Int):Int:=65536+f*pb f / 65536
theorem pa_bd {f:Int} (h0:0<=f) (h1:f<=65535):14743<=pa f/\pa f<=19922:=by unfold pa;omega
theorem pa_mono {a b:Int} (h:a<=b):pa a<=pa b:=by unfold pa;omega
theorem pb_in {f:Int} (h0:0<=f) (h1:f<=65535):0<=f*pa f/\f*pa f<=1305588270:=by
 have b:=pa_bd h0 h1
 have e1:f*pa f<=65535*19922:=Int.mul_le_mul h1 b.2 (by omega) (by omega)
 have e0:0<=f*pa f:=Int.mul_nonneg h0 (by omega)
 omega
theorem pb_bd {f:Int} (h0:0<=f) (h1:f<=65535):45613<=pb f/\pb f<=65534:=by
 have b:=pb_in h0 h1
 unfold pb
 omega
theorem pb_mono {a b:Int} (h0:0<=a) (h:a<=b) (h1:b<=65535):pb a<=pb b:=by
 have ba:=pa_bd h0 (by omega)
 have e1:a*pa a<=b*pa b:=Int.mul_le_mul h (pa_mono h) (by omega) (by omega)
 unfold pb
 omega
theorem poly_in {f:Int} (h0:0<=f) (h1:f<=65535):0<=f*pb f/\f*pb f<=4294770690:=by
 have b:=pb_bd h0 h1
 have e1:f*pb f<=65535*65534:=Int.mul_le_mul h1 b.2 (by omega) (by omega)
 have e0:0<=f*pb f:=Int.mul_nonneg h0 (by omega)
 omega
theorem poly_bd {f:Int} (h0:0<=f) (h1:f<=65535):65536<=poly f/\poly f<=131069:=by
 have b:=poly_in h0 h1
 unfold poly
 omega
theorem poly_mono {a b:Int} (h0:0<=a) (h:a<=b) (h1:b<=65535):poly a<=poly b:=by
 have ba:=pb_bd h0 (show a<=65535 by omega)
 have e1:a*pb a<=b*pb b:=Int.mul_le_mul h (pb_mono h0 h h1) (by omega) (by omega)
 unfold poly
 omega
def pow (t:Int):Int:=if 62 < -(t / 65536) then 0 else Fx.rnd (poly (t % 65536)) (2 ^ (-(t / 65536)).toNat)
def exp (x:Int):Int:=if 0<x then pow 0 else pow (Fx.rnd (x*94548) 65536)
theorem pow_zero:pow 0=65536:=by decide
theorem pow_low {t:Int} (h:62 < -(t / 65536)):pow t=0:=by unfold pow;rw [if_pos h]
theorem pow_in {t:Int} (h:¬ 62 < -(t / 65536)):pow t=Fx.rnd (poly (t % 65536)) (2 ^ (-(t / 65536)).toNat):=by unfold pow;rw [if_neg h]
theorem rnd_nonneg (a b:Int) (hb:0<b) (ha:0<=a):0<=Fx.rnd a b:=by
 have h:=Fx.rnd_mono 0 a b hb ha
 have e:=Fx.rnd_mul 0 b hb
 rw [Int.zero_mul] at e
 omega
theorem rnd_scale (a b c:Int) (hb:0<b) (hc:0<c):Fx.rnd (a*c) (b*c)=Fx.rnd a b:=by
 have h:=Fx.rnd_char a b hb
 generalize Fx.rnd a b=k at *
 obtain ⟨h1,h2,h3⟩:=h
 have hbc:0<b*c:=Int.mul_pos hb hc
 have e:2*(a*c - k*(b*c))=(2*(a - k*b))*c:=by
  rw [<-Int.mul_assoc,<-Int.sub_mul,Int.mul_assoc]
 have en:-(b*c)=(-b)*c:=by rw [Int.neg_mul]
 refine Fx.rnd_uniq (a*c) (b*c) k hbc ?_ ?_ ?_
 ·rw [e,en];exact Int.mul_le_mul_of_nonneg_right h1 (by omega)
 ·rw [e];exact Int.mul_le_mul_of_nonneg_right h2 (by omega)
 ·rw [e,en]
  intro h
  apply h3
  rcases h with h | h
  ·exact Or.inl (Int.eq_of_mul_eq_mul_right (by omega) h)
  ·exact Or.inr (Int.eq_of_mul_eq_mul_right (by omega) h)
theorem pow_nonneg (t:Int):0<=pow t:=by
 by_cases h:62 < -(t / 65536)
 ·rw [pow_low h];omega
 ·rw [pow_in h]
  have b:=poly_bd (f:=t % 65536) (by omega) (by omega)
  exact rnd_nonneg _ _ (Fx.pow_pos _) (by omega)
theorem pow_mono {s t:Int} (h:s<=t) (h0:t<=0):pow s<=pow t:=by
 by_cases hs:62 < -(s / 65536)
 ·rw [pow_low hs];exact pow_nonneg t
 ·have ht:¬ 62 < -(t / 65536):=by omega
  rw [pow_in hs,pow_in ht]
  by_cases hn:s / 65536=t / 65536
  ·rw [hn]
   exact Fx.rnd_mono _ _ _ (Fx.pow_pos _) (poly_mono (by omega) (by omega) (by omega))
  ·have bs:=poly_bd (f:=s % 65536) (by omega) (by omega)
   have bt:=poly_bd (f:=t % 65536) (by omega) (by omega)
   have hk:(-(s / 65536)).toNat=(-(t / 65536)).toNat+((t / 65536 - s / 65536).toNat - 1+1):=by omega
   rw [hk,Int.pow_add]
   generalize (t / 65536 - s / 65536).toNat - 1=d
   have p0:=Fx.pow_pos d
   have pd:=Fx.pow_pos (d+1)
   rw [<-rnd_scale (poly (t % 65536)) (2 ^ (-(t / 65536)).toNat) (2 ^ (d+1)) (Fx.pow_pos _) pd]
   refine Fx.rnd_mono _ _ _ (Int.mul_pos (Fx.pow_pos _) pd) ?_
   have e:(2:Int) ^ (d+1)=2 ^ d*2:=Int.pow_succ 2 d
   have m:65536*2<=poly (t % 65536)*2 ^ (d+1):=Int.mul_le_mul bt.1 (by omega) (by omega) (by omega)
   omega
theorem pow_le (t:Int) (h0:t<=0):pow t<=65536:=by
 have:=pow_mono h0 (Int.le_refl 0)
 rw [pow_zero] at this
 exact this
end Ex
end Go.Proofs.YtnchnlgnnlgjcaaGreat
namespace Go.Proofs.YtnchnlgnnlgjcaaGreat
namespace Tb
def row (ls:List (List Int)) (i:Nat):List Int:=ls.getD i []
theorem row_past {ls:List (List Int)} {i:Nat} (h:ls.length<=i):row ls i=[]:=by unfold row;simp [List.getElem?_eq_none h]
theorem row_map_range {n r:Nat} (f:Nat->List Int) (h:r<n):row ((List.range n).map f) r=f r:=by unfold row;simp [h]
def sumN (w:List Int):Nat->Int
 | 0=>0
 | n+1=>sumN w n+Ls.nth w n
def sum (w:List Int):Int:=sumN w w.length
def mixN (w:List Int) (ls:List (List Int)) (i:Nat):Nat->Int
 | 0=>0
 | n+1=>mixN w ls i n+Ls.nth w n*Ls.nth (row ls n) i
def mix (w:List Int) (ls:List (List Int)) (i:Nat):Int:=mixN w ls i ls.length
def place (w:List Int) (ls:List (List Int)) (i:Nat):Int:=Fx.cut (Fx.rnd (mix w ls i) (sum w)) (-8388608) 8388608
def mean (w:List Int) (ls:List (List Int)):List Int:=Ls.gen (row ls 0).length (place w ls)
def wt (s:List Int) (i:Nat):Int:=Ex.exp (Fx.cut (Ls.nth s i - Ls.nth s (Ls.top s)) (-2147483648) 2147483647)
def weights (s:List Int):List Int:=Ls.gen s.length (wt s)
def even (ls:List (List Int)):Bool:=decide (∀ i,i<ls.length->(row ls i).length=(row ls 0).length)
def shape (m:Nat) (ls:List (List Int)):Int:=if ls.length=0 then 14 else if 1024<ls.length then 12 else if m=ls.length then (if even ls=true then 0 else 25) else 25
def weigh (w:List Int):Bool:=decide ((∀ i,i<w.length->0<=Ls.nth w i/\Ls.nth w i<=65536)/\0<sum w)
def milds (ls:List (List Int)):Bool:=decide (∀ i,i<ls.length->Ls.mild (row ls i)=true)
def fit (w:List Int) (ls:List (List Int)):Bool:=weigh w && milds ls
def right (w:List Int) (ls:List (List Int)):Int:=if shape w.length ls=0 then (if fit w ls=true then 0 else 11) else shape w.length ls
theorem right_zero {w:List Int} {ls:List (List Int)} (h:right w ls=0):shape w.length ls=0/\fit w ls=true:=by
 unfold right at h
 by_cases hs:shape w.length ls=0
 ·rw [if_pos hs] at h
  cases hf:fit w ls
  ·rw [hf] at h;simp at h
  ·exact ⟨hs,rfl⟩
 ·rw [if_neg hs] at h;exact absurd h hs
def shift (s:List Int) (z:Int):List Int:=Ls.gen s.length fun i=>z+Ls.nth s i
def lo (ls:List (List Int)) (i:Nat):Nat->Int
 | 0=>Ls.nth (row ls 0) i
 | n+1=>if Ls.nth (row ls n) i<lo ls i n then Ls.nth (row ls n) i else lo ls i n
def hi (ls:List (List Int)) (i:Nat):Nat->Int
 | 0=>Ls.nth (row ls 0) i
 | n+1=>if hi ls i n<Ls.nth (row ls n) i then Ls.nth (row ls n) i else hi ls i n
end Tb
end Go.Proofs.YtnchnlgnnlgjcaaGreat
namespace Go.Proofs.YtnchnlgnnlgjcaaGreat
namespace Pg
def grp (s:Int) (l:List Int):Int × Int × List Int:=(Gp.low l,Gp.scale s l,Gp.codes (Gp.low l) (Gp.scale s l) l)
def col (ls:List (List Int)) (i:Nat):List Int:=Ls.gen ls.length fun k=>Ls.nth (Tb.row ls k) i
theorem col_length (ls:List (List Int)) (i:Nat):(col ls i).length=ls.length:=Ls.gen_length _ _
theorem nth_col {ls:List (List Int)} {i k:Nat} (h:k<ls.length):Ls.nth (col ls i) k=Ls.nth (Tb.row ls k) i:=Ls.nth_gen h
theorem col_in {ls:List (List Int)} (h:∀ k,Ls.In32 (Tb.row ls k)) (i:Nat):Ls.In32 (col ls i):=Ls.in32_mk fun k hk=>by
 rw [col_length] at hk
 rw [nth_col hk]
 exact h k i
def qk (s:Int) (d:Nat) (ls:List (List Int)):List (Int × Int × List Int):=gen d fun i=>grp s (col ls i)
def qv (s:Int) (ls:List (List Int)):List (Int × Int × List Int):=gen ls.length fun k=>grp s (Tb.row ls k)
theorem qk_length (s:Int) (d:Nat) (ls:List (List Int)):(qk s d ls).length=d:=gen_length _ _
theorem qv_length (s:Int) (ls:List (List Int)):(qv s ls).length=ls.length:=gen_length _ _
theorem nth_qk {s:Int} {d i:Nat} {ls:List (List Int)} (h:i<d):nth (qk s d ls) i=grp s (col ls i):=nth_gen h
theorem nth_qv {s:Int} {k:Nat} {ls:List (List Int)} (h:k<ls.length):nth (qv s ls) k=grp s (Tb.row ls k):=nth_gen h
theorem grp_right {s:Int} {l:List Int} (h:Ls.In32 l) (hs:3<=s):Gp.right s (gs (grp s l)) (gc (grp s l))=0:=Gp.grouped_right h hs
theorem pow_st {b s:Nat} (h:Gp.St b s):2 ^ b=s+1:=by rcases h with ⟨rfl,rfl⟩ | ⟨rfl,rfl⟩ | ⟨rfl,rfl⟩ <;> rfl
theorem grp_fits {b s n:Nat} {l:List Int} (hst:Gp.St b s) (h:Ls.In32 l) (hn:l.length=n):Fits b n (grp s l):=by
 have bs:=hst.bd
 have sb:=Gp.scale_bd (s:=(s:Int)) h (by omega)
 have zb:=Gp.lowN_in h l.length
 refine ⟨by show (Gp.codes _ _ l).length=n;rw [Gp.codes_length,hn],?_,zb.1,zb.2,sb.1,?_⟩
 ·intro i
  show 0<=Ls.nth (Gp.codes (Gp.low l) (Gp.scale s l) l) i/\(Ls.nth (Gp.codes (Gp.low l) (Gp.scale s l) l) i).toNat<2 ^ b
  rw [pow_st hst]
  by_cases hi:i<l.length
  ·have:=Gp.codes_right (s:=(s:Int)) h (by omega) hi
   omega
  ·rw [Ls.nth_past (by rw [Gp.codes_length];omega)]
   omega
 ·have:gs (grp s l)<=1431655765:=sb.2
  omega
theorem quant_page {h:List Int} {b0 s0 b1 s1:Nat} {ks vs:List (List Int)} (h7:h.length=7) (hr:rightH h=true) (e0:Ls.nth h 0=(b0:Int)) (e1:Ls.nth h 1=(b1:Int)) (st0:Gp.St b0 s0) (st1:Gp.St b1 s1)
 (ik:∀ k,Ls.In32 (Tb.row ks k)) (iv:∀ k,Ls.In32 (Tb.row vs k)) (nk:(ks.length:Int)=Ls.nth h 2) (nv:(vs.length:Int)=Ls.nth h 2) (dv:∀ k,k<vs.length->((Tb.row vs k).length:Int)=Ls.nth h 3) :
 Page h (qk s0 (dm h) ks) (qv s1 vs):=by
 have k0:kb h=b0:=by unfold kb;omega
 have k1:vb h=b1:=by unfold vb;omega
 have t0:ks.length=tk h:=by unfold tk;omega
 have t1:vs.length=tk h:=by unfold tk;omega
 have bs0:=st0.bd
 have bs1:=st1.bd
 have p0:=pow_st st0
 have p1:=pow_st st1
 have r0:((2 ^ b0 - 1:Nat):Int)=(s0:Int):=by omega
 have r1:((2 ^ b1 - 1:Nat):Int)=(s1:Int):=by omega
 refine ⟨h7,hr,qk_length _ _ _,by rw [qv_length,t1],fun i hi=>?_,fun i hi=>?_,fun i hi=>?_,fun i hi=>?_⟩
 ·rw [qk_length] at hi
  rw [nth_qk hi,k0]
  exact grp_fits st0 (col_in ik i) (by rw [col_length,t0])
 ·rw [qv_length] at hi
  rw [nth_qv hi,k1]
  exact grp_fits st1 (iv i) (by have:=dv i hi;unfold dm;omega)
 ·rw [qk_length] at hi
  rw [nth_qk hi,k0,r0]
  exact grp_right (col_in ik i) (by omega)
 ·rw [qv_length] at hi
  rw [nth_qv hi,k1,r1]
  exact grp_right (iv i) (by omega)
end Pg
end Go.Proofs.YtnchnlgnnlgjcaaGreat
namespace Go.Proofs.YtnchnlgnnlgjcaaGreat
open Go.ChangeShapes Go.WideShapes
theorem cells7 {cs:Array Value} (h:cs.size=7):∃ a0 a1 a2 a3 a4 a5 a6,cs=#[a0,a1,a2,a3,a4,a5,a6]:=by
 obtain ⟨l⟩:=cs
 simp only [List.size_toArray] at h
 match l,h with
 | [a0,a1,a2,a3,a4,a5,a6],_=>exact ⟨a0,a1,a2,a3,a4,a5,a6,rfl⟩
end Go.Proofs.YtnchnlgnnlgjcaaGreat
namespace Go.Proofs.YtnchnlgnnlgjcaaGreat
open Go.RowKit
theorem ret_bool {a b:Bool} (h:a=b):Ending.returned (.bool a)=.returned (.bool b):=by rw [h]
theorem ret_num {k:IntKind} {a b:Int} (h:a=b):Ending.returned (.int k a)=.returned (.int k b):=by rw [h]
def Lst (k:IntKind) (w:World) (a:Option Addr) (l:List Int):Prop :=
 ∀ i,i<l.length->∃ b o,a=some ⟨b,o,none⟩/\w.cell? ⟨b,o+i,none⟩=some (.int k (Ls.nth l i))
theorem Lst.get {k:IntKind} {w:World} {a:Option Addr} {l:List Int} (h:Lst k w a l) {i:Nat} (hi:i<l.length) :
 ∃ b o,a=some ⟨b,o,none⟩/\∀ j,j<l.length->w.cell? ⟨b,o+j,none⟩=some (.int k (Ls.nth l j)):=by
 obtain ⟨b,o,rfl,_⟩:=h i hi
 refine ⟨b,o,rfl,fun j hj=>?_⟩
 obtain ⟨b',o',e,hc⟩:=h j hj
 simp at e
 obtain ⟨rfl,rfl⟩:=e
 exact hc
theorem Lst.nil (k:IntKind) (w:World) (a:Option Addr):Lst k w a []:=fun i hi=>by simp at hi
theorem Lst.keep {k:IntKind} {w w':World} {a:Option Addr} {l:List Int} (h:Lst k w a l) (hb:Below w.heap.size w w'):Lst k w' a l:=fun i hi=>by
 obtain ⟨b,o,e,hc⟩:=h i hi
 refine ⟨b,o,e,?_⟩
 rw [hb.cell (p:=⟨b,o+i,none⟩) (World.block_lt_of_cell? w _ hc)]
 exact hc
theorem Lst.draws {k:IntKind} {w:World} {a:Option Addr} {l:List Int} (h:Lst k w a l) (n:Nat):Lst k (w.drewN n) a l:=fun i hi=>by
 obtain ⟨b,o,e,hc⟩:=h i hi
 exact ⟨b,o,e,by simpa using hc⟩
theorem below_then {w0 w w':World} (h:Below w0.heap.size w0 w) (k:Below w.heap.size w w'):Below w0.heap.size w0 w':=h.trans (k.mono h.size)
theorem lst_of_row {k:IntKind} {w:World} {g:Nat} {t:TypeId} {l:List Int} {f:Nat->Value} (h:w.rowIs g t l.length f) (hf:∀ i,i<l.length->f i=.int k (Ls.nth l i)):Lst k w (some ⟨g,0,none⟩) l:=by
 intro i hi
 refine ⟨g,0,rfl,?_⟩
 rw [Nat.zero_add,h.cell hi,hf i hi]
theorem lst_of_own {k:IntKind} {w:World} {base:Nat} {t:TypeId} {v:Value} {l:List Int} (h:w.ownsRow base t 1 v l.length (l.map (Value.int k))) :
 ∃ a cap,v=.slice a l.length cap/\Lst k w a l/\l.length<=cap/\cap<=maxLen:=by
 have h':=h
 rcases h.2 with ⟨rfl,hn⟩ | ⟨g,cap,cur,rfl,hb,hg,h1,h2,h3,h4⟩
 ·refine ⟨none,0,by rw [hn],fun i hi=>by omega,by omega,by omega⟩
 ·refine ⟨_,cap,rfl,?_,h1,h2⟩
  intro i hi
  refine ⟨g,0,rfl,?_⟩
  rw [Nat.zero_add,h'.cellAt i (by omega)]
  simp [Ls.nth,hi]
theorem lst_of_ownm {k:IntKind} {w:World} {base:Nat} {t:TypeId} {v:Value} {n:Nat} {l:List Int} (h:w.ownsRow base t 1 v n (l.map (Value.int k))) (hn:n=l.length) :
 ∃ a cap,v=.slice a n cap/\Lst k w a l:=by
 subst hn
 obtain ⟨a,cap,h1,h2,_⟩:=lst_of_own h
 exact ⟨a,cap,h1,h2⟩
theorem Lst.none_nil {k:IntKind} {w:World} {l:List Int} (h:Lst k w none l):l=[]:=by
 cases l with
 | nil=>rfl
 | cons x l =>
   obtain ⟨b,o,e,_⟩:=h 0 (by simp)
   cases e
theorem wpList_append_lst {P:Program} {w:World} {ops:Array Oper} {rest:List Oper} {o:Oper} {a:Act} {Q:Exit->Act->World->Prop} (hgd:o.guard=none) (s x:Operand) (t:TypeId)
 (ho:o.op=.call { callee:=.builtin .append,args:=#[s,x],argTypes:=#[t,t] })
 (base:Nat) (e:TypeId) (k:IntKind) (bytes:Nat) (ht:P.underlying t=some (.slice e)) (hinfo:(P.info? e).map (fun i=>(i.zero,i.size,i.bytes))=some (some (.int k 0),1,bytes))
 (v:Value) (n:Nat) (xs:List Value) (hs:a.eval s=v) (hown:w.ownsRow base e 1 v n xs)
 (ao:Option Addr) (l:List Int) (c:Nat) (hx:a.eval x=.slice ao l.length c) (hL:Lst k w ao l) (hc:ao=none->c=0)
 (h63:n+l.length<=maxLen) (hbytes:(n+l.length)*bytes<=140737488355328) (hbase:base<=w.heap.size)
 (h:∀ v' w',w'.ownsRow base e 1 v' (n+l.length) (xs ++ l.map (Value.int k))->w.grownBy w' v.ownBlock->wpList P ops Q rest (a.put o.dst v') w'):wpList P ops Q (o :: rest) a w:=by
 obtain ⟨i,hi,hz0,hz1,hz2⟩:=info_parts hinfo
 cases ao with
 | none =>
   have e0:=hL.none_nil
   subst e0
   have hc0:=hc rfl
   subst hc0
   exact wpList_append_own_none hgd s x t ho base e i 1 ht hi v n xs hs hown hx (h v w (by simpa using hown) (World.grownBy.refl _ _))
 | some ad =>
   refine wpList_append_own w hgd s x t ho base e i (.int k 0) 1 bytes ht hi hz0 hz1 hz2 rfl (by omega) v n xs hs hown ad l.length c (l.map (Value.int k)) hx (by simp) ?_ (ints_oneCell k l) h63 hbytes hbase (fun v' w' h1 h2 _=>h v' w' h1 h2)
   intro j u hu
   have hj:j<l.length:=by
    have:=(List.getElem?_eq_some_iff.1 hu).1
    simpa using this
   obtain ⟨b,o1,e1,hcell⟩:=hL j hj
   simp at e1
   subst e1
   rw [Addr.add_lit,hcell]
   simpa [Ls.nth,hj] using hu
theorem lst_lit {k:IntKind} {w:World} {g:Nat} {t:TypeId} {fr:Nat × Nat} (l:List Int) (h:w.heap[g]?=some (.cells (l.map (Value.int k)).toArray t fr)):Lst k w (some ⟨g,0,none⟩) l:=by
 intro i hi
 refine ⟨g,0,rfl,?_⟩
 rw [Nat.zero_add,cell_of_row w g i _ t fr h]
 simp [Ls.nth,hi]
theorem lst_new {k:IntKind} (w:World) {t:TypeId} (l:List Int):Lst k (w.alloc (.cells (l.map (Value.int k)).toArray t)) (some ⟨w.heap.size,0,none⟩) l:=lst_lit l (heap_alloc_new w _)
theorem Lst.cell0 {k:IntKind} {w:World} {g:Nat} {l:List Int} (h:Lst k w (some ⟨g,0,none⟩) l) {i:Nat} (hi:i<l.length):w.cell? ⟨g,i,none⟩=some (.int k (Ls.nth l i)):=by
 obtain ⟨b,o,e,hc⟩:=h i hi
 simp at e
 obtain ⟨rfl,rfl⟩:=e
 simpa using hc
end Go.Proofs.YtnchnlgnnlgjcaaGreat
namespace Go.Proofs.YtnchnlgnnlgjcaaGreat
open Go.RowKit
def Tbl (w:World) (a:Option Addr) (ls:List (List Int)):Prop :=
 ∀ i,i<ls.length->∃ b o A C,a=some ⟨b,o,none⟩/\w.cell? ⟨b,o+i,none⟩=some (.slice A (Tb.row ls i).length C)/\Lst .i32 w A (Tb.row ls i)/\(Tb.row ls i).length<=maxLen
theorem Tbl.get {w:World} {a:Option Addr} {ls:List (List Int)} (h:Tbl w a ls) {i:Nat} (hi:i<ls.length) :
 ∃ b o,a=some ⟨b,o,none⟩/\∀ j,j<ls.length->∃ A C,w.cell? ⟨b,o+j,none⟩=some (.slice A (Tb.row ls j).length C)/\Lst .i32 w A (Tb.row ls j)/\(Tb.row ls j).length<=maxLen:=by
 obtain ⟨b,o,A,C,rfl,_⟩:=h i hi
 refine ⟨b,o,rfl,fun j hj=>?_⟩
 obtain ⟨b',o',A',C',e,hc⟩:=h j hj
 simp at e
 obtain ⟨rfl,rfl⟩:=e
 exact ⟨A',C',hc⟩
theorem Tbl.keep {w w':World} {a:Option Addr} {ls:List (List Int)} (h:Tbl w a ls) (hb:Below w.heap.size w w'):Tbl w' a ls:=fun i hi=>by
 obtain ⟨b,o,A,C,e,hc,hL,hm⟩:=h i hi
 refine ⟨b,o,A,C,e,?_,hL.keep hb,hm⟩
 rw [hb.cell (p:=⟨b,o+i,none⟩) (World.block_lt_of_cell? w _ hc)]
 exact hc
def IsTable (w:World) (a:Option Addr) (len cap:Nat):Prop :=
 (a=none/\len=0/\cap=0) \/
 ∃ (x:Addr) (A:Nat->Option Addr) (L C:Nat->Nat) (Z:Nat->List Int),a=some x/\len<=cap/\cap<=maxLen /\
   ∀ r,r<cap->w.cell? (x.add r)=some (.slice (A r) (L r) (C r))/\L r<=C r/\C r<=maxLen/\(Z r).length=C r/\(∀ n ∈ Z r,(Lit.int .i32 n).wf=true)/\(A r=none->C r=0) /\
     ∀ a',A r=some a'->∀ c,c<C r->w.cell? (a'.add c)=some (.int .i32 ((Z r).getD c 0))
theorem addr_plain {w:World} {x:Addr} {v:Value} (h:w.cell? x=some v):∃ b o,x=⟨b,o,none⟩:=by
 obtain ⟨b,o,s⟩:=x
 have:=World.cell?_spot h
 simp at this
 subst this
 exact ⟨b,o,rfl⟩
end Go.Proofs.YtnchnlgnnlgjcaaGreat
namespace Go.Proofs.YtnchnlgnnlgjcaaGreat
open Go.ChangeShapes Go.WideShapes
theorem open_wide {H:Type} {enc:TypeId × Value->H} {P:Program} {w:World} {base:Nat} {spare:Nat->Bool} {held:Bool} {t:TypeId} {fs:Array Field} {fuel:Nat} {cs:List Value} {x:DataW H × List MemPlace}
 (ht:P.underlying t=some (.struct fs)) (h:DataW.trod enc P w base spare held fuel t cs=some x) :
 ∃ n,∀ (i:Nat) (f:Field),fs[i]?=some f->∃ y,DataW.trod enc P w base spare held n f.type ((cs.drop f.offset).take (P.cellsOf f.type))=some y:=by
 obtain ⟨xs,n,_,_,_,hlen,hf⟩:=DataW.trod_struct ht h
 refine ⟨n,fun i f hi=>?_⟩
 have h1:=hf i f hi
 have hlt:i<fs.size:=by
  rcases Nat.lt_or_ge i fs.size with h' | h'
  ·exact h'
  ·rw [Array.getElem?_eq_none h'] at hi;cases hi
 have hx:i<xs.length:=by omega
 rw [List.getElem?_eq_getElem hx] at h1
 exact ⟨_,h1⟩
end Go.Proofs.YtnchnlgnnlgjcaaGreat
