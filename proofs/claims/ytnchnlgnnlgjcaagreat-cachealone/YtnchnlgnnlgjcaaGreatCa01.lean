set_option linter.unusedVariables false
namespace Go.Proofs.YtnchnlgnnlgjcaaGreat
namespace Fx
def cut (v lo hi:Int):Int:=if v<lo then lo else if hi<v then hi else v
def near (q r b:Int):Int:=if b - r<r then q+1 else if r=b - r then (if q % 2=0 then q else q+1) else q
def rnd (a b:Int):Int:=near (a / b) (a % b) b
theorem near_up {q r b:Int} (h:b - r<r):near q r b=q+1:=by simp [near,h]
theorem near_even {q r b:Int} (h1:¬ b - r<r) (h2:r=b - r) (h3:q % 2=0):near q r b=q:=by unfold near;rw [if_neg h1,if_pos h2,if_pos h3]
theorem near_odd {q r b:Int} (h1:¬ b - r<r) (h2:r=b - r) (h3:¬ q % 2=0):near q r b=q+1:=by unfold near;rw [if_neg h1,if_pos h2,if_neg h3]
theorem near_down {q r b:Int} (h1:¬ b - r<r) (h2:¬ r=b - r):near q r b=q:=by unfold near;rw [if_neg h1,if_neg h2]
theorem near_bd (q r b:Int):q<=near q r b/\near q r b<=q+1:=by
 unfold near
 split
 ·omega
 ·split
  ·split <;> omega
  ·omega
theorem cut_lo {v lo hi:Int} (h:v<lo):cut v lo hi=lo:=by simp [cut,h]
theorem cut_hi {v lo hi:Int} (h1:¬ v<lo) (h:hi<v):cut v lo hi=hi:=by simp [cut,h,h1]
theorem cut_in {v lo hi:Int} (h1:¬ v<lo) (h:¬ hi<v):cut v lo hi=v:=by simp [cut,h,h1]
theorem div_bd (a b L:Int) (hb:0<b) (h1:-L<=a) (h2:a<=L) (hL:0<=L):-L<=a / b/\a / b<=L:=by
 have e:=Int.mul_ediv_add_emod a b
 have h0:=Int.emod_nonneg a (show b ≠ 0 by omega)
 have h3:=Int.emod_lt_of_pos a hb
 generalize a / b=q at *
 generalize a % b=r at *
 constructor
 ·refine Int.le_of_not_gt fun hq=>?_
  have:b*q<=b*(-L - 1):=Int.mul_le_mul_of_nonneg_left (by omega) (by omega)
  have h5:b*(-L - 1)=b*(-L) - b:=by rw [Int.mul_sub];omega
  have h6:b*(-L)<=1*(-L):=by
   have:1*L<=b*L:=Int.mul_le_mul_of_nonneg_right (by omega) hL
   rw [Int.mul_neg,Int.mul_neg];omega
  omega
 ·refine Int.le_of_not_gt fun hq=>?_
  have:b*(L+1)<=b*q:=Int.mul_le_mul_of_nonneg_left (by omega) (by omega)
  have h5:b*(L+1)=b*L+b:=by rw [Int.mul_add];omega
  have h6:1*L<=b*L:=Int.mul_le_mul_of_nonneg_right (by omega) hL
  omega
theorem div_mul (a b:Int):a / b*b=a - a % b:=by
 have e:=Int.mul_ediv_add_emod a b
 rw [Int.mul_comm] at e
 omega
theorem tdiv_neg {a b:Int} (ha:a<0) (hb:0<b):(a.tmod b=0/\a % b=0/\a.tdiv b=a / b)\/(a.tmod b<0/\a % b=a.tmod b+b/\a.tdiv b=a / b+1):=by
 have hs:b.sign=1:=Int.sign_eq_one_of_pos hb
 have hn:(b.natAbs:Int)=b:=by omega
 have h0:=Int.emod_nonneg a (show b ≠ 0 by omega)
 have h1:=Int.emod_lt_of_pos a hb
 have e1:=Int.tdiv_eq_ediv (a:=a) (b:=b)
 have e2:=Int.tmod_eq_emod (a:=a) (b:=b)
 by_cases hd:b ∣ a
 ·left
  rw [if_pos (Or.inr hd)] at e1 e2
  have:a % b=0:=Int.emod_eq_zero_of_dvd hd
  omega
 ·right
  have hne:¬ (0<=a\/b ∣ a):=by
   intro h;rcases h with h | h
   ·omega
   ·exact hd h
  rw [if_neg hne] at e1 e2
  omega
theorem quo_half (a b:Int) (h2:a<=9223372036854775807) (hb:0<b):b<=1\/a / b<=4611686018427387904:=by
 by_cases hz:b<=1
 ·exact Or.inl hz
 ·right
  have e:=div_mul a b
  have h0:=Int.emod_nonneg a (show b ≠ 0 by omega)
  refine Int.le_of_not_gt fun hq=>?_
  have h3:4611686018427387905*b<=a / b*b:=Int.mul_le_mul_of_nonneg_right (by omega) (by omega)
  omega
theorem quo_bd (a b:Int) (h1:-9223372036854775808<=a) (h2:a<=9223372036854775807) (hb:0<b):-9223372036854775808<=a / b/\a / b<=9223372036854775807:=by
 have q0:=div_bd a b 9223372036854775808 hb (by omega) (by omega) (by omega)
 refine ⟨q0.1,?_⟩
 rcases quo_half a b h2 hb with h | h
 ·have e3:b=1:=by omega
  rw [e3,Int.ediv_one];omega
 ·omega
theorem quo_neg (a b:Int) (ha:a<0) (hb:0<b):a / b<=-1:=by
 have:=Int.ediv_neg_of_neg_of_pos ha hb
 omega
theorem mul_bd (a b:Int) (h1:-2147483648<=a) (h2:a<=2147483647) (h3:-2147483648<=b) (h4:b<=2147483647):-4611686018427387904<=a*b/\a*b<=4611686018427387904:=by
 have e1:(a+2147483648)*(b+2147483648)=a*b+2147483648*a+2147483648*b+4611686018427387904:=by
  rw [Int.add_mul,Int.mul_add,Int.mul_add];omega
 have e2:(2147483648 - a)*(2147483648 - b)=a*b - 2147483648*a - 2147483648*b+4611686018427387904:=by
  rw [Int.sub_mul,Int.mul_sub,Int.mul_sub];omega
 have e3:(a+2147483648)*(2147483648 - b)=2147483648*a - a*b - 2147483648*b+4611686018427387904:=by
  rw [Int.add_mul,Int.mul_sub,Int.mul_sub];omega
 have e4:(2147483648 - a)*(b+2147483648)=2147483648*b - a*b - 2147483648*a+4611686018427387904:=by
  rw [Int.sub_mul,Int.mul_add,Int.mul_add];omega
 have p1:0<=(a+2147483648)*(b+2147483648):=Int.mul_nonneg (by omega) (by omega)
 have p2:0<=(2147483648 - a)*(2147483648 - b):=Int.mul_nonneg (by omega) (by omega)
 have p3:0<=(a+2147483648)*(2147483648 - b):=Int.mul_nonneg (by omega) (by omega)
 have p4:0<=(2147483648 - a)*(b+2147483648):=Int.mul_nonneg (by omega) (by omega)
 omega
def of (n:Int):Int:=cut (n*65536) (-2147483648) 2147483647
theorem rnd_char (a b:Int) (hb:0<b):-b<=2*(a - rnd a b*b)/\2*(a - rnd a b*b)<=b/\((2*(a - rnd a b*b)=b\/2*(a - rnd a b*b)=-b)->rnd a b % 2=0):=by
 have e:=div_mul a b
 have h0:=Int.emod_nonneg a (show b ≠ 0 by omega)
 have h1:=Int.emod_lt_of_pos a hb
 unfold rnd
 generalize a / b=q at *
 generalize a % b=r at *
 have e1:(q+1)*b=q*b+b:=by rw [Int.add_mul];omega
 by_cases c1:b - r<r
 ·rw [near_up c1,e1];omega
 ·by_cases c2:r=b - r
  ·by_cases c3:q % 2=0
   ·rw [near_even c1 c2 c3];omega
   ·rw [near_odd c1 c2 c3,e1];omega
  ·rw [near_down c1 c2];omega
theorem rnd_mono (a c b:Int) (hb:0<b) (h:a<=c):rnd a b<=rnd c b:=by
 have h1:=rnd_char a b hb
 have h2:=rnd_char c b hb
 generalize rnd a b=m at *
 generalize rnd c b=k at *
 refine Int.le_of_not_gt fun hk=>?_
 have e:m*b=k*b+(m - k)*b:=by rw [<-Int.add_mul];congr 1;omega
 by_cases hd:m - k=1
 ·rw [hd] at e
  omega
 ·have:2*b<=(m - k)*b:=Int.mul_le_mul_of_nonneg_right (by omega) (by omega)
  omega
theorem rnd_uniq (a b m:Int) (hb:0<b) (h1:-b<=2*(a - m*b)) (h2:2*(a - m*b)<=b) (h3:(2*(a - m*b)=b\/2*(a - m*b)=-b)->m % 2=0):rnd a b=m:=by
 have h:=rnd_char a b hb
 generalize rnd a b=k at *
 have e:k*b=m*b+(k - m)*b:=by rw [<-Int.add_mul];congr 1;omega
 by_cases hd:k - m=0
 ·omega
 ·exfalso
  by_cases hd1:k - m=1
  ·rw [hd1] at e;omega
  ·by_cases hd2:k - m=-1
   ·rw [hd2] at e;omega
   ·by_cases hp:0<k - m
    ·have:2*b<=(k - m)*b:=Int.mul_le_mul_of_nonneg_right (by omega) (by omega)
     omega
    ·have:(k - m)*b<=-2*b:=Int.mul_le_mul_of_nonneg_right (by omega) (by omega)
     omega
theorem rnd_mul (m b:Int) (hb:0<b):rnd (m*b) b=m :=
 rnd_uniq (m*b) b m hb (by omega) (by omega) (by omega)
end Fx
end Go.Proofs.YtnchnlgnnlgjcaaGreat
namespace Go.Proofs.YtnchnlgnnlgjcaaGreat
namespace Ls
def nth (l:List Int) (i:Nat):Int:=l.getD i 0
theorem nth_of_lt {l:List Int} {i:Nat} (h:i<l.length):nth l i=l[i]:=by unfold nth;simp [h]
theorem nth_past {l:List Int} {i:Nat} (h:l.length<=i):nth l i=0:=by unfold nth;simp [List.getElem?_eq_none h]
theorem nth_nil (i:Nat):nth [] i=0:=rfl
theorem nth_take {l:List Int} {n i:Nat} (h:i<n):nth (l.take n) i=nth l i:=by unfold nth;simp [h]
theorem nth_drop {l:List Int} {n i:Nat}:nth (l.drop n) i=nth l (n+i):=by unfold nth;simp
theorem nth_append_left {l m:List Int} {i:Nat} (h:i<l.length):nth (l ++ m) i=nth l i:=by unfold nth;simp [List.getElem?_append_left h]
theorem nth_append_at {l:List Int} {x:Int} {i:Nat} (h:i=l.length):nth (l ++ [x]) i=x:=by subst h;unfold nth;simp
theorem ext_nth {l m:List Int} (hl:l.length=m.length) (h:∀ i,i<l.length->nth l i=nth m i):l=m:=by
 apply List.ext_getElem hl
 intro i h1 h2
 have:=h i h1
 rw [nth_of_lt h1,nth_of_lt h2] at this
 exact this
theorem nth_mem {l:List Int} {i:Nat} (h:i<l.length):nth l i ∈ l:=by rw [nth_of_lt h];exact List.getElem_mem h
def In32 (l:List Int):Prop:=∀ i,-2147483648<=nth l i/\nth l i<=2147483647
theorem in32_mk {l:List Int} (h:∀ i,i<l.length->-2147483648<=nth l i/\nth l i<=2147483647):In32 l:=by
 intro i
 by_cases c:i<l.length
 ·exact h i c
 ·rw [nth_past (by omega)];omega
theorem In32.take {l:List Int} (h:In32 l) (n:Nat):In32 (l.take n):=by
 apply in32_mk
 intro i hi
 rw [nth_take (by simp at hi;omega)]
 exact h i
def gen (n:Nat) (f:Nat->Int):List Int:=(List.range n).map f
theorem gen_length (n:Nat) (f:Nat->Int):(gen n f).length=n:=by simp [gen]
theorem nth_gen {n i:Nat} {f:Nat->Int} (h:i<n):nth (gen n f) i=f i:=by unfold nth gen;simp [h]
def mild (l:List Int):Bool:=decide (l.length<=1024/\∀ i,i<l.length->-16777216<=nth l i/\nth l i<=16777216)
def sum2 (x y:Int):Int:=Fx.cut (x+y) (-8388608) 8388608
def add (a b:List Int):List Int:=gen a.length fun i=>sum2 (nth a i) (nth b i)
def topN (a:List Int):Nat->Nat
 | 0=>0
 | n+1=>if nth a (topN a n)<nth a n then n else topN a n
def top (a:List Int):Nat:=topN a a.length
end Ls
end Go.Proofs.YtnchnlgnnlgjcaaGreat
namespace Go.Proofs.YtnchnlgnnlgjcaaGreat
namespace Rn
def pl (f n i:Nat):Nat:=(f+i) % n
theorem pl_lt {f n i:Nat} (h:0<n):pl f n i<n:=Nat.mod_lt _ h
theorem pl_inj {f n i j:Nat} (hf:f<n) (hi:i<n) (hj:j<n) (h:pl f n i=pl f n j):i=j:=by
 unfold pl at h
 have e:∀ x,x<n->(f+x) % n=if f+x<n then f+x else f+x - n:=fun x hx=>by
  split
  ·rename_i h;exact Nat.mod_eq_of_lt h
  ·rename_i h
   rw [Nat.mod_eq_sub_mod (by omega),Nat.mod_eq_of_lt (by omega)]
 rw [e i hi,e j hj] at h
 split at h <;> split at h <;> omega
theorem pl_shift (f n k i:Nat):pl (pl f n k) n i=pl f n (k+i):=by
 unfold pl
 rw [Nat.mod_add_mod,Nat.add_assoc]
theorem pl_zero {f n:Nat} (h:f<n):pl f n 0=f:=Nat.mod_eq_of_lt (by omega)
end Rn
end Go.Proofs.YtnchnlgnnlgjcaaGreat
namespace Go.Proofs.YtnchnlgnnlgjcaaGreat
namespace Po
open Ls (nth)
theorem nth_set {l:List Int} {p:Nat} (hp:p<l.length) (c:Int) (j:Nat):nth (l.set p c) j=if j=p then c else nth l j:=by
 unfold Ls.nth
 by_cases e:j=p
 ·subst e;simp [hp]
 ·rw [if_neg e]
  simp [show ¬ p=j from fun x=>e x.symm]
def cntN (l:List Int):Nat->Nat
 | 0=>0
 | k+1=>cntN l k+if nth l k=0 then 1 else 0
def cnt (l:List Int):Nat:=cntN l l.length
theorem cntN_le (l:List Int) (k:Nat):cntN l k<=k:=by
 induction k with
 | zero=>exact Nat.le_refl _
 | succ k ih=>unfold cntN;split <;> omega
theorem cnt_le (l:List Int):cnt l<=l.length:=cntN_le _ _
theorem cntN_yes {l:List Int} {k:Nat} (h:nth l k=0):cntN l (k+1)=cntN l k+1:=by show cntN l k+_=_;rw [if_pos h]
theorem cntN_no {l:List Int} {k:Nat} (h:¬ nth l k=0):cntN l (k+1)=cntN l k:=by show cntN l k+_=_;rw [if_neg h];rfl
theorem cntN_set_past {l:List Int} {p k:Nat} (hp:p<l.length) (h:k<=p) (c:Int):cntN (l.set p c) k=cntN l k:=by
 induction k with
 | zero=>rfl
 | succ k ih =>
   show cntN _ k+_=cntN _ k+_
   rw [ih (by omega),nth_set hp,if_neg (show ¬ k=p by omega)]
theorem cntN_set {l:List Int} {p k:Nat} (hp:p<l.length) (h:p<k) (c:Int):cntN (l.set p c) k+(if nth l p=0 then 1 else 0)=cntN l k+(if c=0 then 1 else 0):=by
 induction k with
 | zero=>omega
 | succ k ih =>
   show cntN _ k+_+_=cntN _ k+_+_
   rw [nth_set hp]
   by_cases e:k=p
   ·subst e
    rw [cntN_set_past hp (Nat.le_refl _),if_pos (show k=k from rfl)]
    omega
   ·rw [if_neg e]
    have:=ih (by omega)
    omega
theorem cnt_set {l:List Int} {p:Nat} (hp:p<l.length) (c:Int):cnt (l.set p c)+(if nth l p=0 then 1 else 0)=cnt l+(if c=0 then 1 else 0):=by
 unfold cnt
 rw [List.length_set]
 exact cntN_set hp hp c
theorem cntN_none {l:List Int} {k:Nat} (h:∀ i,i<k->¬ nth l i=0):cntN l k=0:=by
 induction k with
 | zero=>rfl
 | succ k ih=>rw [cntN_no (h k (by omega))];exact ih fun i hi=>h i (by omega)
theorem cntN_all {l:List Int} {k:Nat} (h:∀ i,i<k->nth l i=0):cntN l k=k:=by
 induction k with
 | zero=>rfl
 | succ k ih=>rw [cntN_yes (h k (by omega)),ih fun i hi=>h i (by omega)]
theorem cnt_zero {l:List Int} (h:∀ i,i<l.length->¬ nth l i=0):cnt l=0:=cntN_none h
theorem cnt_pos {l:List Int} {k:Nat} (hk:k<l.length) (h:nth l k=0):0<cnt l:=by
 have:=cnt_set hk 1
 rw [if_pos h,if_neg (by decide)] at this
 omega
def zeros (n:Nat):List Int:=Ls.gen n fun _=>0
theorem zeros_length (n:Nat):(zeros n).length=n:=Ls.gen_length _ _
theorem nth_zeros (n i:Nat):nth (zeros n) i=0:=by
 by_cases h:i<n
 ·exact Ls.nth_gen h
 ·exact Ls.nth_past (by rw [zeros_length];omega)
theorem cnt_zeros (n:Nat):cnt (zeros n)=n:=by unfold cnt;rw [zeros_length];exact cntN_all fun i _=>nth_zeros n i
theorem free_cases (l:List Int):(∀ i,i<l.length->¬ nth l i=0)\/∃ k,k<l.length/\nth l k=0/\∀ i,i<k->¬ nth l i=0:=by
 have key:∀ n,n<=l.length->(∀ i,i<n->¬ nth l i=0)\/∃ k,k<n/\nth l k=0/\∀ i,i<k->¬ nth l i=0:=by
  intro n
  induction n with
  | zero=>intro _;exact Or.inl fun i hi=>by omega
  | succ n ih =>
    intro hn
    rcases ih (by omega) with h | ⟨k,hk,h0,h1⟩
    ·by_cases e:nth l n=0
     ·exact Or.inr ⟨n,by omega,e,h⟩
     ·refine Or.inl fun i hi=>?_
      by_cases e2:i=n
      ·rw [e2];exact e
      ·exact h i (by omega)
    ·exact Or.inr ⟨k,by omega,h0,h1⟩
 exact key _ (Nat.le_refl _)
def mk (n:Int):Int:=n % 1024
end Po
end Go.Proofs.YtnchnlgnnlgjcaaGreat
namespace Go.Proofs.YtnchnlgnnlgjcaaGreat.Bk
def up (L:Nat->List Int) (j:Nat) (l:List Int):Nat->List Int:=fun i=>if i=j then l else L i
theorem up_at (L:Nat->List Int) (j:Nat) (l:List Int):up L j l j=l:=if_pos rfl
theorem up_off (L:Nat->List Int) {i j:Nat} (l:List Int) (h:¬ i=j):up L j l i=L i:=if_neg h
def flat (L:Nat->List Int):Nat->List Int
 | 0=>[]
 | k+1=>flat L k ++ L k
theorem flat_congr {L L':Nat->List Int} {k:Nat} (h:∀ i,i<k->L i=L' i):flat L k=flat L' k:=by
 induction k with
 | zero=>rfl
 | succ k ih=>show flat L k ++ L k=flat L' k ++ L' k;rw [ih fun i hi=>h i (by omega),h k (by omega)]
theorem flat_nil (k:Nat):flat (fun _=>[]) k=[]:=by
 induction k with
 | zero=>rfl
 | succ k ih=>show flat _ k ++ []=[];rw [ih];rfl
def len (L:Nat->List Int) (k:Nat):Nat:=(flat L k).length
theorem len_succ (L:Nat->List Int) (k:Nat):len L (k+1)=len L k+(L k).length:=by show (flat L k ++ L k).length=_;rw [List.length_append];rfl
theorem len_mono (L:Nat->List Int) {j k:Nat} (h:j<=k):len L j<=len L k:=by
 induction k with
 | zero =>
   have:j=0:=by omega
   rw [this]
   exact Nat.le_refl _
 | succ k ih =>
   rw [len_succ]
   by_cases e:j=k+1
   ·subst e;rw [len_succ];exact Nat.le_refl _
   ·have:=ih (by omega);omega
theorem row_le (L:Nat->List Int) {j k:Nat} (h:j<k):(L j).length<=len L k:=by
 have h1:=len_mono L (show j+1<=k by omega)
 rw [len_succ] at h1
 omega
def occ (x:Int):List Int->Nat
 | []=>0
 | y :: l=>(if y=x then 1 else 0)+occ x l
theorem occ_append (x:Int) (l r:List Int):occ x (l ++ r)=occ x l+occ x r:=by
 induction l with
 | nil=>simp [occ]
 | cons y l ih=>show (if y=x then 1 else 0)+occ x (l ++ r)=(if y=x then 1 else 0)+occ x l+occ x r;rw [ih];omega
theorem occ_le (x:Int) (l:List Int):occ x l<=l.length:=by
 induction l with
 | nil=>exact Nat.le_refl _
 | cons y l ih=>show (if y=x then 1 else 0)+occ x l<=l.length+1;split <;> omega
theorem occ_one (x y:Int):occ x [y]=if y=x then 1 else 0:=by show (if y=x then 1 else 0)+0=_;rfl
theorem occ_none {x:Int} {l:List Int} (h:¬ x ∈ l):occ x l=0:=by
 induction l with
 | nil=>rfl
 | cons y l ih =>
   show (if y=x then 1 else 0)+occ x l=0
   rw [ih (fun m=>h (List.mem_cons_of_mem _ m)),if_neg (fun e=>h (by rw [e];exact List.mem_cons_self ..))]
theorem occ_pos {x:Int} {l:List Int} (h:x ∈ l):0<occ x l:=by
 induction l with
 | nil=>cases h
 | cons y l ih =>
   show 0<(if y=x then 1 else 0)+occ x l
   by_cases e:y=x
   ·rw [if_pos e];omega
   ·rcases List.mem_cons.1 h with q | q
    ·exact absurd q.symm e
    ·have:=ih q;omega
theorem occ_up (L:Nat->List Int) {j k:Nat} (h:j<k) (y x:Int):occ x (flat (up L j (L j ++ [y])) k)=occ x (flat L k)+(if y=x then 1 else 0):=by
 induction k with
 | zero=>omega
 | succ k ih =>
   show occ x (flat (up L j (L j ++ [y])) k ++ up L j (L j ++ [y]) k)=occ x (flat L k ++ L k)+_
   rw [occ_append,occ_append]
   by_cases e:j=k
   ·subst e
    rw [up_at,occ_append,occ_one,flat_congr (L':=L) fun i hi=>up_off L _ (by omega)]
    omega
   ·rw [ih (by omega),up_off L _ (fun q=>e q.symm)]
    omega
theorem len_up (L:Nat->List Int) {j k:Nat} (h:j<k) (y:Int):len (up L j (L j ++ [y])) k=len L k+1:=by
 induction k with
 | zero=>omega
 | succ k ih =>
   rw [len_succ,len_succ]
   by_cases e:j=k
   ·subst e
    rw [up_at]
    have:len (up L j (L j ++ [y])) j=len L j:=by unfold len;rw [flat_congr (L':=L) fun i hi=>up_off L _ (by omega)]
    rw [this,List.length_append]
    simp
    omega
   ·rw [ih (by omega),up_off L _ (fun q=>e q.symm)]
    omega
theorem mem_flat {L:Nat->List Int} {k:Nat} {x:Int} (h:x ∈ flat L k):∃ j,j<k/\x ∈ L j:=by
 induction k with
 | zero=>cases h
 | succ k ih =>
   rcases List.mem_append.1 h with q | q
   ·obtain ⟨j,h1,h2⟩:=ih q;exact ⟨j,by omega,h2⟩
   ·exact ⟨k,by omega,q⟩
theorem flat_mem {L:Nat->List Int} {j k:Nat} {x:Int} (hj:j<k) (h:x ∈ L j):x ∈ flat L k:=by
 induction k with
 | zero=>omega
 | succ k ih =>
   by_cases e:j=k
   ·subst e;exact List.mem_append.2 (.inr h)
   ·exact List.mem_append.2 (.inl (ih (by omega)))
def bump (R:List Int) (d:Int):List Int->List Int
 | []=>R
 | x :: l=>bump (R.set x.toNat (Ls.nth R x.toNat+d)) d l
theorem bump_append (d:Int) (l r:List Int):∀ R,bump R d (l ++ r)=bump (bump R d l) d r:=by
 induction l with
 | nil=>exact fun _=>rfl
 | cons x l ih=>exact fun R=>ih _
theorem nth_bump (d:Int) (l:List Int):∀ R:List Int,(∀ x,x ∈ l->0<=x/\x<R.length)->∀ k:Nat,k<R.length->Ls.nth (bump R d l) k=Ls.nth R k+d*occ k l:=by
 induction l with
 | nil=>intro R _ k _;show Ls.nth R k=Ls.nth R k+d*((0:Nat):Int);simp
 | cons x l ih =>
   intro R h k hk
   have hx:=h x (List.mem_cons_self ..)
   show Ls.nth (bump (R.set x.toNat (Ls.nth R x.toNat+d)) d l) k=Ls.nth R k+d*(((if x=(k:Int) then 1 else 0)+occ k l:Nat):Int)
   rw [ih _ (fun y hy=>by have:=h y (List.mem_cons_of_mem _ hy);rw [List.length_set];exact this) k (by rw [List.length_set];exact hk),Po.nth_set (by omega)]
   by_cases e:k=x.toNat
   ·rw [if_pos e,if_pos (by omega),<-e,Int.natCast_add,Int.mul_add]
    simp
    omega
   ·rw [if_neg e,if_neg (by omega)]
    simp
def tot (L:Nat->Nat->List Int) (m:Nat) (x:Int):Nat->Nat
 | 0=>0
 | k+1=>tot L m x k+occ x (flat (L k) m)
theorem tot_congr {L L':Nat->Nat->List Int} {m k:Nat} {x:Int} (h:∀ i,i<k->L i=L' i):tot L m x k=tot L' m x k:=by
 induction k with
 | zero=>rfl
 | succ k ih=>show tot L m x k+_=tot L' m x k+_;rw [ih fun i hi=>h i (by omega),h k (by omega)]
def put (L:Nat->Nat->List Int) (a:Nat) (l:Nat->List Int):Nat->Nat->List Int:=fun i=>if i=a then l else L i
theorem put_at (L:Nat->Nat->List Int) (a:Nat) (l:Nat->List Int):put L a l a=l:=if_pos rfl
theorem put_off (L:Nat->Nat->List Int) {i a:Nat} (l:Nat->List Int) (h:¬ i=a):put L a l i=L i:=if_neg h
theorem tot_put (L:Nat->Nat->List Int) {a k:Nat} (h:a<k) (l:Nat->List Int) (m:Nat) (x:Int):tot (put L a l) m x k+occ x (flat (L a) m)=tot L m x k+occ x (flat l m):=by
 induction k with
 | zero=>omega
 | succ k ih =>
   show tot (put L a l) m x k+occ x (flat (put L a l k) m)+_=tot L m x k+occ x (flat (L k) m)+_
   by_cases e:a=k
   ·subst e
    rw [put_at,tot_congr (L':=L) fun i hi=>put_off L l (by omega)]
    omega
   ·rw [put_off L l (fun q=>e q.symm)]
    have:=ih (by omega)
    omega
theorem occ_tot (L:Nat->Nat->List Int) {a k:Nat} (h:a<k) (m:Nat) (x:Int):occ x (flat (L a) m)<=tot L m x k:=by
 induction k with
 | zero=>omega
 | succ k ih =>
   show _<=tot L m x k+occ x (flat (L k) m)
   by_cases e:a=k
   ·subst e;omega
   ·have:=ih (by omega);omega
end Go.Proofs.YtnchnlgnnlgjcaaGreat.Bk
namespace Go.Proofs.YtnchnlgnnlgjcaaGreat
namespace Gp
def lo2 (a b:Int):Int:=if b<a then b else a
def hi2 (a b:Int):Int:=if a<b then b else a
theorem lo2_bd (a b:Int):lo2 a b<=a/\lo2 a b<=b/\(lo2 a b=a\/lo2 a b=b):=by unfold lo2;split <;> omega
theorem hi2_bd (a b:Int):a<=hi2 a b/\b<=hi2 a b/\(hi2 a b=a\/hi2 a b=b):=by unfold hi2;split <;> omega
def lowN (l:List Int):Nat->Int
 | 0=>Ls.nth l 0
 | n+1=>lo2 (lowN l n) (Ls.nth l n)
def highN (l:List Int):Nat->Int
 | 0=>Ls.nth l 0
 | n+1=>hi2 (highN l n) (Ls.nth l n)
def low (l:List Int):Int:=lowN l l.length
def high (l:List Int):Int:=highN l l.length
theorem lowN_le (l:List Int) (n:Nat):lowN l n<=Ls.nth l 0/\∀ i,i<n->lowN l n<=Ls.nth l i:=by
 induction n with
 | zero=>exact ⟨Int.le_refl _,fun i hi=>by omega⟩
 | succ n ih =>
   have b:=lo2_bd (lowN l n) (Ls.nth l n)
   refine ⟨by simp only [lowN];omega,fun i hi=>?_⟩
   simp only [lowN]
   by_cases e:i=n
   ·subst e;omega
   ·have:=ih.2 i (by omega);omega
theorem highN_le (l:List Int) (n:Nat):Ls.nth l 0<=highN l n/\∀ i,i<n->Ls.nth l i<=highN l n:=by
 induction n with
 | zero=>exact ⟨Int.le_refl _,fun i hi=>by omega⟩
 | succ n ih =>
   have b:=hi2_bd (highN l n) (Ls.nth l n)
   refine ⟨by simp only [highN];omega,fun i hi=>?_⟩
   simp only [highN]
   by_cases e:i=n
   ·subst e;omega
   ·have:=ih.2 i (by omega);omega
theorem lowN_is (l:List Int) (n:Nat):∃ i,(i<n\/i=0)/\lowN l n=Ls.nth l i:=by
 induction n with
 | zero=>exact ⟨0,Or.inr rfl,rfl⟩
 | succ n ih =>
   obtain ⟨i,hi,e⟩:=ih
   rcases (lo2_bd (lowN l n) (Ls.nth l n)).2.2 with h | h
   ·exact ⟨i,by omega,by simp only [lowN];rw [h,e]⟩
   ·exact ⟨n,Or.inl (by omega),by simp only [lowN];rw [h]⟩
theorem highN_is (l:List Int) (n:Nat):∃ i,(i<n\/i=0)/\highN l n=Ls.nth l i:=by
 induction n with
 | zero=>exact ⟨0,Or.inr rfl,rfl⟩
 | succ n ih =>
   obtain ⟨i,hi,e⟩:=ih
   rcases (hi2_bd (highN l n) (Ls.nth l n)).2.2 with h | h
   ·exact ⟨i,by omega,by simp only [highN];rw [h,e]⟩
   ·exact ⟨n,Or.inl (by omega),by simp only [highN];rw [h]⟩
theorem low_le {l:List Int} {i:Nat} (h:i<l.length):low l<=Ls.nth l i:=(lowN_le l _).2 i h
theorem le_high {l:List Int} {i:Nat} (h:i<l.length):Ls.nth l i<=high l:=(highN_le l _).2 i h
theorem low_is {l:List Int} (h:0<l.length):∃ i,i<l.length/\Ls.nth l i=low l:=by
 obtain ⟨i,hi,e⟩:=lowN_is l l.length
 exact ⟨i,by omega,e.symm⟩
theorem lowN_in {l:List Int} (h:Ls.In32 l) (n:Nat):-2147483648<=lowN l n/\lowN l n<=2147483647:=by
 obtain ⟨i,_,e⟩:=lowN_is l n
 rw [e];exact h i
theorem highN_in {l:List Int} (h:Ls.In32 l) (n:Nat):-2147483648<=highN l n/\highN l n<=2147483647:=by
 obtain ⟨i,_,e⟩:=highN_is l n
 rw [e];exact h i
theorem low_high (l:List Int):low l<=high l:=Int.le_trans (lowN_le l _).1 (highN_le l _).1
def up (d s:Int):Int:=if d / s*s<d then d / s+1 else d / s
theorem up_yes {d s:Int} (h:d / s*s<d):up d s=d / s+1:=if_pos h
theorem up_no {d s:Int} (h:¬ d / s*s<d):up d s=d / s:=if_neg h
theorem up_char {d s:Int} (hs:0<s):d<=up d s*s/\(up d s - 1)*s<d:=by
 have e:=Int.mul_ediv_add_emod d s
 have r0:=Int.emod_nonneg d (show s ≠ 0 by omega)
 have r1:=Int.emod_lt_of_pos d hs
 obtain ⟨q,eq⟩:∃ q,d / s=q:=⟨_,rfl⟩
 rw [eq,Int.mul_comm] at e
 by_cases c:q*s<d
 ·rw [up_yes (by rw [eq];exact c),eq]
  have e1:(q+1)*s=q*s+s:=by rw [Int.add_mul,Int.one_mul]
  have e2:(q+1 - 1)*s=q*s:=by rw [show q+1 - 1=q by omega]
  omega
 ·rw [up_no (by rw [eq];exact c),eq]
  have e2:(q - 1)*s=q*s - s:=by rw [Int.sub_mul,Int.one_mul]
  omega
theorem up_uniq {d s m:Int} (hs:0<s) (h1:d<=m*s) (h2:(m - 1)*s<d):up d s=m:=by
 obtain ⟨a,b⟩:=up_char (d:=d) hs
 obtain ⟨u,eu⟩:∃ u,up d s=u:=⟨_,rfl⟩
 rw [eu] at a b ⊢
 have c1:(u - 1)*s<m*s:=by omega
 have c2:(m - 1)*s<u*s:=by omega
 have d1:=Int.lt_of_mul_lt_mul_right c1 (by omega)
 have d2:=Int.lt_of_mul_lt_mul_right c2 (by omega)
 omega
theorem up_nonneg {d s:Int} (hs:0<s) (hd:0<=d):0<=up d s:=by
 have:=Int.ediv_nonneg hd (show 0<=s by omega)
 unfold up;split <;> omega
theorem up_le {d s:Int} (hs:3<=s) (hd:0<=d) (h:d<=4294967295):up d s<=1431655765:=by
 have a:=(up_char (d:=d) (show 0<s by omega)).2
 obtain ⟨u,eu⟩:∃ u,up d s=u:=⟨_,rfl⟩
 rw [eu] at a ⊢
 rcases Int.lt_or_le u 1 with c | c
 ·omega
 ·have:(u - 1)*3<=(u - 1)*s:=Int.mul_le_mul_of_nonneg_left hs (by omega)
  omega
def code (z sc x:Int):Int:=if 0<sc then Fx.rnd (x - z) sc else 0
theorem code_yes {z sc x:Int} (h:0<sc):code z sc x=Fx.rnd (x - z) sc:=if_pos h
theorem code_no {z sc x:Int} (h:¬ 0<sc):code z sc x=0:=if_neg h
theorem code_in {z sc x s:Int} (hs:0<=s) (h0:z<=x) (h1:x - z<=sc*s):0<=code z sc x/\code z sc x<=s:=by
 unfold code
 split
 ·rename_i h
  have a:=Fx.rnd_mono 0 (x - z) sc h (by omega)
  have b:=Fx.rnd_mono (x - z) (s*sc) sc h (by rw [Int.mul_comm];exact h1)
  have e0:=Fx.rnd_mul 0 sc h
  rw [Int.zero_mul] at e0
  rw [e0] at a
  rw [Fx.rnd_mul s sc h] at b
  exact ⟨a,b⟩
 ·exact ⟨Int.le_refl _,hs⟩
def mean (z sc c:Int):Int:=Fx.cut (z+c*sc) (-2147483648) 2147483647
def codes (z sc:Int) (l:List Int):List Int:=Ls.gen l.length fun i=>code z sc (Ls.nth l i)
def means (z sc:Int) (c:List Int):List Int:=Ls.gen c.length fun i=>mean z sc (Ls.nth c i)
theorem codes_length (z sc:Int) (l:List Int):(codes z sc l).length=l.length:=Ls.gen_length _ _
theorem means_length (z sc:Int) (c:List Int):(means z sc c).length=c.length:=Ls.gen_length _ _
theorem nth_codes {z sc:Int} {l:List Int} {i:Nat} (h:i<l.length):Ls.nth (codes z sc l) i=code z sc (Ls.nth l i):=Ls.nth_gen h
def scale (s:Int) (l:List Int):Int:=up (high l - low l) s
theorem spread_bd {l:List Int} (h:Ls.In32 l):0<=high l - low l/\high l - low l<=4294967295:=by
 have a:=lowN_in h l.length
 have b:=highN_in h l.length
 have c:=low_high l
 unfold low high at *
 omega
theorem scale_bd {s:Int} {l:List Int} (h:Ls.In32 l) (hs:3<=s):0<=scale s l/\scale s l<=1431655765 :=
 ⟨up_nonneg (by omega) (spread_bd h).1,up_le hs (spread_bd h).1 (spread_bd h).2⟩
theorem codes_right {s:Int} {l:List Int} (h:Ls.In32 l) (hs:3<=s) {i:Nat} (hi:i<l.length):0<=Ls.nth (codes (low l) (scale s l) l) i/\Ls.nth (codes (low l) (scale s l) l) i<=s:=by
 rw [nth_codes hi]
 have a:=low_le hi
 have b:=le_high hi
 have c:=(up_char (d:=high l - low l) (s:=s) (by omega)).1
 exact code_in (by omega) a (by unfold scale;omega)
theorem codes_none {z sc:Int} {l:List Int} (h:sc=0) {i:Nat} (hi:i<l.length):Ls.nth (codes z sc l) i=0:=by
 rw [nth_codes hi,code_no (by omega)]
theorem up_div {d s:Int} (hs:0<s):(d+s - 1) / s=up d s:=by
 symm
 have e:=Int.mul_ediv_add_emod (d+s - 1) s
 have r0:=Int.emod_nonneg (d+s - 1) (show s ≠ 0 by omega)
 have r1:=Int.emod_lt_of_pos (d+s - 1) hs
 obtain ⟨q,eq⟩:∃ q,(d+s - 1) / s=q:=⟨_,rfl⟩
 rw [eq,Int.mul_comm] at e
 rw [eq]
 apply up_uniq hs
 ·omega
 ·rw [Int.sub_mul,Int.one_mul];omega
def St (b s:Nat):Prop:=(b=2/\s=3)\/(b=4/\s=15)\/(b=8/\s=255)
theorem St.bd {b s:Nat} (h:St b s):2<=b/\b<=8/\3<=s/\s<=255:=by rcases h with ⟨rfl,rfl⟩ | ⟨rfl,rfl⟩ | ⟨rfl,rfl⟩ <;> omega
def okB (b:Int):Bool:=b == 2 || b == 4 || b == 8
def many (n:Nat) (b:Int):Int:=if okB b=true then (if n=0 then 14 else if 256<n then 12 else 0) else 20
theorem okB_st {b s:Nat} (h:St b s):okB (b:Int)=true:=by rcases h with ⟨rfl,rfl⟩ | ⟨rfl,rfl⟩ | ⟨rfl,rfl⟩ <;> rfl
theorem many_none {b s:Nat} (h:St b s):many 0 b=14:=by unfold many;rw [if_pos (okB_st h),if_pos rfl]
theorem many_many {b s n:Nat} (h:St b s) (hn:256<n):many n b=12:=by unfold many;rw [if_pos (okB_st h),if_neg (by omega),if_pos hn]
theorem many_ok {b s n:Nat} (h:St b s) (h0:0<n) (hn:n<=256):many n b=0:=by unfold many;rw [if_pos (okB_st h),if_neg (by omega),if_neg (by omega)]
theorem many_bits {b:Int} (n:Nat) (h:¬ b=2/\¬ b=4/\¬ b=8):many n b=20:=by
 unfold many
 rw [if_neg]
 unfold okB
 simp [h.1,h.2.1,h.2.2]
theorem many_cases (n:Nat) (b:Int):(¬ b=2/\¬ b=4/\¬ b=8)\/(∃ m s:Nat,b=(m:Int)/\St m s):=by
 by_cases h1:b=2
 ·exact Or.inr ⟨2,3,h1,Or.inl ⟨rfl,rfl⟩⟩
 by_cases h2:b=4
 ·exact Or.inr ⟨4,15,h2,Or.inr (Or.inl ⟨rfl,rfl⟩)⟩
 by_cases h3:b=8
 ·exact Or.inr ⟨8,255,h3,Or.inr (Or.inr ⟨rfl,rfl⟩)⟩
 exact Or.inl ⟨h1,h2,h3⟩
def nils (c:List Int):Bool:=decide (∀ i,i<c.length->Ls.nth c i=0)
def fits (s:Int) (c:List Int):Bool:=decide (∀ i,i<c.length->0<=Ls.nth c i/\Ls.nth c i<=s)
theorem nils_yes {c:List Int} (h:∀ i,i<c.length->Ls.nth c i=0):nils c=true:=by unfold nils;simp only [decide_eq_true_eq];exact h
theorem nils_no {c:List Int} {i:Nat} (hi:i<c.length) (h:¬ Ls.nth c i=0):nils c=false:=by unfold nils;simp only [decide_eq_false_iff_not];exact fun g=>h (g i hi)
theorem fits_yes {s:Int} {c:List Int} (h:∀ i,i<c.length->0<=Ls.nth c i/\Ls.nth c i<=s):fits s c=true:=by unfold fits;simp only [decide_eq_true_eq];exact h
theorem fits_no {s:Int} {c:List Int} {i:Nat} (hi:i<c.length) (h:¬ (0<=Ls.nth c i/\Ls.nth c i<=s)):fits s c=false:=by unfold fits;simp only [decide_eq_false_iff_not];exact fun g=>h (g i hi)
theorem fits_all {s:Int} {c:List Int} (h:fits s c=true):∀ i,i<c.length->0<=Ls.nth c i/\Ls.nth c i<=s:=by unfold fits at h;simp only [decide_eq_true_eq] at h;exact h
def right (s sc:Int) (c:List Int):Int:=if 1431655765<sc then 21 else if sc=0/\nils c=false then 21 else if fits s c=true then 0 else 11
theorem right_big {s sc:Int} {c:List Int} (h:1431655765<sc):right s sc c=21:=if_pos h
theorem right_nil {s sc:Int} {c:List Int} (h:sc=0) (hn:nils c=false):right s sc c=21:=by unfold right;rw [if_neg (by omega),if_pos ⟨h,hn⟩]
theorem right_no {s sc:Int} {c:List Int} (h:¬ 1431655765<sc) (h0:sc=0->nils c=true) (hf:fits s c=false):right s sc c=11:=by
 unfold right
 rw [if_neg h,if_neg,if_neg (by rw [hf];exact Bool.false_ne_true)]
 rintro ⟨a,b⟩
 rw [h0 a] at b
 cases b
theorem right_yes {s sc:Int} {c:List Int} (h:¬ 1431655765<sc) (h0:sc=0->nils c=true) (hf:fits s c=true):right s sc c=0:=by
 unfold right
 rw [if_neg h,if_neg,if_pos hf]
 rintro ⟨a,b⟩
 rw [h0 a] at b
 cases b
theorem right_zero {s sc:Int} {c:List Int} (h:right s sc c=0):sc<=1431655765/\(sc=0->nils c=true)/\fits s c=true:=by
 unfold right at h
 split at h
 ·cases h
 ·split at h
  ·cases h
  ·rename_i h1 h2
   split at h
   ·rename_i h3
    refine ⟨by omega,fun e=>?_,h3⟩
    cases hn:nils c
    ·exact absurd ⟨e,hn⟩ h2
    ·rfl
   ·cases h
theorem grouped_right {s:Int} {l:List Int} (h:Ls.In32 l) (hs:3<=s):right s (scale s l) (codes (low l) (scale s l) l)=0:=by
 have b:=scale_bd h hs
 refine right_yes (by omega) (fun e=>nils_yes fun i hi=>?_) (fits_yes fun i hi=>?_)
 ·rw [codes_length] at hi;exact codes_none e hi
 ·rw [codes_length] at hi;exact codes_right h hs hi
end Gp
end Go.Proofs.YtnchnlgnnlgjcaaGreat
