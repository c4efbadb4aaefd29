import Derived.Test.YtnchnlgnnlgjcaaGreatRows
import Derived.Test.YtnchnlgnnlgjcaaGreatCo01
import Derived.WalkKit
import Derived.ProofKit
import Derived.OpenShut
import Derived.Deep.QuietTactic
import Derived.BigQuiet
import Derived.Outline
import Derived.Test.YtnchnlgnnlgjcaaGreatCo02
import Derived.Deep.RegionHeld3
import Derived.Deep.AppendLies
import Derived.Deep.DrawnRows
set_option linter.unusedVariables false
namespace Go.Proofs.YtnchnlgnnlgjcaaGreat
open Go.RowKit
theorem bits_and_one (q:Int):bits .and .i64 q 1=q % 2:=by
 show IntKind.i64.wrap ((BitVec.ofInt 64 q &&& BitVec.ofInt 64 1).toNat:Int)=_
 have h2:(BitVec.ofInt 64 1).toNat=1:=by decide
 rw [BitVec.toNat_and,h2,Nat.and_one_is_mod,BitVec.toNat_ofInt,IntKind.wrap_i64]
 omega
theorem cut_any (v lo hi:Int) (h1:-2147483648<=lo) (h2:lo<=hi) (h3:hi<=2147483647) (w:World) :
 Calls Tryz.prog 171 #[.int .i64 v,.int .i32 lo,.int .i32 hi] w fun e w'=>e=.returned (.int .i32 (Fx.cut v lo hi))/\w'=w:=by
 by_cases c1:v<lo
 ·rw [Fx.cut_lo c1]
  go_enter Tryz.func171,Tryz.ntmps171
  go_wp2
  go_ret
  exact ⟨rfl,rfl⟩
 ·by_cases c2:hi<v
  ·rw [Fx.cut_hi c1 c2]
   go_enter Tryz.func171,Tryz.ntmps171
   go_wp2
   go_ret
   exact ⟨rfl,rfl⟩
  ·rw [Fx.cut_in c1 c2]
   go_enter Tryz.func171,Tryz.ntmps171
   go_wp2
   go_ret
   exact ⟨rfl,rfl⟩
theorem wide_any (v:Int) (w:World) :
 Calls Tryz.prog 161 #[.int .i64 v] w fun e w'=>e=.returned (.int .i32 (Fx.cut v (-2147483648) 2147483647))/\w'=w:=by
 go_enter Tryz.func161,Tryz.ntmps161
 go_wp2_with (go_at_call 171;refine (cut_any _ _ _ (by omega) (by omega) (by omega) _).mono ?_;rintro e w' ⟨rfl,rfl⟩)
 go_ret
 exact ⟨rfl,rfl⟩
theorem refCut_any (v lo hi:Int) (w:World) :
 Calls Tryz.prog 148 #[.int .i64 v,.int .i64 lo,.int .i64 hi] w fun e w'=>e=.returned (.int .i64 (Fx.cut v lo hi))/\w'=w:=by
 by_cases c1:v<lo
 ·rw [Fx.cut_lo c1]
  go_enter Tryz.func148,Tryz.ntmps148
  go_wp2
  go_ret
  exact ⟨rfl,rfl⟩
 ·by_cases c2:hi<v
  ·rw [Fx.cut_hi c1 c2]
   go_enter Tryz.func148,Tryz.ntmps148
   go_wp2
   go_ret
   exact ⟨rfl,rfl⟩
  ·rw [Fx.cut_in c1 c2]
   go_enter Tryz.func148,Tryz.ntmps148
   go_wp2
   go_ret
   exact ⟨rfl,rfl⟩
theorem refWide_any (v:Int) (w:World) :
 Calls Tryz.prog 132 #[.int .i64 v] w fun e w'=>e=.returned (.int .i32 (Fx.cut v (-2147483648) 2147483647))/\w'=w:=by
 have hb:=Fx.cut_bd (v:=v) (lo:=-2147483648) (hi:=2147483647) (by omega)
 go_enter Tryz.func132,Tryz.ntmps132
 go_wp2_with (go_at_call 148;refine (refCut_any _ _ _ _).mono ?_;rintro e w' ⟨rfl,rfl⟩)
 go_ret
 exact ⟨rfl,rfl⟩
theorem nearest_any (q r b:Int) (hq1:-9223372036854775808<=q) (hq2:q<=9223372036854775807) (hb:b<=9223372036854775807) (hr0:0<=r) (hr1:r<b) (hq3:b<=1\/q<=4611686018427387904) (w:World) :
 Calls Tryz.prog 170 #[.int .i64 q,.int .i64 r,.int .i64 b] w fun e w'=>e=.returned (.int .i64 (Fx.near q r b))/\w'=w:=by
 by_cases c1:b - r<r
 ·rw [Fx.near_up c1]
  go_enter Tryz.func170,Tryz.ntmps170
  go_wp2
  go_ret
  exact ⟨rfl,rfl⟩
 ·by_cases c2:r=b - r
  ·have e2:(r == b - r)=true:=by rw [beq_iff_eq];exact c2
   have hq4:q<=4611686018427387904:=by omega
   by_cases c3:q % 2=0
   ·rw [Fx.near_even c1 c2 c3]
    have e3:(bits .and .i64 q 1 != 0)=false:=by rw [bits_and_one];simp [c3]
    clear c3 c2 hq3
    go_enter Tryz.func170,Tryz.ntmps170
    go_wp2
    go_ret
    exact ⟨rfl,rfl⟩
   ·rw [Fx.near_odd c1 c2 c3]
    have e3:(bits .and .i64 q 1 != 0)=true:=by rw [bits_and_one];simp [c3]
    clear c3 c2 hq3
    go_enter Tryz.func170,Tryz.ntmps170
    go_wp2
    go_ret
    exact ⟨rfl,rfl⟩
  ·rw [Fx.near_down c1 c2]
   go_enter Tryz.func170,Tryz.ntmps170
   go_wp2
   go_ret
   exact ⟨rfl,rfl⟩
theorem ratio_none (a b:Int) (hb:b<=0) (w:World) :
 Calls Tryz.prog 160 #[.int .i64 a,.int .i64 b] w fun e w'=>e=.returned (.int .i64 0)/\w'=w:=by
 go_enter Tryz.func160,Tryz.ntmps160
 go_wp2
 go_ret
 exact ⟨rfl,rfl⟩
theorem ratio_any (a b:Int) (h1:-9223372036854775808<=a) (h2:a<=9223372036854775807) (hb:0<b) (hb1:b<=9223372036854775807) (w:World) :
 Calls Tryz.prog 160 #[.int .i64 a,.int .i64 b] w fun e w'=>e=.returned (.int .i64 (Fx.rnd a b))/\∃ n,w'=w.drewN n:=by
 have r0:=Int.emod_nonneg a (show b ≠ 0 by omega)
 have r1:=Int.emod_lt_of_pos a hb
 have q0:=Fx.quo_bd a b h1 h2 hb
 have q1:=Fx.quo_half a b h2 hb
 by_cases ha:0<=a
 ·go_enter Tryz.func160,Tryz.ntmps160
  go_wp2_with fail
  go_quiet (fail)
  go_wp2_with fail
  refine (nearest_any _ _ _ q0.1 q0.2 hb1 r0 r1 q1 _).mono ?_
  rintro e w' ⟨rfl,rfl⟩
  go_wp2
  go_ret
  exact ⟨rfl,_,rfl⟩
 ·have q2:=Fx.quo_neg a b (by omega) hb
  rcases Fx.tdiv_neg (show a<0 by omega) hb with ⟨t0,t1,t2⟩ | ⟨t0,t1,t2⟩
  ·have e1:Hid (a.tdiv b=a / b):=t2
   have e2:Hid (a.tmod b=a % b):=by show _=_;omega
   have t3:-9223372036854775808<=a.tdiv b:=by omega
   have t4:a.tdiv b<=9223372036854775807:=by omega
   have t7:¬ a.tmod b<0:=by omega
   clear t1 t2 t0
   go_enter Tryz.func160,Tryz.ntmps160
   go_wp2_with fail
   go_quiet (fail)
   go_wp2_with fail
   rw [e1.out,e2.out]
   refine (nearest_any _ _ _ q0.1 q0.2 hb1 r0 r1 q1 _).mono ?_
   rintro e w' ⟨rfl,rfl⟩
   go_wp2
   go_ret
   exact ⟨rfl,_,rfl⟩
  ·have e1:Hid (a.tdiv b - 1=a / b):=by show _=_;omega
   have e2:Hid (a.tmod b+b=a % b):=t1.symm
   have t3:-9223372036854775807<=a.tdiv b:=by omega
   have t4:a.tdiv b<=9223372036854775807:=by omega
   have t6:-9223372036854775807<=a.tmod b:=by omega
   clear t1 t2
   go_enter Tryz.func160,Tryz.ntmps160
   go_wp2_with fail
   go_quiet (fail)
   go_wp2_with fail
   rw [e1.out,e2.out]
   refine (nearest_any _ _ _ q0.1 q0.2 hb1 r0 r1 q1 _).mono ?_
   rintro e w' ⟨rfl,rfl⟩
   go_wp2
   go_ret
   exact ⟨rfl,_,rfl⟩
theorem refFloor_any (a b:Int) (h1:-9223372036854775808<=a) (h2:a<=9223372036854775807) (hb:0<b) (hb1:b<=9223372036854775807) (w:World) :
 Calls Tryz.prog 165 #[.int .i64 a,.int .i64 b] w fun e w'=>e=.returned (.int .i64 (a / b))/\w'=w:=by
 have r0:=Int.emod_nonneg a (show b ≠ 0 by omega)
 have r1:=Int.emod_lt_of_pos a hb
 have q0:=Fx.quo_bd a b h1 h2 hb
 by_cases ha:0<=a
 ·have m0:0<=a / b*b:=Int.mul_nonneg (Int.ediv_nonneg ha (by omega)) (by omega)
  have e0:=Fx.div_mul a b
  have t1:-9223372036854775808<=a / b*b:=by omega
  have t2:a / b*b<=9223372036854775807:=by omega
  have t3:¬ a<a / b*b:=by omega
  clear e0
  go_enter Tryz.func165,Tryz.ntmps165
  go_wp2
  go_ret
  exact ⟨rfl,rfl⟩
 ·have q2:=Fx.quo_neg a b (by omega) hb
  have em:a.tdiv b*b=a - a.tmod b:=by have:=Int.tdiv_mul_add_tmod a b;omega
  rcases Fx.tdiv_neg (show a<0 by omega) hb with ⟨t0,t1,t2⟩ | ⟨t0,t1,t2⟩
  ·rw [<-t2]
   have t3:-9223372036854775808<=a.tdiv b*b:=by omega
   have t4:a.tdiv b*b<=9223372036854775807:=by omega
   have t7:¬ a<a.tdiv b*b:=by omega
   clear t1 t2 t0 em
   go_enter Tryz.func165,Tryz.ntmps165
   go_wp2
   go_ret
   exact ⟨rfl,rfl⟩
  ·have e1:a / b=a.tdiv b - 1:=by omega
   rw [e1]
   have t3:-9223372036854775808<=a.tdiv b*b:=by omega
   have t4:a.tdiv b*b<=9223372036854775807:=by omega
   have t7:a<a.tdiv b*b:=by omega
   have t8:-9223372036854775807<=a.tdiv b:=by omega
   have t9:a.tdiv b<=9223372036854775807:=by omega
   clear t1 t2 t0 em e1
   go_enter Tryz.func165,Tryz.ntmps165
   go_wp2
   go_ret
   exact ⟨rfl,rfl⟩
theorem refRatio_any (a b:Int) (h1:-9223372036854775808<=a) (h2:a<=9223372036854775807) (hb:0<b) (hb1:b<=9223372036854775807) (w:World) :
 Calls Tryz.prog 147 #[.int .i64 a,.int .i64 b] w fun e w'=>e=.returned (.int .i64 (Fx.rnd a b))/\w'=w:=by
 have r0:=Int.emod_nonneg a (show b ≠ 0 by omega)
 have r1:=Int.emod_lt_of_pos a hb
 have q0:=Fx.quo_bd a b h1 h2 hb
 have q1:=Fx.quo_half a b h2 hb
 have e0:=Fx.div_mul a b
 unfold Fx.rnd
 have f0:=refFloor_any a b h1 h2 hb hb1
 generalize a / b=q at *
 generalize a % b=r at *
 have eu:wrap64 (a - wrap64 (q*b))=r:=by unfold wrap64;omega
 clear e0
 have fl:∀ w,Calls Tryz.prog 165 #[.int .i64 a,.int .i64 b] w fun e w'=>e=.returned (.int .i64 q)/\w'=w:=f0
 have FL:Hid (∀ w,Calls Tryz.prog 165 #[.int .i64 a,.int .i64 b] w fun e w'=>e=.returned (.int .i64 q)/\w'=w):=fl
 clear fl f0
 by_cases c1:b - r<r
 ·rw [Fx.near_up c1]
  go_enter Tryz.func147,Tryz.ntmps147
  go_wp2_with (go_at_call 165;refine (FL.out _).mono ?_;rintro e w' ⟨rfl,rfl⟩)
  go_ret
  exact ⟨rfl,rfl⟩
 ·by_cases c2:r=b - r
  ·have e2:(r == b - r)=true:=by rw [beq_iff_eq];exact c2
   have hq4:q<=4611686018427387904:=by omega
   by_cases c3:q % 2=0
   ·rw [Fx.near_even c1 c2 c3]
    have e3:(q % 2 != 0)=false:=by simp [c3]
    have e4:(q.tmod 2 != 0)=false:=by simp [(Fx.tmod_two q).2 c3]
    clear c3 c2 q1
    by_cases hs:0<=q
    all_goals
     go_enter Tryz.func147,Tryz.ntmps147
     go_wp2_with (go_at_call 165;refine (FL.out _).mono ?_;rintro e w' ⟨rfl,rfl⟩)
     go_ret
     exact ⟨rfl,rfl⟩
   ·rw [Fx.near_odd c1 c2 c3]
    have e3:(q % 2 != 0)=true:=by simp [c3]
    have e4:(q.tmod 2 != 0)=true:=by rw [bne_iff_ne];exact fun h=>c3 ((Fx.tmod_two q).1 h)
    clear c3 c2 q1
    by_cases hs:0<=q
    all_goals
     go_enter Tryz.func147,Tryz.ntmps147
     go_wp2_with (go_at_call 165;refine (FL.out _).mono ?_;rintro e w' ⟨rfl,rfl⟩)
     go_ret
     exact ⟨rfl,rfl⟩
  ·rw [Fx.near_down c1 c2]
   go_enter Tryz.func147,Tryz.ntmps147
   go_wp2_with (go_at_call 165;refine (FL.out _).mono ?_;rintro e w' ⟨rfl,rfl⟩)
   go_ret
   exact ⟨rfl,rfl⟩
theorem refPower_any (n:Int) (h0:0<=n) (h1:n<=62) (w:World) :
 Calls Tryz.prog 164 #[.int .i64 n] w fun e w'=>e=.returned (.int .i64 (2 ^ n.toNat))/\w'=w:=by
 obtain ⟨m,rfl⟩:=Int.eq_ofNat_of_zero_le h0
 rw [Int.toNat_natCast]
 go_enter Tryz.func164,Tryz.ntmps164
 go_wp2
 go_loop [3,4] (fun o i=>∃ k:Nat,k<=m/\i=.int .i64 k/\o=.int .i64 (2 ^ k)) (fun _ i=>m - (intOf i).toNat)
 case atStart=>exact ⟨0,Nat.zero_le _,rfl,rfl⟩
 case round =>
  obtain ⟨k,hk,rfl,rfl⟩:=hrel
  have p0:=Fx.pow_pos k
  by_cases hlt:k<m
  ·have p1:(2:Int) ^ k<=2305843009213693952:=Fx.pow_le (m:=61) (by omega)
   go_wp2
   go_round
   case rel=>exact ⟨k+1,by omega,by go_num,by rw [Int.pow_succ]⟩
   case measure=>simp [intOf];omega
  ·have e:k=m:=by omega
   subst e
   go_wp2
   go_ret
   exact ⟨rfl,rfl⟩
end Go.Proofs.YtnchnlgnnlgjcaaGreat
namespace Go.Proofs.YtnchnlgnnlgjcaaGreat
open Go.RowKit
def NotOk (b:Int):Prop:=¬ b=2/\¬ b=4/\¬ b=8
theorem ok_or (b:Int):NotOk b\/∃ n:Nat,b=(n:Int)/\Pk.Ok n:=by
 by_cases h1:b=2
 ·exact Or.inr ⟨2,h1,Or.inl rfl⟩
 by_cases h2:b=4
 ·exact Or.inr ⟨4,h2,Or.inr (Or.inl rfl)⟩
 by_cases h3:b=8
 ·exact Or.inr ⟨8,h3,Or.inr (Or.inr rfl)⟩
 exact Or.inl ⟨h1,h2,h3⟩
theorem ok_le {b:Nat} (h:Pk.Ok b):2<=b/\b<=8:=by rcases h with rfl | rfl | rfl <;> omega
theorem bits_yes (b:Nat) (h:Pk.Ok b) (w:World) :
 Calls Tryz.prog 81 #[.int .i64 b] w fun e w'=>e=.returned (.bool true)/\w'=w:=by
 rcases h with rfl | rfl | rfl
 all_goals
  go_enter Tryz.func81,Tryz.ntmps81
  go_wp2
  go_ret
  exact ⟨rfl,rfl⟩
theorem bits_no (b:Int) (h:NotOk b) (w:World) :
 Calls Tryz.prog 81 #[.int .i64 b] w fun e w'=>e=.returned (.bool false)/\w'=w:=by
 obtain ⟨h1,h2,h3⟩:=h
 have g1:(b == 2)=false:=beq_eq_false_iff_ne.2 h1
 have g2:(b == 4)=false:=beq_eq_false_iff_ne.2 h2
 have g3:(b == 8)=false:=beq_eq_false_iff_ne.2 h3
 go_enter Tryz.func81,Tryz.ntmps81
 go_wp2
 go_ret
 exact ⟨rfl,rfl⟩
theorem refBits_yes (b:Nat) (h:Pk.Ok b) (w:World) :
 Calls Tryz.prog 78 #[.int .i64 b] w fun e w'=>e=.returned (.bool true)/\w'=w:=by
 rcases h with rfl | rfl | rfl
 all_goals
  go_enter Tryz.func78,Tryz.ntmps78
  go_wp2
  go_ret
  exact ⟨rfl,rfl⟩
theorem refBits_no (b:Int) (h:NotOk b) (w:World) :
 Calls Tryz.prog 78 #[.int .i64 b] w fun e w'=>e=.returned (.bool false)/\w'=w:=by
 obtain ⟨h1,h2,h3⟩:=h
 have g1:(b == 2)=false:=beq_eq_false_iff_ne.2 h1
 have g2:(b == 4)=false:=beq_eq_false_iff_ne.2 h2
 have g3:(b == 8)=false:=beq_eq_false_iff_ne.2 h3
 go_enter Tryz.func78,Tryz.ntmps78
 go_wp2
 go_ret
 exact ⟨rfl,rfl⟩
theorem countable_yes (n:Int) (h0:0<=n) (h1:n<=256) (w:World) :
 Calls Tryz.prog 173 #[.int .i64 n] w fun e w'=>e=.returned (.bool true)/\w'=w:=by
 go_enter Tryz.func173,Tryz.ntmps173
 go_wp2
 go_ret
 exact ⟨rfl,rfl⟩
theorem mask_any (b m:Nat) (h:Pk.Ok b) (hm:2 ^ b - 1=m) (w:World) :
 Calls Tryz.prog 163 #[.int .i64 b] w fun e w'=>e=.returned (.int .i64 m)/\w'=w:=by
 subst hm
 rcases h with rfl | rfl | rfl
 all_goals
  go_enter Tryz.func163,Tryz.ntmps163
  go_wp2
  go_ret
  exact ⟨rfl,rfl⟩
theorem place_any (i b t s:Nat) (h:Pk.Ok b) (hi:i<=9223372036854775807) (ht:Pk.word b i=t) (hs:Pk.shift b i=s) (w:World) :
 Calls Tryz.prog 162 #[.int .i64 i,.int .i64 b] w fun e w'=>e=.returned (.tuple #[.int .i64 t,.int .i64 s])/\∃ n,w'=w.drewN n:=by
 subst ht hs
 rcases h with rfl | rfl | rfl
 all_goals
  go_enter Tryz.func162,Tryz.ntmps162
  go_wp2
  go_quiet (fail)
  go_wp2
  go_ret2
  exact ⟨rfl,_,rfl⟩
theorem words_yes (n b:Nat) (h:Pk.Ok b) (hn:n<=256) (w:World) :
 Calls Tryz.prog 174 #[.int .i64 n,.int .i64 b] w fun e w'=>e=.returned (.int .i64 (Pk.size b n:Nat))/\w'=w:=by
 have H:Hid (Pk.Ok b):=h
 obtain ⟨z,ez⟩:∃ z,n*b=z:=⟨_,rfl⟩
 have hz:z<=256*8:=by rw [<-ez];exact Nat.mul_le_mul hn (ok_le h).2
 have hzi:(n:Int)*(b:Int)=(z:Int):=by rw [<-ez];exact (Int.natCast_mul n b).symm
 have HS:Hid (Pk.size b n=(z+63) / 64):=by unfold Pk.size;rw [ez];exact rfl
 clear ez h
 go_enter Tryz.func174,Tryz.ntmps174
 go_wp2_with (first
  | (go_at_call 81;refine (bits_yes _ H.out _).mono ?_;rintro e w' ⟨rfl,rfl⟩)
  | (go_at_call 173;refine (countable_yes _ (by omega) (by omega) _).mono ?_;rintro e w' ⟨rfl,rfl⟩))
 go_ret
 refine ⟨ret_num ?_,rfl⟩
 rw [HS.out]
 omega
theorem refWords_any (n b:Nat) (h:Pk.Ok b) (hn:n<=256) (w:World) :
 Calls Tryz.prog 150 #[.int .i64 n,.int .i64 b] w fun e w'=>e=.returned (.int .i64 (Pk.size b n:Nat))/\w'=w:=by
 obtain ⟨z,ez⟩:∃ z,n*b=z:=⟨_,rfl⟩
 have hz:z<=256*8:=by rw [<-ez];exact Nat.mul_le_mul hn (ok_le h).2
 have hzi:(n:Int)*(b:Int)=(z:Int):=by rw [<-ez];exact (Int.natCast_mul n b).symm
 have HS:Hid (Pk.size b n=(z+63) / 64):=by unfold Pk.size;rw [ez];exact rfl
 clear ez h
 go_enter Tryz.func150,Tryz.ntmps150
 go_wp2
 go_loop [5] (fun i=>∃ k:Nat,k<=(z+63) / 64/\i=.int .i64 k) (fun i=>(z+63) / 64 - (intOf i).toNat)
 case atStart=>exact ⟨0,Nat.zero_le _,rfl⟩
 case round =>
  obtain ⟨k,hk,rfl⟩:=hrel
  by_cases hlt:k*64<z
  ·go_wp2
   go_round
   case rel=>exact ⟨k+1,by omega,by go_num⟩
   case measure=>simp [intOf];omega
  ·go_wp2
   go_ret
   refine ⟨ret_num ?_,rfl⟩
   rw [HS.out]
   omega
theorem div_two (v k:Nat):v / 2 ^ k / 2=v / 2 ^ (k+1):=by rw [Nat.div_div_eq_div_mul,Nat.pow_succ]
theorem bit_any (v i q:Nat) (hv:v<18446744073709551616) (hi:i<=64) (hq:Pk.bit v i=q) (w:World) :
 Calls Tryz.prog 151 #[.int .u64 v,.int .i64 i] w fun e w'=>e=.returned (.int .u64 q)/\w'=w:=by
 have HQ:Hid (Pk.bit v i=q):=hq
 clear hq
 go_enter Tryz.func151,Tryz.ntmps151
 go_wp2
 go_loop [0,5] (fun x j=>∃ k m:Nat,k<=i/\j=.int .i64 k/\x=.int .u64 m/\m=v / 2 ^ k) (fun _ j=>i - (intOf j).toNat)
 case atStart=>exact ⟨0,v,Nat.zero_le _,rfl,rfl,by simp⟩
 case round =>
  obtain ⟨k,m,hk,rfl,rfl,hm⟩:=hrel
  have HM:Hid (m=v / 2 ^ k):=hm
  have hmv:m<=v:=by rw [hm];exact Nat.div_le_self _ _
  clear hm
  by_cases hlt:k<i
  ·go_wp2
   go_round
   case rel=>exact ⟨k+1,m / 2,by omega,by go_num,by go_num,by rw [HM.out,div_two]⟩
   case measure=>simp [intOf];omega
  ·have e:k=i:=by omega
   subst e
   go_wp2
   go_ret
   refine ⟨ret_num ?_,rfl⟩
   rw [<-HQ.out]
   unfold Pk.bit
   rw [<-HM.out]
   omega
theorem power_any (i p:Nat) (hi:i<=63) (hp:2 ^ i=p) (w:World) :
 Calls Tryz.prog 152 #[.int .i64 i] w fun e w'=>e=.returned (.int .u64 p)/\w'=w:=by
 have HP:Hid (2 ^ i=p):=hp
 clear hp
 go_enter Tryz.func152,Tryz.ntmps152
 go_wp2
 go_loop [3,4] (fun x j=>∃ k m:Nat,k<=i/\j=.int .i64 k/\x=.int .u64 m/\m=2 ^ k) (fun _ j=>i - (intOf j).toNat)
 case atStart=>exact ⟨0,1,Nat.zero_le _,rfl,rfl,rfl⟩
 case round =>
  obtain ⟨k,m,hk,rfl,rfl,hm⟩:=hrel
  have HM:Hid (m=2 ^ k):=hm
  have hmv:m<=9223372036854775808:=by rw [hm];exact (Pk.two_le (show k<=63 by omega))
  clear hm
  by_cases hlt:k<i
  ·have hm2:m<=4611686018427387904:=by rw [HM.out];exact (Pk.two_le (show k<=62 by omega))
   go_wp2
   go_round
   case rel=>exact ⟨k+1,m*2,by omega,by go_num,by go_num,by rw [HM.out,Nat.pow_succ]⟩
   case measure=>simp [intOf];omega
  ·have e:k=i:=by omega
   subst e
   go_wp2
   go_ret
   exact ⟨ret_num (by rw [HM.out,HP.out]),rfl⟩
end Go.Proofs.YtnchnlgnnlgjcaaGreat
namespace Go.Proofs.YtnchnlgnnlgjcaaGreat
open Go.RowKit
theorem same_any (a b:Option Addr) (c d:Nat) (x y:List Int) (w:World) (ha:Lst .i32 w a x) (hb:Lst .i32 w b y) (hl:x.length<=1000000) (e:x=y) :
 Calls Tryz.prog 66 #[.slice a x.length c,.slice b y.length d] w fun e w'=>e=.returned (.bool true)/\∃ n,w'=w.drewN n:=by
 subst e
 have HA:Hid (Lst .i32 w a x):=ha
 have HB:Hid (Lst .i32 w b x):=hb
 clear ha hb
 go_enter Tryz.func66,Tryz.ntmps66
 go_wp2
 go_loopw [5] (fun i wr=>∃ k n:Nat,k<=x.length/\i=.int .i64 k/\wr=w.drewN n) (fun i _=>x.length - (intOf i).toNat)
 case atStart=>exact ⟨0,0,Nat.zero_le _,rfl,rfl⟩
 case round =>
  obtain ⟨k,n,hk,rfl,rfl⟩:=hrel
  by_cases hlt:k<x.length
  ·obtain ⟨b1,o1,rfl,hc1⟩:=HA.out.get hlt
   obtain ⟨b2,o2,rfl,hc2⟩:=HB.out.get hlt
   have hck1:=hc1 k hlt
   have hck2:=hc2 k hlt
   clear hc1 hc2
   go_wp2
   go_quiet (fail)
   go_wp2
   go_roundw
   case rel=>exact ⟨k+1,_,by omega,by go_num,rfl⟩
   case measure=>simp [intOf];omega
  ·go_wp2
   go_ret
   exact ⟨rfl,n,rfl⟩
end Go.Proofs.YtnchnlgnnlgjcaaGreat
namespace Go.Proofs.YtnchnlgnnlgjcaaGreat
open Go.RowKit
theorem St.ok {b s:Nat} (h:Gp.St b s):Pk.Ok b:=by
 rcases h with ⟨rfl,_⟩ | ⟨rfl,_⟩ | ⟨rfl,_⟩
 ·exact Or.inl rfl
 ·exact Or.inr (Or.inl rfl)
 ·exact Or.inr (Or.inr rfl)
theorem countG_any (n:Nat) (b e:Int) (he:Gp.many n b=e) (hn:n<=maxLen) (w:World) :
 Calls Tryz.prog 155 #[.int .i64 n,.int .i64 b] w fun r w'=>r=.returned (.int .i64 e)/\w'=w:=by
 subst he
 unfold maxLen at hn
 rcases Gp.many_cases n b with h | ⟨m,s,rfl,h⟩
 ·rw [Gp.many_bits n h]
  have H:Hid (NotOk b):=h
  clear h
  go_enter Tryz.func155,Tryz.ntmps155
  go_wp2_with (go_at_call 81;refine (bits_no _ H.out _).mono ?_;rintro e w' ⟨rfl,rfl⟩)
  go_ret
  exact ⟨rfl,rfl⟩
 ·have H:Hid (Pk.Ok m):=St.ok h
  by_cases h0:n=0
  ·subst h0
   rw [Gp.many_none h]
   clear h
   go_enter Tryz.func155,Tryz.ntmps155
   go_wp2_with (go_at_call 81;refine (bits_yes _ H.out _).mono ?_;rintro e w' ⟨rfl,rfl⟩)
   go_ret
   exact ⟨rfl,rfl⟩
  ·have g0:((n:Int) == 0)=false:=beq_eq_false_iff_ne.2 (by omega)
   by_cases h1:256<n
   ·rw [Gp.many_many h h1]
    clear h
    go_enter Tryz.func155,Tryz.ntmps155
    go_wp2_with (go_at_call 81;refine (bits_yes _ H.out _).mono ?_;rintro e w' ⟨rfl,rfl⟩)
    go_ret
    exact ⟨rfl,rfl⟩
   ·rw [Gp.many_ok h (by omega) (by omega)]
    clear h
    go_enter Tryz.func155,Tryz.ntmps155
    go_wp2_with (go_at_call 81;refine (bits_yes _ H.out _).mono ?_;rintro e w' ⟨rfl,rfl⟩)
    go_ret
    exact ⟨rfl,rfl⟩
theorem greatest_any (b s:Nat) (h:Gp.St b s) (w:World) :
 Calls Tryz.prog 168 #[.int .i64 b] w fun e w'=>e=.returned (.int .i64 s)/\w'=w:=by
 rcases h with ⟨rfl,rfl⟩ | ⟨rfl,rfl⟩ | ⟨rfl,rfl⟩
 all_goals
  go_enter Tryz.func168,Tryz.ntmps168
  go_wp2
  go_ret
  exact ⟨rfl,rfl⟩
theorem steps_any (b s:Nat) (h:Gp.St b s) (w:World) :
 Calls Tryz.prog 146 #[.int .i64 b] w fun e w'=>e=.returned (.int .i64 s)/\w'=w:=by
 rcases h with ⟨rfl,rfl⟩ | ⟨rfl,rfl⟩ | ⟨rfl,rfl⟩
 all_goals
  go_enter Tryz.func146,Tryz.ntmps146
  go_wp2_with (go_at_call 164;refine (refPower_any _ (by omega) (by omega) _).mono ?_;rintro e w' ⟨rfl,rfl⟩)
  go_ret
  exact ⟨rfl,rfl⟩
theorem apart_any (a b:Int) (h1:-2147483648<=a) (h2:a<=2147483647) (h3:-2147483648<=b) (h4:b<=2147483647) (w:World) :
 Calls Tryz.prog 158 #[.int .i32 a,.int .i32 b] w fun e w'=>e=.returned (.int .i64 (a - b))/\w'=w:=by
 go_enter Tryz.func158,Tryz.ntmps158
 go_wp2
 go_ret
 exact ⟨rfl,rfl⟩
theorem scaleOf_any (d:Int) (b s:Nat) (h:Gp.St b s) (h1:0<=d) (h2:d<=4294967295) (sc:Int) (hsc:Gp.up d s=sc) (w:World) :
 Calls Tryz.prog 157 #[.int .i64 d,.int .i64 b] w fun e w'=>e=.returned (.int .i64 sc)/\w'=w:=by
 have hb:=h.bd
 have e1:(d+s - 1) / s=sc:=by rw [Gp.up_div (by omega),hsc]
 have HE:Hid ((d+s - 1) / s=sc):=e1
 have H:Hid (Gp.St b s):=h
 clear h hsc e1
 go_enter Tryz.func157,Tryz.ntmps157
 go_wp2_with (go_at_call 168;refine (greatest_any _ _ H.out _).mono ?_;rintro e w' ⟨rfl,rfl⟩)
 go_ret
 exact ⟨ret_num HE.out,rfl⟩
theorem min_any (a:Option Addr) (c:Nat) (l:List Int) (w:World) (ha:Lst .i32 w a l) (hl:l.length<=maxLen) (h0:0<l.length) (m:Int) (hm:Gp.low l=m) :
 Calls Tryz.prog 156 #[.slice a l.length c] w fun e w'=>e=.returned (.int .i32 m)/\w'=w:=by
 subst hm
 unfold maxLen at hl
 obtain ⟨b1,o1,rfl,hc1⟩:=ha.get h0
 have hc0:=hc1 0 h0
 rw [Nat.add_zero] at hc0
 have HC:Hid (∀ j,j<l.length->w.cell? ⟨b1,o1+j,none⟩=some (.int .i32 (Ls.nth l j))):=hc1
 clear hc1 ha
 go_enter Tryz.func156,Tryz.ntmps156
 go_wp2
 go_loop [3,4] (fun v i=>∃ k:Nat,1<=k/\k<=l.length/\i=.int .i64 k/\v=.int .i32 (Gp.lowN l k)) (fun _ i=>l.length - (intOf i).toNat)
 case atStart=>exact ⟨1,by omega,by omega,rfl,by rw [show Gp.lowN l 1=Ls.nth l 0 from by simp [Gp.lowN,Gp.lo2]]⟩
 case round =>
  obtain ⟨k,hk1,hk,rfl,rfl⟩:=hrel
  by_cases hlt:k<l.length
  ·have hck:=HC.out k hlt
   have e:(if Ls.nth l k<Gp.lowN l k then Ls.nth l k else Gp.lowN l k)=Gp.lowN l (k+1):=rfl
   go_wp2
   go_round
   case rel=>exact ⟨k+1,by omega,by omega,by go_num,rfl⟩
   case measure=>simp [intOf];omega
  ·have e:k=l.length:=by omega
   subst e
   go_wp2
   go_ret
   exact ⟨rfl,rfl⟩
theorem max_any (a:Option Addr) (c:Nat) (l:List Int) (w:World) (ha:Lst .i32 w a l) (hl:l.length<=maxLen) (h0:0<l.length) (m:Int) (hm:Gp.high l=m) :
 Calls Tryz.prog 159 #[.slice a l.length c] w fun e w'=>e=.returned (.int .i32 m)/\w'=w:=by
 subst hm
 unfold maxLen at hl
 obtain ⟨b1,o1,rfl,hc1⟩:=ha.get h0
 have hc0:=hc1 0 h0
 rw [Nat.add_zero] at hc0
 have HC:Hid (∀ j,j<l.length->w.cell? ⟨b1,o1+j,none⟩=some (.int .i32 (Ls.nth l j))):=hc1
 clear hc1 ha
 go_enter Tryz.func159,Tryz.ntmps159
 go_wp2
 go_loop [3,4] (fun v i=>∃ k:Nat,1<=k/\k<=l.length/\i=.int .i64 k/\v=.int .i32 (Gp.highN l k)) (fun _ i=>l.length - (intOf i).toNat)
 case atStart=>exact ⟨1,by omega,by omega,rfl,by rw [show Gp.highN l 1=Ls.nth l 0 from by simp [Gp.highN,Gp.hi2]]⟩
 case round =>
  obtain ⟨k,hk1,hk,rfl,rfl⟩:=hrel
  by_cases hlt:k<l.length
  ·have hck:=HC.out k hlt
   have e:(if Gp.highN l k<Ls.nth l k then Ls.nth l k else Gp.highN l k)=Gp.highN l (k+1):=rfl
   go_wp2
   go_round
   case rel=>exact ⟨k+1,by omega,by omega,by go_num,rfl⟩
   case measure=>simp [intOf];omega
  ·have e:k=l.length:=by omega
   subst e
   go_wp2
   go_ret
   exact ⟨rfl,rfl⟩
theorem notNought_any (c:Int) (w:World) :
 Calls Tryz.prog 167 #[.int .i64 c] w fun e w'=>e=.returned (.bool (c != 0))/\w'=w:=by
 go_enter Tryz.func167,Tryz.ntmps167
 go_wp2
 go_ret
 exact ⟨rfl,rfl⟩
theorem index_any (a:Option Addr) (c:Nat) (l:List Int) (w:World) (ha:Lst .i64 w a l) (hl:l.length<=maxLen) (q:Bool) (hq:Gp.nils l=!q) :
 Calls Tryz.prog 172 #[.slice a l.length c,.func (.func 167) #[] #[]] w fun e w'=>∃ r:Int,e=.returned (.int .i64 r)/\decide (0<=r)=q/\w'=w:=by
 unfold maxLen at hl
 have HA:Hid (Lst .i64 w a l):=ha
 have HQ:Hid (Gp.nils l=!q):=hq
 clear ha hq
 go_enter Tryz.func172,Tryz.ntmps172
 go_wp2
 go_loop [8] (fun i=>∃ k:Nat,k<=l.length/\i=.int .i64 k/\∀ j,j<k->Ls.nth l j=0) (fun i=>l.length - (intOf i).toNat)
 case atStart=>exact ⟨0,Nat.zero_le _,rfl,fun j hj=>by omega⟩
 case round =>
  obtain ⟨k,hk,rfl,hall⟩:=hrel
  have HL:Hid (∀ j,j<k->Ls.nth l j=0):=hall
  clear hall
  by_cases hlt:k<l.length
  ·obtain ⟨b1,o1,rfl,hc1⟩:=HA.out.get hlt
   have hck:=hc1 k hlt
   clear hc1
   by_cases hz:Ls.nth l k=0
   ·have hz':(Ls.nth l k != 0)=false:=by rw [hz];rfl
    have HZ:Hid (Ls.nth l k=0):=hz
    clear hz
    go_wp2_with (go_at_call 167;refine (notNought_any _ _).mono ?_;rintro e w' ⟨rfl,rfl⟩)
    go_round
    case rel =>
     refine ⟨k+1,by omega,by go_num,fun j hj=>?_⟩
     by_cases e:j=k
     ·subst e;exact HZ.out
     ·exact HL.out j (by omega)
    case measure=>simp [intOf];omega
   ·have hz':(Ls.nth l k != 0)=true:=by simp [hz]
    go_wp2_with (go_at_call 167;refine (notNought_any _ _).mono ?_;rintro e w' ⟨rfl,rfl⟩)
    go_ret
    refine ⟨_,rfl,?_,rfl⟩
    have:=HQ.out
    rw [Gp.nils_no hlt hz] at this
    cases q
    ·cases this
    ·exact decide_eq_true (by omega)
  ·go_wp2
   go_ret
   refine ⟨_,rfl,?_,rfl⟩
   have:=HQ.out
   rw [Gp.nils_yes (fun i hi=>HL.out i (by omega))] at this
   cases q
   ·rfl
   ·cases this
theorem contains_any (a:Option Addr) (c:Nat) (l:List Int) (w:World) (ha:Lst .i64 w a l) (hl:l.length<=maxLen) (q:Bool) (hq:Gp.nils l=!q) :
 Calls Tryz.prog 166 #[.slice a l.length c,.func (.func 167) #[] #[]] w fun e w'=>e=.returned (.bool q)/\w'=w:=by
 have HA:Hid (Lst .i64 w a l):=ha
 have HQ:Hid (Gp.nils l=!q):=hq
 have HL:Hid (l.length<=maxLen):=hl
 clear ha hq hl
 go_enter Tryz.func166,Tryz.ntmps166
 go_wp2_with (go_at_call 172;refine (index_any a c l _ HA.out HL.out q HQ.out).mono ?_;rintro e w' ⟨r,rfl,hr,rfl⟩)
 go_ret
 exact ⟨rfl,rfl⟩
end Go.Proofs.YtnchnlgnnlgjcaaGreat
namespace Go.Proofs.YtnchnlgnnlgjcaaGreat
open Go.RowKit
theorem Tryz.infoInt32:(Tryz.prog.info? 21).map (fun i=>(i.zero,i.size,i.bytes))=some (some (.int .i32 0),1,4):=by kernel_rfl
def part (F:Nat->Int) (k j:Nat):Value:=.int .i32 (if j<k then F j else 0)
theorem part_lt {F:Nat->Int} {k j:Nat} (h:j<k):part F k j=.int .i32 (F j):=by unfold part;rw [if_pos h]
theorem part_set (F:Nat->Int) (k j:Nat):(if j=k then Value.int .i32 (F k) else part F k j)=part F (k+1) j:=by
 unfold part
 by_cases e:j=k
 ·subst e;rw [if_pos rfl,if_pos (by omega)]
 ·rw [if_neg e]
  by_cases h:j<k
  ·rw [if_pos h,if_pos (by omega)]
  ·rw [if_neg h,if_neg (by omega)]
theorem box_below (w:World) (o:Obj):Below w.heap.size w (w.alloc o):=(Below.refl _ _).alloc (Nat.le_refl _) _
end Go.Proofs.YtnchnlgnnlgjcaaGreat
namespace Go.Proofs.YtnchnlgnnlgjcaaGreat
open Go.RowKit
def partG (q:IntKind) (F:Nat->Int) (k j:Nat):Value:=.int q (if j<k then F j else 0)
theorem partG_lt {q:IntKind} {F:Nat->Int} {k j:Nat} (h:j<k):partG q F k j=.int q (F j):=by unfold partG;rw [if_pos h]
theorem partG_set (q:IntKind) (F:Nat->Int) (k j:Nat):(if j=k then Value.int q (F k) else partG q F k j)=partG q F (k+1) j:=by
 unfold partG
 by_cases e:j=k
 ·subst e;rw [if_pos rfl,if_pos (by omega)]
 ·rw [if_neg e]
  by_cases h:j<k
  ·rw [if_pos h,if_pos (by omega)]
  ·rw [if_neg h,if_neg (by omega)]
theorem Tryz.infoIntG:(Tryz.prog.info? 3).map (fun i=>(i.zero,i.size,i.bytes))=some (some (.int .i64 0),1,8):=by kernel_rfl
theorem mul_bd {c sc:Int} (h1:0<=c) (h2:c<=255) (h3:0<=sc) (h4:sc<=4294967295):0<=c*sc/\c*sc<=1095216660225:=by
 have a:=Int.mul_nonneg h1 h3
 have b:c*sc<=255*sc:=Int.mul_le_mul_of_nonneg_right h2 h3
 omega
theorem one_any (z sc c:Int) (a:Option Addr) (n cp:Nat) (hz1:-2147483648<=z) (hz2:z<=2147483647) (hs1:0<=sc) (hs2:sc<=4294967295) (hc1:0<=c) (hc2:c<=255) (w:World) :
 Calls Tryz.prog 143 #[.agg #[.int .i32 z,.int .u32 sc,.slice a n cp],.int .i64 c] w fun e w'=>e=.returned (.int .i32 (Gp.mean z sc c))/\Below w.heap.size w w':=by
 have hm:=mul_bd hc1 hc2 hs1 hs2
 go_enter Tryz.func143,Tryz.ntmps143
 go_wp2_with (go_at_call 161;refine (wide_any _ _).mono ?_;rintro e w' ⟨rfl,rfl⟩)
 go_ret
 exact ⟨rfl,box_below _ _⟩
end Go.Proofs.YtnchnlgnnlgjcaaGreat
namespace Go.Proofs.YtnchnlgnnlgjcaaGreat
open Go.RowKit
set_option maxHeartbeats 800000 in
theorem right_any (z sc:Int) (a:Option Addr) (cp b s:Nat) (c:List Int) (e:Int) (w:World) (ha:Lst .i64 w a c) (hst:Gp.St b s) (h0:0<c.length) (hl:c.length<=256) (hs1:0<=sc) (hs2:sc<=4294967295) (he:Gp.right s sc c=e) :
 Calls Tryz.prog 153 #[.agg #[.int .i32 z,.int .u32 sc,.slice a c.length cp],.int .i64 b] w fun r w'=>r=.returned (.int .i64 e)/\Below w.heap.size w w':=by
 have HM:Hid (Gp.many c.length (b:Int)=0):=Gp.many_ok hst h0 hl
 have HN:Hid (c.length<=maxLen):=by show c.length<=maxLen;unfold maxLen;omega
 have HA:Hid (Lst .i64 w a c):=ha
 have HS:Hid (Gp.St b s):=hst
 have HE:Hid (Gp.right s sc c=e):=he
 have bs:=hst.bd
 clear ha hst he
 by_cases hbig:1431655765<sc
 ·have ee:e=21:=by rw [<-HE.out,Gp.right_big hbig]
  subst ee
  go_enter Tryz.func153,Tryz.ntmps153
  go_wp2_with (go_at_call 155;refine (countG_any _ _ 0 HM.out HN.out _).mono ?_;rintro r w' ⟨rfl,rfl⟩)
  go_ret
  exact ⟨rfl,box_below _ _⟩
 ·by_cases hnil:sc=0/\Gp.nils c=false
  ·obtain ⟨rfl,hn⟩:=hnil
   have ee:e=21:=by rw [<-HE.out,Gp.right_nil rfl hn]
   subst ee
   have HQ:Hid (Gp.nils c=!true):=hn
   clear hn
   go_enter Tryz.func153,Tryz.ntmps153
   go_wp2_with (first
    | (go_at_call 155;refine (countG_any _ _ 0 HM.out HN.out _).mono ?_;rintro r w' ⟨rfl,rfl⟩)
    | (go_at_call 166;refine (contains_any _ _ c _ (HA.out.keep (box_below _ _)) HN.out true HQ.out).mono ?_;rintro r w' ⟨rfl,rfl⟩))
   go_ret
   exact ⟨rfl,box_below _ _⟩
  ·have HQ:Hid (sc=0->Gp.nils c=true):=by
    show sc=0->Gp.nils c=true
    intro e0
    cases hn:Gp.nils c
    ·exact absurd ⟨e0,hn⟩ hnil
    ·rfl
   clear hnil
   have hlast:∀ q,(sc == 0)=q->Calls Tryz.prog 153 #[.agg #[.int .i32 z,.int .u32 sc,.slice a c.length cp],.int .i64 b] w fun r w'=>r=.returned (.int .i64 e)/\Below w.heap.size w w':=by
    intro q hq
    cases q
    all_goals
     go_enter Tryz.func153,Tryz.ntmps153
     go_wp2_with (first
      | (go_at_call 155;refine (countG_any _ _ 0 HM.out HN.out _).mono ?_;rintro r w' ⟨rfl,rfl⟩)
      | (go_at_call 166;refine (contains_any _ _ c _ (HA.out.keep (box_below _ _)) HN.out false (HQ.out (by simpa using hq))).mono ?_;rintro r w' ⟨rfl,rfl⟩))
     go_loop [32] (fun i=>∃ k:Nat,k<=c.length/\i=.int .i64 k/\∀ j,j<k->0<=Ls.nth c j/\Ls.nth c j<=(s:Int)) (fun i=>c.length - (intOf i).toNat)
     case atStart=>exact ⟨0,Nat.zero_le _,rfl,fun j hj=>by omega⟩
     case round =>
      obtain ⟨k,hk,rfl,hall⟩:=hrel
      have HL:Hid (∀ j,j<k->0<=Ls.nth c j/\Ls.nth c j<=(s:Int)):=hall
      clear hall
      by_cases hlt:k<c.length
      ·obtain ⟨b1,o1,rfl,hc1⟩:=(HA.out.keep (box_below w (.cells #[.int .i32 z,.int .u32 sc,.slice a c.length cp] 177))).get hlt
       have hck:=hc1 k hlt
       clear hc1
       by_cases c1:Ls.nth c k<0
       ·go_wp2_with (go_at_call 168;refine (greatest_any _ _ HS.out _).mono ?_;rintro r w' ⟨rfl,rfl⟩)
        go_ret
        refine ⟨ret_num ?_,box_below _ _⟩
        rw [<-HE.out,Gp.right_no (show ¬ 1431655765<sc by omega) HQ.out (Gp.fits_no (s:=(s:Int)) hlt (by omega))]
       ·by_cases c2:(s:Int)<Ls.nth c k
        ·go_wp2_with (go_at_call 168;refine (greatest_any _ _ HS.out _).mono ?_;rintro r w' ⟨rfl,rfl⟩)
         go_ret
         refine ⟨ret_num ?_,box_below _ _⟩
         rw [<-HE.out,Gp.right_no (show ¬ 1431655765<sc by omega) HQ.out (Gp.fits_no (s:=(s:Int)) hlt (by omega))]
        ·go_wp2_with (go_at_call 168;refine (greatest_any _ _ HS.out _).mono ?_;rintro r w' ⟨rfl,rfl⟩)
         go_round
         case rel =>
          refine ⟨k+1,by omega,by go_num,fun j hj=>?_⟩
          by_cases e:j=k
          ·subst e;omega
          ·exact HL.out j (by omega)
         case measure=>simp [intOf];omega
      ·go_wp2
       go_ret
       refine ⟨ret_num ?_,box_below _ _⟩
       rw [<-HE.out,Gp.right_yes (show ¬ 1431655765<sc by omega) HQ.out (Gp.fits_yes (fun i hi=>HL.out i (by omega)))]
   exact hlast _ rfl
theorem two_boxes (w:World) (o p:Obj):Below w.heap.size w ((w.alloc o).alloc p):=((Below.refl _ _).alloc (Nat.le_refl _) _).alloc (by simp) _
end Go.Proofs.YtnchnlgnnlgjcaaGreat
namespace Go.Proofs.YtnchnlgnnlgjcaaGreat
open Go.RowKit
attribute [local go_sem ↓] Go.wp_at_zero Go.wp_at_succ
theorem refOne_any (z sc c:Int) (a:Option Addr) (n cp:Nat) (hz1:-2147483648<=z) (hz2:z<=2147483647) (hs1:0<=sc) (hs2:sc<=4294967295) (hc1:0<=c) (hc2:c<=255) (w:World) :
 Calls Tryz.prog 113 #[.agg #[.int .i32 z,.int .u32 sc,.slice a n cp],.int .i64 c] w fun e w'=>e=.returned (.int .i32 (Gp.mean z sc c))/\Below w.heap.size w w':=by
 have hm:=mul_bd hc1 hc2 hs1 hs2
 go_enter Tryz.func113,Tryz.ntmps113
 go_wp2_with (go_at_call 132;refine (refWide_any _ _).mono ?_;rintro e w' ⟨rfl,rfl⟩)
 go_ret
 exact ⟨rfl,box_below _ _⟩
end Go.Proofs.YtnchnlgnnlgjcaaGreat
namespace Go.Proofs.YtnchnlgnnlgjcaaGreat
open Go.RowKit
attribute [local go_sem ↓] Go.wp_at_zero Go.wp_at_succ
theorem own_below {w w':World} {base:Nat} {t:TypeId} {v:Value} {n:Nat} {xs:List Value} (h:w.ownsRow base t 1 v n xs) (hb:Below w.heap.size w w'):w'.ownsRow base t 1 v n xs:=by
 have hlt:=h.lt
 refine ⟨h.1,?_⟩
 rcases h.2 with h0 | ⟨g,cap,cur,e,h1,h2,h3⟩
 ·exact Or.inl h0
 ·refine Or.inr ⟨g,cap,cur,e,h1,?_,h3⟩
  subst e
  rw [hb.block g (hlt g rfl).2]
  exact h2
theorem gen_snoc {w:World} {base:Nat} {t:TypeId} {q:IntKind} {v:Value} {k:Nat} {F:Nat->Int} {y:Int} (h:w.ownsRow base t 1 v (k+1) ((Ls.gen k F).map (Value.int q) ++ [.int q y])) (e:y=F k) :
 w.ownsRow base t 1 v (k+1) ((Ls.gen (k+1) F).map (Value.int q)):=by
 rw [Ls.gen_succ,List.map_append]
 subst e
 exact h
end Go.Proofs.YtnchnlgnnlgjcaaGreat
