import Derived.Test.YtnchnlgnnlgjcaaGreatCa13
set_option linter.unusedVariables false
set_option linter.unusedSimpArgs false
namespace Go.Proofs.YtnchnlgnnlgjcaaGreat
open Go.RowKit
namespace Cc
set_option maxRecDepth 100000 in
theorem clone32_any {Q:Nat->Prop} (a:Option Addr) (c:Nat) (l:List Int) (w:World) (h:SlQ Q 1 (eNum .i32) w a l) (h0:0<l.length) (hl:l.length<=1000) :
 Calls Tryz.prog 61 #[.slice a l.length c] w fun e w'=>∃ a' c',e=.returned (.slice a' l.length c')/\Fr w.heap.size w' a' c' l/\Below w.heap.size w w':=by
 obtain ⟨b,o,rfl,-⟩:=h.get h0
 have HA:Hid (Lst .i32 w (some ⟨b,o,none⟩) l):=h.lst
 clear h
 have hq:(binOp .eql 74 (.slice (some ⟨b,o,none⟩) l.length c) (.slice none 0 0)).run Tryz.prog w=.ok (.bool false) w:=slice_nil w _ _ (some ⟨b,o,none⟩) _ _ Tryz.underlying74
 go_enter Tryz.func61,Tryz.ntmps61
 go_wp2_with (at_builtin;refine wpList_append_lst rfl _ _ 74 rfl w.heap.size 21 .i32 4 Tryz.underlying74 Tryz.infoInt32 _ 0 [] (by rfl) (World.ownsRow_made w #[] 0 (Nat.le_refl _) (by decide) rfl) (some ⟨b,o,none⟩) l c (by rfl) (HA.out.keep (box_below _ _)) (fun e=>nomatch e) (by unfold maxLen;omega) (by omega) (by simp) ?_;intro v1 u1 ho1 hg1;simp only [Nat.zero_add,List.nil_append] at ho1;obtain ⟨va,vc,rfl⟩:=Ca.own_slice ho1;have O1:Hid (u1.ownsRow w.heap.size 21 1 (.slice va l.length vc) l.length (l.map (Value.int .i32))):=ho1;have B1:Hid (Below w.heap.size w u1):=(box_below _ _).grown hg1 (by simp) (by intro k hk;cases hk;exact Nat.le_refl _);clear ho1 hg1)
 go_ret
 obtain ⟨a',c',e,hf⟩:=fr_of_ownm (B:=w.heap.size) (Nat.le_refl _) O1.out rfl
 cases e
 exact ⟨_,_,rfl,hf,B1.out⟩
set_option maxRecDepth 100000 in
theorem clone64_any (a:Option Addr) (c n:Nat) (l:List Int) (w:World) (h:Lst .i64 w a l) (h0:0<l.length) (hl:l.length<=1000) (hn:l.length=n) :
 Calls Tryz.prog 84 #[.slice a n c] w fun e w'=>∃ a' c',e=.returned (.slice (some ⟨a',0,none⟩) n c')/\w'.ownsRow w.heap.size 3 1 (.slice (some ⟨a',0,none⟩) n c') n (l.map (Value.int .i64))/\Below w.heap.size w w':=by
 subst hn
 obtain ⟨b,o,rfl,-⟩:=h.get h0
 have HA:Hid (Lst .i64 w (some ⟨b,o,none⟩) l):=h
 clear h
 have hq:(binOp .eql 70 (.slice (some ⟨b,o,none⟩) l.length c) (.slice none 0 0)).run Tryz.prog w=.ok (.bool false) w:=slice_nil w _ _ (some ⟨b,o,none⟩) _ _ Tryz.underlying70
 go_enter Tryz.func84,Tryz.ntmps84
 go_wp2_with (at_builtin;refine wpList_append_lst rfl _ _ 70 rfl w.heap.size 3 .i64 8 Tryz.underlying70 Tryz.infoIntG _ 0 [] (by rfl) (World.ownsRow_made w #[] 0 (Nat.le_refl _) (by decide) rfl) (some ⟨b,o,none⟩) l c (by rfl) (HA.out.keep (box_below _ _)) (fun e=>nomatch e) (by unfold maxLen;omega) (by omega) (by simp) ?_;intro v1 u1 ho1 hg1;simp only [Nat.zero_add,List.nil_append] at ho1;obtain ⟨va,vc,rfl⟩:=Ca.own_slice ho1;have O1:Hid (u1.ownsRow w.heap.size 3 1 (.slice va l.length vc) l.length (l.map (Value.int .i64))):=ho1;have B1:Hid (Below w.heap.size w u1):=(box_below _ _).grown hg1 (by simp) (by intro k hk;cases hk;exact Nat.le_refl _);clear ho1 hg1)
 go_ret
 obtain ⟨g,cp,e,_⟩:=O1.out.form (by omega)
 cases e
 exact ⟨_,_,rfl,O1.out,B1.out⟩
theorem infoBits:(Tryz.prog.info? 77).map (fun i=>(i.zero,i.size,i.bytes))=some (some (.agg #[.int .i64 0,.int .i64 0]),2,16):=by kernel_rfl
def ePair:El (Int × Int):=fun Q w c x=>c 0=some (.int .i64 x.1)/\c 1=some (.int .i64 x.2)
theorem carry_pair:Carries 2 ePair:=fun Q Q' w w' c c' x _ _ hc h=>⟨hc 0 (by decide) _ h.1,hc 1 (by decide) _ h.2⟩
theorem full_pair:Full 2 ePair:=fun Q w c x h j hj=>by
 rcases Nat.lt_or_ge j 1 with q | q
 ·obtain rfl:j=0:=by omega
  exact ⟨_,h.1,rfl⟩
 ·obtain rfl:j=1:=by omega
  exact ⟨_,h.2,rfl⟩
theorem slq_ps {Q:Nat->Prop} {w:World} {a:Option Addr} {ls:List (Int × Int)} (h:SlQ Q 2 ePair w a ls):Tn.Tr.Ps w a ls:=fun i hi=>by
 obtain ⟨b,o,e,_,_,h1,h2⟩:=h i hi
 refine ⟨b,o,e,?_,?_⟩
 ·rw [Tn.Tr.fst_of hi];exact h1
 ·rw [Tn.Tr.snd_of hi];exact h2
theorem ps_slq {Q:Nat->Prop} {w:World} {a:Option Addr} {ls:List (Int × Int)} (h:Tn.Tr.Ps w a ls) (hQ:∀ x,a=some x->Q x.block):SlQ Q 2 ePair w a ls:=fun i hi=>by
 obtain ⟨b,o,e,h1,h2⟩:=h i hi
 rw [Tn.Tr.fst_of hi] at h1
 rw [Tn.Tr.snd_of hi] at h2
 exact ⟨b,o,e,World.block_lt_of_cell? w _ h1,hQ _ e,h1,h2⟩
end Cc
end Go.Proofs.YtnchnlgnnlgjcaaGreat
namespace Go.Proofs.YtnchnlgnnlgjcaaGreat
open Go.RowKit
namespace Cc
def lv (t k i:Nat):Nat:=if i<k then t+1 else t
def cn (n t k:Nat):List Int:=(List.range n).map fun i=>(lv t k i:Int)
theorem cn_length (n t k:Nat):(cn n t k).length=n:=by simp [cn]
theorem nth_cn {n t k i:Nat} (h:i<n):Ls.nth (cn n t k) i=(lv t k i:Int):=by
 unfold Ls.nth cn
 simp [h]
theorem lv_le (t k i:Nat):t<=lv t k i/\lv t k i<=t+1:=by unfold lv;split <;> omega
def Bd (w:World) (C g H D G W:Nat) (ls:List (Int × Int)) (t k:Nat):Prop :=
 ∃ (al:Option Addr) (cl T pb m pc ct cc:Nat),w.rowIs C 104 9 (cac g H D G W (.slice al ls.length cl) T (.slice (some ⟨pb,0,none⟩) m pc) (.slice (some ⟨ct,0,none⟩) ls.length cc))/\Lst .i64 w (some ⟨ct,0,none⟩) (cn ls.length t k)
theorem Bd.keep {w w':World} {C g H D G W:Nat} {ls:List (Int × Int)} {t k:Nat} (h:Bd w C g H D G W ls t k) (hb:Below w.heap.size w w'):Bd w' C g H D G W ls t k:=by
 obtain ⟨al,cl,T,pb,m,pc,ct,cc,hr,hl⟩:=h
 exact ⟨al,cl,T,pb,m,pc,ct,cc,hr.of_block (hb.block _ hr.lt),hl.keep hb⟩
theorem CaAt.bd {w:World} {col:Nat->Nat} {c g C H D G W:Nat} {ls:List (Int × Int)} {M:List Int} {L:Nat->List Int} {t k:Nat} {tk:Nat->List Tok} {q:Nat->Nat} (h:CaAt w col c g C H D G W ls M L (cn ls.length t k) tk q):Bd w C g H D G W ls t k:=by
 obtain ⟨al,cl,T,pb,pc,ct,cc,rg,rs,F,⟨hC,zC⟩,_,_,⟨hc,hcl,zc⟩,_⟩:=h
 obtain ⟨a,c',e,hl⟩:=lst_of_ownm hc (cn_length _ _ _).symm
 cases e
 exact ⟨al,cl,T,pb,_,pc,ct,cc,hC,hl⟩
theorem Bd.cells {w:World} {C g H D G W:Nat} {ls:List (Int × Int)} {t k:Nat} (h:Bd w C g H D G W ls t k) :
 ∃ (al:Option Addr) (cl T pb m pc ct cc:Nat),w.cell? ⟨C,0,none⟩=some (.pointer (some ⟨g,0,none⟩))/\w.cell? ⟨C,1,none⟩=some (.int .i64 H)/\w.cell? ⟨C,2,none⟩=some (.int .i64 D)/\w.cell? ⟨C,3,none⟩=some (.int .i64 G)/\w.cell? ⟨C,4,none⟩=some (.int .i64 W) /\
   w.cell? ⟨C,5,none⟩=some (.slice al ls.length cl)/\w.cell? ⟨C,6,none⟩=some (.pointer (some ⟨T,0,none⟩))/\w.cell? ⟨C,7,none⟩=some (.slice (some ⟨pb,0,none⟩) m pc)/\w.cell? ⟨C,8,none⟩=some (.slice (some ⟨ct,0,none⟩) ls.length cc)/\C<w.heap.size /\
   ∀ i,i<ls.length->w.cell? ⟨ct,i,none⟩=some (.int .i64 (lv t k i:Int)):=by
 obtain ⟨al,cl,T,pb,m,pc,ct,cc,hr,hl⟩:=h
 refine ⟨al,cl,T,pb,m,pc,ct,cc,hr.cell (show 0<9 by decide),hr.cell (show 1<9 by decide),hr.cell (show 2<9 by decide),hr.cell (show 3<9 by decide),hr.cell (show 4<9 by decide),hr.cell (show 5<9 by decide),hr.cell (show 6<9 by decide),hr.cell (show 7<9 by decide),hr.cell (show 8<9 by decide),hr.lt,fun i hi=>?_⟩
 obtain ⟨b,o,e,hc⟩:=hl i (by rw [cn_length];exact hi)
 cases e
 rw [Nat.zero_add,nth_cn hi] at hc
 exact hc
theorem tokens_c (C g H D G W:Nat) (ls:List (Int × Int)) (t k:Nat) (w:World) (h:Bd w C g H D G W ls t k) (hk:k<ls.length) (hl:ls.length<=4) :
 Calls Tryz.prog 26 #[.pointer (some ⟨C,0,none⟩)] w fun e w'=>e=.returned (.int .i64 (t:Int))/\∃ q,w'=w.drewN q:=by
 obtain ⟨al,cl,T,pb,m,pc,ct,cc,-,-,-,-,-,-,-,-,c8,-,hc⟩:=h.cells
 obtain ⟨n,en⟩:∃ n,ls.length=n+1:=⟨ls.length - 1,by omega⟩
 have hn:=hc n (by omega)
 have el:lv t k n=t:=by unfold lv;rw [if_neg (by omega)]
 rw [el] at hn
 rw [en] at c8 hl
 clear hc h el en hk
 go_enter Tryz.func26,Tryz.ntmps26
 go_wp2
 go_quiet (fail)
 go_wp2
 go_ret
 exact ⟨rfl,_,rfl⟩
theorem index_any (a:Option Addr) (c k:Nat) (x:Int) (l:List Int) (w:World) (h:Lst .i64 w a l) (hl:l.length<=1000) (hk:k<l.length) (e:Ls.nth l k=x) (hj:∀ j,j<k->¬ Ls.nth l j=x) :
 Calls Tryz.prog 63 #[.slice a l.length c,.int .i64 x] w fun e w'=>e=.returned (.int .i64 (k:Int))/\w'=w:=by
 have HJ:Hid (∀ j,j<k->¬ Ls.nth l j=x):=hj
 have HE:Hid (Ls.nth l k=x):=e
 obtain ⟨b,o,rfl,hc⟩:=h.get hk
 have HC:Hid (∀ j,j<l.length->w.cell? ⟨b,o+j,none⟩=some (.int .i64 (Ls.nth l j))):=hc
 clear h e hj hc
 go_enter Tryz.func63,Tryz.ntmps63
 go_wp2
 go_loop [8] (fun i=>∃ j:Nat,j<=k/\i=.int .i64 j) (fun i=>l.length - (intOf i).toNat)
 case atStart=>exact ⟨0,Nat.zero_le _,rfl⟩
 case round =>
  obtain ⟨j,hj,rfl⟩:=hrel
  have hlt:j<l.length:=by omega
  have v:=HC.out j hlt
  by_cases ej:j=k
  ·subst ej
   rw [HE.out] at v
   go_wp2
   go_ret
   exact ⟨rfl,rfl⟩
  ·have nx:=HJ.out j (by omega)
   obtain ⟨y,ey⟩:∃ y,Ls.nth l j=y:=⟨_,rfl⟩
   rw [ey] at v nx
   have d:(x == y)=false:=by simp;omega
   clear ey nx
   go_wp2
   go_round
   case rel=>exact ⟨j+1,by omega,by go_num⟩
   case measure=>simp [intOf];omega
theorem index_cn (ct c n t k:Nat) (w:World) (h:Lst .i64 w (some ⟨ct,0,none⟩) (cn n t k)) (hn:n<=4) (hk:k<n) :
 Calls Tryz.prog 63 #[.slice (some ⟨ct,0,none⟩) n c,.int .i64 (t:Int)] w fun e w'=>e=.returned (.int .i64 (k:Int))/\w'=w:=by
 have:=index_any (some ⟨ct,0,none⟩) c k (t:Int) (cn n t k) w h (by rw [cn_length];omega) (by rw [cn_length];exact hk) (by rw [nth_cn hk];unfold lv;rw [if_neg (by omega)]) (fun j hj=>by rw [nth_cn (by omega)];unfold lv;rw [if_pos hj];omega)
 rw [cn_length] at this
 exact this
theorem next_c (C g H D G W:Nat) (ls:List (Int × Int)) (t k:Nat) (w:World) (h:Bd w C g H D G W ls t k) (hk:k<ls.length) (hl:ls.length<=4) :
 Calls Tryz.prog 21 #[.pointer (some ⟨C,0,none⟩)] w fun e w'=>e=.returned (.int .i64 (k:Int))/\∃ q,w'=w.drewN q:=by
 have HB:Hid (Bd w C g H D G W ls t k):=h
 obtain ⟨al,cl,T,pb,m,pc,ct,cc,hr,hls⟩:=h
 have c8:w.cell? ⟨C,8,none⟩=some (.slice (some ⟨ct,0,none⟩) ls.length cc):=hr.cell (show 8<9 by decide)
 have HL:Hid (Lst .i64 w (some ⟨ct,0,none⟩) (cn ls.length t k)):=hls
 clear hr hls
 go_enter Tryz.func21,Tryz.ntmps21
 go_wp2
 go_quiet (first
  | (go_at_call 26;exact Calls.quiet_of (tokens_c C g H D G W ls t k _ (HB.out.keep (Rt.below_drewN (Below.refl _ _) _)) hk hl))
  | (go_at_call 63;exact Calls.quiet_of_same (index_cn ct cc ls.length t k _ (HL.out.keep (Rt.below_drewN (Below.refl _ _) _)) hl hk)))
 go_wp2
 go_ret
 exact ⟨rfl,_,rfl⟩
theorem within_c (n a b:Int) (q:Bool) (hq:(decide (a<=n) && decide (n<=b))=q) (w:World) :
 Calls Tryz.prog 37 #[.int .i64 n,.int .i64 a,.int .i64 b] w fun e w'=>e=.returned (.bool q)/\w'=w:=by
 by_cases h1:a<=n
 ·by_cases h2:n<=b
  ·have e:q=true:=by rw [<-hq];simp [h1,h2]
   subst e
   clear hq
   go_enter Tryz.func37,Tryz.ntmps37
   go_wp2
   go_ret
   exact ⟨rfl,rfl⟩
  ·have e:q=false:=by rw [<-hq];simp [h1,h2]
   subst e
   clear hq
   have d:decide (n<=b)=false:=decide_eq_false h2
   have d1:decide (a<=n)=true:=decide_eq_true h1
   clear h1 h2
   go_enter Tryz.func37,Tryz.ntmps37
   go_wp2
   go_ret
   exact ⟨rfl,rfl⟩
 ·have e:q=false:=by rw [<-hq];simp [h1]
  subst e
  clear hq
  have d1:decide (a<=n)=false:=decide_eq_false h1
  clear h1
  go_enter Tryz.func37,Tryz.ntmps37
  go_wp2
  go_ret
  exact ⟨rfl,rfl⟩
theorem has_c (C g H D G W:Nat) (ls:List (Int × Int)) (t k:Nat) (ly hd:Int) (q:Bool) (w:World) (h:Bd w C g H D G W ls t k) (hl:ls.length<=4) (hH:H<=4) (hq:decide (0<=ly/\ly<ls.length/\0<=hd/\hd<H)=q) :
 Calls Tryz.prog 67 #[.pointer (some ⟨C,0,none⟩),.int .i64 ly,.int .i64 hd] w fun e w'=>e=.returned (.bool q)/\w'=w:=by
 obtain ⟨al,cl,T,pb,m,pc,ct,cc,-,c1,-,-,-,-,-,-,c8,-,-⟩:=h.cells
 obtain ⟨n,en⟩:∃ n,ls.length=n:=⟨_,rfl⟩
 rw [en] at c8 hl hq
 clear h en
 by_cases h1:0<=ly/\ly<n
 ·have w1:Hid ((decide (0<=ly) && decide (ly<=(n:Int) - 1))=true):=by show _=true;simp;omega
  have w2:Hid ((decide (0<=hd) && decide (hd<=(H:Int) - 1))=q):=by
   show _=q
   rw [<-hq,Bool.eq_iff_iff]
   simp
   omega
  clear hq
  go_enter Tryz.func67,Tryz.ntmps67
  go_wp2_with (first
   | (go_at_call_of 37 (ly);refine (within_c ly 0 ((n:Int) - 1) true w1.out _).mono ?_;rintro e w' ⟨rfl,hww⟩;cases hww.symm;clear hww)
   | (go_at_call_of 37 (hd);refine (within_c hd 0 ((H:Int) - 1) q w2.out _).mono ?_;rintro e w' ⟨rfl,hww⟩;cases hww.symm;clear hww))
  go_ret
  exact ⟨rfl,rfl⟩
 ·have w1:Hid ((decide (0<=ly) && decide (ly<=(n:Int) - 1))=false):=by show _=false;rw [Bool.eq_false_iff];intro e;simp at e;omega
  have e:q=false:=by rw [<-hq];exact decide_eq_false (by omega)
  subst e
  clear hq
  go_enter Tryz.func67,Tryz.ntmps67
  go_wp2_with (go_at_call 37;refine (within_c ly 0 ((n:Int) - 1) false w1.out _).mono ?_;rintro e w' ⟨rfl,hww⟩;cases hww.symm;clear hww)
  go_ret
  exact ⟨rfl,rfl⟩
theorem row_c (C g H D G W:Nat) (ls:List (Int × Int)) (t k ly hd r:Nat) (w:World) (h:Bd w C g H D G W ls t k) (hr:ly*H+hd=r) (h1:ly<=100) (h2:H<=100) (h3:hd<=100) :
 Calls Tryz.prog 59 #[.pointer (some ⟨C,0,none⟩),.int .i64 (ly:Int),.int .i64 (hd:Int)] w fun e w'=>e=.returned (.int .i64 (r:Int))/\w'=w:=by
 obtain ⟨al,cl,T,pb,m,pc,ct,cc,-,c1,-,-,-,-,-,-,c8,-,-⟩:=h.cells
 have hm:ly*H<=10000:=Nat.le_trans (Nat.mul_le_mul h1 h2) (by decide)
 have e1:IntKind.i64.wrap ((ly:Int)*H)=((ly*H:Nat):Int):=by rw [<-Int.natCast_mul,IntKind.wrap_i64];omega
 obtain ⟨p,ep⟩:∃ p,ly*H=p:=⟨_,rfl⟩
 rw [ep] at e1 hm hr
 clear h ep
 subst hr
 go_enter Tryz.func59,Tryz.ntmps59
 go_wp2
 go_ret
 exact ⟨ret_num (by omega),rfl⟩
theorem open_c (C g H D G W:Nat) (ls:List (Int × Int)) (t k:Nat) (q:Bool) (w:World) (h:Bd w C g H D G W ls t k) (hk:k<ls.length) (hl:ls.length<=4) (hq:decide (¬ k=0)=q) :
 Calls Tryz.prog 73 #[.pointer (some ⟨C,0,none⟩)] w fun e w'=>e=.returned (.bool q)/\Below w.heap.size w w':=by
 have H0:Hid (Bd w C g H D G W ls t k):=h
 have d:((k:Int) != 0)=q:=by rw [<-hq,Bool.eq_iff_iff];simp
 clear h hq
 go_enter Tryz.func73,Tryz.ntmps73
 go_wp2_with (go_at_call 21;refine (next_c C g H D G W ls t k _ H0.out hk hl).mono ?_;rintro e w' ⟨rfl,n,rfl⟩)
 go_ret
 exact ⟨rfl,Rt.below_drewN (Below.refl _ _) _⟩
theorem fits_c (C g H D G W:Nat) (ls:List (Int × Int)) (t k:Nat) (a:Option Addr) (c:Nat) (xs:List (List Int)) (w:World) (h:Bd w C g H D G W ls t k) (ha:Tbl w a xs) (hl:xs.length<=100000) (hH:H<=4) (hD:D<=16) :
 Calls Tryz.prog 57 #[.pointer (some ⟨C,0,none⟩),.slice a xs.length c] w fun e w'=>e=.returned (.bool (Ca.fit H D xs))/\w'=w:=by
 obtain ⟨al,cl,T,pb,m,pc,ct,cc,-,c1,c2,-,-,-,-,-,-,-,-⟩:=h.cells
 have HA:Hid (Tbl w a xs):=ha
 clear ha h
 by_cases hx:xs.length=H
 ·have hb:((((xs.length:Nat):Int)) != (H:Int))=false:=by simp [hx]
  have HX:Hid (xs.length=H):=hx
  clear hx
  go_enter Tryz.func57,Tryz.ntmps57
  go_wp2
  go_loop [17] (fun i=>∃ k:Nat,k<=xs.length/\i=.int .i64 k/\Hid (∀ j,j<k->(Tb.row xs j).length=D)) (fun i=>xs.length - (intOf i).toNat)
  case atStart=>exact ⟨0,Nat.zero_le _,rfl,fun j h=>by omega⟩
  case round =>
   obtain ⟨k,hk,rfl,HJ⟩:=hrel
   by_cases hlt:k<xs.length
   ·obtain ⟨b1,o1,rfl,hc1⟩:=HA.out.get hlt
    obtain ⟨A1,C1,hck1,-,hm⟩:=hc1 k hlt
    unfold maxLen at hm
    clear hc1
    by_cases hx:(Tb.row xs k).length=D
    ·have HX2:Hid ((Tb.row xs k).length=D):=hx
     have hb2:(((((Tb.row xs k).length:Nat):Int)) != (D:Int))=false:=by simp [hx]
     clear hx
     go_wp2
     go_round
     case rel=>exact ⟨k+1,by omega,by go_num,fun j hj=>by rcases Nat.lt_or_ge j k with q | q;exact HJ.out j q;rw [show j=k by omega];exact HX2.out⟩
     case measure=>simp [intOf];omega
    ·have HX2:Hid (¬ (Tb.row xs k).length=D):=hx
     have hb2:(((((Tb.row xs k).length:Nat):Int)) != (D:Int))=true:=by simp;omega
     clear hx
     go_wp2
     go_ret
     refine ⟨ret_bool ?_,rfl⟩
     symm
     rw [Bool.eq_false_iff]
     intro e
     exact HX2.out ((Ca.fit_iff.1 e).2 k hlt)
   ·have ek:k=xs.length:=by omega
    subst ek
    go_wp2
    go_ret
    exact ⟨ret_bool (Ca.fit_iff.2 ⟨HX.out,HJ.out⟩).symm,rfl⟩
 ·have hb:((((xs.length:Nat):Int)) != (H:Int))=true:=by simp;omega
  have HX:Hid (¬ xs.length=H):=hx
  clear hx
  go_enter Tryz.func57,Tryz.ntmps57
  go_wp2
  go_ret
  refine ⟨ret_bool ?_,rfl⟩
  symm
  rw [Bool.eq_false_iff]
  intro e
  exact HX.out (Ca.fit_iff.1 e).1
end Cc
end Go.Proofs.YtnchnlgnnlgjcaaGreat
namespace Go.Proofs.YtnchnlgnnlgjcaaGreat
open Go.RowKit
theorem Rws.mono2 {w:World} {v:Value} {m:Nat} {L:Nat->List Int} {Q Q':Nat->Prop} (h:Rws w v m L Q) (hq:∀ q,q<w.heap.size->Ty w q 70\/Ty w q 3->Q q->Q' q):Rws w v m L Q':=by
 rcases h with h | ⟨d,c,F,e,hc,hr,hd,h1,h2,h3⟩
 ·exact .inl h
 ·exact .inr ⟨d,c,F,e,hc,hr,hq d hr.lt (.inl (ty_row hr)) hd,h1,fun j hj q ho=>hq q (ty_own (h1 j hj) ho).lt (.inr (ty_own (h1 j hj) ho)) (h2 j hj q ho),h3⟩
theorem Tab.mono2 {w:World} {g T m:Nat} {L:Nat->List Int} {Q Q':Nat->Prop} (h:Tab w g T m L Q) (hq:∀ q,q<w.heap.size->Ty w q 70\/Ty w q 3->Q q->Q' q):Tab w g T m L Q':=by
 obtain ⟨r,h1,h2⟩:=h
 exact ⟨r,h1,h2.mono2 hq⟩
namespace Cc
def Chg (c g b:Nat) (w w':World) (col col':Nat->Nat):Prop :=
 ButQ g b (fun x=>col x=c) w w'/\(∀ x,x<w.heap.size->col' x=col x)/\(∀ x,w.heap.size<=x->col' x=0\/col' x=c)/\∀ x,w'.heap.size<=x->col' x=0
theorem Chg.trans {c g b:Nat} {w v u:World} {col col1 col2:Nat->Nat} (h:Chg c g b w v col col1) (k:Chg c g b v u col1 col2):Chg c g b w u col col2:=by
 obtain ⟨h1,h2,h3,h4⟩:=h
 obtain ⟨k1,k2,k3,k4⟩:=k
 have hs:=h1.size
 refine ⟨⟨k1.1.trans h1.1,k1.2.1.trans h1.2.1,k1.2.2.1.trans h1.2.2.1,Nat.le_trans hs k1.size,fun j h0 n1 n2 n3=>?_⟩,fun x hx=>(k2 x (by omega)).trans (h2 x hx),fun x hx=>?_,k4⟩
 ·have e1:=h1.2.2.2.2 j h0 n1 n2 n3
  have e2:=k1.2.2.2.2 j (by omega) n1 n2 (fun e=>n3 (show col j=c by rw [<-h2 j h0];exact e))
  exact e2.trans e1
 ·rcases Nat.lt_or_ge x v.heap.size with hv | hv
  ·rw [k2 x hv];exact h3 x hx
  ·exact k3 x hv
theorem Chg.size {c g b:Nat} {w v:World} {col col1:Nat->Nat} (h:Chg c g b w v col col1):w.heap.size<=v.heap.size:=h.1.size
theorem Chg.fresh {c g b:Nat} {w v:World} {col col1:Nat->Nat} (h:Chg c g b w v col col1):∀ x,v.heap.size<=x->col1 x=0:=h.2.2.2
theorem Chg.below {c g b:Nat} {w w':World} {col:Nat->Nat} (hb:Below w.heap.size w w') (hf:∀ x,w.heap.size<=x->col x=0):Chg c g b w w' col col:=⟨ButQ.of_below hb,fun _ _=>rfl,fun x hx=>.inl (hf x hx),fun x hx=>hf x (by have:=hb.size;omega)⟩
theorem Chg.of_but {c g b:Nat} {w w':World} {col:Nat->Nat} (hb:ButQ g b (fun x=>col x=c) w w') (hf:∀ x,w.heap.size<=x->col x=0):Chg c g b w w' col col:=⟨hb,fun _ _=>rfl,fun x hx=>.inl (hf x hx),fun x hx=>hf x (by have:=hb.size;omega)⟩
theorem CaAt.below {w w':World} {col:Nat->Nat} {c g C H D G W:Nat} {ls:List (Int × Int)} {M:List Int} {L:Nat->List Int} {cnt:List Int} {tk:Nat->List Tok} {q:Nat->Nat} (h:CaAt w col c g C H D G W ls M L cnt tk q) (hb:Below w.heap.size w w'):CaAt w' col c g C H D G W ls M L cnt tk q :=
 h.carry (fun x hx _=>⟨rfl,hb.block x hx⟩) hb.size (fun r _ x _=>rfl)
theorem CaAt.other {w w':World} {col col':Nat->Nat} {c c' g b C H D G W:Nat} {ls:List (Int × Int)} {M M':List Int} {L:Nat->List Int} {cnt:List Int} {tk:Nat->List Tok} {q:Nat->Nat} (h:CaAt w col c g C H D G W ls M L cnt tk q) (hc:Chg c' g b w w' col col')
 (n1:¬ c'=0) (n2:¬ c'=c) (g1:¬ col g=0/\¬ col g=c) (b1:¬ col b=0/\¬ col b=c) (hM:∀ r,r<ls.length*H->∀ x,x ∈ L r->Ls.nth M' x.toNat=Ls.nth M x.toNat):CaAt w' col' c g C H D G W ls M' L cnt tk q:=by
 obtain ⟨h1,h2,h3,h4⟩:=hc
 refine h.carry (fun x hx e=>⟨h2 x hx,h1.block hx (fun ee=>?_) (fun ee=>?_) (fun ee=>?_)⟩) h1.size hM
 ·subst ee;rcases e with e | e;exact g1.1 e;exact g1.2 e
 ·subst ee;rcases e with e | e;exact b1.1 e;exact b1.2 e
 ·have ee:col x=c':=ee
  rcases e with e | e <;> omega
end Cc
end Go.Proofs.YtnchnlgnnlgjcaaGreat
namespace Go.Proofs.YtnchnlgnnlgjcaaGreat
open Go.RowKit
namespace Cc
def CaIn (w:World) (col:Nat->Nat) (c g C H D G W:Nat) (ls:List (Int × Int)) (M:List Int) (L:Nat->List Int) (cnt:List Int) (tk:Nat->List Tok) (q:Nat->Nat)
    (al:Option Addr) (cl T pb pc ct cc:Nat) (rg rs:Nat->Nat) (F:Nat->Value):Prop :=
    (w.rowIs C 104 9 (cac g H D G W (.slice al ls.length cl) T (.slice (some ⟨pb,0,none⟩) (ls.length*H) pc) (.slice (some ⟨ct,0,none⟩) ls.length cc))/\col C=0) /\
    (PsZ col w al ls/\(al=none->cl=0)) /\
    (Tab w g T (ls.length*H) L (fun x=>col x=c/\¬ x=ct)/\col T=0) /\
    (w.ownsRow 0 3 1 (.slice (some ⟨ct,0,none⟩) ls.length cc) ls.length (cnt.map (Value.int .i64))/\cnt.length=ls.length/\col ct=c) /\
    (w.rowIs pb 107 pc F/\(∀ r,r<ls.length*H->F r=.pointer (some ⟨rg r,0,none⟩))/\ls.length*H<=pc/\col pb=0) /\
    (∀ i j,i<ls.length*H->j<ls.length*H->rg i=rg j\/rs i=rs j->i=j) /\
    ∀ r,r<ls.length*H->RowIn w col c M G D (W+G) ls (r / H) (r % H) (rg r) (rs r) (L r) (tk r) (q r)
theorem CaIn.at {w:World} {col:Nat->Nat} {c g C H D G W:Nat} {ls:List (Int × Int)} {M:List Int} {L:Nat->List Int} {cnt:List Int} {tk:Nat->List Tok} {q:Nat->Nat}
 {al:Option Addr} {cl T pb pc ct cc:Nat} {rg rs:Nat->Nat} {F:Nat->Value} (h:CaIn w col c g C H D G W ls M L cnt tk q al cl T pb pc ct cc rg rs F):CaAt w col c g C H D G W ls M L cnt tk q :=
 ⟨al,cl,T,pb,pc,ct,cc,rg,rs,F,h⟩
theorem CaAt.in {w:World} {col:Nat->Nat} {c g C H D G W:Nat} {ls:List (Int × Int)} {M:List Int} {L:Nat->List Int} {cnt:List Int} {tk:Nat->List Tok} {q:Nat->Nat} (h:CaAt w col c g C H D G W ls M L cnt tk q) :
 ∃ (al:Option Addr) (cl T pb pc ct cc:Nat) (rg rs:Nat->Nat) (F:Nat->Value),CaIn w col c g C H D G W ls M L cnt tk q al cl T pb pc ct cc rg rs F:=h
def re (s e c:Nat) (col:Nat->Nat):Nat->Nat:=fun x=>if s<=x/\x<e then c else col x
theorem re_old {s e c:Nat} {col:Nat->Nat} {x:Nat} (h:x<s):re s e c col x=col x:=if_neg (by omega)
theorem re_new {s e c:Nat} {col:Nat->Nat} {x:Nat} (h:s<=x) (h2:x<e):re s e c col x=c:=if_pos ⟨h,h2⟩
theorem re_past {s e c:Nat} {col:Nat->Nat} {x:Nat} (h:e<=x):re s e c col x=col x:=if_neg (by omega)
theorem up_row (ly hd H:Nat) (h:hd<H):(ly*H+hd) / H=ly/\(ly*H+hd) % H=hd:=by
 refine ⟨?_,?_⟩
 ·rw [Nat.mul_comm,Nat.mul_add_div (by omega),Nat.div_eq_of_lt h];omega
 ·rw [Nat.mul_comm,Nat.mul_add_mod,Nat.mod_eq_of_lt h]
theorem nth_snoc_left {l:List Int} {x:Int} {i:Nat} (h:i<l.length):Ls.nth (l ++ [x]) i=Ls.nth l i:=Ls.nth_append_left h
set_option maxHeartbeats 1600000 in
theorem CaIn.quant {w w5 w6:World} {col:Nat->Nat} {c g b C H D G W n:Nat} {ls:List (Int × Int)} {R M:List Int} {L:Nat->List Int} {cnt:List Int} {tk:Nat->List Tok} {q:Nat->Nat}
 {al:Option Addr} {cl T pb pc ct cc:Nat} {rg rs:Nat->Nat} {F:Nat->Value} (h:CaIn w col c g C H D G W ls M L cnt tk q al cl T pb pc ct cc rg rs F)
 (hp:PoolAt w g b n R M) (hfr:∀ x,w.heap.size<=x->col x=0) (c0:¬ c=0) (cg:¬ col g=c/\¬ col g=0) (cb:¬ col b=c/\¬ col b=0)
 {r ly hd q0 kf p s pl f:Nat} {l:List Rt.Tv} (hly:ly<ls.length) (hhd:hd<H) (hr:ly*H+hd=r) (rlt:r<ls.length*H) (hq0:q r=q0) (hqG:q0*G+G<=(tk r).length) (hk:kf<n) (hk0:Ls.nth R kf=0)
 (hL:∀ i,i<ls.length*H->∀ x,x ∈ L i->0<=x/\x<n/\0<Ls.nth R x.toNat)
 (hlen:l.length+q0*G=(tk r).length) (htv:∀ i (h:q0*G+i<(tk r).length),TvAt col w (Rt.nth l i) (tk r)[q0*G+i] hd) (hG:G<=l.length)
 (hfar:∀ x,x<w.heap.size->¬ x=rg r->¬ x=rs r->w5.heap[x]?=w.heap[x]?) (hos:w5.os=w.os/\w5.tape=w.tape/\w5.output=w.output) (hs:w.heap.size<=s/\s<=w5.heap.size)
 (hring:Rt.RingAt w5 (rg r) (rs r) (W+G) pl (l.drop G))
 (hpage:PageZ (fun x=>s<=x) w5 p (mk ls ly) (mv ls ly) G D ly hd q0 (Ca.pg (mk ls ly) (mv ls ly) (top (mk ls ly)) (top (mv ls ly)) G D ly hd (tk r) q0).2.1 (Ca.pg (mk ls ly) (mv ls ly) (top (mk ls ly)) (top (mv ls ly)) G D ly hd (tk r) q0).2.2)
 (hbut:ButQ g b (fun x=>(col x=c/\¬ x=ct)/\(Ty w5 x 70\/Ty w5 x 3)) w5 w6)
 (htab:Tab w6 g T (ls.length*H) (Bk.up L r (L r ++ [(kf:Int)])) (fun x=>((col x=c/\¬ x=ct)/\(Ty w5 x 70\/Ty w5 x 3))\/w5.heap.size<=x)) :
 CaAt w6 (re w5.heap.size w6.heap.size c col) c g C H D G W ls (M.set kf (p:Int)) (Bk.up L r (L r ++ [(kf:Int)])) cnt tk (fun i=>if i=r then q0+1 else q i)/\Chg c g b w w6 col (re w5.heap.size w6.heap.size c col):=by
 obtain ⟨⟨hC,zC⟩,⟨hl,hln⟩,⟨hT,zT⟩,⟨hc,hcl,zc⟩,⟨hpb,hF,hpc,zp⟩,hdis,hrow⟩:=h
 have hdv:=up_row ly hd H hhd
 rw [hr] at hdv
 have hs6:=hbut.size
 have hww:w.heap.size<=w5.heap.size:=Nat.le_trans hs.1 hs.2
 obtain ⟨_,_,_,f0,l0,hrg0,_,_,crg,crs⟩:=hrow r rlt
 have trg:=hrg0.tys
 have tct:Ty w ct 3:=ty_own hc rfl
 have lct:ct<w.heap.size:=tct.lt
 have lg:=hp.lt
 -- what is of colour 0 stands
 have f0:∀ x,x<w.heap.size->col x=0->w6.heap[x]?=w.heap[x]?:=fun x hx h0=>by
  rw [hbut.block (by omega) (fun e=>cg.2 (by rw [<-e];exact h0)) (fun e=>cb.2 (by rw [<-e];exact h0)) (fun e=>c0 (by rw [<-e.1.1];exact h0))]
  exact hfar x hx (fun e=>c0 (by rw [<-crg,<-e];exact h0)) (fun e=>c0 (by rw [<-crs,<-e];exact h0))
 have ro:∀ x,x<w.heap.size->re w5.heap.size w6.heap.size c col x=col x:=fun x hx=>re_old (by omega)
 have k0:∀ x,x<w.heap.size->col x=0->re w5.heap.size w6.heap.size c col x=0/\w6.heap[x]?=w.heap[x]?:=fun x hx h0=>⟨by rw [ro x hx];exact h0,f0 x hx h0⟩
 -- blocks of other types than the rows' stand behind Add
 have ft:∀ x t,x<w5.heap.size->Ty w5 x t->¬ t=70->¬ t=3->¬ x=g->¬ x=b->w6.heap[x]?=w5.heap[x]?:=fun x t hx ht n1 n2 ng nb =>
  hbut.block hx ng nb fun e=>by rcases e.2 with q | q;exact n1 ((Classical.byContradiction fun hh=>(ht.ne q (fun e=>n1 e)) rfl));exact n2 ((Classical.byContradiction fun hh=>(ht.ne q (fun e=>n2 e)) rfl))
 refine ⟨⟨al,cl,T,pb,pc,ct,cc,rg,rs,F,⟨hC.of_block (f0 C hC.lt zC),by rw [ro C hC.lt];exact zC⟩,⟨hl.carry k0 (by omega),hln⟩,⟨?_,by rw [ro T hT.lt];exact zT⟩,⟨?_,hcl,by rw [ro ct lct];exact zc⟩,⟨hpb.of_block (f0 pb hpb.lt zp),hF,hpc,by rw [ro pb hpb.lt];exact zp⟩,hdis,fun i hi=>?_⟩,⟨?_,ro,fun x hx=>?_,fun x hx=>?_⟩⟩
 ·refine htab.mono2 fun x hx _ hq=>?_
  rcases hq with ⟨hq,ht⟩ | hq
  ·have:x<w5.heap.size:=by rcases ht with t | t <;> exact t.lt
   exact ⟨by rw [re_old this];exact hq.1,hq.2⟩
  ·exact ⟨re_new hq hx,by omega⟩
 ·refine own_at hc fun x ex=>?_
  cases ex
  rw [hbut.block (by omega) (tct.ne hp.tys.1 (by decide)) (tct.ne hp.tys.2 (by decide)) (fun e=>e.1.2 rfl)]
  exact hfar ct lct (tct.ne trg.1 (by decide)) (tct.ne trg.2 (by decide))
 ·by_cases ei:i=r
  ·subst ei
   show RowIn w6 (re w5.heap.size w6.heap.size c col) c (M.set kf (p:Int)) G D (W+G) ls (i / H) (i % H) (rg i) (rs i) _ (tk i) (if i=i then q0+1 else q i)
   rw [Bk.up_at,if_pos rfl,hdv.1,hdv.2]
   obtain ⟨hl1,hl2,hpg,_⟩:=hrow i hi
   rw [hdv.1,hdv.2] at hpg
   rw [hq0] at hl1 hl2 hpg
   refine ⟨by rw [List.length_append,hl1];rfl,by rw [Nat.add_mul];omega,fun j hj=>?_,pl,l.drop G,?_,?_,fun j hj=>?_,by rw [ro _ hrg0.lt.1];exact crg,by rw [ro _ hrg0.lt.2];exact crs⟩
   ·by_cases ej:j=q0
    ·subst ej
     refine ⟨p,?_,?_⟩
     ·rw [show Ls.nth (L i ++ [(kf:Int)]) j=(kf:Int) from Ls.nth_append_at hl1.symm,Int.toNat_natCast,Po.nth_set (by rw [hp.nums.2.2.1];exact hk),if_pos rfl]
     ·refine hpage.carry fun x hx hz=>?_
      have hz:s<=x:=hz
      have cx:=hfr x (by omega)
      exact ⟨by rw [re_old hx];exact cx,hbut.block hx (by omega) (by omega) (fun e=>c0 (by rw [<-e.1.1];exact cx))⟩
    ·have hj2:j<q0:=by omega
     obtain ⟨p',e,hpz⟩:=hpg j hj2
     have hm:Ls.nth (L i) j ∈ L i:=by
      rw [show Ls.nth (L i) j=(L i)[j]'(by omega) by simp [Ls.nth,show j<(L i).length by omega]]
      exact List.getElem_mem _
     obtain ⟨x0,x1,x2⟩:=hL i hi _ hm
     refine ⟨p',?_,hpz.carry k0⟩
     rw [nth_snoc_left (by omega),Po.nth_set (by rw [hp.nums.2.2.1];exact hk),if_neg (fun e=>by rw [e,hk0] at x2;omega)]
     exact e
   ·exact hring.of_block (ft _ _ hring.lt.1 hring.tys.1 (by decide) (by decide) (trg.1.ne hp.tys.1 (by decide)) (trg.1.ne hp.tys.2 (by decide))) (ft _ _ hring.lt.2 hring.tys.2 (by decide) (by decide) (trg.2.ne hp.tys.1 (by decide)) (trg.2.ne hp.tys.2 (by decide)))
   ·rw [List.length_drop,Nat.add_mul];omega
   ·have ee:(q0+1)*G+j=q0*G+(G+j):=by rw [Nat.add_mul];omega
    have hv:=(htv (G+j) (by omega)).carry k0 (by omega:w.heap.size<=w6.heap.size)
    rw [Rt.nth_drop]
    simp only [ee]
    exact hv
  ·show RowIn w6 (re w5.heap.size w6.heap.size c col) c (M.set kf (p:Int)) G D (W+G) ls (i / H) (i % H) (rg i) (rs i) _ (tk i) (if i=r then q0+1 else q i)
   rw [Bk.up_off L _ ei,if_neg ei]
   obtain ⟨_,_,_,fi,li,hri,_,_,ci,ci2⟩:=hrow i hi
   have n1:¬ rg i=rg r:=fun e=>ei (hdis i r hi rlt (.inl e))
   have n2:¬ rs i=rs r:=fun e=>ei (hdis i r hi rlt (.inr e))
   have n3:¬ rg i=rs r:=hri.tys.1.ne trg.2 (by decide)
   have n4:¬ rs i=rg r:=hri.tys.2.ne trg.1 (by decide)
   have e1:=hfar _ hri.lt.1 n1 n3
   have e2:=hfar _ hri.lt.2 n4 n2
   refine (hrow i hi).carry k0 (by omega) ⟨ro _ hri.lt.1,?_⟩ ⟨ro _ hri.lt.2,?_⟩ fun x hx=>?_
   ·rw [ft _ _ (by have:=hri.lt.1;omega) (hri.tys.1.of_block e1) (by decide) (by decide) (hri.tys.1.ne hp.tys.1 (by decide)) (hri.tys.1.ne hp.tys.2 (by decide))];exact e1
   ·rw [ft _ _ (by have:=hri.lt.2;omega) (hri.tys.2.of_block e2) (by decide) (by decide) (hri.tys.2.ne hp.tys.1 (by decide)) (hri.tys.2.ne hp.tys.2 (by decide))];exact e2
   ·obtain ⟨x0,x1,x2⟩:=hL i hi x hx
    rw [Po.nth_set (by rw [hp.nums.2.2.1];exact hk),if_neg (fun e=>by rw [e,hk0] at x2;omega)]
 ·refine ⟨hbut.1.trans hos.1,hbut.2.1.trans hos.2.1,hbut.2.2.1.trans hos.2.2,by omega,fun j h0 h1 h2 h3=>?_⟩
  have h3:¬ col j=c:=h3
  rw [hbut.block (by omega) h1 h2 (fun e=>h3 e.1.1)]
  exact hfar j h0 (fun e=>h3 (by rw [e];exact crg)) (fun e=>h3 (by rw [e];exact crs))
 ·unfold re
  split
  ·exact .inr rfl
  ·exact .inl (hfr x (by omega))
 ·rw [re_past hx];exact hfr x (by omega)
end Cc
end Go.Proofs.YtnchnlgnnlgjcaaGreat
