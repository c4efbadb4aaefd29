import Derived.Test.YtnchnlgnnlgjcaaGreatCp01
import Derived.Test.YtnchnlgnnlgjcaaGreatRows
import Derived.Maps.OwnSet
import Derived.Test.YtnchnlgnnlgjcaaGreatCp14
import Derived.Test.YtnchnlgnnlgjcaaGreatCp11
import Derived.WalkKit
import Derived.Test.YtnchnlgnnlgjcaaGreatCp29
import Derived.Test.YtnchnlgnnlgjcaaGreatCp21
import Derived.Maps.OwnOps
set_option linter.unusedVariables false
set_option linter.unusedSimpArgs false
namespace Go.Proofs.YtnchnlgnnlgjcaaGreat
namespace Cc
open Go.Maps (Tidy has size)
def many (S:List Int):Nat -> Nat
 | 0=>0
 | n + 1=>many S n + if 0 < Bk.occ (n:Int) S then 1 else 0
theorem many_nil (n:Nat):many [] n = 0:=by
 induction n with
 | zero=>rfl
 | succ n ih=>show many [] n + (if 0 < Bk.occ (n:Int) [] then 1 else 0) = 0;rw [ih];simp [Bk.occ]
theorem many_snoc (S:List Int) (x:Int) (n:Nat):many (S ++ [x]) n = many S n + if 0 <= x /\ x < n /\ Bk.occ x S = 0 then 1 else 0:=by
 induction n with
 | zero=>show 0 = 0 + _;rw [if_neg (by omega)]
 | succ n ih =>
   show many (S ++ [x]) n + (if 0 < Bk.occ (n:Int) (S ++ [x]) then 1 else 0) = many S n + (if 0 < Bk.occ (n:Int) S then 1 else 0) + _
   rw [ih,Bk.occ_append,Bk.occ_one]
   by_cases e:x = (n:Int)
   ·subst e
    rw [if_neg (by omega),if_pos rfl,if_pos (by omega)]
    by_cases h:Bk.occ (n:Int) S = 0
    ·rw [if_neg (by omega),if_pos (by omega)]
    ·rw [if_pos (by omega),if_neg (by omega)]
   ·rw [if_neg e,Nat.add_zero]
    have c1:(0 <= x /\ x < ((n + 1:Nat):Int) /\ Bk.occ x S = 0) ↔ (0 <= x /\ x < (n:Int) /\ Bk.occ x S = 0):=by constructor <;> intro ⟨p,q,r⟩ <;> exact ⟨p,by omega,r⟩
    simp only [c1]
    omega
theorem many_cntN {R S:List Int} (n:Nat) (h:∀ i,i < n -> Ls.nth R i = (Bk.occ (i:Int) S:Int)):Po.cntN R n + many S n = n:=by
 induction n with
 | zero=>rfl
 | succ n ih =>
   have ih':=ih fun i hi=>h i (by omega)
   have hn:=h n (by omega)
   show Po.cntN R (n + 1) + (many S n + if 0 < Bk.occ (n:Int) S then 1 else 0) = n + 1
   by_cases e:Bk.occ (n:Int) S = 0
   ·rw [Po.cntN_yes (by rw [hn,e];rfl),if_neg (by omega)];omega
   ·rw [Po.cntN_no (by rw [hn];omega),if_pos (by omega)];omega
variable {H:Type}
def Cntd (D:DataW H) (n:Nat) (S:List Int):Prop:=Tidy D /\ (∀ x:Int,D.atKey (.int .i64 x) (.lit (.int .i64 0)) = .lit (.int .i64 (Bk.occ x S:Int))) /\ (∀ x:Int,has D (.int .i64 x) = decide (0 < Bk.occ x S)) /\ size D = many S n
theorem Cntd.nil (n:Nat):Cntd (.map []:DataW H) n []:=⟨Go.Maps.tidy_empty,fun x=>rfl,fun x=>rfl,(many_nil n).symm⟩
theorem Cntd.snoc {D:DataW H} {n:Nat} {S:List Int} {x c:Int} (h:Cntd D n S) (h0:0 <= x) (h1:x < n) (hc:c = (Bk.occ x S:Int) + 1):Cntd (D.put (.int .i64 x) (.lit (.int .i64 c))) n (S ++ [x]):=by
 obtain ⟨hT,hA,hH,hS⟩:=h
 have hk:WideAt.IsKeyLit (.int .i64 x):=trivial
 refine ⟨hT.put hk _,fun y=>?_,fun y=>?_,?_⟩
 ·rw [Bk.occ_append,Bk.occ_one]
  by_cases e:x = y
  ·subst e
   rw [Go.Maps.atKey_put_same hT.isMap hk,if_pos rfl,hc]
   rfl
  ·rw [Go.Maps.atKey_put_other (fun q=>e (by cases q;rfl)),if_neg e,hA y]
   rfl
 ·rw [Bk.occ_append,Bk.occ_one]
  by_cases e:x = y
  ·subst e
   rw [Go.Maps.has_put_same hT.isMap hk,if_pos rfl]
   simp
  ·rw [Go.Maps.has_put_other (fun q=>e (by cases q;rfl)),if_neg e,hH y]
   rfl
 ·rw [Go.Maps.size_put hT,hH x,hS,many_snoc]
  by_cases e:Bk.occ x S = 0
  ·rw [if_neg (by simp [e]),if_pos ⟨h0,h1,e⟩]
  ·rw [if_pos (by simp;omega),if_neg (by omega)]
   rfl
end Cc
end Go.Proofs.YtnchnlgnnlgjcaaGreat
namespace Go.Proofs.YtnchnlgnnlgjcaaGreat
open Go.RowKit
namespace Cc
open Go.Maps (Keyed int_keyed keyOf_int_mk)
theorem keyInt:Keyed Tryz.prog 3:=int_keyed Tryz.underlying3
theorem zeroInt (w:World):(zeroValue 3).run Tryz.prog w = .ok (.int .i64 0) w:=by kernel_rfl
def MapAt (w:World) (b n:Nat) (S:List Int):Prop:=∃ D:DataW Unit,w.ownsMap Tryz.prog 3 (plainElem Tryz.prog 3) b S.length D /\ Cntd D n S
theorem MapAt.lt {w:World} {b n:Nat} {S:List Int} (h:MapAt w b n S):b < w.heap.size:=by
 obtain ⟨D,h1,_⟩:=h
 exact h1.lt
theorem MapAt.keep {w w':World} {b n:Nat} {S:List Int} (h:MapAt w b n S) (hb:Below w.heap.size w w'):MapAt w' b n S:=by
 obtain ⟨D,h1,h2⟩:=h
 have hl:=h1.lt
 obtain ⟨es,clock,e,h3⟩:=h1
 exact ⟨D,⟨es,clock,(hb.block b hl).trans e,h3⟩,h2⟩
theorem mapAt_made (w:World) (n:Nat):MapAt (w.alloc (.map #[] 0)) w.heap.size n []:=⟨_,World.ownsMap_made _ _ _ _,Cntd.nil n⟩
theorem wf_int {x:Int} (h0:0 <= x) (h1:x < 1000000):(Lit.int .i64 x).wf = true:=WalkArith.wf_i64 (by omega)
theorem MapAt.look {w:World} {b n:Nat} {S:List Int} (h:MapAt w b n S) {x:Int} (h0:0 <= x) (h1:x < 1000000):(Instr.lookup 87 (.map (some b)) (.int .i64 x) false).run Tryz.prog w = .ok (.int .i64 (Bk.occ x S:Int)) w:=by
 obtain ⟨D,h2,h3⟩:=h
 obtain ⟨c,hrun,hat,-⟩:=h2.lookup_int keyInt Tryz.underlying87 Tryz.underlying3 (zeroInt _) (keyOf_int_mk Tryz.underlying3 (wf_int h0 h1))
 rw [h3.2.1 x] at hat
 have e:(Bk.occ x S:Int) = c:=by simpa using hat
 rw [e]
 exact hrun
theorem MapAt.len {w:World} {b n:Nat} {S:List Int} (h:MapAt w b n S) (ty:TypeId):(Builtin.len_ #[87] ty #[.map (some b)]).run Tryz.prog w = .ok (.int .i64 (many S n:Int)) w:=by
 obtain ⟨D,h2,h3⟩:=h
 have h4:=h2.len Tryz.underlying87 ty
 rw [h3.2.2.2] at h4
 exact h4
theorem MapAt.more {w':World} {b n o:Nat} {S:List Int} {D:DataW Unit} {x:Int} (hc:Cntd D n S) (ho:Bk.occ x S = o) (h0:0 <= x) (h1:x < n) (h:w'.ownsMap Tryz.prog 3 (plainElem Tryz.prog 3) b (S.length + 1) (D.put (.int .i64 x) (.lit (.int .i64 ((o:Int) + 1))))):MapAt w' b n (S ++ [x]) :=
 ⟨_,by rw [List.length_append];exact h,hc.snoc h0 h1 (by rw [ho])⟩
def cat (L:Nat -> Nat -> List Int) (m:Nat):Nat -> List Int
 | 0=>[]
 | s + 1=>cat L m s ++ Bk.flat (L s) m
theorem occ_cat (L:Nat -> Nat -> List Int) (m s:Nat) (x:Int):Bk.occ x (cat L m s) = Bk.tot L m x s:=by
 induction s with
 | zero=>rfl
 | succ s ih=>show Bk.occ x (cat L m s ++ _) = _;rw [Bk.occ_append,ih];rfl
theorem cat_le (L:Nat -> Nat -> List Int) (m s N:Nat) (h:∀ i,i < s -> Bk.len (L i) m <= N):(cat L m s).length <= s * N:=by
 induction s with
 | zero=>exact Nat.zero_le _
 | succ s ih =>
   have h1:=ih fun i hi=>h i (by omega)
   have h2:=h s (by omega)
   show (cat L m s ++ Bk.flat (L s) m).length <= _
   rw [List.length_append,Nat.add_mul,Nat.one_mul]
   show _ + Bk.len (L s) m <= _
   omega
end Cc
end Go.Proofs.YtnchnlgnnlgjcaaGreat
namespace Go.Proofs.YtnchnlgnnlgjcaaGreat
open Go.RowKit
namespace Cc
open Go.Maps (Keyed int_keyed keyOf_int_mk)
set_option maxRecDepth 100000 in
set_option maxHeartbeats 6400000 in
theorem counted_any (B P n H D G W k j:Nat) (ls:List (Int × Int)) (w0 w:World) (hPl:PlP B w0 w P n H D G W ls k j) (sh:ShOk H D G W ls) (hj:j <= 200) :
 Calls Tryz.prog 15 #[.pointer (some ⟨P,0,none⟩)] w fun e w'=>e = .returned (.bool true) /\ Below w.heap.size w w':=by
 obtain ⟨g,b,R,M,al,cl,va,vr,C,T,L,t,q,zs,col,hC,hB,hD,hF,hG,hw,hBs⟩:=hPl
 have hk0:0 < k:=hG.2.2.2.2.2.1
 have hk5:k <= 5:=hG.2.2.2.2.2.2
 obtain ⟨sH,sH2,sD,sD2,-⟩:=id sh
 obtain ⟨sG,sG2,sW,sl,sl2,-⟩:=sh.nums
 obtain ⟨-,hnR,-,hn60,-⟩:=PoolAt.nums hC.1
 have hm16:ls.length * H <= 16:=Nat.le_trans (Nat.mul_le_mul sl2 sH2) (by decide)
 obtain ⟨m,em⟩:∃ m,ls.length * H = m:=⟨_,rfl⟩
 have EM:=Ca.hid em
 rw [em] at hG hm16
 have C1:=Ca.hid hC
 have GD:=Ca.hid hG
 obtain ⟨⟨hP,-⟩,⟨hva,-⟩,-,-⟩:=hB
 obtain ⟨ga,ca,Fa,rfl,-,hra,hca,fa⟩:=row_of_own hva hk0
 have c0:w.cell? ⟨P,0,none⟩ = some (.pointer (some ⟨g,0,none⟩)):=hP.cell (show 0 < 8 by decide)
 have c6:w.cell? ⟨P,6,none⟩ = some (.slice (some ⟨ga,0,none⟩) k ca):=hP.cell (show 6 < 8 by decide)
 have KB:Hid (∀ v,Below w.heap.size w v -> v.cell? ⟨P,0,none⟩ = some (.pointer (some ⟨g,0,none⟩)) /\ v.cell? ⟨P,6,none⟩ = some (.slice (some ⟨ga,0,none⟩) k ca) /\ (∀ i,i < k -> v.cell? ⟨ga,i,none⟩ = some (.pointer (some ⟨C i,0,none⟩))) /\ PoolAt v g b n R M):=fun v hv =>
  ⟨(hv.cell (p:=⟨P,0,none⟩) hP.lt).trans c0,(hv.cell (p:=⟨P,6,none⟩) hP.lt).trans c6,fun i hi=>by
    rw [hv.cell (p:=⟨ga,i,none⟩) hra.lt,hra.cell (by omega)]
    have:=fa i hi
    unfold cptrs at this
    simpa [hi] using this,hC.1.keep hv⟩
 have KC:=Ca.hid (fun (v:World) (hv:Below w.heap.size w v) (i:Nat) (hi:i < k)=>(hC.2.2 i hi).1.below hv)
 have NL:Hid (∀ i,i < k -> Bk.len (L i) m <= 4 * j):=GD.out.2.2.1
 have CL:Hid (∀ s,s <= k -> (cat L m s).length <= 4000):=fun s hs=>by
  have h1:=cat_le L m s (4 * j) (fun i hi=>NL.out i (by omega))
  have h2:s * (4 * j) <= 5 * 800:=Nat.mul_le_mul (by omega) (by omega)
  omega
 clear hC hD hF hG hw hP hra hca fa em
 have hmm:=@run_makeMap Tryz.prog
 go_enter Tryz.func15,Tryz.ntmps15
 obtain ⟨W1,hW1⟩:∃ W1,w.alloc (.map #[] 0) = W1:=⟨_,rfl⟩
 have BW1:Hid (Below w.heap.size w W1):=by rw [<- hW1];exact (Below.refl _ _).alloc (Nat.le_refl _) _
 have M0:Hid (MapAt W1 w.heap.size n []):=by rw [<- hW1];exact mapAt_made w n
 obtain ⟨x0,x6,-,-⟩:=KB.out W1 BW1.out
 go_upto_region 2 with fail
 try rw [hW1]
 go_wp2
 clear hW1 c0 c6
 obtain ⟨mb,emb⟩:∃ mb,w.heap.size = mb:=⟨_,rfl⟩
 have EMB:=Ca.hid emb
 rw [emb] at M0
 try rw [emb]
 have hs1:=BW1.out.size
 clear emb
 go_loopw [15] (fun i wq=>∃ s:Nat,s <= k /\ i = .int .i64 s /\ Hid (MapAt wq mb n (cat L m s)) /\ Hid (Below w.heap.size w wq)) (fun i _=>k - (intOf i).toNat)
 case atStart=>exact ⟨0,Nat.zero_le _,rfl,M0.out,BW1.out⟩
 case round =>
  obtain ⟨s,hs,rfl,MS,B2⟩:=hrel
  by_cases hlt:s < k
  ·obtain ⟨-,-,zc,-⟩:=KB.out wr B2.out
   have zs:=zc s hlt
   have e0:(0:Int) <= (s:Int):=by omega
   have e1:(s:Int) < (k:Int):=by omega
   obtain ⟨N,eN⟩:∃ N,Bk.len (L s) m = N:=⟨_,rfl⟩
   have EN:=Ca.hid eN
   have hN:N <= 800:=by have:=NL.out s hlt;omega
   have hs2:=B2.out.size
   clear zc eN
   go_wp2_with (go_at_call 27;refine (slots_c (C s) (s + 1) g H D G W N ls M (L s) _ _ _ col wr (KC.out wr B2.out s hlt) (by rw [EM.out];omega) (by rw [EM.out];exact EN.out) (by omega)).mono ?_;rintro e w2 ⟨sa,sc,rfl,hA,hb⟩;rw [EM.out] at hA;have A1:=Ca.hid hA;have B3:Hid (Below w.heap.size w w2):=B2.out.trans (hb.mono hs2);have MT:=Ca.hid (MS.out.keep hb);have hs3:=hb.size;clear hA hb)
   have ML:=MS.out.lt
   go_loopw [22] (fun i wq=>∃ r:Nat,r <= N /\ i = .int .i64 r /\ Hid (MapAt wq mb n (cat L m s ++ (Bk.flat (L s) m).take r)) /\ Hid (Below w.heap.size w wq) /\ Hid (Lst .i64 wq sa (Bk.flat (L s) m))) (fun i _=>N - (intOf i).toNat)
   case atStart=>exact ⟨0,Nat.zero_le _,rfl,by rw [List.take_zero,List.append_nil];exact MT.out,B3.out,A1.out⟩
   case round =>
    obtain ⟨r,hr,rfl,MR,B4,A2⟩:=hrel
    by_cases hlt2:r < N
    ·have hrl:r < (Bk.flat (L s) m).length:=by have:=EN.out;unfold Bk.len at this;omega
     obtain ⟨sb,so,rfl,hcl⟩:=A2.out.get hrl
     have hz:=hcl r hrl
     obtain ⟨x,ex⟩:∃ x,Ls.nth (Bk.flat (L s) m) r = x:=⟨_,rfl⟩
     rw [ex] at hz
     have hxm:x ∈ Bk.flat (L s) m:=by
      rw [<- ex]
      unfold Ls.nth
      rw [List.getD_eq_getElem?_getD,List.getElem?_eq_getElem hrl]
      exact List.getElem_mem hrl
     obtain ⟨hx0,hx1⟩:=GD.out.2.1 s hlt x hxm
     obtain ⟨S,eS⟩:∃ S,cat L m s ++ (Bk.flat (L s) m).take r = S:=⟨_,rfl⟩
     have ES:Hid (cat L m s ++ (Bk.flat (L s) m).take (r + 1) = S ++ [x]):=by
      show _ = _
      rw [List.take_succ_eq_append_getElem hrl,<- List.append_assoc,eS,<- ex]
      unfold Ls.nth
      rw [List.getD_eq_getElem?_getD,List.getElem?_eq_getElem hrl]
      rfl
     have hSl:S.length < 100000:=by
      rw [<- eS,List.length_append,List.length_take]
      have:=CL.out s hs
      omega
     rw [eS] at MR
     obtain ⟨o,eo⟩:∃ o,Bk.occ x S = o:=⟨_,rfl⟩
     have EO:=Ca.hid eo
     have ho:o <= S.length:=by rw [<- eo];exact Bk.occ_le x S
     obtain ⟨Dm,hmo,hcn'⟩:=MR.out
     have MO:=Ca.hid hmo
     have CN:=Ca.hid hcn'
     have mlt:=hmo.lt
     have f0:(0:Int) <= (r:Int):=by omega
     have f1:(r:Int) < (N:Int):=by omega
     have hwp:IntKind.i64.wrap ((o:Int) + 1) = (o:Int) + 1:=Tn.i64_same9 (by omega) (by omega)
     have hkey:keyOf Tryz.prog 3 (.int .i64 x) = some (.int .i64 x):=keyOf_int_mk Tryz.underlying3 (wf_int hx0 (by omega))
     have HK:=Ca.hid hkey
     have hlook:=MR.out.look hx0 (by omega)
     rw [eo] at hlook
     clear hcl ex hxm eS eo hmo hcn' hkey
     go_wp2_with (
      (at_mapUpdate;refine wpList_mapUpdate_own _ rfl _ _ _ 87 rfl 3 3 keyInt Tryz.underlying87 _ mb S.length Dm rfl MO.out (by unfold maxLen;omega) _ _ _ rfl rfl HK.out _ [] (plainElem_int Tryz.underlying3 (wf_int (x:=(o:Int) + 1) (by omega) (by omega))) ?_;intro w1 hown1 hgrow1))
     go_roundw
     case rel =>
      refine ⟨r + 1,by omega,by go_num,?_,?_,?_⟩
      ·rw [ES.out];exact MapAt.more CN.out EO.out hx0 hx1 hown1
      ·exact B4.out.grown hgrow1 B4.out.size (fun j hj=>by cases hj;have:=EMB.out;omega)
      ·exact fun i hi=>by
        obtain ⟨b',o',e',hc'⟩:=A2.out i hi
        refine ⟨b',o',e',?_⟩
        have hb'lt:=World.block_lt_of_cell? _ _ hc'
        rw [World.cell?_of_block (a:=⟨b',o' + i,none⟩) (hgrow1.block b' hb'lt (fun e=>by
         cases e
         obtain ⟨es,clock,hh,-⟩:=MO.out
         simp [World.cell?,hh] at hc'))]
        exact hc'
     case measure=>simp [intOf];omega
    ·have er:r = N:=by omega
     subst er
     have efl:(Bk.flat (L s) m).take r = Bk.flat (L s) m:=List.take_of_length_le (by have:=EN.out;unfold Bk.len at this;omega)
     have MQ:Hid (MapAt wr mb n (cat L m (s + 1))):=by
      have:=MR.out
      rw [efl] at this
      exact this
     go_wp2
     go_roundw
     case rel=>exact ⟨s + 1,by omega,by go_num,MQ.out,B4.out⟩
     case measure=>simp [intOf];omega
  ·have es:s = k:=by omega
   subst es
   obtain ⟨S,eS⟩:∃ S,cat L m s = S:=⟨_,rfl⟩
   rw [eS] at MS
   have OC:Hid (∀ i,i < n -> Ls.nth R i = (Bk.occ (i:Int) S:Int)):=fun i hi=>by rw [GD.out.1 i hi,<- eS,occ_cat]
   have OB:Hid (∀ x,Bk.occ x S <= 4000):=fun x=>by
    have h1:=Bk.occ_le x S
    have h2:=CL.out s (Nat.le_refl _)
    rw [eS] at h2
    omega
   obtain ⟨x0,-,-,-⟩:=KB.out wr B2.out
   have hs2:=B2.out.size
   clear eS
   go_wp2_with (go_at_call 44;refine (slots_any g b n R M wr (KB.out wr B2.out).2.2.2).mono ?_;rintro e w' ⟨rfl,hww⟩;cases hww.symm;clear hww)
   go_loopw [37] (fun i wq=>∃ r:Nat,r <= n /\ i = .int .i64 r /\ Hid (MapAt wq mb n S) /\ Hid (Below w.heap.size w wq)) (fun i _=>n - (intOf i).toNat)
   case atStart=>exact ⟨0,Nat.zero_le _,rfl,MS.out,B2.out⟩
   case round =>
    obtain ⟨r,hr,rfl,MR,B4⟩:=hrel
    have hs4:=B4.out.size
    obtain ⟨x0,-,-,hpl⟩:=KB.out wr B4.out
    by_cases hlt2:r < n
    ·obtain ⟨o,eo⟩:∃ o,Bk.occ (r:Int) S = o:=⟨_,rfl⟩
     have hR:=OC.out r hlt2
     rw [eo] at hR
     have hRF:∀ v,Below wr.heap.size wr v -> Calls Tryz.prog 45 #[.pointer (some ⟨g,0,none⟩),.int .i64 (r:Int)] v fun e w'=>e = .returned (.int .i64 (o:Int)) /\ Below v.heap.size v w':=fun v hv=>by
      by_cases h0:0 < o
      ·exact (refs_some g b n r (o:Int) R M v (hpl.keep hv) hlt2 hR (by omega)).mono fun _ _ h=>⟨h.1,by rw [h.2];exact Below.refl _ _⟩
      ·have:=(refs_none g b n (r:Int) R M v (hpl.keep hv) (by rw [Int.toNat_natCast,hR];omega)).mono (R':=fun e w'=>e = .returned (.int .i64 (o:Int)) /\ Below v.heap.size v w') fun _ _ h=>⟨by rw [h.1,show o = 0 by omega];rfl,by rw [h.2];exact Below.refl _ _⟩
       exact this
     go_upto_region 14 with fail
     have cR:=Tn.reg_of (u:=wr) hRF
     have pk0:=cell_regrown x0
     have pkm:∀ d os,(Instr.lookup 87 (.map (some mb)) (.int .i64 (r:Int)) false).run Tryz.prog (Go.Sort.grow (redrawn wr d) os) = .ok (.int .i64 (o:Int)) (Go.Sort.grow (redrawn wr d) os):=fun d os=>by
      rw [<- eo]
      exact (MR.out.keep (below_regrown wr d os)).look (by omega) (by omega)
     refine wp_region_quiet_below (by kernel_rfl) (by kernel_rfl) ?_
     repeat (go_big_quiet_step (with_reducible exact cR _ _))
     refine wpQuiet_nil ?_
     intro W2 hw'
     have BQ:Hid (Below wr.heap.size wr W2):=by obtain ⟨⟨dq,osq⟩,hw''⟩:=hw';rw [hw''];exact below_regrown wr dq osq
     clear hw' cR pk0 pkm
     go_wp2
     go_roundw
     case rel=>exact ⟨r + 1,by omega,by go_num,MR.out.keep BQ.out,B4.out.trans (BQ.out.mono hs4)⟩
     case measure=>simp [intOf];omega
    ·have er:r = n:=by omega
     subst er
     obtain ⟨cf,ecf⟩:∃ cf,Po.cnt R = cf:=⟨_,rfl⟩
     have hcm:cf + many S r = r:=by
      have:=many_cntN (R:=R) r OC.out
      rw [<- ecf]
      unfold Po.cnt
      rw [hnR]
      exact this
     obtain ⟨mm,emm⟩:∃ mm,many S r = mm:=⟨_,rfl⟩
     rw [emm] at hcm
     go_upto_region 17 with fail
     have cF:=Tn.reg_of (u:=wr) fun v hv=>(free_any g b r cf R M v (hpl.keep hv) ecf).mono fun _ _ ⟨h1,h2⟩=>(⟨h1,by rw [h2];exact Below.refl _ _⟩:_ /\ Below v.heap.size v _)
     have cS:=Tn.reg_of (u:=wr) fun v hv=>(slots_any g b r R M v (hpl.keep hv)).mono fun _ _ ⟨h1,h2⟩=>(⟨h1,by rw [h2];exact Below.refl _ _⟩:_ /\ Below v.heap.size v _)
     have pk0:=cell_regrown x0
     have pkm:∀ d os ty,(Builtin.len_ #[87] ty #[.map (some mb)]).run Tryz.prog (Go.Sort.grow (redrawn wr d) os) = .ok (.int .i64 (mm:Int)) (Go.Sort.grow (redrawn wr d) os):=fun d os ty=>by
      rw [<- emm]
      exact (MR.out.keep (below_regrown wr d os)).len ty
     have hwd:IntKind.i64.wrap ((r:Int) - (mm:Int)) = (cf:Int):=by rw [Tn.i64_same9 (by omega) (by omega)];omega
     refine wp_region_quiet_below (by kernel_rfl) (by kernel_rfl) ?_
     repeat (go_big_quiet_step (first | (with_reducible exact cF _ _) | (with_reducible exact cS _ _)))
     refine wpQuiet_nil ?_
     intro W2 hw'
     have BQ:Hid (Below wr.heap.size wr W2):=by obtain ⟨⟨dq,osq⟩,hw''⟩:=hw';rw [hw''];exact below_regrown wr dq osq
     clear hw' cF cS pk0 pkm
     go_wp2
     go_ret
     exact ⟨by simp,B4.out.trans (BQ.out.mono hs4)⟩
end Cc
end Go.Proofs.YtnchnlgnnlgjcaaGreat
