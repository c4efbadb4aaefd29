import Derived.Test.YtnchnlgnnlgjcaaGreatCo04
import Derived.Laws.OwnMore
import Derived.Deep.RegionWith
import Derived.Test.YtnchnlgnnlgjcaaGreatCo02
import Derived.Laws.BytesArg
import Derived.Laws.IdiomStrings
import Derived.Laws.CopyOwn
import Derived.Laws.Cover3
set_option linter.unusedVariables false
namespace Go.Proofs.YtnchnlgnnlgjcaaGreat
open Go.RowKit
attribute [local go_sem ↓] Go.wp_at_zero Go.wp_at_succ
def midw (b:Nat) (l:List Int) (i j t:Nat):Nat:=Pk.acc b l t i+if Pk.word b i=t then (Ls.nth l i).toNat % 2 ^ j*2 ^ Pk.shift b i else 0
theorem midw_zero (b:Nat) (l:List Int) (i t:Nat):midw b l i 0 t=Pk.acc b l t i:=by unfold midw;simp [Nat.mod_one]
theorem midw_all {b:Nat} {l:List Int} {i t:Nat} (hc:Pk.Cds b l):midw b l i b t=Pk.acc b l t (i+1):=by
 unfold midw
 by_cases e:Pk.word b i=t
 ·rw [if_pos e,Pk.acc_here e,Nat.mod_eq_of_lt (hc i).2]
 ·rw [if_neg e,Pk.acc_else e,Nat.add_zero]
theorem midw_lt {b:Nat} {l:List Int} (i j:Nat) (h:Pk.Ok b) (hc:Pk.Cds b l) (hj:j<=b):midw b l i j (Pk.word b i)<18446744073709551616:=by
 unfold midw
 rw [if_pos rfl]
 have h1:=(Pk.acc_low (Pk.word b i) i h hc).2.1 rfl
 have h2:(Ls.nth l i).toNat % 2 ^ j<2 ^ b:=Nat.lt_of_lt_of_le (Nat.mod_lt _ (Nat.two_pow_pos _)) (Pk.two_le hj)
 have h3:=Pk.on_top h1 h2
 have h4:2 ^ (Pk.shift b i+b)<=2 ^ 64:=Pk.two_le (Pk.shift_le i h)
 rw [Pk.two_64] at h4
 omega
theorem midw_step {b:Nat} {l:List Int} {i j:Nat}:midw b l i (j+1) (Pk.word b i)=midw b l i j (Pk.word b i)+Pk.bit (Ls.nth l i).toNat j*2 ^ (Pk.shift b i+j):=by
 unfold midw
 rw [if_pos rfl,if_pos rfl,Pk.bits_more0,Nat.add_mul,Nat.add_assoc,Nat.mul_assoc,<-Nat.pow_add,Nat.add_comm j]
theorem midw_else {b:Nat} {l:List Int} {i j t:Nat} (h:¬ t=Pk.word b i):midw b l i (j+1) t=midw b l i j t:=by
 unfold midw
 rw [if_neg (by omega),if_neg (by omega)]
theorem gen_set {n:Nat} {F G:Nat->Nat} {t:Nat} {y:Nat} (k:IntKind) (ht:t<n) (hy:y=G t) (hG:∀ j,¬ j=t->G j=F j) :
 (((Ls.gen n fun j=>(F j:Int)).map (Value.int k)).set t (.int k (y:Int)))=(Ls.gen n fun j=>(G j:Int)).map (Value.int k):=by
 apply List.ext_getElem
 ·simp [Ls.gen]
 ·intro i h1 h2
  simp [Ls.gen] at h1 h2
  rw [List.getElem_set]
  by_cases e:t=i
  ·subst e
   simp [Ls.gen,hy]
  ·rw [if_neg e]
   simp [Ls.gen,hG i (by omega)]
theorem gen_at {n:Nat} {F:Nat->Nat} {t:Nat} (k:IntKind) (ht:t<n):((Ls.gen n fun j=>(F j:Int)).map (Value.int k))[t]?=some (.int k (F t:Int)):=by
 simp [Ls.gen,ht]
theorem gen_snoc0 {w:World} {base:Nat} {t:TypeId} {v:Value} {k:Nat} {F:Nat->Int} {y:Int} (h:w.ownsRow base t 1 v (k+1) ((Ls.gen k F).map (Value.int .u64) ++ [.int .u64 y])) (e:y=F k) :
 w.ownsRow base t 1 v (k+1) ((Ls.gen (k+1) F).map (Value.int .u64)):=by
 rw [Ls.gen_succ,List.map_append]
 subst e
 exact h
set_option maxRecDepth 100000 in
set_option maxHeartbeats 1600000 in
theorem refPack_any (a:Option Addr) (c b:Nat) (l:List Int) (h:Pk.Ok b) (hp:0<l.length) (hl:l.length<=256) (w:World) (ha:Lst .i64 w a l) (hc:Pk.Cds b l) :
 Calls Tryz.prog 136 #[.slice a l.length c,.int .i64 b] w fun e w'=>∃ v,e=.returned v /\
  w'.ownsRow w.heap.size 183 1 v (Pk.size b l.length) ((Pk.pack b l).map (Value.int .u64))/\Below w.heap.size w w':=by
 obtain ⟨i0,hi0,hz0,hz1,hz2⟩:=info_parts Tryz.infoU64
 have H:Hid (Pk.Ok b):=h
 have HA:Hid (Lst .i64 w a l):=ha
 have HC:Hid (Pk.Cds b l):=hc
 have hb:=ok_le h
 have hz:=Pk.size_le h hl
 have hzp:=Pk.word_size h hp
 unfold Pk.pack
 obtain ⟨z,ez⟩:∃ z,Pk.size b l.length=z:=⟨_,rfl⟩
 have EZ:Hid (Pk.size b l.length=z):=ez
 rw [ez] at hz hzp
 rw [ez]
 have hzp:0<z:=by omega
 clear h ha hc ez
 go_enter Tryz.func136,Tryz.ntmps136
 go_wp2
 go_loopw [5,6] (fun v i wr=>∃ k:Nat,k<=z/\i=.int .i64 k/\wr.ownsRow w.heap.size 183 1 v k ((Ls.gen k fun _=>0).map (Value.int .u64))/\Below w.heap.size w wr) (fun _ i _=>z - (intOf i).toNat)
 case atStart=>exact ⟨0,Nat.zero_le _,rfl,World.ownsRow_nil _ _ _ _,Below.refl _ _⟩
 case round =>
  obtain ⟨k,hk,rfl,hown,hbel⟩:=hrel
  by_cases hlt:k<z
  ·have hsz:=hbel.size
   go_wp2_with (first
    | (go_at_call 150;refine (refWords_any _ _ H.out hl _).mono ?_;rintro e w' ⟨rfl,hww⟩;cases hww.symm;clear hww;rw [EZ.out])
    | (at_builtin;refine wpList_append_lies _ rfl _ _ _ rfl w.heap.size 183 i0 _ 1 8 Tryz.underlying178 hi0 hz0 hz1 hz2 rfl (by omega) _ k _ (by rfl) (hown.alloc _) ⟨wr.heap.size,0,none⟩ 1 1 [.int .u64 0] (by rfl) (by rfl) (World.news_of_block (cs:=#[.int .u64 0]) (t:=183) (fr:=(0,0)) (heap_alloc_new wr _)) (by simp [Value.oneCell']) (by omega) (by unfold maxLen;omega) (by omega) (by simp;omega) (wr.heap.size+1) (by simp) ?_;intro gg cap w1 hown1 hgrow hat hlt1;have hb2:Below w.heap.size w w1:=(hbel.alloc (by omega) _).grown hgrow (by simp;omega) (fun j hj=>(hown.lt j hj).1);clear hgrow hown hbel))
   go_roundw
   case rel=>exact ⟨k+1,by omega,by go_num,gen_snoc0 hown1 rfl,hb2⟩
   case measure=>simp [intOf];omega
  ·have e:z=k:=by omega
   subst e
   clear hk hlt
   obtain ⟨g,cap,rfl⟩:∃ g cap,u5=.slice (some ⟨g,0,none⟩) z cap:=by
    rcases hown.2 with ⟨_,e0⟩ | ⟨g,cap,cur,e0,_⟩
    ·omega
    ·exact ⟨g,cap,e0⟩
   have hg:=(hown.lt g rfl).1
   have HO0:Hid (wr.ownsRow w.heap.size 183 1 (.slice (some ⟨g,0,none⟩) z cap) z ((Ls.gen z fun _=>0).map (Value.int .u64))):=hown
   have HB0:Hid (Below w.heap.size w wr):=hbel
   clear hown hbel
   go_wp2_with (go_at_call 150;refine (refWords_any _ _ H.out hl _).mono ?_;rintro e w' ⟨rfl,hww⟩;cases hww.symm;clear hww;rw [EZ.out])
   go_loopw [7] (fun i wr=>∃ k:Nat,k<=l.length/\i=.int .i64 k/\wr.ownsRow w.heap.size 183 1 (.slice (some ⟨g,0,none⟩) z cap) z ((Ls.gen z fun t=>(Pk.acc b l t k:Int)).map (Value.int .u64))/\Below w.heap.size w wr) (fun i _=>l.length - (intOf i).toNat)
   case atStart=>exact ⟨0,Nat.zero_le _,rfl,HO0.out,HB0.out⟩
   case round =>
    clear HO0 HB0
    obtain ⟨k,hk,rfl,hown,hbel⟩:=hrel
    by_cases hlt:k<l.length
    ·have hs:=Pk.shift_le k H.out
     have hts:=Pk.word_size H.out hlt
     have hcd:=HC.out k
     obtain ⟨zi,ezi⟩:∃ zi,k*b=zi:=⟨_,rfl⟩
     have EZI:Hid (k*b=zi):=ezi
     have hzi:(k:Int)*(b:Int)=(zi:Int):=by rw [<-ezi];exact (Int.natCast_mul k b).symm
     have hzib:zi<=256*8:=by rw [<-ezi];exact Nat.mul_le_mul (by omega) hb.2
     obtain ⟨t,et⟩:∃ t,Pk.word b k=t:=⟨_,rfl⟩
     have ET:Hid (Pk.word b k=t):=et
     obtain ⟨s,es⟩:∃ s,Pk.shift b k=s:=⟨_,rfl⟩
     have ES:Hid (Pk.shift b k=s):=es
     rw [et,EZ.out] at hts
     rw [es] at hs
     obtain ⟨C,eC⟩:∃ C,(Ls.nth l k).toNat=C:=⟨_,rfl⟩
     have EC:Hid ((Ls.nth l k).toNat=C):=eC
     have EC2:Hid (Ls.nth l k=(C:Int)):=by show _=_;omega
     have hC:C<18446744073709551616:=by
      have hp:C<2 ^ b:=by rw [<-eC];exact hcd.2
      have hp8:2 ^ b<=2 ^ 8:=Pk.two_le hb.2
      omega
     have HO0:Hid (wr.ownsRow w.heap.size 183 1 (.slice (some ⟨g,0,none⟩) z cap) z ((Ls.gen z fun t=>(Pk.acc b l t k:Int)).map (Value.int .u64))):=hown
     have HB0:Hid (Below w.heap.size w wr):=hbel
     clear hown hbel ezi et es eC hcd
     go_wp2
     go_loopw [8] (fun i wr=>∃ j:Nat,j<=b/\i=.int .i64 j/\wr.ownsRow w.heap.size 183 1 (.slice (some ⟨g,0,none⟩) z cap) z ((Ls.gen z fun t=>(midw b l k j t:Int)).map (Value.int .u64))/\Below w.heap.size w wr) (fun i _=>b - (intOf i).toNat)
     case atStart=>exact ⟨0,Nat.zero_le _,rfl,by simp only [midw_zero];exact HO0.out,HB0.out⟩
     case round =>
      clear HO0 HB0
      obtain ⟨j,hj,rfl,hown,hbel⟩:=hrel
      by_cases hjb:j<b
      ·obtain ⟨b1,o1,rfl,hc1⟩:=(HA.out.keep hbel).get hlt
       have hck1:=hc1 k hlt
       rw [EC2.out] at hck1
       have hb1:b1<w.heap.size:=by
        obtain ⟨b2,o2,e9,hc9⟩:=HA.out.get hlt
        simp at e9
        obtain ⟨rfl,rfl⟩:=e9
        exact World.block_lt_of_cell? w _ (hc9 k hlt)
       have hcg:=hown.cellAt t (by omega)
       rw [gen_at .u64 hts] at hcg
       have hfg:=hown.frozenAt t
       obtain ⟨A,eA⟩:∃ A,midw b l k j t=A:=⟨_,rfl⟩
       have EA:Hid (midw b l k j (Pk.word b k)=A):=by show _=_;rw [ET.out];exact eA
       rw [eA] at hcg
       obtain ⟨B,eB⟩:∃ B,Pk.bit C j=B:=⟨_,rfl⟩
       have EB:Hid (Pk.bit C j=B):=eB
       obtain ⟨P,eP⟩:∃ P,2 ^ (s+j)=P:=⟨_,rfl⟩
       have EP:Hid (2 ^ (s+j)=P):=eP
       obtain ⟨Y,eY⟩:∃ Y,B*P=Y:=⟨_,rfl⟩
       have hst:midw b l k (j+1) (Pk.word b k)=A+Y:=by rw [midw_step,EA.out,EC.out,ES.out,eB,eP,eY]
       have HST:Hid (midw b l k (j+1) t=A+Y):=by rw [ET.out] at hst;exact hst
       have hAY:A+Y<18446744073709551616:=by rw [<-hst];exact midw_lt k (j+1) H.out HC.out (by omega)
       have hBP:(B:Int)*(P:Int)=(Y:Int):=by rw [<-eY];exact (Int.natCast_mul B P).symm
       have e1:((zi:Int)+(j:Int)) / 64=(t:Int):=by
        have:=Pk.at_word (i:=k) H.out hjb
        rw [EZI.out,ET.out] at this
        omega
       obtain ⟨p,ep⟩:∃ p,s+j=p:=⟨_,rfl⟩
       have hp63:p<=63:=by omega
       have EPP:Hid (2 ^ p=P):=by rw [ep] at EP;exact EP
       have e2:((zi:Int)+(j:Int)) % 64=(p:Int):=by
        have:=Pk.at_shift (i:=k) H.out hjb
        rw [EZI.out,ES.out] at this
        omega
       have r1:((zi:Int)+(j:Int)).tdiv 64=(t:Int):=by rw [Int.tdiv_eq_ediv_of_nonneg (by omega)];exact e1
       have r2:((zi:Int)+(j:Int)).tmod 64=(p:Int):=by rw [Int.tmod_eq_emod_of_nonneg (by omega)];exact e2
       have r3:IntKind.i64.wrap (t:Int)=(t:Int):=by rw [IntKind.wrap_i64];omega
       have r4:IntKind.i64.wrap (p:Int)=(p:Int):=by rw [IntKind.wrap_i64];omega
       have HO:Hid (wr.ownsRow w.heap.size 183 1 (.slice (some ⟨g,0,none⟩) z cap) z ((Ls.gen z fun t=>(midw b l k j t:Int)).map (Value.int .u64))):=hown
       have HB:Hid (Below w.heap.size w wr):=hbel
       clear hc1 hown hbel eA eB eP eY hst ep
       have f0:(0:Int)<=(t:Int):=by omega
       have f1:(t:Int)<(z:Int):=by omega
       have f2:(0:Int)<=(k:Int):=by omega
       have f3:(k:Int)<(l.length:Int):=by omega
       have q1:=u64_same (n:=(C:Int)) (by omega) (by omega)
       have q2:IntKind.u64.wrap ((B:Int)*(P:Int))=(Y:Int):=by rw [hBP];exact u64_same (by omega) (by omega)
       have q4:=u64_same (n:=(Y:Int)) (by omega) (by omega)
       have hne:¬ b1=g:=by omega
       have hne2:¬ g=b1:=by omega
       have q3:=u64_same (n:=(A:Int)+(Y:Int)) (by omega) (by omega)
       go_wp2
       go_region_with (first
        | (go_at_call 151;refine (bit_any C j B hC (by omega) EB.out _).mono ?_;rintro e w' ⟨rfl,hww⟩;cases hww.symm;clear hww)
        | (go_at_call 152;refine (power_any p P (by omega) EPP.out _).mono ?_;rintro e w' ⟨rfl,hww⟩;cases hww.symm;clear hww))
       all_goals go_wp2
       all_goals go_roundw
       all_goals first
        | (simp [intOf];omega)
        | (refine ⟨j+1,by omega,by go_num,?_,?_⟩
           ·rw [<-gen_set (F:=midw b l k j) (G:=midw b l k (j+1)) (t:=t) (y:=A+Y) .u64 hts HST.out.symm (fun q hq=>midw_else (by rw [ET.out];exact hq))]
            exact (HO.out.drew.stored t (.int .u64 ((A+Y:Nat):Int))).1
           ·exact HB.out.drew.setCell (by simp;omega) _)
      ·have e:b=j:=by omega
       subst e
       go_wp2
       go_roundw
       case rel=>exact ⟨k+1,by omega,by go_num,by simp only [midw_all HC.out] at hown;exact hown,hbel⟩
       case measure=>simp [intOf];omega
    ·have e:k=l.length:=by omega
     subst e
     go_wp2
     go_ret
     exact ⟨_,rfl,hown,hbel⟩
end Go.Proofs.YtnchnlgnnlgjcaaGreat
namespace Go.Proofs.YtnchnlgnnlgjcaaGreat
namespace Sl
theorem text_append (l m:List Int):strOfNums l ++ strOfNums m=strOfNums (l ++ m):=by
 apply ByteArray.ext
 simp [strOfNums,ByteArray.data_append]
theorem text_at {l:List Int} (hl:Byt l) {i:Nat} (hi:i<l.length):((strOfNums l)[i]'(by rw [strOfNums_size];exact hi)).toNat=(Ls.nth l i).toNat:=by
 have b:=hl i
 rw [Ls.nth_of_lt hi] at b ⊢
 have hi3:i<(l.map fun n=>UInt8.ofNat n.toNat).toArray.size:=by rw [List.size_toArray,List.length_map];exact hi
 show ((l.map fun n=>UInt8.ofNat n.toNat).toArray[i]'hi3).toNat=_
 simp only [List.getElem_toArray,List.getElem_map,UInt8.toNat_ofNat']
 omega
end Sl
end Go.Proofs.YtnchnlgnnlgjcaaGreat
namespace Go.Proofs.YtnchnlgnnlgjcaaGreat
open Go.RowKit
theorem Tryz.infoU8:(Tryz.prog.info? 5).map (fun i=>(i.zero,i.size,i.bytes))=some (some (.int .u8 0),1,1):=by kernel_rfl
theorem Tryz.sizeU8:(Tryz.prog.info? 5).map (·.size)=some 1:=by kernel_rfl
theorem lst_addr {k:IntKind} {w:World} {a:Addr} {l:List Int} (h:Lst k w (some a) l) {j:Nat} (hj:j<l.length):w.cell? (a.add j)=some (.int k (Ls.nth l j)):=by
 obtain ⟨b,o1,e1,hcell⟩:=h j hj
 simp at e1
 subst e1
 rw [Addr.add_lit]
 exact hcell
theorem conv_text {P:Program} (src e dst:TypeId) (hs:P.underlying src=some (.slice e)) (he:P.underlying e=some (.int .u8)) (hd:P.underlying dst=some .string) {w:World} {a:Option Addr} {l:List Int} (hL:Lst .u8 w a l) (hb:Sl.Byt l) (m c:Nat) (hm:m=l.length) :
 (convert src dst (.slice a m c)).run P w=.ok (.string (strOfNums l)) w:=by
 subst hm
 cases a with
 | none =>
   have:=hL.none_nil
   subst this
   exact run_convert_bytes_nil w src e hs he _ c dst hd
 | some a =>
   have h:=run_convert_bytes_back (P:=P) w src dst e a c (l.map fun n=>UInt8.ofNat n.toNat) hs he hd (fun j hj=>by
    simp at hj
    rw [lst_addr hL hj]
    have b:=hb j
    simp only [List.getElem_map,UInt8.toNat_ofNat']
    rw [Ls.nth_of_lt hj] at b ⊢
    congr 2
    omega)
   rw [List.length_map] at h
   exact h
theorem wpList_copy_lst {P:Program} {w:World} {ops:Array Oper} {rest:List Oper} {o:Oper} {a:Act} {Q:Exit->Act->World->Prop} (hgd:o.guard=none) (d s:Operand) (t:TypeId)
 (ho:o.op=.call { callee:=.builtin .copy,args:=#[d,s],argTypes:=#[t,t] }) (k:IntKind) (e:TypeId) (ht:P.underlying t=some (.slice e)) (hsz:(P.info? e).map (·.size)=some 1)
 (g n dc:Nat) (f:Nat->Value) (hrow:w.rowIs g e n f) (hd:a.eval d=.slice (some ⟨g,0,none⟩) n dc)
 (ao:Option Addr) (l:List Int) (c:Nat) (hx:a.eval s=.slice ao l.length c) (hL:Lst k w ao l) (hln:l.length<=n) (B:Nat) (w0:World) (hb:Below B w0 w) (hB:B<=g)
 (h:∀ w',w'.rowIs g e n (fun j=>if j<l.length then .int k (Ls.nth l j) else f j)->Below B w0 w'->wpList P ops Q rest (a.put o.dst (goInt l.length)) w'):wpList P ops Q (o :: rest) a w:=by
 obtain ⟨cur,hg,hn,hc⟩:=hrow
 have hlc:(l.map (Value.int k)).length=l.length:=List.length_map _
 refine wpList_copy_splice hgd d s t t ho e ht hsz (some ⟨g,0,none⟩) ao n dc l.length c hd hx g 0 cur.toList e (by simpa using hg) (l.map (Value.int k)) (by rw [hlc];exact (Nat.min_eq_left hln).symm) ?_ (by rw [hlc];simp;omega) (ints_oneCell k l) B w0 hb hB ?_
 ·intro h0
  rw [hlc] at h0
  obtain ⟨b,o1,e1,_⟩:=hL 0 h0
  refine ⟨rfl,_,e1,?_⟩
  subst e1
  intro j v hv
  have hj:j<l.length:=by
   have:=(List.getElem?_eq_some_iff.1 hv).1
   simpa using this
  rw [lst_addr hL hj]
  simpa [Ls.nth,hj] using hv
 ·intro w' hg' hb'
  rw [hlc]
  refine h w' ⟨_,hg'.out,?_,?_⟩ hb'
  ·rw [List.size_toArray,length_splice _ _ _ (by rw [hlc];simp;omega)]
   simpa using hn
  ·intro i hi
   simp only [splice,List.take_zero,List.nil_append,Nat.zero_add,hlc]
   rw [List.getElem?_toArray,List.getElem?_append]
   rw [hlc]
   by_cases ci:i<l.length
   ·rw [if_pos ci,if_pos ci]
    simp [Ls.nth,ci]
   ·rw [if_neg ci,if_neg ci,List.getElem?_drop,show l.length+(i - l.length)=i by omega]
    simpa using hc i hi
theorem slice_nil {P:Program} (w:World) (t e:TypeId) (a:Option Addr) (l c:Nat) (h:P.underlying t=some (.slice e)):(binOp .eql t (.slice a l c) (.slice none 0 0)).run P w=.ok (.bool a.isNone) w:=by
 simp only [binOp]
 simp [run_equal_slice_nil w t e a l c h]
theorem box_over (w:World) (o:Obj):Below w.heap.size w (w.alloc o):=(Below.refl _ _).alloc (Nat.le_refl _) o
end Go.Proofs.YtnchnlgnnlgjcaaGreat
namespace Go.Proofs.YtnchnlgnnlgjcaaGreat
open Go.RowKit
theorem xor32 {n:Nat} {x:Int} (hn:n<4294967296) (h0:0<=x) (h1:x<256):bits .xor .u32 (n:Int) x=((n ^^^ x.toNat:Nat):Int):=by
 obtain ⟨y,ey⟩:∃ y:Nat,x=y:=⟨x.toNat,by omega⟩
 subst ey
 have e1:(BitVec.ofInt 32 (n:Int)).toNat=n:=by
  rw [BitVec.toNat_ofInt]
  show ((n:Int) % 4294967296).toNat=_
  omega
 have e2:(BitVec.ofInt 32 (y:Int)).toNat=y:=by
  rw [BitVec.toNat_ofInt]
  show ((y:Int) % 4294967296).toNat=_
  omega
 show IntKind.u32.wrap ((BitVec.ofInt 32 (n:Int) ^^^ BitVec.ofInt 32 (y:Int)).toNat:Int)=_
 rw [BitVec.toNat_xor,e1,e2,IntKind.wrap_u32,Int.toNat_natCast]
 have:=Sl.xor_lt (h:=n) (c:=y) hn (by omega)
 omega
theorem xor64 {n:Nat} {x:Int} (hn:n<4294967296) (h0:0<=x) (h1:x<256):bits .xor .u64 (n:Int) x=((n ^^^ x.toNat:Nat):Int):=by
 obtain ⟨y,ey⟩:∃ y:Nat,x=y:=⟨x.toNat,by omega⟩
 subst ey
 have e1:(BitVec.ofInt 64 (n:Int)).toNat=n:=by
  rw [BitVec.toNat_ofInt]
  show ((n:Int) % 18446744073709551616).toNat=_
  omega
 have e2:(BitVec.ofInt 64 (y:Int)).toNat=y:=by
  rw [BitVec.toNat_ofInt]
  show ((y:Int) % 18446744073709551616).toNat=_
  omega
 show IntKind.u64.wrap ((BitVec.ofInt 64 (n:Int) ^^^ BitVec.ofInt 64 (y:Int)).toNat:Int)=_
 rw [BitVec.toNat_xor,e1,e2,IntKind.wrap_u64,Int.toNat_natCast]
 have:=Sl.xor_lt (h:=n) (c:=y) hn (by omega)
 omega
theorem sum_any (a:Option Addr) (m c:Nat) (l:List Int) (h:Nat) (hm:m=l.length) (hl:l.length<=maxLen) (hh:Sl.sum l=h) (w:World) (ha:Lst .u8 w a l) (hb:Sl.Byt l) :
 Calls Tryz.prog 134 #[.slice a m c] w fun e w'=>e=.returned (.int .u32 h)/\w'=w:=by
 unfold maxLen at hl
 subst hm
 have HA:Hid (Lst .u8 w a l):=ha
 have HB:Hid (Sl.Byt l):=hb
 have HH:Hid (Sl.sum l=h):=hh
 clear ha hb hh
 go_enter Tryz.func134,Tryz.ntmps134
 go_wp2
 go_loop [3,8] (fun h i=>∃ k n:Nat,k<=l.length/\i=.int .i64 k/\h=.int .u32 n/\n<4294967296/\Hid (Sl.sumN l k=n)) (fun _ i=>l.length - (intOf i).toNat)
 case atStart=>exact ⟨0,2166136261,Nat.zero_le _,rfl,rfl,by omega,rfl⟩
 case round =>
  obtain ⟨k,n,hk,rfl,rfl,hn,HN⟩:=hrel
  by_cases hlt:k<l.length
  ·obtain ⟨b1,o1,rfl,hc1⟩:=HA.out.get hlt
   have hck1:=hc1 k hlt
   clear hc1
   have hbk:=HB.out k
   go_wp2
   go_round
   case rel =>
    refine ⟨k+1,Sl.sumN l (k+1),by omega,by go_num,?_,Sl.sumN_lt _ _,rfl⟩
    rw [xor32 hn hbk.1 hbk.2,Sl.sumN,HN.out]
    rfl
   case measure=>simp [intOf];omega
  ·have e:k=l.length:=by omega
   subst e
   have HE:Hid (h=n):=by show _=_;rw [<-HH.out,<-HN.out];rfl
   go_wp2
   go_ret
   exact ⟨ret_num (by rw [HE.out]),rfl⟩
theorem refSum_any (s:ByteArray) (l:List Int) (h:Nat) (hs:strOfNums l=s) (hl:l.length<=maxLen) (hh:Sl.sum l=h) (w:World) (hb:Sl.Byt l) :
 Calls Tryz.prog 137 #[.string s] w fun e w'=>e=.returned (.int .u32 h)/\w'=w:=by
 unfold maxLen at hl
 have hz:s.size=l.length:=by rw [<-hs,strOfNums_size]
 have hl2:s.size<=2 ^ 63 - 1:=by omega
 have HZ:Hid (s.size=l.length):=hz
 have HA:Hid (strOfNums l=s):=hs
 have HB:Hid (Sl.Byt l):=hb
 have HH:Hid (Sl.sum l=h):=hh
 clear hs hb hh hz
 go_enter Tryz.func137,Tryz.ntmps137
 go_wp2
 go_loop [3,4] (fun h i=>∃ k n:Nat,k<=s.size/\i=.int .i64 k/\h=.int .u64 n/\n<4294967296/\Hid (Sl.sumN l k=n)) (fun _ i=>s.size - (intOf i).toNat)
 case atStart=>exact ⟨0,2166136261,Nat.zero_le _,rfl,rfl,by omega,rfl⟩
 case round =>
  obtain ⟨k,n,hk,rfl,rfl,hn,HN⟩:=hrel
  by_cases hlt:k<s.size
  ·have hlt2:k<l.length:=by rw [<-HZ.out];exact hlt
   have hbk:=HB.out k
   obtain ⟨y,ey⟩:∃ y:Nat,s[k].toNat=y:=⟨_,rfl⟩
   have EY:Hid ((Ls.nth l k).toNat=y):=by
    show _=_
    rw [<-ey,<-Sl.text_at HB.out hlt2]
    have:=HA.out
    subst this
    rfl
   have hy:y<256:=by have:=EY.out;omega
   obtain ⟨p,ep⟩:∃ p:Nat,n ^^^ y=p:=⟨_,rfl⟩
   have hp:p<4294967296:=by rw [<-ep];exact Sl.xor_lt hn (by omega)
   have hx:bits .xor .u64 (n:Int) (y:Int)=(p:Int):=by
    rw [xor64 hn (by omega) (by omega),Int.toNat_natCast,ep]
   have EP:Hid (n ^^^ y=p):=ep
   clear ep
   go_wp2
   go_round
   case rel =>
    refine ⟨k+1,Sl.sumN l (k+1),by omega,by go_num,?_,Sl.sumN_lt _ _,rfl⟩
    rw [Sl.sumN,HN.out,EY.out,Sl.step,EP.out]
    rfl
   case measure=>simp [intOf];omega
  ·have e:k=l.length:=by rw [<-HZ.out];omega
   have HE:Hid (h=n):=by show _=_;rw [<-HH.out,<-HN.out,e];rfl
   clear e
   go_wp2
   go_ret
   exact ⟨ret_num (by rw [HE.out]),rfl⟩
def Sl.wid (n:Int):Nat:=if n<0 then 0 else if 8<n then 8 else n.toNat
theorem Sl.wid_le (n:Int):Sl.wid n<=8:=by unfold Sl.wid;split <;> (try split) <;> omega
theorem width_any (n:Int) (k:Nat) (hk:Sl.wid n=k) (w:World) :
 Calls Tryz.prog 149 #[.int .i64 n] w fun e w'=>e=.returned (.int .i64 k)/\w'=w:=by
 unfold Sl.wid at hk
 by_cases c0:n<0
 ·rw [if_pos c0] at hk
  subst hk
  have e1:(if n<0 then 0 else n)=0:=if_pos c0
  go_enter Tryz.func149,Tryz.ntmps149
  go_wp2
  go_ret
  exact ⟨rfl,rfl⟩
 ·rw [if_neg c0] at hk
  by_cases c1:8<n
  ·rw [if_pos c1] at hk
   subst hk
   go_enter Tryz.func149,Tryz.ntmps149
   go_wp2
   go_ret
   exact ⟨rfl,rfl⟩
  ·rw [if_neg c1] at hk
   obtain rfl:n=(k:Int):=by omega
   clear hk
   go_enter Tryz.func149,Tryz.ntmps149
   go_wp2
   go_ret
   exact ⟨rfl,rfl⟩
end Go.Proofs.YtnchnlgnnlgjcaaGreat
namespace Go.Proofs.YtnchnlgnnlgjcaaGreat
open Go.RowKit
theorem ret_str {a b:ByteArray} (h:a=b):Ending.returned (.string a)=.returned (.string b):=by rw [h]
theorem Sl.be_succ (k v:Nat):Sl.be (k+1) v=((v / 256 ^ k % 256:Nat):Int) :: Sl.be k v:=by
 apply Ls.ext_nth (by rw [Sl.be_length,List.length_cons,Sl.be_length])
 intro i hi
 rw [Sl.be_length] at hi
 rw [Sl.nth_be hi]
 cases i with
 | zero=>simp [Ls.nth]
 | succ i =>
   show _=Ls.nth (Sl.be k v) i
   rw [Sl.nth_be (by omega),show k+1 - 1 - (i+1)=k - 1 - i by omega]
theorem Sl.byt_one {x:Int} (h0:0<=x) (h1:x<256):Sl.Byt [x]:=by
 apply Sl.byt_mk
 intro i hi
 simp at hi
 subst hi
 simp [Ls.nth]
 omega
theorem refBytes_any (v k:Nat) (s:ByteArray) (hk:k<=8) (hv:v<18446744073709551616) (hs:strOfNums (Sl.be k v)=s) (w:World) :
 Calls Tryz.prog 118 #[.int .u64 v,.int .i64 k] w fun e w'=>e=.returned (.string s)/\Below w.heap.size w w':=by
 have HS:Hid (strOfNums (Sl.be k v)=s):=hs
 clear hs
 go_enter Tryz.func118,Tryz.ntmps118
 go_wp2
 go_loopw [0,5,6] (fun x o i wr=>∃ (t y:Nat) (z:ByteArray),t<=k/\i=.int .i64 t/\x=.int .u64 y/\y<18446744073709551616/\o=.string z/\z.size<=8/\Hid (v / 256 ^ t=y)/\Hid (strOfNums (Sl.be t v)=z)/\Below w.heap.size w wr) (fun _ _ i _=>k - (intOf i).toNat)
 case atStart=>exact ⟨0,v,ByteArray.empty,Nat.zero_le _,rfl,rfl,hv,rfl,by decide,(by show _=_;rw [Nat.pow_zero,Nat.div_one]),rfl,Below.refl _ _⟩
 case round =>
  obtain ⟨t,y,z,ht,rfl,rfl,hy,rfl,hz,HY,HZ,hbel⟩:=hrel
  by_cases hlt:t<k
  ·have hsz:=hbel.size
   obtain ⟨q,eq⟩:∃ q:Nat,y % 256=q:=⟨_,rfl⟩
   have hq:q<256:=by omega
   have hqi:(y:Int) % 256=(q:Int):=by omega
   obtain ⟨s1,es1⟩:∃ s1,strOfNums [(q:Int)]=s1:=⟨_,rfl⟩
   have hs1:s1.size=1:=by rw [<-es1,strOfNums_size];rfl
   have hcv:(convert 142 9 (.slice (some ⟨wr.heap.size,0,none⟩) 1 1)).run Tryz.prog (wr.alloc (.cells #[.int .u8 (q:Int)] 5))=.ok (.string s1) (wr.alloc (.cells #[.int .u8 (q:Int)] 5)):=by
    rw [<-es1]
    exact conv_text _ _ _ Tryz.underlying142 Tryz.underlying5 Tryz.underlying9 (lst_new wr [(q:Int)]) (Sl.byt_one (by omega) (by omega)) 1 1 rfl
   have ES1:Hid (strOfNums [(q:Int)]=s1):=es1
   have EQ:Hid (y % 256=q):=eq
   clear es1 eq
   go_wp2
   go_roundw
   case rel =>
    have hnew:strOfNums (Sl.be (t+1) v)=s1 ++ z:=by
     rw [Sl.be_succ,HY.out,EQ.out,<-ES1.out,<-HZ.out,Sl.text_append]
     rfl
    refine ⟨t+1,y / 256,s1 ++ z,by omega,by go_num,by go_num,by omega,rfl,?_,?_,hnew,hbel.alloc hsz _⟩
    ·rw [<-hnew,strOfNums_size,Sl.be_length];omega
    ·show _=_
     rw [Nat.pow_succ,<-Nat.div_div_eq_div_mul,HY.out]
   case measure=>simp [intOf];omega
  ·have e:t=k:=by omega
   subst e
   have HE:Hid (z=s):=by show _=_;rw [<-HZ.out,HS.out]
   go_wp2
   go_ret
   exact ⟨ret_str HE.out,hbel⟩
theorem refWord_any (x:Int) (v:Nat) (s:ByteArray) (h0:-2147483648<=x) (h1:x<=2147483647) (hv:x+4294967296=v) (hs:strOfNums (Sl.be 4 v)=s) (w:World) :
 Calls Tryz.prog 135 #[.int .i32 x] w fun e w'=>e=.returned (.string s)/\Below w.heap.size w w':=by
 have HS:Hid (strOfNums (Sl.be 4 v)=s):=hs
 have hv2:(v:Int)<18446744073709551616:=by omega
 clear hs
 go_enter Tryz.func135,Tryz.ntmps135
 go_wp2_with (go_at_call 118;refine (refBytes_any v 4 s (by omega) (by omega) HS.out _).mono ?_;rintro e w' ⟨rfl,hww⟩;have B1:Hid (Below w.heap.size w w'):=hww;clear hww)
 go_ret
 exact ⟨rfl,B1.out⟩
theorem refClose_any (s:ByteArray) (l:List Int) (s2:ByteArray) (hs:strOfNums l=s) (hl:l.length<=10000) (hb:Sl.Byt l) (hs2:strOfNums (Sl.close l)=s2) (w:World) :
 Calls Tryz.prog 120 #[.string s] w fun e w'=>e=.returned (.string s2)/\Below w.heap.size w w':=by
 obtain ⟨h,eh⟩:∃ h,Sl.sum l=h:=⟨_,rfl⟩
 have hh:h<4294967296:=by rw [<-eh];exact Sl.sum_lt l
 obtain ⟨s4,e4⟩:∃ s4,strOfNums (Sl.be 4 h)=s4:=⟨_,rfl⟩
 have z4:s4.size=4:=by rw [<-e4,strOfNums_size,Sl.be_length]
 have z0:s.size<=10000:=by rw [<-hs,strOfNums_size];exact hl
 have HE:Hid (s ++ s4=s2):=by show _=_;rw [<-hs2,<-hs,<-e4,<-eh];exact Sl.text_append _ _
 have HS:Hid (strOfNums l=s):=hs
 have HB:Hid (Sl.Byt l):=hb
 have EH:Hid (Sl.sum l=h):=eh
 have E4:Hid (strOfNums (Sl.be 4 h)=s4):=e4
 clear hs hb eh e4 hs2
 go_enter Tryz.func120,Tryz.ntmps120
 go_wp2_with (first
  | (go_at_call 137;refine (refSum_any s l h HS.out (by unfold maxLen;omega) EH.out _ HB.out).mono ?_;rintro e w' ⟨rfl,hww⟩;cases hww.symm;clear hww)
  | (go_at_call 118;refine (refBytes_any h 4 s4 (by omega) (by omega) E4.out _).mono ?_;rintro e w' ⟨rfl,hww⟩;have B1:Hid (Below w.heap.size w w'):=hww;clear hww))
 go_ret
 exact ⟨ret_str HE.out,B1.out⟩
theorem Sl.close_byt {l:List Int} (h:Sl.Byt l):Sl.Byt (Sl.close l):=by
 apply Sl.byt_mk
 intro i hi
 unfold Sl.close
 by_cases c:i<l.length
 ·rw [Ls.nth_append_left c];exact h i
 ·have:Ls.nth (l ++ Sl.be 4 (Sl.sum l)) i=Ls.nth (Sl.be 4 (Sl.sum l)) (i - l.length):=by
   unfold Ls.nth
   simp [List.getElem?_append_right (show l.length<=i by omega)]
  rw [this]
  exact Sl.be_byt _ _ _
end Go.Proofs.YtnchnlgnnlgjcaaGreat
namespace Go.Proofs.YtnchnlgnnlgjcaaGreat
open Go.RowKit
attribute [local go_sem ↓] Go.wp_at_zero Go.wp_at_succ
theorem text_size (l:List Int):(strOfNums l).size=l.length:=strOfNums_size l
set_option maxRecDepth 100000 in
set_option maxHeartbeats 1600000 in
theorem refGroup_any (z:Int) (sc:Nat) (a:Option Addr) (cp b:Nat) (c:List Int) (s:ByteArray) (w:World) (ha:Lst .i64 w a c) (hb:Pk.Ok b) (h0:0<c.length) (hl:c.length<=256) (hf:Pg.Fits b c.length (z,(sc:Int),c)) (hs:strOfNums (Pg.gb b (z,(sc:Int),c))=s) :
 Calls Tryz.prog 119 #[.agg #[.int .i32 z,.int .u32 sc,.slice a c.length cp],.int .i64 b] w fun e w'=>e=.returned (.string s)/\Below w.heap.size w w':=by
 obtain ⟨_,hcd,z0,z1,_,s1⟩:=hf
 have z0':-2147483648<=z:=z0
 have z1':z<=2147483647:=z1
 have s1':(sc:Int)<=4294967295:=s1
 clear z0 z1 s1
 obtain ⟨v,hv⟩:=Int.eq_ofNat_of_zero_le (show 0<=z+4294967296 by omega)
 obtain ⟨t1,et1⟩:∃ t,strOfNums (Sl.be 4 v)=t:=⟨_,rfl⟩
 obtain ⟨t2,et2⟩:∃ t,strOfNums (Sl.be 4 sc)=t:=⟨_,rfl⟩
 have n1:t1.size=4:=by rw [<-et1,text_size,Sl.be_length]
 have n2:t2.size=4:=by rw [<-et2,text_size,Sl.be_length]
 obtain ⟨N,eN⟩:∃ N,Pk.size b c.length=N:=⟨_,rfl⟩
 have hN:N<=32:=by rw [<-eN];exact Pk.size_le hb hl
 have HS:Hid (strOfNums (Pg.gb b (z,(sc:Int),c))=s):=hs
 have HV:Hid (z+4294967296=(v:Int)):=hv
 have ET1:Hid (strOfNums (Sl.be 4 v)=t1):=et1
 have ET2:Hid (strOfNums (Sl.be 4 sc)=t2):=et2
 have EN:Hid (Pk.size b c.length=N):=eN
 have HA:Hid (Lst .i64 w a c):=ha
 have HB:Hid (Pk.Ok b):=hb
 have HC:Hid (Pk.Cds b c):=hcd
 have e12:Hid (strOfNums (Pg.word4 z ++ Sl.be 4 sc)=t1 ++ t2):=by
  show _=_
  rw [<-Sl.text_append,<-et1,<-et2]
  unfold Pg.word4
  rw [show (z+4294967296).toNat=v by omega]
 clear hs hv et1 et2 eN ha hb hcd
 have KS:Hid (∀ w',Below (w.alloc (.cells #[.int .i32 z,.int .u32 sc,.slice a c.length cp] 170)).heap.size (w.alloc (.cells #[.int .i32 z,.int .u32 sc,.slice a c.length cp] 170)) w'->w'.cell? ⟨w.heap.size,0,none⟩=some (.int .i32 z)/\w'.cell? ⟨w.heap.size,1,none⟩=some (.int .u32 sc)/\w'.cell? ⟨w.heap.size,2,none⟩=some (.slice a c.length cp)/\Hid (Below (w.alloc (.cells #[.int .i32 z,.int .u32 sc,.slice a c.length cp] 170)).heap.size (w.alloc (.cells #[.int .i32 z,.int .u32 sc,.slice a c.length cp] 170)) w')):=fun w' hb=>by
  refine ⟨?_,?_,?_,hb⟩
  ·rw [hb.cell (p:=⟨w.heap.size,0,none⟩) (by simp)];exact cell_of_row _ _ _ _ _ _ (heap_alloc_new w _)
  ·rw [hb.cell (p:=⟨w.heap.size,1,none⟩) (by simp)];exact cell_of_row _ _ _ _ _ _ (heap_alloc_new w _)
  ·rw [hb.cell (p:=⟨w.heap.size,2,none⟩) (by simp)];exact cell_of_row _ _ _ _ _ _ (heap_alloc_new w _)
 have qs:IntKind.u64.wrap (sc:Int)=(sc:Int):=u64_same (by omega) (by omega)
 go_enter Tryz.func119,Tryz.ntmps119
 go_wp2_with fail
 obtain ⟨u,hu⟩:∃ u,w.alloc (.cells #[.int .i32 z,.int .u32 sc,.slice a c.length cp] 170)=u:=⟨_,rfl⟩
 have BU:Hid (Below w.heap.size w u):=by rw [<-hu];exact box_below _ _
 rw [hu] at KS
 rw [hu]
 clear hu
 go_region_held3 (fun w'=>w'.cell? ⟨w.heap.size,0,none⟩=some (.int .i32 z)/\w'.cell? ⟨w.heap.size,1,none⟩=some (.int .u32 sc)/\w'.cell? ⟨w.heap.size,2,none⟩=some (.slice a c.length cp)/\Hid (Below u.heap.size u w'))
  (first
    | exact KS.out _ ((Below.refl u.heap.size u).drew)
    | exact KS.out _ hbc.out
    | assumption)
  (first
    | (go_at_call 135;refine (refWord_any _ v t1 z0' z1' HV.out ET1.out _).mono ?_;rintro e v1 ⟨rfl,hb⟩;have hbc:Hid (Below u.heap.size u v1):=((Below.refl u.heap.size u).drew).trans hb;clear hb)
    | (go_at_call 118;refine (refBytes_any sc 4 t2 (by omega) (by omega) ET2.out _).mono ?_;rintro e v2 ⟨rfl,hb⟩;have hbc:Hid (Below u.heap.size u v2):=below_then hbc.out hb;clear hb))
 obtain ⟨d0,d1,d2,_⟩:=KS.out _ hbc.out
 have BV:Hid (Below w.heap.size w v2):=below_then BU.out hbc.out
 clear d0 d1
 go_wp2_with fail
 clear d2
 refine (refPack_any _ _ b c HB.out h0 hl _ (HA.out.keep BV.out) HC.out).mono ?_
 rintro e u3 ⟨vw,rfl,hown,hb3⟩
 have B3:Hid (Below w.heap.size w u3):=below_then BV.out hb3
 obtain ⟨ws,ews⟩:∃ ws,Pk.pack b c=ws:=⟨_,rfl⟩
 have EW:Hid (Pk.pack b c=ws):=ews
 have WL:Hid (ws.length=N):=by show _=_;rw [<-ews,Pk.pack_length,EN.out]
 have WD:Hid (Pk.Wds ws):=by rw [<-ews];exact Pk.pack_wds HB.out HC.out
 rw [ews,EN.out] at hown
 obtain ⟨aw,cw,rfl,hLw⟩:=lst_of_ownm hown WL.out.symm
 have LW:Hid (Lst .u64 u3 aw ws):=hLw
 clear hb3 hown hLw ews BV BU hbc KS
 have m12:(t1 ++ t2).size=8:=by rw [ByteArray.size_append,n1,n2]
 obtain ⟨t0,et0⟩:∃ t,t1 ++ t2=t:=⟨_,rfl⟩
 rw [et0] at m12
 have E0:Hid (strOfNums (Pg.word4 z ++ (Sl.be 4 sc ++ Pg.wbN ws 0))=t0):=by
  show _=_
  rw [show Pg.wbN ws 0=[] from rfl,List.append_nil,<-et0]
  exact e12.out
 rw [et0]
 clear et0 e12
 go_wp2
 go_loopw [5,7] (fun o i wr=>∃ (k:Nat) (tx:ByteArray),k<=N/\i=.int .i64 k/\o=.string tx/\tx.size<=8+8*k/\Hid (strOfNums (Pg.word4 z ++ (Sl.be 4 sc ++ Pg.wbN ws k))=tx)/\Below u3.heap.size u3 wr) (fun _ i _=>N - (intOf i).toNat)
 case atStart=>exact ⟨0,t0,Nat.zero_le _,rfl,rfl,by omega,E0.out,Below.refl _ _⟩
 case round =>
  obtain ⟨k,tx,hk,rfl,rfl,hsz,hx,hbel⟩:=hrel
  have HX:Hid (strOfNums (Pg.word4 z ++ (Sl.be 4 sc ++ Pg.wbN ws k))=tx):=hx.out
  have HW:Hid (Below u3.heap.size u3 wr):=hbel
  clear hx hbel
  by_cases hlt:k<N
  ·obtain ⟨b1,o1,rfl,hc1⟩:=(LW.out.keep HW.out).get (show k<ws.length by rw [WL.out];exact hlt)
   have hck:=hc1 k (by rw [WL.out];exact hlt)
   obtain ⟨x,ex⟩:=Int.eq_ofNat_of_zero_le (WD.out k).1
   have hx64:=(WD.out k).2
   rw [ex] at hck hx64
   obtain ⟨t8,et8⟩:∃ t,strOfNums (Sl.be 8 x)=t:=⟨_,rfl⟩
   have n8:t8.size=8:=by rw [<-et8,text_size,Sl.be_length]
   have ET8:Hid (strOfNums (Sl.be 8 x)=t8):=et8
   have EX:Hid (Ls.nth ws k=(x:Int)):=ex
   clear hc1 ex et8
   go_wp2_with (go_at_call 118;refine (refBytes_any x 8 t8 (by omega) (by omega) ET8.out _).mono ?_;rintro e v4 ⟨rfl,hb⟩;have B4:Hid (Below u3.heap.size u3 v4):=below_then HW.out hb;clear hb)
   go_roundw
   case rel =>
    refine ⟨k+1,tx ++ t8,by omega,by go_num,rfl,by rw [ByteArray.size_append];omega,?_,B4.out⟩
    show strOfNums (Pg.word4 z ++ (Sl.be 4 sc ++ Pg.wbN ws (k+1)))=tx ++ t8
    rw [<-HX.out,<-ET8.out,Sl.text_append]
    simp only [Pg.wbN]
    rw [EX.out,Int.toNat_natCast,List.append_assoc,List.append_assoc]
   case measure=>simp [intOf];omega
  ·have e:k=N:=by omega
   subst e
   go_wp2
   go_ret
   refine ⟨ret_str ?_,below_then B3.out HW.out⟩
   rw [<-HS.out,<-HX.out]
   show strOfNums (Pg.word4 z ++ (Sl.be 4 sc ++ Pg.wbN ws k))=strOfNums (Pg.word4 z ++ (Sl.be 4 ((sc:Int)).toNat ++ Pg.wbN (Pk.pack b c) (Pk.size b c.length)))
   rw [Int.toNat_natCast,EW.out,EN.out]
theorem refGroup_anyb (z:Int) (sc:Nat) (a:Option Addr) (cp:Nat) (h:Int) (b:Nat) (c:List Int) (s:ByteArray) (w:World) (eh:h=(b:Int)) (ha:Lst .i64 w a c) (hb:Pk.Ok b) (h0:0<c.length) (hl:c.length<=256) (hf:Pg.Fits b c.length (z,(sc:Int),c)) (hs:strOfNums (Pg.gb b (z,(sc:Int),c))=s) :
 Calls Tryz.prog 119 #[.agg #[.int .i32 z,.int .u32 sc,.slice a c.length cp],.int .i64 h] w fun e w'=>e=.returned (.string s)/\Below w.heap.size w w':=by
 subst eh
 exact refGroup_any z sc a cp b c s w ha hb h0 hl hf hs
theorem Pg.be_one {x:Nat} (h:x<256):Sl.be 1 x=[(x:Int)]:=by
 unfold Sl.be
 show [((x / 256 ^ (1 - 1 - 0) % 256:Nat):Int)]=_
 rw [show x / 256 ^ (1 - 1 - 0) % 256=x by simp;omega]
set_option maxRecDepth 100000 in
set_option maxHeartbeats 3200000 in
theorem refBytesP_any (h0 h1 h2 h3 h4 h5 h6:Int) (a1 a2:Option Addr) (c1 c2:Nat) (ks vs:List (Int × Int × List Int)) (s:ByteArray) (w:World) (ha:Gps w a1 ks) (hb:Gps w a2 vs) (hp:Pg.Page [h0,h1,h2,h3,h4,h5,h6] ks vs) (hs:strOfNums (Pg.bytes [h0,h1,h2,h3,h4,h5,h6] ks vs)=s) :
 Calls Tryz.prog 92 #[.agg #[.int .i64 h0,.int .i64 h1,.int .i64 h2,.int .i64 h3,.int .i64 h4,.int .i64 h5,.int .i64 h6,.slice a1 ks.length c1,.slice a2 vs.length c2]] w fun r w'=>r=.returned (.string s)/\Below w.heap.size w w':=by
 have hpl:=Pg.body_length hp
 have hpb:=Pg.body_byt hp
 have hps:=Pg.psize_le hp.2.1
 obtain ⟨_,hr,lk,lv,fk,fv,_,_⟩:=hp
 obtain ⟨qa,qb,qc,qd,qe,qf,qg,qh,qi,qj,qk,ql⟩:=Pg.rightH_all hr
 obtain ⟨B0,eB0⟩:∃ B,Pg.kb [h0,h1,h2,h3,h4,h5,h6]=B:=⟨_,rfl⟩
 obtain ⟨B1,eB1⟩:∃ B,Pg.vb [h0,h1,h2,h3,h4,h5,h6]=B:=⟨_,rfl⟩
 obtain ⟨n0,en0⟩:∃ n,Pg.tk [h0,h1,h2,h3,h4,h5,h6]=n:=⟨_,rfl⟩
 obtain ⟨d0,ed0⟩:∃ n,Pg.dm [h0,h1,h2,h3,h4,h5,h6]=n:=⟨_,rfl⟩
 have hn0:h2=(n0:Int):=by have:(Ls.nth [h0,h1,h2,h3,h4,h5,h6] 2).toNat=n0:=en0;have q:1<=h2:=qc;have:h2.toNat=n0:=en0;omega
 have hd0:h3=(d0:Int):=by have q:1<=h3:=qe;have:h3.toNat=d0:=ed0;omega
 have hB0:h0=(B0:Int):=by have q:h0=2\/h0=4\/h0=8:=qa;have:h0.toNat=B0:=eB0;omega
 have hB1:h1=(B1:Int):=by have q:h1=2\/h1=4\/h1=8:=qb;have:h1.toNat=B1:=eB1;omega
 have bn1:1<=n0:=by have q:1<=h2:=qc;omega
 have bn2:n0<=16:=by have q:h2<=16:=qd;omega
 have bd1:1<=d0:=by have q:1<=h3:=qe;omega
 have bd2:d0<=16:=by have q:h3<=16:=qf;omega
 have b0:B0=2\/B0=4\/B0=8:=by have q:h0=2\/h0=4\/h0=8:=qa;omega
 have b1':B1=2\/B1=4\/B1=8:=by have q:h1=2\/h1=4\/h1=8:=qb;omega
 have hall:∀ i,i<7->0<=Ls.nth [h0,h1,h2,h3,h4,h5,h6] i/\Ls.nth [h0,h1,h2,h3,h4,h5,h6] i<=1023:=fun i hi=>by
  match i,hi with
  | 0,_=>show 0<=h0/\h0<=1023;have q:h0=2\/h0=4\/h0=8:=qa;omega
  | 1,_=>show 0<=h1/\h1<=1023;have q:h1=2\/h1=4\/h1=8:=qb;omega
  | 2,_=>show 0<=h2/\h2<=1023;have q:1<=h2:=qc;have q':h2<=16:=qd;omega
  | 3,_=>show 0<=h3/\h3<=1023;have q:1<=h3:=qe;have q':h3<=16:=qf;omega
  | 4,_=>show 0<=h4/\h4<=1023;have q:0<=h4:=qg;have q':h4<=3:=qh;omega
  | 5,_=>show 0<=h5/\h5<=1023;have q:0<=h5:=qi;have q':h5<=3:=qj;omega
  | 6,_=>show 0<=h6/\h6<=1023;have q:0<=h6:=qk;have q':h6<=1023:=ql;omega
 have hsml:∀ i,i<6->Ls.nth [h0,h1,h2,h3,h4,h5,h6] i<256:=fun i hi=>by
  match i,hi with
  | 0,_=>show h0<256;omega
  | 1,_=>show h1<256;omega
  | 2,_=>show h2<256;omega
  | 3,_=>show h3<256;omega
  | 4,_=>show h4<256;have q':h4<=3:=qh;omega
  | 5,_=>show h5<256;have q':h5<=3:=qj;omega
 rw [eB0,en0] at fk
 rw [eB1,ed0] at fv
 have q60:0<=h6:=qk
 have q61:h6<=1023:=ql
 have HA:Hid (Gps w a1 ks):=ha
 have HB:Hid (Gps w a2 vs):=hb
 have FK:Hid (Pg.AllFit B0 n0 ks):=fk
 have FV:Hid (Pg.AllFit B1 d0 vs):=fv
 have OK0:Hid (Pk.Ok B0):=b0
 have OK1:Hid (Pk.Ok B1):=b1'
 have EH0:Hid (h0=(B0:Int)):=hB0
 have EH1:Hid (h1=(B1:Int)):=hB1
 have LK:Hid (ks.length=d0):=by rw [<-ed0];exact lk
 have LV:Hid (vs.length=n0):=by rw [<-en0];exact lv
 have lk16:ks.length<=16:=by rw [LK.out];exact bd2
 have lv16:vs.length<=16:=by rw [LV.out];exact bn2
 have HALL:Hid (∀ i,i<7->0<=Ls.nth [h0,h1,h2,h3,h4,h5,h6] i/\Ls.nth [h0,h1,h2,h3,h4,h5,h6] i<=1023):=hall
 have HSML:Hid (∀ i,i<6->Ls.nth [h0,h1,h2,h3,h4,h5,h6] i<256):=hsml
 have HPB:Hid (Sl.Byt (Pg.body [h0,h1,h2,h3,h4,h5,h6] ks vs)):=hpb
 have HPL:Hid ((Pg.body [h0,h1,h2,h3,h4,h5,h6] ks vs).length<=10000):=by show (Pg.body [h0,h1,h2,h3,h4,h5,h6] ks vs).length<=10000;omega
 have HS:Hid (strOfNums (Pg.bytes [h0,h1,h2,h3,h4,h5,h6] ks vs)=s):=hs
 have HBD:Hid (Pg.body [h0,h1,h2,h3,h4,h5,h6] ks vs=Pg.hbytes [h0,h1,h2,h3,h4,h5,h6] ++ (Pg.gbN B0 ks ks.length ++ Pg.gbN B1 vs vs.length)):=by
  show _=_
  unfold Pg.body Pg.gbs
  rw [eB0,eB1]
 clear hpl hpb hps hr lk lv fk fv qa qb qc qd qe qf qg qh qi qj qk ql eB0 eB1 en0 ed0 hn0 hd0 hB0 hB1 ha hb hs hall hsml
 go_enter Tryz.func92,Tryz.ntmps92
 go_wp2
 obtain ⟨u,hu⟩:∃ u,w.alloc (.cells #[.int .i64 h0,.int .i64 h1,.int .i64 h2,.int .i64 h3,.int .i64 h4,.int .i64 h5,.int .i64 h6,.slice a1 ks.length c1,.slice a2 vs.length c2] 139)=u:=⟨_,rfl⟩
 have BU:Hid (Below w.heap.size w u):=by rw [<-hu];exact box_below _ _
 have CB:Hid (∀ i x,(#[.int .i64 h0,.int .i64 h1,.int .i64 h2,.int .i64 h3,.int .i64 h4,.int .i64 h5,.int .i64 h6,.slice a1 ks.length c1,.slice a2 vs.length c2]:Array Value)[i]?=some x->u.cell? ⟨w.heap.size,i,none⟩=some x):=fun i x hx=>by
  rw [<-hu,cell_of_row _ _ _ _ _ _ (heap_alloc_new w _)];exact hx
 have CH:Hid (∀ i,i<7->u.cell? ⟨w.heap.size,i,none⟩=some (.int .i64 (Ls.nth [h0,h1,h2,h3,h4,h5,h6] i))):=fun i hi=>by
  match i,hi with
  | 0,_=>exact CB.out 0 _ rfl
  | 1,_=>exact CB.out 1 _ rfl
  | 2,_=>exact CB.out 2 _ rfl
  | 3,_=>exact CB.out 3 _ rfl
  | 4,_=>exact CB.out 4 _ rfl
  | 5,_=>exact CB.out 5 _ rfl
  | 6,_=>exact CB.out 6 _ rfl
 rw [hu]
 clear hu
 go_loopw [3,4] (fun o i wr=>∃ (k:Nat) (tx:ByteArray),k<=6/\i=.int .i64 k/\o=.string tx/\tx.size<=7/\Hid (strOfNums (75 :: Ls.gen k fun j=>Ls.nth [h0,h1,h2,h3,h4,h5,h6] j)=tx)/\Below u.heap.size u wr) (fun _ i _=>6 - (intOf i).toNat)
 case atStart=>exact ⟨0,strOfNums [75],by omega,rfl,rfl,by decide,rfl,Below.refl _ _⟩
 case round =>
  obtain ⟨k,tx,hk,rfl,rfl,hsz,hx,hbel⟩:=hrel
  have HX:Hid (strOfNums (75 :: Ls.gen k fun j=>Ls.nth [h0,h1,h2,h3,h4,h5,h6] j)=tx):=hx.out
  have HW:Hid (Below u.heap.size u wr):=hbel
  have hs1:tx.size=1+k:=by rw [<-HX.out,text_size,List.length_cons,Ls.gen_length];omega
  clear hx hbel
  by_cases hlt:k<6
  ·have hck:wr.cell? ⟨w.heap.size,k,none⟩=some (.int .i64 (Ls.nth [h0,h1,h2,h3,h4,h5,h6] k)):=by rw [HW.out.cell (p:=⟨w.heap.size,k,none⟩) (World.block_lt_of_cell? u _ (CH.out k (by omega)))];exact CH.out k (by omega)
   have q1:=HALL.out k (by omega)
   have q2:=HSML.out k hlt
   obtain ⟨x,ex⟩:=Int.eq_ofNat_of_zero_le q1.1
   rw [ex] at hck q1 q2
   obtain ⟨t8,et8⟩:∃ t,strOfNums (Sl.be 1 x)=t:=⟨_,rfl⟩
   have n8:t8.size=1:=by rw [<-et8,text_size,Sl.be_length]
   have ET8:Hid (strOfNums (Sl.be 1 x)=t8):=et8
   have EX:Hid (Ls.nth [h0,h1,h2,h3,h4,h5,h6] k=(x:Int)):=ex
   clear ex et8
   go_wp2_with (go_at_call 118;refine (refBytes_any x 1 t8 (by omega) (by omega) ET8.out _).mono ?_;rintro e v4 ⟨rfl,hb⟩;have B4:Hid (Below u.heap.size u v4):=below_then HW.out hb;clear hb)
   go_roundw
   case rel =>
    refine ⟨k+1,tx ++ t8,by omega,by go_num,rfl,by rw [ByteArray.size_append];omega,?_,B4.out⟩
    show strOfNums (75 :: Ls.gen (k+1) fun j=>Ls.nth [h0,h1,h2,h3,h4,h5,h6] j)=tx ++ t8
    rw [<-HX.out,<-ET8.out,Sl.text_append,Pg.be_one (by omega),Ls.gen_succ,EX.out]
    rfl
   case measure=>simp [intOf];omega
  ·have e:k=6:=by omega
   subst e
   have hck:wr.cell? ⟨w.heap.size,6,none⟩=some (.int .i64 h6):=by rw [HW.out.cell (p:=⟨w.heap.size,6,none⟩) (World.block_lt_of_cell? u _ (CH.out 6 (by omega)))];exact CH.out 6 (by omega)
   obtain ⟨x,ex⟩:=Int.eq_ofNat_of_zero_le q60
   rw [ex] at hck
   obtain ⟨t8,et8⟩:∃ t,strOfNums (Sl.be 2 x)=t:=⟨_,rfl⟩
   have n8:t8.size=2:=by rw [<-et8,text_size,Sl.be_length]
   have ET8:Hid (strOfNums (Sl.be 2 x)=t8):=et8
   have hx1:x<=1023:=by omega
   have HT:Hid (strOfNums (Pg.hbytes [h0,h1,h2,h3,h4,h5,h6] ++ Pg.gbN B0 ks 0)=tx ++ t8):=by
    show _=_
    rw [show Pg.gbN B0 ks 0=[] from rfl,List.append_nil,<-HX.out,<-ET8.out,Sl.text_append]
    unfold Pg.hbytes
    show strOfNums ([75,h0,h1,h2,h3,h4,h5] ++ Sl.be 2 h6.toNat)=_
    rw [ex,Int.toNat_natCast]
    rfl
   clear ex et8
   go_wp2_with fail
   refine (refBytes_any x 2 t8 (by omega) (by omega) ET8.out _).mono ?_
   rintro e v4 ⟨rfl,hb⟩
   have B4:Hid (Below u.heap.size u v4):=below_then HW.out hb
   obtain ⟨ty,ety⟩:∃ t,tx ++ t8=t:=⟨_,rfl⟩
   rw [ety] at HT
   have hty:ty.size<=10000:=by rw [<-ety,ByteArray.size_append];omega
   clear hb hck HW
   have sums:(IntKind.i64.wrap 0)=0:=rfl
   go_wp2
   try rw [ety]
   clear ety HX
   go_loopw [3,5] (fun o i wr=>∃ (k:Nat) (tx:ByteArray),k<=ks.length/\i=.int .i64 k/\o=.string tx/\Hid (strOfNums (Pg.hbytes [h0,h1,h2,h3,h4,h5,h6] ++ Pg.gbN B0 ks k)=tx)/\Below u.heap.size u wr) (fun _ i _=>ks.length - (intOf i).toNat)
   case atStart=>exact ⟨0,ty,Nat.zero_le _,rfl,rfl,HT.out,B4.out⟩
   case round =>
    obtain ⟨k,tx,hk,rfl,rfl,hx,hbel⟩:=hrel
    have HX:Hid (strOfNums (Pg.hbytes [h0,h1,h2,h3,h4,h5,h6] ++ Pg.gbN B0 ks k)=tx):=hx.out
    have HW:Hid (Below u.heap.size u wr):=hbel
    have z7:wr.cell? ⟨w.heap.size,7,none⟩=some (.slice a1 ks.length c1):=by rw [hbel.cell (p:=⟨w.heap.size,7,none⟩) (World.block_lt_of_cell? u _ (CB.out 7 _ rfl))];exact CB.out 7 _ rfl
    have z0:wr.cell? ⟨w.heap.size,0,none⟩=some (.int .i64 h0):=by rw [hbel.cell (p:=⟨w.heap.size,0,none⟩) (World.block_lt_of_cell? u _ (CB.out 0 _ rfl))];exact CB.out 0 _ rfl
    have hsx:tx.size<=10000:=by
     rw [<-HX.out,text_size]
     rw [List.length_append,Pg.hbytes_length,Pg.gbN_length (n:=n0) FK.out.even k hk];have:=Nat.mul_le_mul (Pg.gsize_small (b:=B0) (n:=n0) b0 bn2) (show k<=16 by omega);omega
    clear hx hbel
    by_cases hlt:k<ks.length
    ·obtain ⟨b1,o1,rfl,hg1⟩:=HA.out.get hlt
     obtain ⟨x1,y1,G1⟩:=hg1 k hlt
     have K1:Hid (GpAt wr b1 o1 k (Pg.nth ks k) x1 y1):=(G1.keep BU.out).keep HW.out
     have F1:=FK.out k hlt
     have HC:Hid ((Pg.gc (Pg.nth ks k)).length=n0):=F1.1
     obtain ⟨sc,esc⟩:=Int.eq_ofNat_of_zero_le F1.2.2.2.2.1
     have ESC:Hid (Pg.gs (Pg.nth ks k)=(sc:Int)):=esc
     have EG:Hid (Pg.nth ks k=(Pg.gz (Pg.nth ks k),(sc:Int),Pg.gc (Pg.nth ks k))):=Pg.g_ext rfl esc rfl
     obtain ⟨tg,etg⟩:∃ t,strOfNums (Pg.gb B0 (Pg.nth ks k))=t:=⟨_,rfl⟩
     have ETG:Hid (strOfNums (Pg.gb B0 (Pg.nth ks k))=tg):=etg
     have hsg:tg.size<=10000:=by rw [<-etg,text_size,Pg.gb_length,HC.out];have:=Pg.gsize_small (b:=B0) (n:=n0) b0 bn2;omega
     have FF:Hid (Pg.Fits B0 (Pg.gc (Pg.nth ks k)).length (Pg.gz (Pg.nth ks k),(sc:Int),Pg.gc (Pg.nth ks k))):=by rw [<-EG.out,HC.out];exact F1
     have KS:Hid (∀ w',Below wr.heap.size wr w'->(w'.cell? ⟨b1,o1+k*3,none⟩=some (.int .i32 (Pg.gz (Pg.nth ks k)))/\w'.cell? ⟨b1,o1+k*3+1,none⟩=some (.int .u32 (sc:Int))/\w'.cell? ⟨b1,o1+k*3+2,none⟩=some (.slice x1 (Pg.gc (Pg.nth ks k)).length y1))/\w'.cell? ⟨w.heap.size,7,none⟩=some (.slice (some ⟨b1,o1,none⟩) ks.length c1)/\w'.cell? ⟨w.heap.size,0,none⟩=some (.int .i64 h0)/\Hid (Below wr.heap.size wr w')) :=
      fun w' hb=>⟨by have:=(K1.out.keep hb).cells;rw [ESC.out] at this;exact this,by rw [hb.cell (p:=⟨w.heap.size,7,none⟩) (World.block_lt_of_cell? wr _ z7)];exact z7,by rw [hb.cell (p:=⟨w.heap.size,0,none⟩) (World.block_lt_of_cell? wr _ z0)];exact z0,hb⟩
     clear hg1 G1 F1 esc etg z0
     have e0:(0:Int)<=(k:Int):=by omega
     have e1:(k:Int)<(ks.length:Int):=by omega
     have hcat:(tx.size:Int)+(tg.size:Int)<=9223372036854775807:=by omega
     have hcat2:¬ (IntKind.i64.max<((tx.size+tg.size:Nat):Int)):=by show ¬ ((9223372036854775807:Int)<((tx.size+tg.size:Nat):Int));omega
     have hcat3:¬ ((9223372036854775807:Int)<(tx.size:Int)+(tg.size:Int)):=by omega
     have hcat4:Op.stringOp .add tx tg=pure (.string (tx ++ tg)):=by unfold Op.stringOp;simp only;rw [if_neg hcat2]
     go_wp2_with fail
     clear z7
     go_region_held3 (fun w'=>(w'.cell? ⟨b1,o1+k*3,none⟩=some (.int .i32 (Pg.gz (Pg.nth ks k)))/\w'.cell? ⟨b1,o1+k*3+1,none⟩=some (.int .u32 (sc:Int))/\w'.cell? ⟨b1,o1+k*3+2,none⟩=some (.slice x1 (Pg.gc (Pg.nth ks k)).length y1))/\w'.cell? ⟨w.heap.size,7,none⟩=some (.slice (some ⟨b1,o1,none⟩) ks.length c1)/\w'.cell? ⟨w.heap.size,0,none⟩=some (.int .i64 h0)/\Hid (Below wr.heap.size wr w'))
      (first
        | exact KS.out _ ((Below.refl wr.heap.size wr).drew)
        | exact KS.out _ hbc.out
        | assumption)
      (first
        | (go_at_call 119;refine (refGroup_anyb _ sc _ _ h0 B0 (Pg.gc (Pg.nth ks k)) tg _ EH0.out (K1.out.2.2.2.keep ((Below.refl wr.heap.size wr).drew)) OK0.out (by rw [HC.out];omega) (by rw [HC.out];omega) FF.out (by rw [<-EG.out];exact ETG.out)).mono ?_;rintro e v1 ⟨rfl,hb⟩;have hbc:Hid (Below wr.heap.size wr v1):=((Below.refl wr.heap.size wr).drew).trans hb;clear hb))
     go_wp2
     go_roundw
     case rel =>
      refine ⟨k+1,tx ++ tg,by omega,by go_num,rfl,?_,below_then HW.out hbc.out⟩
      show strOfNums (Pg.hbytes [h0,h1,h2,h3,h4,h5,h6] ++ Pg.gbN B0 ks (k+1))=tx ++ tg
      rw [<-HX.out,<-ETG.out,Sl.text_append]
      simp only [Pg.gbN,List.append_assoc]
     case measure=>simp [intOf];omega
    ·have e:k=ks.length:=by omega
     subst e
     have HT2:Hid (strOfNums ((Pg.hbytes [h0,h1,h2,h3,h4,h5,h6] ++ Pg.gbN B0 ks ks.length) ++ Pg.gbN B1 vs 0)=tx):=by
      show _=_
      rw [show Pg.gbN B1 vs 0=[] from rfl,List.append_nil]
      exact HX.out
     have HWK:Hid (Below u.heap.size u wr):=HW.out
     clear HW z0
     have z8:wr.cell? ⟨w.heap.size,8,none⟩=some (.slice a2 vs.length c2):=by rw [HWK.out.cell (p:=⟨w.heap.size,8,none⟩) (World.block_lt_of_cell? u _ (CB.out 8 _ rfl))];exact CB.out 8 _ rfl
     go_wp2
     clear z7 z8 HX
     go_loopw [3,6] (fun o i wr=>∃ (k:Nat) (tx:ByteArray),k<=vs.length/\i=.int .i64 k/\o=.string tx/\Hid (strOfNums ((Pg.hbytes [h0,h1,h2,h3,h4,h5,h6] ++ Pg.gbN B0 ks ks.length) ++ Pg.gbN B1 vs k)=tx)/\Below u.heap.size u wr) (fun _ i _=>vs.length - (intOf i).toNat)
     case atStart=>exact ⟨0,tx,Nat.zero_le _,rfl,rfl,HT2.out,HWK.out⟩
     case round =>
      obtain ⟨k,tx,hk,rfl,rfl,hx,hbel⟩:=hrel
      have HX:Hid (strOfNums ((Pg.hbytes [h0,h1,h2,h3,h4,h5,h6] ++ Pg.gbN B0 ks ks.length) ++ Pg.gbN B1 vs k)=tx):=hx.out
      have HW:Hid (Below u.heap.size u wr):=hbel
      have z7:wr.cell? ⟨w.heap.size,8,none⟩=some (.slice a2 vs.length c2):=by rw [hbel.cell (p:=⟨w.heap.size,8,none⟩) (World.block_lt_of_cell? u _ (CB.out 8 _ rfl))];exact CB.out 8 _ rfl
      have z0:wr.cell? ⟨w.heap.size,1,none⟩=some (.int .i64 h1):=by rw [hbel.cell (p:=⟨w.heap.size,1,none⟩) (World.block_lt_of_cell? u _ (CB.out 1 _ rfl))];exact CB.out 1 _ rfl
      have hsx:tx.size<=10000:=by
       rw [<-HX.out,text_size]
       rw [List.length_append,List.length_append,Pg.hbytes_length,Pg.gbN_length (n:=n0) FK.out.even ks.length (Nat.le_refl _),Pg.gbN_length (n:=d0) FV.out.even k hk];have:=Nat.mul_le_mul (Pg.gsize_small (b:=B0) (n:=n0) b0 bn2) (show ks.length<=16 by omega);have:=Nat.mul_le_mul (Pg.gsize_small (b:=B1) (n:=d0) b1' bd2) (show k<=16 by omega);omega
      clear hx hbel
      by_cases hlt:k<vs.length
      ·obtain ⟨b1,o1,rfl,hg1⟩:=HB.out.get hlt
       obtain ⟨x1,y1,G1⟩:=hg1 k hlt
       have K1:Hid (GpAt wr b1 o1 k (Pg.nth vs k) x1 y1):=(G1.keep BU.out).keep HW.out
       have F1:=FV.out k hlt
       have HC:Hid ((Pg.gc (Pg.nth vs k)).length=d0):=F1.1
       obtain ⟨sc,esc⟩:=Int.eq_ofNat_of_zero_le F1.2.2.2.2.1
       have ESC:Hid (Pg.gs (Pg.nth vs k)=(sc:Int)):=esc
       have EG:Hid (Pg.nth vs k=(Pg.gz (Pg.nth vs k),(sc:Int),Pg.gc (Pg.nth vs k))):=Pg.g_ext rfl esc rfl
       obtain ⟨tg,etg⟩:∃ t,strOfNums (Pg.gb B1 (Pg.nth vs k))=t:=⟨_,rfl⟩
       have ETG:Hid (strOfNums (Pg.gb B1 (Pg.nth vs k))=tg):=etg
       have hsg:tg.size<=10000:=by rw [<-etg,text_size,Pg.gb_length,HC.out];have:=Pg.gsize_small (b:=B1) (n:=d0) b1' bd2;omega
       have FF:Hid (Pg.Fits B1 (Pg.gc (Pg.nth vs k)).length (Pg.gz (Pg.nth vs k),(sc:Int),Pg.gc (Pg.nth vs k))):=by rw [<-EG.out,HC.out];exact F1
       have KS:Hid (∀ w',Below wr.heap.size wr w'->(w'.cell? ⟨b1,o1+k*3,none⟩=some (.int .i32 (Pg.gz (Pg.nth vs k)))/\w'.cell? ⟨b1,o1+k*3+1,none⟩=some (.int .u32 (sc:Int))/\w'.cell? ⟨b1,o1+k*3+2,none⟩=some (.slice x1 (Pg.gc (Pg.nth vs k)).length y1))/\w'.cell? ⟨w.heap.size,8,none⟩=some (.slice (some ⟨b1,o1,none⟩) vs.length c2)/\w'.cell? ⟨w.heap.size,1,none⟩=some (.int .i64 h1)/\Hid (Below wr.heap.size wr w')) :=
        fun w' hb=>⟨by have:=(K1.out.keep hb).cells;rw [ESC.out] at this;exact this,by rw [hb.cell (p:=⟨w.heap.size,8,none⟩) (World.block_lt_of_cell? wr _ z7)];exact z7,by rw [hb.cell (p:=⟨w.heap.size,1,none⟩) (World.block_lt_of_cell? wr _ z0)];exact z0,hb⟩
       clear hg1 G1 F1 esc etg z0
       have e0:(0:Int)<=(k:Int):=by omega
       have e1:(k:Int)<(vs.length:Int):=by omega
       have hcat:(tx.size:Int)+(tg.size:Int)<=9223372036854775807:=by omega
       have hcat2:¬ (IntKind.i64.max<((tx.size+tg.size:Nat):Int)):=by show ¬ ((9223372036854775807:Int)<((tx.size+tg.size:Nat):Int));omega
       have hcat3:¬ ((9223372036854775807:Int)<(tx.size:Int)+(tg.size:Int)):=by omega
       have hcat4:Op.stringOp .add tx tg=pure (.string (tx ++ tg)):=by unfold Op.stringOp;simp only;rw [if_neg hcat2]
       go_wp2_with fail
       clear z7
       go_region_held3 (fun w'=>(w'.cell? ⟨b1,o1+k*3,none⟩=some (.int .i32 (Pg.gz (Pg.nth vs k)))/\w'.cell? ⟨b1,o1+k*3+1,none⟩=some (.int .u32 (sc:Int))/\w'.cell? ⟨b1,o1+k*3+2,none⟩=some (.slice x1 (Pg.gc (Pg.nth vs k)).length y1))/\w'.cell? ⟨w.heap.size,8,none⟩=some (.slice (some ⟨b1,o1,none⟩) vs.length c2)/\w'.cell? ⟨w.heap.size,1,none⟩=some (.int .i64 h1)/\Hid (Below wr.heap.size wr w'))
        (first
          | exact KS.out _ ((Below.refl wr.heap.size wr).drew)
          | exact KS.out _ hbc.out
          | assumption)
        (first
          | (go_at_call 119;refine (refGroup_anyb _ sc _ _ h1 B1 (Pg.gc (Pg.nth vs k)) tg _ EH1.out (K1.out.2.2.2.keep ((Below.refl wr.heap.size wr).drew)) OK1.out (by rw [HC.out];omega) (by rw [HC.out];omega) FF.out (by rw [<-EG.out];exact ETG.out)).mono ?_;rintro e v1 ⟨rfl,hb⟩;have hbc:Hid (Below wr.heap.size wr v1):=((Below.refl wr.heap.size wr).drew).trans hb;clear hb))
       go_wp2
       go_roundw
       case rel =>
        refine ⟨k+1,tx ++ tg,by omega,by go_num,rfl,?_,below_then HW.out hbc.out⟩
        show strOfNums ((Pg.hbytes [h0,h1,h2,h3,h4,h5,h6] ++ Pg.gbN B0 ks ks.length) ++ Pg.gbN B1 vs (k+1))=tx ++ tg
        rw [<-HX.out,<-ETG.out,Sl.text_append]
        simp only [Pg.gbN,List.append_assoc]
       case measure=>simp [intOf];omega
      ·have e:k=vs.length:=by omega
       subst e
       have HC:Hid (strOfNums (Pg.body [h0,h1,h2,h3,h4,h5,h6] ks vs)=tx):=by
        show _=_
        rw [HBD.out,<-HX.out,List.append_assoc]
       go_wp2_with (go_at_call 120;refine (refClose_any tx (Pg.body [h0,h1,h2,h3,h4,h5,h6] ks vs) s HC.out HPL.out HPB.out HS.out _).mono ?_;rintro e v5 ⟨rfl,hb⟩;have B5:Hid (Below w.heap.size w v5):=below_then (below_then BU.out HW.out) hb;clear hb)
       go_ret
       exact ⟨rfl,B5.out⟩
end Go.Proofs.YtnchnlgnnlgjcaaGreat
