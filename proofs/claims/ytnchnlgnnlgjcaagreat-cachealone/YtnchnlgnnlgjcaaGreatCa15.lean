import Derived.Test.YtnchnlgnnlgjcaaGreatCa14
import Derived.Test.YtnchnlgnnlgjcaaGreatCa08
import Derived.Test.YtnchnlgnnlgjcaaGreatCa04
import Derived.Deep.RegionWith
import Derived.Deep.RegionLaw
import Derived.Test.YtnchnlgnnlgjcaaGreatRows
import Derived.RangeFuncNested
import Derived.RangeFuncBound
import Derived.RangeFuncCalls
import Derived.RangeFuncLeaves
import Derived.RangeFuncBox
import Derived.Shelf.Abstract
import Derived.Shelf.RegionOpen
import Derived.OwnWalkIn
import Derived.TacticsInMore
import Derived.LoopNIn
import Derived.LoopIn
set_option linter.unusedVariables false
set_option linter.unusedSimpArgs false
namespace Go.Proofs.YtnchnlgnnlgjcaaGreat
open Go.RowKit
namespace Cc
theorem infoPagePtr:(Tryz.prog.info? 117).map (fun i=>(i.zero,i.size,i.bytes))=some (some (.pointer none),1,8):=by kernel_rfl
def pgb (M sl:List Int) (i:Nat):Nat:=(Ls.nth M (Ls.nth sl i).toNat).toNat
def ptrs (M sl:List Int) (k:Nat):List Value:=(List.range k).map fun i=>.pointer (some ⟨pgb M sl i,0,none⟩)
theorem ptrs_succ (M sl:List Int) (k:Nat):ptrs M sl (k+1)=ptrs M sl k ++ [.pointer (some ⟨pgb M sl k,0,none⟩)]:=by simp [ptrs,List.range_succ]
set_option maxRecDepth 100000 in
set_option maxHeartbeats 3200000 in
theorem pages_c (C c g b n H D G W ly hd r q0:Nat) (ls:List (Int × Int)) (R M:List Int) (L:Nat->List Int) (t k:Nat) (tk:Nat->List Tok) (q:Nat->Nat) (col:Nat->Nat) (w:World) (hp:PoolAt w g b n R M) (h:CaAt w col c g C H D G W ls M L (cn ls.length t k) tk q) (sh:ShOk H D G W ls)
 (hly:ly<ls.length) (hhd:hd<H) (hr:ly*H+hd=r) (hq0:q r=q0) (hq1:q0<=1000) (hL:∀ i,i<ls.length*H->∀ x,x ∈ L i->0<=x/\x<n/\0<Ls.nth R x.toNat) :
 Calls Tryz.prog 24 #[.pointer (some ⟨C,0,none⟩),.int .i64 (ly:Int),.int .i64 (hd:Int)] w fun e w'=>∃ v,e=.returned v/\w'.ownsRow w.heap.size 117 1 v q0 (ptrs M (L r) q0)/\Below w.heap.size w w':=by
 obtain ⟨i1,hi10,hi11,hi12,hi13⟩:=info_parts infoPagePtr
 obtain ⟨sH,sH2,-⟩:=id sh
 obtain ⟨-,-,-,sl,sl2,-⟩:=sh.nums
 have HB:=Ca.hid h.bd
 have HP:=Ca.hid hp
 have HS:=Ca.hid (has_c C g H D G W ls t k (ly:Int) (hd:Int) true w h.bd sl2 sH2 (decide_eq_true (by omega)))
 have RO:=Ca.hid (fun (v:World) (hv:Below w.heap.size w v)=>row_c C g H D G W ls t k ly hd r v (HB.out.keep hv) hr (by omega) (by omega) (by omega))
 have rlt:r<ls.length*H:=by
  have h1:(ly+1)*H<=ls.length*H:=Nat.mul_le_mul_right H (by omega)
  rw [Nat.add_mul] at h1
  omega
 obtain ⟨al,cl,T,pb,pc,ct,cc,rg,rs,F,⟨hC,zC⟩,-,⟨hT,zT⟩,-,-,-,hrow⟩:=h.in
 have hlen:=(hrow r rlt).1
 rw [hq0] at hlen
 have HT:=Ca.hid hT
 have LN:=Ca.hid hlen
 have x6:w.cell? ⟨C,6,none⟩=some (.pointer (some ⟨T,0,none⟩)):=hC.cell (show 6<9 by decide)
 have X6:=Ca.hid x6
 have hCl:C<w.heap.size:=hC.lt
 have HL:=Ca.hid hL
 clear h hp hT hC hrow hlen hL zC zT hq0
 go_enter Tryz.func24,Tryz.ntmps24
 go_wp2_with (first
  | (go_at_call 67;refine HS.out.mono ?_;rintro e w' ⟨rfl,hww⟩;cases hww.symm;clear hww)
  | (go_at_call 59;refine (RO.out _ (Below.refl _ _)).mono ?_;rintro e w' ⟨rfl,hww⟩;cases hww.symm;clear hww)
  | (go_at_call 68;(with_reducible refine (len_yes g T (ls.length*H) r q0 L _ _ HT.out rlt LN.out).mono ?_);rintro e w' ⟨rfl,hww⟩;cases hww.symm;clear hww))
 clear x6
 go_loopw [7,27] (fun v i wq=>∃ j:Nat,j<=q0/\i=.int .i64 j/\Hid (wq.ownsRow w.heap.size 117 1 v j (ptrs M (L r) j))/\Hid (Below w.heap.size w wq)) (fun _ i _=>q0 - (intOf i).toNat)
 case atStart=>exact ⟨0,Nat.zero_le _,rfl,World.ownsRow_nil _ _ _ _,Below.refl _ _⟩
 case round =>
  obtain ⟨j,hj,rfl,OW,BW⟩:=hrel
  by_cases hlt:j<q0
  ·have hm:Ls.nth (L r) j ∈ L r:=by
    have:j<(L r).length:=by rw [LN.out];exact hlt
    rw [show Ls.nth (L r) j=(L r)[j] by simp [Ls.nth,this]]
    exact List.getElem_mem _
   obtain ⟨x0,x1,x2⟩:=HL.out r rlt _ hm
   obtain ⟨s,es⟩:∃ s:Nat,Ls.nth (L r) j=(s:Int):=⟨(Ls.nth (L r) j).toNat,by omega⟩
   have ES:=Ca.hid es
   rw [es,Int.toNat_natCast] at x2
   have hs:s<n:=by omega
   have X2:=Ca.hid x2
   have y6:wr.cell? ⟨C,6,none⟩=some (.pointer (some ⟨T,0,none⟩)):=by rw [BW.out.cell (p:=⟨C,6,none⟩) hCl];exact X6.out
   have hsB:=BW.out.size
   clear hm x0 x1 x2 es
   go_wp2_with (first
    | (go_at_call 69;(with_reducible refine (at_ok g b n T (ls.length*H) r j s R M L _ _ (HP.out.keep BW.out) (HT.out.keep BW.out) rlt (by rw [LN.out];exact hlt) ES.out hs X2.out).mono ?_);rintro e w2 ⟨p,rfl,hpg,hb⟩;have EP:Hid (pgb M (L r) j=p):=(by show (Ls.nth M (Ls.nth (L r) j).toNat).toNat=p;rw [ES.out,Int.toNat_natCast,hpg.1];rfl);have B2:Hid (Below wr.heap.size wr w2):=hb;have hs2:=hb.size;have O2:Hid (w2.ownsRow w.heap.size 117 1 u7 j (ptrs M (L r) j)):=own_at OW.out (fun x e=>hb.block x (OW.out.lt x e).2);clear hpg hb)
    | (at_builtin;refine wpList_append_lies _ rfl _ _ _ rfl w.heap.size 117 i1 _ 1 8 Tryz.underlying68 hi10 hi11 hi12 hi13 rfl (by omega) _ j (ptrs M (L r) j) (by rfl) (own_at O2.out (fun x e=>(Rt.box_below w2 _).block x (O2.out.lt x e).2)) ⟨w2.heap.size,0,none⟩ 1 1 [.pointer (some ⟨p,0,none⟩)] (by rfl) (by rfl) (World.news_of_block (cs:=#[.pointer (some ⟨p,0,none⟩)]) (t:=117) (fr:=(0,0)) (heap_alloc_new w2 _)) (fun x hx=>by simp at hx;subst hx;rfl) (by omega) (by unfold maxLen;omega) (by omega) (by simp;omega) (w2.heap.size+1) (by simp) ?_;intro gg cap w3 hown hgrow hat hlt1;have O3:Hid (w3.ownsRow w.heap.size 117 1 (.slice (some ⟨gg,0,none⟩) (j+1) cap) (j+1) (ptrs M (L r) j ++ [.pointer (some ⟨p,0,none⟩)])):=hown;have G3:Hid ((w2.alloc (.cells #[.pointer (some ⟨p,0,none⟩)] 117)).grownBy w3 u7.ownBlock):=hgrow;clear hown hgrow hat hlt1))
   go_roundw
   case rel =>
    refine ⟨j+1,by omega,by go_num,?_,?_⟩
    ·rw [ptrs_succ,EP.out];exact O3.out
    ·exact ((BW.out.trans (B2.out.mono hsB)).alloc (by omega) _).grown G3.out (by simp;omega) (fun x hx=>(OW.out.lt x hx).1)
   case measure=>simp [intOf];omega
  ·have ej:j=q0:=by omega
   subst ej
   go_wp2
   go_ret
   exact ⟨_,rfl,OW.out,BW.out⟩
end Cc
end Go.Proofs.YtnchnlgnnlgjcaaGreat
namespace Go.Proofs.YtnchnlgnnlgjcaaGreat
open Go.RowKit
theorem Tryz.infoTokR:(Tryz.prog.info? 111).map (fun i=>(i.zero,i.size,i.bytes))=some (some (.agg #[.slice none 0 0,.slice none 0 0]),2,48):=by kernel_rfl
namespace Rt
open Rn (pl pl_lt pl_inj pl_shift pl_zero)
theorem new_ok (n:Nat) (h:n<=1024) (w:World) :
 Calls Tryz.prog 55 #[.int .i64 n] w fun e w'=>∃ g r,e=.returned (.tuple #[.pointer (some ⟨g,0,none⟩),.int .i64 0])/\RingAt w' g r n 0 []/\w.heap.size<=g/\w.heap.size<=r/\Below w.heap.size w w':=by
 have hmk:=run_make_rows (P:=Tryz.prog) 152 111 (.agg #[.slice none 0 0,.slice none 0 0]) #[.slice none 0 0,.slice none 0 0] 2 48 rfl Tryz.underlying152 Tryz.infoTokR .i64 .i64 n (by omega) (by omega)
 go_enter Tryz.func55,Tryz.ntmps55
 go_wp2
 clear hmk
 go_ret2
 refine ⟨w.heap.size+1,w.heap.size,rfl,⟨_,?_,(row_made w #[.slice none 0 0,.slice none 0 0] (n*2) 111).of_block (Below.heap_alloc _ _ _ (by simp)),Nat.zero_le _,h,by omega,fun i hi=>absurd hi (Nat.not_lt_zero _)⟩,by omega,Nat.le_refl _,two_boxes _ _ _⟩
 have:=World.rowIs_alloc (w.alloc (.cells (madeCells #[.slice none 0 0,.slice none 0 0] (n*2)) 111)) #[.slice (some ⟨w.heap.size,0,none⟩) n n,.int .i64 0,.int .i64 0] 154 (rc w.heap.size n 0 0) (by
  intro i hi
  match i,hi with
  | 0,_=>rfl
  | 1,_=>rfl
  | 2,_=>rfl)
 simpa using this
def Hd (w:World) (g r n f c:Nat):Prop:=w.rowIs g 154 3 (rc r n f c)
theorem Hd.keep {w w':World} {g r n f c:Nat} (h:Hd w g r n f c) (hb:Below w.heap.size w w'):Hd w' g r n f c:=World.rowIs.of_block h (hb.block _ (World.rowIs.lt h))
theorem Hd.c0 {w:World} {g r n f c:Nat} (h:Hd w g r n f c):w.cell? ⟨g,0,none⟩=some (.slice (some ⟨r,0,none⟩) n n):=World.rowIs.cell h (show 0<3 by decide)
theorem Hd.c1 {w:World} {g r n f c:Nat} (h:Hd w g r n f c):w.cell? ⟨g,1,none⟩=some (.int .i64 f):=World.rowIs.cell h (show 1<3 by decide)
theorem Hd.c2 {w:World} {g r n f c:Nat} (h:Hd w g r n f c):w.cell? ⟨g,2,none⟩=some (.int .i64 c):=World.rowIs.cell h (show 2<3 by decide)
theorem Hd.f {w:World} {g r n f c:Nat} (h:Hd w g r n f c) (i:Nat):w.frozen? ⟨g,i,none⟩=false:=World.rowIs.frozen h i
theorem RingAt.hd {w:World} {g r n f:Nat} {l:List Tv} (h:RingAt w g r n f l):Hd w g r n f l.length:=by
 obtain ⟨F,a,_⟩:=h
 exact a
theorem Hd.set2 {w:World} {g r n f c:Nat} (h:Hd w g r n f c) (c':Nat):Hd (w.setCell ⟨g,2,none⟩ (.int .i64 c')) g r n f c' :=
 (World.rowIs.set h 2 (.int .i64 c')).congr fun i hi=>by
   match i,hi with
   | 0,_=>rfl
   | 1,_=>rfl
   | 2,_=>rfl
theorem Hd.set1 {w:World} {g r n f c:Nat} (h:Hd w g r n f c) (f':Nat):Hd (w.setCell ⟨g,1,none⟩ (.int .i64 f')) g r n f' c :=
 (World.rowIs.set h 1 (.int .i64 f')).congr fun i hi=>by
   match i,hi with
   | 0,_=>rfl
   | 1,_=>rfl
   | 2,_=>rfl
theorem size_any (g r n f c:Nat) (w:World) (h:Hd w g r n f c) :
 Calls Tryz.prog 95 #[.pointer (some ⟨g,0,none⟩)] w fun e w'=>e=.returned (.int .i64 n)/\w'=w:=by
 have c0:=h.c0
 clear h
 go_enter Tryz.func95,Tryz.ntmps95
 go_wp2
 go_ret
 exact ⟨rfl,rfl⟩
theorem place_any (g r n f c i p:Nat) (w:World) (h:Hd w g r n f c) (hn:0<n) (hn1:n<=1024) (hf:f<=1024) (hi:i<=100000) (hp:pl f n i=p) :
 Calls Tryz.prog 96 #[.pointer (some ⟨g,0,none⟩),.int .i64 i] w fun e w'=>e=.returned (.int .i64 p)/\∃ q,w'=w.drewN q:=by
 have c1:=h.c1
 have HH:Hid (Hd w g r n f c):=h
 have HP:Hid (pl f n i=p):=hp
 clear h hp
 go_enter Tryz.func96,Tryz.ntmps96
 go_wp2
 go_quiet ((go_at_call 95;exact (size_any g r n f c _ (HH.out.keep (below_drewN (Below.refl _ _) _))).mono fun _ _ ⟨he,hw⟩=>⟨he,_,hw⟩))
 go_wp2
 go_ret
 exact ⟨ret_num (by rw [<-HP.out];show ((f:Int)+i) % n=(((f+i) % n:Nat):Int);rw [Int.natCast_emod,Int.natCast_add]),_,rfl⟩
set_option maxHeartbeats 2400000 in
theorem forget_any (g r n f i0 i1:Nat) (l:List Tv) (w:World) (F:Nat->Value) (h1:w.rowIs g 154 3 (rc r n f l.length)) (h2:w.rowIs r 111 (n*2) F) (hl:l.length<=n) (hn:n<=1024) (hf:f<n\/n=0/\f=0) (h01:i0<=i1) (h1n:i1<=n) :
 Calls Tryz.prog 106 #[.pointer (some ⟨g,0,none⟩),.int .i64 i0,.int .i64 i1] w fun e w'=>e=.returned (.tuple #[])/\But g r w w'/\∃ F',w'.rowIs g 154 3 (rc r n f l.length)/\w'.rowIs r 111 (n*2) F'/\∀ i,i<n->(i<i0\/i1<=i)->F' (pl f n i*2)=F (pl f n i*2)/\F' (pl f n i*2+1)=F (pl f n i*2+1):=by
 have H1:Hid (w.rowIs g 154 3 (rc r n f l.length)):=h1
 have H2:Hid (w.rowIs r 111 (n*2) F):=h2
 have GR:Hid (¬ g=r):=(ty_row h1).ne (ty_row h2) (by decide)
 have rl:r<w.heap.size:=h2.lt
 have gl:g<w.heap.size:=h1.lt
 clear h1 h2
 go_enter Tryz.func106,Tryz.ntmps106
 go_wp2
 obtain ⟨u,hu⟩:∃ u,w.alloc (.cells #[.slice none 0 0,.slice none 0 0] 111)=u:=⟨_,rfl⟩
 have UB:Hid (Below w.heap.size w u):=by rw [<-hu];exact box_below _ _
 have u0:u.cell? ⟨w.heap.size,0,none⟩=some (.slice none 0 0):=by rw [<-hu];simp
 have u1:u.cell? ⟨w.heap.size,1,none⟩=some (.slice none 0 0):=by rw [<-hu];simp
 rw [hu]
 clear hu
 go_loopw [7] (fun i wq=>wq.cell? ⟨w.heap.size,0,none⟩=some (.slice none 0 0)/\wq.cell? ⟨w.heap.size,1,none⟩=some (.slice none 0 0)/\∃ (k:Nat) (F':Nat->Value),i0<=k/\k<=i1/\i=.int .i64 k/\Hid (wq.rowIs g 154 3 (rc r n f l.length))/\Hid (wq.rowIs r 111 (n*2) F')/\Hid (∀ i,i<n->(i<i0\/i1<=i)->F' (pl f n i*2)=F (pl f n i*2)/\F' (pl f n i*2+1)=F (pl f n i*2+1))/\Hid (But g r w wq)) (fun i _=>i1 - (intOf i).toNat)
 case atStart=>exact ⟨u0,u1,i0,F,Nat.le_refl _,h01,rfl,H1.out.of_block (UB.out.block _ gl),H2.out.of_block (UB.out.block _ rl),fun _ _ _=>⟨rfl,rfl⟩,But.of_below UB.out⟩
 case round =>
  obtain ⟨z0,z1,k,F',hk0,hk1,rfl,R1,R2,HF,HB⟩:=hrel
  clear u0 u1
  by_cases hlt:k<i1
  ·have hn0:0<n:=by omega
   have H0:Hid (Hd wr g r n f l.length):=R1.out
   have c0:=H0.out.c0
   have hp:pl f n k<n:=pl_lt hn0
   obtain ⟨p,ep⟩:∃ p,pl f n k=p:=⟨_,rfl⟩
   have EP:Hid (pl f n k=p):=ep
   rw [ep] at hp
   have f1:=R2.out.frozen (p*2)
   have f2:=R2.out.frozen (p*2+1)
   have v1:=R2.out.cell (show p*2<n*2 by omega)
   have v2:=R2.out.cell (show p*2+1<n*2 by omega)
   obtain ⟨v,ev⟩:∃ v,F' (p*2)=v:=⟨_,rfl⟩
   obtain ⟨u,eu⟩:∃ u,F' (p*2+1)=u:=⟨_,rfl⟩
   rw [ev] at v1
   rw [eu] at v2
   clear ep ev eu
   go_wp2
   go_region_with (go_at_call 96;refine (place_any g r n f l.length k p _ (H0.out.keep ((Below.refl _ _).drew)) hn0 hn (by omega) (by omega) EP.out).mono ?_;rintro e w' ⟨rfl,q,rfl⟩)
   all_goals
    go_wp2
    go_roundw
    case rel =>
     have R1':Hid (((wr.drew).drewN q).rowIs g 154 3 (rc r n f l.length)):=R1.out
     refine ⟨?_,?_,k+1,fun i=>if i=p*2+1 then .slice none 0 0 else if i=p*2 then .slice none 0 0 else F' i,by omega,by omega,by go_num,?_,?_,fun i hi h=>?_,?_⟩
     ·rw [World.cell?_of_block ((Below.heap_setCell _ _ _ _ (show w.heap.size ≠ r by omega)).trans (Below.heap_setCell _ _ _ _ (show w.heap.size ≠ r by omega)))]
      exact z0
     ·rw [World.cell?_of_block ((Below.heap_setCell _ _ _ _ (show w.heap.size ≠ r by omega)).trans (Below.heap_setCell _ _ _ _ (show w.heap.size ≠ r by omega)))]
      exact z1
     ·exact World.rowIs.setOther (World.rowIs.setOther (w:=(wr.drew).drewN q) R1.out (show g ≠ r from GR.out) _) (show g ≠ r from GR.out) _
     ·exact World.rowIs.set (World.rowIs.set (w:=(wr.drew).drewN q) R2.out (p*2) _) (p*2+1) _
     ·have hne:¬ pl f n i=p:=fun e=>by
       have:=pl_inj (by omega) hi (by omega) (e.trans EP.out.symm)
       omega
      refine ⟨?_,?_⟩
      ·show (if pl f n i*2=p*2+1 then Value.slice none 0 0 else if pl f n i*2=p*2 then Value.slice none 0 0 else F' (pl f n i*2))=_
       rw [if_neg (by omega),if_neg (by omega)]
       exact (HF.out i hi h).1
      ·show (if pl f n i*2+1=p*2+1 then Value.slice none 0 0 else if pl f n i*2+1=p*2 then Value.slice none 0 0 else F' (pl f n i*2+1))=_
       rw [if_neg (by omega),if_neg (by omega)]
       exact (HF.out i hi h).2
     ·exact ((HB.out.drew (1+q)).set (p:=⟨r,p*2,none⟩) (.inr rfl) _).set (p:=⟨r,p*2+1,none⟩) (.inr rfl) _
    case measure=>simp [intOf];omega
  ·have ek:k=i1:=by omega
   subst ek
   go_wp2
   go_end0
   exact ⟨rfl,HB.out,F',R1.out,R2.out,HF.out⟩
set_option maxHeartbeats 1600000 in
theorem push_ok (g r n f:Nat) (x:Tv) (l:List Tv) (w:World) (h:RingAt w g r n f l) (hl:l.length<n) :
 Calls Tryz.prog 60 #[.pointer (some ⟨g,0,none⟩),.agg #[.slice x.1.1 x.1.2.1 x.1.2.2,.slice x.2.1 x.2.2.1 x.2.2.2]] w fun e w'=>e=.returned (.int .i64 0)/\RingAt w' g r n f (l ++ [x])/\But g r w w':=by
 obtain ⟨c,ec⟩:∃ c,l.length=c:=⟨_,rfl⟩
 have HH:Hid (Hd w g r n f c):=by have:=h.hd;rw [ec] at this;exact this
 have EC:Hid (l.length=c):=ec
 have c2:=HH.out.c2
 have c0:=HH.out.c0
 have f2:=HH.out.f 2
 have gne:¬ g=r:=h.ne
 have GN:Hid (¬ g=r):=gne
 obtain ⟨_,n1,n2⟩:=h.nums
 have hf:f<n:=by omega
 have hcn:c<n:=by omega
 have dcn:decide ((c:Int)=(n:Int))=false:=decide_eq_false (by omega)
 obtain ⟨F,h1,h2,_,_,_,h4⟩:=h
 have hp:pl f n c<n:=pl_lt (by omega)
 obtain ⟨p,ep⟩:∃ p,pl f n c=p:=⟨_,rfl⟩
 have EP:Hid (pl f n c=p):=ep
 rw [ep] at hp
 have f1:=h2.frozen (p*2)
 have f1':=h2.frozen (p*2+1)
 have v1:=h2.cell (show p*2<n*2 by omega)
 have v1':=h2.cell (show p*2+1<n*2 by omega)
 obtain ⟨v,ev⟩:∃ v,F (p*2)=v:=⟨_,rfl⟩
 obtain ⟨u,eu⟩:∃ u,F (p*2+1)=u:=⟨_,rfl⟩
 rw [ev] at v1
 rw [eu] at v1'
 have R2:Hid (w.rowIs r 111 (n*2) F):=h2
 have H4:Hid (∀ i,i<l.length->F (pl f n i*2)=key (nth l i)/\F (pl f n i*2+1)=val (nth l i)):=h4
 obtain ⟨⟨xa,xn,xc⟩,⟨ya,yn,yc⟩⟩:=x
 have rl:r<w.heap.size:=h2.lt
 have gl:g<w.heap.size:=h1.lt
 clear h1 h2 h4 hl ec ep ev eu gne c0 c2 f2 f1 f1' v1 v1'
 go_enter Tryz.func60,Tryz.ntmps60
 go_wp2_with fail
 obtain ⟨W,hW⟩:∃ W,w.alloc (.cells #[.slice xa xn xc,.slice ya yn yc] 111)=W:=⟨_,rfl⟩
 have UB:Hid (Below w.heap.size w W):=by rw [<-hW];exact box_below _ _
 have u0:W.cell? ⟨w.heap.size,0,none⟩=some (.slice xa xn xc):=by rw [<-hW];simp
 have u1:W.cell? ⟨w.heap.size,1,none⟩=some (.slice ya yn yc):=by rw [<-hW];simp
 rw [hW]
 clear hW
 have HW:Hid (Hd W g r n f c):=HH.out.keep UB.out
 have RW:Hid (W.rowIs r 111 (n*2) F):=R2.out.of_block (UB.out.block _ rl)
 have c2:=HW.out.c2
 have c0:=HW.out.c0
 have f2:=HW.out.f 2
 have f1:=RW.out.frozen (p*2)
 have f1':=RW.out.frozen (p*2+1)
 have v1:=RW.out.cell (show p*2<n*2 by omega)
 have v1':=RW.out.cell (show p*2+1<n*2 by omega)
 clear HH R2
 go_quiet ((go_at_call 95;exact (size_any g r n f c _ (HW.out.keep (below_drewN (Below.refl _ _) _))).mono fun _ _ ⟨he,hw⟩=>⟨he,_,hw⟩))
 go_wp2
 go_region_with (go_at_call 96;refine (place_any g r n f c c p _ (HW.out.keep ((below_drewN (Below.refl _ _) _).drew)) (by omega) n1 (by omega) (by omega) EP.out).mono ?_;rintro e w' ⟨rfl,q,rfl⟩)
 all_goals
  have rne:¬ r=g:=fun e=>GN.out e.symm
  go_wp2
  go_ret
  refine ⟨rfl,⟨fun i=>if i=p*2+1 then .slice ya yn yc else if i=p*2 then .slice xa xn xc else F i,?_,?_,by simp;have:=EC.out;omega,n1,.inl hf,fun i hi=>?_⟩,?_⟩
  ·have b:Hd (((((W.drewN nq).drew).drewN q).setCell ⟨r,p*2,none⟩ (.slice xa xn xc)).setCell ⟨r,p*2+1,none⟩ (.slice ya yn yc)) g r n f c:=World.rowIs.setOther (World.rowIs.setOther (w:=((W.drewN nq).drew).drewN q) HW.out (show g ≠ r from GN.out) _) (show g ≠ r from GN.out) _
   have b2:=b.set2 (c+1)
   rw [show (l ++ [((xa,xn,xc),(ya,yn,yc))]).length=c+1 by simp;exact EC.out]
   exact b2
  ·refine World.rowIs.setOther ?_ (show r ≠ g from rne) _
   exact World.rowIs.set (World.rowIs.set (w:=((W.drewN nq).drew).drewN q) RW.out (p*2) _) (p*2+1) _
  ·simp at hi
   have:=EC.out
   refine ⟨?_,?_⟩
   ·show (if pl f n i*2=p*2+1 then Value.slice ya yn yc else if pl f n i*2=p*2 then Value.slice xa xn xc else F (pl f n i*2))=_
    rw [if_neg (by omega)]
    by_cases e:i=c
    ·rw [if_pos (by rw [e,EP.out]),nth_last (by omega)]
     rfl
    ·rw [if_neg (fun q=>e (pl_inj hf (by omega) (by omega) (show pl f n i=pl f n c by rw [EP.out];omega))),nth_left (by omega)]
     exact (H4.out i (by omega)).1
   ·show (if pl f n i*2+1=p*2+1 then Value.slice ya yn yc else if pl f n i*2+1=p*2 then Value.slice xa xn xc else F (pl f n i*2+1))=_
    by_cases e:i=c
    ·rw [if_pos (by rw [e,EP.out]),nth_last (by omega)]
     rfl
    ·rw [if_neg (fun q=>e (pl_inj hf (by omega) (by omega) (show pl f n i=pl f n c by rw [EP.out];omega))),if_neg (by omega),nth_left (by omega)]
     exact (H4.out i (by omega)).2
  ·exact ((((But.of_below (g:=g) (r:=r) UB.out).drew (nq+1+q)).set (p:=⟨r,p*2,none⟩) (.inr rfl) _).set (p:=⟨r,p*2+1,none⟩) (.inr rfl) _).set (p:=⟨g,2,none⟩) (.inl rfl) _
set_option maxHeartbeats 1600000 in
theorem cut_yes (g r n f k:Nat) (l:List Tv) (w:World) (h:RingAt w g r n f l) (hk:k<=l.length) :
 Calls Tryz.prog 71 #[.pointer (some ⟨g,0,none⟩),.int .i64 k] w fun e w'=>e=.returned (.bool true)/\RingAt w' g r n f (l.take k)/\But g r w w':=by
 obtain ⟨c,ec⟩:∃ c,l.length=c:=⟨_,rfl⟩
 have EC:Hid (l.length=c):=ec
 have c2:=h.hd.c2
 have f2:=h.hd.f 2
 obtain ⟨n0,n1,n2⟩:=h.nums
 rw [ec] at c2 hk n0
 have gne:¬ g=r:=h.ne
 obtain ⟨F,h1,h2,_,_,_,h4⟩:=h
 have H1:Hid (w.rowIs g 154 3 (rc r n f l.length)):=h1
 have H2:Hid (w.rowIs r 111 (n*2) F):=h2
 have H4:Hid (∀ i,i<l.length->F (pl f n i*2)=key (nth l i)/\F (pl f n i*2+1)=val (nth l i)):=h4
 have N2:Hid (f<n\/n=0/\f=0):=n2
 have GN:Hid (¬ g=r):=gne
 have d:decide ((c:Int)<(k:Int))=false:=decide_eq_false (by omega)
 clear h1 h2 h4 ec n2 gne
 go_enter Tryz.func71,Tryz.ntmps71
 go_wp2_with (go_at_call 106;refine (forget_any g r n f k c l _ F H1.out H2.out (by have:=EC.out;omega) n1 N2.out hk n0).mono ?_;rintro e w1 ⟨rfl,hb,F1,r1,r2,hF⟩;have HB:Hid (But g r w w1):=hb;have R1:Hid (w1.rowIs g 154 3 (rc r n f l.length)):=r1;have R2:Hid (w1.rowIs r 111 (n*2) F1):=r2;have HF:Hid (∀ i,i<n->(i<k\/c<=i)->F1 (pl f n i*2)=F (pl f n i*2)/\F1 (pl f n i*2+1)=F (pl f n i*2+1)):=hF;have f2':=R1.out.frozen 2;have c2':w1.cell? ⟨g,2,none⟩=some (.int .i64 l.length):=R1.out.cell (show 2<3 by decide);clear hb r1 r2 hF)
 go_ret
 have lk:(l.take k).length=k:=by rw [List.length_take];have:=EC.out;omega
 refine ⟨rfl,⟨F1,?_,World.rowIs.setOther R2.out (show r ≠ g from fun e=>GN.out e.symm) _,by omega,n1,N2.out,fun i hi=>?_⟩,HB.out.set (p:=⟨g,2,none⟩) (.inl rfl) _⟩
 ·rw [lk]
  exact Hd.set2 R1.out k
 ·rw [lk] at hi
  have:=EC.out
  rw [(HF.out i (by omega) (.inl hi)).1,(HF.out i (by omega) (.inl hi)).2,nth_take hi]
  exact H4.out i (by omega)
end Rt
end Go.Proofs.YtnchnlgnnlgjcaaGreat
namespace Go.Proofs.YtnchnlgnnlgjcaaGreat
open Go.RowKit Go.Shelf
def SeqAt (m:Nat) (P:Program) (gf:Nat) (lb:Array Value) (enc:Nat->Array Value) (Kp:World->World->Prop) (N:Nat) (w0:World):Prop :=
 ∀ (l:Nat) (J Jx:Nat->World->Prop) (W:World),Below w0.heap.size w0 W->AbidesFrom W.heap.size J->AbidesFrom W.heap.size Jx ->
   (∀ k W1,k<N->J k W1->YieldAt Fence.wide (m - 1) P l (enc k) W1 fun e W'=>(e=.returned (.bool true)/\J (k+1) W'/\Kp W1 W')\/(e=.returned (.bool false)/\Jx (k+1) W')) ->
   J 0 W->CallsIn Fence.wide m P gf (#[.func (.yield l) #[] #[]] ++ lb) W fun e W'=>(∃ v,e=.returned v)/\(J N W'\/∃ k,k<=N/\Jx k W')
def leftAt (B:Nat) (Kp:World->World->Prop) (I:Nat->World->Prop) (Ix:Code->Nat->World->Prop) (k:Nat) (W:World) (e:Exit) (W':World):Prop :=
 KeepsFrom B W W'/\((e=.normal/\Kp W W'/\I (k+1) W')\/∃ c,((c=.ret/\e=.ret)\/(∃ i,c=.exit i/\e=.exit i))/\Ix c (k+1) W')
end Go.Proofs.YtnchnlgnnlgjcaaGreat
namespace Go.Proofs.YtnchnlgnnlgjcaaGreat
open Go.RowKit Go.Shelf
attribute [local go_sem] Oper.semAt_some
namespace Rt
open Rn (pl pl_lt pl_inj pl_shift pl_zero)
def tv (x:Tv):Value:=.agg #[key x,val x]
theorem all_any (g:Nat) (w:World) :
 Calls Tryz.prog 77 #[.pointer (some ⟨g,0,none⟩)] w fun e w'=>e=.returned (.func (.func 110) #[] #[.pointer (some ⟨w.heap.size,0,none⟩)])/\w'=w.alloc (.cells #[.pointer (some ⟨g,0,none⟩)] 107):=by
 go_enter Tryz.func77,Tryz.ntmps77
 go_wp2
 go_ret
 exact ⟨rfl,rfl⟩
def Kp (Bs g r:Nat) (A B:World):Prop:=B.heap[Bs]?=A.heap[Bs]?/\B.heap[g]?=A.heap[g]?/\B.heap[r]?=A.heap[r]?
theorem Kp.trans {Bs g r:Nat} {A B C:World} (h:Kp Bs g r A B) (k:Kp Bs g r B C):Kp Bs g r A C:=⟨k.1.trans h.1,k.2.1.trans h.2.1,k.2.2.trans h.2.2⟩
theorem kp_put {Bs g r:Nat} {w:World} (h1:Bs<w.heap.size) (h2:g<w.heap.size) (h3:r<w.heap.size) (W:World) (l:Nat) (o o':Obj) (hl:w.heap.size<=l) (_:W.heap[l]?=some o) (_:o.isCells=false) (_:o.isWalk=false):Kp Bs g r W (W.putObj l o') :=
 ⟨World.putObj_heap_other (by omega),World.putObj_heap_other (by omega),World.putObj_heap_other (by omega)⟩
set_option maxRecDepth 100000 in
set_option maxHeartbeats 2000000 in
theorem all1 (m:Nat) (hm:1<=m) (l Bs g r n f:Nat) (ls:List Tv) (J Jx:Nat->World->Prop)
 (hJ:∀ s A q,J s A->J s (A.drewN q))
 (hY:∀ k W,k<ls.length->J k W->YieldAt Fence.wide (m - 1) Tryz.prog l #[.int .i64 (k:Int),tv (nth ls k)] W fun e W' =>
   (e=.returned (.bool true)/\J (k+1) W'/\Kp Bs g r W W')\/(e=.returned (.bool false)/\Jx (k+1) W'))
 (W:World) (hBs:W.cell? ⟨Bs,0,none⟩=some (.pointer (some ⟨g,0,none⟩))) (hR:RingAt W g r n f ls) (h0:J 0 W) :
 CallsIn Fence.wide m Tryz.prog 110 #[.func (.yield l) #[] #[],.pointer (some ⟨Bs,0,none⟩)] W fun e W'=>(∃ v,e=.returned v) /\
  (J ls.length W'\/∃ k,k<=ls.length/\Jx k W'):=by
 have hmx:Tryz.prog.follows .mixedOrders=true:=by kernel_rfl
 obtain ⟨c0,c1,c2,_⟩:=hR.cells
 obtain ⟨n0,n1,n2⟩:=hR.nums
 obtain ⟨c,ec⟩:∃ c,ls.length=c:=⟨_,rfl⟩
 have EC:Hid (ls.length=c):=ec
 have HH:Hid (RingAt W g r n f ls):=hR
 rw [ec] at c2 n0
 refine callsIn_of_wp Tryz.func110 rfl trivial ?_ rfl
 simp only [Tryz.ntmps110,List.size_toArray,List.length_cons,List.length_nil,Nat.reduceAdd,Nat.reduceSub,Array.replicate_succ,Array.replicate_zero,List.push_toArray,List.append_toArray,List.nil_append,List.cons_append]
 clear ec hR
 gi_wp2
 gi_loopw [8] (fun i wr=>∃ k:Nat,k<=c/\i=.int .i64 k/\Hid (J k wr)/\Hid (Kp Bs g r W wr)) (fun i _=>c - (intOf i).toNat)
 case atStart=>exact ⟨0,Nat.zero_le _,rfl,h0,rfl,rfl,rfl⟩
 case round =>
  obtain ⟨k,hk,rfl,hJs,hnx⟩:=hrel
  by_cases hlt:k<c
  ·have RW:Hid (RingAt wr g r n f ls):=HH.out.of_block hnx.out.2.1 hnx.out.2.2
   have b0:wr.cell? ⟨Bs,0,none⟩=some (.pointer (some ⟨g,0,none⟩)):=(World.cell?_of_block (a:=⟨Bs,0,none⟩) hnx.out.1).trans hBs
   have d0:=RW.out.hd.c0
   have t:=RW.out.thing (i:=k) (by rw [EC.out];exact hlt)
   have hp:pl f n k<n:=pl_lt (by omega)
   obtain ⟨p,ep⟩:∃ p,pl f n k=p:=⟨_,rfl⟩
   have EP:Hid (pl f n k=p):=ep
   obtain ⟨x,ex⟩:∃ x,nth ls k=x:=⟨_,rfl⟩
   have EX:Hid (nth ls k=x):=ex
   rw [ep] at t hp
   rw [ex] at t
   obtain ⟨⟨xa,xn,xc⟩,⟨ya,yn,yc⟩⟩:=x
   obtain ⟨y1,y2⟩:=t
   have t1:wr.cell? ⟨r,p*2,none⟩=some (.slice xa xn xc):=y1
   have t2:wr.cell? ⟨r,p*2+1,none⟩=some (.slice ya yn yc):=y2
   clear y1 y2
   clear ep ex c0 c1 c2 hBs
   gi_wp2
   gi_region_with_o (first
    | (refine ⟨trivial,?_⟩;gi_at_call 96;refine (callsIn_wide.2 (place_any g r n f ls.length k p _ (RW.out.hd.keep ((Below.refl _ _).drew)) (by omega) n1 (by omega) (by omega) EP.out)).mono ?_;rintro e w' ⟨rfl,q,rfl⟩;obtain ⟨fn,tmps,assign,body,hy,hR⟩:=hY k (wr.drewN (1+q)) (by rw [EC.out];exact hlt) (hJ _ _ _ hJs.out);rw [EX.out] at hy;simp only [tv,key,val] at hy)
    | (refine hR.mono ?_;rintro e W3 hpost;obtain ⟨bq,rfl,hb⟩:∃ bq:Bool,e=.returned (.bool bq)/\Hid ((bq=true->J (k+1) W3/\Kp Bs g r (wr.drewN (1+q)) W3)/\(bq=false->Jx (k+1) W3)):=by {rcases hpost with ⟨h1,h2,h3⟩ | ⟨h1,h2⟩;exact ⟨true,h1,fun _=>⟨h2,h3⟩,fun h=>absurd h (by decide)⟩;exact ⟨false,h1,fun h=>absurd h (by decide),fun _=>h2⟩};clear hpost))
   all_goals
    cases bq with
    | true =>
      obtain ⟨hj,hk3⟩:=hb.out.1 rfl
      have KW:Hid (Kp Bs g r wr W3):=hk3
      have JW:Hid (J (k+1) W3):=hj
      clear hj hk3 hb
      gi_wp2
      go_roundw
      case rel=>exact ⟨k+1,by omega,by go_num,JW.out,hnx.out.trans KW.out⟩
      case measure=>simp [intOf];omega
    | false =>
      have hx:=hb.out.2 rfl
      gi_wp2
      refine bodyPost_ret (results_none rfl _ _ _) rfl ?_
      exact ⟨⟨_,rfl⟩,.inr ⟨k+1,by have:=EC.out;omega,hx⟩⟩
  ·have ek:k=c:=by omega
   subst ek
   gi_wp2
   go_end0
   exact ⟨⟨_,rfl⟩,.inl (by rw [EC.out];exact hJs.out)⟩
theorem all_stops (m:Nat) (hm:1<=m) (Bs g r n f:Nat) (ls:List Tv) (w:World) (hB:Bs<w.heap.size) (hBs:w.cell? ⟨Bs,0,none⟩=some (.pointer (some ⟨g,0,none⟩))) (hR:RingAt w g r n f ls) :
 SeqAt m Tryz.prog 110 #[.pointer (some ⟨Bs,0,none⟩)] (fun k=>#[Value.int .i64 (k:Int),tv (nth ls k)]) (Kp Bs g r) ls.length w:=fun l J Jx W hW hJ _ hY h0 =>
 all1 m hm l Bs g r n f ls J Jx (fun s A q h=>hJ s A (A.drewN q) none h ⟨rfl,rfl,rfl,Nat.le_refl _,fun _ _ _=>rfl⟩ (fun r e=>by cases e)) hY W ((hW.cell (p:=⟨Bs,0,none⟩) hB).trans hBs) (hR.keep hW) h0
end Rt
end Go.Proofs.YtnchnlgnnlgjcaaGreat
