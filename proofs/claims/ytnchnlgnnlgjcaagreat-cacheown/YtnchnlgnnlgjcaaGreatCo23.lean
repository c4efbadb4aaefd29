import Derived.Test.YtnchnlgnnlgjcaaGreatCo22
import Derived.Test.YtnchnlgnnlgjcaaGreatCo17
set_option linter.unusedVariables false
set_option linter.unusedSimpArgs false
namespace Go.Proofs.YtnchnlgnnlgjcaaGreat
open Go.RowKit
namespace Cc
open Rt (box_below)
def eOwn (S:Nat):El (List Int):=fun Q w c l=>∃ u,c 0=some u/\w.ownsRow S 21 1 u l.length (l.map (Value.int .i32))/\∀ q,u.ownBlock=some q->Q q
theorem carry_own (S:Nat):Carries 1 (eOwn S):=fun Q Q' w w' c c' l hk hs hc ⟨u,h1,h2,h3⟩ =>
 ⟨u,hc 0 (by decide) _ h1,Ca.own_at h2 fun g hg=>(hk g (h2.lt g hg).2 (h3 g hg)).2,fun q hq=>(hk q (h2.lt q hq).2 (h3 q hq)).1⟩
theorem full_own (S:Nat):Full 1 (eOwn S):=fun Q w c l ⟨u,h1,h2,h3⟩ j hj=>by
 obtain rfl:j=0:=by omega
 exact ⟨u,h1,Ca.own_cell h2⟩
theorem own_row {S:Nat} {Q:Nat->Prop} {w:World} {c:Nat->Option Value} {l:List Int} (h:eOwn S Q w c l) (hm:l.length<=maxLen):eRow Q w c l:=by
 obtain ⟨u,h1,h2,h3⟩:=h
 exact eRow_new h2 hm (fun q hq _=>h3 q hq) c h1
theorem acc_rows {S B:Nat} {Q Q':Nat->Prop} {w:World} {v:Value} {n:Nat} {ls:List (List Int)} {xs:List Value} (h:AccQ Q B 1 74 (eOwn S) w v n ls xs) (hm:∀ i (hi:i<ls.length),ls[i].length<=maxLen) (hB:∀ q,B<=q->q<w.heap.size->Q' q) (hQ:∀ q,Q q->q<w.heap.size->Q' q) :
 ∃ a cap,v=.slice a n cap/\SlQ Q' 1 eRow w a ls/\n<=cap/\cap<=maxLen/\(a=none->cap=0):=by
 obtain ⟨h1,h2,_,h4⟩:=h
 exact slq_of_own h1 h2 (fun q hq=>hB q (h1.lt q hq).1 (h1.lt q hq).2) fun i hi c hc=>own_row (carry_own S _ _ w w c c _ (fun q _ hq=>⟨hQ q hq.1 hq.2.1,rfl⟩) (Nat.le_refl _) (fun _ _ _ h=>h) (h4 i hi c hc)) (hm i hi)
def Loose (Z:Nat->Prop) (w:World) (u:Value):Prop:=∃ a l c,u=.slice a l c/\l<=35184372087808/\(0<l->∃ b n f,a=some ⟨b,0,none⟩/\Z b/\w.rowIs b 21 n f/\l<=n/\∀ j,j<l->∃ y,f j=.int .i32 y)
theorem loose_of_own {Z:Nat->Prop} {S:Nat} {w:World} {u:Value} {l:List Int} (h:w.ownsRow S 21 1 u l.length (l.map (Value.int .i32))) (hl:l.length<=35184372087808) (hZ:∀ q,u.ownBlock=some q->Z q):Loose Z w u:=by
 by_cases h0:0<l.length
 ·obtain ⟨g,cap,F,e,hb,hr,hn,hc⟩:=row_of_own h h0
  refine ⟨_,_,_,e,hl,fun _=>⟨g,cap,F,rfl,hZ g (by rw [e];rfl),hr,hn,fun j hj=>⟨l[j],?_⟩⟩⟩
  have:=hc j hj
  simpa [hj] using this
 ·obtain ⟨a,c,e⟩:=Ca.own_slice h
  exact ⟨a,l.length,c,e,hl,fun q=>by omega⟩
def Spoil (Z:Nat->Prop) (w w':World):Prop:=(w'.os=w.os/\w'.tape=w.tape/\w'.output=w.output)/\w.heap.size<=w'.heap.size/\∀ x,x<w.heap.size->¬ Z x->w'.heap[x]?=w.heap[x]?
theorem Spoil.refl (Z:Nat->Prop) (w:World):Spoil Z w w:=⟨⟨rfl,rfl,rfl⟩,Nat.le_refl _,fun _ _ _=>rfl⟩
theorem Spoil.set {Z:Nat->Prop} {w w':World} (h:Spoil Z w w') {b:Nat} (hb:Z b) (o:Nat) (v:Value):Spoil Z w (w'.setCell ⟨b,o,none⟩ v) :=
 ⟨⟨h.1.1,h.1.2.1,h.1.2.2⟩,Nat.le_trans h.2.1 (by simp [World.setCell]),fun x hx0 hx=>by rw [Below.heap_setCell _ _ _ _ (show x ≠ b from fun e=>hx (by rw [e];exact hb))];exact h.2.2 x hx0 hx⟩
theorem Spoil.grown {Z:Nat->Prop} {w w':World} {o:Option Nat} (h:w.grownBy w' o) (hz:∀ q,o=some q->Z q):Spoil Z w w' :=
 ⟨⟨h.os,h.tape,h.output⟩,h.size,fun x hx hn=>h.block x hx fun e=>hn (hz x e.symm)⟩
theorem Spoil.below {Z:Nat->Prop} {B:Nat} {w0 w w':World} (h:Spoil Z w w') (hb:Below B w0 w) (hB:B<=w.heap.size) (hz:∀ x,x<B->¬ Z x):Below B w0 w' :=
 ⟨h.1.1.trans hb.os,h.1.2.1.trans hb.tape,h.1.2.2.trans hb.output,Nat.le_trans hb.size h.2.1,fun x hx=>(h.2.2 x (by omega) (hz x hx)).trans (hb.block x hx)⟩
theorem acc_mono {S S':Nat} {w:World} {v:Value} {n:Nat} {ls:List (List Int)} {xs:List Value} (h:AccQ (fun q=>S'<=q) S' 1 74 (eOwn S') w v n ls xs) (hS:S<=S'):AccQ (fun q=>S<=q) S 1 74 (eOwn S) w v n ls xs:=by
 obtain ⟨h1,h2,h3,h4⟩:=h
 refine ⟨own_monoB h1 hS,h2,h3,fun i hi c hc=>?_⟩
 obtain ⟨u,q1,q2,q3⟩:=h4 i hi c hc
 exact ⟨u,q1,own_monoB q2 hS,fun q hq=>⟨Nat.le_trans hS (q3 q hq).1,(q3 q hq).2⟩⟩
theorem Loose.set {Z:Nat->Prop} {w:World} {u:Value} (h:Loose Z w u) (b j:Nat) (y:Int):Loose Z (w.setCell ⟨b,j,none⟩ (.int .i32 y)) u:=by
 obtain ⟨a,l,c,e,hl,hr⟩:=h
 refine ⟨a,l,c,e,hl,fun h0=>?_⟩
 obtain ⟨b',n,f,ea,hz,hb,hn,hc⟩:=hr h0
 by_cases hbb:b'=b
 ·subst hbb
  refine ⟨b',n,fun i=>if i=j then .int .i32 y else f i,ea,hz,(hb.set j (.int .i32 y)).congr (fun i hi=>rfl),hn,fun i hi=>?_⟩
  by_cases hij:i=j
  ·exact ⟨y,if_pos hij⟩
  ·obtain ⟨z,hz⟩:=hc i hi
   exact ⟨z,by show (if i=j then _ else f i)=_;rw [if_neg hij];exact hz⟩
 ·exact ⟨b',n,f,ea,hz,hb.setOther (by show b' ≠ b;exact hbb) _,hn,hc⟩
theorem acc_slq {S B:Nat} {Q Q':Nat->Prop} {w:World} {v:Value} {n:Nat} {ls:List (List Int)} {xs:List Value} (h:AccQ Q B 1 74 (eOwn S) w v n ls xs) (hB:∀ q,B<=q->q<w.heap.size->Q' q) (hQ:∀ q,Q q->q<w.heap.size->Q' q) :
 ∃ a cap,v=.slice a n cap/\SlQ Q' 1 (eOwn S) w a ls/\n<=cap/\cap<=maxLen/\(a=none->cap=0):=by
 obtain ⟨h1,h2,_,h4⟩:=h
 exact slq_of_own h1 h2 (fun q hq=>hB q (h1.lt q hq).1 (h1.lt q hq).2) fun i hi c hc=>carry_own S _ _ w w c c _ (fun q _ hq=>⟨hQ q hq.1 hq.2.1,rfl⟩) (Nat.le_refl _) (fun _ _ _ h=>h) (h4 i hi c hc)
theorem acc_bound {S B:Nat} {Q:Nat->Prop} {w:World} {v:Value} {n:Nat} {ls:List (List Int)} {xs:List Value} (h:AccQ Q B 1 74 (eOwn S) w v n ls xs):AccQ (fun q=>Q q/\q<w.heap.size) B 1 74 (eOwn S) w v n ls xs :=
 ⟨h.1,h.2.1,h.2.2.1,fun i hi c hc=>carry_own S _ _ w w c c _ (fun q _ hq=>⟨⟨⟨hq.1,hq.2.1⟩,hq.2⟩,rfl⟩) (Nat.le_refl _) (fun _ _ _ h=>h) (h.2.2.2 i hi c hc)⟩
theorem puts_z {B n q:Nat} {w w':World} {v:Value} {xs:List Value} {co:Nat->Nat} (hg:w.grownBy w' v.ownBlock) (ho:w.ownsRow B 74 1 v n xs) (hl:q<w.heap.size) (ht:Ty w q 21) (hc:co q=999):(co q=999/\Ty w' q 21)/\w'.heap[q]?=w.heap[q]?:=by
 have e:=hg.block q hl fun e=>ht.ne (ty_own ho e.symm) (by decide) rfl
 exact ⟨⟨hc,ht.of_block e⟩,e⟩
theorem rows_loose {S B:Nat} {Q1 Q2 Z:Nat->Prop} {w w':World} {v:Value} {n:Nat} {ks vs:List (List Int)} {xs news:List Value} (h1:AccQ Q1 B 1 74 (eOwn S) w v n ks xs) (hn:news.length=vs.length*1) (h2:∀ i (hi:i<vs.length) (c:Nat->Option Value),(∀ j,j<1->c j=news[i*1+j]?)->eOwn S Q2 w c vs[i])
 (kl:∀ i (hi:i<ks.length),ks[i].length<=35184372087808) (vl:∀ i (hi:i<vs.length),vs[i].length<=35184372087808) (hz1:∀ q,Q1 q->q<w.heap.size->Ty w q 21->Z q/\w'.heap[q]?=w.heap[q]?) (hz2:∀ q,Q2 q->q<w.heap.size->Ty w q 21->Z q/\w'.heap[q]?=w.heap[q]?) :
 ∀ (i:Nat) (u:Value),(xs ++ news)[i]?=some u->Loose Z w' u:=fun i u hu=>by
 obtain ⟨o1,e1,e2,h4⟩:=h1
 have each:∀ {Q:Nat->Prop} {l:List Int},(∀ q,Q q->q<w.heap.size->Ty w q 21->Z q/\w'.heap[q]?=w.heap[q]?)->l.length<=35184372087808->(∃ c:Nat->Option Value,c 0=some u/\eOwn S Q w c l)->Loose Z w' u:=fun hz hl ⟨c,hc,u',q1,q2,q3⟩=>by
  rw [hc] at q1
  cases q1
  have tq:∀ q,u.ownBlock=some q->Z q/\w'.heap[q]?=w.heap[q]?:=fun q hq=>hz q (q3 q hq) (q2.lt q hq).2 (ty_own q2 hq)
  exact loose_of_own (Ca.own_at q2 fun q hq=>(tq q hq).2) hl fun q hq=>(tq q hq).1
 by_cases hi:i<xs.length
 ·rw [List.getElem?_append_left hi] at hu
  have hk:i<ks.length:=by omega
  exact each (fun q hq hl ht=>hz1 q hq.1 hl ht) (kl i hk) ⟨fun j=>xs[i*1+j]?,by show xs[i*1+0]?=_;rw [show i*1+0=i by omega];exact hu,h4 i hk _ fun j _=>rfl⟩
 ·rw [List.getElem?_append_right (by omega)] at hu
  have hi2:i - xs.length<news.length:=(List.getElem?_eq_some_iff.1 hu).1
  have hk:i - xs.length<vs.length:=by omega
  exact each hz2 (vl _ hk) ⟨fun j=>news[(i - xs.length)*1+j]?,by show news[(i - xs.length)*1+0]?=_;rw [show (i - xs.length)*1+0=i - xs.length by omega];exact hu,h2 _ hk _ fun j _=>rfl⟩
set_option maxRecDepth 100000 in
set_option maxHeartbeats 1600000 in
theorem lists_own {Q:Nat->Prop} (a:Option Addr) (c:Nat) (ls:List (List Int)) (w:World) (h:SlQ Q 1 eRow w a ls) (hl:ls.length<=1000) (hb:∀ k,k<ls.length->(Ca.nt ls k).length<=35184372087808) :
 Calls Tryz.prog 82 #[.slice a ls.length c] w fun e w'=>∃ v xs,e=.returned v/\AccQ (fun q=>w.heap.size<=q) w.heap.size 1 74 (eOwn w.heap.size) w' v ls.length ls xs/\Below w.heap.size w w':=by
 obtain ⟨i1,hi10,hi11,hi12,hi13⟩:=info_parts Ca.infoRow
 have HR:Hid (SlQ Q 1 eRow w a ls):=h
 have HB:Hid (∀ k,k<ls.length->(Ca.nt ls k).length<=35184372087808):=hb
 clear h hb
 go_enter Tryz.func82,Tryz.ntmps82
 go_wp2
 go_loopw [3,8] (fun v i wq=>∃ (k:Nat) (xs:List Value),k<=ls.length/\i=.int .i64 k/\Hid (AccQ (fun q=>w.heap.size<=q) w.heap.size 1 74 (eOwn w.heap.size) wq v k (ls.take k) xs)/\Hid (Below w.heap.size w wq)) (fun _ i _=>ls.length - (intOf i).toNat)
 case atStart=>exact ⟨0,[],Nat.zero_le _,rfl,acc_nil _ _ _ _ _ _,Below.refl _ _⟩
 case round =>
  obtain ⟨k,xs,hk,rfl,AC,B0⟩:=hrel
  by_cases hlt:k<ls.length
  ·obtain ⟨b,o,rfl,-,-,hcs⟩:=(HR.out.keep carry_row B0.out).cells (by omega)
   obtain ⟨A,C,hck,-,hm,hn,hS⟩:=hcs k hlt
   have hs:=B0.out.size
   have HA:Hid (Lst .i32 wr A (Ca.nt ls k)):=hS.lst
   have HN:Hid (A=none->C=0):=hn
   have hkl:=HB.out k hlt
   unfold maxLen at hm
   clear hcs hn hS
   go_wp2_with (first
    | (at_builtin;refine wpList_append_lst rfl _ _ 74 rfl wr.heap.size 21 .i32 4 Tryz.underlying74 Tryz.infoInt32 _ 0 [] (by rfl) (World.ownsRow_made wr #[] 0 (Nat.le_refl _) (by decide) rfl) A (Ca.nt ls k) C (by rfl) (HA.out.keep (box_below _ _)) HN.out (by unfold maxLen;omega) (by omega) (by simp) ?_;intro v1 u1 ho1 hg1;simp only [Nat.zero_add,List.nil_append] at ho1;obtain ⟨va,vc,rfl⟩:=Ca.own_slice ho1;have O1:Hid (u1.ownsRow wr.heap.size 21 1 (.slice va (Ca.nt ls k).length vc) (Ca.nt ls k).length ((Ca.nt ls k).map (Value.int .i32))):=ho1;have B1:Hid (Below wr.heap.size wr u1):=(box_below _ _).grown hg1 (by simp) (by intro k hk;cases hk;exact Nat.le_refl _);clear ho1 hg1)
    | (at_builtin;refine wpList_append_lies _ rfl _ _ _ rfl w.heap.size 74 i1 _ 1 24 Tryz.underlying42 hi10 hi11 hi12 hi13 rfl (by omega) _ k xs (by rfl) (((AC.out.to (carry_own _) B1.out).to (carry_own _) (box_below _ _)).1) ⟨u1.heap.size,0,none⟩ 1 1 [.slice va (Ca.nt ls k).length vc] (by rfl) (by rfl) (World.news_of_block (cs:=#[.slice va (Ca.nt ls k).length vc]) (t:=74) (fr:=(0,0)) (heap_alloc_new u1 _)) (fun x hx=>by simp at hx;subst hx;exact Ca.own_cell O1.out) (by omega) (by unfold maxLen;omega) (by omega) (by have:=B1.out.size;simp;omega) (u1.heap.size+1) (by simp) ?_;intro gg cap w1 hown1 hgrow hat hlt1;have O2:Hid (w1.ownsRow w.heap.size 74 1 (.slice (some ⟨gg,0,none⟩) (k+1) cap) (k+1) (xs ++ [.slice va (Ca.nt ls k).length vc])):=hown1;have G2:Hid ((u1.alloc (.cells #[.slice va (Ca.nt ls k).length vc] 74)).grownBy w1 u3.ownBlock):=hgrow;have AT:Hid ((u3.ownBlock=some gg\/gg=u1.heap.size+1)/\gg<w1.heap.size):=⟨hat,hlt1⟩;clear hown1 hgrow hat hlt1))
   go_roundw
   case rel =>
    refine ⟨k+1,xs ++ [.slice va (Ca.nt ls k).length vc],by omega,by go_num,?_,?_⟩
    ·have A2:=(AC.out.to (carry_own _) B1.out).to (carry_own _) (box_below u1 (.cells #[.slice va (Ca.nt ls k).length vc] 74))
     have e:ls.take (k+1)=ls.take k ++ [Ca.nt ls k]:=by rw [Ca.nt_at hlt,List.take_succ_eq_append_getElem hlt]
     have hs1:=B1.out.size
     rw [e]
     refine A2.snoc (carry_own _) O2.out rfl G2.out ?_ fun c hc=>?_
     ·rcases AT.out.1 with q | q
      ·exact .inl q
      ·right;simp;exact q
     ·refine ⟨.slice va (Ca.nt ls k).length vc,by rw [hc 0 (by decide)];rfl,own_monoB (Ca.own_at O1.out fun g hg=>(box_below _ _).block g (O1.out.lt g hg).2) hs,fun q hq=>?_⟩
      have h2:=O1.out.lt q hq
      refine ⟨by omega,by simp;omega,fun e=>?_⟩
      have h1:=(AC.out.1.lt q e).2
      omega
    ·exact ((B0.out.trans (B1.out.mono hs)).alloc (by have:=B1.out.size;omega) _).grown G2.out (by have:=B1.out.size;simp;omega) (fun q hq=>(AC.out.1.lt q hq).1)
   case measure=>simp [intOf];omega
  ·have ek:k=ls.length:=by omega
   subst ek
   go_wp2
   go_ret
   have A3:=AC.out
   rw [List.take_length] at A3
   exact ⟨_,xs,rfl,A3,B0.out⟩
end Cc
end Go.Proofs.YtnchnlgnnlgjcaaGreat
namespace Go.Proofs.YtnchnlgnnlgjcaaGreat
open Go.RowKit
namespace Cc
theorem piece_snoc (G:Nat) (L:List Tok) (x:Tok) {i:Nat} (h:i*G+G<=L.length):Ca.piece G (L ++ [x]) i=Ca.piece G L i:=by
 unfold Ca.piece
 rw [List.drop_append_of_le_length (by omega),List.take_append_of_le_length (by rw [List.length_drop];omega)]
theorem pg_snoc (m0 m1 s0 s1 G D ly hd:Nat) (L:List Tok) (x:Tok) {i:Nat} (h:i*G+G<=L.length):Ca.pg m0 m1 s0 s1 G D ly hd (L ++ [x]) i=Ca.pg m0 m1 s0 s1 G D ly hd L i:=by
 unfold Ca.pg
 rw [piece_snoc G L x h]
theorem mul_next {i q G:Nat} (h:i<q):i*G+G<=q*G:=by
 have:=Nat.mul_le_mul_right G (show i+1<=q by omega)
 rw [Nat.add_mul] at this
 omega
theorem CaIn.push {w w2 w3:World} {col:Nat->Nat} {c g b C H D G W:Nat} {ls:List (Int × Int)} {M:List Int} {L:Nat->List Int} {cnt:List Int} {tk:Nat->List Tok} {q:Nat->Nat}
 {al:Option Addr} {cl T pb pc ct cc:Nat} {rg rs:Nat->Nat} {F:Nat->Value} (h:CaIn w col c g C H D G W ls M L cnt tk q al cl T pb pc ct cc rg rs F)
 (hfr:∀ x,w.heap.size<=x->col x=0) (c0:¬ c=0) {r f:Nat} {l:List Rt.Tv} {x:Rt.Tv} {tok:Tok} (rlt:r<ls.length*H)
 (hlen:l.length+q r*G=(tk r).length) (htv:∀ i (h:q r*G+i<(tk r).length),TvAt col w (Rt.nth l i) (tk r)[q r*G+i] (r % H))
 (hb:Below w.heap.size w w2) (hbt:Rt.But (rg r) (rs r) w2 w3) (hring:Rt.RingAt w3 (rg r) (rs r) (W+G) f (l ++ [x])) (hx:TvAt col w2 x tok (r % H)) :
 CaAt w3 col c g C H D G W ls M L cnt (fun i=>if i=r then tk r ++ [tok] else tk i) q/\Chg c g b w w3 col col:=by
 obtain ⟨⟨hC,zC⟩,⟨hl,hln⟩,⟨hT,zT⟩,⟨hc,hcl,zc⟩,⟨hpb,hF,hpc,zp⟩,hdis,hrow⟩:=h
 have hs2:=hb.size
 have hs3:=hbt.size
 obtain ⟨_,_,_,_,l0,hrg0,_,_,crg,crs⟩:=hrow r rlt
 have trg:=hrg0.tys
 have tct:Ty w ct 3:=ty_own hc rfl
 have far:∀ y,y<w.heap.size->¬ y=rg r->¬ y=rs r->w3.heap[y]?=w.heap[y]?:=fun y hy n1 n2=>(hbt.2 y (by omega) n1 n2).trans (hb.block y hy)
 have f0:∀ y,y<w.heap.size->col y=0->w3.heap[y]?=w.heap[y]?:=fun y hy h0=>far y hy (fun e=>c0 (by rw [<-crg,<-e];exact h0)) (fun e=>c0 (by rw [<-crs,<-e];exact h0))
 have k0:∀ y,y<w.heap.size->col y=0->col y=0/\w3.heap[y]?=w.heap[y]?:=fun y hy h0=>⟨h0,f0 y hy h0⟩
 have hc2:col (rg r)=c/\col (rs r)=c:=⟨crg,crs⟩
 have bg:Chg c g b w w3 col col:=by
  refine Chg.of_but ⟨hbt.1.os.trans hb.os,hbt.1.tape.trans hb.tape,hbt.1.output.trans hb.output,by omega,fun j h0 _ _ h3=>?_⟩ hfr
  have h3:¬ col j=c:=h3
  exact far j h0 (fun e=>h3 (by rw [e];exact crg)) (fun e=>h3 (by rw [e];exact crs))
 refine ⟨⟨al,cl,T,pb,pc,ct,cc,rg,rs,F,⟨hC.of_block (f0 C hC.lt zC),zC⟩,⟨hl.carry k0 (by omega),hln⟩,⟨?_,zT⟩,⟨?_,hcl,zc⟩,⟨hpb.of_block (f0 pb hpb.lt zp),hF,hpc,zp⟩,hdis,fun i hi=>?_⟩,bg⟩
 ·exact hT.stand (f0 T hT.lt zT) fun y _ ht=>far y (by rcases ht with t | t <;> exact t.lt) (by rcases ht with t | t <;> exact t.ne trg.1 (by decide)) (by rcases ht with t | t <;> exact t.ne trg.2 (by decide))
 ·exact own_at hc fun y ey=>by cases ey;exact far ct tct.lt (tct.ne trg.1 (by decide)) (tct.ne trg.2 (by decide))
 ·by_cases ei:i=r
  ·subst ei
   show RowIn w3 col c M G D (W+G) ls (i / H) (i % H) (rg i) (rs i) (L i) (if i=i then tk i ++ [tok] else tk i) (q i)
   rw [if_pos rfl]
   obtain ⟨h1,h2,h3,_⟩:=hrow i hi
   refine ⟨h1,by rw [List.length_append];omega,fun j hj=>?_,f,l ++ [x],hring,by rw [List.length_append,List.length_append];show l.length+1+_=_+1;omega,fun j hj=>?_,crg,crs⟩
   ·obtain ⟨p,e,hp⟩:=h3 j hj
    refine ⟨p,e,?_⟩
    rw [pg_snoc _ _ _ _ _ _ _ _ _ _ (Nat.le_trans (mul_next hj) h2)]
    exact hp.carry k0
   ·by_cases ej:q i*G+j<(tk i).length
    ·rw [Rt.nth_left (by omega)]
     rw [List.getElem_append_left ej]
     exact (htv j ej).carry k0 (by omega)
    ·have hj':q i*G+j<(tk i).length+1:=by rw [List.length_append] at hj;exact hj
     rw [Rt.nth_last (by omega)]
     rw [List.getElem_append_right (by omega)]
     simp only [show q i*G+j - (tk i).length=0 by omega,List.getElem_cons_zero]
     refine hx.carry (fun y hy h0=>⟨h0,?_⟩) hs3
     exact hbt.2 y hy (fun e=>c0 (by rw [<-crg,<-e];exact h0)) (fun e=>c0 (by rw [<-crs,<-e];exact h0))
  ·show RowIn w3 col c M G D (W+G) ls (i / H) (i % H) (rg i) (rs i) (L i) (if i=r then tk r ++ [tok] else tk i) (q i)
   rw [if_neg ei]
   obtain ⟨_,_,_,fi,li,hri,_,_,ci,ci2⟩:=hrow i hi
   have n1:¬ rg i=rg r:=fun e=>ei (hdis i r hi rlt (.inl e))
   have n2:¬ rs i=rs r:=fun e=>ei (hdis i r hi rlt (.inr e))
   have n3:¬ rg i=rs r:=hri.tys.1.ne trg.2 (by decide)
   have n4:¬ rs i=rg r:=hri.tys.2.ne trg.1 (by decide)
   exact (hrow i hi).carry k0 (by omega) ⟨rfl,far _ hri.lt.1 n1 n3⟩ ⟨rfl,far _ hri.lt.2 n4 n2⟩ fun _ _=>rfl
theorem cn_set {n t k:Nat} (hk:k<n):(cn n t k).set k ((t:Int)+1)=if k+1=n then cn n (t+1) 0 else cn n t (k+1):=by
 refine Ls.ext_nth (by split <;> simp [cn]) fun i hi=>?_
 have hi:i<n:=by simpa [cn] using hi
 rw [Po.nth_set (by rw [cn_length];exact hk)]
 by_cases e:k+1=n
 ·rw [if_pos e,nth_cn hi,nth_cn hi]
  unfold lv
  by_cases e2:i=k
  ·rw [if_pos e2,if_neg (Nat.not_lt_zero _)];omega
  ·rw [if_neg e2,if_pos (by omega),if_neg (Nat.not_lt_zero _)]
 ·rw [if_neg e,nth_cn hi,nth_cn hi]
  unfold lv
  by_cases e2:i=k
  ·rw [if_pos e2,if_pos (by omega)];omega
  ·rw [if_neg e2]
   by_cases e3:i<k
   ·rw [if_pos e3,if_pos (by omega)]
   ·rw [if_neg e3,if_neg (by omega)]
theorem CaIn.count {w:World} {col:Nat->Nat} {c g b C H D G W:Nat} {ls:List (Int × Int)} {M:List Int} {L:Nat->List Int} {cnt:List Int} {tk:Nat->List Tok} {q:Nat->Nat}
 {al:Option Addr} {cl T pb pc ct cc:Nat} {rg rs:Nat->Nat} {F:Nat->Value} (h:CaIn w col c g C H D G W ls M L cnt tk q al cl T pb pc ct cc rg rs F) (hfr:∀ x,w.heap.size<=x->col x=0) (c0:¬ c=0) (k:Nat) (x:Int) :
 CaAt (w.setCell ⟨ct,k,none⟩ (.int .i64 x)) col c g C H D G W ls M L (cnt.set k x) tk q/\Chg c g b w (w.setCell ⟨ct,k,none⟩ (.int .i64 x)) col col:=by
 obtain ⟨⟨hC,zC⟩,⟨hl,hln⟩,⟨hT,zT⟩,⟨hc,hcl,zc⟩,⟨hpb,hF,hpc,zp⟩,hdis,hrow⟩:=h
 have tct:Ty w ct 3:=ty_own hc rfl
 have far:∀ y,¬ y=ct->(w.setCell ⟨ct,k,none⟩ (.int .i64 x)).heap[y]?=w.heap[y]?:=fun y n=>Below.heap_setCell _ _ _ _ (show y ≠ ct from n)
 have f0:∀ y,col y=0->(w.setCell ⟨ct,k,none⟩ (.int .i64 x)).heap[y]?=w.heap[y]?:=fun y h0=>far y fun e=>c0 (by rw [<-zc,<-e];exact h0)
 have k0:∀ y,y<w.heap.size->col y=0->col y=0/\(w.setCell ⟨ct,k,none⟩ (.int .i64 x)).heap[y]?=w.heap[y]?:=fun y _ h0=>⟨h0,f0 y h0⟩
 have hs:w.heap.size<=(w.setCell ⟨ct,k,none⟩ (.int .i64 x)).heap.size:=((Below.refl 0 w).setCell (p:=⟨ct,k,none⟩) (Nat.zero_le _) _).size
 refine ⟨⟨al,cl,T,pb,pc,ct,cc,rg,rs,F,⟨hC.of_block (f0 C zC),zC⟩,⟨hl.carry k0 hs,hln⟩,⟨?_,zT⟩,⟨?_,by rw [List.length_set];exact hcl,zc⟩,⟨hpb.of_block (f0 pb zp),hF,hpc,zp⟩,hdis,fun i hi=>?_⟩,?_⟩
 ·exact hT.stand (f0 T zT) fun y hq _=>far y hq.2
 ·have:=(hc.stored k (.int .i64 x)).1
  rw [<-List.map_set] at this
  exact this
 ·obtain ⟨_,_,_,fi,li,hri,_,_,ci,ci2⟩:=hrow i hi
  exact (hrow i hi).carry k0 hs ⟨rfl,far _ (hri.tys.1.ne tct (by decide))⟩ ⟨rfl,far _ (hri.tys.2.ne tct (by decide))⟩ fun _ _=>rfl
 ·have hb:=(Below.refl 0 w).setCell (p:=⟨ct,k,none⟩) (Nat.zero_le _) (.int .i64 x)
  exact Chg.of_but ⟨hb.os,hb.tape,hb.output,hs,fun j _ _ _ h3=>far j fun e=>h3 (show col j=c by rw [e];exact zc)⟩ hfr
def Flow (n m:Nat) (R M:List Int) (L:Nat->List Int) (R' M':List Int) (L':Nat->List Int) (a:Nat):Prop :=
 R'.length=n/\M'.length=n/\Po.cnt R'+a=Po.cnt R/\(∀ x:Nat,x<n->Ls.nth R' x+Bk.occ x (Bk.flat L m)=Ls.nth R x+Bk.occ x (Bk.flat L' m))/\(∀ i,i<m->∀ x,x ∈ L' i->0<=x/\x<n/\0<Ls.nth R' x.toNat) /\
  (∀ x:Nat,x<n->0<Ls.nth R x->Ls.nth R' x=Ls.nth R x/\Ls.nth M' x=Ls.nth M x)/\Bk.len L' m=Bk.len L m+a/\∀ x:Nat,x<n->Ls.nth R x<=0->Ls.nth R' x<=1
theorem Flow.refl {n m:Nat} {R M:List Int} {L:Nat->List Int} (hR:R.length=n) (hM:M.length=n) (hL:∀ i,i<m->∀ x,x ∈ L i->0<=x/\x<n/\0<Ls.nth R x.toNat):Flow n m R M L R M L 0 :=
 ⟨hR,hM,rfl,fun _ _=>rfl,hL,fun _ _ _=>⟨rfl,rfl⟩,rfl,fun _ _ h=>Int.le_trans h (by decide)⟩
theorem Flow.step {n m:Nat} {R M R' M':List Int} {L L':Nat->List Int} {a:Nat} (h:Flow n m R M L R' M' L' a) (h0:∀ i,0<=Ls.nth R i) {kf r:Nat} (hk:kf<n) (hz:Ls.nth R' kf=0) (hr:r<m) (y:Int) :
 Flow n m R M L (R'.set kf 1) (M'.set kf y) (Bk.up L' r (L' r ++ [(kf:Int)])) (a+1):=by
 obtain ⟨h1,h2,h3,h4,h5,h6,h7,h8⟩:=h
 have hk1:kf<R'.length:=by omega
 have hk2:kf<M'.length:=by omega
 refine ⟨by simp [h1],by simp [h2],?_,fun x hx=>?_,fun i hi x hx=>?_,fun x hx hp=>?_,?_,fun x hx hp=>?_⟩
 ·have:=Po.cnt_set hk1 1
  rw [if_pos hz,if_neg (by decide)] at this
  omega
 ·rw [Po.nth_set hk1,Bk.occ_up L' hr]
  have:=h4 x hx
  by_cases e:x=kf
  ·subst e
   rw [if_pos rfl,if_pos rfl]
   rw [hz] at this
   omega
  ·rw [if_neg e,if_neg (by omega)]
   omega
 ·by_cases ei:i=r
  ·subst ei
   rw [Bk.up_at] at hx
   rcases List.mem_append.1 hx with hx | hx
   ·obtain ⟨x0,x1,x2⟩:=h5 i hi x hx
    refine ⟨x0,x1,?_⟩
    rw [Po.nth_set hk1]
    split
    ·decide
    ·exact x2
   ·have e:=List.mem_singleton.1 hx
    subst e
    refine ⟨by omega,by omega,?_⟩
    rw [Int.toNat_natCast,Po.nth_set hk1,if_pos rfl]
    decide
  ·rw [Bk.up_off L' _ ei] at hx
   obtain ⟨x0,x1,x2⟩:=h5 i hi x hx
   refine ⟨x0,x1,?_⟩
   rw [Po.nth_set hk1]
   split
   ·decide
   ·exact x2
 ·obtain ⟨e1,e2⟩:=h6 x hx hp
  have n1:¬ x=kf:=fun e=>by subst e;rw [hz] at e1;omega
  rw [Po.nth_set hk1,if_neg n1,Po.nth_set hk2,if_neg n1]
  exact ⟨e1,e2⟩
 ·rw [Bk.len_up L' hr,h7]
  omega
 ·rw [Po.nth_set hk1]
  split
  ·decide
  ·exact h8 x hx hp
end Cc
end Go.Proofs.YtnchnlgnnlgjcaaGreat
namespace Go.Proofs.YtnchnlgnnlgjcaaGreat
open Go.RowKit
namespace Cc
def vk (ls:List (Int × Int)) (G D ly hd:Nat) (l:List Tok) (q:Nat):List (List Int):=Ca.flat G (Ca.keyAt (mk ls ly) (mv ls ly) (top (mk ls ly)) (top (mv ls ly)) G D ly hd l) q ++ Ca.ksOf (l.drop (q*G)) hd
def vv (ls:List (Int × Int)) (G D ly hd:Nat) (l:List Tok) (q:Nat):List (List Int):=Ca.flat G (Ca.valAt (mk ls ly) (mv ls ly) (top (mk ls ly)) (top (mv ls ly)) G D ly hd l) q ++ Ca.vsOf (l.drop (q*G)) hd
def TwoU (B:Nat) (w:World) (v1 v2:Value) (n1 n2:Nat) (l1 l2:List (List Int)) (xs ys:List Value):Prop :=
 ∃ K:Nat->Prop,AccQ K B 1 74 eUn w v1 n1 l1 xs/\AccQ K B 1 74 eUn w v2 n2 l2 ys/\(∀ q,K q->B<=q/\q<w.heap.size/\¬ v1.ownBlock=some q/\¬ v2.ownBlock=some q)/\∀ q,v1.ownBlock=some q->¬ v2.ownBlock=some q
theorem twoU_nil (B:Nat) (w:World):TwoU B w (.slice none 0 0) (.slice none 0 0) 0 0 [] [] [] [] :=
 ⟨fun _=>False,acc_nil _ _ _ _ _ _,acc_nil _ _ _ _ _ _,(fun q h=>h.elim),(fun q e=>absurd (show (none:Option Nat)=some q from e) (by simp))⟩
theorem TwoU.swap {B:Nat} {w:World} {v1 v2:Value} {n1 n2:Nat} {l1 l2:List (List Int)} {xs ys:List Value} (h:TwoU B w v1 v2 n1 n2 l1 l2 xs ys):TwoU B w v2 v1 n2 n1 l2 l1 ys xs:=by
 obtain ⟨K,h1,h2,h3,h4⟩:=h
 exact ⟨K,h2,h1,fun q hq=>⟨(h3 q hq).1,(h3 q hq).2.1,(h3 q hq).2.2.2,(h3 q hq).2.2.1⟩,fun q e f=>h4 q f e⟩
theorem TwoU.to {B:Nat} {w u:World} {v1 v2:Value} {n1 n2:Nat} {l1 l2:List (List Int)} {xs ys:List Value} (h:TwoU B w v1 v2 n1 n2 l1 l2 xs ys) (hb:Below w.heap.size w u):TwoU B u v1 v2 n1 n2 l1 l2 xs ys:=by
 obtain ⟨K,h1,h2,h3,h4⟩:=h
 exact ⟨K,h1.to carry_un hb,h2.to carry_un hb,fun q hq=>⟨(h3 q hq).1,by have:=(h3 q hq).2.1;have:=hb.size;omega,(h3 q hq).2.2⟩,h4⟩
theorem TwoU.own {B:Nat} {w:World} {v1 v2:Value} {n1 n2:Nat} {l1 l2:List (List Int)} {xs ys:List Value} (h:TwoU B w v1 v2 n1 n2 l1 l2 xs ys):w.ownsRow B 74 1 v1 n1 xs:=by
 obtain ⟨K,h1,_⟩:=h
 exact h1.1
theorem TwoU.rest {B:Nat} {w w3:World} {v1 v2:Value} {n1 n2 m gg cap:Nat} {l1 l2 r:List (List Int)} {xs ys news:List Value} {R:Nat->Prop} (h:TwoU B w v1 v2 n1 n2 l1 l2 xs ys) (hm:m=r.length) (hn:news.length=r.length*1)
 (hR:∀ q,R q->q<w.heap.size->B<=q/\¬ v1.ownBlock=some q/\¬ v2.ownBlock=some q) (ho:w3.ownsRow B 74 1 (.slice (some ⟨gg,0,none⟩) (n1+m) cap) (n1+m) (xs ++ news)) (hg:w.grownBy w3 v1.ownBlock) (hat:v1.ownBlock=some gg\/gg=w.heap.size)
 (hx:∀ i (hi:i<r.length) (c:Nat->Option Value),(∀ j,j<1->c j=news[i*1+j]?)->eUn R w c r[i]):TwoU B w3 (.slice (some ⟨gg,0,none⟩) (n1+m) cap) v2 (n1+m) n2 (l1 ++ r) l2 (xs ++ news) ys:=by
 obtain ⟨K,h1,h2,h3,h4⟩:=h
 have hs2:=hg.size
 have own1:∀ q,v1.ownBlock=some q->q<w.heap.size:=fun q e=>(h1.1.lt q e).2
 have own2:∀ q,v2.ownBlock=some q->q<w.heap.size:=fun q e=>(h2.1.lt q e).2
 have hK:∀ q,K q->(K q\/(R q/\q<w.heap.size)):=fun q hq=>.inl hq
 refine ⟨fun q=>K q\/(R q/\q<w.heap.size),?_,?_,fun q hq=>⟨?_,?_,fun e=>?_,fun e=>?_⟩,fun q e f=>?_⟩
 ·exact (h1.mono carry_un hK).more carry_un ho hm hn hg hat fun i hi c hc=>carry_un _ _ w w c c _ (fun q hq hr=>⟨⟨.inr ⟨hr,hq⟩,hq,(hR q hr hq).2.1⟩,rfl⟩) (Nat.le_refl _) (fun _ _ _ h=>h) (hx i hi c hc)
 ·exact (h2.mono carry_un hK).far carry_un hg fun q e=>⟨fun hq=>by
   rcases hq with hq | hq
   ·exact (h3 q hq).2.2.1 e
   ·exact (hR q hq.1 hq.2).2.1 e,fun f=>h4 q e f⟩
 ·rcases hq with hq | hq
  ·exact (h3 q hq).1
  ·exact (hR q hq.1 hq.2).1
 ·rcases hq with hq | hq
  ·have:=(h3 q hq).2.1;omega
  ·omega
 ·have e:gg=q:=by injection e
  subst e
  rcases hq with hq | hq
  ·rcases hat with f | f
   ·exact (h3 gg hq).2.2.1 f
   ·have:=(h3 gg hq).2.1;omega
  ·rcases hat with f | f
   ·exact (hR gg hq.1 hq.2).2.1 f
   ·omega
 ·rcases hq with hq | hq
  ·exact (h3 q hq).2.2.2 e
  ·exact (hR q hq.1 hq.2).2.2 e
 ·have e:gg=q:=by injection e
  subst e
  rcases hat with g | g
  ·exact h4 gg g f
  ·have:=own2 gg f;omega
theorem TwoU.mono {B B':Nat} {w:World} {v1 v2:Value} {n1 n2:Nat} {l1 l2:List (List Int)} {xs ys:List Value} (h:TwoU B w v1 v2 n1 n2 l1 l2 xs ys) (hB:B'<=B):TwoU B' w v1 v2 n1 n2 l1 l2 xs ys:=by
 obtain ⟨K,h1,h2,h3,h4⟩:=h
 exact ⟨K,⟨own_monoB h1.1 hB,h1.2⟩,⟨own_monoB h2.1 hB,h2.2⟩,fun q hq=>⟨by have:=(h3 q hq).1;omega,(h3 q hq).2⟩,h4⟩
theorem trow_slu {w:World} {g n d B:Nat} {F:Nat->Nat->Int} (h:TRow w g 74 n (Pg.tab n d F) n B) (hd:d<=256):SlQ (fun q=>g<=q) 1 eUn w (some ⟨g,0,none⟩) (Pg.tab n d F):=fun i hi=>by
 have hi2:i<n:=by rw [Pg.tab_length] at hi;exact hi
 obtain ⟨f,hr,hc⟩:=h
 obtain ⟨b,e,h1,h2,h3⟩:=hc i hi2
 have er:Tb.row (Pg.tab n d F) i=(Pg.tab n d F)[i]:=by simp [Tb.row,hi]
 have el:(Tb.row (Pg.tab n d F) i).length=d:=by rw [Pg.row_tab hi2,Ls.gen_length]
 rw [er] at e h3 el
 refine ⟨g,0,rfl,hr.lt,Nat.le_refl _,some ⟨b,0,none⟩,_,?_,Nat.le_refl _,by rw [el];unfold maxLen;omega,(fun e=>nomatch e),fun j hj=>⟨b,0,rfl,h3.lt,⟨Nat.le_of_lt h1,un_row h3⟩,?_⟩⟩
 ·show w.cell? ⟨g,0+(i*1+0),none⟩=_
  rw [show 0+(i*1+0)=i by omega,hr.cell hi2,e]
 ·show w.cell? ⟨b,0+(j*1+0),none⟩=_
  rw [show 0+(j*1+0)=j by omega,h3.cell hj]
  simp [Ls.nth,hj]
theorem wpList_append_un {P:Program} {w:World} {ops:Array Oper} {rest:List Oper} {o:Oper} {a:Act} {K:Exit->Act->World->Prop} (hgd:o.guard=none) (so x:Operand) (t:TypeId)
 (ho:o.op=.call { callee:=.builtin .append,args:=#[so,x],argTypes:=#[t,t] })
 (base:Nat) (e:TypeId) (ht:P.underlying t=some (.slice e)) (hinfo:(P.info? e).map (fun i=>(i.zero,i.size,i.bytes))=some (some (.slice none 0 0),1,24))
 (v:Value) (n m N:Nat) (xs:List Value) (hs:a.eval so=v) (hown:w.ownsRow base e 1 v n xs)
 {Q:Nat->Prop} (ao:Option Addr) (l:List (List Int)) (c:Nat) (hm:m=l.length) (hN:N=n+m) (hx:a.eval x=.slice ao m c) (hL:SlQ Q 1 eUn w ao l)
 (hsm:n+m<=100000) (hbase:base<=w.heap.size) (hne:0<m)
 (h:∀ g cap w' news,news.length=l.length*1->(∀ i (hi:i<l.length) (c:Nat->Option Value),(∀ j,j<1->c j=news[i*1+j]?)->eUn Q w c l[i])->w'.ownsRow base e 1 (.slice (some ⟨g,0,none⟩) (n+m) cap) (n+m) (xs ++ news)->w.grownBy w' v.ownBlock->(v.ownBlock=some g\/g=w.heap.size)->wpList P ops K rest (a.put o.dst (.slice (some ⟨g,0,none⟩) N cap)) w'):wpList P ops K (o :: rest) a w:=by
 subst hm hN
 exact wpList_append_slq2 carry_un full_un hgd so x t ho base e (.slice none 0 0) 24 ht hinfo rfl (by decide) v n xs hs hown ao l c hx hL (by unfold maxLen;omega) (by omega) hbase hne h
set_option maxRecDepth 100000 in
set_option maxHeartbeats 3200000 in
theorem view_u (C c g b n H D G W ly hd r q0:Nat) (ls:List (Int × Int)) (R M:List Int) (L:Nat->List Int) (t k:Nat) (tk:Nat->List Tok) (q:Nat->Nat) (col:Nat->Nat) (w:World) (hp:PoolAt w g b n R M) (h:CaAt w col c g C H D G W ls M L (cn ls.length t k) tk q) (sh:ShOk H D G W ls)
 (hly:ly<ls.length) (hhd:hd<H) (hr:ly*H+hd=r) (hq0:q r=q0) (hlen:(tk r).length<=1000) (hT:∀ i (h:i<(tk r).length),TokOk H D (tk r)[i]) (hL:∀ i,i<ls.length*H->∀ x,x ∈ L i->0<=x/\x<n/\0<Ls.nth R x.toNat) :
 Calls Tryz.prog 22 #[.pointer (some ⟨C,0,none⟩),.int .i64 (ly:Int),.int .i64 (hd:Int)] w fun e w'=>∃ (v1 v2:Value) (xs ys:List Value),e=.returned (.tuple #[v1,v2]) /\
  TwoU w.heap.size w' v1 v2 (tk r).length (tk r).length (vk ls G D ly hd (tk r) q0) (vv ls G D ly hd (tk r) q0) xs ys/\Below w.heap.size w w':=by
 obtain ⟨sH,sH2,sD,sD2,-⟩:=id sh
 obtain ⟨sG,sG2,-,sl,sl2,-⟩:=sh.nums
 obtain ⟨-,-,st0,st1⟩:=sh.bits hly
 have b0:mk ls ly=2\/mk ls ly=4\/mk ls ly=8:=by rcases st0 with h | h | h;exact .inl h.1;exact .inr (.inl h.1);exact .inr (.inr h.1)
 have b1:mv ls ly=2\/mv ls ly=4\/mv ls ly=8:=by rcases st1 with h | h | h;exact .inl h.1;exact .inr (.inl h.1);exact .inr (.inr h.1)
 have rlt:r<ls.length*H:=by
  have h1:(ly+1)*H<=ls.length*H:=Nat.mul_le_mul_right H (by omega)
  rw [Nat.add_mul] at h1
  omega
 have HP:=Ca.hid hp
 have HC:=Ca.hid h
 have HL:=Ca.hid hL
 have HT:=Ca.hid hT
 have SH:=Ca.hid sh
 obtain ⟨al,cl,T,pb,pc,ct,cc,rg,rs,F,-,-,-,-,-,-,hrow⟩:=h.in
 obtain ⟨-,hqG,hpg,-⟩:=hrow r rlt
 rw [hq0] at hqG hpg
 have hdv:=up_row ly hd H hhd
 rw [hr] at hdv
 rw [hdv.1,hdv.2] at hpg
 have PG:=Ca.hid hpg
 have QG:=Ca.hid hqG
 have HQ0:=Ca.hid hq0
 have q1000:q0<=1000:=by have:=Nat.le_mul_of_pos_right q0 (show 0<G by omega);omega
 have HR:=Ca.hid hr
 clear h hp hrow hpg hL hT sh hdv hq0 hr
 go_enter Tryz.func22,Tryz.ntmps22
 go_wp2_with (go_at_call 24;refine (pages_c C c g b n H D G W ly hd r q0 ls R M L t k tk q col _ HP.out HC.out SH.out hly hhd HR.out HQ0.out q1000 HL.out).mono ?_;rintro e w1 ⟨v,rfl,ho,hb⟩;obtain ⟨pa,pcp,rfl⟩:=Ca.own_slice ho;have OP:=Ca.hid ho;have B1:=Ca.hid hb;have hs1:=hb.size;clear ho hb)
 go_loopw [6,7,17] (fun kv vw i wq=>∃ (j:Nat) (xs ys:List Value),j<=q0/\i=.int .i64 j/\Hid (TwoU w1.heap.size wq kv vw (j*G) (j*G) (Ca.flat G (Ca.keyAt (mk ls ly) (mv ls ly) (top (mk ls ly)) (top (mv ls ly)) G D ly hd (tk r)) j) (Ca.flat G (Ca.valAt (mk ls ly) (mv ls ly) (top (mk ls ly)) (top (mv ls ly)) G D ly hd (tk r)) j) xs ys)/\Hid (Below w1.heap.size w1 wq)) (fun _ _ i _=>q0 - (intOf i).toNat)
 case atStart=>exact ⟨0,[],[],Nat.zero_le _,rfl,by rw [Nat.zero_mul];exact twoU_nil _ _,Below.refl _ _⟩
 case round =>
  obtain ⟨j,xs,ys,hj,rfl,TW,B2⟩:=hrel
  by_cases hlt:j<q0
  ·have hjG:j*G+G<=1000:=by have:=mul_next (G:=G) hlt;have:=QG.out;omega
   have eN:(j+1)*G=j*G+G:=by rw [Nat.add_mul,Nat.one_mul]
   have EN:=Ca.hid eN
   obtain ⟨gp,cap,Fp,ep,hgp,hrp,hcap,hcp⟩:=row_of_own OP.out (by omega)
   cases ep
   obtain ⟨p,ep,hz⟩:=PG.out j hlt
   have fp:Fp j=.pointer (some ⟨p,0,none⟩):=by
    have h1:=hcp j hlt
    rw [ptrs_at hlt] at h1
    have h2:pgb M (L r) j=p:=by unfold pgb;rw [ep];rfl
    rw [h2] at h1
    exact Option.some.inj h1
   have hB1r:Below w.heap.size w wr:=B1.out.trans (B2.out.mono hs1)
   have PA:=Ca.hid (fun (v:World) (hv:Below w.heap.size w v)=>(hz.carry (Z':=fun x=>col x=0) (fun x hx h0=>⟨h0,hv.block x hx⟩)).at)
   have BR:=Ca.hid hB1r
   obtain ⟨_,_,_,_,_,hpage,_⟩:=hz
   obtain ⟨lk,lvv,dk,dv⟩:=page_deep hpage b0 b1
   have TK:=Ca.hid (keys_tab (mk ls ly) (mv ls ly) (top (mk ls ly)) (top (mv ls ly)) G D ly hd (tk r) j lk)
   have TV:=Ca.hid (vals_tab (mk ls ly) (mv ls ly) (top (mk ls ly)) (top (mv ls ly)) G D ly hd (tk r) j lvv dv)
   have hcell:wr.cell? ⟨gp,j,none⟩=some (.pointer (some ⟨p,0,none⟩)):=by
    rw [B2.out.cell (p:=⟨gp,j,none⟩) hrp.lt,hrp.cell (by omega),fp]
   have hs2:=B2.out.size
   have LG:Hid (G=(Pg.tab G D (Pg.keyAt (Ca.pg (mk ls ly) (mv ls ly) (top (mk ls ly)) (top (mv ls ly)) G D ly hd (tk r) j).2.1)).length/\G=(Pg.tab G D (Pg.valAt (Ca.pg (mk ls ly) (mv ls ly) (top (mk ls ly)) (top (mv ls ly)) G D ly hd (tk r) j).2.2)).length):=⟨(Pg.tab_length _ _ _).symm,(Pg.tab_length _ _ _).symm⟩
   clear ep hcp hpage lk lvv dk dv hB1r hrp fp eN
   go_wp2_with (first
    | (go_at_call 64;(with_reducible refine (keys_any p _ _ _ _ _ _ _ _ _ _ (PA.out _ BR.out)).mono ?_);rintro e w2 ⟨g1,b1,rfl,hg1,ht,hb⟩;have SK:=Ca.hid (trow_slu ht (by omega));have B3:=Ca.hid hb;have hs3:=hb.size;have G1:=Ca.hid hg1;clear ht hb hg1)
    | (at_builtin;refine wpList_append_un rfl _ _ 42 rfl w1.heap.size 74 Tryz.underlying42 Ca.infoRow _ (j*G) G ((j+1)*G) xs (by rfl) ((TW.out.to B3.out).own) (some ⟨g1,0,none⟩) _ G LG.out.1 EN.out (by rfl) SK.out (by omega) (by omega) (by omega) ?_;intro gk ck w3 news hnl hne hown hgrow hat;have T3:=Ca.hid ((TW.out.to B3.out).rest LG.out.1 hnl (fun q hq hq2=>⟨by have:=G1.out;omega,fun e=>by have:=TW.out.own.lt q e;have:=G1.out;omega,fun e=>by have:=TW.out.swap.own.lt q e;have:=G1.out;omega⟩) hown hgrow hat hne);have B4:Hid (Below w1.heap.size w1 w3):=(B2.out.trans (B3.out.mono hs2)).grown hgrow (by omega) (fun q hq=>(TW.out.own.lt q hq).1);have s4:=hgrow.size;clear hne hown hgrow hat hnl)
    | (go_at_call 65;(with_reducible refine (values_any p _ _ _ _ _ _ _ _ _ _ (PA.out _ (B1.out.trans (B4.out.mono hs1)))).mono ?_);rintro e w4 ⟨g2,b2,rfl,hg2,ht,hb⟩;have SV:=Ca.hid (trow_slu ht (by omega));have B6:=Ca.hid hb;have hs6:=hb.size;have G2:=Ca.hid hg2;clear ht hb hg2)
    | (at_builtin;refine wpList_append_un rfl _ _ 42 rfl w1.heap.size 74 Tryz.underlying42 Ca.infoRow _ (j*G) G ((j+1)*G) ys (by rfl) ((T3.out.swap.to B6.out).own) (some ⟨g2,0,none⟩) _ G LG.out.2 EN.out (by rfl) SV.out (by omega) (by omega) (by omega) ?_;intro gv cv w5 news2 hnl hne hown hgrow hat;have T5:=Ca.hid (((T3.out.swap.to B6.out).rest LG.out.2 hnl (fun q hq hq2=>⟨by have:=G2.out;omega,fun e=>by have:=T3.out.swap.own.lt q e;have:=G2.out;omega,fun e=>by have:=T3.out.own.lt q e;have:=G2.out;omega⟩) hown hgrow hat hne).swap);have B7:Hid (Below w1.heap.size w1 w5):=(B4.out.trans (B6.out.mono (by omega))).grown hgrow (by omega) (fun q hq=>(T3.out.swap.own.lt q hq).1);clear hne hown hgrow hat hnl))
   go_roundw
   case rel =>
    have T6:=T5.out
    rw [TK.out,TV.out] at T6
    refine ⟨j+1,xs ++ news,ys ++ news2,by omega,by go_num,?_,B7.out⟩
    rw [Ca.flat_succ,Ca.flat_succ,EN.out]
    exact T6
   case measure=>simp [intOf];omega
  ·have ej:j=q0:=by omega
   subst ej
   obtain ⟨m,em⟩:∃ m,(tk r).length - j*G=m:=⟨_,rfl⟩
   have EL:Hid ((tk r).length=j*G+m):=by show _=_;have:=QG.out;omega
   have hk1:(Ca.ksOf ((tk r).drop (j*G)) hd).length=m:=(List.length_map _).trans ((List.length_drop).trans em)
   have hv1:(Ca.vsOf ((tk r).drop (j*G)) hd).length=m:=(List.length_map _).trans ((List.length_drop).trans em)
   have EK:=Ca.hid hk1
   have EV:=Ca.hid hv1
   have BR:Hid (Below w.heap.size w wr):=B1.out.trans (B2.out.mono hs1)
   have hsr:=B2.out.size
   have hm:j*G+m<=1000:=by have:=EL.out;omega
   obtain ⟨ka,kc,rfl⟩:=Ca.own_slice TW.out.own
   obtain ⟨va,vc,rfl⟩:=Ca.own_slice TW.out.swap.own
   obtain ⟨i1,hi10,hi11,hi12,hi13⟩:=info_parts Ca.infoRow
   clear hk1 hv1 em
   by_cases hz:m=0
   ·go_wp2_with (first
     | (go_at_call 30;refine (plain_u C c g H D G W ly hd r j ls M L t k tk q col _ (HC.out.below BR.out) SH.out hly hhd HR.out HQ0.out HT.out).mono ?_;rintro e w2 ⟨S,v1,v2,xs2,ys2,rfl,-,-,-,-,hn1,hn2,hb⟩;obtain rfl:=hn1 (List.length_eq_zero_iff.1 (EK.out.trans hz));obtain rfl:=hn2 (List.length_eq_zero_iff.1 (EV.out.trans hz));have BL:=Ca.hid hb;clear hb hn1 hn2)
     | (at_builtin;refine wpList_append_own_none rfl _ _ _ rfl w1.heap.size 74 i1 1 Tryz.underlying42 hi10 _ _ xs (by rfl) ((TW.out.to BL.out).own) (by rfl) ?_)
     | (at_builtin;refine wpList_append_own_none rfl _ _ _ rfl w1.heap.size 74 i1 1 Tryz.underlying42 hi10 _ _ ys (by rfl) ((TW.out.swap.to BL.out).own) (by rfl) ?_))
    go_ret2
    refine ⟨_,_,xs,ys,rfl,?_,BR.out.trans (BL.out.mono (by omega))⟩
    have e0:=EL.out
    rw [hz] at e0
    unfold vk vv
    rw [List.length_eq_zero_iff.1 (EK.out.trans hz),List.length_eq_zero_iff.1 (EV.out.trans hz),List.append_nil,List.append_nil,e0,Nat.add_zero]
    exact (TW.out.to BL.out).mono hs1
   ·have hm0:0<m:=by omega
    go_wp2_with (first
     | (go_at_call 30;refine (plain_u C c g H D G W ly hd r j ls M L t k tk q col _ (HC.out.below BR.out) SH.out hly hhd HR.out HQ0.out HT.out).mono ?_;rintro e w2 ⟨S,v1,v2,xs2,ys2,rfl,hS,A1,A2,-,-,-,hb⟩;rw [EK.out] at A1;rw [EV.out] at A2;obtain ⟨a1,c1,rfl,s1,-⟩:=A1.slq carry_un (Q':=fun q=>wr.heap.size<=q) (fun _ h=>h) (fun q h=>(hS q h).1);obtain ⟨a2,c2,rfl,s2,-⟩:=A2.slq carry_un (Q':=fun q=>wr.heap.size<=q) (fun _ h=>h) (fun q h=>(hS q h).1);have S1:Hid (SlQ (fun q=>wr.heap.size<=q/\q<w2.heap.size) 1 eUn w2 a1 (Ca.ksOf ((tk r).drop (j*G)) hd)):=s1.carry carry_un (fun q q1 q2=>⟨⟨q2,q1⟩,rfl⟩) (Nat.le_refl _);have S2:Hid (SlQ (fun q=>wr.heap.size<=q/\q<w2.heap.size) 1 eUn w2 a2 (Ca.vsOf ((tk r).drop (j*G)) hd)):=s2.carry carry_un (fun q q1 q2=>⟨⟨q2,q1⟩,rfl⟩) (Nat.le_refl _);have BL:=Ca.hid hb;have sl:=hb.size;clear hb A1 A2 hS s1 s2)
     | (at_builtin;refine wpList_append_un rfl _ _ 42 rfl w1.heap.size 74 Tryz.underlying42 Ca.infoRow _ (j*G) m ((tk r).length) xs (by rfl) ((TW.out.to BL.out).own) a1 (Ca.ksOf ((tk r).drop (j*G)) hd) c1 EK.out.symm EL.out (by rfl) S1.out (by omega) (by omega) hm0 ?_;intro gp cp wp news hnl hne hown hgrow hat;have T3:=Ca.hid ((TW.out.to BL.out).rest EK.out.symm hnl (fun q hq hq2=>⟨by omega,fun e=>by have:=TW.out.own.lt q e;omega,fun e=>by have:=TW.out.swap.own.lt q e;omega⟩) hown hgrow hat hne);have S2p:Hid (SlQ (fun q=>wr.heap.size<=q/\q<w2.heap.size) 1 eUn wp a2 (Ca.vsOf ((tk r).drop (j*G)) hd)):=S2.out.carry carry_un (fun q q1 q2=>⟨q2,hgrow.block q q1 fun e=>by have:=TW.out.own.lt q e.symm;omega⟩) hgrow.size;have BP:Hid (Below w1.heap.size w1 wp):=(B2.out.trans (BL.out.mono hsr)).grown hgrow (by omega) (fun q hq=>(TW.out.own.lt q hq).1);have gpl:Hid ((Value.slice ka (j*G) kc).ownBlock=some gp\/gp=w2.heap.size):=hat;have spl:=hgrow.size;clear hne hown hgrow hat hnl)
     | (at_builtin;refine wpList_append_un rfl _ _ 42 rfl w1.heap.size 74 Tryz.underlying42 Ca.infoRow _ (j*G) m ((tk r).length) ys (by rfl) (T3.out.swap.own) a2 (Ca.vsOf ((tk r).drop (j*G)) hd) c2 EV.out.symm EL.out (by rfl) S2p.out (by omega) (by omega) hm0 ?_;intro gq cq wq news2 hnl hne hown hgrow hat;have T4:=Ca.hid ((T3.out.swap.rest EV.out.symm hnl (fun q hq hq2=>⟨by omega,fun e=>by have:=TW.out.swap.own.lt q e;omega,fun e=>by
         have e:gp=q:=by injection e
         rcases gpl.out with f | f
         ·have:=TW.out.own.lt gp f;omega
         ·omega⟩) hown hgrow hat hne).swap);have BQ:Hid (Below w1.heap.size w1 wq):=BP.out.grown hgrow (by omega) (fun q hq=>(TW.out.swap.own.lt q hq).1);clear hne hown hgrow hat hnl))
    go_ret2
    refine ⟨.slice (some ⟨gp,0,none⟩) (tk r).length cp,.slice (some ⟨gq,0,none⟩) (tk r).length cq,xs ++ news,ys ++ news2,rfl,?_,B1.out.trans (BQ.out.mono hs1)⟩
    have T4:=T4.out
    unfold vk vv
    rw [EL.out]
    exact T4.mono hs1
theorem view_c (C c g b n H D G W ly hd r q0:Nat) (ls:List (Int × Int)) (R M:List Int) (L:Nat->List Int) (t k:Nat) (tk:Nat->List Tok) (q:Nat->Nat) (col:Nat->Nat) (w:World) (hp:PoolAt w g b n R M) (h:CaAt w col c g C H D G W ls M L (cn ls.length t k) tk q) (sh:ShOk H D G W ls)
 (hly:ly<ls.length) (hhd:hd<H) (hr:ly*H+hd=r) (hq0:q r=q0) (hlen:(tk r).length<=1000) (hT:∀ i (h:i<(tk r).length),TokOk H D (tk r)[i]) (hL:∀ i,i<ls.length*H->∀ x,x ∈ L i->0<=x/\x<n/\0<Ls.nth R x.toNat) :
 Calls Tryz.prog 22 #[.pointer (some ⟨C,0,none⟩),.int .i64 (ly:Int),.int .i64 (hd:Int)] w fun e w'=>∃ (v1 v2:Value) (xs ys:List Value),e=.returned (.tuple #[v1,v2]) /\
  TwoN w.heap.size w' v1 v2 (tk r).length (tk r).length (vk ls G D ly hd (tk r) q0) (vv ls G D ly hd (tk r) q0) xs ys/\Below w.heap.size w w':=(view_u C c g b n H D G W ly hd r q0 ls R M L t k tk q col w hp h sh hly hhd hr hq0 hlen hT hL).mono fun _ _ ⟨v1,v2,xs,ys,e1,⟨K,t1,t2,t3,t4⟩,hb⟩=>⟨v1,v2,xs,ys,e1,⟨K,acc_un t1,acc_un t2,t3,t4⟩,hb⟩
end Cc
end Go.Proofs.YtnchnlgnnlgjcaaGreat
