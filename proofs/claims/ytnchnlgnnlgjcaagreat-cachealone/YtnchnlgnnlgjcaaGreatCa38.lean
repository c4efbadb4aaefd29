import Derived.Test.YtnchnlgnnlgjcaaGreatCa28
import Derived.Test.YtnchnlgnnlgjcaaGreatCa18
import Derived.Test.YtnchnlgnnlgjcaaGreatCa27
import Derived.Test.YtnchnlgnnlgjcaaGreatCa15
import Derived.Test.YtnchnlgnnlgjcaaGreatCa21
import Derived.Test.YtnchnlgnnlgjcaaGreatCa08
import Derived.Test.YtnchnlgnnlgjcaaGreatCa04
import Derived.Deep.RegionLawGrows
import Derived.Deep.CutRange
import Derived.Deep.DeepCutAuto
import Derived.Test.YtnchnlgnnlgjcaaGreatCa24
import Derived.Test.YtnchnlgnnlgjcaaGreatCa26
import Derived.Test.YtnchnlgnnlgjcaaGreatCa36
import Derived.Test.YtnchnlgnnlgjcaaGreatCa29
import Derived.Test.YtnchnlgnnlgjcaaGreatCa19
import Derived.Test.YtnchnlgnnlgjcaaGreatCa25
import Derived.Test.YtnchnlgnnlgjcaaGreatCa37
set_option linter.unusedVariables false
set_option linter.unusedSimpArgs false
namespace Go.Proofs.YtnchnlgnnlgjcaaGreat
open Go.RowKit
namespace Cc
theorem keep_lt {B B':Nat} {w0 w:World} {a:Option Addr} {l:List (List Int)} (h1:Below B w0 w) (hB:B<=B') (h:SlQ (fun q=>q<B) 1 eRow w0 a l):SlQ (fun q=>q<B') 1 eRow w a l:=h.carry carry_row (fun q _ hq=>⟨Nat.lt_of_lt_of_le hq hB,h1.block q hq⟩) h1.size
end Cc
end Go.Proofs.YtnchnlgnnlgjcaaGreat
namespace Go.Proofs.YtnchnlgnnlgjcaaGreat
open Go.RowKit
namespace Cc
theorem sameT_anym (a b:Option Addr) (c d m1 m2:Nat) (ls:List (List Int)) (w:World) (e1:m1=ls.length) (e2:m2=ls.length) (ha:Tbl w a ls) (hb:Tbl w b ls) (hl:ls.length<=100000) (hr:∀ x,x ∈ ls->x.length<=1000000) :
 Calls Tryz.prog 23 #[.slice a m1 c,.slice b m2 d] w fun e w'=>e=.returned (.bool true)/\Below w.heap.size w w':=by
 subst e1
 subst e2
 exact sameT_any a b c d ls w ha hb hl fun k hk=>hr _ (by unfold Tb.row;rw [List.getD_eq_getElem?_getD,List.getElem?_eq_getElem hk];exact List.getElem_mem hk)
theorem rows_ks {H D hd:Nat} {l:List Tok} (hd4:hd<H) (hT:∀ i (h:i<l.length),TokOk H D l[i]) {x:List Int} (hx:x ∈ Ca.ksOf l hd):x.length=D:=by
 obtain ⟨t,ht,rfl⟩:=List.mem_map.1 hx
 obtain ⟨i,hi,rfl⟩:=List.getElem_of_mem ht
 exact ((hT i hi).2.2 hd hd4).1
theorem rows_vs {H D hd:Nat} {l:List Tok} (hd4:hd<H) (hT:∀ i (h:i<l.length),TokOk H D l[i]) {x:List Int} (hx:x ∈ Ca.vsOf l hd):x.length=D:=by
 obtain ⟨t,ht,rfl⟩:=List.mem_map.1 hx
 obtain ⟨i,hi,rfl⟩:=List.getElem_of_mem ht
 exact ((hT i hi).2.2 hd hd4).2.1
theorem tok_drop {H D k:Nat} {l:List Tok} (hT:∀ i (h:i<l.length),TokOk H D l[i]):∀ i (h:i<(l.drop k).length),TokOk H D (l.drop k)[i]:=fun i hi=>by
 rw [List.getElem_drop]
 exact hT _ (by rw [List.length_drop] at hi;omega)
end Cc
end Go.Proofs.YtnchnlgnnlgjcaaGreat
namespace Go.Proofs.YtnchnlgnnlgjcaaGreat
open Go.RowKit
namespace Cc
theorem rows_in {w:World} {col:Nat->Nat} {c g C H D G W:Nat} {ls:List (Int × Int)} {M:List Int} {L:Nat->List Int} {cnt:List Int} {tk:Nat->List Tok} {q:Nat->Nat} (h:CaAt w col c g C H D G W ls M L cnt tk q):∀ r,r<ls.length*H->(L r).length=q r:=fun r hr=>by
 obtain ⟨al,cl,T,pb,pc,ct,cc,rg,rs,F,-,-,-,-,-,-,hrow⟩:=h.in
 exact (hrow r hr).1
theorem rows_deep {w:World} {col:Nat->Nat} {c g C H D G W ly hd r q0:Nat} {ls:List (Int × Int)} {M:List Int} {L:Nat->List Int} {cnt:List Int} {tk:Nat->List Tok} {q:Nat->Nat} (h:CaAt w col c g C H D G W ls M L cnt tk q) (sh:ShOk H D G W ls) (hly:ly<ls.length) (hhd:hd<H) (hr:ly*H+hd=r) (hq:q r=q0) :
 ∀ i,i<q0->Pg.Deep G (Ca.pg (mk ls ly) (mv ls ly) (top (mk ls ly)) (top (mv ls ly)) G D ly hd (tk r) i).2.1/\Pg.Deep D (Ca.pg (mk ls ly) (mv ls ly) (top (mk ls ly)) (top (mv ls ly)) G D ly hd (tk r) i).2.2/\(Ca.pg (mk ls ly) (mv ls ly) (top (mk ls ly)) (top (mv ls ly)) G D ly hd (tk r) i).2.1.length=D/\(Ca.pg (mk ls ly) (mv ls ly) (top (mk ls ly)) (top (mv ls ly)) G D ly hd (tk r) i).2.2.length=G:=fun i hi=>by
 obtain ⟨f0,f1,st0,st1⟩:=sh.bits hly
 have b0:mk ls ly=2\/mk ls ly=4\/mk ls ly=8:=by rcases st0 with h | h | h;exact .inl h.1;exact .inr (.inl h.1);exact .inr (.inr h.1)
 have b1:mv ls ly=2\/mv ls ly=4\/mv ls ly=8:=by rcases st1 with h | h | h;exact .inl h.1;exact .inr (.inl h.1);exact .inr (.inr h.1)
 have rlt:r<ls.length*H:=by
  have h1:(ly+1)*H<=ls.length*H:=Nat.mul_le_mul_right H (by omega)
  rw [Nat.add_mul] at h1
  omega
 obtain ⟨al,cl,T,pb,pc,ct,cc,rg,rs,F,-,-,-,-,-,-,hrow⟩:=h.in
 obtain ⟨-,-,hpg,-⟩:=hrow r rlt
 have hdv:=up_row ly hd H hhd
 rw [hr] at hdv
 rw [hdv.1,hdv.2,hq] at hpg
 obtain ⟨p,-,-,-,-,-,-,hp,-⟩:=hpg i hi
 obtain ⟨lk,lv,dk,dv⟩:=page_deep hp b0 b1
 exact ⟨dk,dv,lk,lv⟩
theorem mem_flat {g n:Nat} {f:Nat->Nat->List Int} {x:List Int} (h:x ∈ Ca.flat g f n):∃ i t,i<n/\t<g/\x=f i t:=by
 unfold Ca.flat at h
 obtain ⟨i,hi,hx⟩:=List.mem_flatMap.1 h
 obtain ⟨t,ht,e⟩:=List.mem_map.1 hx
 exact ⟨i,t,List.mem_range.1 hi,List.mem_range.1 ht,e.symm⟩
theorem vk_rows {H D G ly hd q0:Nat} {ls:List (Int × Int)} {l:List Tok} (hhd:hd<H) (hT:∀ i (h:i<l.length),TokOk H D l[i]) (hd4:D<=16)
 (dk:∀ i,i<q0->Pg.Deep G (Ca.pg (mk ls ly) (mv ls ly) (top (mk ls ly)) (top (mv ls ly)) G D ly hd l i).2.1/\Pg.Deep D (Ca.pg (mk ls ly) (mv ls ly) (top (mk ls ly)) (top (mv ls ly)) G D ly hd l i).2.2/\(Ca.pg (mk ls ly) (mv ls ly) (top (mk ls ly)) (top (mv ls ly)) G D ly hd l i).2.1.length=D/\(Ca.pg (mk ls ly) (mv ls ly) (top (mk ls ly)) (top (mv ls ly)) G D ly hd l i).2.2.length=G) :
 (∀ x,x ∈ vk ls G D ly hd l q0->x.length<=1000000)/\∀ x,x ∈ vv ls G D ly hd l q0->x.length<=1000000:=by
 constructor
 ·intro x hx
  rcases List.mem_append.1 hx with h | h
  ·obtain ⟨i,t,hi,ht,rfl⟩:=mem_flat h
   unfold Ca.keyAt
   rw [Pg.key_length,(dk i hi).2.2.1]
   omega
  ·rw [rows_ks hhd (tok_drop hT) h];omega
 ·intro x hx
  rcases List.mem_append.1 hx with h | h
  ·obtain ⟨i,t,hi,ht,rfl⟩:=mem_flat h
   unfold Ca.valAt
   rw [Gp.means_length]
   have:=((dk i hi).2.1 t (by rw [(dk i hi).2.2.2];exact ht)).1
   omega
  ·rw [rows_vs hhd (tok_drop hT) h];omega
theorem vk_len {D G ly hd q0:Nat} {ls:List (Int × Int)} {l:List Tok} (h:q0*G<=l.length):(vk ls G D ly hd l q0).length=l.length/\(vv ls G D ly hd l q0).length=l.length:=by
 constructor
 ·unfold vk;rw [List.length_append,Ca.flat_length];show _+((l.drop (q0*G)).map _).length=_;rw [List.length_map,List.length_drop];omega
 ·unfold vv;rw [List.length_append,Ca.flat_length];show _+((l.drop (q0*G)).map _).length=_;rw [List.length_map,List.length_drop];omega
theorem view_m (C c g b n H D G W ly hd r q0:Nat) (ls:List (Int × Int)) (R M:List Int) (L:Nat->List Int) (t k:Nat) (tk:Nat->List Tok) (q:Nat->Nat) (col:Nat->Nat) (l:List Tok) (w:World) (hp:PoolAt w g b n R M) (h:CaAt w col c g C H D G W ls M L (cn ls.length t k) tk q) (sh:ShOk H D G W ls)
 (hly:ly<ls.length) (hhd:hd<H) (hr:ly*H+hd=r) (hq0:q r=q0) (htk:tk r=l) (hlen:l.length<=1000) (hT:∀ i (h:i<l.length),TokOk H D l[i]) (hL:∀ i,i<ls.length*H->∀ x,x ∈ L i->0<=x/\x<n/\0<Ls.nth R x.toNat) :
 Calls Tryz.prog 22 #[.pointer (some ⟨C,0,none⟩),.int .i64 (ly:Int),.int .i64 (hd:Int)] w fun e w'=>∃ (v1 v2:Value) (xs ys:List Value),e=.returned (.tuple #[v1,v2]) /\
  TwoN w.heap.size w' v1 v2 l.length l.length (vk ls G D ly hd l q0) (vv ls G D ly hd l q0) xs ys/\Below w.heap.size w w':=by
 subst htk
 exact view_c C c g b n H D G W ly hd r q0 ls R M L t k tk q col w hp h sh hly hhd hr hq0 hlen hT hL
end Cc
end Go.Proofs.YtnchnlgnnlgjcaaGreat
namespace Go.Proofs.YtnchnlgnnlgjcaaGreat
open Go.RowKit
namespace Cc
theorem pool_stand3 {w w':World} {g b n:Nat} {R M:List Int} (h:PoolAt w g b n R M) (hg:w'.heap[g]?=w.heap[g]?) (hb:w'.heap[b]?=w.heap[b]?) (hq:∀ x,x<n->0<Ls.nth R x->∀ q:Nat,Ls.nth M x=(q:Int)->w'.heap[q]?=w.heap[q]?):PoolAt w' g b n R M:=by
 obtain ⟨P,h1,h2,h3,h4,h5,h6,h7,h8⟩:=h
 refine ⟨P,h1.of_block hg,h2.of_block hb,h3,h4,h5,h6,h7,fun i hi hr=>?_⟩
 obtain ⟨q,e,n1,n2,hp⟩:=h8 i hi hr
 exact ⟨q,e,n1,n2,hp.of_block (hq i hi hr q hp.1)⟩
theorem pool_page {w:World} {g b n:Nat} {R M:List Int} (h:PoolAt w g b n R M) {x:Nat} (hx:x<n) (hr:0<Ls.nth R x) {q:Nat} (e:Ls.nth M x=(q:Int)):q<w.heap.size:=by
 obtain ⟨P,h1,h2,h3,h4,h5,h6,h7,h8⟩:=h
 obtain ⟨q',e',n1,n2,hp⟩:=h8 x hx hr
 have:=hp.1
 have hl:=hp.lt
 omega
theorem tot_pos {L:Nat->Nat->List Int} {m k:Nat} {x:Int} (h:0<Bk.tot L m x k):∃ i,i<k/\0<Bk.occ x (Bk.flat (L i) m):=by
 induction k with
 | zero=>exact absurd h (Nat.lt_irrefl _)
 | succ k ih =>
   have h:0<Bk.tot L m x k+Bk.occ x (Bk.flat (L k) m):=h
   by_cases h0:0<Bk.tot L m x k
   ·obtain ⟨i,h1,h2⟩:=ih h0
    exact ⟨i,by omega,h2⟩
   ·exact ⟨k,by omega,by omega⟩
theorem occ_mem {x:Int} {l:List Int} (h:0<Bk.occ x l):x ∈ l:=by
 by_cases q:x ∈ l
 ·exact q
 ·rw [Bk.occ_none q] at h;exact absurd h (Nat.lt_irrefl _)
theorem Core13.page {w:World} {g b n H D G W k j x q:Nat} {ls:List (Int × Int)} {R M:List Int} {C:Nat->Nat} {T:Nat->List (List Tok)} {L:Nat->Nat->List Int} {t qq col:Nat->Nat} (h:Core13 w g b n H D G W ls R M k C T L t qq col) (hG:Good13 n (ls.length*H) k j R L t) (hx:x<n) (hr:0<Ls.nth R x) (e:Ls.nth M x=(q:Int)):col q=0:=by
 have h1:=hG.1 x hx
 obtain ⟨i,hi,ho⟩:=tot_pos (L:=L) (m:=ls.length*H) (k:=k) (x:=(x:Int)) (by omega)
 obtain ⟨r,hrm,hm⟩:=Bk.mem_flat (occ_mem ho)
 obtain ⟨al,cl,T',pb,pc,ct,cc,rg,rs,F,-,-,-,-,-,-,hrow⟩:=(h.2.2 i hi).1.in
 obtain ⟨hl,-,hpg,-⟩:=hrow r hrm
 obtain ⟨s,hs,es⟩:=List.getElem_of_mem hm
 obtain ⟨p,ep,g1,g2,-,-,-,-,zp⟩:=hpg s (by omega)
 have en:Ls.nth (L i r) s=(x:Int):=by simp [Ls.nth,hs,es]
 rw [en,Int.toNat_natCast,e] at ep
 have:q=p:=by omega
 rw [this]
 exact zp
def S2 (B:Nat) (w0 w:World) (P g b n H D G W k:Nat) (al:Option Addr) (cl:Nat) (ls:List (Int × Int)) (R M:List Int) (va vr:Value) (C:Nat->Nat) (T:Nat->List (List Tok)) (L:Nat->Nat->List Int) (t q:Nat->Nat) (zs:Nat->Value) (g2 b2:Nat) (col:Nat->Nat):Prop :=
 Core13 w g b n H D G W ls R M k C T L t q col/\Box13 nox B w P g H D G W ls al cl va vr k C zs col/\Doc13 w ls.length k T zs col/\Fresh13 B w col/\(col g2=998/\col b2=998/\g2<w.heap.size/\b2<w.heap.size)/\Below B w0 w/\B<=w.heap.size
theorem S2.keep {B:Nat} {w0 w w':World} {P g b n H D G W k cl g2 b2:Nat} {al:Option Addr} {ls:List (Int × Int)} {R M:List Int} {va vr:Value} {C:Nat->Nat} {T:Nat->List (List Tok)} {L:Nat->Nat->List Int} {t q:Nat->Nat} {zs:Nat->Value} {col:Nat->Nat}
 (h:S2 B w0 w P g b n H D G W k al cl ls R M va vr C T L t q zs g2 b2 col) (hb:Below w.heap.size w w'):S2 B w0 w' P g b n H D G W k al cl ls R M va vr C T L t q zs g2 b2 col:=by
 obtain ⟨h1,h2,h3,h4,h5,h6,h7⟩:=h
 have hs:=hb.size
 exact ⟨h1.keep hb,h2.keep hb,h3.keep hb,h4.keep hs,⟨h5.1,h5.2.1,by omega,by omega⟩,h6.trans (hb.mono h7),by omega⟩
theorem S2.away {B:Nat} {w0 w w':World} {P g b n H D G W k j cl g2 b2:Nat} {al:Option Addr} {ls:List (Int × Int)} {R M:List Int} {va vr:Value} {C:Nat->Nat} {T:Nat->List (List Tok)} {L:Nat->Nat->List Int} {t q:Nat->Nat} {zs:Nat->Value} {col col':Nat->Nat}
 (h:S2 B w0 w P g b n H D G W k al cl ls R M va vr C T L t q zs g2 b2 col) (hG:Good13 n (ls.length*H) k j R L t) (hc:Chg 500 g2 b2 w w' col col'):S2 B w0 w' P g b n H D G W k al cl ls R M va vr C T L t q zs g2 b2 col':=by
 obtain ⟨hC,hB,hD,hF,⟨x1,x2,x3,x4⟩,h6,h7⟩:=h
 obtain ⟨c1,c2,c3,c4⟩:=hc
 have hs:=c1.size
 have hk5:=hG.2.2.2.2.2.2
 have st:∀ x,x<w.heap.size->¬ col x=998->¬ col x=500->w'.heap[x]?=w.heap[x]?:=fun x hx n1 n2=>c1.block hx (fun e=>n1 (by rw [e];exact x1)) (fun e=>n1 (by rw [e];exact x2)) n2
 have cg:=hC.2.1.1
 have cb:=hC.2.1.2
 have lg:=hC.1.lt
 refine ⟨⟨?_,⟨(c2 g lg.1).trans cg,(c2 b lg.2).trans cb⟩,fun i hi=>?_⟩,?_,?_,⟨c4,fun x hx=>by rw [c2 x (by omega)];exact hF.2 x hx⟩,⟨(c2 g2 x3).trans x1,(c2 b2 x4).trans x2,by omega,by omega⟩,?_,by omega⟩
 ·exact pool_stand3 hC.1 (st g lg.1 (by rw [cg];decide) (by rw [cg];decide)) (st b lg.2 (by rw [cb];decide) (by rw [cb];decide)) fun x hx hr y e=>by
   have:=hC.page hG hx hr e
   exact st y (pool_page hC.1 hx hr e) (by rw [this];decide) (by rw [this];decide)
 ·exact ⟨(hC.2.2 i hi).1.carry (fun x hx e=>⟨c2 x hx,st x hx (by omega) (by omega)⟩) hs (fun _ _ _ _=>rfl),(hC.2.2 i hi).2⟩
 ·obtain ⟨⟨h1,h2⟩,⟨h3,h4⟩,⟨h5,h6⟩,ps⟩:=hB
  have k1:∀ x,x<w.heap.size->col x=1000->w'.heap[x]?=w.heap[x]?:=fun x hl hx=>st x hl (by rw [hx];decide) (by rw [hx];decide)
  refine ⟨⟨h1.of_block (k1 P h1.lt h2),(c2 P h1.lt).trans h2⟩,⟨Ca.own_at h3 fun x hx=>k1 x (h3.lt x hx).2 (h4 x hx),fun x hx=>(c2 x (h3.lt x hx).2).trans (h4 x hx)⟩,⟨Ca.own_at h5 fun x hx=>k1 x (h5.lt x hx).2 (h6 x hx),fun x hx=>(c2 x (h5.lt x hx).2).trans (h6 x hx)⟩,?_⟩
  exact (PsZ.carry (⟨ps.1,ps.2.1⟩:PsZ col w al ls) (fun x hx h0=>⟨(c2 x hx).trans h0,st x hx (by omega) (by omega)⟩) hs).nox
 ·intro i hi
  obtain ⟨a,c,e,hs'⟩:=hD i hi
  exact ⟨a,c,e,hs'.carry carry_toks (fun x hx h0=>⟨(c2 x hx).trans h0,st x hx (by omega) (by omega)⟩) hs⟩
 ·exact h6.trans ⟨c1.1,c1.2.1,c1.2.2.1,hs,fun x hx=>by
   have:=hF.2 x hx
   exact st x (by omega) (by omega) (by omega)⟩
def PZ (w:World) (g2 b2:Nat):Prop:=∃ R M,PoolAt w g2 b2 2000 R M/\∀ x,x<2000->Ls.nth R x=0
def N2 (w:World) (g2 b2 C2 H D G W:Nat) (ls:List (Int × Int)) (T:List (List Tok)) (t k j:Nat) (col:Nat->Nat):Prop :=
 ∃ R M L,PoolAt w g2 b2 2000 R M/\CaAt w col 500 g2 C2 H D G W ls M L (cn ls.length t k) (tkD T H) (qD G W T H)/\(Lay T ls.length t k/\OkD H D T)/\Good13 2000 (ls.length*H) 1 j R (fun _=>L) (fun _=>t)/\Po.cnt R+Bk.len L (ls.length*H)=2000
theorem N2.keep {w w':World} {g2 b2 C2 H D G W t k j:Nat} {ls:List (Int × Int)} {T:List (List Tok)} {col:Nat->Nat} (h:N2 w g2 b2 C2 H D G W ls T t k j col) (hb:Below w.heap.size w w'):N2 w' g2 b2 C2 H D G W ls T t k j col:=by
 obtain ⟨R,M,L,h1,h2,h3⟩:=h
 exact ⟨R,M,L,h1.keep hb,h2.below hb,h3⟩
theorem good_one {n m j:Nat} {R:List Int} {L:Nat->Nat->List Int} {l:Nat->List Int} {t:Nat->Nat} {t':Nat} (h:Good13 n m 1 j R L t) (e1:L 0=l) (e2:t 0=t'):Good13 n m 1 j R (fun _=>l) (fun _=>t'):=by
 obtain ⟨h1,h2,h3,h4,h5,h6⟩:=h
 have z:∀ i,i<1->i=0:=fun i hi=>by omega
 refine ⟨fun x hx=>?_,fun i hi=>?_,fun i hi=>?_,fun i hi=>?_,fun i hi=>?_,h6⟩
 ·rw [h1 x hx,Bk.tot_congr (L':=fun _=>l) fun i hi=>by rw [z i hi,e1]]
 ·have:=h2 0 (by decide);rw [e1] at this;exact this
 ·have:=h3 0 (by decide);rw [e1] at this;exact this
 ·have:=h4 0 (by decide);rw [e1] at this;exact this
 ·have:=h5 0 (by decide);rw [e2] at this;exact this
theorem al_new (g2 b2 H D G W:Nat) (al:Option Addr) (cl:Nat) (ls:List (Int × Int)) (col:Nat->Nat) (w:World) (hz:PZ w g2 b2) (hps:Tn.Tr.Ps w al ls) (sh:ShOk H D G W ls) (hfr:∀ x,w.heap.size<=x->col x=0) :
 Calls Tryz.prog 18 #[.pointer (some ⟨g2,0,none⟩),.agg #[.int .i64 (H:Int),.int .i64 (D:Int),.int .i64 (G:Int),.int .i64 (W:Int),.slice al ls.length cl]] w fun e w'=>∃ (C2:Nat) (col':Nat->Nat),e=.returned (.tuple #[.pointer (some ⟨C2,0,none⟩),.int .i64 0])/\N2 w' g2 b2 C2 H D G W ls (List.replicate ls.length []) 0 0 0 col'/\Chg 500 g2 b2 w w' col col':=by
 obtain ⟨R,M,hp,hr⟩:=hz
 obtain ⟨-,hRl,-⟩:=hp.nums
 obtain ⟨-,-,-,h0,-⟩:=sh.nums
 have fl:∀ m,Bk.flat (fun _=>([]:List Int)) m=[]:=fun m=>Bk.flat_nil m
 refine (newC_ok 500 g2 H D G W al cl ls M col w hps sh hfr (by decide)).mono ?_
 rintro e w' ⟨C2,col',rfl,hc,hb,d1,d2,d3⟩
 refine ⟨C2,col',rfl,⟨R,M,_,hp.keep hb,hc.congr (L':=fun _=>[]) fun r hr=>⟨rfl,?_,?_⟩,⟨⟨by simp,h0,fun i hi=>?_⟩,fun i j hj=>?_⟩,⟨fun x hx=>?_,fun i hi x hx=>?_,fun i hi=>?_,fun i hi x hx=>?_,fun i hi=>Nat.le_refl _,by decide,by decide⟩,?_⟩,ButQ.of_below hb,d1,d2,d3⟩
 ·unfold tkD;rw [nt_rep0]
 ·unfold qD;rw [nt_rep0];unfold gn;simp
 ·rw [nt_rep0];show _=lv 0 0 i;unfold lv;rw [if_neg (Nat.not_lt_zero _)];rfl
 ·exact absurd hj (by rw [nt_rep0];simp)
 ·rw [hr x hx]
  show (0:Int)=((Bk.tot (fun _ _=>[]) (ls.length*H) (x:Int) 0+Bk.occ (x:Int) (Bk.flat (fun _=>[]) (ls.length*H)):Nat):Int)
  rw [fl]
  rfl
 ·rw [fl] at hx;cases hx
 ·unfold Bk.len;rw [fl];exact Nat.zero_le _
 ·rw [fl];exact Nat.zero_le _
 ·unfold Bk.len
  rw [fl]
  unfold Po.cnt
  rw [hRl,Po.cntN_all hr]
  rfl
set_option maxHeartbeats 1600000 in
theorem al_put (g2 b2 C2 H D G W t k j:Nat) (ls:List (Int × Int)) (T:List (List Tok)) (col:Nat->Nat) (a1 a2:Option Addr) (k1 k2:Nat) (tok:Tok) (w:World) (h:N2 w g2 b2 C2 H D G W ls T t k j col) (sh:ShOk H D G W ls) (ht:t<=100) (hj:j<=400)
 (hfr:∀ x,w.heap.size<=x->col x=0) (cg:col g2=998) (cb:col b2=998) (hks:SlQ (fun q=>col q=0) 1 eRow w a1 tok.1) (hvs:SlQ (fun q=>col q=0) 1 eRow w a2 tok.2) (ok:TokOk H D tok) :
 Calls Tryz.prog 20 #[.pointer (some ⟨C2,0,none⟩),.int .i64 (k:Int),.slice a1 tok.1.length k1,.slice a2 tok.2.length k2] w fun e w'=>e=.returned (.int .i64 0)/\∃ col',N2 w' g2 b2 C2 H D G W ls (T.set k (Ca.nt T k ++ [tok])) (layT ls.length t k) (layN ls.length k) (j+1) col'/\Chg 500 g2 b2 w w' col col':=by
 obtain ⟨R,M,L,hp,hc,⟨h5,h6⟩,hG,hsum⟩:=h
 obtain ⟨sH,sH2,sD,sD2,-⟩:=id sh
 obtain ⟨ks,vs⟩:=tok
 have hlen:Bk.len L (ls.length*H)<=4*j:=hG.2.2.1 0 (by decide)
 have kd:∀ {a:Option Addr} {l:List (List Int)},SlQ (fun q=>col q=0) 1 eRow w a l->SlQ (fun x=>¬ x=g2/\¬ x=b2/\¬ col x=500) 1 eRow w a l:=fun hl=>hl.carry carry_row (fun q _ hq=>⟨⟨fun e=>by rw [e,cg] at hq;exact absurd hq (by decide),fun e=>by rw [e,cb] at hq;exact absurd hq (by decide),by rw [hq];decide⟩,rfl⟩) (Nat.le_refl _)
 have f1:Ca.fit H D ks=true:=Ca.fit_iff.2 ⟨ok.1,fun i hi=>(ok.2.2 i (by have o1:ks.length=H:=ok.1;omega)).1⟩
 have f2:Ca.fit H D vs=true:=Ca.fit_iff.2 ⟨ok.2.1,fun i hi=>(ok.2.2 i (by have o1:vs.length=H:=ok.2.1;omega)).2.1⟩
 have hkl:k<T.length:=by rw [h5.1];exact h5.2.1
 refine (put_ok_c C2 500 g2 b2 2000 H D G W ls R M L t k (tkD T H) (qD G W T H) col a1 a2 k1 k2 ks vs _ w hp hc sh h5.2.1 (by omega) (fun r hr=>?_) (fun r hr i hi=>h6 _ _ hi) (kd hks) (kd hvs) f1 f2 ok rfl (fun e=>by omega) (hG.rows (a:=0) (by decide)) hfr (by decide) (by rw [cg];decide) (by rw [cb];decide)).mono ?_
 ·have:=h5.2.2 (r / H) (row_lt hr)
  exact ⟨by unfold qD;rw [this],this⟩
 ·rintro e w' ⟨rfl,R',M',L',col',hp',hc',hchg,hfl⟩
  have hdn:dn (decide (gn G W t<gn G W (t+1))) H<=4:=by unfold dn;split <;> omega
  have hG2:=hG.put (a:=0) (by decide) hfl hdn (show layT ls.length t k<=t+1 by unfold layT;split <;> omega)
  obtain ⟨y1,y2,y3,y4,y5,y6,y7,y8⟩:=hfl
  refine ⟨rfl,col',⟨R',M',L',hp',?_,⟨h5.put _,h6.put hkl ok⟩,good_one hG2 (upd_at _ _ _) (upd_at _ _ _),by omega⟩,hchg⟩
  rw [nc_lay] at hc'
  exact hc'.congr fun r hr=>⟨rfl,tkD_put sH hkl _ r,qD_put sH h5 _ r⟩
theorem len_le_of {L L':Nat->List Int} {m:Nat} (h:∀ r,r<m->(L r).length<=(L' r).length):Bk.len L m<=Bk.len L' m:=by
 induction m with
 | zero=>exact Nat.le_refl _
 | succ m ih =>
   have h1:=ih fun r hr=>h r (by omega)
   have h2:=h m (by omega)
   rw [Bk.len_succ,Bk.len_succ]
   omega
theorem al_clear (g2 b2 C2 H D G W t k j:Nat) (ls:List (Int × Int)) (T:List (List Tok)) (L':Nat->List Int) (col:Nat->Nat) (w:World) (h:N2 w g2 b2 C2 H D G W ls T t k j col) (sh:ShOk H D G W ls) (hfr:∀ x,w.heap.size<=x->col x=0) (cg:col g2=998) (cb:col b2=998) (hq:∀ r,r<ls.length*H->qD G W T H r<=(L' r).length) (hL':Bk.len L' (ls.length*H)<=1000) :
 Calls Tryz.prog 25 #[.pointer (some ⟨C2,0,none⟩)] w fun e w'=>e=.returned (.tuple #[])/\PZ w' g2 b2/\Chg 500 g2 b2 w w' col col:=by
 obtain ⟨R,M,L,hp,hc,⟨h5,h6⟩,hG,hsum⟩:=h
 obtain ⟨-,hRl,-⟩:=hp.nums
 have rin:=rows_in hc
 have hle:Bk.len L (ls.length*H)<=1000:=Nat.le_trans (len_le_of fun r hr=>by rw [rin r hr];exact hq r hr) hL'
 refine (clear_c C2 500 g2 b2 2000 H D G W ls R M L t k (tkD T H) (qD G W T H) col w hp hc sh hle (hG.2.1 0 (by decide)) (hG.occs (a:=0) (by decide)) hG.bound hfr (by decide) (by rw [cg];decide) (by rw [cb];decide)).mono ?_
 rintro e w' ⟨rfl,hp',-,hchg⟩
 refine ⟨rfl,⟨_,_,hp',fun x hx=>?_⟩,hchg⟩
 have h1:=Bk.nth_bump (-1) (Bk.flat L (ls.length*H)) R (fun y hy=>by have:=hG.2.1 0 (by decide) y hy;rw [hRl];exact this) x (by rw [hRl];exact hx)
 have h2:=hG.1 x hx
 have h3:Bk.tot (fun _=>L) (ls.length*H) (x:Int) 1=Bk.occ (x:Int) (Bk.flat L (ls.length*H)):=by show 0+_=_;rw [Nat.zero_add]
 rw [h3] at h2
 rw [h1,h2]
 omega
def xob (w:World) (g2 b2:Nat):Nat->Option Obj:=fun x=>if x=g2\/x=b2 then w.heap[x]? else none
theorem PlP.withX {B:Nat} {w0 w w':World} {P n H D G W k j g2 b2:Nat} {ls:List (Int × Int)} (h:PlP nox B w0 w P n H D G W ls k j) (hb:Below w.heap.size w w') (l1:w.heap.size<=g2) (l2:w.heap.size<=b2) (u1:g2<w'.heap.size) (u2:b2<w'.heap.size):PlP (xob w' g2 b2) B w0 w' P n H D G W ls k j:=by
 obtain ⟨g,b,R,M,al,cl,va,vr,C,T,L,t,q,zs,col,h1,h2,h3,h4,h5,h6,h7⟩:=h
 have hs:=hb.size
 have hc:∀ x,x<w.heap.size->(if x=g2\/x=b2 then 998 else col x)=col x:=fun x hx=>if_neg (by omega)
 obtain ⟨p1,p2,p3,p4⟩:=(h2.recol hc).keep hb
 refine ⟨g,b,R,M,al,cl,va,vr,C,T,L,t,q,zs,fun x=>if x=g2\/x=b2 then 998 else col x,(h1.recol hc).keep hb,⟨p1,p2,p3,p4.1,p4.2.1,fun x o e=>?_⟩,(h3.recol hc).keep hb,⟨fun x hx=>?_,fun x hx=>?_⟩,h5,h6.trans (hb.mono h7),by omega⟩
 ·unfold xob at e
  by_cases c:x=g2\/x=b2
  ·rw [if_pos c] at e
   exact ⟨by rcases c with c | c <;> omega,e,if_pos c⟩
  ·rw [if_neg c] at e
   cases e
 ·show (if x=g2\/x=b2 then 998 else col x)=0
  rw [if_neg (by omega)]
  exact h4.1 x (by omega)
 ·show (if x=g2\/x=b2 then 998 else col x)=0
  rw [if_neg (by omega)]
  exact h4.2 x hx
def tk2 (T:List (List Tok)) (i y:Nat):List (List Tok):=(List.range T.length).map fun s=>(Ca.nt T s).take (if s<y then i+1 else i)
theorem nt_tk2 {T:List (List Tok)} {i y s:Nat} (hs:s<T.length):Ca.nt (tk2 T i y) s=(Ca.nt T s).take (if s<y then i+1 else i):=by
 rw [Ca.nt_at (by unfold tk2;simp;exact hs)]
 simp [tk2]
theorem tk2_zero (T:List (List Tok)):tk2 T 0 0=List.replicate T.length []:=by
 unfold tk2
 refine List.ext_getElem (by simp) fun i h1 h2=>?_
 simp
theorem tk2_next (T:List (List Tok)) (i:Nat):tk2 T i T.length=tk2 T (i+1) 0:=by
 unfold tk2
 refine List.map_congr_left fun s hs=>?_
 have:s<T.length:=List.mem_range.1 hs
 rw [if_pos this,if_neg (Nat.not_lt_zero _)]
theorem tk2_put {T:List (List Tok)} {i y:Nat} (hy:y<T.length) (hi:i<(Ca.nt T y).length):(tk2 T i y).set y (Ca.nt (tk2 T i y) y ++ [(Ca.nt T y)[i]])=tk2 T i (y+1):=by
 have hl:∀ y,(tk2 T i y).length=T.length:=fun y=>by unfold tk2;simp
 refine List.ext_getElem (by rw [List.length_set,hl,hl]) fun s h1 h2=>?_
 rw [hl] at h2
 rw [List.getElem_set]
 have e:∀ (y:Nat) (h:s<(tk2 T i y).length),(tk2 T i y)[s]=(Ca.nt T s).take (if s<y then i+1 else i):=fun y h=>by rw [<-nt_tk2 h2];exact (Ca.nt_at h).symm
 by_cases c:y=s
 ·subst c
  rw [if_pos rfl,e,nt_tk2 hy,if_neg (Nat.lt_irrefl _),if_pos (Nat.lt_succ_self _),List.take_succ_eq_append_getElem hi]
 ·rw [if_neg c,e,e]
  by_cases d:s<y
  ·rw [if_pos d,if_pos (by omega)]
  ·rw [if_neg d,if_neg (by omega)]
end Cc
end Go.Proofs.YtnchnlgnnlgjcaaGreat
namespace Go.Proofs.YtnchnlgnnlgjcaaGreat
open Go.RowKit
namespace Cc
theorem al_start {B:Nat} {w0 w w5:World} {P n H D G W k j g2 b2:Nat} {ls:List (Int × Int)} (h:PlP (xob w5 g2 b2) B w0 w P n H D G W ls k j) (hp:PoolAt w5 g2 b2 2000 (Po.zeros 2000) (Po.zeros 2000)) :
 ∃ g b R M al cl ga ca gr cr C T L t q zs col,S2 B w0 w P g b n H D G W k al cl ls R M (.slice (some ⟨ga,0,none⟩) k ca) (.slice (some ⟨gr,0,none⟩) k cr) C T L t q zs g2 b2 col/\PZ w g2 b2/\Good13 n (ls.length*H) k j R L t:=by
 obtain ⟨g,b,R,M,al,cl,va,vr,C,T,L,t,q,zs,col,h1,h2,h3,h4,h5,h6,h7⟩:=h
 have hk0:=h5.2.2.2.2.2.1
 obtain ⟨p1,p2,p3,q1,q2,q3⟩:=h2
 obtain ⟨ga,ca,Fa,ea,-⟩:=row_of_own p2.1 hk0
 obtain ⟨gr,cr,Fr',er,-⟩:=row_of_own p3.1 hk0
 subst ea er
 obtain ⟨lg,lb⟩:=hp.lt
 obtain ⟨x1,x2,x3⟩:=q3 g2 _ (by unfold xob;rw [if_pos (.inl rfl)];exact Array.getElem?_eq_getElem lg)
 obtain ⟨y1,y2,y3⟩:=q3 b2 _ (by unfold xob;rw [if_pos (.inr rfl)];exact Array.getElem?_eq_getElem lb)
 refine ⟨g,b,R,M,al,cl,ga,ca,gr,cr,C,T,L,t,q,zs,col,⟨h1,⟨p1,p2,p3,q1,q2,fun x o e=>nomatch e⟩,h3,h4,⟨x3,y3,x1,y1⟩,h6,h7⟩,⟨Po.zeros 2000,Po.zeros 2000,pool_stand3 hp (x2.trans (Array.getElem?_eq_getElem lg).symm) (y2.trans (Array.getElem?_eq_getElem lb).symm) fun x hx hr=>?_,fun x _=>Po.nth_zeros _ _⟩,h5⟩
 rw [Po.nth_zeros] at hr
 exact absurd hr (by decide)
theorem S2.cells {B:Nat} {w0 w:World} {P g b n H D G W k cl g2 b2 ga ca gr cr:Nat} {al:Option Addr} {ls:List (Int × Int)} {R M:List Int} {C:Nat->Nat} {T:Nat->List (List Tok)} {L:Nat->Nat->List Int} {t q:Nat->Nat} {zs:Nat->Value} {col:Nat->Nat}
 (h:S2 B w0 w P g b n H D G W k al cl ls R M (.slice (some ⟨ga,0,none⟩) k ca) (.slice (some ⟨gr,0,none⟩) k cr) C T L t q zs g2 b2 col):w.cell? ⟨P,6,none⟩=some (.slice (some ⟨ga,0,none⟩) k ca)/\w.cell? ⟨P,7,none⟩=some (.slice (some ⟨gr,0,none⟩) k cr)/\∀ i,i<k->w.cell? ⟨ga,i,none⟩=some (.pointer (some ⟨C i,0,none⟩))/\w.cell? ⟨gr,i,none⟩=some (zs i):=by
 obtain ⟨-,⟨⟨hP,-⟩,⟨hva,-⟩,⟨hvr,-⟩,-⟩,-⟩:=h
 refine ⟨hP.cell (show 6<8 by decide),hP.cell (show 7<8 by decide),fun i hi=>?_⟩
 obtain ⟨ga',ca',Fa,ea,-,hra,hca,fa⟩:=row_of_own hva (by omega)
 obtain ⟨gr',cr',Fr',er,-,hrr,hcr,fr⟩:=row_of_own hvr (by omega)
 cases ea
 cases er
 have f1:=fa i hi
 have f2:=fr i hi
 unfold cptrs at f1
 refine ⟨?_,?_⟩
 ·rw [hra.cell (by omega)]
  simpa [hi] using f1
 ·rw [hrr.cell (by omega)]
  simpa [hi] using f2
theorem S2.doc {B:Nat} {w0 w:World} {P g b n H D G W k cl g2 b2 s cz:Nat} {al az:Option Addr} {ls:List (Int × Int)} {R M:List Int} {va vr:Value} {C:Nat->Nat} {T:Nat->List (List Tok)} {L:Nat->Nat->List Int} {t q:Nat->Nat} {zs:Nat->Value} {col:Nat->Nat}
 (h:S2 B w0 w P g b n H D G W k al cl ls R M va vr C T L t q zs g2 b2 col) (hs:s<k) (e:zs s=.slice az (T s).length cz):SlQ (fun x=>col x=0) 1 eToks w az (T s):=by
 obtain ⟨a,c,e2,hq⟩:=h.2.2.1 s hs
 rw [e] at e2
 have ea:az=a:=by injection e2
 rw [ea]
 exact hq
theorem tok_cells {Q:Nat->Prop} {w:World} {A:Option Addr} {l:List Tok} (h:SlQ Q 2 eTok w A l) {i:Nat} (hi:i<l.length):∃ b o A1 C1 A2 C2,A=some ⟨b,o,none⟩/\w.cell? ⟨b,o+i*2,none⟩=some (.slice A1 l[i].1.length C1)/\w.cell? ⟨b,o+i*2+1,none⟩=some (.slice A2 l[i].2.length C2)/\SlQ Q 1 eRow w A1 l[i].1/\SlQ Q 1 eRow w A2 l[i].2:=by
 obtain ⟨b,o,e,-,-,⟨A1,C1,h1,-,-,-,h2⟩,⟨A2,C2,h3,-,-,-,h4⟩⟩:=h i hi
 have h1:w.cell? ⟨b,o+(i*2+0),none⟩=some (.slice A1 l[i].1.length C1):=h1
 have h3:w.cell? ⟨b,o+(i*2+(0+1)),none⟩=some (.slice A2 l[i].2.length C2):=h3
 exact ⟨b,o,A1,C1,A2,C2,e,by rw [show o+i*2=o+(i*2+0) by omega];exact h1,by rw [show o+i*2+1=o+(i*2+(0+1)) by omega];exact h3,h2,h4⟩
theorem pages_m (C c g b n H D G W ly hd r q0:Nat) (ls:List (Int × Int)) (R M:List Int) (L:Nat->List Int) (t k:Nat) (tk:Nat->List Tok) (q:Nat->Nat) (col:Nat->Nat) (w:World) (hp:PoolAt w g b n R M) (h:CaAt w col c g C H D G W ls M L (cn ls.length t k) tk q) (sh:ShOk H D G W ls)
 (hly:ly<ls.length) (hhd:hd<H) (hr:ly*H+hd=r) (hq0:q r=q0) (hq1:q0<=1000) (hL:∀ i,i<ls.length*H->∀ x,x ∈ L i->0<=x/\x<n/\0<Ls.nth R x.toNat) :
 Calls Tryz.prog 24 #[.pointer (some ⟨C,0,none⟩),.int .i64 (ly:Int),.int .i64 (hd:Int)] w fun e w'=>∃ a c,e=.returned (.slice a q0 c)/\Below w.heap.size w w' :=
 (pages_c C c g b n H D G W ly hd r q0 ls R M L t k tk q col w hp h sh hly hhd hr hq0 hq1 hL).mono fun _ _ ⟨v,e,ho,hb⟩=>by
   obtain ⟨a,c,rfl⟩:=Ca.own_slice ho
   exact ⟨a,c,e,hb⟩
theorem tk2_all {T:List (List Tok)} {nl t:Nat} (h:Lay T nl t 0):∀ s,Ca.nt (tk2 T t 0) s=Ca.nt T s:=fun s=>by
 by_cases hs:s<T.length
 ·rw [nt_tk2 hs,if_neg (Nat.not_lt_zero _)]
  refine List.take_of_length_le ?_
  rw [h.2.2 s (by rw [<-h.1];exact hs)]
  unfold lv
  rw [if_neg (Nat.not_lt_zero _)]
  exact Nat.le_refl _
 ·unfold Ca.nt tk2
  simp [hs]
theorem tk2_len (T:List (List Tok)) (i:Nat) (s:Nat):(Ca.nt (tk2 T i 0) s).length<=(Ca.nt T s).length:=by
 by_cases hs:s<T.length
 ·rw [nt_tk2 hs,List.length_take]
  omega
 ·have:Ca.nt (tk2 T i 0) s=[]:=by unfold Ca.nt tk2;simp [hs]
  rw [this]
  exact Nat.zero_le _
end Cc
end Go.Proofs.YtnchnlgnnlgjcaaGreat
