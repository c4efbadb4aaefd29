import Derived.Test.YtnchnlgnnlgjcaaGreatCa12
import Derived.Test.YtnchnlgnnlgjcaaGreatCa14
import Derived.Test.YtnchnlgnnlgjcaaGreatCa15
set_option linter.unusedVariables false
set_option linter.unusedSimpArgs false
namespace Go.Proofs.YtnchnlgnnlgjcaaGreat
open Go.RowKit
theorem AccQ.mono {α:Type} {E:El α} {s:Nat} (hE:Carries s E) {Q Q':Nat->Prop} {B:Nat} {t:TypeId} {w:World} {v:Value} {n:Nat} {l:List α} {xs:List Value} (h:AccQ Q B s t E w v n l xs) (hq:∀ q,Q q->Q' q):AccQ Q' B s t E w v n l xs:=by
 obtain ⟨h1,h2,h3,h4⟩:=h
 exact ⟨h1,h2,h3,fun i hi c hc=>hE _ _ w w c c _ (fun q _ hh=>⟨⟨hq q hh.1,hh.2⟩,rfl⟩) (Nat.le_refl _) (fun _ _ _ h=>h) (h4 i hi c hc)⟩
end Go.Proofs.YtnchnlgnnlgjcaaGreat
namespace Go.Proofs.YtnchnlgnnlgjcaaGreat
open Go.RowKit
theorem wpList_append_slq2 {α:Type} {E:El α} {s:Nat} {P:Program} {w:World} {ops:Array Oper} {rest:List Oper} {o:Oper} {a:Act} {K:Exit->Act->World->Prop} (hE:Carries s E) (hF:Full s E) (hgd:o.guard=none) (so x:Operand) (t:TypeId)
 (ho:o.op=.call { callee:=.builtin .append,args:=#[so,x],argTypes:=#[t,t] })
 (base:Nat) (e:TypeId) (z:Value) (bytes:Nat) (ht:P.underlying t=some (.slice e)) (hinfo:(P.info? e).map (fun i=>(i.zero,i.size,i.bytes))=some (some z,s,bytes)) (hzs:z.cells.size=s) (hsz:0<s)
 (v:Value) (n:Nat) (xs:List Value) (hs:a.eval so=v) (hown:w.ownsRow base e s v n xs)
 {Q:Nat->Prop} (ao:Option Addr) (l:List α) (c:Nat) (hx:a.eval x=.slice ao l.length c) (hL:SlQ Q s E w ao l)
 (h63:n+l.length<=maxLen) (hbytes:(n+l.length)*bytes<=140737488355328) (hbase:base<=w.heap.size) (hne:0<l.length)
 (h:∀ g cap w' news,news.length=l.length*s->(∀ i (hi:i<l.length) (c:Nat->Option Value),(∀ j,j<s->c j=news[i*s+j]?)->E Q w c l[i])->w'.ownsRow base e s (.slice (some ⟨g,0,none⟩) (n+l.length) cap) (n+l.length) (xs ++ news)->w.grownBy w' v.ownBlock->(v.ownBlock=some g\/g=w.heap.size)->wpList P ops K rest (a.put o.dst (.slice (some ⟨g,0,none⟩) (n+l.length) cap)) w'):wpList P ops K (o :: rest) a w:=by
 obtain ⟨i,hi,hz0,hz1,hz2⟩:=info_parts hinfo
 obtain ⟨b,oo,ee,hb,hq,hget⟩:=hL.get hne
 subst ee
 have hcell:∀ j,j<l.length*s->∃ u,w.cell? ⟨b,oo+j,none⟩=some u/\u.oneCell'=true:=fun j hj=>by
  have h1:j / s<l.length:=Nat.div_lt_of_lt_mul (by rw [Nat.mul_comm];exact hj)
  obtain ⟨u,hu,h2⟩:=hF _ _ _ _ (hget (j / s) h1) (j % s) (Nat.mod_lt _ hsz)
  have hu:w.cell? ⟨b,oo+(j / s*s+j % s),none⟩=some u:=hu
  rw [Nat.div_add_mod' j s] at hu
  exact ⟨u,hu,h2⟩
 obtain ⟨news,hnews⟩:∃ news:List Value,news=(List.range (l.length*s)).map fun j=>(w.cell? ⟨b,oo+j,none⟩).getD (.int .i64 0):=⟨_,rfl⟩
 have hlen:news.length=l.length*s:=by rw [hnews];simp
 have hat:∀ j,j<l.length*s->news[j]?=w.cell? ⟨b,oo+j,none⟩:=fun j hj=>by
  obtain ⟨u,hu,_⟩:=hcell j hj
  rw [hnews,List.getElem?_map,List.getElem?_range hj]
  simp [hu]
 refine wpList_append_lies _ hgd so x t ho base e i z s bytes ht hi hz0 hz1 hz2 hzs hsz v n xs hs hown ⟨b,oo,none⟩ l.length c news hx hlen (fun j u hu=>?_) (fun u hu=>?_) hne h63 hbytes hbase w.heap.size rfl
  (fun g cap w' h1 h2 h3 _=>h g cap w' news hlen (fun i hi c hc=>hE Q Q w w _ c _ (fun q _ hq=>⟨hq,rfl⟩) (Nat.le_refl _) (fun j hj v hv=>?_) (hget i hi)) h1 h2 h3)
 ·have hj:j<l.length*s:=by rw [<-hlen];exact (List.getElem?_eq_some_iff.1 hu).1
  rw [Addr.add_lit,<-hat j hj];exact hu
 ·obtain ⟨j,hj,rfl⟩:=List.getElem_of_mem hu
  have hj2:j<l.length*s:=by rw [<-hlen];exact hj
  obtain ⟨u,hu,h2⟩:=hcell j hj2
  have:=hat j hj2
  rw [List.getElem?_eq_getElem hj,hu] at this
  cases this
  exact h2
 ·have:i*s+j<l.length*s:=by
   have:=Nat.mul_le_mul_right s (show i+1<=l.length by omega)
   rw [Nat.add_mul,Nat.one_mul] at this
   omega
  rw [hc j hj,hat _ this]
  exact hv
theorem AccQ.more {α:Type} {E:El α} {s:Nat} (hE:Carries s E) {Q:Nat->Prop} {B m:Nat} {t:TypeId} {u u':World} {v:Value} {n:Nat} {l r:List α} {xs news:List Value} {g cap:Nat} (h:AccQ Q B s t E u v n l xs)
 (ho:u'.ownsRow B t s (.slice (some ⟨g,0,none⟩) (n+m) cap) (n+m) (xs ++ news)) (hm:m=r.length) (hn:news.length=r.length*s) (hg:u.grownBy u' v.ownBlock) (hat:v.ownBlock=some g\/g=u.heap.size)
 (hx:∀ i (hi:i<r.length) (c:Nat->Option Value),(∀ j,j<s->c j=news[i*s+j]?)->E (fun q=>Q q/\q<u.heap.size/\¬ v.ownBlock=some q) u c r[i]):AccQ Q B s t E u' (.slice (some ⟨g,0,none⟩) (n+m) cap) (n+m) (l ++ r) (xs ++ news):=by
 obtain ⟨h1,h2,hl,h4⟩:=h
 have hsz:u.heap.size<=u'.heap.size:=hg.size
 have hk:∀ q,q<u.heap.size->(Q q/\q<u.heap.size/\¬ v.ownBlock=some q)->(Q q/\q<u'.heap.size/\¬ (Value.slice (some ⟨g,0,none⟩) (n+m) cap).ownBlock=some q)/\u'.heap[q]?=u.heap[q]?:=fun q hq ⟨q1,q2,q3⟩=>by
  refine ⟨⟨q1,by omega,fun e=>?_⟩,hg.block q hq fun e=>q3 e.symm⟩
  have e:g=q:=by injection e
  subst e
  rcases hat with e | e
  ·exact q3 e
  ·omega
 refine ⟨ho,by simp [h2,hm],by rw [List.length_append,hl,hn,Nat.add_mul,hm],fun i hi c hc=>?_⟩
 by_cases hlt2:i<l.length
 ·rw [List.getElem_append_left hlt2]
  refine hE _ _ u u' c c _ hk hsz (fun _ _ _ h=>h) (h4 i hlt2 c fun j hj=>?_)
  rw [hc j hj]
  have:i*s+j<xs.length:=by
   rw [hl,h2]
   have:=Nat.mul_le_mul_right s (show i+1<=l.length by omega)
   rw [Nat.add_mul,Nat.one_mul] at this
   omega
  rw [List.getElem?_append_left this]
 ·have hi2:i - l.length<r.length:=by simp at hi;omega
  rw [List.getElem_append_right (by omega)]
  refine hE _ _ u u' c c _ hk hsz (fun _ _ _ h=>h) (hx _ hi2 c fun j hj=>?_)
  have h5:l.length*s<=i*s:=Nat.mul_le_mul_right s (by omega)
  rw [hc j hj,List.getElem?_append_right (by rw [hl,h2];omega),hl,h2,Nat.sub_mul]
  congr 1
  omega
end Go.Proofs.YtnchnlgnnlgjcaaGreat
namespace Go.Proofs.YtnchnlgnnlgjcaaGreat
open Go.RowKit
namespace Ca
def flat (g:Nat) (f:Nat->Nat->List Int) (n:Nat):List (List Int):=(List.range n).flatMap fun i=>(List.range g).map (f i)
theorem flat_succ (g:Nat) (f:Nat->Nat->List Int) (n:Nat):flat g f (n+1)=flat g f n ++ (List.range g).map (f n):=by simp [flat,List.range_succ,List.flatMap_append]
theorem flat_length (g:Nat) (f:Nat->Nat->List Int) (n:Nat):(flat g f n).length=n*g:=by
 induction n with
 | zero=>simp [flat]
 | succ n ih=>rw [flat_succ,List.length_append,ih,Nat.add_mul];simp
def keyAt (m0 m1 s0 s1 g D ly hd:Nat) (L:List Tok) (i t:Nat):List Int:=Pg.key (pg m0 m1 s0 s1 g D ly hd L i).2.1 t
def valAt (m0 m1 s0 s1 g D ly hd:Nat) (L:List Tok) (i t:Nat):List Int:=Gp.means (Pg.gz (Pg.nth (pg m0 m1 s0 s1 g D ly hd L i).2.2 t)) (Pg.gs (Pg.nth (pg m0 m1 s0 s1 g D ly hd L i).2.2 t)) (Pg.gc (Pg.nth (pg m0 m1 s0 s1 g D ly hd L i).2.2 t))
end Ca
theorem wpList_append_rows {P:Program} {w:World} {ops:Array Oper} {rest:List Oper} {o:Oper} {a:Act} {K:Exit->Act->World->Prop} (hgd:o.guard=none) (so x:Operand) (t:TypeId)
 (ho:o.op=.call { callee:=.builtin .append,args:=#[so,x],argTypes:=#[t,t] })
 (base:Nat) (e:TypeId) (ht:P.underlying t=some (.slice e)) (hinfo:(P.info? e).map (fun i=>(i.zero,i.size,i.bytes))=some (some (.slice none 0 0),1,24))
 (v:Value) (n m N:Nat) (xs:List Value) (hs:a.eval so=v) (hown:w.ownsRow base e 1 v n xs)
 {Q:Nat->Prop} (ao:Option Addr) (l:List (List Int)) (c:Nat) (hm:m=l.length) (hN:N=n+m) (hx:a.eval x=.slice ao m c) (hL:SlQ Q 1 eRow w ao l)
 (hsm:n+m<=100000) (hbase:base<=w.heap.size) (hne:0<m)
 (h:∀ g cap w' news,news.length=l.length*1->(∀ i (hi:i<l.length) (c:Nat->Option Value),(∀ j,j<1->c j=news[i*1+j]?)->eRow Q w c l[i])->w'.ownsRow base e 1 (.slice (some ⟨g,0,none⟩) (n+m) cap) (n+m) (xs ++ news)->w.grownBy w' v.ownBlock->(v.ownBlock=some g\/g=w.heap.size)->wpList P ops K rest (a.put o.dst (.slice (some ⟨g,0,none⟩) N cap)) w'):wpList P ops K (o :: rest) a w:=by
 subst hm hN
 exact wpList_append_slq2 carry_row (full_sl 1 (eNum .i32)) hgd so x t ho base e (.slice none 0 0) 24 ht hinfo rfl (by decide) v n xs hs hown ao l c hx hL (by unfold maxLen;omega) (by omega) hbase hne h
end Go.Proofs.YtnchnlgnnlgjcaaGreat
namespace Go.Proofs.YtnchnlgnnlgjcaaGreat
open Go.RowKit
namespace Cc
theorem slots_c (C c g H D G W N:Nat) (ls:List (Int × Int)) (M:List Int) (L:Nat->List Int) (cnt:List Int) (tk:Nat->List Tok) (q:Nat->Nat) (col:Nat->Nat) (w:World) (h:CaAt w col c g C H D G W ls M L cnt tk q) (hm:ls.length*H<=16) (hN:Bk.len L (ls.length*H)=N) (hl:N<=100000) :
 Calls Tryz.prog 27 #[.pointer (some ⟨C,0,none⟩)] w fun e w'=>∃ a c',e=.returned (.slice a N c')/\Lst .i64 w' a (Bk.flat L (ls.length*H))/\Below w.heap.size w w':=by
 obtain ⟨al,cl,T,pb,pc,ct,cc,rg,rs,F,⟨hC,zC⟩,-,⟨hT,zT⟩,-⟩:=h.in
 have x6:w.cell? ⟨C,6,none⟩=some (.pointer (some ⟨T,0,none⟩)):=hC.cell (show 6<9 by decide)
 have HT:=Ca.hid hT
 have HN:=Ca.hid hN
 clear hT hC h hN
 go_enter Tryz.func27,Tryz.ntmps27
 go_wp2_with (go_at_call 72;refine (slots_any' g T (ls.length*H) N L _ _ HT.out (by omega) HN.out hl).mono ?_;rintro e w1 ⟨a,c',rfl,-,hA,hb⟩;have A1:=Ca.hid hA;have B1:=Ca.hid hb;clear hA hb)
 go_ret
 exact ⟨a,c',rfl,A1.out,B1.out⟩
set_option maxRecDepth 100000 in
theorem cloneBits_z (a:Option Addr) (c n:Nat) (ls:List (Int × Int)) (w:World) (h:Tn.Tr.Ps w a ls) (h0:0<ls.length) (hl:ls.length<=1000) (hn:ls.length=n) :
 Calls Tryz.prog 94 #[.slice a n c] w fun e w'=>∃ a' c',e=.returned (.slice (some ⟨a',0,none⟩) n c')/\w.heap.size<=a'/\Ty w' a' 77/\Tn.Tr.Ps w' (some ⟨a',0,none⟩) ls/\Below w.heap.size w w':=by
 subst hn
 have hS:=ps_slq (Q:=fun _=>True) h (fun _ _=>trivial)
 obtain ⟨b,o,rfl,-⟩:=hS.get h0
 have HA:Hid (SlQ (fun _=>True) 2 ePair w (some ⟨b,o,none⟩) ls):=hS
 clear h hS
 have hq:(binOp .eql 22 (.slice (some ⟨b,o,none⟩) ls.length c) (.slice none 0 0)).run Tryz.prog w=.ok (.bool false) w:=slice_nil w _ _ (some ⟨b,o,none⟩) _ _ Tryz.underlying22
 go_enter Tryz.func94,Tryz.ntmps94
 go_wp2_with (at_builtin;refine wpList_append_slq carry_pair full_pair rfl _ _ 22 rfl w.heap.size 77 _ 16 Tryz.underlying22 infoBits (by rfl) (by decide) _ 0 [] (by rfl) (World.ownsRow_made w #[] 0 (Nat.le_refl _) (by decide) rfl) (some ⟨b,o,none⟩) ls c (by rfl) (HA.out.keep carry_pair (box_below _ _)) (fun e=>nomatch e) (by unfold maxLen;omega) (by omega) (by simp) ?_;intro v1 u1 news hnl hne ho1 hg1;simp only [Nat.zero_add,List.nil_append] at ho1;obtain ⟨va,vc,rfl⟩:=Ca.own_slice ho1;have O1:Hid (u1.ownsRow w.heap.size 77 2 (.slice va ls.length vc) ls.length news):=ho1;have NE:=Ca.hid hne;have B1:Hid (Below w.heap.size w u1):=(box_below _ _).grown hg1 (by simp) (by intro k hk;cases hk;exact Nat.le_refl _);clear ho1 hg1 hne)
 go_ret
 obtain ⟨g,cp,e,_⟩:=O1.out.form (by omega)
 cases e
 obtain ⟨a',c',e,hs,_⟩:=slq_of_own (E:=ePair) (Q:=fun _=>True) (l:=ls) O1.out rfl (fun _ _=>trivial) (fun i hi cc hcc=>NE.out i hi cc hcc)
 cases e
 have hlt:=O1.out.lt g rfl
 exact ⟨g,_,rfl,hlt.1,ty_own O1.out rfl,slq_ps hs,B1.out⟩
theorem shape_box {w:World} {H D G W:Int} {v:Value}:(w.alloc (.cells #[.int .i64 H,.int .i64 D,.int .i64 G,.int .i64 W,v] 26)).rowIs w.heap.size 26 5 (fun i=>if i=0 then .int .i64 H else if i=1 then .int .i64 D else if i=2 then .int .i64 G else if i=3 then .int .i64 W else v) :=
 World.rowIs_alloc w _ _ _ (fun i hi=>by match i,hi with | 0,_=>rfl | 1,_=>rfl | 2,_=>rfl | 3,_=>rfl | 4,_=>rfl)
set_option maxHeartbeats 1600000 in
theorem copied_c (H D G W:Int) (al:Option Addr) (cl n:Nat) (ls:List (Int × Int)) (w:World) (h:Tn.Tr.Ps w al ls) (h0:0<ls.length) (hl:ls.length<=1000) (hn:ls.length=n) :
 Calls Tryz.prog 52 #[.agg #[.int .i64 H,.int .i64 D,.int .i64 G,.int .i64 W,.slice al n cl]] w fun e w'=>∃ a' c',e=.returned (.agg #[.int .i64 H,.int .i64 D,.int .i64 G,.int .i64 W,.slice (some ⟨a',0,none⟩) n c'])/\w.heap.size<=a'/\Ty w' a' 77/\Tn.Tr.Ps w' (some ⟨a',0,none⟩) ls/\Below w.heap.size w w':=by
 have HP:=Ca.hid h
 have HN:=Ca.hid hn
 clear h hn
 go_enter Tryz.func52,Tryz.ntmps52
 go_wp2_with fail
 obtain ⟨u,hu⟩:∃ u,(w.alloc (.cells #[.int .i64 H,.int .i64 D,.int .i64 G,.int .i64 W,.slice al n cl] 26)).alloc (.cells #[.int .i64 0,.int .i64 0,.int .i64 0,.int .i64 0,.slice none 0 0] 26)=u:=⟨_,rfl⟩
 have U:Hid (Below w.heap.size w u):=by rw [<-hu];exact two_boxes _ _ _
 have su:Hid (u.heap.size=w.heap.size+2):=by show _=_;rw [<-hu];simp
 have r0:Hid (u.rowIs w.heap.size 26 5 (fun i=>if i=0 then .int .i64 H else if i=1 then .int .i64 D else if i=2 then .int .i64 G else if i=3 then .int .i64 W else .slice al n cl)):=by rw [<-hu];exact shape_box.alloc _
 have r1:Hid (u.rowIs (w.heap.size+1) 26 5 (fun i=>if i=0 then .int .i64 0 else if i=1 then .int .i64 0 else if i=2 then .int .i64 0 else if i=3 then .int .i64 0 else .slice none 0 0)):=by
  have:=shape_box (w:=w.alloc (.cells #[.int .i64 H,.int .i64 D,.int .i64 G,.int .i64 W,.slice al n cl] 26)) (H:=0) (D:=0) (G:=0) (W:=0) (v:=.slice none 0 0)
  rw [hu,World.size_alloc] at this
  exact this
 rw [hu]
 clear hu
 refine (cloneBits_z al cl n ls u (HP.out.keep U.out) h0 hl HN.out).mono ?_
 rintro e v ⟨a',c',rfl,g1,g2,g3,hb⟩
 have RS:=Ca.hid (And.intro g1 (And.intro g2 (And.intro g3 hb)))
 have s0:=r0.out.of_block (hb.block _ r0.out.lt)
 have s1:=r1.out.of_block (hb.block _ r1.out.lt)
 have S0:=Ca.hid s0
 have S1:=Ca.hid s1
 have x0:v.cell? ⟨w.heap.size,0,none⟩=some (.int .i64 H):=s0.cell (show 0<5 by decide)
 have x1:v.cell? ⟨w.heap.size,1,none⟩=some (.int .i64 D):=s0.cell (show 1<5 by decide)
 have x2:v.cell? ⟨w.heap.size,2,none⟩=some (.int .i64 G):=s0.cell (show 2<5 by decide)
 have x3:v.cell? ⟨w.heap.size,3,none⟩=some (.int .i64 W):=s0.cell (show 3<5 by decide)
 have x4:v.cell? ⟨w.heap.size,4,none⟩=some (.slice al n cl):=s0.cell (show 4<5 by decide)
 have z4:=s0.frozen 4
 have y0:v.cell? ⟨w.heap.size+1,0,none⟩=some (.int .i64 0):=s1.cell (show 0<5 by decide)
 have y1:v.cell? ⟨w.heap.size+1,1,none⟩=some (.int .i64 0):=s1.cell (show 1<5 by decide)
 have y2:v.cell? ⟨w.heap.size+1,2,none⟩=some (.int .i64 0):=s1.cell (show 2<5 by decide)
 have y3:v.cell? ⟨w.heap.size+1,3,none⟩=some (.int .i64 0):=s1.cell (show 3<5 by decide)
 have y4:v.cell? ⟨w.heap.size+1,4,none⟩=some (.slice none 0 0):=s1.cell (show 4<5 by decide)
 have f0:=s1.frozen 0
 have f1:=s1.frozen 1
 have f2:=s1.frozen 2
 have f3:=s1.frozen 3
 have f4:=s1.frozen 4
 clear g1 g2 g3 hb s0 s1
 go_wp2
 have nb:∀ (y:World) (b o:Nat) (vv:Value),¬ a'=b->Tn.Tr.Ps y (some ⟨a',0,none⟩) ls->Tn.Tr.Ps (y.setCell ⟨b,o,none⟩ vv) (some ⟨a',0,none⟩) ls:=fun y b o vv hn hps i hi=>by
  obtain ⟨b1,o1,e,q1,q2⟩:=hps i hi
  cases e
  refine ⟨a',0,rfl,?_,?_⟩
  ·rw [World.cell?_of_block (a:=⟨a',0+i*2,none⟩) (Below.heap_setCell _ _ _ _ (show a' ≠ b from hn))];exact q1
  ·rw [World.cell?_of_block (a:=⟨a',0+i*2+1,none⟩) (Below.heap_setCell _ _ _ _ (show a' ≠ b from hn))];exact q2
 have n0:¬ a'=w.heap.size:=by have:=RS.out.1;have:=su.out;omega
 have n1:¬ a'=w.heap.size+1:=by have:=RS.out.1;have:=su.out;omega
 have BV:Below w.heap.size w v:=U.out.trans (RS.out.2.2.2.mono U.out.size)
 refine bodyPost_ret (v:=.agg #[.int .i64 H,.int .i64 D,.int .i64 G,.int .i64 W,.slice (some ⟨a',0,none⟩) n c']) (by simp [results,Tryz.results52,go_sem,y0,y1,y2,y3,y4]) rfl ⟨a',c',rfl,by have:=RS.out.1;have:=su.out;omega,?_,?_,?_⟩
 ·exact RS.out.2.1.of_block ((Below.heap_setCell _ _ _ _ (show a' ≠ w.heap.size+1 from n1)).trans ((Below.heap_setCell _ _ _ _ (show a' ≠ w.heap.size+1 from n1)).trans ((Below.heap_setCell _ _ _ _ (show a' ≠ w.heap.size+1 from n1)).trans ((Below.heap_setCell _ _ _ _ (show a' ≠ w.heap.size+1 from n1)).trans ((Below.heap_setCell _ _ _ _ (show a' ≠ w.heap.size+1 from n1)).trans (Below.heap_setCell _ _ _ _ (show a' ≠ w.heap.size from n0)))))))
 ·exact nb _ _ _ _ n1 (nb _ _ _ _ n1 (nb _ _ _ _ n1 (nb _ _ _ _ n1 (nb _ _ _ _ n1 (nb _ _ _ _ n0 RS.out.2.2.1)))))
 ·exact (((((BV.setCell (by simp) _).setCell (by simp) _).setCell (by simp) _).setCell (by simp) _).setCell (by simp) _).setCell (by simp) _
end Cc
end Go.Proofs.YtnchnlgnnlgjcaaGreat
namespace Go.Proofs.YtnchnlgnnlgjcaaGreat
open Go.RowKit
namespace Cc
set_option maxHeartbeats 800000 in
theorem right_c (H D G W:Int) (al:Option Addr) (cl:Nat) (ls:List (Int × Int)) (q:Bool) (w:World) (h:Tn.Tr.Ps w al ls) (hl:ls.length<=maxLen) (hq:decide (1<=H/\H<=4/\1<=D/\D<=16/\Tn.Tr.right G W ls=0)=q) :
 Calls Tryz.prog 13 #[.agg #[.int .i64 H,.int .i64 D,.int .i64 G,.int .i64 W,.slice al ls.length cl]] w fun e w'=>e=.returned (.bool q)/\Below w.heap.size w w':=by
 have HP:=Ca.hid h
 have B0:Hid (Below w.heap.size w (w.alloc (.cells #[.int .i64 H,.int .i64 D,.int .i64 G,.int .i64 W,.slice al ls.length cl] 26))):=Rt.box_below _ _
 clear h
 by_cases h1:1<=H/\H<=4
 ·have w1:=Ca.hid (show (decide (1<=H) && decide (H<=4))=true by simp [h1.1,h1.2])
  by_cases h2:1<=D/\D<=16
  ·have w2:=Ca.hid (show (decide (1<=D) && decide (D<=16))=true by simp [h2.1,h2.2])
   obtain ⟨e,he⟩:∃ e,Tn.Tr.right G W ls=e:=⟨_,rfl⟩
   have HE:=Ca.hid he
   rw [he] at hq
   have d:(e == 0)=q:=by rw [<-hq,Bool.eq_iff_iff];simp [h1.1,h1.2,h2.1,h2.2]
   clear hq he h1 h2
   go_enter Tryz.func13,Tryz.ntmps13
   go_wp2_with (first
    | (go_at_call_of 37 (H);(with_reducible refine (within_c H 1 4 true w1.out _).mono ?_);rintro e' w' ⟨rfl,hww⟩;cases hww.symm;clear hww)
    | (go_at_call_of 37 (D);(with_reducible refine (within_c D 1 16 true w2.out _).mono ?_);rintro e' w' ⟨rfl,hww⟩;cases hww.symm;clear hww)
    | (go_at_call 38;refine (Tn.right_any G W al cl ls e HE.out _ (HP.out.keep B0.out) hl).mono ?_;rintro e' w2 ⟨rfl,hb⟩;have B2:=Ca.hid hb;clear hb))
   go_ret
   first | exact ⟨rfl,B0.out.trans (B2.out.mono B0.out.size)⟩ | exact ⟨ret_bool d,B0.out.trans (B2.out.mono B0.out.size)⟩
  ·have w2:=Ca.hid (show (decide (1<=D) && decide (D<=16))=false by rw [Bool.eq_false_iff];intro e;simp at e;omega)
   have eq:q=false:=by rw [<-hq];exact decide_eq_false (fun e=>h2 ⟨e.2.2.1,e.2.2.2.1⟩)
   subst eq
   clear hq h1 h2
   go_enter Tryz.func13,Tryz.ntmps13
   go_wp2_with (first
    | (go_at_call_of 37 (H);(with_reducible refine (within_c H 1 4 true w1.out _).mono ?_);rintro e' w' ⟨rfl,hww⟩;cases hww.symm;clear hww)
    | (go_at_call_of 37 (D);(with_reducible refine (within_c D 1 16 false w2.out _).mono ?_);rintro e' w' ⟨rfl,hww⟩;cases hww.symm;clear hww))
   go_ret
   exact ⟨rfl,B0.out⟩
 ·have w1:=Ca.hid (show (decide (1<=H) && decide (H<=4))=false by rw [Bool.eq_false_iff];intro e;simp at e;omega)
  have eq:q=false:=by rw [<-hq];exact decide_eq_false (fun e=>h1 ⟨e.1,e.2.1⟩)
  subst eq
  clear hq h1
  go_enter Tryz.func13,Tryz.ntmps13
  go_wp2_with (go_at_call_of 37 (H);(with_reducible refine (within_c H 1 4 false w1.out _).mono ?_);rintro e' w' ⟨rfl,hww⟩;cases hww.symm;clear hww)
  go_ret
  exact ⟨rfl,B0.out⟩
set_option maxHeartbeats 1600000 in
theorem shape_c (C g H D G W:Nat) (ls:List (Int × Int)) (M:List Int) (L:Nat->List Int) (cnt:List Int) (tk:Nat->List Tok) (q:Nat->Nat) (c:Nat) (col:Nat->Nat) (w:World) (h:CaAt w col c g C H D G W ls M L cnt tk q) (h0:0<ls.length) (hl:ls.length<=1000) :
 Calls Tryz.prog 31 #[.pointer (some ⟨C,0,none⟩)] w fun e w'=>∃ a' c',e=.returned (.agg #[.int .i64 (H:Int),.int .i64 (D:Int),.int .i64 (G:Int),.int .i64 (W:Int),.slice (some ⟨a',0,none⟩) ls.length c'])/\w.heap.size<=a'/\Ty w' a' 77/\Tn.Tr.Ps w' (some ⟨a',0,none⟩) ls/\Below w.heap.size w w':=by
 obtain ⟨al,cl,T,pb,pc,ct,cc,rg,rs,F,⟨hC,zC⟩,⟨hps,-⟩,-⟩:=h.in
 have HP:=Ca.hid hps.1
 have HC:=Ca.hid hC
 clear h hC hps zC
 go_enter Tryz.func31,Tryz.ntmps31
 go_upto_region 1 with fail
 obtain ⟨u,hu⟩:∃ u,w.alloc (.cells #[.int .i64 0,.int .i64 0,.int .i64 0,.int .i64 0,.slice none 0 0] 26)=u:=⟨_,rfl⟩
 have U:Hid (Below w.heap.size w u):=by rw [<-hu];exact Rt.box_below _ _
 have su:Hid (u.heap.size=w.heap.size+1):=by show _=_;rw [<-hu];simp
 have r1:Hid (u.rowIs w.heap.size 26 5 (fun i=>if i=0 then .int .i64 0 else if i=1 then .int .i64 0 else if i=2 then .int .i64 0 else if i=3 then .int .i64 0 else .slice none 0 0)):=by rw [<-hu];exact shape_box
 have hCu:=HC.out.of_block (U.out.block _ HC.out.lt)
 have x1:u.cell? ⟨C,1,none⟩=some (.int .i64 (H:Int)):=hCu.cell (show 1<9 by decide)
 have x2:u.cell? ⟨C,2,none⟩=some (.int .i64 (D:Int)):=hCu.cell (show 2<9 by decide)
 have x3:u.cell? ⟨C,3,none⟩=some (.int .i64 (G:Int)):=hCu.cell (show 3<9 by decide)
 have x4:u.cell? ⟨C,4,none⟩=some (.int .i64 (W:Int)):=hCu.cell (show 4<9 by decide)
 have x5:u.cell? ⟨C,5,none⟩=some (.slice al ls.length cl):=hCu.cell (show 5<9 by decide)
 rw [hu]
 clear hu hCu
 go_wp2_with (go_at_call 52;refine (copied_c (H:Int) (D:Int) (G:Int) (W:Int) al cl ls.length ls u (HP.out.keep U.out) h0 hl rfl).mono ?_;rintro e v ⟨a',c',rfl,g1,g2,g3,hb⟩;have RS:=Ca.hid (And.intro g1 (And.intro g2 (And.intro g3 hb)));have s1:=r1.out.of_block (hb.block _ r1.out.lt);have S1:=Ca.hid s1;have y0:v.cell? ⟨w.heap.size,0,none⟩=some (.int .i64 0):=s1.cell (show 0<5 by decide);have y1:v.cell? ⟨w.heap.size,1,none⟩=some (.int .i64 0):=s1.cell (show 1<5 by decide);have y2:v.cell? ⟨w.heap.size,2,none⟩=some (.int .i64 0):=s1.cell (show 2<5 by decide);have y3:v.cell? ⟨w.heap.size,3,none⟩=some (.int .i64 0):=s1.cell (show 3<5 by decide);have y4:v.cell? ⟨w.heap.size,4,none⟩=some (.slice none 0 0):=s1.cell (show 4<5 by decide);have f0:=s1.frozen 0;have f1:=s1.frozen 1;have f2:=s1.frozen 2;have f3:=s1.frozen 3;have f4:=s1.frozen 4;clear g1 g2 g3 hb s1)
 have nb:∀ (y:World) (b o:Nat) (vv:Value),¬ a'=b->Tn.Tr.Ps y (some ⟨a',0,none⟩) ls->Tn.Tr.Ps (y.setCell ⟨b,o,none⟩ vv) (some ⟨a',0,none⟩) ls:=fun y b o vv hn hps i hi=>by
  obtain ⟨b1,o1,e,q1,q2⟩:=hps i hi
  cases e
  refine ⟨a',0,rfl,?_,?_⟩
  ·rw [World.cell?_of_block (a:=⟨a',0+i*2,none⟩) (Below.heap_setCell _ _ _ _ (show a' ≠ b from hn))];exact q1
  ·rw [World.cell?_of_block (a:=⟨a',0+i*2+1,none⟩) (Below.heap_setCell _ _ _ _ (show a' ≠ b from hn))];exact q2
 have n0:¬ a'=w.heap.size:=by have:=RS.out.1;have:=su.out;omega
 have BV:Below w.heap.size w v:=U.out.trans (RS.out.2.2.2.mono U.out.size)
 refine bodyPost_ret (v:=.agg #[.int .i64 (H:Int),.int .i64 (D:Int),.int .i64 (G:Int),.int .i64 (W:Int),.slice (some ⟨a',0,none⟩) ls.length c']) (by simp [results,Tryz.results31,go_sem,y0,y1,y2,y3,y4]) rfl ⟨a',c',rfl,by have:=RS.out.1;have:=su.out;omega,?_,?_,?_⟩
 ·exact RS.out.2.1.of_block ((Below.heap_setCell _ _ _ _ (show a' ≠ w.heap.size from n0)).trans ((Below.heap_setCell _ _ _ _ (show a' ≠ w.heap.size from n0)).trans ((Below.heap_setCell _ _ _ _ (show a' ≠ w.heap.size from n0)).trans ((Below.heap_setCell _ _ _ _ (show a' ≠ w.heap.size from n0)).trans (Below.heap_setCell _ _ _ _ (show a' ≠ w.heap.size from n0))))))
 ·exact nb _ _ _ _ n0 (nb _ _ _ _ n0 (nb _ _ _ _ n0 (nb _ _ _ _ n0 (nb _ _ _ _ n0 RS.out.2.2.1))))
 ·exact ((((BV.setCell (by simp) _).setCell (by simp) _).setCell (by simp) _).setCell (by simp) _).setCell (by simp) _
end Cc
end Go.Proofs.YtnchnlgnnlgjcaaGreat
