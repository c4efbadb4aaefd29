import Derived.Test.YtnchnlgnnlgjcaaGreatCf29
import Derived.Test.YtnchnlgnnlgjcaaGreatRows
import Derived.Deep.RegionHeld3
set_option linter.unusedVariables false
set_option linter.unusedSimpArgs false
namespace Go.Proofs.YtnchnlgnnlgjcaaGreat
open Go.RowKit
namespace Cc
def TblZ (Q:Nat -> Prop) (w:World) (a:Option Addr) (c:Nat) (ks:List (List Int)):Prop:=SlQ Q 1 eRow w a ks /\ ks.length <= c /\ c <= maxLen /\ (a = none -> c = 0)
theorem own_len2 {w:World} {B n:Nat} {t:TypeId} {v:Value} {xs:List Value} (h:w.ownsRow B t 2 v n xs):xs.length = n * 2:=by
 obtain ⟨h1,h2⟩:=h
 exact h1
set_option maxHeartbeats 1600000 in
theorem put_doc {B0 nl ly n vb cap gg cap':Nat} {Q:Nat -> Prop} {u u1 u2:World} {M:List (List Tok)} {xs ys:List Value} {ux:Value} {tok:Tok} {a1 a2:Option Addr} {c1 c2:Nat} {ob:Obj}
 (hA:AccQ (fun q=>Q q /\ q < B0 \/ B0 <= q) B0 1 60 (eFresh B0) u (.slice (some ⟨vb,0,none⟩) nl cap) nl M xs) (hap:Ca.Apart xs) (hly:ly < nl) (hx:xs[ly]? = some ux)
 (hn:(Ca.nt M ly).length = n) (hrow:u.ownsRow B0 63 2 ux n ys) (hyl:ys.length = n * 2) (htk:∀ i (h:i < (Ca.nt M ly).length) (c:Nat -> Option Value),(∀ j,j < 2 -> c j = ys[i * 2 + j]?) -> eTok (fun q=>Q q /\ q < B0) u c (Ca.nt M ly)[i])
 (hb:Below u.heap.size u u1) (hk:TblZ (fun q=>u.heap.size <= q) u1 a1 c1 tok.1) (hv:TblZ (fun q=>u.heap.size <= q) u1 a2 c2 tok.2) (hg:(u1.alloc ob).grownBy u2 ux.ownBlock) (hm:n + 1 <= maxLen)
 (ho:u2.ownsRow B0 63 2 (.slice (some ⟨gg,0,none⟩) (n + 1) cap') (n + 1) (ys ++ [.slice a1 tok.1.length c1,.slice a2 tok.2.length c2])) (hat:ux.ownBlock = some gg \/ u.heap.size <= gg) (hB0:B0 <= u.heap.size) :
 SlQ (fun q=>Q q /\ q < B0 \/ B0 <= q) 1 eToks (u2.setCell ⟨vb,ly,none⟩ (.slice (some ⟨gg,0,none⟩) (n + 1) cap')) (some ⟨vb,0,none⟩) (M.set ly (Ca.nt M ly ++ [tok])):=by
 obtain ⟨o1,e1,e2,h4⟩:=hA
 have s1:=hb.size
 have s2:=hg.size
 have s2':u1.heap.size + 1 <= u2.heap.size:=by simpa using s2
 obtain ⟨g',cap2,F,e,hgB,hr,hcap,hF⟩:=row_of_own o1 (by omega)
 cases e
 have tv:=ty_row hr
 have tx:∀ q,ux.ownBlock = some q -> Ty u q 63:=fun q e=>ty_own hrow e
 have lx:∀ q,ux.ownBlock = some q -> B0 <= q /\ q < u.heap.size:=fun q e=>hrow.lt q e
 have far2:∀ q,q < u.heap.size -> ¬ ux.ownBlock = some q -> u2.heap[q]? = u.heap[q]?:=fun q hq hn=>by
  rw [hg.block q (by simp;omega) (fun e=>hn e.symm),(Rt.box_below u1 ob).block q (by omega)]
  exact hb.block q hq
 have farn:∀ q,u.heap.size <= q -> q < u1.heap.size -> u2.heap[q]? = u1.heap[q]?:=fun q h1 h2=>by
  rw [hg.block q (by simp;omega) (fun e=>by have:=(lx q e.symm).2;omega)]
  exact (Rt.box_below u1 ob).block q h2
 obtain ⟨nv,env⟩:∃ nv,Value.slice (some ⟨gg,0,none⟩) (n + 1) cap' = nv:=⟨_,rfl⟩
 obtain ⟨u3,eu3⟩:∃ u3,u2.setCell ⟨vb,ly,none⟩ nv = u3:=⟨_,rfl⟩
 rw [env,eu3]
 have s3:u3.heap.size = u2.heap.size:=by rw [<- eu3];simp [World.setCell]
 have st:∀ q,¬ q = vb -> u3.heap[q]? = u2.heap[q]?:=fun q hq=>by rw [<- eu3];exact Below.heap_setCell _ _ _ _ (show q ≠ vb from hq)
 have nxv:¬ ux.ownBlock = some vb:=fun e=>(tx vb e).ne tv (by decide) rfl
 have hr2:u2.rowIs vb 60 cap F:=hr.of_block (far2 vb hr.lt nxv)
 have hr3:=hr2.set ly nv
 rw [eu3] at hr3
 have tgg:Ty u2 gg 63:=ty_own ho rfl
 have ngv:¬ gg = vb:=tgg.ne (ty_row hr2) (by decide)
 have old:∀ q,q < B0 -> u3.heap[q]? = u.heap[q]?:=fun q hq=>by
  rw [st q (by omega)]
  exact far2 q (by omega) (fun e=>by have:=(lx q e).1;omega)
 refine fun i hi=>?_
 have hi2:i < M.length:=by simpa using hi
 have hi3:i < nl:=by omega
 have ec:u3.cell? ⟨vb,0 + (i * 1 + 0),none⟩ = some (if i = ly then nv else F i):=by
  rw [show 0 + (i * 1 + 0) = i by omega]
  exact hr3.cell (by omega)
 refine ⟨vb,0,rfl,hr3.lt,.inr hgB,?_⟩
 by_cases hil:i = ly
 ·subst hil
  have eM:(M.set i (Ca.nt M i ++ [tok]))[i] = Ca.nt M i ++ [tok]:=by simp
  rw [eM]
  rw [if_pos rfl] at ec
  have ho3:u3.ownsRow B0 63 2 nv (n + 1) (ys ++ [.slice a1 tok.1.length c1,.slice a2 tok.2.length c2]):=by
   rw [<- env]
   exact Ca.own_at ho fun q hq=>st q (by cases hq;exact ngv)
  have kz:∀ {a:Option Addr} {c:Nat} {l:List (List Int)},TblZ (fun q=>u.heap.size <= q) u1 a c l -> l.length <= c /\ l.length <= maxLen /\ (a = none -> c = 0) /\ SlQ (fun q=>Q q /\ q < B0 \/ B0 <= q) 1 eRow u3 a l:=fun {a} {c} {l} h=>⟨h.2.1,by have:=h.2.1;have:=h.2.2.1;omega,h.2.2.2,h.1.carry carry_row (fun q hq hl=>⟨.inr (by omega),by
   rw [st q (fun e=>by have:=hr.lt;omega)]
   exact farn q hl hq⟩) (by omega)⟩
  obtain ⟨a,c,en,hs,q1,q2,q3⟩:=slq_of_own (E:=eTok) (Q:=fun q=>Q q /\ q < B0 \/ B0 <= q) (l:=Ca.nt M i ++ [tok]) ho3 (by rw [List.length_append,hn];rfl) (fun q hq=>.inr ((ho3.lt q hq).1)) fun j hj c hc=>by
   by_cases hjn:j < (Ca.nt M i).length
   ·rw [List.getElem_append_left hjn]
    refine carry_tok _ _ u u3 c c _ (fun q _ hq=>⟨.inl hq,old q hq.2⟩) (by omega) (fun _ _ _ h=>h) (htk j hjn c fun s hs=>?_)
    rw [hc s hs,List.getElem?_append_left (by rw [hyl,<- hn];omega)]
   ·have ej:j = (Ca.nt M i).length:=by rw [List.length_append] at hj;simp at hj;omega
    subst ej
    rw [List.getElem_append_right (Nat.le_refl _)]
    simp only [Nat.sub_self,List.getElem_cons_zero]
    have k1:=kz hk
    have k2:=kz hv
    have g0:c 0 = some (.slice a1 tok.1.length c1):=by
     rw [hc 0 (by decide),List.getElem?_append_right (by rw [hyl,hn];omega)]
     rw [show (Ca.nt M i).length * 2 + 0 - ys.length = 0 by rw [hyl,hn];omega];rfl
    have g1:c 1 = some (.slice a2 tok.2.length c2):=by
     rw [hc 1 (by decide),List.getElem?_append_right (by rw [hyl,hn];omega)]
     rw [show (Ca.nt M i).length * 2 + 1 - ys.length = 1 by rw [hyl,hn];omega];rfl
    exact ⟨⟨a1,c1,g0,k1⟩,a2,c2,g1,k2⟩
  have el:(Ca.nt M i ++ [tok]).length = n + 1:=by rw [List.length_append,hn];rfl
  exact ⟨a,c,by rw [el,<- en];exact ec,by rw [el];exact q1,by rw [el];exact hm,q3,hs⟩
 ·have eM:(M.set ly (Ca.nt M ly ++ [tok]))[i] = M[i]:=by rw [List.getElem_set_ne (fun e=>hil e.symm)]
  rw [eM]
  rw [if_neg hil] at ec
  have fi:=hF i hi3
  obtain ⟨ui,ysi,q0,q1,q2,q3⟩:=h4 i hi2 (fun j=>xs[i * 1 + j]?) fun j _=>rfl
  have q0:xs[i]? = some ui:=by have:=q0;simpa using this
  have eF:F i = ui:=Option.some.inj (fi.trans q0)
  rw [eF] at ec
  have keep:∀ q,ui.ownBlock = some q -> u3.heap[q]? = u.heap[q]?:=fun q hq=>by
   have l:=(q1.lt q hq).2
   have t:=ty_own q1 hq
   rw [st q (t.ne tv (by decide))]
   exact far2 q l fun e=>hil (hap i ly ui ux q q0 hx hq e)
  refine fresh_toks (B:=B0) ⟨ui,ysi,ec,Ca.own_at q1 keep,fun q hq=>.inr (q1.lt q hq).1,fun j hj c hc=>?_⟩
  exact carry_tok _ _ u u3 c c _ (fun q _ hq=>⟨⟨hq.1.1,hq.2⟩,old q hq.2⟩) (by omega) (fun _ _ _ h=>h) (q3 j hj c hc)
theorem Core13.off {w w':World} {g b n H D G W k X:Nat} {ls:List (Int × Int)} {R M:List Int} {C:Nat -> Nat} {T:Nat -> List (List Tok)} {L:Nat -> Nat -> List Int} {t q col:Nat -> Nat} {ty:TypeId} (h:Core13 w g b n H D G W ls R M k C T L t q col) (hk:k <= 5) (hX:col X = 1000) (ht:Ty w X ty) (n1:¬ ty = 99 /\ ¬ ty = 133 /\ ¬ ty = 176) (hs:w.heap.size <= w'.heap.size) (hw:∀ x,x < w.heap.size -> ¬ x = X -> w'.heap[x]? = w.heap[x]?):Core13 w' g b n H D G W ls R M k C T L t q col :=
 ⟨h.1.stand fun x hx=>by
  have nz:¬ x = X:=by
   rcases hx with e | e | e
   ·exact e.ne ht (fun q=>n1.1 q.symm)
   ·exact e.ne ht (fun q=>n1.2.1 q.symm)
   ·exact e.ne ht (fun q=>n1.2.2 q.symm)
  exact hw x (by rcases hx with e | e | e <;> exact e.lt) nz,h.2.1,fun i hi=>⟨(h.2.2 i hi).1.carry (fun x hx e=>⟨rfl,hw x hx fun z=>by rw [z,hX] at e;omega⟩) hs (fun _ _ _ _=>rfl),(h.2.2 i hi).2⟩⟩
theorem map_upd {α β:Type} (f:β -> α) (zs:Nat -> β) (k a:Nat) (v:β) (ha:a < k):((List.range k).map fun i=>f (upd zs a v i)) = ((List.range k).map fun i=>f (zs i)).set a (f v):=by
 apply List.ext_getElem?
 intro i
 rw [List.getElem?_set]
 by_cases e:a = i
 ·subst e
  simp [ha,upd]
 ·rw [if_neg e]
  by_cases hi:i < k
  ·have e':¬ i = a:=fun q=>e q.symm
   simp [hi,upd,e']
  ·simp [hi]
theorem Box13.setDoc {X:Nat -> Option Obj} {B P g H D G W cl k a gr cr:Nat} {w:World} {ls:List (Int × Int)} {al:Option Addr} {va v:Value} {C:Nat -> Nat} {zs:Nat -> Value} {col:Nat -> Nat} (h:Box13 X B w P g H D G W ls al cl va (.slice (some ⟨gr,0,none⟩) k cr) k C zs col) (ha:a < k):Box13 X B (w.setCell ⟨gr,a,none⟩ v) P g H D G W ls al cl va (.slice (some ⟨gr,0,none⟩) k cr) k C (upd zs a v) col:=by
 obtain ⟨⟨h1,h2⟩,⟨h3,h4⟩,⟨h5,h6⟩,h7⟩:=h
 have cr':=h6 gr rfl
 have tg:=ty_own h5 (q:=gr) rfl
 have st:∀ x,¬ x = gr -> (w.setCell ⟨gr,a,none⟩ v).heap[x]? = w.heap[x]?:=fun x hx=>Below.heap_setCell _ _ _ _ (show x ≠ gr from hx)
 refine ⟨⟨h1.of_block (st P ((ty_row h1).ne tg (by decide))),h2⟩,⟨Ca.own_at h3 fun x hx=>st x ((ty_own h3 hx).ne tg (by decide)),h4⟩,⟨?_,h6⟩,h7.carry (fun x hx h0=>⟨rfl,st x fun e=>by rw [e,cr'] at h0;omega⟩) (by simp [World.setCell])⟩
 have:=(h5.stored a v).1
 rw [show (List.range k).map (upd zs a v) = ((List.range k).map zs).set a v from map_upd (fun x=>x) zs k a v ha]
 exact this
theorem Doc13.setDoc {w w':World} {nl k a gv cv X:Nat} {T:Nat -> List (List Tok)} {Tn:List (List Tok)} {zs:Nat -> Value} {col:Nat -> Nat} (h:Doc13 w nl k T zs col) (hX:col X = 1000) (hs:w.heap.size <= w'.heap.size) (hw:∀ x,x < w.heap.size -> ¬ x = X -> w'.heap[x]? = w.heap[x]?) (hn:SlQ (fun x=>col x = 0) 1 eToks w (some ⟨gv,0,none⟩) Tn):Doc13 w' nl k (upd T a Tn) (upd zs a (.slice (some ⟨gv,0,none⟩) nl cv)) col:=fun i hi=>by
 have cy:∀ {x:Option Addr} {l:List (List Tok)},SlQ (fun x=>col x = 0) 1 eToks w x l -> SlQ (fun x=>col x = 0) 1 eToks w' x l:=fun hq=>hq.carry carry_toks (fun x hx h0=>⟨h0,hw x hx fun e=>by rw [e,hX] at h0;omega⟩) hs
 by_cases e:i = a
 ·subst e
  rw [upd_at,upd_at]
  exact ⟨_,_,rfl,cy hn⟩
 ·rw [upd_off _ _ e,upd_off _ _ e]
  obtain ⟨x,c,e1,e2⟩:=h i hi
  exact ⟨x,c,e1,cy e2⟩
end Cc
end Go.Proofs.YtnchnlgnnlgjcaaGreat
namespace Go.Proofs.YtnchnlgnnlgjcaaGreat
section
variable {P:Program} {md:Region.Mode} {ops:Array Oper} {Q:Exit -> Act -> World -> Prop} {S:World -> Prop}
theorem take_yes (i d:Nat) {oi:Oper} {v:Value} {fuel:Nat} {listed:Array Bool} {a:Act} {w:World} (hi:ops[i]? = some oi) (hd:oi.dst = some d)
 (hs:Region.noSelect ops = true) (hf:Region.free md ops listed i = true) (hr:(Region.ready md ops listed).contains i = true)
 (hQ:∀ c a w,Q (.panic c) (a.put (some d) v) w -> Q (.panic c) a w) (hS:S w) (hw:Region.wanted oi (yielded ops a.tmps) = true) (hy:∀ w,S w -> (execOp a.eval oi).run P w = .ok (.value v) w)
 (h:wpAnyH P md ops Q S fuel (listed.setIfInBounds i true) (a.put (some d) v) w):wpAnyH P md ops Q S (fuel + 1) listed a w:=by
 rw [<- hd] at h hQ
 exact wpAnyH_take hi hs hf hr hQ (Or.inl ⟨hw,hy⟩) hS h
end
end Go.Proofs.YtnchnlgnnlgjcaaGreat
