import Derived.Test.YtnchnlgnnlgjcaaGreatCa08
import Derived.Deep.RegionHeld3
import Derived.Deep.RegionLaw
import Derived.Deep.AppendLies
import Derived.Deep.RegionLawGrows
import Derived.Deep.DeepCutAuto
import Derived.Lib.AppendZerosOnto
import Derived.Lib.SliceRun
import Derived.Lib.Walk
import Derived.Deep.Upon
import Derived.Laws.IdiomCopy
set_option linter.unusedVariables false
set_option linter.unusedSimpArgs false
namespace Go.Proofs.YtnchnlgnnlgjcaaGreat
open Go.RowKit
theorem Tryz.infoSlices:(Tryz.prog.info? 70).map (fun i=>(i.zero,i.size,i.bytes))=some (some (.slice none 0 0),1,24):=by kernel_rfl
theorem newTable_ok (g m:Nat) (h:m<=16) (w:World) :
 Calls Tryz.prog 53 #[.pointer (some ⟨g,0,none⟩),.int .i64 m] w fun e w'=>∃ T,e=.returned (.tuple #[.pointer (some ⟨T,0,none⟩),.int .i64 0])/\Tab w' g T m (fun _=>[]) (fun q=>w.heap.size<=q)/\w.heap.size<=T/\Below w.heap.size w w':=by
 have hmk:=run_make_row' (P:=Tryz.prog) 149 70 (.slice none 0 0) 24 Tryz.underlying149 Tryz.infoSlices rfl .i64 .i64 m (by omega) (by omega)
 go_enter Tryz.func53,Tryz.ntmps53
 go_wp2
 clear hmk
 go_ret2
 refine ⟨w.heap.size+1,rfl,⟨w.heap.size,?_,rws_made ((World.rowIs_made w _ m _).alloc _) (Nat.le_refl _)⟩,by omega,two_boxes _ _ _⟩
 have:=World.rowIs_alloc (w.alloc (.cells (madeCells #[.slice none 0 0] m) 70)) #[.pointer (some ⟨g,0,none⟩),.slice (some ⟨w.heap.size,0,none⟩) m m] 151 (tbc g w.heap.size m) (by
  intro i hi
  match i,hi with
  | 0,_=>rfl
  | 1,_=>rfl)
 simpa using this
theorem rows_any (g T m:Nat) (L:Nat->List Int) (Q:Nat->Prop) (w:World) (h:Tab w g T m L Q) :
 Calls Tryz.prog 54 #[.pointer (some ⟨T,0,none⟩)] w fun e w'=>e=.returned (.int .i64 m)/\w'=w:=by
 obtain ⟨r,c0,c1,_⟩:=h.cells
 clear h c0
 go_enter Tryz.func54,Tryz.ntmps54
 go_wp2
 go_ret
 exact ⟨rfl,rfl⟩
theorem has_yes (g T m row:Nat) (L:Nat->List Int) (Q:Nat->Prop) (w:World) (h:Tab w g T m L Q) (hr:row<m) :
 Calls Tryz.prog 103 #[.pointer (some ⟨T,0,none⟩),.int .i64 row] w fun e w'=>e=.returned (.bool true)/\w'=w:=by
 obtain ⟨r,c0,c1,_⟩:=h.cells
 clear h c0
 have z:decide ((row:Int)<m)=true:=decide_eq_true (by omega)
 go_enter Tryz.func103,Tryz.ntmps103
 go_wp2
 go_ret
 exact ⟨rfl,rfl⟩
theorem len_yes (g T m row k:Nat) (L:Nat->List Int) (Q:Nat->Prop) (w:World) (h:Tab w g T m L Q) (hr:row<m) (hk:(L row).length=k) :
 Calls Tryz.prog 68 #[.pointer (some ⟨T,0,none⟩),.int .i64 row] w fun e w'=>e=.returned (.int .i64 k)/\w'=w:=by
 obtain ⟨r,c0,c1,hrw⟩:=h.cells
 obtain ⟨d,c,A,C,e,hc,_⟩:=hrw.cell hr
 cases e
 rw [hk] at hc
 have H:Hid (Tab w g T m L Q):=h
 clear h c0 hrw hk
 go_enter Tryz.func68,Tryz.ntmps68
 go_wp2_with (go_at_call 103;refine (has_yes g T m row L Q _ H.out hr).mono ?_;rintro e w' ⟨rfl,hww⟩;cases hww.symm;clear hww)
 go_ret
 exact ⟨rfl,rfl⟩
theorem get_page (g b n k q:Nat) (R M:List Int) (w:World) (h:PoolAt w g b n R M) (hk:k<n) (hr:0<Ls.nth R k) (s0:w.cell? ⟨b,k*2,none⟩=some (.pointer (some ⟨q,0,none⟩))) :
 Calls Tryz.prog 104 #[.pointer (some ⟨g,0,none⟩),.int .i64 k] w fun e w'=>e=.returned (.tuple #[.pointer (some ⟨q,0,none⟩),.int .i64 0])/\w'=w:=by
 have HP:Hid (PoolAt w g b n R M):=h
 have HR:Hid (0<Ls.nth R k):=hr
 clear h hr
 go_enter Tryz.func104,Tryz.ntmps104
 go_wp2_with (go_at_call 86;refine (held_some g b n k R M _ HP.out hk HR.out).mono ?_;rintro e w' ⟨rfl,hww⟩;cases hww.symm;clear hww)
 go_ret2
 exact ⟨rfl,rfl⟩
theorem at_ok (g b n T m row i s:Nat) (R M:List Int) (L:Nat->List Int) (Q:Nat->Prop) (w:World) (hp:PoolAt w g b n R M) (h:Tab w g T m L Q) (hr:row<m) (hi:i<(L row).length) (es:Ls.nth (L row) i=s) (hs:s<n) (h0:0<Ls.nth R s) :
 Calls Tryz.prog 69 #[.pointer (some ⟨T,0,none⟩),.int .i64 row,.int .i64 i] w fun e w'=>∃ q,e=.returned (.tuple #[.pointer (some ⟨q,0,none⟩),.int .i64 0])/\PgM w' q (Ls.nth M s)/\Below w.heap.size w w':=by
 obtain ⟨r,c0,c1,hrw⟩:=h.cells
 obtain ⟨d,c,A,C,e,hc,_,hl,_⟩:=hrw.cell hr
 cases e
 obtain ⟨ab,ao,rfl,hg⟩:=hl.get hi
 have s0:=hg i hi
 rw [es] at s0
 obtain ⟨k,ek⟩:∃ k,(L row).length=k:=⟨_,rfl⟩
 have EK:Hid ((L row).length=k):=ek
 rw [ek] at hc hi
 have H:Hid (Tab w g T m L Q):=h
 have HP:Hid (PoolAt w g b n R M):=hp
 have H0:Hid (0<Ls.nth R s):=h0
 have z:¬ (k:Int)<=i:=by omega
 obtain ⟨q,p0,_,_,hq⟩:=hp.page hs h0
 have HQ:Hid (PgM w q (Ls.nth M s)):=hq
 have P0:Hid (w.cell? ⟨b,s*2,none⟩=some (.pointer (some ⟨q,0,none⟩))):=p0
 clear p0 hq
 clear h hp h0 hg hl hrw es ek
 go_enter Tryz.func69,Tryz.ntmps69
 go_wp2_with (go_at_call 68;refine (len_yes g T m row k L Q _ H.out hr EK.out).mono ?_;rintro e w' ⟨rfl,hww⟩;cases hww.symm;clear hww)
 go_quiet ((go_at_call 104;exact (get_page g b n s q R M _ (HP.out.keep (below_drewN (Below.refl _ _) _)) hs H0.out (by simpa using P0.out)).mono fun _ _ ⟨he,hw⟩=>⟨he,_,hw⟩))
 go_wp2
 go_ret2
 exact ⟨_,rfl,HQ.out.keep (below_drewN (Below.refl _ _) _),below_drewN (Below.refl _ _) _⟩
end Go.Proofs.YtnchnlgnnlgjcaaGreat
namespace Go.Proofs.YtnchnlgnnlgjcaaGreat
open Go.RowKit
theorem map_snoc (l:List Int) (y:Int):l.map (Value.int .i64) ++ [.int .i64 y]=(l ++ [y]).map (Value.int .i64):=by simp
theorem row_snoc {w:World} {v:Value} {l:List Int} {k:Nat} {y:Int} (h:w.ownsRow 0 3 1 v (k+1) (l.map (Value.int .i64) ++ [.int .i64 y])) (hk:l.length=k):RowAt w v (l ++ [y]):=by
 subst hk
 unfold RowAt
 rw [<-map_snoc,List.length_append]
 exact h
theorem PoolAt.rws {w w':World} {g b n:Nat} {R M:List Int} (h:PoolAt w g b n R M) (hb:But2 g b w w') {v:Value} {m:Nat} {L:Nat->List Int} {Q:Nat->Prop} (hr:Rws w v m L Q):Rws w' v m L Q :=
 hr.stand fun q _ ht=>hb.2 q (by rcases ht with t | t <;> exact t.lt) (by rcases ht with t | t <;> exact fun e=>t.ne h.tys.1 (by decide) e) (by rcases ht with t | t <;> exact fun e=>t.ne h.tys.2 (by decide) e)
theorem PoolAt.tab {w w':World} {g b n:Nat} {R M:List Int} (h:PoolAt w g b n R M) (hb:But2 g b w w') {T m:Nat} {L:Nat->List Int} {Q:Nat->Prop} (ht:Tab w g T m L Q):Tab w' g T m L Q:=by
 have n1:¬ T=g:=ht.ty.ne h.tys.1 (by decide)
 have n2:¬ T=b:=ht.ty.ne h.tys.2 (by decide)
 obtain ⟨r,h1,h2⟩:=ht
 exact ⟨r,h1.of_block (hb.2 T h1.lt n1 n2),h.rws hb h2⟩
theorem add_grown {w w1:World} {g b:Nat} {Q:Nat->Prop} {v:Value} {o:Obj} (h:(w.drew.alloc o).grownBy w1 v.ownBlock) (hq:∀ x,v.ownBlock=some x->Q x/\Ty w x 3):ButQ g b Q w w1/\∀ j,j<w.heap.size->¬ v.ownBlock=some j->w1.heap[j]?=w.heap[j]?:=by
 have far:∀ j,j<w.heap.size->¬ v.ownBlock=some j->w1.heap[j]?=w.heap[j]?:=fun j hj hn=>by
  rw [h.block j (by simp;omega) (fun e=>hn e.symm)]
  exact (((Below.refl w.heap.size w).drew).alloc (Nat.le_refl _) o).block j hj
 have b0:Below 0 w (w.drew.alloc o):=((Below.refl _ _).drew).alloc (Nat.zero_le _) _
 exact ⟨⟨h.os.trans b0.os,h.tape.trans b0.tape,h.output.trans b0.output,Nat.le_trans b0.size h.size,fun j hj _ _ hn=>far j hj fun e=>hn (hq j e).1⟩,far⟩
set_option maxHeartbeats 800000 in
theorem add_ok (g b n T m row k q:Nat) (mk:Int) (R M:List Int) (L:Nat->List Int) (Q:Nat->Prop) (w:World) (hp:PoolAt w g b n R M) (h:Tab w g T m L Q) (hr:row<m) (hL:(L row).length<=100000) (hk:k<n) (h0:Ls.nth R k=0) (hl:∀ i,i<k->¬ Ls.nth R i=0) (hq:PgM w q mk) :
 Calls Tryz.prog 99 #[.pointer (some ⟨T,0,none⟩),.int .i64 row,.pointer (some ⟨q,0,none⟩)] w fun e w'=>e=.returned (.int .i64 0)/\PoolAt w' g b n (R.set k 1) (M.set k mk) /\
  Tab w' g T m (Bk.up L row (L row ++ [(k:Int)])) (fun j=>Q j\/w.heap.size<=j)/\ButQ g b Q w w':=by
 obtain ⟨i0,hi0,hi1,hi2,hi3⟩:=info_parts Tryz.infoIntG
 obtain ⟨r,c0,c1,hrw⟩:=h.cells
 have HP:Hid (PoolAt w g b n R M):=hp
 have H:Hid (Tab w g T m L Q):=h
 have H0:Hid (Ls.nth R k=0):=h0
 have HL:Hid (∀ i,i<k->¬ Ls.nth R i=0):=hl
 have HQ:Hid (PgM w q mk):=hq
 have q1:¬ q=g:=by obtain ⟨_,f,hr'⟩:=hq;exact (ty_row hr').ne hp.tys.1 (by decide)
 have q2:¬ q=b:=by obtain ⟨_,f,hr'⟩:=hq;exact (ty_row hr').ne hp.tys.2 (by decide)
 have HN:Hid (¬ q=g/\¬ q=b):=⟨q1,q2⟩
 obtain ⟨n0,en⟩:∃ n0,(L row).length=n0:=⟨_,rfl⟩
 have EN:Hid ((L row).length=n0):=en
 rw [en] at hL
 clear hp h h0 hl hq q1 q2 en hrw
 go_enter Tryz.func99,Tryz.ntmps99
 go_upto_region 6 with (first
  | (go_at_call 103;refine (has_yes g T m row L Q _ H.out hr).mono ?_;rintro e w' ⟨rfl,hww⟩;cases hww.symm;clear hww)
  | (go_at_call 126;refine (put_ok g b n k q mk R M _ HP.out hk H0.out HL.out HQ.out HN.out.1 HN.out.2).mono ?_;rintro e w' ⟨rfl,hpp,hbb⟩))
 have PP:Hid (PoolAt w' g b n (R.set k 1) (M.set k mk)/\But2 g b w w'):=⟨hpp,hbb⟩
 have ht':=HP.out.tab hbb H.out
 clear hpp hbb c0 c1
 obtain ⟨r,c0,c1,hrw⟩:=ht'.cells
 have HT:Hid (w'.rowIs T 151 2 (tbc g r m)):=by
  obtain ⟨r',h1,_⟩:=ht'
  have:=h1.cell (show 1<2 by decide)
  rw [c1] at this
  cases this
  exact h1
 clear ht'
 obtain ⟨d,c,A,C,e,hc,ho,_⟩:=hrw.cell hr
 cases e
 have HO:Hid (RowAt w' (.slice A (L row).length C) (L row)):=ho
 have HR:Hid (Rws w' (.slice (some ⟨r,0,none⟩) m m) m L Q):=hrw
 have HC:Hid (w'.cell? ⟨r,row,none⟩=some (.slice A (L row).length C)):=hc
 have hall:w'.frozen? ⟨r,row,none⟩=false/\Q r/\(∀ x,(Value.slice A (L row).length C).ownBlock=some x->Q x/\Ty w' x 3)/\Ty w' r 70:=by
  rcases hrw with ⟨h,_⟩ | ⟨d,c,F,e,_,hr',hd,h1,h2,_⟩
  ·cases h
  ·cases e
   have hv:F row=.slice A (L row).length C:=by have:=hr'.cell hr;rw [hc] at this;exact (Option.some.inj this).symm
   refine ⟨hr'.frozen _,hd,fun x ex=>?_,ty_row hr'⟩
   rw [<-hv] at ex
   exact ⟨h2 row hr x ex,ty_own (h1 row hr) ex⟩
 rw [EN.out] at hall
 obtain ⟨fr,hQr,hQo,tr⟩:=hall
 have HQr:Hid (Q r):=hQr
 have HQo:Hid (∀ x,(Value.slice A n0 C).ownBlock=some x->Q x/\Ty w' x 3):=hQo
 have rlt:r<w'.heap.size:=tr.lt
 have Tlt:T<w'.heap.size:=HT.out.lt
 have TNE:Hid (¬ (Value.slice A n0 C).ownBlock=some T):=fun e=>(hQo T e).2.ne (ty_row HT.out) (by decide) rfl
 have C1:Hid (w'.cell? ⟨T,1,none⟩=some (.slice (some ⟨r,0,none⟩) m m)):=c1
 have TR:Hid (Ty w' r 70):=tr
 have rne:Hid (some r ≠ (Value.slice A n0 C).ownBlock):=fun e=>(hQo r e.symm).2.ne tr (by decide) rfl
 have ho2:w'.ownsRow 0 3 1 (.slice A n0 C) n0 ((L row).map (Value.int .i64)):=by have:=ho;unfold RowAt at this;rw [EN.out] at this;exact this
 have HO2:Hid (w'.ownsRow 0 3 1 (.slice A n0 C) n0 ((L row).map (Value.int .i64))):=ho2
 rw [EN.out] at hc
 have HC2:Hid (w'.cell? ⟨r,row,none⟩=some (.slice A n0 C)):=hc
 have FR:Hid (w'.frozen? ⟨r,row,none⟩=false):=fr
 clear ho ho2 hrw hQr hQo tr fr HO HC
 go_region_law (refine step_append_lies _ (by rfl) _ _ _ (by rfl) 0 3 i0 _ 1 8 Tryz.underlying70 hi0 hi1 hi2 hi3 rfl (by omega) _ n0 _ (by rfl) (HO2.out.drew.alloc _) ⟨w'.heap.size,0,none⟩ 1 1 [.int .i64 (k:Int)] (by rfl) (by rfl) (World.news_of_block (cs:=#[.int .i64 (k:Int)]) (t:=3) (fr:=(0,0)) (heap_alloc_new w'.drew _)) (by simp [Value.oneCell']) (by omega) (by unfold maxLen;omega) (by omega) (by omega) (w'.heap.size+1) (by simp) ?_;intro gg cap w1 hown1 hgrow hat hlt1;have HA:Hid (w1.ownsRow 0 3 1 (.slice (some ⟨gg,0,none⟩) (n0+1) cap) (n0+1) ((L row).map (Value.int .i64) ++ [.int .i64 (k:Int)])):=hown1;have HG:Hid (ButQ g b Q w' w1/\∀ j,j<w'.heap.size->¬ (Value.slice A n0 C).ownBlock=some j->w1.heap[j]?=w'.heap[j]?):=(add_grown (b:=b) (g:=g) hgrow HQo.out);have HAT:Hid ((Value.slice A n0 C).ownBlock=some gg\/gg=w'.heap.size+1):=hat;have ct:=(World.cell?_of_block (a:=⟨T,1,none⟩) (HG.out.2 T Tlt TNE.out)).trans C1.out;have rb:=HG.out.2 r rlt (fun e=>rne.out e.symm);have cc:=(World.cell?_of_block (a:=⟨r,row,none⟩) rb).trans HC2.out;have ff:=(World.frozen?_of_block (a:=⟨r,row,none⟩) rb).trans FR.out;clear hown1 hgrow hat rb)
 all_goals
  go_wp2
  go_ret
  have hsz:=PP.out.2.size
  have r1:Rws (w1.setCell ⟨r,row,none⟩ (.slice (some ⟨gg,0,none⟩) (n0+1) cap)) (.slice (some ⟨r,0,none⟩) m m) m (Bk.up L row (L row ++ [(k:Int)])) (fun q=>Q q\/w'.heap.size<=q) :=
   HR.out.more hr HC2.out (row_snoc HA.out EN.out) (fun x ex=>by have ex:some gg=some x:=ex;cases ex;exact HAT.out.imp id fun e=>by omega) (fun j hj hn=>HG.out.2 j hj hn)
  have hTr:¬ T=r:=HT.out |> ty_row |>.ne TR.out (by decide)
  have hT1:w1.heap[T]?=w'.heap[T]?:=HG.out.2 T HT.out.lt (fun e=>(HQo.out T e).2.ne (ty_row HT.out) (by decide) rfl)
  have tr1:Ty w1 r 70:=TR.out.of_block (HG.out.2 r rlt (fun e=>rne.out e.symm))
  refine ⟨rfl,?_,⟨r,?_,r1.mono fun j _ hj=>hj.imp id fun h=>by omega⟩,?_⟩
  ·refine PoolAt.far (PP.out.1.stand fun j hj=>?_) tr1 (by decide) (by decide) (by decide) _ _
   refine HG.out.2 j (by rcases hj with h | h | h <;> exact h.lt) fun e=>?_
   have:=(HQo.out j e).2
   rcases hj with h | h | h <;> exact this.ne h (by decide) rfl
  ·refine HT.out.of_block ?_
   rw [Below.heap_setCell _ _ _ _ (show T ≠ r from hTr)]
   exact hT1
  ·refine ButQ.set ?_ (.inl HQr.out) _
   exact (ButQ.of_but2 PP.out.2).trans HG.out.1
end Go.Proofs.YtnchnlgnnlgjcaaGreat
namespace Go.Proofs.YtnchnlgnnlgjcaaGreat
open Go.RowKit
theorem lst_none {k:IntKind} {w:World} {l:List Int} (h:Lst k w none l):l=[]:=by
 cases l with
 | nil=>rfl
 | cons x l=>obtain ⟨b,o,e,_⟩:=h 0 (by simp);cases e
set_option maxRecDepth 100000 in
theorem cloneR_any (A:Option Addr) (n C:Nat) (l:List Int) (w:World) (h:Lst .i64 w A l) (hn:l.length=n) (hc:A=none->C=0) (hl:n<=100000) :
 Calls Tryz.prog 84 #[.slice A n C] w fun e w'=>∃ v,e=.returned v/\w'.ownsRow w.heap.size 3 1 v n (l.map (Value.int .i64))/\Below w.heap.size w w':=by
 cases A with
 | none =>
   have e:=lst_none h
   subst e
   have e0:n=0:=hn.symm
   subst e0
   have ec:=hc rfl
   subst ec
   clear h hn hc
   have hq:(binOp .eql 70 (.slice none 0 0) (.slice none 0 0)).run Tryz.prog w=.ok (.bool true) w:=slice_nil w _ _ none _ _ Tryz.underlying70
   go_enter Tryz.func84,Tryz.ntmps84
   go_wp2
   go_ret
   exact ⟨_,rfl,World.ownsRow_nil _ _ _ _,Below.refl _ _⟩
 | some x =>
   subst hn
   have HL:Hid (Lst .i64 w (some x) l):=h
   clear h hc
   have hq:(binOp .eql 70 (.slice (some x) l.length C) (.slice none 0 0)).run Tryz.prog w=.ok (.bool false) w:=slice_nil w _ _ (some x) _ _ Tryz.underlying70
   go_enter Tryz.func84,Tryz.ntmps84
   go_wp2_with (at_builtin;refine wpList_append_lst rfl _ _ 70 rfl w.heap.size 3 .i64 8 Tryz.underlying70 Tryz.infoIntG _ 0 [] (by rfl) (World.ownsRow_made w #[] 0 (Nat.le_refl _) (by decide) rfl) (some x) l C (by rfl) (HL.out.keep (box_below _ _)) (fun e=>nomatch e) (by unfold maxLen;omega) (by omega) (by simp) ?_;intro v1 u1 ho1 hg1;simp only [Nat.zero_add,List.nil_append] at ho1;have O1:Hid (u1.ownsRow w.heap.size 3 1 v1 l.length (l.map (Value.int .i64))):=ho1;have B1:Hid (Below w.heap.size w u1):=(box_below _ _).grown hg1 (by simp) (by intro k hk;cases hk;exact Nat.le_refl _);clear ho1 hg1)
   go_ret
   exact ⟨_,rfl,O1.out,B1.out⟩
set_option maxHeartbeats 800000 in
set_option maxRecDepth 100000 in
theorem grow_nil (n:Nat) (hn:n<=100000) (w:World) :
 Calls Tryz.prog 130 #[.slice none 0 0,.int .i64 n] w fun e w'=>∃ v,e=.returned v/\w'.ownsRow w.heap.size 3 1 v 0 []/\Below w.heap.size w w':=by
 by_cases h0:n=0
 ·subst h0
  go_enter Tryz.func130,Tryz.ntmps130
  go_wp2
  go_ret
  exact ⟨_,rfl,World.ownsRow_nil _ _ _ _,Below.refl _ _⟩
 ·obtain ⟨i0,hi0,hi1,hi2,hi3⟩:=info_parts Tryz.infoIntG
  have z0:(0:Int)<n:=by omega
  have hrz:∀ ty,(Builtin.append_ #[70,3] ty #[.slice none 0 0,.int .i64 (n:Int)]).run Tryz.prog w =
   .ok (.slice (some ⟨w.heap.size,0,none⟩) n (grownCap w n 0 3)) (w.drew.alloc (.cells (#[] ++ Builtin.zeroCells (Value.int .i64 0).cells n ++ Builtin.zeroCells (Value.int .i64 0).cells (grownCap w n 0 3 - n)) 3)):=fun ty=>by
   have h:=Lib.run_append_grow_zeros (P:=Tryz.prog) w 70 3 ty 3 i0 (.int .i64 0) .i64 .i64 Tryz.underlying70 Tryz.underlying3 hi0 hi1 none 0 0 [] (by rw [hi2];exact run_firstCells_none w.drew 1 0 0 0) n (by omega) (by omega) (by omega) (by omega)
    (by rw [hi3];omega) (by rw [hi3];exact growslice_fits (by omega) (by omega))
   simpa using h
  have hG:=grownCap_ge w n 0 3
  have hG2:=grownCap_le_maxLen w n 0 3 (by unfold maxLen;omega)
  obtain ⟨G,eG⟩:∃ G,grownCap w n 0 3=G:=⟨_,rfl⟩
  rw [eG] at hrz hG hG2
  clear eG h0
  have hG63:G<=9223372036854775807:=by unfold maxLen at hG2;omega
  go_enter Tryz.func130,Tryz.ntmps130
  go_wp2_with (at_builtin;refine Lib.wpList_append_run _ rfl _ _ _ _ rfl _ _ rfl rfl _ _ (hrz _) ?_)
  all_goals
   go_ret
   refine ⟨_,rfl,World.ownsRow_made w.drew _ G (Nat.le_refl _) hG2 ?_,((Below.refl _ _).drew).alloc (Nat.le_refl _) _⟩
   simp [Builtin.zeroCells,Value.cells]
   omega
end Go.Proofs.YtnchnlgnnlgjcaaGreat
namespace Go.Proofs.YtnchnlgnnlgjcaaGreat
open Go.RowKit
set_option maxRecDepth 100000 in
set_option maxHeartbeats 1600000 in
theorem concat_any (v:Value) (m:Nat) (L:Nat->List Int) (Q:Nat->Prop) (w:World) (h:Rws w v m L Q) (hm:m<=100000) (hl:Bk.len L m<=100000) :
 Calls Tryz.prog 107 #[v] w fun e w'=>∃ u,e=.returned u/\w'.ownsRow w.heap.size 3 1 u (Bk.len L m) ((Bk.flat L m).map (Value.int .i64))/\Below w.heap.size w w':=by
 obtain ⟨a,c,rfl⟩:=h.slice
 have HR:Hid (Rws w (.slice a m c) m L Q):=h
 have HT:Hid (Bk.len L m<=100000):=hl
 clear h hl
 go_enter Tryz.func107,Tryz.ntmps107
 go_wp2
 go_loop [3,11] (fun s i=>∃ k:Nat,k<=m/\i=.int .i64 k/\s=.int .i64 (Bk.len L k)) (fun _ i=>m - (intOf i).toNat)
 case atStart=>exact ⟨0,Nat.zero_le _,rfl,rfl⟩
 case round =>
  obtain ⟨k,hk,rfl,rfl⟩:=hrel
  have t1:=Bk.len_mono L hk
  have t2:=HT.out
  obtain ⟨sk,esk⟩:∃ s,Bk.len L k=s:=⟨_,rfl⟩
  have ESK:Hid (Bk.len L k=sk):=esk
  rw [esk] at t1 ⊢
  by_cases hlt:k<m
  ·obtain ⟨d,c',A,C,e,hc,_⟩:=HR.out.cell hlt
   cases e
   have t3:=Bk.len_mono L (show k+1<=m by omega)
   rw [Bk.len_succ,esk] at t3
   obtain ⟨nk,enk⟩:∃ s,(L k).length=s:=⟨_,rfl⟩
   have ENK:Hid ((L k).length=nk):=enk
   rw [enk] at t3 hc
   have z:¬ ((sk:Int)+nk<0):=by omega
   clear esk enk
   go_wp2
   go_round
   case rel=>exact ⟨k+1,by omega,by go_num,by rw [Bk.len_succ,ESK.out,ENK.out];go_num⟩
   case measure=>simp [intOf];omega
  ·have ek:k=m:=by omega
   subst ek
   clear esk
   go_wp2_with (go_at_call 130;refine (grow_nil sk (by omega) _).mono ?_;rintro e w' ⟨v1,rfl,ho,hb⟩;have HO:Hid (w'.ownsRow w.heap.size 3 1 v1 0 []):=ho;have HB:Hid (Below w.heap.size w w'):=hb;clear ho hb)
   go_loopw [6,27] (fun v i wr=>∃ j:Nat,j<=k/\i=.int .i64 j/\wr.ownsRow w.heap.size 3 1 v (Bk.len L j) ((Bk.flat L j).map (Value.int .i64))/\Below w.heap.size w wr) (fun _ i _=>k - (intOf i).toNat)
   case atStart=>exact ⟨0,Nat.zero_le _,rfl,HO.out,HB.out⟩
   case round =>
    obtain ⟨j,hj,rfl,ho,hb⟩:=hrel
    have t3:=Bk.len_mono L hj
    have HO1:Hid (wr.ownsRow w.heap.size 3 1 u6 (Bk.len L j) ((Bk.flat L j).map (Value.int .i64))):=ho
    have HB1:Hid (Below w.heap.size w wr):=hb
    have hsz:=hb.size
    clear ho hb
    by_cases hlt:j<k
    ·obtain ⟨d,c',A,C,e,hc,ho,hA,hn⟩:=(HR.out.keep HB1.out).cell hlt
     cases e
     have HA:Hid (Lst .i64 wr A (L j)):=hA
     have HN:Hid (A=none->C=0):=hn
     have t4:=Bk.len_mono L (show j+1<=k by omega)
     rw [Bk.len_succ] at t4
     rw [ESK.out] at t4
     clear hA hn ho
     go_wp2_with (at_builtin;refine wpList_append_lst rfl _ _ 70 rfl w.heap.size 3 .i64 8 Tryz.underlying70 Tryz.infoIntG _ (Bk.len L j) _ (by rfl) HO1.out A (L j) C (by rfl) HA.out HN.out (by unfold maxLen;omega) (by omega) hsz ?_;intro v2 u2 ho2 hg2;have O2:Hid (u2.ownsRow w.heap.size 3 1 v2 (Bk.len L j+(L j).length) ((Bk.flat L j).map (Value.int .i64) ++ (L j).map (Value.int .i64))):=ho2;have B2:Hid (Below w.heap.size w u2):=HB1.out.grown hg2 hsz (fun q hq=>(HO1.out.lt q hq).1);clear ho2 hg2)
     go_roundw
     case rel=>exact ⟨j+1,by omega,by go_num,by have:=O2.out;rw [<-Bk.len_succ,<-List.map_append] at this;exact this,B2.out⟩
     case measure=>simp [intOf];omega
    ·have ej:j=k:=by omega
     subst ej
     clear t3
     go_wp2
     go_ret
     exact ⟨_,rfl,HO1.out,HB1.out⟩
theorem slots_any' (g T m N:Nat) (L:Nat->List Int) (Q:Nat->Prop) (w:World) (h:Tab w g T m L Q) (hm:m<=100000) (hN:Bk.len L m=N) (hl:N<=100000) :
 Calls Tryz.prog 72 #[.pointer (some ⟨T,0,none⟩)] w fun e w'=>∃ a c,e=.returned (.slice a N c)/\w'.ownsRow w.heap.size 3 1 (.slice a N c) N ((Bk.flat L m).map (Value.int .i64))/\Lst .i64 w' a (Bk.flat L m)/\Below w.heap.size w w':=by
 subst hN
 obtain ⟨r,c0,c1,hrw⟩:=h.cells
 have HR:Hid (Rws w (.slice (some ⟨r,0,none⟩) m m) m L Q):=hrw
 have HL:Hid (Bk.len L m<=100000):=hl
 clear h hrw hl c0
 go_enter Tryz.func72,Tryz.ntmps72
 go_wp2_with (go_at_call 107;refine (concat_any _ m L Q _ HR.out hm HL.out).mono ?_;rintro e w' ⟨u,rfl,ho,hb⟩;have HO:Hid (w'.ownsRow w.heap.size 3 1 u (Bk.len L m) ((Bk.flat L m).map (Value.int .i64))):=ho;have HB:Hid (Below w.heap.size w w'):=hb;clear ho hb)
 obtain ⟨a,c,e,hl⟩:=lst_of_ownm HO.out rfl
 cases e
 have HA:Hid (Lst .i64 w' a (Bk.flat L m)):=hl
 clear hl
 go_wp2
 go_ret
 exact ⟨a,c,rfl,HO.out,HA.out,HB.out⟩
end Go.Proofs.YtnchnlgnnlgjcaaGreat
namespace Go.Proofs.YtnchnlgnnlgjcaaGreat
open Go.RowKit
theorem Bk.take_snoc {l:List Int} {j:Nat} (h:j<l.length):l.take (j+1)=l.take j ++ [Ls.nth l j]:=by
 rw [List.take_add_one]
 simp [Ls.nth,h]
theorem Bk.bump_take {R l:List Int} {j k:Nat} {d x:Int} (h:j<l.length) (ex:Ls.nth l j=(k:Int)) (ey:Ls.nth (Bk.bump R d (l.take j)) k=x):Bk.bump R d (l.take (j+1))=(Bk.bump R d (l.take j)).set k (x+d):=by
 rw [Bk.take_snoc h,Bk.bump_append,ex]
 show (Bk.bump R d (l.take j)).set (k:Int).toNat (Ls.nth _ (k:Int).toNat+d)=_
 simp [ey]
theorem Bk.occ_take {l:List Int} {j:Nat} (h:j<l.length):Bk.occ (Ls.nth l j) (l.take j)+1<=Bk.occ (Ls.nth l j) l:=by
 have h1:Bk.occ (Ls.nth l j) (l.take (j+1))=Bk.occ (Ls.nth l j) (l.take j)+1:=by rw [Bk.take_snoc h,Bk.occ_append,Bk.occ_one,if_pos rfl]
 have h2:Bk.occ (Ls.nth l j) l=Bk.occ (Ls.nth l j) (l.take (j+1))+Bk.occ (Ls.nth l j) (l.drop (j+1)):=by rw [<-Bk.occ_append,List.take_append_drop]
 omega
theorem Bk.mem_nth {l:List Int} {j:Nat} (h:j<l.length):Ls.nth l j ∈ l:=by
 have:Ls.nth l j=l[j]:=by simp [Ls.nth,h]
 rw [this]
 exact List.getElem_mem h
theorem Bk.nth_take {R l:List Int} {d:Int} {n k:Nat} (j:Nat) (hR:R.length=n) (hx:∀ x,x ∈ l->0<=x/\x<n) (hk:k<n):Ls.nth (Bk.bump R d (l.take j)) k=Ls.nth R k+d*Bk.occ k (l.take j) :=
 Bk.nth_bump d _ R (fun x hxm=>by rw [hR];exact hx x (List.mem_of_mem_take hxm)) k (by rw [hR];exact hk)
def Bk.upto (L:Nat->List Int) (k:Nat):Nat->List Int:=fun i=>if i<k then L i else []
theorem Bk.upto_zero (L:Nat->List Int):Bk.upto L 0=fun _=>[]:=by funext i;exact if_neg (by omega)
theorem Bk.upto_succ (L:Nat->List Int) (k:Nat):Bk.up (Bk.upto L k) k (L k)=Bk.upto L (k+1):=by
 funext i
 unfold Bk.up Bk.upto
 by_cases e:i=k
 ·rw [if_pos e,if_pos (by omega),e]
 ·rw [if_neg e]
  by_cases h:i<k
  ·rw [if_pos h,if_pos (by omega)]
  ·rw [if_neg h,if_neg (by omega)]
theorem Bk.upto_at (L:Nat->List Int) {j k:Nat} (h:j<k):Bk.upto L k j=L j:=if_pos h
theorem Rws.frozen {w:World} {d m c:Nat} {L:Nat->List Int} {Q:Nat->Prop} (h:Rws w (.slice (some ⟨d,0,none⟩) m c) m L Q) (j:Nat):w.frozen? ⟨d,j,none⟩=false:=by
 rcases h with ⟨h,_⟩ | ⟨d',c',F,e,_,hr,_⟩
 ·cases h
 ·cases e;exact hr.frozen _
theorem Rws.head {w:World} {d m c:Nat} {L:Nat->List Int} {Q:Nat->Prop} (h:Rws w (.slice (some ⟨d,0,none⟩) m c) m L Q):Q d/\Ty w d 70/\m<=c/\∃ F,w.rowIs d 70 c F:=by
 rcases h with ⟨h,_⟩ | ⟨d',c',F,e,hc,hr,hd,_⟩
 ·cases h
 ·cases e;exact ⟨hd,ty_row hr,hc,F,hr⟩
theorem row_cleared {b:Nat} {t:TypeId} {c:Nat} (z:Value):∀ (n o:Nat) (w:World) (f:Nat->Value),w.rowIs b t c f->(w.setCells b o (List.replicate n z)).rowIs b t c (fun i=>if o<=i/\i<o+n then z else f i):=by
 intro n
 induction n with
 | zero =>
   intro o w f h
   exact h.congr fun i _=>by rw [if_neg (by omega)]
 | succ n ih =>
   intro o w f h
   show ((w.setCell ⟨b,o,none⟩ z).setCells b (o+1) (List.replicate n z)).rowIs b t c _
   refine (ih (o+1) _ _ (h.set o z)).congr fun i _=>?_
   by_cases e:i=o
   ·rw [if_neg (by omega),if_pos e,if_pos (by omega)]
   ·rw [if_neg e]
    by_cases h1:o+1<=i/\i<o+1+n
    ·rw [if_pos h1,if_pos (by omega)]
    ·rw [if_neg h1,if_neg (by omega)]
theorem below_cells {B b:Nat} (hb:B<=b):∀ (vs:List Value) (o:Nat) (w0 w:World),Below B w0 w->Below B w0 (w.setCells b o vs):=by
 intro vs
 induction vs with
 | nil=>exact fun o w0 w h=>h
 | cons v vs ih=>exact fun o w0 w h=>ih (o+1) w0 _ (h.setCell (p:=⟨b,o,none⟩) hb v)
theorem block_cells {b:Nat} {j:Nat} (hj:¬ j=b):∀ (vs:List Value) (o:Nat) (w:World),(w.setCells b o vs).heap[j]?=w.heap[j]?:=by
 intro vs
 induction vs with
 | nil=>exact fun o w=>rfl
 | cons v vs ih=>exact fun o w=>(ih (o+1) _).trans (Below.heap_setCell _ _ _ _ (show j ≠ b from hj))
theorem ButQ.cells {g b:Nat} {Q:Nat->Prop} {w v:World} (h:ButQ g b Q w v) {d:Nat} (hd:Q d) (vs:List Value) (o:Nat):ButQ g b Q w (v.setCells d o vs):=by
 have b0:=below_cells (B:=0) (b:=d) (Nat.zero_le _) vs o v v (Below.refl _ _)
 exact ⟨b0.os.trans h.1,b0.tape.trans h.2.1,b0.output.trans h.2.2.1,Nat.le_trans h.2.2.2.1 b0.size,fun j h0 h1 h2 h3=>by rw [block_cells (fun e=>by subst e;exact h3 hd),h.2.2.2.2 j h0 h1 h2 h3]⟩
theorem Rws.cleared {w:World} {d m:Nat} {L:Nat->List Int} {Q:Nat->Prop} (h:Rws w (.slice (some ⟨d,0,none⟩) m m) m L Q):Rws (w.setCells d 0 (List.replicate m (.slice none 0 0))) (.slice (some ⟨d,0,none⟩) m m) m (fun _=>[]) Q:=by
 obtain ⟨hd,_,_,F,hr⟩:=h.head
 refine rws_made ((row_cleared (.slice none 0 0) m 0 w F hr).congr fun i hi=>?_) hd
 rw [if_pos (by omega)]
end Go.Proofs.YtnchnlgnnlgjcaaGreat
