import Derived.Test.YtnchnlgnnlgjcaaGreatCo10
import Derived.Deep.Upon
import Derived.Laws.IdiomCopy
import Derived.Test.YtnchnlgnnlgjcaaGreatCo02
set_option linter.unusedVariables false
set_option linter.unusedSimpArgs false
namespace Go.Proofs.YtnchnlgnnlgjcaaGreat
open Go.RowKit
set_option maxRecDepth 100000 in
set_option maxHeartbeats 1600000 in
theorem concat_any (v:Value) (m:Nat) (L:Nat->List Int) (Q:Nat->Prop) (w:World) (h:Rws w v m L Q) (hm:m<=100000) (hl:Bk.len L m<=100000) :
 Calls Tryz.prog 107 #[v] w fun e w'=>∃ u,e=.returned u/\w'.ownsRow w.heap.size 3 1 u (Bk.len L m) ((Bk.flat L m).map (Value.int .i64))/\Below w.heap.size w w':=by
 obtain ⟨a,c,rfl⟩:=h.slice
 have HR:Hid (Rws w (.slice a m c) m L Q):=h
 have HT:Hid (Bk.len L m<=100000):=hl
 clear h hl
 go_enter Tryz.func107,Tryz.ntmps107
 go_wp2
 go_loop [3,11] (fun s i=>∃ k:Nat,k<=m/\i=.int .i64 k/\s=.int .i64 (Bk.len L k)) (fun _ i=>m - (intOf i).toNat)
 case atStart=>exact ⟨0,Nat.zero_le _,rfl,rfl⟩
 case round =>
  obtain ⟨k,hk,rfl,rfl⟩:=hrel
  have t1:=Bk.len_mono L hk
  have t2:=HT.out
  obtain ⟨sk,esk⟩:∃ s,Bk.len L k=s:=⟨_,rfl⟩
  have ESK:Hid (Bk.len L k=sk):=esk
  rw [esk] at t1 ⊢
  by_cases hlt:k<m
  ·obtain ⟨d,c',A,C,e,hc,_⟩:=HR.out.cell hlt
   cases e
   have t3:=Bk.len_mono L (show k+1<=m by omega)
   rw [Bk.len_succ,esk] at t3
   obtain ⟨nk,enk⟩:∃ s,(L k).length=s:=⟨_,rfl⟩
   have ENK:Hid ((L k).length=nk):=enk
   rw [enk] at t3 hc
   have z:¬ ((sk:Int)+nk<0):=by omega
   clear esk enk
   go_wp2
   go_round
   case rel=>exact ⟨k+1,by omega,by go_num,by rw [Bk.len_succ,ESK.out,ENK.out];go_num⟩
   case measure=>simp [intOf];omega
  ·have ek:k=m:=by omega
   subst ek
   clear esk
   go_wp2_with (go_at_call 130;refine (grow_nil sk (by omega) _).mono ?_;rintro e w' ⟨v1,rfl,ho,hb⟩;have HO:Hid (w'.ownsRow w.heap.size 3 1 v1 0 []):=ho;have HB:Hid (Below w.heap.size w w'):=hb;clear ho hb)
   go_loopw [6,27] (fun v i wr=>∃ j:Nat,j<=k/\i=.int .i64 j/\wr.ownsRow w.heap.size 3 1 v (Bk.len L j) ((Bk.flat L j).map (Value.int .i64))/\Below w.heap.size w wr) (fun _ i _=>k - (intOf i).toNat)
   case atStart=>exact ⟨0,Nat.zero_le _,rfl,HO.out,HB.out⟩
   case round =>
    obtain ⟨j,hj,rfl,ho,hb⟩:=hrel
    have t3:=Bk.len_mono L hj
    have HO1:Hid (wr.ownsRow w.heap.size 3 1 u6 (Bk.len L j) ((Bk.flat L j).map (Value.int .i64))):=ho
    have HB1:Hid (Below w.heap.size w wr):=hb
    have hsz:=hb.size
    clear ho hb
    by_cases hlt:j<k
    ·obtain ⟨d,c',A,C,e,hc,ho,hA,hn⟩:=(HR.out.keep HB1.out).cell hlt
     cases e
     have HA:Hid (Lst .i64 wr A (L j)):=hA
     have HN:Hid (A=none->C=0):=hn
     have t4:=Bk.len_mono L (show j+1<=k by omega)
     rw [Bk.len_succ] at t4
     rw [ESK.out] at t4
     clear hA hn ho
     go_wp2_with (at_builtin;refine wpList_append_lst rfl _ _ 70 rfl w.heap.size 3 .i64 8 Tryz.underlying70 Tryz.infoIntG _ (Bk.len L j) _ (by rfl) HO1.out A (L j) C (by rfl) HA.out HN.out (by unfold maxLen;omega) (by omega) hsz ?_;intro v2 u2 ho2 hg2;have O2:Hid (u2.ownsRow w.heap.size 3 1 v2 (Bk.len L j+(L j).length) ((Bk.flat L j).map (Value.int .i64) ++ (L j).map (Value.int .i64))):=ho2;have B2:Hid (Below w.heap.size w u2):=HB1.out.grown hg2 hsz (fun q hq=>(HO1.out.lt q hq).1);clear ho2 hg2)
     go_roundw
     case rel=>exact ⟨j+1,by omega,by go_num,by have:=O2.out;rw [<-Bk.len_succ,<-List.map_append] at this;exact this,B2.out⟩
     case measure=>simp [intOf];omega
    ·have ej:j=k:=by omega
     subst ej
     clear t3
     go_wp2
     go_ret
     exact ⟨_,rfl,HO1.out,HB1.out⟩
theorem slots_any' (g T m N:Nat) (L:Nat->List Int) (Q:Nat->Prop) (w:World) (h:Tab w g T m L Q) (hm:m<=100000) (hN:Bk.len L m=N) (hl:N<=100000) :
 Calls Tryz.prog 72 #[.pointer (some ⟨T,0,none⟩)] w fun e w'=>∃ a c,e=.returned (.slice a N c)/\w'.ownsRow w.heap.size 3 1 (.slice a N c) N ((Bk.flat L m).map (Value.int .i64))/\Lst .i64 w' a (Bk.flat L m)/\Below w.heap.size w w':=by
 subst hN
 obtain ⟨r,c0,c1,hrw⟩:=h.cells
 have HR:Hid (Rws w (.slice (some ⟨r,0,none⟩) m m) m L Q):=hrw
 have HL:Hid (Bk.len L m<=100000):=hl
 clear h hrw hl c0
 go_enter Tryz.func72,Tryz.ntmps72
 go_wp2_with (go_at_call 107;refine (concat_any _ m L Q _ HR.out hm HL.out).mono ?_;rintro e w' ⟨u,rfl,ho,hb⟩;have HO:Hid (w'.ownsRow w.heap.size 3 1 u (Bk.len L m) ((Bk.flat L m).map (Value.int .i64))):=ho;have HB:Hid (Below w.heap.size w w'):=hb;clear ho hb)
 obtain ⟨a,c,e,hl⟩:=lst_of_ownm HO.out rfl
 cases e
 have HA:Hid (Lst .i64 w' a (Bk.flat L m)):=hl
 clear hl
 go_wp2
 go_ret
 exact ⟨a,c,rfl,HO.out,HA.out,HB.out⟩
end Go.Proofs.YtnchnlgnnlgjcaaGreat
namespace Go.Proofs.YtnchnlgnnlgjcaaGreat
open Go.RowKit
theorem Bk.take_snoc {l:List Int} {j:Nat} (h:j<l.length):l.take (j+1)=l.take j ++ [Ls.nth l j]:=by
 rw [List.take_add_one]
 simp [Ls.nth,h]
theorem Bk.bump_take {R l:List Int} {j k:Nat} {d x:Int} (h:j<l.length) (ex:Ls.nth l j=(k:Int)) (ey:Ls.nth (Bk.bump R d (l.take j)) k=x):Bk.bump R d (l.take (j+1))=(Bk.bump R d (l.take j)).set k (x+d):=by
 rw [Bk.take_snoc h,Bk.bump_append,ex]
 show (Bk.bump R d (l.take j)).set (k:Int).toNat (Ls.nth _ (k:Int).toNat+d)=_
 simp [ey]
theorem Bk.occ_take {l:List Int} {j:Nat} (h:j<l.length):Bk.occ (Ls.nth l j) (l.take j)+1<=Bk.occ (Ls.nth l j) l:=by
 have h1:Bk.occ (Ls.nth l j) (l.take (j+1))=Bk.occ (Ls.nth l j) (l.take j)+1:=by rw [Bk.take_snoc h,Bk.occ_append,Bk.occ_one,if_pos rfl]
 have h2:Bk.occ (Ls.nth l j) l=Bk.occ (Ls.nth l j) (l.take (j+1))+Bk.occ (Ls.nth l j) (l.drop (j+1)):=by rw [<-Bk.occ_append,List.take_append_drop]
 omega
theorem Bk.mem_nth {l:List Int} {j:Nat} (h:j<l.length):Ls.nth l j ∈ l:=by
 have:Ls.nth l j=l[j]:=by simp [Ls.nth,h]
 rw [this]
 exact List.getElem_mem h
theorem Bk.nth_take {R l:List Int} {d:Int} {n k:Nat} (j:Nat) (hR:R.length=n) (hx:∀ x,x ∈ l->0<=x/\x<n) (hk:k<n):Ls.nth (Bk.bump R d (l.take j)) k=Ls.nth R k+d*Bk.occ k (l.take j) :=
 Bk.nth_bump d _ R (fun x hxm=>by rw [hR];exact hx x (List.mem_of_mem_take hxm)) k (by rw [hR];exact hk)
def Bk.upto (L:Nat->List Int) (k:Nat):Nat->List Int:=fun i=>if i<k then L i else []
theorem Bk.upto_zero (L:Nat->List Int):Bk.upto L 0=fun _=>[]:=by funext i;exact if_neg (by omega)
theorem Bk.upto_succ (L:Nat->List Int) (k:Nat):Bk.up (Bk.upto L k) k (L k)=Bk.upto L (k+1):=by
 funext i
 unfold Bk.up Bk.upto
 by_cases e:i=k
 ·rw [if_pos e,if_pos (by omega),e]
 ·rw [if_neg e]
  by_cases h:i<k
  ·rw [if_pos h,if_pos (by omega)]
  ·rw [if_neg h,if_neg (by omega)]
theorem Bk.upto_at (L:Nat->List Int) {j k:Nat} (h:j<k):Bk.upto L k j=L j:=if_pos h
theorem Rws.frozen {w:World} {d m c:Nat} {L:Nat->List Int} {Q:Nat->Prop} (h:Rws w (.slice (some ⟨d,0,none⟩) m c) m L Q) (j:Nat):w.frozen? ⟨d,j,none⟩=false:=by
 rcases h with ⟨h,_⟩ | ⟨d',c',F,e,_,hr,_⟩
 ·cases h
 ·cases e;exact hr.frozen _
theorem Rws.head {w:World} {d m c:Nat} {L:Nat->List Int} {Q:Nat->Prop} (h:Rws w (.slice (some ⟨d,0,none⟩) m c) m L Q):Q d/\Ty w d 70/\m<=c/\∃ F,w.rowIs d 70 c F:=by
 rcases h with ⟨h,_⟩ | ⟨d',c',F,e,hc,hr,hd,_⟩
 ·cases h
 ·cases e;exact ⟨hd,ty_row hr,hc,F,hr⟩
theorem row_cleared {b:Nat} {t:TypeId} {c:Nat} (z:Value):∀ (n o:Nat) (w:World) (f:Nat->Value),w.rowIs b t c f->(w.setCells b o (List.replicate n z)).rowIs b t c (fun i=>if o<=i/\i<o+n then z else f i):=by
 intro n
 induction n with
 | zero =>
   intro o w f h
   exact h.congr fun i _=>by rw [if_neg (by omega)]
 | succ n ih =>
   intro o w f h
   show ((w.setCell ⟨b,o,none⟩ z).setCells b (o+1) (List.replicate n z)).rowIs b t c _
   refine (ih (o+1) _ _ (h.set o z)).congr fun i _=>?_
   by_cases e:i=o
   ·rw [if_neg (by omega),if_pos e,if_pos (by omega)]
   ·rw [if_neg e]
    by_cases h1:o+1<=i/\i<o+1+n
    ·rw [if_pos h1,if_pos (by omega)]
    ·rw [if_neg h1,if_neg (by omega)]
theorem below_cells {B b:Nat} (hb:B<=b):∀ (vs:List Value) (o:Nat) (w0 w:World),Below B w0 w->Below B w0 (w.setCells b o vs):=by
 intro vs
 induction vs with
 | nil=>exact fun o w0 w h=>h
 | cons v vs ih=>exact fun o w0 w h=>ih (o+1) w0 _ (h.setCell (p:=⟨b,o,none⟩) hb v)
theorem block_cells {b:Nat} {j:Nat} (hj:¬ j=b):∀ (vs:List Value) (o:Nat) (w:World),(w.setCells b o vs).heap[j]?=w.heap[j]?:=by
 intro vs
 induction vs with
 | nil=>exact fun o w=>rfl
 | cons v vs ih=>exact fun o w=>(ih (o+1) _).trans (Below.heap_setCell _ _ _ _ (show j ≠ b from hj))
theorem ButQ.cells {g b:Nat} {Q:Nat->Prop} {w v:World} (h:ButQ g b Q w v) {d:Nat} (hd:Q d) (vs:List Value) (o:Nat):ButQ g b Q w (v.setCells d o vs):=by
 have b0:=below_cells (B:=0) (b:=d) (Nat.zero_le _) vs o v v (Below.refl _ _)
 exact ⟨b0.os.trans h.1,b0.tape.trans h.2.1,b0.output.trans h.2.2.1,Nat.le_trans h.2.2.2.1 b0.size,fun j h0 h1 h2 h3=>by rw [block_cells (fun e=>by subst e;exact h3 hd),h.2.2.2.2 j h0 h1 h2 h3]⟩
theorem Rws.cleared {w:World} {d m:Nat} {L:Nat->List Int} {Q:Nat->Prop} (h:Rws w (.slice (some ⟨d,0,none⟩) m m) m L Q):Rws (w.setCells d 0 (List.replicate m (.slice none 0 0))) (.slice (some ⟨d,0,none⟩) m m) m (fun _=>[]) Q:=by
 obtain ⟨hd,_,_,F,hr⟩:=h.head
 refine rws_made ((row_cleared (.slice none 0 0) m 0 w F hr).congr fun i hi=>?_) hd
 rw [if_pos (by omega)]
end Go.Proofs.YtnchnlgnnlgjcaaGreat
namespace Go.Proofs.YtnchnlgnnlgjcaaGreat
open Go.RowKit
theorem off_own {w:World} {g b n k:Nat} {R M:List Int} {a:Option Addr} {c base:Nat} {xs:List Value} (hp:PoolAt w g b n R M) (ho:w.ownsRow base 3 1 (.slice a k c) k xs):Off g b a:=fun x ex=>by
 subst ex
 have t:=ty_own ho (q:=x.block) rfl
 exact ⟨t.ne hp.tys.1 (by decide),t.ne hp.tys.2 (by decide)⟩
theorem zero_slices:∀ w,(zeroValue 70).run Tryz.prog w=.ok (.slice none 0 0) w:=by
 obtain ⟨i,hi,h1,_,_⟩:=info_parts Tryz.infoSlices
 intro w
 simp [zeroValue,typeInfo,hi,h1]
set_option maxRecDepth 100000 in
set_option maxHeartbeats 3200000 in
theorem fork_any (g b n T m:Nat) (R M:List Int) (L:Nat->List Int) (Q:Nat->Prop) (w:World) (hp:PoolAt w g b n R M) (h:Tab w g T m L Q) (hm:m<=16) (hl:Bk.len L m<=1000)
 (hx:∀ x,x ∈ Bk.flat L m->(0<=x/\x<n)/\0<Ls.nth R x.toNat) (hb:∀ k,k<n->Ls.nth R k<=1000) :
 Calls Tryz.prog 83 #[.pointer (some ⟨T,0,none⟩)] w fun e w'=>∃ U,e=.returned (.pointer (some ⟨U,0,none⟩))/\PoolAt w' g b n (Bk.bump R 1 (Bk.flat L m)) M /\
  Tab w' g U m L (fun q=>w.heap.size<=q)/\w.heap.size<=U/\But2 g b w w':=by
 have hmk:=run_make_row' (P:=Tryz.prog) 149 70 (.slice none 0 0) 24 Tryz.underlying149 Tryz.infoSlices rfl .i64 .i64 m (by omega) (by omega)
 obtain ⟨r,c0,c1,hrw⟩:=h.cells
 have HP:Hid (PoolAt w g b n R M):=hp
 have HR:Hid (Rws w (.slice (some ⟨r,0,none⟩) m m) m L Q):=hrw
 have HL:Hid (Bk.len L m<=1000):=hl
 have HX:Hid (∀ x,x ∈ Bk.flat L m->(0<=x/\x<n)/\0<Ls.nth R x.toNat):=hx
 have HB:Hid (∀ k,k<n->Ls.nth R k<=1000):=hb
 have Tlt:T<w.heap.size:=h.lt
 have HC0:Hid (w.cell? ⟨T,0,none⟩=some (.pointer (some ⟨g,0,none⟩))):=c0
 have HTy:Hid (Ty w T 151):=h.ty
 clear hp h hrw hl hx hb
 go_enter Tryz.func83,Tryz.ntmps83
 go_wp2
 go_region
 all_goals go_wp2
 obtain ⟨d,ed⟩:∃ d,w.heap.size=d:=⟨_,rfl⟩
 obtain ⟨u,hu⟩:∃ u,((w.alloc (.cells (madeCells #[.slice none 0 0] m) 70)).alloc (.cells #[.pointer (some ⟨g,0,none⟩),.slice (some ⟨w.heap.size,0,none⟩) m m] 151)).drew=u:=⟨_,rfl⟩
 have UB:Hid (Below w.heap.size w u):=by rw [<-hu];exact (two_boxes _ _ _).drew
 have US:u.heap.size=d+2:=by rw [<-hu,<-ed];simp
 have UT:Hid (u.rowIs (d+1) 151 2 (tbc g d m)):=by
  have:=World.rowIs_alloc (w.alloc (.cells (madeCells #[.slice none 0 0] m) 70)) #[.pointer (some ⟨g,0,none⟩),.slice (some ⟨w.heap.size,0,none⟩) m m] 151 (tbc g w.heap.size m) (by
   intro i hi
   match i,hi with
   | 0,_=>rfl
   | 1,_=>rfl)
  have h2:=this.drew
  show u.rowIs (d+1) 151 2 (tbc g d m)
  rw [<-hu,<-ed]
  simpa using h2
 have UR:Hid (Rws u (.slice (some ⟨d,0,none⟩) m m) m (fun _=>[]) (fun q=>d<=q)):=by
  rw [<-hu,<-ed]
  exact rws_made (((World.rowIs_made w _ m _).alloc _).drew) (Nat.le_refl _)
 rw [hu]
 clear hu hmk
 have ED:Hid (w.heap.size=d):=ed
 rw [ed] at Tlt ⊢
 clear ed
 go_loopw [25] (fun i wr=>∃ k:Nat,k<=m/\i=.int .i64 k/\Hid (Below d w wr)/\Hid (wr.rowIs (d+1) 151 2 (tbc g d m))/\Hid (Rws wr (.slice (some ⟨d,0,none⟩) m m) m (Bk.upto L k) (fun q=>d<=q))) (fun i _=>m - (intOf i).toNat)
 case atStart=>exact ⟨0,Nat.zero_le _,rfl,ED.out ▸ UB.out,UT.out,by rw [Bk.upto_zero];exact UR.out⟩
 case round =>
  obtain ⟨k,hk,rfl,B1,T1,R1⟩:=hrel
  have hsz:=B1.out.size
  have dlt:d+1<wr.heap.size:=T1.out.lt
  by_cases hlt:k<m
  ·have hrk:=HR.out.keep (ED.out ▸ B1.out)
   obtain ⟨d',c',A,C,e,hc,ho,hA,hn⟩:=hrk.cell hlt
   cases e
   obtain ⟨n0,en⟩:∃ n0,(L k).length=n0:=⟨_,rfl⟩
   have EN:Hid ((L k).length=n0):=en
   have hn0:n0<=1000:=by have:=Bk.row_le L hlt;have:=HL.out;omega
   rw [en] at hc
   have HA:Hid (Lst .i64 wr A (L k)):=hA
   have HN:Hid (A=none->C=0):=hn
   have t1:wr.cell? ⟨d+1,1,none⟩=some (.slice (some ⟨d,0,none⟩) m m):=T1.out.cell (show 1<2 by decide)
   have c1':wr.cell? ⟨T,1,none⟩=some (.slice (some ⟨r,0,none⟩) m m):=(B1.out.cell (p:=⟨T,1,none⟩) (by show T<d;omega)).trans c1
   clear hrk hA hn ho en c1
   go_wp2
   obtain ⟨v0,V0⟩:∃ v0,wr.cell? ⟨d,k,none⟩=some v0:=by obtain ⟨_,_,A0,C0,e,v0c,_⟩:=R1.out.cell hlt;cases e;exact ⟨_,v0c⟩
   have V0:Hid (wr.cell? ⟨d,k,none⟩=some v0):=V0
   have F0:Hid (wr.frozen? ⟨d,k,none⟩=false):=R1.out.frozen k
   have T0:Hid (wr.cell? ⟨d+1,1,none⟩=some (.slice (some ⟨d,0,none⟩) m m)):=t1
   go_region_held3 (fun w'=>w'.cell? ⟨d+1,1,none⟩=some (.slice (some ⟨d,0,none⟩) m m))
    (first
      | exact t1
      | exact t2
      | exact (World.cell?_setCell_other _ _ _ _ (by simp)).trans t2)
    (first | (go_at_call 84;(with_reducible refine (cloneR_any A n0 C (L k) _ (HA.out.keep ((Below.refl wr.heap.size wr).drew)) EN.out HN.out (by omega)).mono ?_);rintro e w1 ⟨v,rfl,ho,hb⟩;obtain ⟨va,vc,rfl⟩:=own_slice ho;have O1:Hid (w1.ownsRow wr.heap.size 3 1 (.slice va n0 vc) n0 ((L k).map (Value.int .i64))):=ho;have BB:Hid (Below wr.heap.size wr w1):=((Below.refl wr.heap.size wr).drew).trans hb;have t2:=(BB.out.cell (p:=⟨d+1,1,none⟩) dlt).trans T0.out;have cv:=(BB.out.cell (p:=⟨d,k,none⟩) (show d<wr.heap.size by omega)).trans V0.out;have cf:=(BB.out.frozen (p:=⟨d,k,none⟩) (show d<wr.heap.size by omega)).trans F0.out;clear ho hb))
   all_goals
    go_wp2
    go_roundw
    case rel =>
     have o0:RowAt w1 (.slice va n0 vc) (L k):=by unfold RowAt;rw [EN.out];exact own_mono O1.out (Nat.zero_le _)
     have r2:=Rws.more R1.out hlt V0.out o0 (fun x ex=>.inr (O1.out.lt x ex).1) (fun q hq _=>BB.out.block q hq)
     refine ⟨k+1,by omega,by go_num,(B1.out.trans (BB.out.mono (by omega))).setCell (p:=⟨d,k,none⟩) (Nat.le_refl _) _,?_,?_⟩
     ·refine (T1.out.of_block (BB.out.block _ dlt)).of_block (Below.heap_setCell _ _ _ _ (show d+1 ≠ d by omega))
     ·rw [Bk.upto_succ] at r2
      exact r2.mono fun q _ hq=>by omega
    case measure=>simp [intOf];omega
  ·have ek:k=m:=by omega
   subst ek
   have TU:Hid (Tab wr g (d+1) k L (fun q=>d<=q)):=⟨d,T1.out,R1.out.congr fun j hj=>Bk.upto_at L hj⟩
   obtain ⟨N,eN⟩:∃ N,Bk.len L k=N:=⟨_,rfl⟩
   have EN:Hid (Bk.len L k=N):=eN
   have hN:N<=1000:=by rw [<-eN];exact HL.out
   have hc0:wr.cell? ⟨T,0,none⟩=some (.pointer (some ⟨g,0,none⟩)):=(B1.out.cell (p:=⟨T,0,none⟩) (by show T<d;omega)).trans HC0.out
   have PW:Hid (PoolAt wr g b n R M):=HP.out.keep (ED.out ▸ B1.out)
   clear eN c0 c1
   go_wp2_with (go_at_call 72;refine (slots_any' g (d+1) k N L _ _ TU.out (by omega) EN.out (by omega)).mono ?_;rintro e w1 ⟨a,c,rfl,ho,hA,hb⟩;have O1:Hid (w1.ownsRow wr.heap.size 3 1 (.slice a N c) N ((Bk.flat L k).map (Value.int .i64))):=ho;have A1:Hid (Lst .i64 w1 a (Bk.flat L k)):=hA;have BB:Hid (Below wr.heap.size wr w1):=hb;clear ho hA hb)
   have OFF:Hid (Off g b a):=off_own (PW.out.keep BB.out) O1.out
   have P1:Hid (PoolAt w1 g b n R M):=PW.out.keep BB.out
   have c2:w1.cell? ⟨T,0,none⟩=some (.pointer (some ⟨g,0,none⟩)):=(BB.out.cell (p:=⟨T,0,none⟩) (by show T<wr.heap.size;omega)).trans hc0
   have C2:Hid (w1.cell? ⟨T,0,none⟩=some (.pointer (some ⟨g,0,none⟩))):=c2
   have T1g:Hid (¬ T=g/\¬ T=b/\T<w1.heap.size):=⟨HTy.out.ne HP.out.tys.1 (by decide),HTy.out.ne HP.out.tys.2 (by decide),by have:=BB.out.size;omega⟩
   have LN:Hid ((Bk.flat L k).length=N):=EN.out
   have RN:Hid (R.length=n):=HP.out.nums.2.1
   have BW:Hid (But2 g b w w1):=But2.of_below ((ED.out ▸ B1.out:Below w.heap.size w wr).trans (BB.out.mono (by have:=B1.out.size;omega))) (by have:=HP.out.lt;omega)
   have TU1:Hid (Tab w1 g (d+1) k L (fun q=>d<=q)):=TU.out.keep BB.out
   clear hc0 c2 dlt hsz
   go_loopw [42] (fun i wq=>∃ j:Nat,j<=N/\i=.int .i64 j/\Hid (PoolAt wq g b n (Bk.bump R 1 ((Bk.flat L k).take j)) M)/\Hid (But2 g b w1 wq)) (fun i _=>N - (intOf i).toNat)
   case atStart=>exact ⟨0,Nat.zero_le _,rfl,P1.out,But2.refl _ _ _⟩
   case round =>
    obtain ⟨j,hj,rfl,PQ,BQ⟩:=hrel
    by_cases hlt2:j<N
    ·have hA:=BQ.out.lst A1.out OFF.out
     obtain ⟨b1,o1,e,hg⟩:=hA.get (show j<(Bk.flat L k).length by rw [LN.out];exact hlt2)
     subst e
     have s0:=hg j (by rw [LN.out];exact hlt2)
     have hx:=HX.out _ (Bk.mem_nth (show j<(Bk.flat L k).length by rw [LN.out];exact hlt2))
     obtain ⟨t,et⟩:∃ t:Nat,Ls.nth (Bk.flat L k) j=t:=⟨(Ls.nth (Bk.flat L k) j).toNat,by omega⟩
     have ET:Hid (Ls.nth (Bk.flat L k) j=t):=et
     rw [et] at s0 hx
     have htn:t<n:=by omega
     have hx2:0<Ls.nth R t:=by simpa using hx.2
     have hbr:=HB.out t htn
     have hcnt:=Bk.nth_take (d:=1) (l:=Bk.flat L k) j RN.out (fun x hxm=>(HX.out x hxm).1) htn
     have hol:=Bk.occ_le t ((Bk.flat L k).take j)
     have htl:((Bk.flat L k).take j).length<=N:=by rw [List.length_take,LN.out];omega
     obtain ⟨x,ex⟩:∃ x,Ls.nth (Bk.bump R 1 ((Bk.flat L k).take j)) t=x:=⟨_,rfl⟩
     have EX:Hid (Ls.nth (Bk.bump R 1 ((Bk.flat L k).take j)) t=x):=ex
     rw [ex] at hcnt
     have x0:0<x:=by rw [hcnt];omega
     have x1:x<1000000:=by rw [hcnt];omega
     have c3:wr.cell? ⟨T,0,none⟩=some (.pointer (some ⟨g,0,none⟩)):=by
      rw [World.cell?_of_block (a:=⟨T,0,none⟩) (BQ.out.2 T T1g.out.2.2 T1g.out.1 T1g.out.2.1)];exact C2.out
     clear hA hg hx hbr hcnt hol htl et ex hx2
     go_wp2_with (go_at_call 111;refine (hold_some g b n t x _ M _ PQ.out htn EX.out x0 x1).mono ?_;rintro e w3 ⟨rfl,hp3,hb3⟩;have P3:Hid (PoolAt w3 g b n ((Bk.bump R 1 ((Bk.flat L k).take j)).set t (x+1)) M):=hp3;have B3:Hid (But2 g b wr w3):=hb3;clear hp3 hb3)
     go_roundw
     case rel=>exact ⟨j+1,by omega,by go_num,by rw [Bk.bump_take (by rw [LN.out];exact hlt2) ET.out EX.out];exact P3.out,BQ.out.trans B3.out⟩
     case measure=>simp [intOf];omega
    ·have ej:j=N:=by omega
     subst ej
     go_wp2
     go_ret
     refine ⟨d+1,rfl,?_,?_,by have:=ED.out;omega,BW.out.trans BQ.out⟩
     ·have:=PQ.out
      rw [List.take_of_length_le (by rw [LN.out];exact Nat.le_refl _)] at this
      exact this
     ·exact (P1.out.tab BQ.out TU1.out).mono fun q _ hq=>by have:=ED.out;omega
set_option maxRecDepth 100000 in
set_option maxHeartbeats 3200000 in
theorem clear_any (g b n T m:Nat) (R M:List Int) (L:Nat->List Int) (Q:Nat->Prop) (w:World) (hp:PoolAt w g b n R M) (h:Tab w g T m L Q) (hm:m<=16) (hl:Bk.len L m<=1000)
 (hx:∀ x,x ∈ Bk.flat L m->0<=x/\x<n) (ho:∀ k:Nat,k<n->(Bk.occ k (Bk.flat L m):Int)<=Ls.nth R k) (hb:∀ k,k<n->Ls.nth R k<=1000) :
 Calls Tryz.prog 70 #[.pointer (some ⟨T,0,none⟩)] w fun e w'=>e=.returned (.tuple #[])/\PoolAt w' g b n (Bk.bump R (-1) (Bk.flat L m)) M /\
  Tab w' g T m (fun _=>[]) Q/\ButQ g b Q w w':=by
 obtain ⟨r,c0,c1,hrw⟩:=h.cells
 have HP:Hid (PoolAt w g b n R M):=hp
 have H:Hid (Tab w g T m L Q):=h
 have HX:Hid (∀ x,x ∈ Bk.flat L m->0<=x/\x<n):=hx
 have HB:Hid (∀ k,k<n->Ls.nth R k<=1000):=hb
 have HOC:Hid (∀ k:Nat,k<n->(Bk.occ k (Bk.flat L m):Int)<=Ls.nth R k):=ho
 have Tlt:T<w.heap.size:=h.lt
 have HC0:Hid (w.cell? ⟨T,0,none⟩=some (.pointer (some ⟨g,0,none⟩))):=c0
 have HTn:Hid (¬ T=g/\¬ T=b):=⟨h.ty.ne hp.tys.1 (by decide),h.ty.ne hp.tys.2 (by decide)⟩
 obtain ⟨N,eN⟩:∃ N,Bk.len L m=N:=⟨_,rfl⟩
 have EN:Hid (Bk.len L m=N):=eN
 have hN:N<=1000:=by rw [<-eN];exact hl
 clear hp h hrw hl hx ho hb eN c0 c1
 go_enter Tryz.func70,Tryz.ntmps70
 go_wp2_with (go_at_call 72;refine (slots_any' g T m N L _ _ H.out (by omega) EN.out (by omega)).mono ?_;rintro e w1 ⟨a,c,rfl,ho,hA,hb⟩;have O1:Hid (w1.ownsRow w.heap.size 3 1 (.slice a N c) N ((Bk.flat L m).map (Value.int .i64))):=ho;have A1:Hid (Lst .i64 w1 a (Bk.flat L m)):=hA;have BB:Hid (Below w.heap.size w w1):=hb;clear ho hA hb)
 have P1:Hid (PoolAt w1 g b n R M):=HP.out.keep BB.out
 have OFF:Hid (Off g b a):=off_own P1.out O1.out
 have T1:Hid (Tab w1 g T m L Q):=H.out.keep BB.out
 have C2:Hid (w1.cell? ⟨T,0,none⟩=some (.pointer (some ⟨g,0,none⟩))):=(BB.out.cell (p:=⟨T,0,none⟩) Tlt).trans HC0.out
 have Tl1:Hid (T<w1.heap.size):=by have:=BB.out.size;show T<w1.heap.size;omega
 have LN:Hid ((Bk.flat L m).length=N):=EN.out
 have RN:Hid (R.length=n):=HP.out.nums.2.1
 clear Tlt
 go_loopw [7] (fun i wq=>∃ j:Nat,j<=N/\i=.int .i64 j/\Hid (PoolAt wq g b n (Bk.bump R (-1) ((Bk.flat L m).take j)) M)/\Hid (But2 g b w1 wq)) (fun i _=>N - (intOf i).toNat)
 case atStart=>exact ⟨0,Nat.zero_le _,rfl,P1.out,But2.refl _ _ _⟩
 case round =>
  obtain ⟨j,hj,rfl,PQ,BQ⟩:=hrel
  by_cases hlt2:j<N
  ·have hA:=BQ.out.lst A1.out OFF.out
   obtain ⟨b1,o1,e,hg⟩:=hA.get (show j<(Bk.flat L m).length by rw [LN.out];exact hlt2)
   subst e
   have s0:=hg j (by rw [LN.out];exact hlt2)
   have hx:=HX.out _ (Bk.mem_nth (show j<(Bk.flat L m).length by rw [LN.out];exact hlt2))
   obtain ⟨t,et⟩:∃ t:Nat,Ls.nth (Bk.flat L m) j=t:=⟨(Ls.nth (Bk.flat L m) j).toNat,by omega⟩
   have ET:Hid (Ls.nth (Bk.flat L m) j=t):=et
   have hot:=Bk.occ_take (show j<(Bk.flat L m).length by rw [LN.out];exact hlt2)
   rw [et] at s0 hx hot
   have htn:t<n:=by omega
   have hbr:=HB.out t htn
   have hoc:=HOC.out t htn
   have hcnt:=Bk.nth_take (d:=-1) (l:=Bk.flat L m) j RN.out HX.out htn
   obtain ⟨x,ex⟩:∃ x,Ls.nth (Bk.bump R (-1) ((Bk.flat L m).take j)) t=x:=⟨_,rfl⟩
   have EX:Hid (Ls.nth (Bk.bump R (-1) ((Bk.flat L m).take j)) t=x):=ex
   rw [ex] at hcnt
   have x0:0<x:=by rw [hcnt];omega
   have x1:x<1000000:=by rw [hcnt];omega
   have c3:wr.cell? ⟨T,0,none⟩=some (.pointer (some ⟨g,0,none⟩)):=by
    rw [World.cell?_of_block (a:=⟨T,0,none⟩) (BQ.out.2 T Tl1.out HTn.out.1 HTn.out.2)];exact C2.out
   clear hA hg hx hbr hcnt hot hoc et ex
   by_cases xo:x=1
   ·have XO:Hid (x=1):=xo
    clear xo x0 x1
    go_wp2_with (go_at_call 105;refine (drop_last g b n t _ M _ PQ.out htn (EX.out.trans XO.out)).mono ?_;rintro e w3 ⟨rfl,hp3,hb3⟩;have P3:Hid (PoolAt w3 g b n ((Bk.bump R (-1) ((Bk.flat L m).take j)).set t 0) M):=hp3;have B3:Hid (But2 g b wr w3):=hb3;clear hp3 hb3)
    go_roundw
    case rel =>
     refine ⟨j+1,by omega,by go_num,?_,BQ.out.trans B3.out⟩
     rw [Bk.bump_take (by rw [LN.out];exact hlt2) ET.out EX.out,XO.out]
     exact P3.out
    case measure=>simp [intOf];omega
   ·have xm:1<x:=by omega
    clear xo x0
    go_wp2_with (go_at_call 105;refine (drop_more g b n t x _ M _ PQ.out htn EX.out xm x1).mono ?_;rintro e w3 ⟨rfl,hp3,hb3⟩;have P3:Hid (PoolAt w3 g b n ((Bk.bump R (-1) ((Bk.flat L m).take j)).set t (x - 1)) M):=hp3;have B3:Hid (But2 g b wr w3):=hb3;clear hp3 hb3)
    go_roundw
    case rel =>
     refine ⟨j+1,by omega,by go_num,?_,BQ.out.trans B3.out⟩
     rw [Bk.bump_take (by rw [LN.out];exact hlt2) ET.out EX.out,show x+-1=x - 1 by omega]
     exact P3.out
    case measure=>simp [intOf];omega
  ·have ej:j=N:=by omega
   subst ej
   have PF:Hid (PoolAt wr g b n (Bk.bump R (-1) (Bk.flat L m)) M):=by
    have:=PQ.out
    rw [List.take_of_length_le (by rw [LN.out];exact Nat.le_refl _)] at this
    exact this
   have TF:Hid (Tab wr g T m L Q):=P1.out.tab BQ.out T1.out
   obtain ⟨r,c0,c1,hrw⟩:=TF.out.cells
   have HT:Hid (wr.rowIs T 151 2 (tbc g r m)):=by
    obtain ⟨r',h1,_⟩:=TF.out
    have:=h1.cell (show 1<2 by decide)
    rw [c1] at this
    cases this
    exact h1
   have HW:Hid (Rws wr (.slice (some ⟨r,0,none⟩) m m) m L Q):=hrw
   obtain ⟨hQr,tr,_,F,hr⟩:=hrw.head
   have BW:Hid (ButQ g b Q w wr):=(ButQ.of_below BB.out).trans (ButQ.of_but2 BQ.out)
   have TRn:Hid (¬ T=r/\Ty wr r 70/\Q r):=⟨(ty_row HT.out).ne tr (by decide),tr,hQr⟩
   by_cases hm0:m=0
   ·subst hm0
    have hclr:∀ ty,(Builtin.clear_ #[149] ty #[.slice (some ⟨r,0,none⟩) 0 0]).run Tryz.prog wr=.ok (.tuple #[]) wr:=fun ty=>by simp [Builtin.clear_,run_underlying Tryz.underlying149]
    clear hrw hQr tr hr c0
    go_wp2
    go_end0
    exact ⟨rfl,PF.out,⟨r,HT.out,HW.out.congr fun j hj=>by omega⟩,BW.out⟩
   ·have hclr:∀ ty,(Builtin.clear_ #[149] ty #[.slice (some ⟨r,0,none⟩) m m]).run Tryz.prog wr=.ok (.tuple #[]) (wr.setCells r 0 (List.replicate m (.slice none 0 0))):=fun ty =>
     Lib.run_clear_slice wr 149 70 ty (.slice none 0 0) Tryz.underlying149 (zero_slices) rfl rfl r 0 m m (by omega) (fun j hj=>by rw [Nat.zero_add,hr.cell hj];rfl) (fun j hj=>hr.frozen _)
    clear hrw hQr tr hr c0
    go_wp2
    go_end0
    refine ⟨rfl,?_,⟨r,?_,HW.out.cleared⟩,BW.out.cells TRn.out.2.2 _ _⟩
    ·refine PF.out.stand fun j hj=>?_
     refine block_cells ?_ _ _ _
     rcases hj with q | q | q <;> exact q.ne TRn.out.2.1 (by decide)
    ·exact HT.out.of_block (block_cells TRn.out.1 _ _ _)
end Go.Proofs.YtnchnlgnnlgjcaaGreat
namespace Go.Proofs.YtnchnlgnnlgjcaaGreat
open Go.RowKit
abbrev El (α:Type):=(Nat->Prop)->World->(Nat->Option Value)->α->Prop
def SlQ {α:Type} (Q:Nat->Prop) (s:Nat) (E:El α) (w:World) (a:Option Addr) (l:List α):Prop :=
 ∀ i (h:i<l.length),∃ b o,a=some ⟨b,o,none⟩/\b<w.heap.size/\Q b/\E Q w (fun j=>w.cell? ⟨b,o+(i*s+j),none⟩) l[i]
def Carries {α:Type} (s:Nat) (E:El α):Prop :=
 ∀ (Q Q':Nat->Prop) (w w':World) (c c':Nat->Option Value) (x:α),(∀ q,q<w.heap.size->Q q->Q' q/\w'.heap[q]?=w.heap[q]?)->w.heap.size<=w'.heap.size->(∀ j,j<s->∀ v,c j=some v->c' j=some v)->E Q w c x->E Q' w' c' x
theorem SlQ.carry {α:Type} {E:El α} {s:Nat} (hE:Carries s E) {Q Q':Nat->Prop} {w w':World} {a:Option Addr} {l:List α} (h:SlQ Q s E w a l)
 (hk:∀ q,q<w.heap.size->Q q->Q' q/\w'.heap[q]?=w.heap[q]?) (hs:w.heap.size<=w'.heap.size):SlQ Q' s E w' a l:=fun i hi=>by
 obtain ⟨b,o,e,hb,hq,he⟩:=h i hi
 obtain ⟨h1,h2⟩:=hk b hb hq
 exact ⟨b,o,e,by omega,h1,hE Q Q' w w' _ _ _ hk hs (fun j _ v hv=>by rw [World.cell?_of_block h2];exact hv) he⟩
theorem SlQ.keep {α:Type} {E:El α} {s:Nat} (hE:Carries s E) {Q:Nat->Prop} {w w':World} {a:Option Addr} {l:List α} (h:SlQ Q s E w a l) (hb:Below w.heap.size w w'):SlQ Q s E w' a l :=
 h.carry hE (fun q h1 h2=>⟨h2,hb.block q h1⟩) hb.size
theorem SlQ.nil {α:Type} (Q:Nat->Prop) (s:Nat) (E:El α) (w:World) (a:Option Addr):SlQ Q s E w a []:=fun i hi=>by simp at hi
theorem SlQ.take {α:Type} {E:El α} {Q:Nat->Prop} {s:Nat} {w:World} {a:Option Addr} {l:List α} (h:SlQ Q s E w a l) (n:Nat):SlQ Q s E w a (l.take n):=fun i hi=>by
 have h1:i<l.length:=by rw [List.length_take] at hi;omega
 rw [List.getElem_take]
 exact h i h1
theorem SlQ.get {α:Type} {E:El α} {Q:Nat->Prop} {s:Nat} {w:World} {a:Option Addr} {l:List α} (h:SlQ Q s E w a l) {i:Nat} (hi:i<l.length) :
 ∃ b o,a=some ⟨b,o,none⟩/\b<w.heap.size/\Q b/\∀ j (hj:j<l.length),E Q w (fun k=>w.cell? ⟨b,o+(j*s+k),none⟩) l[j]:=by
 obtain ⟨b,o,rfl,h1,h2,_⟩:=h i hi
 refine ⟨b,o,rfl,h1,h2,fun j hj=>?_⟩
 obtain ⟨b',o',e,_,_,he⟩:=h j hj
 simp at e
 obtain ⟨rfl,rfl⟩:=e
 exact he
def eNum (k:IntKind):El Int:=fun Q w c x=>c 0=some (.int k x)
def eSl {α:Type} (s:Nat) (E:El α):El (List α):=fun Q w c l=>∃ A C,c 0=some (.slice A l.length C)/\l.length<=C/\l.length<=maxLen/\(A=none->C=0)/\SlQ Q s E w A l
abbrev eRow:El (List Int):=eSl 1 (eNum .i32)
abbrev eTbl:El (List (List Int)):=eSl 1 eRow
abbrev Tok:=List (List Int) × List (List Int)
def eTok:El Tok:=fun Q w c x=>eTbl Q w c x.1/\eTbl Q w (fun j=>c (j+1)) x.2
abbrev eToks:El (List Tok):=eSl 2 eTok
theorem carry_num (k:IntKind):Carries 1 (eNum k):=fun Q Q' w w' c c' x _ _ hc h=>hc 0 (by decide) _ h
theorem carry_sl {α:Type} {s:Nat} {E:El α} (hE:Carries s E):Carries 1 (eSl s E):=fun Q Q' w w' c c' l hk hs hc ⟨A,C,h1,h2,h3,h4,h5⟩=>⟨A,C,hc 0 (by decide) _ h1,h2,h3,h4,h5.carry hE hk hs⟩
theorem carry_row:Carries 1 eRow:=carry_sl (carry_num _)
theorem carry_tbl:Carries 1 eTbl:=carry_sl carry_row
theorem carry_tok:Carries 2 eTok:=fun Q Q' w w' c c' x hk hs hc ⟨h1,h2⟩=>⟨carry_tbl Q Q' w w' _ _ _ hk hs (fun j hj v h=>hc j (by omega) v h) h1,carry_tbl Q Q' w w' _ _ _ hk hs (fun j hj v h=>hc (j+1) (by omega) v h) h2⟩
theorem carry_toks:Carries 1 eToks:=carry_sl carry_tok
def Full {α:Type} (s:Nat) (E:El α):Prop:=∀ (Q:Nat->Prop) (w:World) (c:Nat->Option Value) (x:α),E Q w c x->∀ j,j<s->∃ v,c j=some v/\v.oneCell'=true
theorem full_sl {α:Type} (s:Nat) (E:El α):Full 1 (eSl s E):=fun Q w c x ⟨A,C,h,_⟩ j hj=>by
 obtain rfl:j=0:=by omega
 exact ⟨_,h,rfl⟩
theorem full_tok:Full 2 eTok:=fun Q w c x ⟨⟨A,C,h,_⟩,A2,C2,h2,_⟩ j hj=>by
 rcases Nat.lt_or_ge j 1 with q | q
 ·obtain rfl:j=0:=by omega
  exact ⟨_,h,rfl⟩
 ·obtain rfl:j=0+1:=by omega
  exact ⟨_,h2,rfl⟩
theorem SlQ.lst {k:IntKind} {Q:Nat->Prop} {w:World} {a:Option Addr} {l:List Int} (h:SlQ Q 1 (eNum k) w a l):Lst k w a l:=fun i hi=>by
 obtain ⟨b,o,e,_,_,he⟩:=h i hi
 have he:w.cell? ⟨b,o+(i*1+0),none⟩=some (.int k l[i]):=he
 rw [show o+(i*1+0)=o+i by omega] at he
 refine ⟨b,o,e,?_⟩
 rw [he]
 simp [Ls.nth,hi]
theorem SlQ.tbl {Q:Nat->Prop} {w:World} {a:Option Addr} {ls:List (List Int)} (h:SlQ Q 1 eRow w a ls):Tbl w a ls:=fun i hi=>by
 obtain ⟨b,o,e,_,_,A,C,h1,h2,h3,h4,h5⟩:=h i hi
 have h1:w.cell? ⟨b,o+(i*1+0),none⟩=some (.slice A (ls[i]).length C):=h1
 rw [show o+(i*1+0)=o+i by omega] at h1
 have er:Tb.row ls i=ls[i]:=by simp [Tb.row,hi]
 refine ⟨b,o,A,C,e,?_,?_,?_⟩
 ·rw [er];exact h1
 ·rw [er];exact h5.lst
 ·rw [er];exact h3
theorem slq_of_own {α:Type} {E:El α} {Q:Nat->Prop} {s:Nat} {w:World} {base:Nat} {t:TypeId} {v:Value} {n:Nat} {xs:List Value} {l:List α} (h:w.ownsRow base t s v n xs) (hn:n=l.length)
 (hQ:∀ q,v.ownBlock=some q->Q q) (hE:∀ i (hi:i<l.length) (c:Nat->Option Value),(∀ j,j<s->c j=xs[i*s+j]?)->E Q w c l[i]) :
 ∃ a cap,v=.slice a n cap/\SlQ Q s E w a l/\n<=cap/\cap<=maxLen/\(a=none->cap=0):=by
 rcases h.2 with ⟨e,h0⟩ | ⟨g,cap,cur,e,hb,hg,h1,h2,h3,h4⟩
 ·subst e
  exact ⟨none,0,by rw [h0],(fun i hi=>by omega),by omega,Nat.zero_le _,fun _=>rfl⟩
 ·subst e
  have hlt:g<w.heap.size:=(Array.getElem?_eq_some_iff.1 hg).1
  refine ⟨some ⟨g,0,none⟩,cap,rfl,fun i hi=>⟨g,0,rfl,hlt,hQ g rfl,hE i hi _ fun j hj=>?_⟩,h1,h2,(fun e=>nomatch e)⟩
  have hlt2:i*s+j<n*s:=by
   have:(i+1)*s<=n*s:=Nat.mul_le_mul_right s (by omega)
   rw [Nat.add_mul,Nat.one_mul] at this
   omega
  rw [Nat.zero_add,cell_of_row w g _ cur t (0,0) hg,<-h4,List.getElem?_take,if_pos hlt2]
  simp
end Go.Proofs.YtnchnlgnnlgjcaaGreat
