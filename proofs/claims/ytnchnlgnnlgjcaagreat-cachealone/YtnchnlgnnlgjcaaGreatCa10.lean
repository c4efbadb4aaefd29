import Derived.Test.YtnchnlgnnlgjcaaGreatCa09
import Derived.Test.YtnchnlgnnlgjcaaGreatCa02
import Derived.WalkKit
import Derived.ProofKit
import Derived.OpenShut
import Derived.Deep.QuietTactic
import Derived.BigQuiet
import Derived.Outline
import Derived.Test.YtnchnlgnnlgjcaaGreatCa03
import Derived.Deep.AppendLies
set_option linter.unusedVariables false
set_option linter.unusedSimpArgs false
namespace Go.Proofs.YtnchnlgnnlgjcaaGreat
open Go.RowKit
theorem off_own {w:World} {g b n k:Nat} {R M:List Int} {a:Option Addr} {c base:Nat} {xs:List Value} (hp:PoolAt w g b n R M) (ho:w.ownsRow base 3 1 (.slice a k c) k xs):Off g b a:=fun x ex=>by
 subst ex
 have t:=ty_own ho (q:=x.block) rfl
 exact ⟨t.ne hp.tys.1 (by decide),t.ne hp.tys.2 (by decide)⟩
theorem zero_slices:∀ w,(zeroValue 70).run Tryz.prog w=.ok (.slice none 0 0) w:=by
 obtain ⟨i,hi,h1,_,_⟩:=info_parts Tryz.infoSlices
 intro w
 simp [zeroValue,typeInfo,hi,h1]
set_option maxRecDepth 100000 in
set_option maxHeartbeats 3200000 in
theorem fork_any (g b n T m:Nat) (R M:List Int) (L:Nat->List Int) (Q:Nat->Prop) (w:World) (hp:PoolAt w g b n R M) (h:Tab w g T m L Q) (hm:m<=16) (hl:Bk.len L m<=1000)
 (hx:∀ x,x ∈ Bk.flat L m->(0<=x/\x<n)/\0<Ls.nth R x.toNat) (hb:∀ k,k<n->Ls.nth R k<=1000) :
 Calls Tryz.prog 83 #[.pointer (some ⟨T,0,none⟩)] w fun e w'=>∃ U,e=.returned (.pointer (some ⟨U,0,none⟩))/\PoolAt w' g b n (Bk.bump R 1 (Bk.flat L m)) M /\
  Tab w' g U m L (fun q=>w.heap.size<=q)/\w.heap.size<=U/\But2 g b w w':=by
 have hmk:=run_make_row' (P:=Tryz.prog) 149 70 (.slice none 0 0) 24 Tryz.underlying149 Tryz.infoSlices rfl .i64 .i64 m (by omega) (by omega)
 obtain ⟨r,c0,c1,hrw⟩:=h.cells
 have HP:Hid (PoolAt w g b n R M):=hp
 have HR:Hid (Rws w (.slice (some ⟨r,0,none⟩) m m) m L Q):=hrw
 have HL:Hid (Bk.len L m<=1000):=hl
 have HX:Hid (∀ x,x ∈ Bk.flat L m->(0<=x/\x<n)/\0<Ls.nth R x.toNat):=hx
 have HB:Hid (∀ k,k<n->Ls.nth R k<=1000):=hb
 have Tlt:T<w.heap.size:=h.lt
 have HC0:Hid (w.cell? ⟨T,0,none⟩=some (.pointer (some ⟨g,0,none⟩))):=c0
 have HTy:Hid (Ty w T 151):=h.ty
 clear hp h hrw hl hx hb
 go_enter Tryz.func83,Tryz.ntmps83
 go_wp2
 go_region
 all_goals go_wp2
 obtain ⟨d,ed⟩:∃ d,w.heap.size=d:=⟨_,rfl⟩
 obtain ⟨u,hu⟩:∃ u,((w.alloc (.cells (madeCells #[.slice none 0 0] m) 70)).alloc (.cells #[.pointer (some ⟨g,0,none⟩),.slice (some ⟨w.heap.size,0,none⟩) m m] 151)).drew=u:=⟨_,rfl⟩
 have UB:Hid (Below w.heap.size w u):=by rw [<-hu];exact (two_boxes _ _ _).drew
 have US:u.heap.size=d+2:=by rw [<-hu,<-ed];simp
 have UT:Hid (u.rowIs (d+1) 151 2 (tbc g d m)):=by
  have:=World.rowIs_alloc (w.alloc (.cells (madeCells #[.slice none 0 0] m) 70)) #[.pointer (some ⟨g,0,none⟩),.slice (some ⟨w.heap.size,0,none⟩) m m] 151 (tbc g w.heap.size m) (by
   intro i hi
   match i,hi with
   | 0,_=>rfl
   | 1,_=>rfl)
  have h2:=this.drew
  show u.rowIs (d+1) 151 2 (tbc g d m)
  rw [<-hu,<-ed]
  simpa using h2
 have UR:Hid (Rws u (.slice (some ⟨d,0,none⟩) m m) m (fun _=>[]) (fun q=>d<=q)):=by
  rw [<-hu,<-ed]
  exact rws_made (((World.rowIs_made w _ m _).alloc _).drew) (Nat.le_refl _)
 rw [hu]
 clear hu hmk
 have ED:Hid (w.heap.size=d):=ed
 rw [ed] at Tlt ⊢
 clear ed
 go_loopw [25] (fun i wr=>∃ k:Nat,k<=m/\i=.int .i64 k/\Hid (Below d w wr)/\Hid (wr.rowIs (d+1) 151 2 (tbc g d m))/\Hid (Rws wr (.slice (some ⟨d,0,none⟩) m m) m (Bk.upto L k) (fun q=>d<=q))) (fun i _=>m - (intOf i).toNat)
 case atStart=>exact ⟨0,Nat.zero_le _,rfl,ED.out ▸ UB.out,UT.out,by rw [Bk.upto_zero];exact UR.out⟩
 case round =>
  obtain ⟨k,hk,rfl,B1,T1,R1⟩:=hrel
  have hsz:=B1.out.size
  have dlt:d+1<wr.heap.size:=T1.out.lt
  by_cases hlt:k<m
  ·have hrk:=HR.out.keep (ED.out ▸ B1.out)
   obtain ⟨d',c',A,C,e,hc,ho,hA,hn⟩:=hrk.cell hlt
   cases e
   obtain ⟨n0,en⟩:∃ n0,(L k).length=n0:=⟨_,rfl⟩
   have EN:Hid ((L k).length=n0):=en
   have hn0:n0<=1000:=by have:=Bk.row_le L hlt;have:=HL.out;omega
   rw [en] at hc
   have HA:Hid (Lst .i64 wr A (L k)):=hA
   have HN:Hid (A=none->C=0):=hn
   have t1:wr.cell? ⟨d+1,1,none⟩=some (.slice (some ⟨d,0,none⟩) m m):=T1.out.cell (show 1<2 by decide)
   have c1':wr.cell? ⟨T,1,none⟩=some (.slice (some ⟨r,0,none⟩) m m):=(B1.out.cell (p:=⟨T,1,none⟩) (by show T<d;omega)).trans c1
   clear hrk hA hn ho en c1
   go_wp2
   obtain ⟨v0,V0⟩:∃ v0,wr.cell? ⟨d,k,none⟩=some v0:=by obtain ⟨_,_,A0,C0,e,v0c,_⟩:=R1.out.cell hlt;cases e;exact ⟨_,v0c⟩
   have V0:Hid (wr.cell? ⟨d,k,none⟩=some v0):=V0
   have F0:Hid (wr.frozen? ⟨d,k,none⟩=false):=R1.out.frozen k
   have T0:Hid (wr.cell? ⟨d+1,1,none⟩=some (.slice (some ⟨d,0,none⟩) m m)):=t1
   go_region_held3 (fun w'=>w'.cell? ⟨d+1,1,none⟩=some (.slice (some ⟨d,0,none⟩) m m))
    (first
      | exact t1
      | exact t2
      | exact (World.cell?_setCell_other _ _ _ _ (by simp)).trans t2)
    (first | (go_at_call 84;(with_reducible refine (cloneR_any A n0 C (L k) _ (HA.out.keep ((Below.refl wr.heap.size wr).drew)) EN.out HN.out (by omega)).mono ?_);rintro e w1 ⟨v,rfl,ho,hb⟩;obtain ⟨va,vc,rfl⟩:=own_slice ho;have O1:Hid (w1.ownsRow wr.heap.size 3 1 (.slice va n0 vc) n0 ((L k).map (Value.int .i64))):=ho;have BB:Hid (Below wr.heap.size wr w1):=((Below.refl wr.heap.size wr).drew).trans hb;have t2:=(BB.out.cell (p:=⟨d+1,1,none⟩) dlt).trans T0.out;have cv:=(BB.out.cell (p:=⟨d,k,none⟩) (show d<wr.heap.size by omega)).trans V0.out;have cf:=(BB.out.frozen (p:=⟨d,k,none⟩) (show d<wr.heap.size by omega)).trans F0.out;clear ho hb))
   all_goals
    go_wp2
    go_roundw
    case rel =>
     have o0:RowAt w1 (.slice va n0 vc) (L k):=by unfold RowAt;rw [EN.out];exact own_mono O1.out (Nat.zero_le _)
     have r2:=Rws.more R1.out hlt V0.out o0 (fun x ex=>.inr (O1.out.lt x ex).1) (fun q hq _=>BB.out.block q hq)
     refine ⟨k+1,by omega,by go_num,(B1.out.trans (BB.out.mono (by omega))).setCell (p:=⟨d,k,none⟩) (Nat.le_refl _) _,?_,?_⟩
     ·refine (T1.out.of_block (BB.out.block _ dlt)).of_block (Below.heap_setCell _ _ _ _ (show d+1 ≠ d by omega))
     ·rw [Bk.upto_succ] at r2
      exact r2.mono fun q _ hq=>by omega
    case measure=>simp [intOf];omega
  ·have ek:k=m:=by omega
   subst ek
   have TU:Hid (Tab wr g (d+1) k L (fun q=>d<=q)):=⟨d,T1.out,R1.out.congr fun j hj=>Bk.upto_at L hj⟩
   obtain ⟨N,eN⟩:∃ N,Bk.len L k=N:=⟨_,rfl⟩
   have EN:Hid (Bk.len L k=N):=eN
   have hN:N<=1000:=by rw [<-eN];exact HL.out
   have hc0:wr.cell? ⟨T,0,none⟩=some (.pointer (some ⟨g,0,none⟩)):=(B1.out.cell (p:=⟨T,0,none⟩) (by show T<d;omega)).trans HC0.out
   have PW:Hid (PoolAt wr g b n R M):=HP.out.keep (ED.out ▸ B1.out)
   clear eN c0 c1
   go_wp2_with (go_at_call 72;refine (slots_any' g (d+1) k N L _ _ TU.out (by omega) EN.out (by omega)).mono ?_;rintro e w1 ⟨a,c,rfl,ho,hA,hb⟩;have O1:Hid (w1.ownsRow wr.heap.size 3 1 (.slice a N c) N ((Bk.flat L k).map (Value.int .i64))):=ho;have A1:Hid (Lst .i64 w1 a (Bk.flat L k)):=hA;have BB:Hid (Below wr.heap.size wr w1):=hb;clear ho hA hb)
   have OFF:Hid (Off g b a):=off_own (PW.out.keep BB.out) O1.out
   have P1:Hid (PoolAt w1 g b n R M):=PW.out.keep BB.out
   have c2:w1.cell? ⟨T,0,none⟩=some (.pointer (some ⟨g,0,none⟩)):=(BB.out.cell (p:=⟨T,0,none⟩) (by show T<wr.heap.size;omega)).trans hc0
   have C2:Hid (w1.cell? ⟨T,0,none⟩=some (.pointer (some ⟨g,0,none⟩))):=c2
   have T1g:Hid (¬ T=g/\¬ T=b/\T<w1.heap.size):=⟨HTy.out.ne HP.out.tys.1 (by decide),HTy.out.ne HP.out.tys.2 (by decide),by have:=BB.out.size;omega⟩
   have LN:Hid ((Bk.flat L k).length=N):=EN.out
   have RN:Hid (R.length=n):=HP.out.nums.2.1
   have BW:Hid (But2 g b w w1):=But2.of_below ((ED.out ▸ B1.out:Below w.heap.size w wr).trans (BB.out.mono (by have:=B1.out.size;omega))) (by have:=HP.out.lt;omega)
   have TU1:Hid (Tab w1 g (d+1) k L (fun q=>d<=q)):=TU.out.keep BB.out
   clear hc0 c2 dlt hsz
   go_loopw [42] (fun i wq=>∃ j:Nat,j<=N/\i=.int .i64 j/\Hid (PoolAt wq g b n (Bk.bump R 1 ((Bk.flat L k).take j)) M)/\Hid (But2 g b w1 wq)) (fun i _=>N - (intOf i).toNat)
   case atStart=>exact ⟨0,Nat.zero_le _,rfl,P1.out,But2.refl _ _ _⟩
   case round =>
    obtain ⟨j,hj,rfl,PQ,BQ⟩:=hrel
    by_cases hlt2:j<N
    ·have hA:=BQ.out.lst A1.out OFF.out
     obtain ⟨b1,o1,e,hg⟩:=hA.get (show j<(Bk.flat L k).length by rw [LN.out];exact hlt2)
     subst e
     have s0:=hg j (by rw [LN.out];exact hlt2)
     have hx:=HX.out _ (Bk.mem_nth (show j<(Bk.flat L k).length by rw [LN.out];exact hlt2))
     obtain ⟨t,et⟩:∃ t:Nat,Ls.nth (Bk.flat L k) j=t:=⟨(Ls.nth (Bk.flat L k) j).toNat,by omega⟩
     have ET:Hid (Ls.nth (Bk.flat L k) j=t):=et
     rw [et] at s0 hx
     have htn:t<n:=by omega
     have hx2:0<Ls.nth R t:=by simpa using hx.2
     have hbr:=HB.out t htn
     have hcnt:=Bk.nth_take (d:=1) (l:=Bk.flat L k) j RN.out (fun x hxm=>(HX.out x hxm).1) htn
     have hol:=Bk.occ_le t ((Bk.flat L k).take j)
     have htl:((Bk.flat L k).take j).length<=N:=by rw [List.length_take,LN.out];omega
     obtain ⟨x,ex⟩:∃ x,Ls.nth (Bk.bump R 1 ((Bk.flat L k).take j)) t=x:=⟨_,rfl⟩
     have EX:Hid (Ls.nth (Bk.bump R 1 ((Bk.flat L k).take j)) t=x):=ex
     rw [ex] at hcnt
     have x0:0<x:=by rw [hcnt];omega
     have x1:x<1000000:=by rw [hcnt];omega
     have c3:wr.cell? ⟨T,0,none⟩=some (.pointer (some ⟨g,0,none⟩)):=by
      rw [World.cell?_of_block (a:=⟨T,0,none⟩) (BQ.out.2 T T1g.out.2.2 T1g.out.1 T1g.out.2.1)];exact C2.out
     clear hA hg hx hbr hcnt hol htl et ex hx2
     go_wp2_with (go_at_call 111;refine (hold_some g b n t x _ M _ PQ.out htn EX.out x0 x1).mono ?_;rintro e w3 ⟨rfl,hp3,hb3⟩;have P3:Hid (PoolAt w3 g b n ((Bk.bump R 1 ((Bk.flat L k).take j)).set t (x+1)) M):=hp3;have B3:Hid (But2 g b wr w3):=hb3;clear hp3 hb3)
     go_roundw
     case rel=>exact ⟨j+1,by omega,by go_num,by rw [Bk.bump_take (by rw [LN.out];exact hlt2) ET.out EX.out];exact P3.out,BQ.out.trans B3.out⟩
     case measure=>simp [intOf];omega
    ·have ej:j=N:=by omega
     subst ej
     go_wp2
     go_ret
     refine ⟨d+1,rfl,?_,?_,by have:=ED.out;omega,BW.out.trans BQ.out⟩
     ·have:=PQ.out
      rw [List.take_of_length_le (by rw [LN.out];exact Nat.le_refl _)] at this
      exact this
     ·exact (P1.out.tab BQ.out TU1.out).mono fun q _ hq=>by have:=ED.out;omega
set_option maxRecDepth 100000 in
set_option maxHeartbeats 3200000 in
theorem clear_any (g b n T m:Nat) (R M:List Int) (L:Nat->List Int) (Q:Nat->Prop) (w:World) (hp:PoolAt w g b n R M) (h:Tab w g T m L Q) (hm:m<=16) (hl:Bk.len L m<=1000)
 (hx:∀ x,x ∈ Bk.flat L m->0<=x/\x<n) (ho:∀ k:Nat,k<n->(Bk.occ k (Bk.flat L m):Int)<=Ls.nth R k) (hb:∀ k,k<n->Ls.nth R k<=1000) :
 Calls Tryz.prog 70 #[.pointer (some ⟨T,0,none⟩)] w fun e w'=>e=.returned (.tuple #[])/\PoolAt w' g b n (Bk.bump R (-1) (Bk.flat L m)) M /\
  Tab w' g T m (fun _=>[]) Q/\ButQ g b Q w w':=by
 obtain ⟨r,c0,c1,hrw⟩:=h.cells
 have HP:Hid (PoolAt w g b n R M):=hp
 have H:Hid (Tab w g T m L Q):=h
 have HX:Hid (∀ x,x ∈ Bk.flat L m->0<=x/\x<n):=hx
 have HB:Hid (∀ k,k<n->Ls.nth R k<=1000):=hb
 have HOC:Hid (∀ k:Nat,k<n->(Bk.occ k (Bk.flat L m):Int)<=Ls.nth R k):=ho
 have Tlt:T<w.heap.size:=h.lt
 have HC0:Hid (w.cell? ⟨T,0,none⟩=some (.pointer (some ⟨g,0,none⟩))):=c0
 have HTn:Hid (¬ T=g/\¬ T=b):=⟨h.ty.ne hp.tys.1 (by decide),h.ty.ne hp.tys.2 (by decide)⟩
 obtain ⟨N,eN⟩:∃ N,Bk.len L m=N:=⟨_,rfl⟩
 have EN:Hid (Bk.len L m=N):=eN
 have hN:N<=1000:=by rw [<-eN];exact hl
 clear hp h hrw hl hx ho hb eN c0 c1
 go_enter Tryz.func70,Tryz.ntmps70
 go_wp2_with (go_at_call 72;refine (slots_any' g T m N L _ _ H.out (by omega) EN.out (by omega)).mono ?_;rintro e w1 ⟨a,c,rfl,ho,hA,hb⟩;have O1:Hid (w1.ownsRow w.heap.size 3 1 (.slice a N c) N ((Bk.flat L m).map (Value.int .i64))):=ho;have A1:Hid (Lst .i64 w1 a (Bk.flat L m)):=hA;have BB:Hid (Below w.heap.size w w1):=hb;clear ho hA hb)
 have P1:Hid (PoolAt w1 g b n R M):=HP.out.keep BB.out
 have OFF:Hid (Off g b a):=off_own P1.out O1.out
 have T1:Hid (Tab w1 g T m L Q):=H.out.keep BB.out
 have C2:Hid (w1.cell? ⟨T,0,none⟩=some (.pointer (some ⟨g,0,none⟩))):=(BB.out.cell (p:=⟨T,0,none⟩) Tlt).trans HC0.out
 have Tl1:Hid (T<w1.heap.size):=by have:=BB.out.size;show T<w1.heap.size;omega
 have LN:Hid ((Bk.flat L m).length=N):=EN.out
 have RN:Hid (R.length=n):=HP.out.nums.2.1
 clear Tlt
 go_loopw [7] (fun i wq=>∃ j:Nat,j<=N/\i=.int .i64 j/\Hid (PoolAt wq g b n (Bk.bump R (-1) ((Bk.flat L m).take j)) M)/\Hid (But2 g b w1 wq)) (fun i _=>N - (intOf i).toNat)
 case atStart=>exact ⟨0,Nat.zero_le _,rfl,P1.out,But2.refl _ _ _⟩
 case round =>
  obtain ⟨j,hj,rfl,PQ,BQ⟩:=hrel
  by_cases hlt2:j<N
  ·have hA:=BQ.out.lst A1.out OFF.out
   obtain ⟨b1,o1,e,hg⟩:=hA.get (show j<(Bk.flat L m).length by rw [LN.out];exact hlt2)
   subst e
   have s0:=hg j (by rw [LN.out];exact hlt2)
   have hx:=HX.out _ (Bk.mem_nth (show j<(Bk.flat L m).length by rw [LN.out];exact hlt2))
   obtain ⟨t,et⟩:∃ t:Nat,Ls.nth (Bk.flat L m) j=t:=⟨(Ls.nth (Bk.flat L m) j).toNat,by omega⟩
   have ET:Hid (Ls.nth (Bk.flat L m) j=t):=et
   have hot:=Bk.occ_take (show j<(Bk.flat L m).length by rw [LN.out];exact hlt2)
   rw [et] at s0 hx hot
   have htn:t<n:=by omega
   have hbr:=HB.out t htn
   have hoc:=HOC.out t htn
   have hcnt:=Bk.nth_take (d:=-1) (l:=Bk.flat L m) j RN.out HX.out htn
   obtain ⟨x,ex⟩:∃ x,Ls.nth (Bk.bump R (-1) ((Bk.flat L m).take j)) t=x:=⟨_,rfl⟩
   have EX:Hid (Ls.nth (Bk.bump R (-1) ((Bk.flat L m).take j)) t=x):=ex
   rw [ex] at hcnt
   have x0:0<x:=by rw [hcnt];omega
   have x1:x<1000000:=by rw [hcnt];omega
   have c3:wr.cell? ⟨T,0,none⟩=some (.pointer (some ⟨g,0,none⟩)):=by
    rw [World.cell?_of_block (a:=⟨T,0,none⟩) (BQ.out.2 T Tl1.out HTn.out.1 HTn.out.2)];exact C2.out
   clear hA hg hx hbr hcnt hot hoc et ex
   by_cases xo:x=1
   ·have XO:Hid (x=1):=xo
    clear xo x0 x1
    go_wp2_with (go_at_call 105;refine (drop_last g b n t _ M _ PQ.out htn (EX.out.trans XO.out)).mono ?_;rintro e w3 ⟨rfl,hp3,hb3⟩;have P3:Hid (PoolAt w3 g b n ((Bk.bump R (-1) ((Bk.flat L m).take j)).set t 0) M):=hp3;have B3:Hid (But2 g b wr w3):=hb3;clear hp3 hb3)
    go_roundw
    case rel =>
     refine ⟨j+1,by omega,by go_num,?_,BQ.out.trans B3.out⟩
     rw [Bk.bump_take (by rw [LN.out];exact hlt2) ET.out EX.out,XO.out]
     exact P3.out
    case measure=>simp [intOf];omega
   ·have xm:1<x:=by omega
    clear xo x0
    go_wp2_with (go_at_call 105;refine (drop_more g b n t x _ M _ PQ.out htn EX.out xm x1).mono ?_;rintro e w3 ⟨rfl,hp3,hb3⟩;have P3:Hid (PoolAt w3 g b n ((Bk.bump R (-1) ((Bk.flat L m).take j)).set t (x - 1)) M):=hp3;have B3:Hid (But2 g b wr w3):=hb3;clear hp3 hb3)
    go_roundw
    case rel =>
     refine ⟨j+1,by omega,by go_num,?_,BQ.out.trans B3.out⟩
     rw [Bk.bump_take (by rw [LN.out];exact hlt2) ET.out EX.out,show x+-1=x - 1 by omega]
     exact P3.out
    case measure=>simp [intOf];omega
  ·have ej:j=N:=by omega
   subst ej
   have PF:Hid (PoolAt wr g b n (Bk.bump R (-1) (Bk.flat L m)) M):=by
    have:=PQ.out
    rw [List.take_of_length_le (by rw [LN.out];exact Nat.le_refl _)] at this
    exact this
   have TF:Hid (Tab wr g T m L Q):=P1.out.tab BQ.out T1.out
   obtain ⟨r,c0,c1,hrw⟩:=TF.out.cells
   have HT:Hid (wr.rowIs T 151 2 (tbc g r m)):=by
    obtain ⟨r',h1,_⟩:=TF.out
    have:=h1.cell (show 1<2 by decide)
    rw [c1] at this
    cases this
    exact h1
   have HW:Hid (Rws wr (.slice (some ⟨r,0,none⟩) m m) m L Q):=hrw
   obtain ⟨hQr,tr,_,F,hr⟩:=hrw.head
   have BW:Hid (ButQ g b Q w wr):=(ButQ.of_below BB.out).trans (ButQ.of_but2 BQ.out)
   have TRn:Hid (¬ T=r/\Ty wr r 70/\Q r):=⟨(ty_row HT.out).ne tr (by decide),tr,hQr⟩
   by_cases hm0:m=0
   ·subst hm0
    have hclr:∀ ty,(Builtin.clear_ #[149] ty #[.slice (some ⟨r,0,none⟩) 0 0]).run Tryz.prog wr=.ok (.tuple #[]) wr:=fun ty=>by simp [Builtin.clear_,run_underlying Tryz.underlying149]
    clear hrw hQr tr hr c0
    go_wp2
    go_end0
    exact ⟨rfl,PF.out,⟨r,HT.out,HW.out.congr fun j hj=>by omega⟩,BW.out⟩
   ·have hclr:∀ ty,(Builtin.clear_ #[149] ty #[.slice (some ⟨r,0,none⟩) m m]).run Tryz.prog wr=.ok (.tuple #[]) (wr.setCells r 0 (List.replicate m (.slice none 0 0))):=fun ty =>
     Lib.run_clear_slice wr 149 70 ty (.slice none 0 0) Tryz.underlying149 (zero_slices) rfl rfl r 0 m m (by omega) (fun j hj=>by rw [Nat.zero_add,hr.cell hj];rfl) (fun j hj=>hr.frozen _)
    clear hrw hQr tr hr c0
    go_wp2
    go_end0
    refine ⟨rfl,?_,⟨r,?_,HW.out.cleared⟩,BW.out.cells TRn.out.2.2 _ _⟩
    ·refine PF.out.stand fun j hj=>?_
     refine block_cells ?_ _ _ _
     rcases hj with q | q | q <;> exact q.ne TRn.out.2.1 (by decide)
    ·exact HT.out.of_block (block_cells TRn.out.1 _ _ _)
end Go.Proofs.YtnchnlgnnlgjcaaGreat
namespace Go.Proofs.YtnchnlgnnlgjcaaGreat
open Go.RowKit
abbrev El (α:Type):=(Nat->Prop)->World->(Nat->Option Value)->α->Prop
def SlQ {α:Type} (Q:Nat->Prop) (s:Nat) (E:El α) (w:World) (a:Option Addr) (l:List α):Prop :=
 ∀ i (h:i<l.length),∃ b o,a=some ⟨b,o,none⟩/\b<w.heap.size/\Q b/\E Q w (fun j=>w.cell? ⟨b,o+(i*s+j),none⟩) l[i]
def Carries {α:Type} (s:Nat) (E:El α):Prop :=
 ∀ (Q Q':Nat->Prop) (w w':World) (c c':Nat->Option Value) (x:α),(∀ q,q<w.heap.size->Q q->Q' q/\w'.heap[q]?=w.heap[q]?)->w.heap.size<=w'.heap.size->(∀ j,j<s->∀ v,c j=some v->c' j=some v)->E Q w c x->E Q' w' c' x
theorem SlQ.carry {α:Type} {E:El α} {s:Nat} (hE:Carries s E) {Q Q':Nat->Prop} {w w':World} {a:Option Addr} {l:List α} (h:SlQ Q s E w a l)
 (hk:∀ q,q<w.heap.size->Q q->Q' q/\w'.heap[q]?=w.heap[q]?) (hs:w.heap.size<=w'.heap.size):SlQ Q' s E w' a l:=fun i hi=>by
 obtain ⟨b,o,e,hb,hq,he⟩:=h i hi
 obtain ⟨h1,h2⟩:=hk b hb hq
 exact ⟨b,o,e,by omega,h1,hE Q Q' w w' _ _ _ hk hs (fun j _ v hv=>by rw [World.cell?_of_block h2];exact hv) he⟩
theorem SlQ.keep {α:Type} {E:El α} {s:Nat} (hE:Carries s E) {Q:Nat->Prop} {w w':World} {a:Option Addr} {l:List α} (h:SlQ Q s E w a l) (hb:Below w.heap.size w w'):SlQ Q s E w' a l :=
 h.carry hE (fun q h1 h2=>⟨h2,hb.block q h1⟩) hb.size
theorem SlQ.nil {α:Type} (Q:Nat->Prop) (s:Nat) (E:El α) (w:World) (a:Option Addr):SlQ Q s E w a []:=fun i hi=>by simp at hi
theorem SlQ.take {α:Type} {E:El α} {Q:Nat->Prop} {s:Nat} {w:World} {a:Option Addr} {l:List α} (h:SlQ Q s E w a l) (n:Nat):SlQ Q s E w a (l.take n):=fun i hi=>by
 have h1:i<l.length:=by rw [List.length_take] at hi;omega
 rw [List.getElem_take]
 exact h i h1
theorem SlQ.get {α:Type} {E:El α} {Q:Nat->Prop} {s:Nat} {w:World} {a:Option Addr} {l:List α} (h:SlQ Q s E w a l) {i:Nat} (hi:i<l.length) :
 ∃ b o,a=some ⟨b,o,none⟩/\b<w.heap.size/\Q b/\∀ j (hj:j<l.length),E Q w (fun k=>w.cell? ⟨b,o+(j*s+k),none⟩) l[j]:=by
 obtain ⟨b,o,rfl,h1,h2,_⟩:=h i hi
 refine ⟨b,o,rfl,h1,h2,fun j hj=>?_⟩
 obtain ⟨b',o',e,_,_,he⟩:=h j hj
 simp at e
 obtain ⟨rfl,rfl⟩:=e
 exact he
def eNum (k:IntKind):El Int:=fun Q w c x=>c 0=some (.int k x)
def eSl {α:Type} (s:Nat) (E:El α):El (List α):=fun Q w c l=>∃ A C,c 0=some (.slice A l.length C)/\l.length<=C/\l.length<=maxLen/\(A=none->C=0)/\SlQ Q s E w A l
abbrev eRow:El (List Int):=eSl 1 (eNum .i32)
abbrev eTbl:El (List (List Int)):=eSl 1 eRow
abbrev Tok:=List (List Int) × List (List Int)
def eTok:El Tok:=fun Q w c x=>eTbl Q w c x.1/\eTbl Q w (fun j=>c (j+1)) x.2
abbrev eToks:El (List Tok):=eSl 2 eTok
theorem carry_num (k:IntKind):Carries 1 (eNum k):=fun Q Q' w w' c c' x _ _ hc h=>hc 0 (by decide) _ h
theorem carry_sl {α:Type} {s:Nat} {E:El α} (hE:Carries s E):Carries 1 (eSl s E):=fun Q Q' w w' c c' l hk hs hc ⟨A,C,h1,h2,h3,h4,h5⟩=>⟨A,C,hc 0 (by decide) _ h1,h2,h3,h4,h5.carry hE hk hs⟩
theorem carry_row:Carries 1 eRow:=carry_sl (carry_num _)
theorem carry_tbl:Carries 1 eTbl:=carry_sl carry_row
theorem carry_tok:Carries 2 eTok:=fun Q Q' w w' c c' x hk hs hc ⟨h1,h2⟩=>⟨carry_tbl Q Q' w w' _ _ _ hk hs (fun j hj v h=>hc j (by omega) v h) h1,carry_tbl Q Q' w w' _ _ _ hk hs (fun j hj v h=>hc (j+1) (by omega) v h) h2⟩
theorem carry_toks:Carries 1 eToks:=carry_sl carry_tok
def Full {α:Type} (s:Nat) (E:El α):Prop:=∀ (Q:Nat->Prop) (w:World) (c:Nat->Option Value) (x:α),E Q w c x->∀ j,j<s->∃ v,c j=some v/\v.oneCell'=true
theorem full_sl {α:Type} (s:Nat) (E:El α):Full 1 (eSl s E):=fun Q w c x ⟨A,C,h,_⟩ j hj=>by
 obtain rfl:j=0:=by omega
 exact ⟨_,h,rfl⟩
theorem full_tok:Full 2 eTok:=fun Q w c x ⟨⟨A,C,h,_⟩,A2,C2,h2,_⟩ j hj=>by
 rcases Nat.lt_or_ge j 1 with q | q
 ·obtain rfl:j=0:=by omega
  exact ⟨_,h,rfl⟩
 ·obtain rfl:j=0+1:=by omega
  exact ⟨_,h2,rfl⟩
theorem SlQ.lst {k:IntKind} {Q:Nat->Prop} {w:World} {a:Option Addr} {l:List Int} (h:SlQ Q 1 (eNum k) w a l):Lst k w a l:=fun i hi=>by
 obtain ⟨b,o,e,_,_,he⟩:=h i hi
 have he:w.cell? ⟨b,o+(i*1+0),none⟩=some (.int k l[i]):=he
 rw [show o+(i*1+0)=o+i by omega] at he
 refine ⟨b,o,e,?_⟩
 rw [he]
 simp [Ls.nth,hi]
theorem SlQ.tbl {Q:Nat->Prop} {w:World} {a:Option Addr} {ls:List (List Int)} (h:SlQ Q 1 eRow w a ls):Tbl w a ls:=fun i hi=>by
 obtain ⟨b,o,e,_,_,A,C,h1,h2,h3,h4,h5⟩:=h i hi
 have h1:w.cell? ⟨b,o+(i*1+0),none⟩=some (.slice A (ls[i]).length C):=h1
 rw [show o+(i*1+0)=o+i by omega] at h1
 have er:Tb.row ls i=ls[i]:=by simp [Tb.row,hi]
 refine ⟨b,o,A,C,e,?_,?_,?_⟩
 ·rw [er];exact h1
 ·rw [er];exact h5.lst
 ·rw [er];exact h3
theorem slq_of_own {α:Type} {E:El α} {Q:Nat->Prop} {s:Nat} {w:World} {base:Nat} {t:TypeId} {v:Value} {n:Nat} {xs:List Value} {l:List α} (h:w.ownsRow base t s v n xs) (hn:n=l.length)
 (hQ:∀ q,v.ownBlock=some q->Q q) (hE:∀ i (hi:i<l.length) (c:Nat->Option Value),(∀ j,j<s->c j=xs[i*s+j]?)->E Q w c l[i]) :
 ∃ a cap,v=.slice a n cap/\SlQ Q s E w a l/\n<=cap/\cap<=maxLen/\(a=none->cap=0):=by
 rcases h.2 with ⟨e,h0⟩ | ⟨g,cap,cur,e,hb,hg,h1,h2,h3,h4⟩
 ·subst e
  exact ⟨none,0,by rw [h0],(fun i hi=>by omega),by omega,Nat.zero_le _,fun _=>rfl⟩
 ·subst e
  have hlt:g<w.heap.size:=(Array.getElem?_eq_some_iff.1 hg).1
  refine ⟨some ⟨g,0,none⟩,cap,rfl,fun i hi=>⟨g,0,rfl,hlt,hQ g rfl,hE i hi _ fun j hj=>?_⟩,h1,h2,(fun e=>nomatch e)⟩
  have hlt2:i*s+j<n*s:=by
   have:(i+1)*s<=n*s:=Nat.mul_le_mul_right s (by omega)
   rw [Nat.add_mul,Nat.one_mul] at this
   omega
  rw [Nat.zero_add,cell_of_row w g _ cur t (0,0) hg,<-h4,List.getElem?_take,if_pos hlt2]
  simp
end Go.Proofs.YtnchnlgnnlgjcaaGreat
namespace Go.Proofs.YtnchnlgnnlgjcaaGreat
open Go.RowKit
namespace Ca
def nt {α:Type} (l:List (List α)) (i:Nat):List α:=l.getD i []
theorem nt_at {α:Type} {l:List (List α)} {i:Nat} (h:i<l.length):nt l i=l[i]:=by simp [nt,h]
def low {α:Type} (M:List (List α)):Nat->Nat
 | 0=>(nt M 0).length
 | k+1=>min (low M k) (nt M k).length
def toks {α:Type} (M:List (List α)):Nat:=low M M.length
def nxt {α:Type} (M:List (List α)):Nat:=((List.range M.length).find? fun i=>decide ((nt M i).length=toks M)).getD 0
theorem low_le {α:Type} (M:List (List α)) (k:Nat):low M k<=(nt M 0).length/\∀ j,j<k->low M k<=(nt M j).length:=by
 induction k with
 | zero=>exact ⟨Nat.le_refl _,fun j h=>by omega⟩
 | succ k ih =>
   refine ⟨by unfold low;omega,fun j hj=>?_⟩
   unfold low
   rcases Nat.lt_or_ge j k with h | h
   ·have:=ih.2 j h;omega
   ·rw [show j=k by omega];omega
theorem low_is {α:Type} (M:List (List α)) (k:Nat):low M k=(nt M 0).length\/∃ j,j<k/\low M k=(nt M j).length:=by
 induction k with
 | zero=>exact .inl rfl
 | succ k ih =>
   unfold low
   rcases Nat.le_total (low M k) (nt M k).length with h | h
   ·rw [Nat.min_eq_left h]
    rcases ih with e | ⟨j,hj,e⟩
    ·exact .inl e
    ·exact .inr ⟨j,by omega,e⟩
   ·rw [Nat.min_eq_right h];exact .inr ⟨k,by omega,rfl⟩
theorem toks_le {α:Type} {M:List (List α)} {j:Nat} (h:j<M.length):toks M<=(nt M j).length:=(low_le M M.length).2 j h
theorem toks_is {α:Type} {M:List (List α)} (h:0<M.length):∃ j,j<M.length/\toks M=(nt M j).length:=by
 rcases low_is M M.length with e | h2
 ·exact ⟨0,h,e⟩
 ·exact h2
theorem nxt_of {α:Type} {M:List (List α)} {k:Nat} (hk:k<M.length) (h:∀ j,j<k->¬ (nt M j).length=toks M) (e:(nt M k).length=toks M):nxt M=k:=by
 unfold nxt
 have:(List.range M.length).find? (fun i=>decide ((nt M i).length=toks M))=some k:=by
  rw [List.find?_range_eq_some]
  refine ⟨by simp [e],by simp [hk],fun j hj=>by simp [h j hj]⟩
 rw [this];rfl
theorem nxt_ok {α:Type} {M:List (List α)} (h:0<M.length):nxt M<M.length/\(nt M (nxt M)).length=toks M/\∀ j,j<nxt M->toks M<(nt M j).length:=by
 have hex:∃ k,k<M.length/\(nt M k).length=toks M:=by
  obtain ⟨j,h1,h2⟩:=toks_is h
  exact ⟨j,h1,h2.symm⟩
 obtain ⟨k,⟨h1,h2⟩,hm⟩:∃ k,(k<M.length/\(nt M k).length=toks M)/\∀ j,j<k->¬ (j<M.length/\(nt M j).length=toks M):=by
  obtain ⟨k,hk⟩:=hex
  induction k using Nat.strongRecOn with
  | _ k ih =>
    by_cases hn:∃ j,j<k/\(j<M.length/\(nt M j).length=toks M)
    ·obtain ⟨j,hj,hj2⟩:=hn
     exact ih j hj hj2
    ·exact ⟨k,hk,fun j hj hj2=>hn ⟨j,hj,hj2⟩⟩
 have e:=nxt_of h1 (fun j hj e=>hm j hj ⟨by omega,e⟩) h2
 rw [e]
 refine ⟨h1,h2,fun j hj=>?_⟩
 have:=toks_le (M:=M) (show j<M.length by omega)
 have:=hm j hj
 omega
end Ca
theorem SlQ.cells {α:Type} {s:Nat} {E:El α} {Q:Nat->Prop} {w:World} {a:Option Addr} {l:List (List α)} (h:SlQ Q 1 (eSl s E) w a l) (h0:0<l.length) :
 ∃ b o,a=some ⟨b,o,none⟩/\Q b/\b<w.heap.size/\∀ j,j<l.length->∃ A C,w.cell? ⟨b,o+j,none⟩=some (.slice A (Ca.nt l j).length C)/\(Ca.nt l j).length<=C/\(Ca.nt l j).length<=maxLen/\(A=none->C=0)/\SlQ Q s E w A (Ca.nt l j):=by
 obtain ⟨b,o,e,hb,hq,he⟩:=h.get h0
 refine ⟨b,o,e,hq,hb,fun j hj=>?_⟩
 obtain ⟨A,C,h1,h2,h3,h4,h5⟩:=he j hj
 have h1:w.cell? ⟨b,o+(j*1+0),none⟩=some (.slice A (l[j]).length C):=h1
 rw [show o+(j*1+0)=o+j by omega] at h1
 rw [Ca.nt_at hj]
 exact ⟨A,C,h1,h2,h3,h4,h5⟩
theorem tokens_any {α:Type} {s:Nat} {E:El α} {Q:Nat->Prop} (a:Option Addr) (c:Nat) (M:List (List α)) (w:World) (h:SlQ Q 1 (eSl s E) w a M) (h0:0<M.length) (h1:M.length<=10) :
 Calls Tryz.prog 19 #[.slice a M.length c] w fun e w'=>e=.returned (.int .i64 (Ca.toks M:Int))/\w'=w:=by
 obtain ⟨b,o,rfl,_,_,hc⟩:=h.cells h0
 have HC:Hid (∀ j,j<M.length->∃ A C,w.cell? ⟨b,o+j,none⟩=some (.slice A (Ca.nt M j).length C)/\(Ca.nt M j).length<=C/\(Ca.nt M j).length<=maxLen/\(A=none->C=0)/\SlQ Q s E w A (Ca.nt M j)):=hc
 obtain ⟨A0,C0,hc0,-,hm0,-,-⟩:=hc 0 h0
 rw [Nat.add_zero] at hc0
 unfold maxLen at hm0
 clear hc h
 go_enter Tryz.func19,Tryz.ntmps19
 go_wp2
 go_loop [3,12] (fun n i=>∃ k:Nat,k<=M.length/\i=.int .i64 k/\n=.int .i64 (Ca.low M k:Int)) (fun _ i=>M.length - (intOf i).toNat)
 case atStart=>exact ⟨0,Nat.zero_le _,rfl,rfl⟩
 case round =>
  obtain ⟨k,hk,rfl,rfl⟩:=hrel
  have hlo:=(Ca.low_le M k).1
  by_cases hlt:k<M.length
  ·obtain ⟨A,C,hck,-,hmk,-,-⟩:=HC.out k hlt
   unfold maxLen at hmk
   go_wp2
   go_round
   case rel =>
    refine ⟨k+1,by omega,by go_num,?_⟩
    show _=Value.int .i64 ((min (Ca.low M k) (Ca.nt M k).length:Nat):Int)
    congr 1
    omega
   case measure=>simp [intOf];omega
  ·have ek:k=M.length:=by omega
   subst ek
   go_wp2
   go_ret
   exact ⟨rfl,rfl⟩
theorem next_any {α:Type} {s:Nat} {E:El α} {Q:Nat->Prop} (a:Option Addr) (c:Nat) (M:List (List α)) (w:World) (h:SlQ Q 1 (eSl s E) w a M) (h0:0<M.length) (h1:M.length<=10) :
 Calls Tryz.prog 40 #[.slice a M.length c] w fun e w'=>e=.returned (.int .i64 (Ca.nxt M:Int))/\w'=w:=by
 have HM:Hid (SlQ Q 1 (eSl s E) w a M):=h
 obtain ⟨b,o,rfl,_,_,hc⟩:=h.cells h0
 have HC:Hid (∀ j,j<M.length->∃ A C,w.cell? ⟨b,o+j,none⟩=some (.slice A (Ca.nt M j).length C)/\(Ca.nt M j).length<=C/\(Ca.nt M j).length<=maxLen/\(A=none->C=0)/\SlQ Q s E w A (Ca.nt M j)):=hc
 have HN:Hid (Ca.nxt M<M.length/\(Ca.nt M (Ca.nxt M)).length=Ca.toks M/\∀ j,j<Ca.nxt M->Ca.toks M<(Ca.nt M j).length):=Ca.nxt_ok h0
 clear hc h
 go_enter Tryz.func40,Tryz.ntmps40
 go_wp2
 go_loop [7] (fun i=>∃ k:Nat,k<=Ca.nxt M/\i=.int .i64 k) (fun i=>M.length - (intOf i).toNat)
 case atStart=>exact ⟨0,Nat.zero_le _,rfl⟩
 case round =>
  obtain ⟨k,hk,rfl⟩:=hrel
  have hlt:k<M.length:=Nat.lt_of_le_of_lt hk HN.out.1
  obtain ⟨A,C,hck,-,hmk,-,-⟩:=HC.out k hlt
  unfold maxLen at hmk
  obtain ⟨t,ht⟩:∃ t,t=Ca.toks M:=⟨_,rfl⟩
  have HT:Hid (t=Ca.toks M):=ht
  by_cases hx:(Ca.nt M k).length=t
  ·have EX:Hid (Ca.nxt M=k):=by
    rcases Nat.lt_or_ge k (Ca.nxt M) with q | q
    ·have:=HN.out.2.2 k q;have h2:t=Ca.toks M:=ht;omega
    ·show Ca.nxt M=k;omega
   have hx':((((Ca.nt M k).length:Nat):Int) == (t:Int))=true:=by simp [hx]
   have HX:=hx'
   clear ht hx hx'
   go_wp2_with (go_at_call 19;refine (tokens_any _ c M _ HM.out h0 h1).mono ?_;rintro e w' ⟨rfl,rfl⟩;rw [<-HT.out])
   go_ret
   exact ⟨ret_num (by rw [EX.out]),rfl⟩
  ·have EX:Hid (k<Ca.nxt M):=by
    rcases Nat.lt_or_ge k (Ca.nxt M) with q | q
    ·exact q
    ·have e:k=Ca.nxt M:=by omega
     exact absurd (by rw [e,HN.out.2.1];exact ht.symm) hx
   have hx':((((Ca.nt M k).length:Nat):Int) == (t:Int))=false:=by simp;omega
   clear ht hx
   go_wp2_with (go_at_call 19;refine (tokens_any _ c M _ HM.out h0 h1).mono ?_;rintro e w' ⟨rfl,rfl⟩;rw [<-HT.out])
   go_round
   case rel=>exact ⟨k+1,by have:=EX.out;omega,by go_num⟩
   case measure=>simp [intOf];omega
end Go.Proofs.YtnchnlgnnlgjcaaGreat
namespace Go.Proofs.YtnchnlgnnlgjcaaGreat
open Go.RowKit
theorem sameT_any (a b:Option Addr) (c d:Nat) (ls:List (List Int)) (w:World) (ha:Tbl w a ls) (hb:Tbl w b ls) (hl:ls.length<=100000) (hr:∀ k,k<ls.length->(Tb.row ls k).length<=1000000) :
 Calls Tryz.prog 23 #[.slice a ls.length c,.slice b ls.length d] w fun e w'=>e=.returned (.bool true)/\Below w.heap.size w w':=by
 have HA:Hid (Tbl w a ls):=ha
 have HB:Hid (Tbl w b ls):=hb
 have HR:Hid (∀ k,k<ls.length->(Tb.row ls k).length<=1000000):=hr
 clear ha hb hr
 go_enter Tryz.func23,Tryz.ntmps23
 go_wp2
 go_loopw [13] (fun i wr=>∃ k:Nat,k<=ls.length/\i=.int .i64 k/\Hid (Below w.heap.size w wr)) (fun i _=>ls.length - (intOf i).toNat)
 case atStart=>exact ⟨0,Nat.zero_le _,rfl,Below.refl _ _⟩
 case round =>
  obtain ⟨k,hk,rfl,BL⟩:=hrel
  by_cases hlt:k<ls.length
  ·obtain ⟨b1,o1,rfl,hc1⟩:=(HA.out.keep BL.out).get hlt
   obtain ⟨b2,o2,rfl,hc2⟩:=(HB.out.keep BL.out).get hlt
   obtain ⟨A1,C1,hck1,L1,-⟩:=hc1 k hlt
   obtain ⟨A2,C2,hck2,L2,-⟩:=hc2 k hlt
   have hrk:=HR.out k hlt
   have CS:Hid (∀ q,Calls Tryz.prog 66 #[.slice A1 (Tb.row ls k).length C1,.slice A2 (Tb.row ls k).length C2] (wr.drewN q) fun e w''=>e=.returned (.bool true)/\∃ m,w''=wr.drewN m) :=
    fun q=>Calls.quiet_of (same_any A1 A2 C1 C2 (Tb.row ls k) (Tb.row ls k) _ (L1.draws q) (L2.draws q) hrk rfl)
   clear hc1 hc2 L1 L2 hrk
   go_wp2
   go_quiet ((with_reducible exact CS.out _))
   go_wp2
   go_roundw
   case rel=>exact ⟨k+1,by omega,by go_num,below_drewN BL.out nq⟩
   case measure=>simp [intOf];omega
  ·have ek:k=ls.length:=by omega
   subst ek
   go_wp2
   go_ret
   exact ⟨rfl,BL.out⟩
def Ca.fit (H D:Nat) (ls:List (List Int)):Bool:=decide (ls.length=H) && ls.all fun l=>decide (l.length=D)
theorem Ca.fit_iff {H D:Nat} {ls:List (List Int)}:Ca.fit H D ls=true ↔ ls.length=H/\∀ k,k<ls.length->(Tb.row ls k).length=D:=by
 unfold Ca.fit
 simp only [Bool.and_eq_true,decide_eq_true_eq,List.all_eq_true]
 refine and_congr_right fun _=>⟨fun h k hk=>?_,fun h x hx=>?_⟩
 ·have e:Tb.row ls k=ls[k]:=by simp [Tb.row,hk]
  rw [e];exact h _ (List.getElem_mem hk)
 ·obtain ⟨k,hk,rfl⟩:=List.getElem_of_mem hx
  have e:Tb.row ls k=ls[k]:=by simp [Tb.row,hk]
  rw [<-e];exact h k hk
theorem shapedP_any (P:Nat) (H D:Nat) (a:Option Addr) (c:Nat) (ls:List (List Int)) (w:World) (c1:w.cell? ⟨P,1,none⟩=some (.int .i64 (H:Int))) (c2:w.cell? ⟨P,2,none⟩=some (.int .i64 (D:Int)))
 (ha:Tbl w a ls) (hl:ls.length<=100000) (hH:H<=4) (hD:D<=16) :
 Calls Tryz.prog 32 #[.pointer (some ⟨P,0,none⟩),.slice a ls.length c] w fun e w'=>e=.returned (.bool (Ca.fit H D ls))/\w'=w:=by
 have HA:Hid (Tbl w a ls):=ha
 clear ha
 go_enter Tryz.func32,Tryz.ntmps32
 go_wp2
 go_loop [9] (fun i=>∃ k:Nat,k<=ls.length/\i=.int .i64 k/\Hid (∀ j,j<k->(Tb.row ls j).length=D)) (fun i=>ls.length - (intOf i).toNat)
 case atStart=>exact ⟨0,Nat.zero_le _,rfl,fun j h=>by omega⟩
 case round =>
  obtain ⟨k,hk,rfl,HJ⟩:=hrel
  by_cases hlt:k<ls.length
  ·obtain ⟨b1,o1,rfl,hc1⟩:=HA.out.get hlt
   obtain ⟨A1,C1,hck1,-,hm⟩:=hc1 k hlt
   unfold maxLen at hm
   clear hc1
   by_cases hx:(Tb.row ls k).length=D
   ·have HX:Hid ((Tb.row ls k).length=D):=hx
    have hb:(((((Tb.row ls k).length:Nat):Int)) == (D:Int))=true:=by simp [hx]
    clear hx
    go_wp2
    go_round
    case rel=>exact ⟨k+1,by omega,by go_num,fun j hj=>by rcases Nat.lt_or_ge j k with q | q;exact HJ.out j q;rw [show j=k by omega];exact HX.out⟩
    case measure=>simp [intOf];omega
   ·have HX:Hid (¬ (Tb.row ls k).length=D):=hx
    have hb:(((((Tb.row ls k).length:Nat):Int)) == (D:Int))=false:=by simp;omega
    clear hx
    go_wp2
    go_ret
    refine ⟨ret_bool ?_,rfl⟩
    symm
    rw [Bool.eq_false_iff]
    intro e
    exact HX.out ((Ca.fit_iff.1 e).2 k hlt)
  ·have ek:k=ls.length:=by omega
   subst ek
   by_cases hx:ls.length=H
   ·have hb:((((ls.length:Nat):Int)) == (H:Int))=true:=by simp [hx]
    have HX:Hid (ls.length=H):=hx
    clear hx
    go_wp2
    go_ret
    exact ⟨ret_bool (Ca.fit_iff.2 ⟨HX.out,HJ.out⟩).symm,rfl⟩
   ·have hb:((((ls.length:Nat):Int)) == (H:Int))=false:=by simp;omega
    have HX:Hid (¬ ls.length=H):=hx
    clear hx
    go_wp2
    go_ret
    refine ⟨ret_bool ?_,rfl⟩
    symm
    rw [Bool.eq_false_iff]
    intro e
    exact HX.out (Ca.fit_iff.1 e).1
end Go.Proofs.YtnchnlgnnlgjcaaGreat
