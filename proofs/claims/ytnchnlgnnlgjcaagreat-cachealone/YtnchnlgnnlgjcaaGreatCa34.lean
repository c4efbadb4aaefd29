import Derived.Test.YtnchnlgnnlgjcaaGreatCa29
import Derived.Test.YtnchnlgnnlgjcaaGreatCa31
import Derived.Test.YtnchnlgnnlgjcaaGreatCa30
import Derived.Test.YtnchnlgnnlgjcaaGreatCa32
import Derived.Test.YtnchnlgnnlgjcaaGreatCa33
set_option linter.unusedVariables false
set_option linter.unusedSimpArgs false
namespace Go.Proofs.YtnchnlgnnlgjcaaGreat
open Go.RowKit
namespace Cc
set_option maxRecDepth 100000 in
set_option maxHeartbeats 6400000 in
theorem cuts_range {X:Nat->Option Obj} (B P g b n H D G W k j a:Nat) (N:Int) (ls:List (Int × Int)) (R M:List Int) (al:Option Addr) (cl:Nat) (va vr:Value) (C:Nat->Nat) (T:Nat->List (List Tok)) (L:Nat->Nat->List Int) (t q:Nat->Nat) (zs:Nat->Value) (col:Nat->Nat)
 (w:World) (hC:Core13 w g b n H D G W ls R M k C T L t q col) (hB:Box13 X B w P g H D G W ls al cl va vr k C zs col) (hD:Doc13 w ls.length k T zs col) (hG:Good13 n (ls.length*H) k j R L t)
 (sh:ShOk H D G W ls) (ha:a<k) (hj:j<=80) (hq0:q a=0) (hN:N<0\/(t a:Int)<N\/¬ gn G W N.toNat=gn G W (t a)) :
 Calls Tryz.prog 41 #[.pointer (some ⟨P,0,none⟩),.int .i64 (a:Int),.int .i64 N] w fun e w'=>e=.returned (.bool true)/\Below w.heap.size w w':=by
 obtain ⟨sH,sH2,sD,sD2,-⟩:=id sh
 obtain ⟨sG,sG2,sW,sl,sl2,-⟩:=sh.nums
 have hk5:k<=5:=hG.2.2.2.2.2.2
 have htj:t a<=j:=hG.2.2.2.2.1 a ha
 have hC1:=hC.2.2 a ha
 have QL:=hC1.2.1.2.1
 have C1:=Ca.hid hC
 have LY:=Ca.hid hC1.2.1
 obtain ⟨⟨hP,-⟩,⟨hva,-⟩,⟨hvr,-⟩,-⟩:=hB
 obtain ⟨ga,ca,Fa,rfl,-,hra,hca,fa⟩:=row_of_own hva (by omega)
 obtain ⟨gr,cr,Fr',rfl,-,hrr,hcr,fr⟩:=row_of_own hvr (by omega)
 have fa':Fa a=.pointer (some ⟨C a,0,none⟩):=by have:=fa a ha;unfold cptrs at this;simpa [ha] using this
 have fr':Fr' a=zs a:=by have:=fr a ha;simpa [ha] using this
 obtain ⟨az,cz,ez,sz⟩:=hD a ha
 rw [<-hC1.2.1.1] at ez
 rw [ez] at fr'
 have SZ:=Ca.hid sz
 have c3:w.cell? ⟨P,3,none⟩=some (.int .i64 (G:Int)):=hP.cell (show 3<8 by decide)
 have c4:w.cell? ⟨P,4,none⟩=some (.int .i64 (W:Int)):=hP.cell (show 4<8 by decide)
 have c5:w.cell? ⟨P,5,none⟩=some (.slice al ls.length cl):=hP.cell (show 5<8 by decide)
 have c6:w.cell? ⟨P,6,none⟩=some (.slice (some ⟨ga,0,none⟩) k ca):=hP.cell (show 6<8 by decide)
 have c7:w.cell? ⟨P,7,none⟩=some (.slice (some ⟨gr,0,none⟩) k cr):=hP.cell (show 7<8 by decide)
 have za:w.cell? ⟨ga,a,none⟩=some (.pointer (some ⟨C a,0,none⟩)):=by rw [hra.cell (by omega),fa']
 have zr:w.cell? ⟨gr,a,none⟩=some (.slice az (T a).length cz):=by rw [hrr.cell (by omega),fr']
 have KQ:Hid (∀ v,Below w.heap.size w v->v.cell? ⟨P,6,none⟩=some (.slice (some ⟨ga,0,none⟩) k ca)/\v.cell? ⟨ga,a,none⟩=some (.pointer (some ⟨C a,0,none⟩))):=fun v hv =>
  ⟨(hv.cell (p:=⟨P,6,none⟩) hP.lt).trans c6,(hv.cell (p:=⟨ga,a,none⟩) hra.lt).trans za⟩
 have ka0:(0:Int)<=(a:Int):=by omega
 have ka1:(a:Int)<(k:Int):=by omega
 clear hC hD hG sh hC1 hP hva hvr hra hrr fa fr sz ez hca hcr fa' fr'
 have hqb:((q a:Int) != 0)=false:=by rw [hq0];rfl
 have QZ:=Ca.hid hq0
 have BD:Hid (Bd w (C a) g H D G W ls (t a) 0):=by
  have:=(C1.out.2.2 a ha).1.bd
  rw [hq0] at this
  exact this
 have HN:Hid (N<0\/(t a:Int)<N\/gn G W N.toNat<gn G W (t a)):=by
  rcases hN with h | h | h
  ·exact .inl h
  ·exact .inr (.inl h)
  ·by_cases h0:N<0
   ·exact .inl h0
   ·by_cases h1:(t a:Int)<N
    ·exact .inr (.inl h1)
    ·have:=gn_mono (G:=G) (W:=W) (t:=N.toNat) (u:=t a) (by omega)
     exact .inr (.inr (by omega))
 obtain ⟨ta,eta⟩:∃ x,t a=x:=⟨_,rfl⟩
 have ET:=Ca.hid eta
 rw [eta] at BD HN htj
 clear hN eta
 go_enter Tryz.func41,Tryz.ntmps41
 go_upto_region 12 with (first
  | (go_at_call 19;refine (tokens_any (α:=Tok) az cz (T a) _ SZ.out (by rw [LY.out.1];omega) (by rw [LY.out.1];omega)).mono ?_;rintro e w' ⟨rfl,hww⟩;cases hww.symm;clear hww;rw [LY.out.toks,ET.out])
  | (go_at_call 40;refine (next_any (α:=Tok) az cz (T a) _ SZ.out (by rw [LY.out.1];omega) (by rw [LY.out.1];omega)).mono ?_;rintro e w' ⟨rfl,hww⟩;cases hww.symm;clear hww;rw [LY.out.nxt]))
 have key:Hid (∀ v,Below w.heap.size w v->True):=fun _ _=>trivial
 go_cut [48] from 49 to 72 (fun v wx=>v=.bool true/\Hid (Below w.heap.size w wx))
 case first =>
  have pk3:=cell_regrown c3
  have pk4:=cell_regrown c4
  have pk5:=cell_regrown c5
  by_cases n0:N<0
  ·refine wp_region_quiet_below (by kernel_rfl) (by kernel_rfl) ?_
   repeat (go_big_quiet_step (fail))
   refine wpQuiet_nil ?_
   intro W3 hw'
   have BQ3:Hid (Below w.heap.size w W3):=by obtain ⟨⟨dq,osq⟩,hw''⟩:=hw';rw [hw''];exact below_regrown w dq osq
   clear hw'
   go_wp2_with fail
   go_meet
   exact ⟨rfl,BQ3.out⟩
  ·by_cases n1:(ta:Int)<N
   ·refine wp_region_quiet_below (by kernel_rfl) (by kernel_rfl) ?_
    repeat (go_big_quiet_step (fail))
    refine wpQuiet_nil ?_
    intro W3 hw'
    have BQ3:Hid (Below w.heap.size w W3):=by obtain ⟨⟨dq,osq⟩,hw''⟩:=hw';rw [hw''];exact below_regrown w dq osq
    clear hw'
    go_wp2_with fail
    go_meet
    exact ⟨rfl,BQ3.out⟩
   ·obtain ⟨m,rfl⟩:=Int.eq_ofNat_of_zero_le (show 0<=N by omega)
    have hm:m<=ta:=by omega
    have hg:gn G W m<gn G W ta:=by
     rcases HN.out with h | h | h
     ·omega
     ·omega
     ·simpa using h
    obtain ⟨g0,eg0⟩:∃ x,gn G W m=x:=⟨_,rfl⟩
    obtain ⟨g1,eg1⟩:∃ x,gn G W ta=x:=⟨_,rfl⟩
    have GA:Hid (Tn.Tr.grp (G:Int) (W:Int) (m:Int)=(g0:Int)):=by show _=_;rw [grp_gn (by omega),eg0]
    have GB:Hid (Tn.Tr.grp (G:Int) (W:Int) (ta:Int)=(g1:Int)):=by show _=_;rw [grp_gn (by omega),eg1]
    rw [eg0,eg1] at hg
    have hne:((g0:Int) != (g1:Int))=true:=bne_iff_ne.2 (by omega)
    have hne2:(g0 != g1)=true:=bne_iff_ne.2 (by omega)
    clear eg0 eg1
    have cA:=Tn.reg_of (u:=w) fun v hv=>Tn.refGroups_any (G:Int) (W:Int) (m:Int) (g0:Int) al ls.length cl (by omega) (by omega) (by omega) (by omega) (by omega) (by omega) GA.out v
    have cB:=Tn.reg_of (u:=w) fun v hv=>Tn.refGroups_any (G:Int) (W:Int) (ta:Int) (g1:Int) al ls.length cl (by omega) (by omega) (by omega) (by omega) (by omega) (by omega) GB.out v
    refine wp_region_quiet_below (by kernel_rfl) (by kernel_rfl) ?_
    repeat (go_big_quiet_step (first | (with_reducible exact cA _ _) | (with_reducible exact cB _ _)))
    refine wpQuiet_nil ?_
    intro W3 hw'
    have BQ3:Hid (Below w.heap.size w W3):=by obtain ⟨⟨dq,osq⟩,hw''⟩:=hw';rw [hw''];exact below_regrown w dq osq
    clear hw'
    go_wp2_with fail
    go_meet
    first
     | exact ⟨rfl,BQ3.out⟩
     | exact ⟨by simpa using hne,BQ3.out⟩
     | exact ⟨by rw [hne],BQ3.out⟩
     | exact ⟨by rw [hne2],BQ3.out⟩
 case rest =>
  obtain ⟨rfl,BX⟩:=hcut
  obtain ⟨v6,va0⟩:=KQ.out wc BX.out
  have hsx:=BX.out.size
  go_wp2_with (go_at_call 28;refine (cut_range_c (C a) g H D G W ls ta N _ (BD.out.keep BX.out) (by omega) sl2 sG sG2 sW (by omega) HN.out).mono ?_;rintro e w2 ⟨rfl,hb⟩;have B2:=Ca.hid (BX.out.trans (hb.mono hsx));clear hb)
  go_ret
  exact ⟨rfl,B2.out⟩
end Cc
end Go.Proofs.YtnchnlgnnlgjcaaGreat
namespace Go.Proofs.YtnchnlgnnlgjcaaGreat
open Go.RowKit
namespace Cc
set_option maxRecDepth 100000 in
set_option maxHeartbeats 6400000 in
theorem cuts_ok {X:Nat->Option Obj} (B P g b n H D G W k j a:Nat) (N:Int) (ls:List (Int × Int)) (R M:List Int) (al:Option Addr) (cl:Nat) (va vr:Value) (C:Nat->Nat) (T:Nat->List (List Tok)) (L:Nat->Nat->List Int) (t q:Nat->Nat) (zs:Nat->Value) (col:Nat->Nat)
 (w:World) (hC:Core13 w g b n H D G W ls R M k C T L t q col) (hB:Box13 X B w P g H D G W ls al cl va vr k C zs col) (hD:Doc13 w ls.length k T zs col) (hG:Good13 n (ls.length*H) k j R L t)
 (sh:ShOk H D G W ls) (ha:a<k) (hj:j<=80) (hq0:q a=0) (m:Nat) (eN:N=(m:Int)) (hm:m<=t a) (hgn:gn G W m=gn G W (t a)) (w0:World) (hF:Fresh13 B w col) (hw:Below B w0 w) (hBs:B<=w.heap.size) :
 Calls Tryz.prog 41 #[.pointer (some ⟨P,0,none⟩),.int .i64 (a:Int),.int .i64 N] w fun e w'=>e=.returned (.bool true)/\PlP X B w0 w' P n H D G W ls k (j+1):=by
 obtain ⟨sH,sH2,sD,sD2,-⟩:=id sh
 obtain ⟨sG,sG2,sW,sl,sl2,-⟩:=sh.nums
 have hk5:k<=5:=hG.2.2.2.2.2.2
 have htj:t a<=j:=hG.2.2.2.2.1 a ha
 have hC1:=hC.2.2 a ha
 have QL:=hC1.2.1.2.1
 have C1:=Ca.hid hC
 have B1:=Ca.hid hB
 have D1:=Ca.hid hD
 have F1:=Ca.hid hF
 have HW:=Ca.hid hw
 have GD:=Ca.hid hG
 have SH:=Ca.hid sh
 have OKD:=Ca.hid hC1.2.2
 have LY:=Ca.hid hC1.2.1
 obtain ⟨⟨hP,-⟩,⟨hva,-⟩,⟨hvr,cvr⟩,-⟩:=hB
 obtain ⟨ga,ca,Fa,rfl,-,hra,hca,fa⟩:=row_of_own hva (by omega)
 obtain ⟨gr,cr,Fr',rfl,-,hrr,hcr,fr⟩:=row_of_own hvr (by omega)
 have fa':Fa a=.pointer (some ⟨C a,0,none⟩):=by have:=fa a ha;unfold cptrs at this;simpa [ha] using this
 have cgr:=cvr gr rfl
 have tgr:=ty_own hvr (q:=gr) rfl
 clear cvr
 have fr':Fr' a=zs a:=by have:=fr a ha;simpa [ha] using this
 obtain ⟨az,cz,ez,sz⟩:=hD a ha
 rw [<-hC1.2.1.1] at ez
 rw [ez] at fr'
 have SZ:=Ca.hid sz
 have c3:w.cell? ⟨P,3,none⟩=some (.int .i64 (G:Int)):=hP.cell (show 3<8 by decide)
 have c4:w.cell? ⟨P,4,none⟩=some (.int .i64 (W:Int)):=hP.cell (show 4<8 by decide)
 have c5:w.cell? ⟨P,5,none⟩=some (.slice al ls.length cl):=hP.cell (show 5<8 by decide)
 have c6:w.cell? ⟨P,6,none⟩=some (.slice (some ⟨ga,0,none⟩) k ca):=hP.cell (show 6<8 by decide)
 have c7:w.cell? ⟨P,7,none⟩=some (.slice (some ⟨gr,0,none⟩) k cr):=hP.cell (show 7<8 by decide)
 have za:w.cell? ⟨ga,a,none⟩=some (.pointer (some ⟨C a,0,none⟩)):=by rw [hra.cell (by omega),fa']
 have zr:w.cell? ⟨gr,a,none⟩=some (.slice az (T a).length cz):=by rw [hrr.cell (by omega),fr']
 have KQ:Hid (∀ v,Below w.heap.size w v->v.cell? ⟨P,6,none⟩=some (.slice (some ⟨ga,0,none⟩) k ca)/\v.cell? ⟨ga,a,none⟩=some (.pointer (some ⟨C a,0,none⟩))):=fun v hv =>
  ⟨(hv.cell (p:=⟨P,6,none⟩) hP.lt).trans c6,(hv.cell (p:=⟨ga,a,none⟩) hra.lt).trans za⟩
 have ka0:(0:Int)<=(a:Int):=by omega
 have ka1:(a:Int)<(k:Int):=by omega
 clear hF hw hC hD hG sh hC1 hP hva hvr hra hrr fa fr sz ez hca hcr fa' fr'
 subst eN
 have hqb:((q a:Int) != 0)=false:=by rw [hq0];rfl
 have LZ:Hid (Lay (T a) ls.length (t a) 0):=by have:=LY.out;rw [hq0] at this;exact this
 have CZ:Hid (CaAt w col (a+1) g (C a) H D G W ls M (L a) (cn ls.length (t a) 0) (tkD (T a) H) (qD G W (T a) H)):=by have:=(C1.out.2.2 a ha).1;rw [hq0] at this;exact this
 obtain ⟨ta,eta⟩:∃ x,t a=x:=⟨_,rfl⟩
 have ET:=Ca.hid eta
 rw [eta] at LZ CZ hm hgn htj
 clear eta
 go_enter Tryz.func41,Tryz.ntmps41
 go_upto_region 12 with (first
  | (go_at_call 19;refine (tokens_any (α:=Tok) az cz (T a) _ SZ.out (by rw [LY.out.1];omega) (by rw [LY.out.1];omega)).mono ?_;rintro e w' ⟨rfl,hww⟩;cases hww.symm;clear hww;rw [LY.out.toks,ET.out])
  | (go_at_call 40;refine (next_any (α:=Tok) az cz (T a) _ SZ.out (by rw [LY.out.1];omega) (by rw [LY.out.1];omega)).mono ?_;rintro e w' ⟨rfl,hww⟩;cases hww.symm;clear hww;rw [LY.out.nxt]))
 go_cut [48] from 49 to 72 (fun v wx=>v=.bool false/\Hid (Below w.heap.size w wx))
 case first =>
  have pk3:=cell_regrown c3
  have pk4:=cell_regrown c4
  have pk5:=cell_regrown c5
  have n1:¬ ((m:Int)<0):=by omega
  have n2:¬ ((ta:Int)<(m:Int)):=by omega
  obtain ⟨g0,eg0⟩:∃ x,gn G W m=x:=⟨_,rfl⟩
  have GA:Hid (Tn.Tr.grp (G:Int) (W:Int) (m:Int)=(g0:Int)):=by show _=_;rw [grp_gn (by omega),eg0]
  have GB:Hid (Tn.Tr.grp (G:Int) (W:Int) (ta:Int)=(g0:Int)):=by show _=_;rw [grp_gn (by omega),<-hgn,eg0]
  have hgn':=Ca.hid hgn
  clear eg0 hgn
  have cA:=Tn.reg_of (u:=w) fun v hv=>Tn.refGroups_any (G:Int) (W:Int) (m:Int) (g0:Int) al ls.length cl (by omega) (by omega) (by omega) (by omega) (by omega) (by omega) GA.out v
  have cB:=Tn.reg_of (u:=w) fun v hv=>Tn.refGroups_any (G:Int) (W:Int) (ta:Int) (g0:Int) al ls.length cl (by omega) (by omega) (by omega) (by omega) (by omega) (by omega) GB.out v
  refine wp_region_quiet_below (by kernel_rfl) (by kernel_rfl) ?_
  repeat (go_big_quiet_step (first | (with_reducible exact cA _ _) | (with_reducible exact cB _ _)))
  refine wpQuiet_nil ?_
  intro W3 hw'
  have BQ3:Hid (Below w.heap.size w W3):=by obtain ⟨⟨dq,osq⟩,hw''⟩:=hw';rw [hw''];exact below_regrown w dq osq
  clear hw'
  go_wp2_with fail
  go_meet
  exact ⟨by simp,BQ3.out⟩
 case rest =>
  obtain ⟨rfl,BX⟩:=hcut
  obtain ⟨W9,hW9⟩:∃ W9,W9=wc:=⟨_,rfl⟩
  subst hW9
  have hsx:=BX.out.size
  go_upto_region 4 with fail
  refine (copiedL_any (Q:=fun x=>col x=0) az cz (T a) W9 (SZ.out.keep carry_toks BX.out) (by rw [LY.out.1];omega) (fun k hk=>by rw [LZ.out.2.2 k (by rw [<-LY.out.1];exact hk)];have:=lv_le ta 0 k;omega)).mono ?_
  rintro e w5 ⟨vn,xs0,rfl,aq,-,-,hb⟩
  obtain ⟨gv,cv,Fv,rfl,hgv,hrv,hcv,fv⟩:=row_of_own aq.1 (by rw [LY.out.1];omega)
  have B5:=Ca.hid hb
  have hs5:=hb.size
  have each:∀ i,i<(T a).length->∃ z:Option Addr × Nat,Fv i=.slice z.1 ((Ca.nt (T a) i).length) z.2/\(Ca.nt (T a) i).length<=z.2/\(z.1=none->z.2=0)/\SlQ (fun q=>col q=0/\¬ q=gv) 2 eTok w5 z.1 (Ca.nt (T a) i):=fun i hi=>by
   obtain ⟨A,C',h1,h2,h3,h4,h5⟩:=fresh_toks (aq.2.2.2 i hi (fun j=>xs0[i*1+j]?) fun j _=>rfl)
   have h1:xs0[i]?=some (.slice A ((T a)[i]).length C'):=by simpa using h1
   rw [Ca.nt_at hi]
   exact ⟨(A,C'),Option.some.inj ((fv i hi).trans h1),h2,h4,h5.carry carry_tok (fun q _ hq=>⟨⟨by rcases hq.1 with e | e;exact e.1;exact F1.out.1 q (by omega),fun e=>hq.2.2 (by rw [e];rfl)⟩,rfl⟩) (Nat.le_refl _)⟩
  obtain ⟨Z,hZ⟩:=Go.Deep.choose_lt each
  have LT:Hid (∀ i,i<(T a).length->(Ca.nt (T a) i).length=ta):=fun i hi=>by
   rw [LZ.out.2.2 i (by rw [<-LY.out.1];exact hi)];unfold lv;rw [if_neg (by omega)]
  have HZ:=Ca.hid hZ
  have RV:=Ca.hid hrv
  have hT4:(T a).length<=4:=by rw [LY.out.1];exact sl2
  clear each hZ aq hb fv
  go_upto_region 5 with fail
  go_loopw [24] (fun i wq=>∃ s:Nat,s<=(T a).length/\i=.int .i64 s/\Hid (wq.rowIs gv 60 cv (fun i=>if i<s then .slice (Z i).1 m (Z i).2 else Fv i))/\Hid (Spoil (fun x=>x=gv) w5 wq)) (fun i _=>(T a).length - (intOf i).toNat)
  case atStart=>exact ⟨0,Nat.zero_le _,rfl,RV.out.congr (fun i hi=>by simp),Spoil.refl _ _⟩
  case round =>
   obtain ⟨s,hs,rfl,RW,SW⟩:=hrel
   by_cases hlt:s<(T a).length
   ·obtain ⟨z1,z2,z3,-⟩:=HZ.out s hlt
    have lt:=LT.out s hlt
    rw [lt] at z1 z2
    obtain ⟨⟨zA,zC⟩,ezz⟩:∃ z,Z s=z:=⟨_,rfl⟩
    have EZ:=Ca.hid ezz
    rw [ezz] at z1 z2 z3
    have c1:wr.cell? ⟨gv,s,none⟩=some (.slice zA ta zC):=by rw [RW.out.cell (by omega),if_neg (by omega),z1]
    have f1:wr.frozen? ⟨gv,s,none⟩=false:=RW.out.frozen s
    have e0:(0:Int)<=(s:Int):=by omega
    have e1:(s:Int)<((T a).length:Int):=by omega
    have e2:(0:Int)<=(m:Int):=by omega
    have e3:(m:Int)<=(zC:Int):=by omega
    have Z3:=Ca.hid z3
    have SM:=Ca.hid hm
    clear z1 z2 z3 lt ezz
    have nxt:Hid ((wr.setCell ⟨gv,s,none⟩ (.slice zA m zC)).rowIs gv 60 cv (fun i=>if i<s+1 then .slice (Z i).1 m (Z i).2 else Fv i)):=(RW.out.set s (.slice zA m zC)).congr (fun i hi=>by
     by_cases e:i=s
     ·subst e;simp [EZ.out]
     ·simp only [if_neg e]
      by_cases h:i<s
      ·rw [if_pos h,if_pos (by omega)]
      ·rw [if_neg h,if_neg (by omega)])
    cases zA with
    | none =>
      have hz:=Z3.out rfl
      subst hz
      obtain rfl:m=0:=by omega
      go_wp2
      go_roundw
      case rel=>exact ⟨s+1,by omega,by go_num,nxt.out,SW.out.set rfl _ _⟩
      case measure=>simp [intOf];omega
    | some ad =>
      obtain ⟨zb,zo,zs⟩:=ad
      go_wp2
      go_roundw
      case rel=>exact ⟨s+1,by omega,by go_num,nxt.out,SW.out.set rfl _ _⟩
      case measure=>simp [intOf];omega
   ·have es:s=(T a).length:=by omega
    subst es
    have ntm:∀ i,Ca.nt ((T a).map (·.take m)) i=(Ca.nt (T a) i).take m:=fun i=>by
     unfold Ca.nt
     rw [List.getD_eq_getElem?_getD,List.getD_eq_getElem?_getD,List.getElem?_map]
     cases (T a)[i]? <;> simp
    have NTM:=Ca.hid ntm
    have DN7:Hid (SlQ (fun x=>col x=0) 1 eToks wr (some ⟨gv,0,none⟩) ((T a).map (·.take m))):=fun i hi=>by
     have hi2:i<(T a).length:=by simpa using hi
     obtain ⟨z1,z2,z3,z4⟩:=HZ.out i hi2
     have lt:=LT.out i hi2
     have hr:=RW.out.cell (i:=i) (by omega)
     rw [if_pos hi2] at hr
     have ei:((T a).map (·.take m))[i]=(Ca.nt (T a) i).take m:=by rw [Ca.nt_at hi2];simp
     rw [ei]
     have el:((Ca.nt (T a) i).take m).length=m:=by rw [List.length_take,lt];omega
     refine ⟨gv,0,rfl,RW.out.lt,F1.out.1 gv (by omega),(Z i).1,(Z i).2,?_,by rw [el];omega,by rw [el];unfold maxLen;omega,z3,?_⟩
     ·show wr.cell? ⟨gv,0+(i*1+0),none⟩=_
      rw [show 0+(i*1+0)=i by omega,el]
      exact hr
     ·exact (z4.carry (Q':=fun q=>col q=0) carry_tok (fun q hq h=>⟨h.1,SW.out.2.2 q hq h.2⟩) SW.out.2.1).take m
    have BN:Hid (Below W9.heap.size W9 wr):=SW.out.below B5.out hs5 (fun x hx e=>by omega)
    have BN1:=Ca.hid (BX.out.trans (BN.out.mono hsx))
    have C7:=Ca.hid (C1.out.keep BN1.out)
    have B7:=Ca.hid (B1.out.keep BN1.out)
    have D7:=Ca.hid (D1.out.keep BN1.out)
    have F7:=Ca.hid (F1.out.keep BN1.out.size)
    have HW7:Hid (Below B w0 wr):=HW.out.trans (BN1.out.mono hBs)
    obtain ⟨⟨hP7,-⟩,⟨hva7,-⟩,⟨hvr7,cr7⟩,-⟩:=B7.out
    have tgr7:=ty_own hvr7 (q:=gr) rfl
    obtain ⟨g9,c9,F9,e9,-,hr9,hc9,-⟩:=row_of_own hvr7 (by omega)
    cases e9
    have s7:wr.cell? ⟨gr,a,none⟩=some (F9 a):=hr9.cell (by omega)
    have s8:wr.frozen? ⟨gr,a,none⟩=false:=hr9.frozen a
    have p7:wr.cell? ⟨P,7,none⟩=some (.slice (some ⟨gr,0,none⟩) k cr):=hP7.cell (show 7<8 by decide)
    obtain ⟨v6,va0⟩:=KQ.out wr BN1.out
    go_upto_region 14 with fail
    obtain ⟨W8,eW8⟩:∃ W8,wr.setCell ⟨gr,a,none⟩ (.slice (some ⟨gv,0,none⟩) (T a).length cv)=W8:=⟨_,rfl⟩
    rw [eW8]
    have st8:∀ x,¬ x=gr->W8.heap[x]?=wr.heap[x]?:=fun x hx=>by rw [<-eW8];exact Below.heap_setCell _ _ _ _ (show x ≠ gr from hx)
    have sz8:W8.heap.size=wr.heap.size:=by rw [<-eW8];simp [World.setCell]
    have nP:¬ P=gr:=(ty_row hP7).ne tgr7 (by decide)
    have nga:¬ ga=gr:=(ty_own hva7 (q:=ga) rfl).ne tgr7 (by decide)
    have u6:W8.cell? ⟨P,6,none⟩=some (.slice (some ⟨ga,0,none⟩) k ca):=(World.cell?_of_block (a:=⟨P,6,none⟩) (st8 P nP)).trans v6
    have ua:W8.cell? ⟨ga,a,none⟩=some (.pointer (some ⟨C a,0,none⟩)):=(World.cell?_of_block (a:=⟨ga,a,none⟩) (st8 ga nga)).trans va0
    rw [LY.out.1] at eW8
    have C8:=Ca.hid (C7.out.off (w':=W8) hk5 cgr tgr7 ⟨by decide,by decide,by decide⟩ (by rw [sz8];exact Nat.le_refl _) (fun x _ hx=>st8 x hx))
    have B8:Hid (Box13 X B W8 P g H D G W ls al cl (.slice (some ⟨ga,0,none⟩) k ca) (.slice (some ⟨gr,0,none⟩) k cr) k C (upd zs a (.slice (some ⟨gv,0,none⟩) ls.length cv)) col):=by rw [<-eW8];exact B7.out.setDoc ha
    have D8:=Ca.hid (D7.out.setDoc (w':=W8) (a:=a) (cv:=cv) cgr (by rw [sz8];exact Nat.le_refl _) (fun x _ hx=>st8 x hx) DN7.out)
    have F8:=Ca.hid (F7.out.keep (w':=W8) (by rw [sz8];exact Nat.le_refl _))
    have hgrB:B<=gr:=by
     rcases Nat.lt_or_ge gr B with h | h
     ·have:=F1.out.2 gr h;omega
     ·exact h
    have HW8:Hid (Below B w0 W8):=by rw [<-eW8];exact HW7.out.setCell (p:=⟨gr,a,none⟩) hgrB _
    have hB8:B<=W8.heap.size:=by have:=BN1.out.size;rw [sz8];omega
    have CZ8:Hid (CaAt W8 col (a+1) g (C a) H D G W ls M (L a) (cn ls.length ta 0) (tkD (T a) H) (qD G W (T a) H)):=by have:=(C8.out.2.2 a ha).1;rw [hq0,ET.out] at this;exact this
    clear st8 sz8 hP7 hva7 hvr7 cr7 hr9 hc9 s7 s8 p7 v6 va0 nP nga eW8
    go_wp2_with (go_at_call 28;refine (cut_ok_c (C a) (a+1) g b n H D G W m ls R M (L a) ta (tkD (T a) H) (qD G W (T a) H) col _ C8.out.1 CZ8.out SH.out (by omega) hm hgn (fun r hr=>by have:=LZ.out.2.2 (r / H) (row_lt hr);have e:lv ta 0 (r / H)=ta:=if_neg (Nat.not_lt_zero _);rw [e] at this;exact ⟨by unfold qD;rw [this],this⟩) F8.out.1 (by omega)).mono ?_;rintro e wp ⟨rfl,y1,y2,y3⟩;have PP:=Ca.hid y1;have PC:=Ca.hid y2;have PG:=Ca.hid y3;clear y1 y2 y3)
    go_ret
    have tkE:∀ r,r<ls.length*H->(tkD (T a) H r).take m=tkD ((T a).map (·.take m)) H r/\qD G W (T a) H r=qD G W ((T a).map (·.take m)) H r:=fun r hr=>by
     have e:(Ca.nt (T a) (r / H)).length=ta:=LT.out _ (by rw [LY.out.1];exact row_lt hr)
     refine ⟨by unfold tkD;rw [NTM.out],?_⟩
     unfold qD
     rw [NTM.out,List.length_take,e,Nat.min_eq_left hm,hgn]
    have LN:Lay ((T a).map (·.take m)) ls.length m 0:=⟨by rw [List.length_map];exact LY.out.1,by omega,fun i hi=>by rw [NTM.out,List.length_take,LT.out i (by rw [LY.out.1];exact hi),Nat.min_eq_left hm];unfold lv;rw [if_neg (by omega)]⟩
    have ON:OkD H D ((T a).map (·.take m)):=fun i j hj=>by
     have key:∀ l:List Tok,l=(Ca.nt (T a) i).take m->∀ (hj:j<l.length),TokOk H D l[j]:=fun l hl hj=>by
      subst hl
      rw [List.getElem_take]
      exact OKD.out i j (by rw [List.length_take] at hj;omega)
     exact key _ (NTM.out i) hj
    have hsp:=PG.out.size
    refine ⟨rfl,g,b,R,M,al,cl,_,_,C,_,_,_,_,_,col,C8.out.call ha hk5 PG.out PP.out (PC.out.congr fun r hr=>⟨rfl,(tkE r hr).1,(tkE r hr).2⟩) LN ON (fun _ _ _ _ _ _ _=>rfl),B8.out.call C8.out.1 C8.out.2.1.1 C8.out.2.1.2 (by omega) PG.out,D8.out.call C8.out.2.1.1 C8.out.2.1.2 PG.out,⟨PG.out.2.2.2,F8.out.2⟩,GD.out.cut ha rfl (by rw [ET.out];exact hm),HW8.out.trans ⟨PG.out.1.1,PG.out.1.2.1,PG.out.1.2.2.1,hsp,fun x hx=>PG.out.1.block (by omega) (fun e=>by have h1:=F8.out.2 x hx;rw [e,C8.out.2.1.1] at h1;exact absurd h1 (by decide)) (fun e=>by have h1:=F8.out.2 x hx;rw [e,C8.out.2.1.2] at h1;exact absurd h1 (by decide)) (fun e=>by have e:col x=a+1:=e;rw [F8.out.2 x hx] at e;omega)⟩,by omega⟩
end Cc
end Go.Proofs.YtnchnlgnnlgjcaaGreat
namespace Go.Proofs.YtnchnlgnnlgjcaaGreat
open Go.RowKit
namespace Cc
theorem puts_any {X:Nat->Option Obj} (B P g b n H D G W k j a:Nat) (ly:Int) (ls:List (Int × Int)) (R M:List Int) (al:Option Addr) (cl:Nat) (va vr:Value) (C:Nat->Nat) (T:Nat->List (List Tok)) (L:Nat->Nat->List Int) (t q:Nat->Nat) (zs:Nat->Value) (col:Nat->Nat)
 (x0 x1 x2 x3:Int) (p1 p2:Option Addr) (d1 d2:Nat) (ks vs:List (List Int)) (w0 w:World) (hC:Core13 w g b n H D G W ls R M k C T L t q col) (hB:Box13 X B w P g H D G W ls al cl va vr k C zs col) (hD:Doc13 w ls.length k T zs col) (hF:Fresh13 B w col) (hG:Good13 n (ls.length*H) k j R L t) (hw:Below B w0 w) (hBs:B<=w.heap.size)
 (sh:ShOk H D G W ls) (ha:a<k) (hj:j<=80) (hks:SlQ (fun x=>x<B) 1 eRow w p1 ks) (hvs:SlQ (fun x=>x<B) 1 eRow w p2 vs) (i1:∀ k,Ls.In32 (Ca.nt ks k)) (i2:∀ k,Ls.In32 (Ca.nt vs k)) (kl:ks.length<=10) (vl:vs.length<=10) (km:∀ k,(Ca.nt ks k).length<=35184372087808) (vm:∀ k,(Ca.nt vs k).length<=35184372087808) :
 Calls Tryz.prog 39 #[.pointer (some ⟨P,0,none⟩),.int .i64 (a:Int),.int .i64 ly,.agg #[.int .i64 x0,.int .i64 x1,.int .i64 x2,.int .i64 x3,.slice p1 ks.length d1,.slice p2 vs.length d2]] w fun e w'=>e=.returned (.bool true)/\PlP X B w0 w' P n H D G W ls k (j+1):=by
 by_cases c1:ly=(q a:Int)
 ·subst c1
  cases f1:Ca.fit H D ks with
  | false=>exact puts_shapeB B P g b n H D G W k j a ls R M al cl va vr C T L t q zs col x0 x1 x2 x3 p1 p2 d1 d2 ks vs w0 w hC hB hD hF hG hw hBs sh ha hj hks hvs i1 i2 kl vl km vm f1
  | true =>
    cases f2:Ca.fit H D vs with
    | false=>exact puts_shapeC B P g b n H D G W k j a ls R M al cl va vr C T L t q zs col x0 x1 x2 x3 p1 p2 d1 d2 ks vs w0 w hC hB hD hF hG hw hBs sh ha hj hks hvs i1 i2 kl vl km vm f1 f2
    | true =>
      by_cases c2:gn G W (t a)<gn G W (t a+1)/\Po.cnt R<H
      ·exact puts_full B P g b n H D G W k j a ls R M al cl va vr C T L t q zs col x0 x1 x2 x3 p1 p2 d1 d2 ks vs w0 w hC hB hD hF hG hw hBs sh ha hj hks hvs i1 i2 kl vl km vm f1 f2 c2.1 _ rfl c2.2
      ·exact puts_ok B P g b n H D G W k j a ls R M al cl va vr C T L t q zs col x0 x1 x2 x3 p1 p2 d1 d2 ks vs w0 w hC hB hD hF hG hw hBs sh ha hj hks hvs i1 i2 kl vl km vm f1 f2 _ rfl (fun h=>by omega)
 ·exact puts_open B P g b n H D G W k j a ly ls R M al cl va vr C T L t q zs col x0 x1 x2 x3 p1 p2 d1 d2 ks vs w0 w hC hB hD hF hG hw hBs sh ha hj hks hvs i1 i2 kl vl km vm c1
theorem cuts_any {X:Nat->Option Obj} (B P g b n H D G W k j a:Nat) (N:Int) (ls:List (Int × Int)) (R M:List Int) (al:Option Addr) (cl:Nat) (va vr:Value) (C:Nat->Nat) (T:Nat->List (List Tok)) (L:Nat->Nat->List Int) (t q:Nat->Nat) (zs:Nat->Value) (col:Nat->Nat)
 (w0 w:World) (hC:Core13 w g b n H D G W ls R M k C T L t q col) (hB:Box13 X B w P g H D G W ls al cl va vr k C zs col) (hD:Doc13 w ls.length k T zs col) (hF:Fresh13 B w col) (hG:Good13 n (ls.length*H) k j R L t) (hw:Below B w0 w) (hBs:B<=w.heap.size)
 (sh:ShOk H D G W ls) (ha:a<k) (hj:j<=80) :
 Calls Tryz.prog 41 #[.pointer (some ⟨P,0,none⟩),.int .i64 (a:Int),.int .i64 N] w fun e w'=>e=.returned (.bool true)/\PlP X B w0 w' P n H D G W ls k (j+1):=by
 have st:PlP X B w0 w P n H D G W ls k j:=⟨g,b,R,M,al,cl,va,vr,C,T,L,t,q,zs,col,hC,hB,hD,hF,hG,hw,hBs⟩
 by_cases c0:q a=0
 ·by_cases c1:N<0\/(t a:Int)<N\/¬ gn G W N.toNat=gn G W (t a)
  ·exact (cuts_range B P g b n H D G W k j a N ls R M al cl va vr C T L t q zs col w hC hB hD hG sh ha hj c0 c1).mono fun _ _ h=>⟨h.1,(st.keep h.2).more⟩
  ·have n0:0<=N:=by omega
   obtain ⟨m,rfl⟩:=Int.eq_ofNat_of_zero_le n0
   exact cuts_ok B P g b n H D G W k j a (m:Int) ls R M al cl va vr C T L t q zs col w hC hB hD hG sh ha hj c0 m rfl (by omega) (by
    have h:¬ ¬ gn G W ((m:Int).toNat)=gn G W (t a):=fun h=>c1 (.inr (.inr h))
    have h:=Classical.not_not.1 h
    simpa using h) w0 hF hw hBs
 ·exact (cuts_open B P g b n H D G W k j a N ls R M al cl va vr C T L t q zs col w hC hB hD hG sh ha hj c0).mono fun _ _ h=>⟨h.1,(st.keep h.2).more⟩
end Cc
end Go.Proofs.YtnchnlgnnlgjcaaGreat
namespace Go.Proofs.YtnchnlgnnlgjcaaGreat
open Go.RowKit
namespace Cc
set_option maxRecDepth 100000 in
set_option maxHeartbeats 6400000 in
theorem step_put {X:Nat->Option Obj} (B P n H D G W k j:Nat) (cx ly N:Int) (ls:List (Int × Int)) (p1 p2:Option Addr) (d1 d2:Nat) (ks vs:List (List Int)) (w0 w:World) (h:PlP X B w0 w P n H D G W ls k j) (sh:ShOk H D G W ls) (hj:j<=80)
 (hks:SlQ (fun x=>x<B) 1 eRow w p1 ks) (hvs:SlQ (fun x=>x<B) 1 eRow w p2 vs) (i1:∀ k,Ls.In32 (Ca.nt ks k)) (i2:∀ k,Ls.In32 (Ca.nt vs k)) (kl:ks.length<=10) (vl:vs.length<=10) (km:∀ k,(Ca.nt ks k).length<=35184372087808) (vm:∀ k,(Ca.nt vs k).length<=35184372087808) :
 Calls Tryz.prog 14 #[.pointer (some ⟨P,0,none⟩),.agg #[.int .i64 1,.int .i64 cx,.int .i64 ly,.int .i64 N,.slice p1 ks.length d1,.slice p2 vs.length d2]] w fun e w'=>e=.returned (.bool true)/\∃ k',PlP X B w0 w' P n H D G W ls k' (j+1):=by
 have h0:=Ca.hid h
 obtain ⟨g,b,R,M,al,cl,va,vr,C,T,L,t,q,zs,col,hC,hB,hD,hF,hG,hw,hBs⟩:=h
 have hk0:0<k:=hG.2.2.2.2.2.1
 have hk5:k<=5:=hG.2.2.2.2.2.2
 obtain ⟨a,hmx⟩:∃ a:Nat,max cx 0 % (k:Int)=a:=⟨(max cx 0 % (k:Int)).toNat,by have:=Int.emod_nonneg (max cx 0) (show (k:Int) ≠ 0 by omega);omega⟩
 have ha:a<k:=by have:=Int.emod_lt_of_pos (max cx 0) (show (0:Int)<k by omega);omega
 obtain ⟨u,hu⟩:∃ u,(w.alloc (.cells #[.int .i64 1,.int .i64 cx,.int .i64 ly,.int .i64 N,.slice p1 ks.length d1,.slice p2 vs.length d2] 44)).drew=u:=⟨_,rfl⟩
 have UB:Hid (Below w.heap.size w u):=by rw [<-hu];exact (Rt.box_below _ _).drew
 have UO:Hid (u.heap[w.heap.size]?=some (.cells #[.int .i64 1,.int .i64 cx,.int .i64 ly,.int .i64 N,.slice p1 ks.length d1,.slice p2 vs.length d2] 44)):=by rw [<-hu];exact heap_alloc_new w _
 have CU:=Ca.hid (hC.keep UB.out)
 have BU:=Ca.hid (hB.keep UB.out)
 have DU:=Ca.hid (hD.keep UB.out)
 have FU:=Ca.hid (hF.keep UB.out.size)
 have GD:=Ca.hid hG
 have HW:=Ca.hid (hw.trans (UB.out.mono hBs))
 have HBu:B<=u.heap.size:=by have:=UB.out.size;omega
 have KS:Hid (SlQ (fun x=>x<B) 1 eRow u p1 ks):=hks.carry carry_row (fun x _ hx=>⟨hx,UB.out.block x (by omega)⟩) UB.out.size
 have VS:Hid (SlQ (fun x=>x<B) 1 eRow u p2 vs):=hvs.carry carry_row (fun x _ hx=>⟨hx,UB.out.block x (by omega)⟩) UB.out.size
 have I1:=Ca.hid i1
 have I2:=Ca.hid i2
 have KM:=Ca.hid km
 have VM:=Ca.hid vm
 have SH:=Ca.hid sh
 obtain ⟨⟨hP,-⟩,⟨hva,-⟩,-⟩:=hB
 obtain ⟨ga,ca,Fa,e,-⟩:=row_of_own hva hk0
 subst e
 have p6:w.cell? ⟨P,6,none⟩=some (.slice (some ⟨ga,0,none⟩) k ca):=hP.cell (show 6<8 by decide)
 have plt:P<w.heap.size:=hP.lt
 have t0:u.cell? ⟨w.heap.size,0,none⟩=some (.int .i64 1):=cell_of_row _ _ _ _ _ _ UO.out
 have t2:u.cell? ⟨w.heap.size,2,none⟩=some (.int .i64 ly):=cell_of_row _ _ _ _ _ _ UO.out
 have t3:u.cell? ⟨w.heap.size,3,none⟩=some (.int .i64 N):=cell_of_row _ _ _ _ _ _ UO.out
 have t1:u.cell? ⟨w.heap.size,1,none⟩=some (.int .i64 cx):=cell_of_row _ _ _ _ _ _ UO.out
 have t4:u.cell? ⟨w.heap.size,4,none⟩=some (.slice p1 ks.length d1):=cell_of_row _ _ _ _ _ _ UO.out
 have t5:u.cell? ⟨w.heap.size,5,none⟩=some (.slice p2 vs.length d2):=cell_of_row _ _ _ _ _ _ UO.out
 have p6u:u.cell? ⟨P,6,none⟩=some (.slice (some ⟨ga,0,none⟩) k ca):=(UB.out.cell (p:=⟨P,6,none⟩) plt).trans p6
 have hkz:((k:Int) == 0)=false:=by simp;omega
 have hkn:¬ (k:Int)=0:=by omega
 clear hC hD hF hG hw hks hvs i1 i2 km vm sh hva hP
 go_enter Tryz.func14,Tryz.ntmps14
 go_wp2
 go_region
 rw [hmx]
 clear hu
 go_wp2_with (go_at_call 39;refine (puts_any B P g b n H D G W k j a ly ls R M al cl _ vr C T L t q zs col 1 cx ly N p1 p2 d1 d2 ks vs w0 u CU.out BU.out DU.out FU.out GD.out HW.out HBu SH.out ha hj KS.out VS.out I1.out I2.out kl vl KM.out VM.out).mono ?_;rintro e w2 ⟨rfl,hp⟩;have HP2:=Ca.hid hp;clear hp)
 go_ret
 exact ⟨rfl,k,HP2.out⟩
end Cc
end Go.Proofs.YtnchnlgnnlgjcaaGreat
