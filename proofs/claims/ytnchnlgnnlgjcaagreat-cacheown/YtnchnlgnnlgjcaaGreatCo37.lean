import Derived.Test.YtnchnlgnnlgjcaaGreatCo29
import Derived.Test.YtnchnlgnnlgjcaaGreatCo36
import Derived.Test.YtnchnlgnnlgjcaaGreatCo25
import Derived.Test.YtnchnlgnnlgjcaaGreatCo21
import Derived.Test.YtnchnlgnnlgjcaaGreatCo27
import Derived.Test.YtnchnlgnnlgjcaaGreatCo35
set_option linter.unusedVariables false
set_option linter.unusedSimpArgs false
namespace Go.Proofs.YtnchnlgnnlgjcaaGreat
open Go.RowKit
namespace Cc
theorem len_rows {H G W nl:Nat} {T:List (List Tok)} {L:Nat->List Int} (h:∀ r,r<nl*H->(L r).length=qD G W T H r) (ly hd:Nat) (hl:ly<nl) (hh:hd<H):Bk.len L (ly*H+hd+1)=Bk.len L (ly*H+hd)+gn G W (Ca.nt T ly).length:=by
 have rlt:ly*H+hd<nl*H:=by
  have h1:(ly+1)*H<=nl*H:=Nat.mul_le_mul_right H (by omega)
  rw [Nat.add_mul] at h1
  omega
 rw [Bk.len_succ,h _ rlt]
 unfold qD
 rw [(up_row ly hd H hh).1]
theorem rows_in {w:World} {col:Nat->Nat} {c g C H D G W:Nat} {ls:List (Int × Int)} {M:List Int} {L:Nat->List Int} {cnt:List Int} {tk:Nat->List Tok} {q:Nat->Nat} (h:CaAt w col c g C H D G W ls M L cnt tk q):∀ r,r<ls.length*H->(L r).length=q r:=fun r hr=>by
 obtain ⟨al,cl,T,pb,pc,ct,cc,rg,rs,F,-,-,-,-,-,-,hrow⟩:=h.in
 exact (hrow r hr).1
theorem rows_deep {w:World} {col:Nat->Nat} {c g C H D G W ly hd r q0:Nat} {ls:List (Int × Int)} {M:List Int} {L:Nat->List Int} {cnt:List Int} {tk:Nat->List Tok} {q:Nat->Nat} (h:CaAt w col c g C H D G W ls M L cnt tk q) (sh:ShOk H D G W ls) (hly:ly<ls.length) (hhd:hd<H) (hr:ly*H+hd=r) (hq:q r=q0) :
 ∀ i,i<q0->Pg.Deep G (Ca.pg (mk ls ly) (mv ls ly) (top (mk ls ly)) (top (mv ls ly)) G D ly hd (tk r) i).2.1/\Pg.Deep D (Ca.pg (mk ls ly) (mv ls ly) (top (mk ls ly)) (top (mv ls ly)) G D ly hd (tk r) i).2.2/\(Ca.pg (mk ls ly) (mv ls ly) (top (mk ls ly)) (top (mv ls ly)) G D ly hd (tk r) i).2.1.length=D/\(Ca.pg (mk ls ly) (mv ls ly) (top (mk ls ly)) (top (mv ls ly)) G D ly hd (tk r) i).2.2.length=G:=fun i hi=>by
 obtain ⟨f0,f1,st0,st1⟩:=sh.bits hly
 have b0:mk ls ly=2\/mk ls ly=4\/mk ls ly=8:=by rcases st0 with h | h | h;exact .inl h.1;exact .inr (.inl h.1);exact .inr (.inr h.1)
 have b1:mv ls ly=2\/mv ls ly=4\/mv ls ly=8:=by rcases st1 with h | h | h;exact .inl h.1;exact .inr (.inl h.1);exact .inr (.inr h.1)
 have rlt:r<ls.length*H:=by
  have h1:(ly+1)*H<=ls.length*H:=Nat.mul_le_mul_right H (by omega)
  rw [Nat.add_mul] at h1
  omega
 obtain ⟨al,cl,T,pb,pc,ct,cc,rg,rs,F,-,-,-,-,-,-,hrow⟩:=h.in
 obtain ⟨-,-,hpg,-⟩:=hrow r rlt
 have hdv:=up_row ly hd H hhd
 rw [hr] at hdv
 rw [hdv.1,hdv.2,hq] at hpg
 obtain ⟨p,-,-,-,-,-,-,hp,-⟩:=hpg i hi
 obtain ⟨lk,lv,dk,dv⟩:=page_deep hp b0 b1
 exact ⟨dk,dv,lk,lv⟩
theorem mem_flat {g n:Nat} {f:Nat->Nat->List Int} {x:List Int} (h:x ∈ Ca.flat g f n):∃ i t,i<n/\t<g/\x=f i t:=by
 unfold Ca.flat at h
 obtain ⟨i,hi,hx⟩:=List.mem_flatMap.1 h
 obtain ⟨t,ht,e⟩:=List.mem_map.1 hx
 exact ⟨i,t,List.mem_range.1 hi,List.mem_range.1 ht,e.symm⟩
theorem vk_rows {H D G ly hd q0:Nat} {ls:List (Int × Int)} {l:List Tok} (hhd:hd<H) (hT:∀ i (h:i<l.length),TokOk H D l[i]) (hd4:D<=16)
 (dk:∀ i,i<q0->Pg.Deep G (Ca.pg (mk ls ly) (mv ls ly) (top (mk ls ly)) (top (mv ls ly)) G D ly hd l i).2.1/\Pg.Deep D (Ca.pg (mk ls ly) (mv ls ly) (top (mk ls ly)) (top (mv ls ly)) G D ly hd l i).2.2/\(Ca.pg (mk ls ly) (mv ls ly) (top (mk ls ly)) (top (mv ls ly)) G D ly hd l i).2.1.length=D/\(Ca.pg (mk ls ly) (mv ls ly) (top (mk ls ly)) (top (mv ls ly)) G D ly hd l i).2.2.length=G) :
 (∀ x,x ∈ vk ls G D ly hd l q0->x.length<=1000000)/\∀ x,x ∈ vv ls G D ly hd l q0->x.length<=1000000:=by
 constructor
 ·intro x hx
  rcases List.mem_append.1 hx with h | h
  ·obtain ⟨i,t,hi,ht,rfl⟩:=mem_flat h
   unfold Ca.keyAt
   rw [Pg.key_length,(dk i hi).2.2.1]
   omega
  ·rw [rows_ks hhd (tok_drop hT) h];omega
 ·intro x hx
  rcases List.mem_append.1 hx with h | h
  ·obtain ⟨i,t,hi,ht,rfl⟩:=mem_flat h
   unfold Ca.valAt
   rw [Gp.means_length]
   have:=((dk i hi).2.1 t (by rw [(dk i hi).2.2.2];exact ht)).1
   omega
  ·rw [rows_vs hhd (tok_drop hT) h];omega
theorem vk_len {D G ly hd q0:Nat} {ls:List (Int × Int)} {l:List Tok} (h:q0*G<=l.length):(vk ls G D ly hd l q0).length=l.length/\(vv ls G D ly hd l q0).length=l.length:=by
 constructor
 ·unfold vk;rw [List.length_append,Ca.flat_length];show _+((l.drop (q0*G)).map _).length=_;rw [List.length_map,List.length_drop];omega
 ·unfold vv;rw [List.length_append,Ca.flat_length];show _+((l.drop (q0*G)).map _).length=_;rw [List.length_map,List.length_drop];omega
theorem wrap_in {x:Int} (h1:-9223372036854775808<=x) (h2:x<=9223372036854775807):wrap64 x=x:=by unfold wrap64;omega
theorem room_eq {nl H q cf nd:Nat} {qd rr:Bool} (h0:0<nl) (h4:nl<=4) (hH:H<=4) (hq:q<nl) (hn:(if qd=true then nl*H else 0)=nd) (hr:(!qd || decide ((nl - q)*H<=cf))=rr):decide (wrap64 (wrap64 ((nd:Int) / (nl:Int))*((nl:Int) - (q:Int)))<=(cf:Int))=rr:=by
 subst hr
 subst hn
 cases qd with
 | false =>
   have e:wrap64 (wrap64 (((if false=true then nl*H else 0:Nat):Int) / (nl:Int))*((nl:Int) - (q:Int)))=0:=by
    have w0:wrap64 0=0:=wrap_in (by decide) (by decide)
    simp [w0]
   rw [e]
   simp
 | true =>
   have e2:((nl*H:Nat):Int) / (nl:Int)=(H:Int):=by
    rw [Int.natCast_mul]
    exact Int.mul_ediv_cancel_left _ (by omega)
   have e3:(nl:Int) - (q:Int)=((nl - q:Nat):Int):=by omega
   have e4:(nl - q)*H<=16:=Nat.le_trans (Nat.mul_le_mul (Nat.le_trans (Nat.sub_le _ _) h4) hH) (by decide)
   have e5:(H:Int)*((nl - q:Nat):Int)=(((nl - q)*H:Nat):Int):=by rw [<-Int.natCast_mul,Nat.mul_comm]
   rw [if_pos rfl,e2,wrap_in (x:=(H:Int)) (by omega) (by omega),e3,e5,wrap_in (by omega) (by omega)]
   simp only [Int.ofNat_le,Bool.not_true,Bool.false_or]
theorem view_m (C c g b n H D G W ly hd r q0:Nat) (ls:List (Int × Int)) (R M:List Int) (L:Nat->List Int) (t k:Nat) (tk:Nat->List Tok) (q:Nat->Nat) (col:Nat->Nat) (l:List Tok) (w:World) (hp:PoolAt w g b n R M) (h:CaAt w col c g C H D G W ls M L (cn ls.length t k) tk q) (sh:ShOk H D G W ls)
 (hly:ly<ls.length) (hhd:hd<H) (hr:ly*H+hd=r) (hq0:q r=q0) (htk:tk r=l) (hlen:l.length<=1000) (hT:∀ i (h:i<l.length),TokOk H D l[i]) (hL:∀ i,i<ls.length*H->∀ x,x ∈ L i->0<=x/\x<n/\0<Ls.nth R x.toNat) :
 Calls Tryz.prog 22 #[.pointer (some ⟨C,0,none⟩),.int .i64 (ly:Int),.int .i64 (hd:Int)] w fun e w'=>∃ (v1 v2:Value) (xs ys:List Value),e=.returned (.tuple #[v1,v2]) /\
  TwoN w.heap.size w' v1 v2 l.length l.length (vk ls G D ly hd l q0) (vv ls G D ly hd l q0) xs ys/\Below w.heap.size w w':=by
 subst htk
 exact view_c C c g b n H D G W ly hd r q0 ls R M L t k tk q col w hp h sh hly hhd hr hq0 hlen hT hL
set_option maxRecDepth 100000 in
set_option maxHeartbeats 25600000 in
theorem is_any {X:Nat->Option Obj} (B P g b n H D G W k j a:Nat) (ls:List (Int × Int)) (R M:List Int) (al:Option Addr) (cl:Nat) (va vr:Value) (C:Nat->Nat) (T:Nat->List (List Tok)) (L:Nat->Nat->List Int) (t q:Nat->Nat) (zs:Nat->Value) (col:Nat->Nat)
 (w:World) (hC:Core13 w g b n H D G W ls R M k C T L t q col) (hB:Box13 X B w P g H D G W ls al cl va vr k C zs col) (hD:Doc13 w ls.length k T zs col) (hG:Good13 n (ls.length*H) k j R L t)
 (sh:ShOk H D G W ls) (ha:a<k) (hj:j<=200) :
 Calls Tryz.prog 16 #[.pointer (some ⟨P,0,none⟩),.int .i64 (a:Int)] w fun e w'=>e=.returned (.bool true)/\Below w.heap.size w w':=by
 obtain ⟨sH,sH2,sD,sD2,-⟩:=id sh
 obtain ⟨sG,sG2,sW,sl,sl2,-⟩:=sh.nums
 have hk5:k<=5:=hG.2.2.2.2.2.2
 have htj:t a<=j:=hG.2.2.2.2.1 a ha
 have hC1:=hC.2.2 a ha
 have QL:=hC1.2.1.2.1
 have C1:=Ca.hid hC
 have LY:=Ca.hid hC1.2.1
 have OKD:=Ca.hid hC1.2.2
 have GD:=Ca.hid hG
 have SH:=Ca.hid sh
 obtain ⟨⟨hP,-⟩,⟨hva,-⟩,⟨hvr,-⟩,hps⟩:=hB
 obtain ⟨ga,ca,Fa,rfl,-,hra,hca,fa⟩:=row_of_own hva (by omega)
 obtain ⟨gr,cr,Fr',rfl,-,hrr,hcr,fr⟩:=row_of_own hvr (by omega)
 have fa':Fa a=.pointer (some ⟨C a,0,none⟩):=by have:=fa a ha;unfold cptrs at this;simpa [ha] using this
 have fr':Fr' a=zs a:=by have:=fr a ha;simpa [ha] using this
 obtain ⟨az,cz,ez,sz⟩:=hD a ha
 rw [<-hC1.2.1.1] at ez
 rw [ez] at fr'
 have SZ:=Ca.hid sz
 have PS:=Ca.hid hps.1
 have HPr:=Ca.hid hP
 have za:w.cell? ⟨ga,a,none⟩=some (.pointer (some ⟨C a,0,none⟩)):=by rw [hra.cell (by omega),fa']
 have zr:w.cell? ⟨gr,a,none⟩=some (.slice az (T a).length cz):=by rw [hrr.cell (by omega),fr']
 have c6:w.cell? ⟨P,6,none⟩=some (.slice (some ⟨ga,0,none⟩) k ca):=hP.cell (show 6<8 by decide)
 have c7:w.cell? ⟨P,7,none⟩=some (.slice (some ⟨gr,0,none⟩) k cr):=hP.cell (show 7<8 by decide)
 have NB:Hid (∀ v,Below w.heap.size w v->v.cell? ⟨P,0,none⟩=some (.pointer (some ⟨g,0,none⟩))/\v.cell? ⟨P,1,none⟩=some (.int .i64 (H:Int))/\v.cell? ⟨P,2,none⟩=some (.int .i64 (D:Int))/\v.cell? ⟨P,3,none⟩=some (.int .i64 (G:Int))/\v.cell? ⟨P,4,none⟩=some (.int .i64 (W:Int))/\v.cell? ⟨P,5,none⟩=some (.slice al ls.length cl)):=fun v hv =>
  ⟨(hv.cell (p:=⟨P,0,none⟩) hP.lt).trans (hP.cell (show 0<8 by decide)),(hv.cell (p:=⟨P,1,none⟩) hP.lt).trans (hP.cell (show 1<8 by decide)),(hv.cell (p:=⟨P,2,none⟩) hP.lt).trans (hP.cell (show 2<8 by decide)),(hv.cell (p:=⟨P,3,none⟩) hP.lt).trans (hP.cell (show 3<8 by decide)),(hv.cell (p:=⟨P,4,none⟩) hP.lt).trans (hP.cell (show 4<8 by decide)),(hv.cell (p:=⟨P,5,none⟩) hP.lt).trans (hP.cell (show 5<8 by decide))⟩
 have KB:Hid (∀ v,Below w.heap.size w v->CaAt v col (a+1) g (C a) H D G W ls M (L a) (cn ls.length (t a) (q a)) (tkD (T a) H) (qD G W (T a) H)/\PoolAt v g b n R M):=fun v hv=>⟨(C1.out.2.2 a ha).1.below hv,C1.out.1.keep hv⟩
 have ka0:(0:Int)<=(a:Int):=by omega
 have ka1:(a:Int)<(k:Int):=by omega
 have hT0:0<(T a).length:=by rw [LY.out.1];omega
 have hT1:(T a).length<=10:=by rw [LY.out.1];omega
 have LT:=Ca.hid LY.out.1
 obtain ⟨cf,ecf⟩:∃ cf,Po.cnt R=cf:=⟨_,rfl⟩
 have hcf:cf<=n:=by have h1:=Po.cnt_le R;have h2:=(PoolAt.nums hC.1).2.1;omega
 have hn60:=(PoolAt.nums hC.1).2.2.2.1
 obtain ⟨qd,eqd⟩:∃ qd,decide (gn G W (t a)<gn G W (t a+1))=qd:=⟨_,rfl⟩
 obtain ⟨nd,end'⟩:∃ nd,(if qd=true then ls.length*H else 0)=nd:=⟨_,rfl⟩
 obtain ⟨rr,err⟩:∃ rr,(!qd || decide ((ls.length - q a)*H<=cf))=rr:=⟨_,rfl⟩
 have QD:=Ca.hid eqd
 have NDE:=Ca.hid end'
 have RRE:=Ca.hid err
 have CFE:=Ca.hid ecf
 have nd16:nd<=16:=by
  rw [<-NDE.out]
  split
  ·exact Nat.le_trans (Nat.mul_le_mul sl2 sH2) (by decide)
  ·omega
 have GG:Hid (Tn.Tr.grp (G:Int) (W:Int) ((t a:Int)+1)=(gn G W (t a+1):Int)/\Tn.Tr.grp (G:Int) (W:Int) (t a:Int)=(gn G W (t a):Int)):=⟨by rw [show (t a:Int)+1=((t a+1:Nat):Int) by omega];exact grp_gn (by omega),grp_gn (by omega)⟩
 clear hC hD hG sh hC1 hP hva hvr hra hrr fa fr sz ez hca hcr fa' fr' hps eqd end' err ecf
 go_enter Tryz.func16,Tryz.ntmps16
 go_wp2
 go_region
 obtain ⟨W1,hW1⟩:∃ W1,w.drew=W1:=⟨_,rfl⟩
 have B1:Hid (Below w.heap.size w W1):=by rw [<-hW1];exact (Below.refl _ _).drew
 rw [hW1]
 clear hW1
 have hs1:=B1.out.size
 have SZ1:=Ca.hid (SZ.out.keep carry_toks B1.out)
 go_upto_region 4 with (go_at_call 19;refine (tokens_any (α:=Tok) az cz (T a) _ SZ1.out hT0 hT1).mono ?_;rintro e w' ⟨rfl,hww⟩;cases hww.symm;clear hww;rw [LY.out.toks])
 obtain ⟨x0,x1,x2,x3,x4,x5⟩:=NB.out W1 B1.out
 obtain ⟨ta,eta⟩:∃ x,t a=x:=⟨_,rfl⟩
 have ET:=Ca.hid eta
 obtain ⟨g0,eg0⟩:∃ x,gn G W (t a)=x:=⟨_,rfl⟩
 obtain ⟨g1,eg1⟩:∃ x,gn G W (t a+1)=x:=⟨_,rfl⟩
 have GH:Hid (Tn.Tr.grp (G:Int) (W:Int) ((ta:Int)+1)=(g1:Int)/\Tn.Tr.grp (G:Int) (W:Int) (ta:Int)=(g0:Int)):=by
  have:=GG.out
  rw [eg0,eg1,eta] at this
  exact this
 have QE:Hid (decide ((g0:Int)<(g1:Int))=qd):=by
  show _=_
  rw [<-QD.out,eg0,eg1]
  simp
 rw [eta] at htj ⊢
 clear eta eg0 eg1 GG
 have cA:=Tn.reg_of (u:=W1) fun v hv=>Tn.refGroups_any (G:Int) (W:Int) ((ta:Int)+1) (g1:Int) al ls.length cl (by omega) (by omega) (by omega) (by omega) (by omega) (by omega) GH.out.1 v
 have cB:=Tn.reg_of (u:=W1) fun v hv=>Tn.refGroups_any (G:Int) (W:Int) (ta:Int) (g0:Int) al ls.length cl (by omega) (by omega) (by omega) (by omega) (by omega) (by omega) GH.out.2 v
 have pk3:=cell_regrown x3
 have pk4:=cell_regrown x4
 have pk5:=cell_regrown x5
 have hwr:IntKind.i64.wrap ((ta:Int)+1)=(ta:Int)+1:=Tn.i64_same9 (by omega) (by omega)
 refine wp_region_quiet_below (by kernel_rfl) (by kernel_rfl) ?_
 repeat (go_big_quiet_step (first | (with_reducible exact cA _ _) | (with_reducible exact cB _ _)))
 refine wpQuiet_nil ?_
 intro W2 hw'
 have BQ:Hid (Below W1.heap.size W1 W2):=by obtain ⟨⟨dq,osq⟩,hw''⟩:=hw';rw [hw''];exact below_regrown W1 dq osq
 have B2:Hid (Below w.heap.size w W2):=B1.out.trans (BQ.out.mono hs1)
 clear hw' cA cB pk3 pk4 pk5 hwr x0 x1 x2 x3 x4 x5
 obtain ⟨x0,x1,x2,x3,x4,x5⟩:=NB.out W2 B2.out
 go_upto_if 49 with fail
 go_cut [8] from 49 to 57 (fun v wx=>v=.int .i64 (nd:Int)/\wx=W2)
 case first =>
  cases qd with
  | false =>
    have e0:=of_decide_eq_false QE.out
    have e1:=NDE.out
    simp at e1
    subst e1
    go_wp2
    go_meet
    case rel=>exact ⟨rfl,rfl⟩
  | true =>
    have e0:=of_decide_eq_true QE.out
    have e1:=NDE.out
    simp at e1
    have hmul:IntKind.i64.wrap (((T a).length:Int)*(H:Int))=(nd:Int):=by
     have:((T a).length:Int)*(H:Int)=(nd:Int):=by rw [LT.out,<-e1];simp
     rw [this]
     exact Tn.i64_same9 (by omega) (by omega)
    go_wp2
    go_meet
    case rel=>exact ⟨by first | rfl | simp [hmul],rfl⟩
 case rest =>
  obtain ⟨rfl,hwc⟩:=hcut
  subst hwc
  obtain ⟨Wa,hWa⟩:∃ Wa,Wa=wc:=⟨_,rfl⟩
  subst hWa
  rw [ET.out] at KB
  have KB2:=Ca.hid (fun (v:World) (hv:Below Wa.heap.size Wa v)=>KB.out v (B2.out.trans (hv.mono B2.out.size)))
  have hs2:=B2.out.size
  have SZ2:=Ca.hid (SZ.out.keep carry_toks B2.out)
  go_upto_region 6 with fail
  have RM:Hid (decide (wrap64 (wrap64 ((nd:Int) / ((T a).length:Int))*(((T a).length:Int) - (q a:Int)))<=(cf:Int))=rr):=by
   show _=_
   rw [LT.out]
   exact room_eq (by omega) sl2 sH2 QL NDE.out RRE.out
  have hl0:¬ (ls.length:Int)=0:=by omega
  have hTl:¬ ((T a).length:Int)=0:=by omega
  go_cut [9] from 58 to 73 (fun v wx=>v=.bool rr/\Hid (Below Wa.heap.size Wa wx))
  case first =>
   have cF:=Tn.reg_of (u:=Wa) fun v hv=>(free_any g b n cf R M v (KB2.out v hv).2 CFE.out).mono fun _ _ ⟨h1,h2⟩=>(⟨h1,by rw [h2];exact Below.refl _ _⟩:_/\Below v.heap.size v _)
   have cN:=Tn.reg_of (u:=Wa) fun v hv=>(next_any (α:=Tok) az cz (T a) v (SZ2.out.keep carry_toks hv) hT0 hT1).mono fun _ _ ⟨h1,h2⟩=>(⟨h1.trans (by rw [LY.out.nxt]),by rw [h2];exact Below.refl _ _⟩:_=Ending.returned (.int .i64 (q a:Int))/\Below v.heap.size v _)
   have pk0:=cell_regrown x0
   refine wp_region_quiet_below (by kernel_rfl) (by kernel_rfl) ?_
   repeat (go_big_quiet_step (first | (with_reducible exact cF _ _) | (with_reducible exact cN _ _)))
   refine wpQuiet_nil ?_
   intro W3 hw'
   have BQ3:Hid (Below Wa.heap.size Wa W3):=by obtain ⟨⟨dq,osq⟩,hw''⟩:=hw';rw [hw''];exact below_regrown Wa dq osq
   clear hw'
   go_wp2_with fail
   go_meet
   exact ⟨by rw [RM.out],BQ3.out⟩
  case rest =>
   obtain ⟨rfl,B3⟩:=hcut
   obtain ⟨Wb,hWb⟩:∃ Wb,Wb=wc:=⟨_,rfl⟩
   subst hWb
   have BW:Hid (Below w.heap.size w Wb):=B2.out.trans (B3.out.mono hs2)
   have hs3:=BW.out.size
   have SZb:=Ca.hid (SZ.out.keep carry_toks BW.out)
   clear x0 x1 x2 x3 x4 x5 SZ1 SZ2 KB2
   have NBb:Hid (∀ v,Below Wb.heap.size Wb v->v.cell? ⟨P,1,none⟩=some (.int .i64 (H:Int))/\v.cell? ⟨P,3,none⟩=some (.int .i64 (G:Int))/\v.cell? ⟨P,4,none⟩=some (.int .i64 (W:Int))/\v.cell? ⟨P,5,none⟩=some (.slice al ls.length cl)):=fun v hv=>by
    obtain ⟨-,y1,-,y3,y4,y5⟩:=NB.out v (BW.out.trans (hv.mono hs3))
    exact ⟨y1,y3,y4,y5⟩
   have KBb:=Ca.hid (fun (v:World) (hv:Below Wb.heap.size Wb v)=>KB.out v (BW.out.trans (hv.mono hs3)))
   have CT:Hid (∀ v,Below Wb.heap.size Wb v->Calls Tryz.prog 26 #[.pointer (some ⟨C a,0,none⟩)] v fun e w'=>e=.returned (.int .i64 (ta:Int))/\Below v.heap.size v w'):=fun v hv=>(tokens_c (C a) g H D G W ls ta (q a) v (KBb.out v hv).1.bd QL sl2).mono fun _ _ h=>⟨h.1,by obtain ⟨nq,h2⟩:=h.2;rw [h2];exact Rt.below_drewN (Below.refl _ _) _⟩
   have CN:Hid (∀ v,Below Wb.heap.size Wb v->Calls Tryz.prog 21 #[.pointer (some ⟨C a,0,none⟩)] v fun e w'=>e=.returned (.int .i64 (q a:Int))/\Below v.heap.size v w'):=fun v hv=>(next_c (C a) g H D G W ls ta (q a) v (KBb.out v hv).1.bd QL sl2).mono fun _ _ h=>⟨h.1,by obtain ⟨nq,h2⟩:=h.2;rw [h2];exact Rt.below_drewN (Below.refl _ _) _⟩
   have CM:Hid (∀ v,Below Wb.heap.size Wb v->Calls Tryz.prog 40 #[.slice az (T a).length cz] v fun e w'=>e=.returned (.int .i64 (q a:Int))/\Below v.heap.size v w'):=fun v hv=>(next_any (α:=Tok) az cz (T a) v (SZb.out.keep carry_toks hv) hT0 hT1).mono fun _ _ h=>⟨h.1.trans (by rw [LY.out.nxt]),by rw [h.2];exact Below.refl _ _⟩
   have QD2:Hid (decide (gn G W ta<gn G W (ta+1))=qd):=by have:=QD.out;rw [ET.out] at this;exact this
   have CD:=Ca.hid (fun (v:World) (hv:Below Wb.heap.size Wb v)=>need_c (C a) g H D G W ls ta (q a) nd qd v (KBb.out v hv).1.bd QL sl2 sH2 sG sG2 sW (by omega) QD2.out NDE.out)
   have CR:=Ca.hid (fun (v:World) (hv:Below Wb.heap.size Wb v)=>room_c (C a) g b n H D G W cf ls R M ta (q a) qd rr v (KBb.out v hv).2 CFE.out (KBb.out v hv).1.bd QL sl2 sH2 sG sG2 sW (by omega) QD2.out RRE.out)
   have CL1:Hid (∀ v,Below Wb.heap.size Wb v->Calls Tryz.prog 47 #[.pointer (some ⟨C a,0,none⟩),.int .i64 (-1)] v fun e w'=>e=.returned (.int .i64 0)/\Below v.heap.size v w'):=fun v hv=>(len_c (C a) g H D G W ls ta (q a) (-1) 0 v (KBb.out v hv).1.bd sl2 (by rw [if_neg (by omega)])).mono fun _ _ h=>⟨h.1,by rw [h.2];exact Below.refl _ _⟩
   have CL2:Hid (∀ v,Below Wb.heap.size Wb v->Calls Tryz.prog 47 #[.pointer (some ⟨C a,0,none⟩),.int .i64 ((T a).length:Int)] v fun e w'=>e=.returned (.int .i64 0)/\Below v.heap.size v w'):=fun v hv=>(len_c (C a) g H D G W ls ta (q a) ((T a).length:Int) 0 v (KBb.out v hv).1.bd sl2 (by rw [if_neg (by rw [LT.out];omega)])).mono fun _ _ h=>⟨h.1,by rw [h.2];exact Below.refl _ _⟩
   have CS:=Ca.hid (fun (v:World) (hv:Below Wb.heap.size Wb v)=>shape_c (C a) g H D G W ls M (L a) _ _ _ (a+1) col v (KBb.out v hv).1 (by omega) (by omega))
   have CE:=Ca.hid (fun (a1:Option Addr) (c1:Nat) (v:World) (h1:Tn.Tr.Ps v a1 ls) (hv:Below Wb.heap.size Wb v)=>Tn.refSame_any (G:Int) (W:Int) (G:Int) (W:Int) a1 al c1 cl ls ls true (by unfold Tn.Tr.same;simp) v h1 (PS.out.keep (BW.out.trans (hv.mono hs3))) (by unfold maxLen;omega))
   have z0:Hid (Below Wb.heap.size Wb Wb.drew):=(Below.refl _ _).drew
   obtain ⟨x1,x3,x4,x5⟩:=NBb.out Wb (Below.refl _ _)
   go_upto_region 7 with fail
   go_cut [133] from 74 to 133 (fun v wx=>v=.bool false/\Hid (Below Wb.heap.size Wb wx))
   case first =>
    refine AnyL.begin (fun w'=>w'.cell? ⟨P,1,none⟩=some (.int .i64 (H:Int))/\w'.cell? ⟨P,3,none⟩=some (.int .i64 (G:Int))/\w'.cell? ⟨P,4,none⟩=some (.int .i64 (W:Int))/\w'.cell? ⟨P,5,none⟩=some (.slice al ls.length cl)) [] (by kernel_rfl) ?_
    refine AnyL.take 0 74 (v:=?_) rfl rfl (by kernel_rfl) (by kernel_rfl) (by kernel_rfl) (fun _ _ _ h=>h) (by kernel_rfl) (fun _=>NBb.out _ z0.out) (by rfl) (fun w=>?_) ?_
    rotate_left
    ·go_simp;try rfl
    try simp only [Act.put,List.setIfInBounds_toArray,List.set_cons_zero,List.set_cons_succ]
    refine AnyL.take 2 76 (v:=?_) rfl rfl (by kernel_rfl) (by kernel_rfl) (by kernel_rfl) (fun _ _ _ h=>h) (by kernel_rfl) (fun _=>NBb.out _ z0.out) (by rfl) (fun w=>?_) ?_
    rotate_left
    ·go_simp;try rfl
    try simp only [Act.put,List.setIfInBounds_toArray,List.set_cons_zero,List.set_cons_succ]
    refine AnyL.one 1 (by kernel_rfl) rfl (fun K hK=>?_)
    go_simp
    go_at_call 26
    (with_reducible refine (CT.out _ z0.out).mono ?_)
    rintro e v1 ⟨rfl,hb⟩
    have z1:Hid (Below Wb.heap.size Wb v1):=z0.out.trans (hb.mono z0.out.size)
    clear hb
    refine hK.out _ _ (fun _=>NBb.out v1 z1.out) ?_
    clear hK K
    try simp only [Act.put,List.setIfInBounds_toArray,List.set_cons_zero,List.set_cons_succ]
    refine AnyL.take 3 77 (v:=?_) rfl rfl (by kernel_rfl) (by kernel_rfl) (by kernel_rfl) (fun _ _ _ h=>h) (by kernel_rfl) (fun _=>NBb.out v1 z1.out) (by rfl) (fun w=>?_) ?_
    rotate_left
    ·go_simp;try rfl
    try simp only [Act.put,List.setIfInBounds_toArray,List.set_cons_zero,List.set_cons_succ]
    refine AnyL.take 4 78 (v:=?_) rfl rfl (by kernel_rfl) (by kernel_rfl) (by kernel_rfl) (fun _ _ _ h=>h) (by kernel_rfl) (fun _=>NBb.out v1 z1.out) (by rfl) (fun w=>?_) ?_
    rotate_left
    ·go_simp;try rfl
    try simp only [Act.put,List.setIfInBounds_toArray,List.set_cons_zero,List.set_cons_succ]
    refine AnyL.take 5 79 (v:=?_) rfl rfl (by kernel_rfl) (by kernel_rfl) (by kernel_rfl) (fun _ _ _ h=>h) (by kernel_rfl) (fun _=>NBb.out v1 z1.out) (by rfl) (fun w=>?_) ?_
    rotate_left
    ·go_simp;try rfl
    try simp only [Act.put,List.setIfInBounds_toArray,List.set_cons_zero,List.set_cons_succ]
    refine AnyL.take 7 81 (v:=?_) rfl rfl (by kernel_rfl) (by kernel_rfl) (by kernel_rfl) (fun _ _ _ h=>h) (by kernel_rfl) (fun _=>NBb.out v1 z1.out) (by rfl) (fun w=>?_) ?_
    rotate_left
    ·go_simp;try rfl
    try simp only [Act.put,List.setIfInBounds_toArray,List.set_cons_zero,List.set_cons_succ]
    refine AnyL.one 6 (by kernel_rfl) rfl (fun K hK=>?_)
    go_simp
    go_at_call 21
    (with_reducible refine (CN.out _ z1.out).mono ?_)
    rintro e v2 ⟨rfl,hb⟩
    have z2:Hid (Below Wb.heap.size Wb v2):=z1.out.trans (hb.mono z1.out.size)
    clear hb
    refine hK.out _ _ (fun _=>NBb.out v2 z2.out) ?_
    clear hK K
    try simp only [Act.put,List.setIfInBounds_toArray,List.set_cons_zero,List.set_cons_succ]
    refine AnyL.one 8 (by kernel_rfl) rfl (fun K hK=>?_)
    go_simp
    go_at_call 40
    (with_reducible refine (CM.out _ z2.out).mono ?_)
    rintro e v3 ⟨rfl,hb⟩
    have z3:Hid (Below Wb.heap.size Wb v3):=z2.out.trans (hb.mono z2.out.size)
    clear hb
    refine hK.out _ _ (fun _=>NBb.out v3 z3.out) ?_
    clear hK K
    try simp only [Act.put,List.setIfInBounds_toArray,List.set_cons_zero,List.set_cons_succ]
    refine AnyL.take 9 83 (v:=?_) rfl rfl (by kernel_rfl) (by kernel_rfl) (by kernel_rfl) (fun _ _ _ h=>h) (by kernel_rfl) (fun _=>NBb.out v3 z3.out) (by rfl) (fun w=>?_) ?_
    rotate_left
    ·go_simp;try rfl
    try simp only [Act.put,List.setIfInBounds_toArray,List.set_cons_zero,List.set_cons_succ]
    refine AnyL.take 10 84 (v:=?_) rfl rfl (by kernel_rfl) (by kernel_rfl) (by kernel_rfl) (fun _ _ _ h=>h) (by kernel_rfl) (fun _=>NBb.out v3 z3.out) (by rfl) (fun w=>?_) ?_
    rotate_left
    ·go_simp;try rfl
    try simp only [Act.put,List.setIfInBounds_toArray,List.set_cons_zero,List.set_cons_succ]
    refine AnyL.take 11 85 (v:=?_) rfl rfl (by kernel_rfl) (by kernel_rfl) (by kernel_rfl) (fun _ _ _ h=>h) (by kernel_rfl) (fun _=>NBb.out v3 z3.out) (by rfl) (fun w=>?_) ?_
    rotate_left
    ·go_simp;try rfl
    try simp only [Act.put,List.setIfInBounds_toArray,List.set_cons_zero,List.set_cons_succ]
    refine AnyL.take 12 86 (v:=?_) rfl rfl (by kernel_rfl) (by kernel_rfl) (by kernel_rfl) (fun _ _ _ h=>h) (by kernel_rfl) (fun _=>NBb.out v3 z3.out) (by rfl) (fun w=>?_) ?_
    rotate_left
    ·go_simp;try rfl
    try simp only [Act.put,List.setIfInBounds_toArray,List.set_cons_zero,List.set_cons_succ]
    refine AnyL.take 14 88 (v:=?_) rfl rfl (by kernel_rfl) (by kernel_rfl) (by kernel_rfl) (fun _ _ _ h=>h) (by kernel_rfl) (fun _=>NBb.out v3 z3.out) (by rfl) (fun w=>?_) ?_
    rotate_left
    ·go_simp;try rfl
    try simp only [Act.put,List.setIfInBounds_toArray,List.set_cons_zero,List.set_cons_succ]
    refine AnyL.one 13 (by kernel_rfl) rfl (fun K hK=>?_)
    go_simp
    go_at_call 33
    (with_reducible refine (CD.out _ z3.out).mono ?_)
    rintro e v4 ⟨rfl,hb⟩
    have z4:Hid (Below Wb.heap.size Wb v4):=z3.out.trans (hb.mono z3.out.size)
    clear hb
    refine hK.out _ _ (fun _=>NBb.out v4 z4.out) ?_
    clear hK K
    try simp only [Act.put,List.setIfInBounds_toArray,List.set_cons_zero,List.set_cons_succ]
    refine AnyL.take 15 89 (v:=?_) rfl rfl (by kernel_rfl) (by kernel_rfl) (by kernel_rfl) (fun _ _ _ h=>h) (by kernel_rfl) (fun _=>NBb.out v4 z4.out) (by rfl) (fun w=>?_) ?_
    rotate_left
    ·go_simp;try rfl
    try simp only [Act.put,List.setIfInBounds_toArray,List.set_cons_zero,List.set_cons_succ]
    refine AnyL.take 16 90 (v:=?_) rfl rfl (by kernel_rfl) (by kernel_rfl) (by kernel_rfl) (fun _ _ _ h=>h) (by kernel_rfl) (fun _=>NBb.out v4 z4.out) (by rfl) (fun w=>?_) ?_
    rotate_left
    ·go_simp;try rfl
    try simp only [Act.put,List.setIfInBounds_toArray,List.set_cons_zero,List.set_cons_succ]
    refine AnyL.take 17 91 (v:=?_) rfl rfl (by kernel_rfl) (by kernel_rfl) (by kernel_rfl) (fun _ _ _ h=>h) (by kernel_rfl) (fun _=>NBb.out v4 z4.out) (by rfl) (fun w=>?_) ?_
    rotate_left
    ·go_simp;try rfl
    try simp only [Act.put,List.setIfInBounds_toArray,List.set_cons_zero,List.set_cons_succ]
    refine AnyL.take 18 92 (v:=?_) rfl rfl (by kernel_rfl) (by kernel_rfl) (by kernel_rfl) (fun _ _ _ h=>h) (by kernel_rfl) (fun _=>NBb.out v4 z4.out) (by rfl) (fun w=>?_) ?_
    rotate_left
    ·go_simp;try rfl
    try simp only [Act.put,List.setIfInBounds_toArray,List.set_cons_zero,List.set_cons_succ]
    refine AnyL.take 20 94 (v:=?_) rfl rfl (by kernel_rfl) (by kernel_rfl) (by kernel_rfl) (fun _ _ _ h=>h) (by kernel_rfl) (fun _=>NBb.out v4 z4.out) (by rfl) (fun w=>?_) ?_
    rotate_left
    ·go_simp;try rfl
    try simp only [Act.put,List.setIfInBounds_toArray,List.set_cons_zero,List.set_cons_succ]
    refine AnyL.one 19 (by kernel_rfl) rfl (fun K hK=>?_)
    go_simp
    go_at_call 34
    (with_reducible refine (CR.out _ z4.out).mono ?_)
    rintro e v5 ⟨rfl,hb⟩
    have z5:Hid (Below Wb.heap.size Wb v5):=z4.out.trans (hb.mono z4.out.size)
    clear hb
    refine hK.out _ _ (fun _=>NBb.out v5 z5.out) ?_
    clear hK K
    try simp only [Act.put,List.setIfInBounds_toArray,List.set_cons_zero,List.set_cons_succ]
    refine AnyL.take 21 95 (v:=?_) rfl rfl (by kernel_rfl) (by kernel_rfl) (by kernel_rfl) (fun _ _ _ h=>h) (by kernel_rfl) (fun _=>NBb.out v5 z5.out) (by rfl) (fun w=>?_) ?_
    rotate_left
    ·go_simp;try rfl
    try simp only [Act.put,List.setIfInBounds_toArray,List.set_cons_zero,List.set_cons_succ]
    refine AnyL.take 22 96 (v:=?_) rfl rfl (by kernel_rfl) (by kernel_rfl) (by kernel_rfl) (fun _ _ _ h=>h) (by kernel_rfl) (fun _=>NBb.out v5 z5.out) (by rfl) (fun w=>?_) ?_
    rotate_left
    ·go_simp;try rfl
    try simp only [Act.put,List.setIfInBounds_toArray,List.set_cons_zero,List.set_cons_succ]
    refine AnyL.take 23 97 (v:=?_) rfl rfl (by kernel_rfl) (by kernel_rfl) (by kernel_rfl) (fun _ _ _ h=>h) (by kernel_rfl) (fun _=>NBb.out v5 z5.out) (by rfl) (fun w=>?_) ?_
    rotate_left
    ·go_simp;try rfl
    try simp only [Act.put,List.setIfInBounds_toArray,List.set_cons_zero,List.set_cons_succ]
    refine AnyL.take 24 98 (v:=?_) rfl rfl (by kernel_rfl) (by kernel_rfl) (by kernel_rfl) (fun _ _ _ h=>h) (by kernel_rfl) (fun _=>NBb.out v5 z5.out) (by rfl) (fun w=>?_) ?_
    rotate_left
    ·go_simp;try rfl
    try simp only [Act.put,List.setIfInBounds_toArray,List.set_cons_zero,List.set_cons_succ]
    refine AnyL.one 25 (by kernel_rfl) rfl (fun K hK=>?_)
    go_simp
    go_at_call 47
    (with_reducible refine (CL1.out _ z5.out).mono ?_)
    rintro e v6 ⟨rfl,hb⟩
    have z6:Hid (Below Wb.heap.size Wb v6):=z5.out.trans (hb.mono z5.out.size)
    clear hb
    refine hK.out _ _ (fun _=>NBb.out v6 z6.out) ?_
    clear hK K
    try simp only [Act.put,List.setIfInBounds_toArray,List.set_cons_zero,List.set_cons_succ]
    refine AnyL.take 26 100 (v:=?_) rfl rfl (by kernel_rfl) (by kernel_rfl) (by kernel_rfl) (fun _ _ _ h=>h) (by kernel_rfl) (fun _=>NBb.out v6 z6.out) (by rfl) (fun w=>?_) ?_
    rotate_left
    ·go_simp;try rfl
    try simp only [Act.put,List.setIfInBounds_toArray,List.set_cons_zero,List.set_cons_succ]
    refine AnyL.take 27 101 (v:=?_) rfl rfl (by kernel_rfl) (by kernel_rfl) (by kernel_rfl) (fun _ _ _ h=>h) (by kernel_rfl) (fun _=>NBb.out v6 z6.out) (by rfl) (fun w=>?_) ?_
    rotate_left
    ·go_simp;try rfl
    try simp only [Act.put,List.setIfInBounds_toArray,List.set_cons_zero,List.set_cons_succ]
    refine AnyL.take 28 102 (v:=?_) rfl rfl (by kernel_rfl) (by kernel_rfl) (by kernel_rfl) (fun _ _ _ h=>h) (by kernel_rfl) (fun _=>NBb.out v6 z6.out) (by rfl) (fun w=>?_) ?_
    rotate_left
    ·go_simp;try rfl
    try simp only [Act.put,List.setIfInBounds_toArray,List.set_cons_zero,List.set_cons_succ]
    refine AnyL.take 29 103 (v:=?_) rfl rfl (by kernel_rfl) (by kernel_rfl) (by kernel_rfl) (fun _ _ _ h=>h) (by kernel_rfl) (fun _=>NBb.out v6 z6.out) (by rfl) (fun w=>?_) ?_
    rotate_left
    ·go_simp;try rfl
    try simp only [Act.put,List.setIfInBounds_toArray,List.set_cons_zero,List.set_cons_succ]
    refine AnyL.take 30 104 (v:=?_) rfl rfl (by kernel_rfl) (by kernel_rfl) (by kernel_rfl) (fun _ _ _ h=>h) (by kernel_rfl) (fun _=>NBb.out v6 z6.out) (by rfl) (fun w=>?_) ?_
    rotate_left
    ·go_simp;try rfl
    try simp only [Act.put,List.setIfInBounds_toArray,List.set_cons_zero,List.set_cons_succ]
    refine AnyL.take 31 105 (v:=?_) rfl rfl (by kernel_rfl) (by kernel_rfl) (by kernel_rfl) (fun _ _ _ h=>h) (by kernel_rfl) (fun _=>NBb.out v6 z6.out) (by rfl) (fun w=>?_) ?_
    rotate_left
    ·go_simp;try rfl
    try simp only [Act.put,List.setIfInBounds_toArray,List.set_cons_zero,List.set_cons_succ]
    refine AnyL.one 32 (by kernel_rfl) rfl (fun K hK=>?_)
    go_simp
    go_at_call 47
    (with_reducible refine (CL2.out _ z6.out).mono ?_)
    rintro e v7 ⟨rfl,hb⟩
    have z7:Hid (Below Wb.heap.size Wb v7):=z6.out.trans (hb.mono z6.out.size)
    clear hb
    refine hK.out _ _ (fun _=>NBb.out v7 z7.out) ?_
    clear hK K
    try simp only [Act.put,List.setIfInBounds_toArray,List.set_cons_zero,List.set_cons_succ]
    refine AnyL.take 33 107 (v:=?_) rfl rfl (by kernel_rfl) (by kernel_rfl) (by kernel_rfl) (fun _ _ _ h=>h) (by kernel_rfl) (fun _=>NBb.out v7 z7.out) (by rfl) (fun w=>?_) ?_
    rotate_left
    ·go_simp;try rfl
    try simp only [Act.put,List.setIfInBounds_toArray,List.set_cons_zero,List.set_cons_succ]
    refine AnyL.take 34 108 (v:=?_) rfl rfl (by kernel_rfl) (by kernel_rfl) (by kernel_rfl) (fun _ _ _ h=>h) (by kernel_rfl) (fun _=>NBb.out v7 z7.out) (by rfl) (fun w=>?_) ?_
    rotate_left
    ·go_simp;try rfl
    try simp only [Act.put,List.setIfInBounds_toArray,List.set_cons_zero,List.set_cons_succ]
    refine AnyL.take 35 109 (v:=?_) rfl rfl (by kernel_rfl) (by kernel_rfl) (by kernel_rfl) (fun _ _ _ h=>h) (by kernel_rfl) (fun _=>NBb.out v7 z7.out) (by rfl) (fun w=>?_) ?_
    rotate_left
    ·go_simp;try rfl
    try simp only [Act.put,List.setIfInBounds_toArray,List.set_cons_zero,List.set_cons_succ]
    refine AnyL.take 36 110 (v:=?_) rfl rfl (by kernel_rfl) (by kernel_rfl) (by kernel_rfl) (fun _ _ _ h=>h) (by kernel_rfl) (fun _=>NBb.out v7 z7.out) (by rfl) (fun w=>?_) ?_
    rotate_left
    ·go_simp;try rfl
    try simp only [Act.put,List.setIfInBounds_toArray,List.set_cons_zero,List.set_cons_succ]
    refine AnyL.take 40 114 (v:=?_) rfl rfl (by kernel_rfl) (by kernel_rfl) (by kernel_rfl) (fun _ _ _ h=>h) (by kernel_rfl) (fun _=>NBb.out v7 z7.out) (by rfl) (fun w=>?_) ?_
    rotate_left
    ·go_simp;try rfl
    try simp only [Act.put,List.setIfInBounds_toArray,List.set_cons_zero,List.set_cons_succ]
    refine AnyL.take 41 115 (v:=?_) rfl rfl (by kernel_rfl) (by kernel_rfl) (by kernel_rfl) (fun _ _ _ h=>h) (by kernel_rfl) (fun _=>NBb.out v7 z7.out) (by rfl) (fun w=>?_) ?_
    rotate_left
    ·go_simp;try rfl
    try simp only [Act.put,List.setIfInBounds_toArray,List.set_cons_zero,List.set_cons_succ]
    refine AnyL.take 42 116 (v:=?_) rfl rfl (by kernel_rfl) (by kernel_rfl) (by kernel_rfl) (fun _ _ _ h=>h) (by kernel_rfl) (fun _=>NBb.out v7 z7.out) (by rfl) (fun w=>?_) ?_
    rotate_left
    ·go_simp;try rfl
    try simp only [Act.put,List.setIfInBounds_toArray,List.set_cons_zero,List.set_cons_succ]
    refine AnyL.take 43 117 (v:=?_) rfl rfl (by kernel_rfl) (by kernel_rfl) (by kernel_rfl) (fun _ _ _ h=>h) (by kernel_rfl) (fun _=>NBb.out v7 z7.out) (by rfl) (fun w=>?_) ?_
    rotate_left
    ·go_simp;try rfl
    try simp only [Act.put,List.setIfInBounds_toArray,List.set_cons_zero,List.set_cons_succ]
    refine AnyL.load 44 118 [] (v:=?_) rfl rfl (by kernel_rfl) (by kernel_rfl) (by kernel_rfl) (fun _ _ _ h=>h) (by kernel_rfl) (by kernel_rfl) (by kernel_rfl) (by kernel_rfl) (fun _=>NBb.out v7 z7.out) (by rfl) (fun w hSw=>?_) ?_
    rotate_left
    ·obtain ⟨x1,x3,x4,x5⟩:=hSw;go_simp;try rfl
    try simp only [Act.put,List.setIfInBounds_toArray,List.set_cons_zero,List.set_cons_succ]
    refine AnyL.one 37 (by kernel_rfl) rfl (fun K hK=>?_)
    go_simp
    go_at_call 31
    (with_reducible refine (CS.out _ z7.out).mono ?_)
    rintro e v8 ⟨a8,c8,rfl,-,-,hp8,hb⟩
    have z8:Hid (Below Wb.heap.size Wb v8):=z7.out.trans (hb.mono z7.out.size)
    have P8:=Ca.hid hp8
    clear hb
    refine hK.out _ _ (fun _=>NBb.out v8 z8.out) ?_
    clear hK K
    try simp only [Act.put,List.setIfInBounds_toArray,List.set_cons_zero,List.set_cons_succ]
    refine AnyL.one 38 (by kernel_rfl) rfl (fun K hK=>?_)
    go_simp
    go_at_call 12
    (with_reducible refine (Tn.refShape_any _ _ _ _ (some ⟨a8,0,none⟩) c8 ls _ P8.out (by omega)).mono ?_)
    rintro e v9 ⟨a9,c9,rfl,-,hb,-⟩
    have z9:Hid (Below Wb.heap.size Wb v9):=z8.out.trans (hb.mono z8.out.size)
    clear hb
    refine hK.out _ _ (fun _=>NBb.out v9 z9.out) ?_
    clear hK K
    try simp only [Act.put,List.setIfInBounds_toArray,List.set_cons_zero,List.set_cons_succ]
    refine AnyL.take 39 113 (v:=?_) rfl rfl (by kernel_rfl) (by kernel_rfl) (by kernel_rfl) (fun _ _ _ h=>h) (by kernel_rfl) (fun _=>NBb.out v9 z9.out) (by rfl) (fun w=>?_) ?_
    rotate_left
    ·go_simp;try rfl
    try simp only [Act.put,List.setIfInBounds_toArray,List.set_cons_zero,List.set_cons_succ]
    refine AnyL.take 45 119 (v:=?_) rfl rfl (by kernel_rfl) (by kernel_rfl) (by kernel_rfl) (fun _ _ _ h=>h) (by kernel_rfl) (fun _=>NBb.out v9 z9.out) (by rfl) (fun w=>?_) ?_
    rotate_left
    ·go_simp;try rfl
    try simp only [Act.put,List.setIfInBounds_toArray,List.set_cons_zero,List.set_cons_succ]
    refine AnyL.take 46 120 (v:=?_) rfl rfl (by kernel_rfl) (by kernel_rfl) (by kernel_rfl) (fun _ _ _ h=>h) (by kernel_rfl) (fun _=>NBb.out v9 z9.out) (by rfl) (fun w=>?_) ?_
    rotate_left
    ·go_simp;try rfl
    try simp only [Act.put,List.setIfInBounds_toArray,List.set_cons_zero,List.set_cons_succ]
    refine AnyL.take 47 121 (v:=?_) rfl rfl (by kernel_rfl) (by kernel_rfl) (by kernel_rfl) (fun _ _ _ h=>h) (by kernel_rfl) (fun _=>NBb.out v9 z9.out) (by rfl) (fun w=>?_) ?_
    rotate_left
    ·go_simp;try rfl
    try simp only [Act.put,List.setIfInBounds_toArray,List.set_cons_zero,List.set_cons_succ]
    refine AnyL.take 48 122 (v:=?_) rfl rfl (by kernel_rfl) (by kernel_rfl) (by kernel_rfl) (fun _ _ _ h=>h) (by kernel_rfl) (fun _=>NBb.out v9 z9.out) (by rfl) (fun w=>?_) ?_
    rotate_left
    ·go_simp;try rfl
    try simp only [Act.put,List.setIfInBounds_toArray,List.set_cons_zero,List.set_cons_succ]
    refine AnyL.take 52 126 (v:=?_) rfl rfl (by kernel_rfl) (by kernel_rfl) (by kernel_rfl) (fun _ _ _ h=>h) (by kernel_rfl) (fun _=>NBb.out v9 z9.out) (by rfl) (fun w=>?_) ?_
    rotate_left
    ·go_simp;try rfl
    try simp only [Act.put,List.setIfInBounds_toArray,List.set_cons_zero,List.set_cons_succ]
    refine AnyL.take 53 127 (v:=?_) rfl rfl (by kernel_rfl) (by kernel_rfl) (by kernel_rfl) (fun _ _ _ h=>h) (by kernel_rfl) (fun _=>NBb.out v9 z9.out) (by rfl) (fun w=>?_) ?_
    rotate_left
    ·go_simp;try rfl
    try simp only [Act.put,List.setIfInBounds_toArray,List.set_cons_zero,List.set_cons_succ]
    refine AnyL.take 54 128 (v:=?_) rfl rfl (by kernel_rfl) (by kernel_rfl) (by kernel_rfl) (fun _ _ _ h=>h) (by kernel_rfl) (fun _=>NBb.out v9 z9.out) (by rfl) (fun w=>?_) ?_
    rotate_left
    ·go_simp;try rfl
    try simp only [Act.put,List.setIfInBounds_toArray,List.set_cons_zero,List.set_cons_succ]
    refine AnyL.take 55 129 (v:=?_) rfl rfl (by kernel_rfl) (by kernel_rfl) (by kernel_rfl) (fun _ _ _ h=>h) (by kernel_rfl) (fun _=>NBb.out v9 z9.out) (by rfl) (fun w=>?_) ?_
    rotate_left
    ·go_simp;try rfl
    try simp only [Act.put,List.setIfInBounds_toArray,List.set_cons_zero,List.set_cons_succ]
    refine AnyL.load 56 130 [] (v:=?_) rfl rfl (by kernel_rfl) (by kernel_rfl) (by kernel_rfl) (fun _ _ _ h=>h) (by kernel_rfl) (by kernel_rfl) (by kernel_rfl) (by kernel_rfl) (fun _=>NBb.out v9 z9.out) (by rfl) (fun w hSw=>?_) ?_
    rotate_left
    ·obtain ⟨x1,x3,x4,x5⟩:=hSw;go_simp;try rfl
    try simp only [Act.put,List.setIfInBounds_toArray,List.set_cons_zero,List.set_cons_succ]
    refine AnyL.one 49 (by kernel_rfl) rfl (fun K hK=>?_)
    go_simp
    go_at_call 31
    (with_reducible refine (CS.out _ z9.out).mono ?_)
    rintro e v10 ⟨a10,c10,rfl,-,-,hp10,hb⟩
    have z10:Hid (Below Wb.heap.size Wb v10):=z9.out.trans (hb.mono z9.out.size)
    have P10:=Ca.hid hp10
    clear hb
    refine hK.out _ _ (fun _=>NBb.out v10 z10.out) ?_
    clear hK K
    try simp only [Act.put,List.setIfInBounds_toArray,List.set_cons_zero,List.set_cons_succ]
    refine AnyL.one 50 (by kernel_rfl) rfl (fun K hK=>?_)
    go_simp
    go_at_call 12
    (with_reducible refine (Tn.refShape_any _ _ _ _ (some ⟨a10,0,none⟩) c10 ls _ P10.out (by omega)).mono ?_)
    rintro e v11 ⟨a11,c11,rfl,hp11,hb,-⟩
    have z11:Hid (Below Wb.heap.size Wb v11):=z10.out.trans (hb.mono z10.out.size)
    have P11:=Ca.hid hp11
    clear hb
    refine hK.out _ _ (fun _=>NBb.out v11 z11.out) ?_
    clear hK K
    try simp only [Act.put,List.setIfInBounds_toArray,List.set_cons_zero,List.set_cons_succ]
    refine AnyL.take 51 125 (v:=.agg #[.int .i64 (G:Int),.int .i64 (W:Int),.slice a11 ls.length c11]) rfl rfl (by kernel_rfl) (by kernel_rfl) (by kernel_rfl) (fun _ _ _ h=>h) (by kernel_rfl) (fun _=>NBb.out v11 z11.out) (by rfl) (fun w=>by kernel_rfl) ?_
    try simp only [Act.put,List.setIfInBounds_toArray,List.set_cons_zero,List.set_cons_succ]
    refine AnyL.one 57 (by kernel_rfl) rfl (fun K hK=>?_)
    go_simp
    go_at_call 48
    (with_reducible refine (CE.out a11 c11 _ P11.out z11.out).mono ?_)
    rintro e v12 ⟨rfl,hb⟩
    have z12:Hid (Below Wb.heap.size Wb v12):=z11.out.trans (hb.mono z11.out.size)
    clear hb
    refine hK.out _ _ (fun _=>NBb.out v12 z12.out) ?_
    clear hK K
    try simp only [Act.put,List.setIfInBounds_toArray,List.set_cons_zero,List.set_cons_succ]
    refine AnyL.take 58 132 (v:=?_) rfl rfl (by kernel_rfl) (by kernel_rfl) (by kernel_rfl) (fun _ _ _ h=>h) (by kernel_rfl) (fun _=>NBb.out v12 z12.out) (by rfl) (fun w=>?_) ?_
    rotate_left
    ·go_simp;try rfl
    try simp only [Act.put,List.setIfInBounds_toArray,List.set_cons_zero,List.set_cons_succ]
    refine AnyL.take 59 133 (v:=?_) rfl rfl (by kernel_rfl) (by kernel_rfl) (by kernel_rfl) (fun _ _ _ h=>h) (by kernel_rfl) (fun _=>NBb.out v12 z12.out) (by rfl) (fun w=>?_) ?_
    rotate_left
    ·go_simp;try rfl
    try simp only [Act.put,List.setIfInBounds_toArray,List.set_cons_zero,List.set_cons_succ]
    refine AnyL.done (by kernel_rfl) ?_ _
    go_wp2_with fail
    go_meet
    exact ⟨by simp,z12.out⟩
   case rest =>
    obtain ⟨rfl,B4⟩:=hcut
    obtain ⟨Wc,hWc⟩:∃ Wc,Wc=wc:=⟨_,rfl⟩
    subst hWc
    clear CT CN CM CD CR CL1 CL2 CS CE
    have BWc:Hid (Below w.heap.size w Wc):=BW.out.trans (B4.out.mono hs3)
    have hsc:=BWc.out.size
    have PB:Hid (∀ v,Below Wc.heap.size Wc v->v.cell? ⟨P,1,none⟩=some (.int .i64 (H:Int))/\v.cell? ⟨P,2,none⟩=some (.int .i64 (D:Int))/\v.cell? ⟨P,3,none⟩=some (.int .i64 (G:Int))/\v.cell? ⟨P,4,none⟩=some (.int .i64 (W:Int))/\v.cell? ⟨P,5,none⟩=some (.slice al ls.length cl)):=fun v hv=>(NB.out v (BWc.out.trans (hv.mono hsc))).2
    have KC:=Ca.hid (fun (v:World) (hv:Below Wc.heap.size Wc v)=>KB.out v (BWc.out.trans (hv.mono hsc)))
    have PR:=Ca.hid (fun (v:World) (hv:Below Wc.heap.size Wc v)=>(⟨HPr.out.of_block ((BWc.out.trans (hv.mono hsc)).block P HPr.out.lt),PS.out.keep (BWc.out.trans (hv.mono hsc))⟩:_/\Tn.Tr.Ps v al ls))
    have SZc:=Ca.hid (SZ.out.keep carry_toks BWc.out)
    have RO:=Ca.hid (GD.out.rows ha)
    have LEN:=Ca.hid (rows_in (KC.out Wc (Below.refl _ _)).1)
    have LL:Hid (∀ y,y<ls.length->lv ta (q a) y=(Ca.nt (T a) y).length/\(Ca.nt (T a) y).length<=1000):=fun y hy=>by
     have h1:=LY.out.2.2 y hy
     rw [ET.out] at h1
     have h2:=lv_le ta (q a) y
     exact ⟨h1.symm,by omega⟩
    have NM:Hid (∀ m,m<=ls.length*H->Bk.len (L a) m<=800):=fun m hm=>by
     have h1:=GD.out.2.2.1 a ha
     have h2:=Bk.len_mono (L a) hm
     omega
    have IB:Hid (∀ y,y<ls.length->Gp.St (mk ls y) (top (mk ls y))/\Gp.St (mv ls y) (top (mv ls y))/\Tn.Tr.fst ls y=(mk ls y:Int)/\Tn.Tr.snd ls y=(mv ls y:Int)):=fun y hy=>by
     obtain ⟨f0,f1,st0,st1⟩:=SH.out.bits hy
     exact ⟨st0,st1,f0,f1⟩
    clear SZb NBb KBb NB KB SZ LY GD C1
    try clear x1
    try clear x3
    try clear x4
    try clear x5
    obtain ⟨bz,oz,rfl,-,hbz,hcs0⟩:=SZc.out.cells (by omega)
    have TC:=Ca.hid hcs0
    clear hcs0
    go_wp2
    go_loopw [10,136] (fun v i wq=>∃ s:Nat,s<=ls.length/\i=.int .i64 s/\v=.int .i64 ((Bk.len (L a) (s*H):Nat):Int)/\Hid (Below Wc.heap.size Wc wq)) (fun _ i _=>ls.length - (intOf i).toNat)
    case atStart=>exact ⟨0,Nat.zero_le _,rfl,by rw [Nat.zero_mul];rfl,Below.refl _ _⟩
    case round =>
     obtain ⟨s,hs,rfl,rfl,B5⟩:=hrel
     by_cases hlt:s<ls.length
     ·obtain ⟨A0,C0,hck0,hAC,hAm,hAn,hAS⟩:=TC.out s (by rw [LT.out];exact hlt)
      have hck:wr.cell? ⟨bz,oz+s,none⟩=some (.slice A0 (Ca.nt (T a) s).length C0):=(B5.out.cell (p:=⟨bz,oz+s,none⟩) hbz).trans hck0
      clear hck0
      obtain ⟨hl0,hl1⟩:=LL.out s hlt
      have hlT:=OKD.out s
      have hlen:=LEN.out
      obtain ⟨l,el⟩:∃ l,Ca.nt (T a) s=l:=⟨_,rfl⟩
      have TK:Hid (∀ h,h<H->tkD (T a) H (s*H+h)=l/\qD G W (T a) H (s*H+h)=gn G W l.length):=fun h hh=>by
       have h1:=(up_row s h H hh).1
       exact ⟨by unfold tkD;rw [h1,el],by unfold qD;rw [h1,el]⟩
      have NX:Hid (∀ h,h<H->Bk.len (L a) (s*H+h+1)=Bk.len (L a) (s*H+h)+gn G W l.length):=fun h hh=>by
       rw [len_rows hlen s h hlt hh,el]
      rw [el] at hck hAC hAm hAS hl0 hl1 hlT
      have SAB:=Ca.hid (fun (v:World) (hv:Below Wc.heap.size Wc v)=>hAS.keep carry_tok hv)
      have AN:=Ca.hid hAn
      have TL:=Ca.hid hlT
      obtain ⟨q0,eq0⟩:∃ q0,gn G W l.length=q0:=⟨_,rfl⟩
      have EQ:=Ca.hid eq0
      rw [eq0] at TK NX
      have hqG:q0*G<=l.length:=by rw [<-eq0];exact gn_mul sG
      have hgr:Hid (Tn.Tr.grp (G:Int) (W:Int) (l.length:Int)=(q0:Int)):=by show _=_;rw [grp_gn (by omega),eq0]
      have e0:(0:Int)<=(s:Int):=by omega
      have e1:(s:Int)<((T a).length:Int):=by rw [LT.out];omega
      have hs5:=B5.out.size
      obtain ⟨x1,x2,x3,x4,x5⟩:=PB.out wr B5.out
      have B5q:=B5
      clear hAS hAn hlT hlen el eq0
      go_upto_region 15 with (go_at_call 47;refine (len_c (C a) g H D G W ls ta (q a) (s:Int) l.length wr (KC.out wr B5.out).1.bd sl2 (by rw [if_pos (by omega),Int.toNat_natCast];exact hl0)).mono ?_;rintro e w' ⟨rfl,hww⟩;cases hww.symm;clear hww)
      go_wp2
      clear x1 x2 x3 x4 x5 hck
      go_loopw [10,152] (fun v i wq=>∃ h:Nat,h<=H/\i=.int .i64 h/\v=.int .i64 ((Bk.len (L a) (s*H+h):Nat):Int)/\Hid (Below Wc.heap.size Wc wq)) (fun _ i _=>H - (intOf i).toNat)
      case atStart=>exact ⟨0,Nat.zero_le _,rfl,rfl,B5q.out⟩
      case round =>
       obtain ⟨h,hh,rfl,rfl,B6⟩:=hrel
       by_cases hlt2:h<H
       ·obtain ⟨etk,eqd⟩:=TK.out h hlt2
        have enx:=NX.out h hlt2
        have ETK:=Ca.hid etk
        have EQD:=Ca.hid eqd
        have hr:s*H+h+1<=ls.length*H:=by
         have h1:(s+1)*H<=ls.length*H:=Nat.mul_le_mul_right H (by omega)
         rw [Nat.add_mul] at h1
         omega
        have hn1:=NM.out _ hr
        rw [enx] at hn1
        obtain ⟨N0,eN0⟩:∃ N0,Bk.len (L a) (s*H+h)=N0:=⟨_,rfl⟩
        rw [eN0] at hn1 enx ⊢
        have ENX:=Ca.hid enx
        obtain ⟨r,er⟩:∃ r,s*H+h=r:=⟨_,rfl⟩
        rw [er] at ETK EQD
        have ER:=Ca.hid er
        have DK:=Ca.hid (rows_deep (KC.out wr B6.out).1 SH.out hlt hlt2 er EQD.out)
        rw [ETK.out] at DK
        have VR:=Ca.hid (vk_rows hlt2 TL.out sD2 DK.out)
        have VL:Hid (l.length=(vk ls G D s h l q0).length/\l.length=(vv ls G D s h l q0).length):=⟨(vk_len hqG).1.symm,(vk_len hqG).2.symm⟩
        have TT:Hid (∀ k (hk:k<l.length),h<(l[k]).1.length/\h<(l[k]).2.length/\(Ca.nt (l[k]).1 h).length=D/\(Ca.nt (l[k]).2 h).length=D/\Ls.In32 (Ca.nt (l[k]).1 h)/\Ls.In32 (Ca.nt (l[k]).2 h)):=fun k hk=>by
         obtain ⟨y1,y2,y3⟩:=TL.out k hk
         obtain ⟨z1,z2,z3,z4⟩:=y3 h hlt2
         exact ⟨by omega,by omega,z1,z2,z3,z4⟩
        have hs6:=B6.out.size
        have f0:(0:Int)<=(h:Int):=by omega
        have f1:(h:Int)<(H:Int):=by omega
        obtain ⟨x1,x2,x3,x4,x5⟩:=PB.out wr B6.out
        clear etk eqd enx er eN0
        go_wp2_with (first
         | (go_at_call 22;refine (view_m (C a) (a+1) g b n H D G W s h r q0 ls R M (L a) ta (q a) (tkD (T a) H) (qD G W (T a) H) col l wr (KC.out wr B6.out).2 (KC.out wr B6.out).1 SH.out hlt hlt2 ER.out EQD.out ETK.out hl1 TL.out RO.out).mono ?_;rintro e w2 ⟨v1,v2,xs,ys,rfl,htw,hb⟩;obtain ⟨a1,c1,rfl,t1,-,-⟩:=htw.tbl;obtain ⟨a2,c2,rfl,t2,-,-⟩:=htw.swap.tbl;have T1:=Ca.hid t1;have T2:=Ca.hid t2;have B7:Hid (Below Wc.heap.size Wc w2):=B6.out.trans (hb.mono hs6);have hs7:=B7.out.size;obtain ⟨x1,x2,x3,x4,x5⟩:=PB.out w2 B7.out;clear htw hb t1 t2)
         | (go_at_call 49;refine (viewL_any H D G W (mk ls s) (mv ls s) (top (mk ls s)) (top (mv ls s)) s h q0 al ls cl A0 C0 l w2 (IB.out s hlt).1 (IB.out s hlt).2.1 (PR.out w2 B7.out).2 hlt (IB.out s hlt).2.2.1 (IB.out s hlt).2.2.2 sl2 (SAB.out w2 B7.out) hAC hl1 (by omega) sG sG2 sW sD sD2 hgr.out hqG TT.out DK.out).mono ?_;rintro e w3 ⟨a3,c3,a4,c4,ln,rfl,rfl,t3,t4,hb⟩;have T3:Hid (Tbl w3 a3 (vk ls G D s h l q0)):=t3;have T4:Hid (Tbl w3 a4 (vv ls G D s h l q0)):=t4;have T1b:=Ca.hid (T1.out.keep hb);have T2b:=Ca.hid (T2.out.keep hb);have B8:Hid (Below Wc.heap.size Wc w3):=B7.out.trans (hb.mono hs7);have hs8:=B8.out.size;clear hb t3 t4)
         | (go_at_call 23;(with_reducible refine (sameT_anym a1 a3 c1 c3 l.length l.length (vk ls G D s h l q0) w3 VL.out.1 VL.out.1 T1b.out T3.out (by have:=VL.out.1;omega) VR.out.1).mono ?_);rintro e w4 ⟨rfl,hb⟩;have T2c:=Ca.hid (T2b.out.keep hb);have T4c:=Ca.hid (T4.out.keep hb);have B9:Hid (Below Wc.heap.size Wc w4):=B8.out.trans (hb.mono hs8);have hs9:=B9.out.size;clear hb)
         | (go_at_call 23;(with_reducible refine (sameT_anym a2 a4 c2 c4 l.length l.length (vv ls G D s h l q0) w4 VL.out.2 VL.out.2 T2c.out T4c.out (by have:=VL.out.2;omega) VR.out.2).mono ?_);rintro e w5 ⟨rfl,hb⟩;have B10:Hid (Below Wc.heap.size Wc w5):=B9.out.trans (hb.mono hs9);have hs10:=B10.out.size;clear hb)
         | (go_at_call 50;refine (pagesP_any P (C a) (a+1) g b n H D G W s h r q0 ta (q a) ls R M (L a) (tkD (T a) H) (qD G W (T a) H) col al cl _ _ A0 C0 l w5 (PR.out w5 B10.out).1 (PR.out w5 B10.out).2 (KC.out w5 B10.out).2 (KC.out w5 B10.out).1 SH.out hlt hlt2 ER.out EQD.out ETK.out EQ.out hl1 TL.out RO.out (SAB.out w5 B10.out) hAC AN.out).mono ?_;rintro e w6 ⟨rfl,hb⟩;have B11:Hid (Below Wc.heap.size Wc w6):=B10.out.trans (hb.mono hs10);have hs11:=B11.out.size;obtain ⟨x1,x2,x3,x4,x5⟩:=PB.out w6 B11.out;clear hb)
         | (go_at_call 46;refine (Tn.refGroups_any (G:Int) (W:Int) (l.length:Int) (q0:Int) al ls.length cl (by omega) (by omega) (by omega) (by omega) (by omega) (by omega) hgr.out w6).mono ?_;rintro e w7 ⟨rfl,hb⟩;have B12:Hid (Below Wc.heap.size Wc w7):=B11.out.trans (hb.mono hs11);clear hb))
        go_roundw
        case rel =>
         refine ⟨h+1,by omega,by go_num,?_,B12.out⟩
         rw [show s*H+(h+1)=s*H+h+1 by omega,ENX.out]
         go_num
        case measure=>simp [intOf];omega
       ·have eh:h=H:=by omega
        subst eh
        go_wp2
        go_roundw
        case rel=>exact ⟨s+1,by omega,by go_num,by rw [Nat.add_mul,Nat.one_mul],B6.out⟩
        case measure=>simp [intOf];omega
     ·have es:s=ls.length:=by omega
      subst es
      obtain ⟨N,eN⟩:∃ N,Bk.len (L a) (ls.length*H)=N:=⟨_,rfl⟩
      have EN:=Ca.hid eN
      have hN8:N<=800:=by rw [<-eN];exact NM.out _ (Nat.le_refl _)
      have hm16:ls.length*H<=16:=Nat.le_trans (Nat.mul_le_mul sl2 sH2) (by decide)
      have hs5:=B5.out.size
      rw [eN]
      clear eN
      have nlt:¬ ((ls.length:Int)<((T a).length:Int)):=by rw [LT.out];omega
      go_wp2_with (go_at_call 27;refine (slots_c (C a) (a+1) g H D G W N ls M (L a) _ _ _ col wr (KC.out wr B5.out).1 hm16 EN.out (by omega)).mono ?_;rintro e w2 ⟨sa,sc,rfl,-,hb⟩;have B7:Hid (Below Wc.heap.size Wc w2):=B5.out.trans (hb.mono hs5);clear hb)
      go_ret
      exact ⟨by simp,BWc.out.trans (B7.out.mono hsc)⟩
end Cc
end Go.Proofs.YtnchnlgnnlgjcaaGreat
