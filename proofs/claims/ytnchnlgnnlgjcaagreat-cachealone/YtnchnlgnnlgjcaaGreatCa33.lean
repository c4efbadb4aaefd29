import Derived.Test.YtnchnlgnnlgjcaaGreatCa29
set_option linter.unusedVariables false
set_option linter.unusedSimpArgs false
namespace Go.Proofs.YtnchnlgnnlgjcaaGreat
open Go.RowKit
namespace Cc
set_option maxRecDepth 100000 in
set_option maxHeartbeats 6400000 in
theorem cuts_open {X:Nat->Option Obj} (B P g b n H D G W k j a:Nat) (N:Int) (ls:List (Int × Int)) (R M:List Int) (al:Option Addr) (cl:Nat) (va vr:Value) (C:Nat->Nat) (T:Nat->List (List Tok)) (L:Nat->Nat->List Int) (t q:Nat->Nat) (zs:Nat->Value) (col:Nat->Nat)
 (w:World) (hC:Core13 w g b n H D G W ls R M k C T L t q col) (hB:Box13 X B w P g H D G W ls al cl va vr k C zs col) (hD:Doc13 w ls.length k T zs col) (hG:Good13 n (ls.length*H) k j R L t)
 (sh:ShOk H D G W ls) (ha:a<k) (hj:j<=80) (hq0:¬ q a=0) :
 Calls Tryz.prog 41 #[.pointer (some ⟨P,0,none⟩),.int .i64 (a:Int),.int .i64 N] w fun e w'=>e=.returned (.bool true)/\Below w.heap.size w w':=by
 obtain ⟨sH,sH2,sD,sD2,-⟩:=id sh
 obtain ⟨sG,sG2,sW,sl,sl2,-⟩:=sh.nums
 have hk5:k<=5:=hG.2.2.2.2.2.2
 have htj:t a<=j:=hG.2.2.2.2.1 a ha
 have hC1:=hC.2.2 a ha
 have QL:=hC1.2.1.2.1
 have C1:=Ca.hid hC
 have LY:=Ca.hid hC1.2.1
 obtain ⟨⟨hP,-⟩,⟨hva,-⟩,⟨hvr,-⟩,-⟩:=hB
 obtain ⟨ga,ca,Fa,rfl,-,hra,hca,fa⟩:=row_of_own hva (by omega)
 obtain ⟨gr,cr,Fr',rfl,-,hrr,hcr,fr⟩:=row_of_own hvr (by omega)
 have fa':Fa a=.pointer (some ⟨C a,0,none⟩):=by have:=fa a ha;unfold cptrs at this;simpa [ha] using this
 have fr':Fr' a=zs a:=by have:=fr a ha;simpa [ha] using this
 obtain ⟨az,cz,ez,sz⟩:=hD a ha
 rw [<-hC1.2.1.1] at ez
 rw [ez] at fr'
 have SZ:=Ca.hid sz
 have c3:w.cell? ⟨P,3,none⟩=some (.int .i64 (G:Int)):=hP.cell (show 3<8 by decide)
 have c4:w.cell? ⟨P,4,none⟩=some (.int .i64 (W:Int)):=hP.cell (show 4<8 by decide)
 have c5:w.cell? ⟨P,5,none⟩=some (.slice al ls.length cl):=hP.cell (show 5<8 by decide)
 have c6:w.cell? ⟨P,6,none⟩=some (.slice (some ⟨ga,0,none⟩) k ca):=hP.cell (show 6<8 by decide)
 have c7:w.cell? ⟨P,7,none⟩=some (.slice (some ⟨gr,0,none⟩) k cr):=hP.cell (show 7<8 by decide)
 have za:w.cell? ⟨ga,a,none⟩=some (.pointer (some ⟨C a,0,none⟩)):=by rw [hra.cell (by omega),fa']
 have zr:w.cell? ⟨gr,a,none⟩=some (.slice az (T a).length cz):=by rw [hrr.cell (by omega),fr']
 have KQ:Hid (∀ v,Below w.heap.size w v->v.cell? ⟨P,6,none⟩=some (.slice (some ⟨ga,0,none⟩) k ca)/\v.cell? ⟨ga,a,none⟩=some (.pointer (some ⟨C a,0,none⟩))):=fun v hv =>
  ⟨(hv.cell (p:=⟨P,6,none⟩) hP.lt).trans c6,(hv.cell (p:=⟨ga,a,none⟩) hra.lt).trans za⟩
 have ka0:(0:Int)<=(a:Int):=by omega
 have ka1:(a:Int)<(k:Int):=by omega
 clear hC hD hG sh hC1 hP hva hvr hra hrr fa fr sz ez hca hcr fa' fr'
 have hne:((q a:Int) != 0)=true:=bne_iff_ne.2 (by omega)
 go_enter Tryz.func41,Tryz.ntmps41
 go_wp2_with (first
  | (go_at_call 19;refine (tokens_any (α:=Tok) az cz (T a) _ SZ.out (by rw [LY.out.1];omega) (by rw [LY.out.1];omega)).mono ?_;rintro e w' ⟨rfl,hww⟩;cases hww.symm;clear hww;rw [LY.out.toks])
  | (go_at_call 40;refine (next_any (α:=Tok) az cz (T a) _ SZ.out (by rw [LY.out.1];omega) (by rw [LY.out.1];omega)).mono ?_;rintro e w' ⟨rfl,hww⟩;cases hww.symm;clear hww;rw [LY.out.nxt])
  | (go_at_call 28;refine (cut_open_c (C a) g H D G W ls (t a) (q a) N _ (C1.out.2.2 a ha).1.bd QL sl2 hq0).mono ?_;rintro e w2 ⟨rfl,hb⟩;have B2:=Ca.hid hb;clear hb))
 go_ret
 exact ⟨rfl,B2.out⟩
end Cc
end Go.Proofs.YtnchnlgnnlgjcaaGreat
