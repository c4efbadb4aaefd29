/- A text of bytes as a list of numbers (layer 6). -/
import Derived.Test.YtpifemahakbegaaSlMath
import Derived.Laws.BytesArg
namespace Go.Proofs.Ytpifemahakbegaa
set_option linter.unusedVariables false
namespace Sl

theorem byt_drop_head {x : Int} {l : List Int} (h : Byt (x :: l)) : Byt l := fun i => h (i + 1)
theorem text_inj {l m : List Int} (hl : Byt l) (hm : Byt m) (h : strOfNums l = strOfNums m) : l = m := by
  have hs : l.length = m.length := by rw [← strOfNums_size l, ← strOfNums_size m, h]
  have hd : (strOfNums l).data.toList = (strOfNums m).data.toList := by rw [h]
  rw [strOfNums_data, strOfNums_data] at hd
  apply Ls.ext_nth hs
  intro i hi
  have hi2 : i < m.length := by omega
  have e : (l.map fun n => UInt8.ofNat n.toNat)[i]? = (m.map fun n => UInt8.ofNat n.toNat)[i]? := by rw [hd]
  have b1 := hl i
  have b2 := hm i
  rw [Ls.nth_of_lt hi] at b1 ⊢
  rw [Ls.nth_of_lt hi2] at b2 ⊢
  simp [hi, hi2] at e
  have e2 := congrArg UInt8.toNat e
  simp only [UInt8.toNat_ofNat'] at e2
  omega
theorem text_eq_iff {l m : List Int} (hl : Byt l) (hm : Byt m) : strOfNums l = strOfNums m ↔ l = m := ⟨text_inj hl hm, fun h => by rw [h]⟩
theorem text_append (l m : List Int) : strOfNums l ++ strOfNums m = strOfNums (l ++ m) := by
  apply ByteArray.ext
  simp [strOfNums, ByteArray.data_append]
theorem text_nil : strOfNums [] = ByteArray.empty := rfl
theorem text_take (l : List Int) (n : Nat) : (strOfNums l).extract 0 n = strOfNums (l.take n) := by
  apply ByteArray.ext
  simp [strOfNums, ByteArray.data_extract, List.map_take, List.extract_eq_take_drop]
theorem text_drop (l : List Int) (n : Nat) : (strOfNums l).extract n l.length = strOfNums (l.drop n) := by
  apply ByteArray.ext
  simp [strOfNums, ByteArray.data_extract, List.map_drop, List.take_of_length_le]
theorem text_at {l : List Int} (hl : Byt l) {i : Nat} (hi : i < l.length) : ((strOfNums l)[i]'(by rw [strOfNums_size]; exact hi)).toNat = (Ls.nth l i).toNat := by
  have b := hl i
  rw [Ls.nth_of_lt hi] at b ⊢
  have hi3 : i < (l.map fun n => UInt8.ofNat n.toNat).toArray.size := by rw [List.size_toArray, List.length_map]; exact hi
  show ((l.map fun n => UInt8.ofNat n.toNat).toArray[i]'hi3).toNat = _
  simp only [List.getElem_toArray, List.getElem_map, UInt8.toNat_ofNat']
  omega
/-- Every text is that of a list of bytes. -/
def nums (s : ByteArray) : List Int := s.data.toList.map fun b => (b.toNat : Int)
theorem nums_length (s : ByteArray) : (nums s).length = s.size := by unfold nums; rw [List.length_map, Array.length_toList]; rfl
theorem nums_byt (s : ByteArray) : Byt (nums s) := by
  apply byt_mk
  intro i hi
  rw [Ls.nth_of_lt hi]
  simp only [nums, List.getElem_map]
  have := UInt8.toNat_lt (s.data.toList[i]'(by simpa [nums] using hi))
  omega
theorem text_nums (s : ByteArray) : strOfNums (nums s) = s := by
  apply ByteArray.ext
  apply Array.ext'
  simp [strOfNums, nums, List.map_map, Function.comp_def]
end Sl
end Go.Proofs.Ytpifemahakbegaa
