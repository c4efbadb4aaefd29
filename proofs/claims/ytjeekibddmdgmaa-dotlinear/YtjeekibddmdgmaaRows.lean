/-
  No cell of these rows narrows 'for every input' (looked for: loops, veiled, ifaces, maps, wideKeys, modest, calm, conditions, laid).
  DERIVED. THE GIVEN ROWS OF THIS SEAT. 5 by the template 'for every input the law returns true; each argument reads behind the call as it read before'; 0 by the template 'total and deterministic' (their statements: YtjeekibddmdgmaaTotals.lean).
  GIVEN WITH THE SEED: the statements are not yours to turn. If you find one false, say at which input.
  Laid BY PROGRAM, IN A SANDBOX (cutbox-rows.mjs): the forced cells as the released guide's own fill.sh prints them over the translation c599e0277c66ab54… (all of the seat's roots in one cut). By AI agents, Wed Nov 11 2026. No macro, syntax, notation, axiom, sorry.
-/
import Derived.Test.YtjeekibddmdgmaaChecked
import GoSem.Claim
import GoSem.ClaimJoined
import GoSem.ClaimMapViews
import Derived.JoinedTies
import Derived.KernelRfl
namespace Go.Proofs.Ytjeekibddmdgmaa
/- THE CELL 'sum', in the pinned program and in every row, IS THE sha256 OF THE DUMP (.gsa) THAT YtjeekibddmdgmaaProg.lean LOADS. Nothing in Lean hashes anything: it is a label: what it is worth is what the hold of that sum in a sandbox is worth. -/
noncomputable def Try.pinned : Pinned := { name := "ytjeekibddmdgmaa", sum := "c599e0277c66ab5476a7beaf4facc3a6f4abe2497a9d2ddccc5e37af779dd58e", checked := Try.checked }
namespace Rows
def none {H : Type} : Left H := { results := [], args := [] }

/-- 'credenzalaw03.DotSums': WHATEVER THE INPUT: true; the input reads as it did. -/
def dotSumsSpec : ChangeSpec := { name := "dotSums", fn := fun _ => fun
  | [d1, d2] => { results := [.lit (.bool true)], args := [d1, d2] }
  | _ => none }
def dotSumsRow : OpenClaim := { program := "ytjeekibddmdgmaa", sum := "c599e0277c66ab5476a7beaf4facc3a6f4abe2497a9d2ddccc5e37af779dd58e", func := "credenza/credenzalaw03.DotSums", spec := "dotSums", unfollowed := true, recurses := true, apart := false }
def DotSumsSaid : Prop := dotSumsRow.holds Try.pinned (OpenSpec.ofChange dotSumsSpec)

/-- ITS FALSE NEIGHBOUR: 'it returns false'. Refute it at one input. -/
def dotSumsWrong : ChangeSpec := { name := "dotSums", fn := fun _ => fun
  | [d1, d2] => { results := [.lit (.bool false)], args := [d1, d2] }
  | _ => none }
def DotSumsWrongFalsely : Prop := dotSumsRow.holds Try.pinned (OpenSpec.ofChange dotSumsWrong)

/-- 'credenzalaw03.DotEach': WHATEVER THE INPUT: true; the input reads as it did. -/
def dotEachSpec : ChangeSpec := { name := "dotEach", fn := fun _ => fun
  | [d1, d2, d3] => { results := [.lit (.bool true)], args := [d1, d2, d3] }
  | _ => none }
def dotEachRow : OpenClaim := { program := "ytjeekibddmdgmaa", sum := "c599e0277c66ab5476a7beaf4facc3a6f4abe2497a9d2ddccc5e37af779dd58e", func := "credenza/credenzalaw03.DotEach", spec := "dotEach", unfollowed := true, recurses := true, apart := false }
def DotEachSaid : Prop := dotEachRow.holds Try.pinned (OpenSpec.ofChange dotEachSpec)

/-- ITS FALSE NEIGHBOUR: 'it returns false'. Refute it at one input. -/
def dotEachWrong : ChangeSpec := { name := "dotEach", fn := fun _ => fun
  | [d1, d2, d3] => { results := [.lit (.bool false)], args := [d1, d2, d3] }
  | _ => none }
def DotEachWrongFalsely : Prop := dotEachRow.holds Try.pinned (OpenSpec.ofChange dotEachWrong)

/-- 'credenzalaw03.DotSplits': WHATEVER THE INPUT: true; the input reads as it did. -/
def dotSplitsSpec : ChangeSpec := { name := "dotSplits", fn := fun _ => fun
  | [d1, d2, d3] => { results := [.lit (.bool true)], args := [d1, d2, d3] }
  | _ => none }
def dotSplitsRow : OpenClaim := { program := "ytjeekibddmdgmaa", sum := "c599e0277c66ab5476a7beaf4facc3a6f4abe2497a9d2ddccc5e37af779dd58e", func := "credenza/credenzalaw03.DotSplits", spec := "dotSplits", unfollowed := true, recurses := true, apart := false }
def DotSplitsSaid : Prop := dotSplitsRow.holds Try.pinned (OpenSpec.ofChange dotSplitsSpec)

/-- ITS FALSE NEIGHBOUR: 'it returns false'. Refute it at one input. -/
def dotSplitsWrong : ChangeSpec := { name := "dotSplits", fn := fun _ => fun
  | [d1, d2, d3] => { results := [.lit (.bool false)], args := [d1, d2, d3] }
  | _ => none }
def DotSplitsWrongFalsely : Prop := dotSplitsRow.holds Try.pinned (OpenSpec.ofChange dotSplitsWrong)

/-- 'credenzalaw03.DotTops': WHATEVER THE INPUT: true; the input reads as it did. -/
def dotTopsSpec : ChangeSpec := { name := "dotTops", fn := fun _ => fun
  | [d] => { results := [.lit (.bool true)], args := [d] }
  | _ => none }
def dotTopsRow : OpenClaim := { program := "ytjeekibddmdgmaa", sum := "c599e0277c66ab5476a7beaf4facc3a6f4abe2497a9d2ddccc5e37af779dd58e", func := "credenza/credenzalaw03.DotTops", spec := "dotTops", unfollowed := true, recurses := true, apart := false }
def DotTopsSaid : Prop := dotTopsRow.holds Try.pinned (OpenSpec.ofChange dotTopsSpec)

/-- ITS FALSE NEIGHBOUR: 'it returns false'. Refute it at one input. -/
def dotTopsWrong : ChangeSpec := { name := "dotTops", fn := fun _ => fun
  | [d] => { results := [.lit (.bool false)], args := [d] }
  | _ => none }
def DotTopsWrongFalsely : Prop := dotTopsRow.holds Try.pinned (OpenSpec.ofChange dotTopsWrong)

/-- 'credenzalaw03.DotLinear': WHATEVER THE INPUT: true; the input reads as it did. -/
def dotLinearSpec : ChangeSpec := { name := "dotLinear", fn := fun _ => fun
  | [d1, d2, d3] => { results := [.lit (.bool true)], args := [d1, d2, d3] }
  | _ => none }
def dotLinearRow : OpenClaim := { program := "ytjeekibddmdgmaa", sum := "c599e0277c66ab5476a7beaf4facc3a6f4abe2497a9d2ddccc5e37af779dd58e", func := "credenza/credenzalaw03.DotLinear", spec := "dotLinear", unfollowed := true, recurses := true, apart := false }
def DotLinearSaid : Prop := dotLinearRow.holds Try.pinned (OpenSpec.ofChange dotLinearSpec)

/-- ITS FALSE NEIGHBOUR: 'it returns false'. Refute it at one input. -/
def dotLinearWrong : ChangeSpec := { name := "dotLinear", fn := fun _ => fun
  | [d1, d2, d3] => { results := [.lit (.bool false)], args := [d1, d2, d3] }
  | _ => none }
def DotLinearWrongFalsely : Prop := dotLinearRow.holds Try.pinned (OpenSpec.ofChange dotLinearWrong)

/- THE SECOND FORM. 'bulk': how many values and letters a reading holds, each counted each time it is reached (what is shared counts as often as it is met; a slice's spare places count too). A statement '..UptoSaid' is the law's where the arguments, and the package variables that the reading takes, are together of bulk at most 1048576: NARROWER than '..Said'. Prove '..Said' where nothing that the law and all that it calls make is longer than what came in: it says more and counts as full. Else prove '..UptoSaid'. A law counts once. -/
mutual
def uptoBulk {H : Type} : DataW H → Nat
  | .lit (.string bytes) => bytes.length + 1
  | .lit _ => 1
  | .nil => 1
  | .ptr d => uptoBulk d + 1
  | .slice elems spare => uptoBulkAll elems + uptoBulkAll spare + 1
  | .agg parts => uptoBulkAll parts + 1
  | .iface _ d => uptoBulk d + 1
  | .map entries => uptoBulkEntries entries + 1
  | .held _ => 1
def uptoBulkAll {H : Type} : List (DataW H) → Nat
  | [] => 0
  | d :: r => uptoBulk d + uptoBulkAll r
def uptoBulkEntries {H : Type} : List (Lit × DataW H) → Nat
  | [] => 0
  | x :: r => uptoBulkEntry x + uptoBulkEntries r
def uptoBulkEntry {H : Type} : Lit × DataW H → Nat
  | (.string bytes, d) => bytes.length + uptoBulk d + 1
  | (_, d) => uptoBulk d + 1
 end
def uptoSmall : (H : Type) → List (DataW H) → Bool := fun _ ds => decide (uptoBulkAll ds ≤ 1048576)
def OpenSpec.upto (s : _root_.Go.ChangeSpec) : _root_.Go.OpenSpec := { _root_.Go.OpenSpec.ofChange s with cond := some uptoSmall }

/-- 'credenzalaw03.DotSums', WHERE WHAT IT READS IS OF BULK AT MOST 1048576: true; the input reads as it did. -/
def dotSumsUptoRow : OpenClaim := { program := "ytjeekibddmdgmaa", sum := "c599e0277c66ab5476a7beaf4facc3a6f4abe2497a9d2ddccc5e37af779dd58e", func := "credenza/credenzalaw03.DotSums", spec := "dotSums", unfollowed := true, recurses := true, apart := false, narrowed := true }
def DotSumsUptoSaid : Prop := dotSumsUptoRow.holds Try.pinned (OpenSpec.upto dotSumsSpec)

/-- 'credenzalaw03.DotEach', WHERE WHAT IT READS IS OF BULK AT MOST 1048576: true; the input reads as it did. -/
def dotEachUptoRow : OpenClaim := { program := "ytjeekibddmdgmaa", sum := "c599e0277c66ab5476a7beaf4facc3a6f4abe2497a9d2ddccc5e37af779dd58e", func := "credenza/credenzalaw03.DotEach", spec := "dotEach", unfollowed := true, recurses := true, apart := false, narrowed := true }
def DotEachUptoSaid : Prop := dotEachUptoRow.holds Try.pinned (OpenSpec.upto dotEachSpec)

/-- 'credenzalaw03.DotSplits', WHERE WHAT IT READS IS OF BULK AT MOST 1048576: true; the input reads as it did. -/
def dotSplitsUptoRow : OpenClaim := { program := "ytjeekibddmdgmaa", sum := "c599e0277c66ab5476a7beaf4facc3a6f4abe2497a9d2ddccc5e37af779dd58e", func := "credenza/credenzalaw03.DotSplits", spec := "dotSplits", unfollowed := true, recurses := true, apart := false, narrowed := true }
def DotSplitsUptoSaid : Prop := dotSplitsUptoRow.holds Try.pinned (OpenSpec.upto dotSplitsSpec)

/-- 'credenzalaw03.DotTops', WHERE WHAT IT READS IS OF BULK AT MOST 1048576: true; the input reads as it did. -/
def dotTopsUptoRow : OpenClaim := { program := "ytjeekibddmdgmaa", sum := "c599e0277c66ab5476a7beaf4facc3a6f4abe2497a9d2ddccc5e37af779dd58e", func := "credenza/credenzalaw03.DotTops", spec := "dotTops", unfollowed := true, recurses := true, apart := false, narrowed := true }
def DotTopsUptoSaid : Prop := dotTopsUptoRow.holds Try.pinned (OpenSpec.upto dotTopsSpec)

/-- 'credenzalaw03.DotLinear', WHERE WHAT IT READS IS OF BULK AT MOST 1048576: true; the input reads as it did. -/
def dotLinearUptoRow : OpenClaim := { program := "ytjeekibddmdgmaa", sum := "c599e0277c66ab5476a7beaf4facc3a6f4abe2497a9d2ddccc5e37af779dd58e", func := "credenza/credenzalaw03.DotLinear", spec := "dotLinear", unfollowed := true, recurses := true, apart := false, narrowed := true }
def DotLinearUptoSaid : Prop := dotLinearUptoRow.holds Try.pinned (OpenSpec.upto dotLinearSpec)

end Rows
end Go.Proofs.Ytjeekibddmdgmaa
