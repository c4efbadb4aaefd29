/-
  No cell of these rows narrows 'for every input' (looked for: loops, veiled, ifaces, maps, wideKeys, modest, calm, conditions, laid).
  DERIVED. THE GIVEN ROWS OF THIS SEAT. 5 by the template 'for every input the law returns true; each argument reads behind the call as it read before'; 0 by the template 'total and deterministic' (their statements: YtnpoaalopppanaaTotals.lean).
  GIVEN WITH THE SEED: the statements are not yours to turn. If you find one false, say at which input.
  Laid BY PROGRAM, IN A SANDBOX (cutbox-rows.mjs): the forced cells as the released guide's own fill.sh prints them over the translation f314a336c3541749… (all of the seat's roots in one cut). By AI agents, Wed Nov 11 2026. No macro, syntax, notation, axiom, sorry.
-/
import Derived.Test.YtnpoaalopppanaaChecked
import GoSem.Claim
import GoSem.ClaimJoined
import GoSem.ClaimMapViews
import Derived.JoinedTies
import Derived.KernelRfl
namespace Go.Proofs.Ytnpoaalopppanaa
/- THE CELL 'sum', in the pinned program and in every row, IS THE sha256 OF THE DUMP (.gsa) THAT YtnpoaalopppanaaProg.lean LOADS. Nothing in Lean hashes anything: it is a label: what it is worth is what the hold of that sum in a sandbox is worth. -/
noncomputable def Try.pinned : Pinned := { name := "ytnpoaalopppanaa", sum := "f314a336c354174929eac81f20c5c81cef0dca5d14871af62492c4f52bfb9d33", checked := Try.checked }
namespace Rows
def none {H : Type} : Left H := { results := [], args := [] }

/-- 'credenzalaw04.SoftWeighs': WHATEVER THE INPUT: true; the input reads as it did. -/
def softWeighsSpec : ChangeSpec := { name := "softWeighs", fn := fun _ => fun
  | [d] => { results := [.lit (.bool true)], args := [d] }
  | _ => none }
def softWeighsRow : OpenClaim := { program := "ytnpoaalopppanaa", sum := "f314a336c354174929eac81f20c5c81cef0dca5d14871af62492c4f52bfb9d33", func := "credenza/credenzalaw04.SoftWeighs", spec := "softWeighs", apart := false }
def SoftWeighsSaid : Prop := softWeighsRow.holds Try.pinned (OpenSpec.ofChange softWeighsSpec)

/-- ITS FALSE NEIGHBOUR: 'it returns false'. Refute it at one input. -/
def softWeighsWrong : ChangeSpec := { name := "softWeighs", fn := fun _ => fun
  | [d] => { results := [.lit (.bool false)], args := [d] }
  | _ => none }
def SoftWeighsWrongFalsely : Prop := softWeighsRow.holds Try.pinned (OpenSpec.ofChange softWeighsWrong)

/-- 'credenzalaw04.SoftMixes': WHATEVER THE INPUT: true; the input reads as it did. -/
def softMixesSpec : ChangeSpec := { name := "softMixes", fn := fun _ => fun
  | [d1, d2] => { results := [.lit (.bool true)], args := [d1, d2] }
  | _ => none }
def softMixesRow : OpenClaim := { program := "ytnpoaalopppanaa", sum := "f314a336c354174929eac81f20c5c81cef0dca5d14871af62492c4f52bfb9d33", func := "credenza/credenzalaw04.SoftMixes", spec := "softMixes", apart := false }
def SoftMixesSaid : Prop := softMixesRow.holds Try.pinned (OpenSpec.ofChange softMixesSpec)

/-- ITS FALSE NEIGHBOUR: 'it returns false'. Refute it at one input. -/
def softMixesWrong : ChangeSpec := { name := "softMixes", fn := fun _ => fun
  | [d1, d2] => { results := [.lit (.bool false)], args := [d1, d2] }
  | _ => none }
def SoftMixesWrongFalsely : Prop := softMixesRow.holds Try.pinned (OpenSpec.ofChange softMixesWrong)

/-- 'credenzalaw04.SoftMoves': WHATEVER THE INPUT: true; the input reads as it did. -/
def softMovesSpec : ChangeSpec := { name := "softMoves", fn := fun _ => fun
  | [d1, d2] => { results := [.lit (.bool true)], args := [d1, d2] }
  | _ => none }
def softMovesRow : OpenClaim := { program := "ytnpoaalopppanaa", sum := "f314a336c354174929eac81f20c5c81cef0dca5d14871af62492c4f52bfb9d33", func := "credenza/credenzalaw04.SoftMoves", spec := "softMoves", apart := false }
def SoftMovesSaid : Prop := softMovesRow.holds Try.pinned (OpenSpec.ofChange softMovesSpec)

/-- ITS FALSE NEIGHBOUR: 'it returns false'. Refute it at one input. -/
def softMovesWrong : ChangeSpec := { name := "softMoves", fn := fun _ => fun
  | [d1, d2] => { results := [.lit (.bool false)], args := [d1, d2] }
  | _ => none }
def SoftMovesWrongFalsely : Prop := softMovesRow.holds Try.pinned (OpenSpec.ofChange softMovesWrong)

/-- 'credenzalaw04.SoftBetween': WHATEVER THE INPUT: true; the input reads as it did. -/
def softBetweenSpec : ChangeSpec := { name := "softBetween", fn := fun _ => fun
  | [d1, d2] => { results := [.lit (.bool true)], args := [d1, d2] }
  | _ => none }
def softBetweenRow : OpenClaim := { program := "ytnpoaalopppanaa", sum := "f314a336c354174929eac81f20c5c81cef0dca5d14871af62492c4f52bfb9d33", func := "credenza/credenzalaw04.SoftBetween", spec := "softBetween", apart := false }
def SoftBetweenSaid : Prop := softBetweenRow.holds Try.pinned (OpenSpec.ofChange softBetweenSpec)

/-- ITS FALSE NEIGHBOUR: 'it returns false'. Refute it at one input. -/
def softBetweenWrong : ChangeSpec := { name := "softBetween", fn := fun _ => fun
  | [d1, d2] => { results := [.lit (.bool false)], args := [d1, d2] }
  | _ => none }
def SoftBetweenWrongFalsely : Prop := softBetweenRow.holds Try.pinned (OpenSpec.ofChange softBetweenWrong)

/-- 'credenzalaw04.SoftOrder': WHATEVER THE INPUT: true; the input reads as it did. -/
def softOrderSpec : ChangeSpec := { name := "softOrder", fn := fun _ => fun
  | [d1, d2] => { results := [.lit (.bool true)], args := [d1, d2] }
  | _ => none }
def softOrderRow : OpenClaim := { program := "ytnpoaalopppanaa", sum := "f314a336c354174929eac81f20c5c81cef0dca5d14871af62492c4f52bfb9d33", func := "credenza/credenzalaw04.SoftOrder", spec := "softOrder", apart := false }
def SoftOrderSaid : Prop := softOrderRow.holds Try.pinned (OpenSpec.ofChange softOrderSpec)

/-- ITS FALSE NEIGHBOUR: 'it returns false'. Refute it at one input. -/
def softOrderWrong : ChangeSpec := { name := "softOrder", fn := fun _ => fun
  | [d1, d2] => { results := [.lit (.bool false)], args := [d1, d2] }
  | _ => none }
def SoftOrderWrongFalsely : Prop := softOrderRow.holds Try.pinned (OpenSpec.ofChange softOrderWrong)

/- THE SECOND FORM. 'bulk': how many values and letters a reading holds, each counted each time it is reached (what is shared counts as often as it is met; a slice's spare places count too). A statement '..UptoSaid' is the law's where the arguments, and the package variables that the reading takes, are together of bulk at most 1048576: NARROWER than '..Said'. Prove '..Said' where nothing that the law and all that it calls make is longer than what came in: it says more and counts as full. Else prove '..UptoSaid'. A law counts once. -/
mutual
def uptoBulk {H : Type} : DataW H → Nat
  | .lit (.string bytes) => bytes.length + 1
  | .lit _ => 1
  | .nil => 1
  | .ptr d => uptoBulk d + 1
  | .slice elems spare => uptoBulkAll elems + uptoBulkAll spare + 1
  | .agg parts => uptoBulkAll parts + 1
  | .iface _ d => uptoBulk d + 1
  | .map entries => uptoBulkEntries entries + 1
  | .held _ => 1
def uptoBulkAll {H : Type} : List (DataW H) → Nat
  | [] => 0
  | d :: r => uptoBulk d + uptoBulkAll r
def uptoBulkEntries {H : Type} : List (Lit × DataW H) → Nat
  | [] => 0
  | x :: r => uptoBulkEntry x + uptoBulkEntries r
def uptoBulkEntry {H : Type} : Lit × DataW H → Nat
  | (.string bytes, d) => bytes.length + uptoBulk d + 1
  | (_, d) => uptoBulk d + 1
 end
def uptoSmall : (H : Type) → List (DataW H) → Bool := fun _ ds => decide (uptoBulkAll ds ≤ 1048576)
def OpenSpec.upto (s : _root_.Go.ChangeSpec) : _root_.Go.OpenSpec := { _root_.Go.OpenSpec.ofChange s with cond := some uptoSmall }

/-- 'credenzalaw04.SoftWeighs', WHERE WHAT IT READS IS OF BULK AT MOST 1048576: true; the input reads as it did. -/
def softWeighsUptoRow : OpenClaim := { program := "ytnpoaalopppanaa", sum := "f314a336c354174929eac81f20c5c81cef0dca5d14871af62492c4f52bfb9d33", func := "credenza/credenzalaw04.SoftWeighs", spec := "softWeighs", apart := false, narrowed := true }
def SoftWeighsUptoSaid : Prop := softWeighsUptoRow.holds Try.pinned (OpenSpec.upto softWeighsSpec)

/-- 'credenzalaw04.SoftMixes', WHERE WHAT IT READS IS OF BULK AT MOST 1048576: true; the input reads as it did. -/
def softMixesUptoRow : OpenClaim := { program := "ytnpoaalopppanaa", sum := "f314a336c354174929eac81f20c5c81cef0dca5d14871af62492c4f52bfb9d33", func := "credenza/credenzalaw04.SoftMixes", spec := "softMixes", apart := false, narrowed := true }
def SoftMixesUptoSaid : Prop := softMixesUptoRow.holds Try.pinned (OpenSpec.upto softMixesSpec)

/-- 'credenzalaw04.SoftMoves', WHERE WHAT IT READS IS OF BULK AT MOST 1048576: true; the input reads as it did. -/
def softMovesUptoRow : OpenClaim := { program := "ytnpoaalopppanaa", sum := "f314a336c354174929eac81f20c5c81cef0dca5d14871af62492c4f52bfb9d33", func := "credenza/credenzalaw04.SoftMoves", spec := "softMoves", apart := false, narrowed := true }
def SoftMovesUptoSaid : Prop := softMovesUptoRow.holds Try.pinned (OpenSpec.upto softMovesSpec)

/-- 'credenzalaw04.SoftBetween', WHERE WHAT IT READS IS OF BULK AT MOST 1048576: true; the input reads as it did. -/
def softBetweenUptoRow : OpenClaim := { program := "ytnpoaalopppanaa", sum := "f314a336c354174929eac81f20c5c81cef0dca5d14871af62492c4f52bfb9d33", func := "credenza/credenzalaw04.SoftBetween", spec := "softBetween", apart := false, narrowed := true }
def SoftBetweenUptoSaid : Prop := softBetweenUptoRow.holds Try.pinned (OpenSpec.upto softBetweenSpec)

/-- 'credenzalaw04.SoftOrder', WHERE WHAT IT READS IS OF BULK AT MOST 1048576: true; the input reads as it did. -/
def softOrderUptoRow : OpenClaim := { program := "ytnpoaalopppanaa", sum := "f314a336c354174929eac81f20c5c81cef0dca5d14871af62492c4f52bfb9d33", func := "credenza/credenzalaw04.SoftOrder", spec := "softOrder", apart := false, narrowed := true }
def SoftOrderUptoSaid : Prop := softOrderUptoRow.holds Try.pinned (OpenSpec.upto softOrderSpec)

end Rows
end Go.Proofs.Ytnpoaalopppanaa
