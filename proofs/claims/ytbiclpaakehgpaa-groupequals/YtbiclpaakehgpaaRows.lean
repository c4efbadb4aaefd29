/-
  No cell of these rows narrows 'for every input' (looked for: loops, veiled, ifaces, maps, wideKeys, modest, calm, conditions, laid).
  DERIVED. THE GIVEN ROWS OF THIS SEAT. 6 by the template 'for every input the law returns true; each argument reads behind the call as it read before'; 0 by the template 'total and deterministic' (their statements: YtbiclpaakehgpaaTotals.lean).
  GIVEN WITH THE SEED: the statements are not yours to turn. If you find one false, say at which input.
  Laid BY PROGRAM, IN A SANDBOX (cutbox-rows.mjs): the forced cells as the released guide's own fill.sh prints them over the translation 79c22cec845e9281… (all of the seat's roots in one cut). By AI agents, Wed Nov 11 2026. No macro, syntax, notation, axiom, sorry.
-/
import Derived.Test.YtbiclpaakehgpaaChecked
import GoSem.Claim
import GoSem.ClaimJoined
import GoSem.ClaimMapViews
import Derived.JoinedTies
import Derived.KernelRfl
namespace Go.Proofs.Ytbiclpaakehgpaa
/- THE CELL 'sum', in the pinned program and in every row, IS THE sha256 OF THE DUMP (.gsa) THAT YtbiclpaakehgpaaProg.lean LOADS. Nothing in Lean hashes anything: it is a label: what it is worth is what the hold of that sum in a sandbox is worth. -/
noncomputable def Try.pinned : Pinned := { name := "ytbiclpaakehgpaa", sum := "79c22cec845e9281cff84ff9b5584afa787e0113f7e3e7f36ff4dc9df058a1f2", checked := Try.checked }
namespace Rows
def none {H : Type} : Left H := { results := [], args := [] }

/-- 'credenzalaw07.GroupOf': WHATEVER THE INPUT: true; the input reads as it did. -/
def groupOfSpec : ChangeSpec := { name := "groupOf", fn := fun _ => fun
  | [d1, d2] => { results := [.lit (.bool true)], args := [d1, d2] }
  | _ => none }
def groupOfRow : OpenClaim := { program := "ytbiclpaakehgpaa", sum := "79c22cec845e9281cff84ff9b5584afa787e0113f7e3e7f36ff4dc9df058a1f2", func := "credenza/credenzalaw07.GroupOf", spec := "groupOf", unfollowed := true, recurses := true, apart := false }
def GroupOfSaid : Prop := groupOfRow.holds Try.pinned (OpenSpec.ofChange groupOfSpec)

/-- ITS FALSE NEIGHBOUR: 'it returns false'. Refute it at one input. -/
def groupOfWrong : ChangeSpec := { name := "groupOf", fn := fun _ => fun
  | [d1, d2] => { results := [.lit (.bool false)], args := [d1, d2] }
  | _ => none }
def GroupOfWrongFalsely : Prop := groupOfRow.holds Try.pinned (OpenSpec.ofChange groupOfWrong)

/-- 'credenzalaw07.GroupNear': WHATEVER THE INPUT: true; the input reads as it did. -/
def groupNearSpec : ChangeSpec := { name := "groupNear", fn := fun _ => fun
  | [d1, d2] => { results := [.lit (.bool true)], args := [d1, d2] }
  | _ => none }
def groupNearRow : OpenClaim := { program := "ytbiclpaakehgpaa", sum := "79c22cec845e9281cff84ff9b5584afa787e0113f7e3e7f36ff4dc9df058a1f2", func := "credenza/credenzalaw07.GroupNear", spec := "groupNear", unfollowed := true, recurses := true, apart := false }
def GroupNearSaid : Prop := groupNearRow.holds Try.pinned (OpenSpec.ofChange groupNearSpec)

/-- ITS FALSE NEIGHBOUR: 'it returns false'. Refute it at one input. -/
def groupNearWrong : ChangeSpec := { name := "groupNear", fn := fun _ => fun
  | [d1, d2] => { results := [.lit (.bool false)], args := [d1, d2] }
  | _ => none }
def GroupNearWrongFalsely : Prop := groupNearRow.holds Try.pinned (OpenSpec.ofChange groupNearWrong)

/-- 'credenzalaw07.GroupRight': WHATEVER THE INPUT: true; the input reads as it did. -/
def groupRightSpec : ChangeSpec := { name := "groupRight", fn := fun _ => fun
  | [d1, d2] => { results := [.lit (.bool true)], args := [d1, d2] }
  | _ => none }
def groupRightRow : OpenClaim := { program := "ytbiclpaakehgpaa", sum := "79c22cec845e9281cff84ff9b5584afa787e0113f7e3e7f36ff4dc9df058a1f2", func := "credenza/credenzalaw07.GroupRight", spec := "groupRight", unfollowed := true, recurses := true, apart := false }
def GroupRightSaid : Prop := groupRightRow.holds Try.pinned (OpenSpec.ofChange groupRightSpec)

/-- ITS FALSE NEIGHBOUR: 'it returns false'. Refute it at one input. -/
def groupRightWrong : ChangeSpec := { name := "groupRight", fn := fun _ => fun
  | [d1, d2] => { results := [.lit (.bool false)], args := [d1, d2] }
  | _ => none }
def GroupRightWrongFalsely : Prop := groupRightRow.holds Try.pinned (OpenSpec.ofChange groupRightWrong)

/-- 'credenzalaw07.GroupFlat': WHATEVER THE INPUT: true; the input reads as it did. -/
def groupFlatSpec : ChangeSpec := { name := "groupFlat", fn := fun _ => fun
  | [d1, d2, d3] => { results := [.lit (.bool true)], args := [d1, d2, d3] }
  | _ => none }
def groupFlatRow : OpenClaim := { program := "ytbiclpaakehgpaa", sum := "79c22cec845e9281cff84ff9b5584afa787e0113f7e3e7f36ff4dc9df058a1f2", func := "credenza/credenzalaw07.GroupFlat", spec := "groupFlat", unfollowed := true, recurses := true, apart := false }
def GroupFlatSaid : Prop := groupFlatRow.holds Try.pinned (OpenSpec.ofChange groupFlatSpec)

/-- ITS FALSE NEIGHBOUR: 'it returns false'. Refute it at one input. -/
def groupFlatWrong : ChangeSpec := { name := "groupFlat", fn := fun _ => fun
  | [d1, d2, d3] => { results := [.lit (.bool false)], args := [d1, d2, d3] }
  | _ => none }
def GroupFlatWrongFalsely : Prop := groupFlatRow.holds Try.pinned (OpenSpec.ofChange groupFlatWrong)

/-- 'credenzalaw07.GroupMoves': WHATEVER THE INPUT: true; the input reads as it did. -/
def groupMovesSpec : ChangeSpec := { name := "groupMoves", fn := fun _ => fun
  | [d1, d2, d3] => { results := [.lit (.bool true)], args := [d1, d2, d3] }
  | _ => none }
def groupMovesRow : OpenClaim := { program := "ytbiclpaakehgpaa", sum := "79c22cec845e9281cff84ff9b5584afa787e0113f7e3e7f36ff4dc9df058a1f2", func := "credenza/credenzalaw07.GroupMoves", spec := "groupMoves", unfollowed := true, recurses := true, apart := false }
def GroupMovesSaid : Prop := groupMovesRow.holds Try.pinned (OpenSpec.ofChange groupMovesSpec)

/-- ITS FALSE NEIGHBOUR: 'it returns false'. Refute it at one input. -/
def groupMovesWrong : ChangeSpec := { name := "groupMoves", fn := fun _ => fun
  | [d1, d2, d3] => { results := [.lit (.bool false)], args := [d1, d2, d3] }
  | _ => none }
def GroupMovesWrongFalsely : Prop := groupMovesRow.holds Try.pinned (OpenSpec.ofChange groupMovesWrong)

/-- 'credenzalaw07.GroupEquals': WHATEVER THE INPUT: true; the input reads as it did. -/
def groupEqualsSpec : ChangeSpec := { name := "groupEquals", fn := fun _ => fun
  | [d1, d2] => { results := [.lit (.bool true)], args := [d1, d2] }
  | _ => none }
def groupEqualsRow : OpenClaim := { program := "ytbiclpaakehgpaa", sum := "79c22cec845e9281cff84ff9b5584afa787e0113f7e3e7f36ff4dc9df058a1f2", func := "credenza/credenzalaw07.GroupEquals", spec := "groupEquals", unfollowed := true, recurses := true, apart := false }
def GroupEqualsSaid : Prop := groupEqualsRow.holds Try.pinned (OpenSpec.ofChange groupEqualsSpec)

/-- ITS FALSE NEIGHBOUR: 'it returns false'. Refute it at one input. -/
def groupEqualsWrong : ChangeSpec := { name := "groupEquals", fn := fun _ => fun
  | [d1, d2] => { results := [.lit (.bool false)], args := [d1, d2] }
  | _ => none }
def GroupEqualsWrongFalsely : Prop := groupEqualsRow.holds Try.pinned (OpenSpec.ofChange groupEqualsWrong)

/- THE SECOND FORM. 'bulk': how many values and letters a reading holds, each counted each time it is reached (what is shared counts as often as it is met; a slice's spare places count too). A statement '..UptoSaid' is the law's where the arguments, and the package variables that the reading takes, are together of bulk at most 1048576: NARROWER than '..Said'. Prove '..Said' where nothing that the law and all that it calls make is longer than what came in: it says more and counts as full. Else prove '..UptoSaid'. A law counts once. -/
mutual
def uptoBulk {H : Type} : DataW H → Nat
  | .lit (.string bytes) => bytes.length + 1
  | .lit _ => 1
  | .nil => 1
  | .ptr d => uptoBulk d + 1
  | .slice elems spare => uptoBulkAll elems + uptoBulkAll spare + 1
  | .agg parts => uptoBulkAll parts + 1
  | .iface _ d => uptoBulk d + 1
  | .map entries => uptoBulkEntries entries + 1
  | .held _ => 1
def uptoBulkAll {H : Type} : List (DataW H) → Nat
  | [] => 0
  | d :: r => uptoBulk d + uptoBulkAll r
def uptoBulkEntries {H : Type} : List (Lit × DataW H) → Nat
  | [] => 0
  | x :: r => uptoBulkEntry x + uptoBulkEntries r
def uptoBulkEntry {H : Type} : Lit × DataW H → Nat
  | (.string bytes, d) => bytes.length + uptoBulk d + 1
  | (_, d) => uptoBulk d + 1
 end
def uptoSmall : (H : Type) → List (DataW H) → Bool := fun _ ds => decide (uptoBulkAll ds ≤ 1048576)
def OpenSpec.upto (s : _root_.Go.ChangeSpec) : _root_.Go.OpenSpec := { _root_.Go.OpenSpec.ofChange s with cond := some uptoSmall }

/-- 'credenzalaw07.GroupOf', WHERE WHAT IT READS IS OF BULK AT MOST 1048576: true; the input reads as it did. -/
def groupOfUptoRow : OpenClaim := { program := "ytbiclpaakehgpaa", sum := "79c22cec845e9281cff84ff9b5584afa787e0113f7e3e7f36ff4dc9df058a1f2", func := "credenza/credenzalaw07.GroupOf", spec := "groupOf", unfollowed := true, recurses := true, apart := false, narrowed := true }
def GroupOfUptoSaid : Prop := groupOfUptoRow.holds Try.pinned (OpenSpec.upto groupOfSpec)

/-- 'credenzalaw07.GroupNear', WHERE WHAT IT READS IS OF BULK AT MOST 1048576: true; the input reads as it did. -/
def groupNearUptoRow : OpenClaim := { program := "ytbiclpaakehgpaa", sum := "79c22cec845e9281cff84ff9b5584afa787e0113f7e3e7f36ff4dc9df058a1f2", func := "credenza/credenzalaw07.GroupNear", spec := "groupNear", unfollowed := true, recurses := true, apart := false, narrowed := true }
def GroupNearUptoSaid : Prop := groupNearUptoRow.holds Try.pinned (OpenSpec.upto groupNearSpec)

/-- 'credenzalaw07.GroupRight', WHERE WHAT IT READS IS OF BULK AT MOST 1048576: true; the input reads as it did. -/
def groupRightUptoRow : OpenClaim := { program := "ytbiclpaakehgpaa", sum := "79c22cec845e9281cff84ff9b5584afa787e0113f7e3e7f36ff4dc9df058a1f2", func := "credenza/credenzalaw07.GroupRight", spec := "groupRight", unfollowed := true, recurses := true, apart := false, narrowed := true }
def GroupRightUptoSaid : Prop := groupRightUptoRow.holds Try.pinned (OpenSpec.upto groupRightSpec)

/-- 'credenzalaw07.GroupFlat', WHERE WHAT IT READS IS OF BULK AT MOST 1048576: true; the input reads as it did. -/
def groupFlatUptoRow : OpenClaim := { program := "ytbiclpaakehgpaa", sum := "79c22cec845e9281cff84ff9b5584afa787e0113f7e3e7f36ff4dc9df058a1f2", func := "credenza/credenzalaw07.GroupFlat", spec := "groupFlat", unfollowed := true, recurses := true, apart := false, narrowed := true }
def GroupFlatUptoSaid : Prop := groupFlatUptoRow.holds Try.pinned (OpenSpec.upto groupFlatSpec)

/-- 'credenzalaw07.GroupMoves', WHERE WHAT IT READS IS OF BULK AT MOST 1048576: true; the input reads as it did. -/
def groupMovesUptoRow : OpenClaim := { program := "ytbiclpaakehgpaa", sum := "79c22cec845e9281cff84ff9b5584afa787e0113f7e3e7f36ff4dc9df058a1f2", func := "credenza/credenzalaw07.GroupMoves", spec := "groupMoves", unfollowed := true, recurses := true, apart := false, narrowed := true }
def GroupMovesUptoSaid : Prop := groupMovesUptoRow.holds Try.pinned (OpenSpec.upto groupMovesSpec)

/-- 'credenzalaw07.GroupEquals', WHERE WHAT IT READS IS OF BULK AT MOST 1048576: true; the input reads as it did. -/
def groupEqualsUptoRow : OpenClaim := { program := "ytbiclpaakehgpaa", sum := "79c22cec845e9281cff84ff9b5584afa787e0113f7e3e7f36ff4dc9df058a1f2", func := "credenza/credenzalaw07.GroupEquals", spec := "groupEquals", unfollowed := true, recurses := true, apart := false, narrowed := true }
def GroupEqualsUptoSaid : Prop := groupEqualsUptoRow.holds Try.pinned (OpenSpec.upto groupEqualsSpec)

end Rows
end Go.Proofs.Ytbiclpaakehgpaa
