/-
  No cell of these rows narrows 'for every input' (looked for: loops, veiled, ifaces, maps, wideKeys, modest, calm, conditions, laid).
  DERIVED. THE GIVEN ROWS OF THIS SEAT. 5 by the template 'for every input the law returns true; each argument reads behind the call as it read before'; 0 by the template 'total and deterministic' (their statements: YtnchnlgnnlgjcaaGreatTotals.lean).
  GIVEN WITH THE SEED: the statements are not yours to turn. If you find one false, say at which input.
  Laid BY PROGRAM, IN A SANDBOX (cutbox-rows.mjs): the forced cells as the released guide's own fill.sh prints them over the translation 07e047cb046ce2e6… (all of the seat's roots in one cut). By AI agents, Wed Nov 11 2026. No macro, syntax, notation, axiom, sorry.
-/
import Derived.Test.YtnchnlgnnlgjcaaGreatChecked
import GoSem.Claim
import GoSem.ClaimJoined
import GoSem.ClaimMapViews
import Derived.JoinedTies
import Derived.KernelRfl
namespace Go.Proofs.YtnchnlgnnlgjcaaGreat
/- THE CELL 'sum', in the pinned program and in every row, IS THE sha256 OF THE DUMP (.gsa) THAT YtnchnlgnnlgjcaaGreatProg.lean LOADS. Nothing in Lean hashes anything: it is a label: what it is worth is what the hold of that sum in a sandbox is worth. -/
noncomputable def Tryz.pinned : Pinned := { name := "ytnchnlgnnlgjcaagreat", sum := "07e047cb046ce2e6128ce69e150a39bec07dd6720d8375eaad0dabcf8f3370af", checked := Tryz.checked }
namespace Rows
def none {H : Type} : Left H := { results := [], args := [] }

/-- 'credenzalaw13.CachePlays': WHATEVER THE INPUT: true; the input reads as it did. -/
def cachePlaysSpec : ChangeSpec := { name := "cachePlays", fn := fun _ => fun
  | [d] => { results := [.lit (.bool true)], args := [d] }
  | _ => none }
def cachePlaysRow : OpenClaim := { program := "ytnchnlgnnlgjcaagreat", sum := "07e047cb046ce2e6128ce69e150a39bec07dd6720d8375eaad0dabcf8f3370af", func := "credenza/credenzalaw13.CachePlays", spec := "cachePlays", inPlace := ["sync/atomic.StoreInt64", "sync/atomic.LoadInt64", "sync/atomic.AddInt64"], unfollowed := true, recurses := true, apart := false }
def CachePlaysSaid : Prop := cachePlaysRow.holds Tryz.pinned (OpenSpec.ofChange cachePlaysSpec)

/-- ITS FALSE NEIGHBOUR: 'it returns false'. Refute it at one input. -/
def cachePlaysWrong : ChangeSpec := { name := "cachePlays", fn := fun _ => fun
  | [d] => { results := [.lit (.bool false)], args := [d] }
  | _ => none }
def CachePlaysWrongFalsely : Prop := cachePlaysRow.holds Tryz.pinned (OpenSpec.ofChange cachePlaysWrong)

/-- 'credenzalaw13.CacheAlone': WHATEVER THE INPUT: true; the input reads as it did. -/
def cacheAloneSpec : ChangeSpec := { name := "cacheAlone", fn := fun _ => fun
  | [d] => { results := [.lit (.bool true)], args := [d] }
  | _ => none }
def cacheAloneRow : OpenClaim := { program := "ytnchnlgnnlgjcaagreat", sum := "07e047cb046ce2e6128ce69e150a39bec07dd6720d8375eaad0dabcf8f3370af", func := "credenza/credenzalaw13.CacheAlone", spec := "cacheAlone", inPlace := ["sync/atomic.StoreInt64", "sync/atomic.LoadInt64", "sync/atomic.AddInt64"], unfollowed := true, recurses := true, apart := false }
def CacheAloneSaid : Prop := cacheAloneRow.holds Tryz.pinned (OpenSpec.ofChange cacheAloneSpec)

/-- ITS FALSE NEIGHBOUR: 'it returns false'. Refute it at one input. -/
def cacheAloneWrong : ChangeSpec := { name := "cacheAlone", fn := fun _ => fun
  | [d] => { results := [.lit (.bool false)], args := [d] }
  | _ => none }
def CacheAloneWrongFalsely : Prop := cacheAloneRow.holds Tryz.pinned (OpenSpec.ofChange cacheAloneWrong)

/-- 'credenzalaw13.CacheFrees': WHATEVER THE INPUT: true; the input reads as it did. -/
def cacheFreesSpec : ChangeSpec := { name := "cacheFrees", fn := fun _ => fun
  | [d] => { results := [.lit (.bool true)], args := [d] }
  | _ => none }
def cacheFreesRow : OpenClaim := { program := "ytnchnlgnnlgjcaagreat", sum := "07e047cb046ce2e6128ce69e150a39bec07dd6720d8375eaad0dabcf8f3370af", func := "credenza/credenzalaw13.CacheFrees", spec := "cacheFrees", inPlace := ["sync/atomic.StoreInt64", "sync/atomic.LoadInt64", "sync/atomic.AddInt64"], unfollowed := true, recurses := true, apart := false }
def CacheFreesSaid : Prop := cacheFreesRow.holds Tryz.pinned (OpenSpec.ofChange cacheFreesSpec)

/-- ITS FALSE NEIGHBOUR: 'it returns false'. Refute it at one input. -/
def cacheFreesWrong : ChangeSpec := { name := "cacheFrees", fn := fun _ => fun
  | [d] => { results := [.lit (.bool false)], args := [d] }
  | _ => none }
def CacheFreesWrongFalsely : Prop := cacheFreesRow.holds Tryz.pinned (OpenSpec.ofChange cacheFreesWrong)

/-- 'credenzalaw13.CacheOwn': WHATEVER THE INPUT: true; the input reads as it did. -/
def cacheOwnSpec : ChangeSpec := { name := "cacheOwn", fn := fun _ => fun
  | [d] => { results := [.lit (.bool true)], args := [d] }
  | _ => none }
def cacheOwnRow : OpenClaim := { program := "ytnchnlgnnlgjcaagreat", sum := "07e047cb046ce2e6128ce69e150a39bec07dd6720d8375eaad0dabcf8f3370af", func := "credenza/credenzalaw13.CacheOwn", spec := "cacheOwn", inPlace := ["sync/atomic.StoreInt64", "sync/atomic.LoadInt64", "sync/atomic.AddInt64"], unfollowed := true, recurses := true, apart := false }
def CacheOwnSaid : Prop := cacheOwnRow.holds Tryz.pinned (OpenSpec.ofChange cacheOwnSpec)

/-- ITS FALSE NEIGHBOUR: 'it returns false'. Refute it at one input. -/
def cacheOwnWrong : ChangeSpec := { name := "cacheOwn", fn := fun _ => fun
  | [d] => { results := [.lit (.bool false)], args := [d] }
  | _ => none }
def CacheOwnWrongFalsely : Prop := cacheOwnRow.holds Tryz.pinned (OpenSpec.ofChange cacheOwnWrong)

/-- 'credenzalaw13.CacheNeeds': WHATEVER THE INPUT: true; the input reads as it did. -/
def cacheNeedsSpec : ChangeSpec := { name := "cacheNeeds", fn := fun _ => fun
  | [d] => { results := [.lit (.bool true)], args := [d] }
  | _ => none }
def cacheNeedsRow : OpenClaim := { program := "ytnchnlgnnlgjcaagreat", sum := "07e047cb046ce2e6128ce69e150a39bec07dd6720d8375eaad0dabcf8f3370af", func := "credenza/credenzalaw13.CacheNeeds", spec := "cacheNeeds", inPlace := ["sync/atomic.StoreInt64", "sync/atomic.LoadInt64", "sync/atomic.AddInt64"], unfollowed := true, recurses := true, apart := false }
def CacheNeedsSaid : Prop := cacheNeedsRow.holds Tryz.pinned (OpenSpec.ofChange cacheNeedsSpec)

/-- ITS FALSE NEIGHBOUR: 'it returns false'. Refute it at one input. -/
def cacheNeedsWrong : ChangeSpec := { name := "cacheNeeds", fn := fun _ => fun
  | [d] => { results := [.lit (.bool false)], args := [d] }
  | _ => none }
def CacheNeedsWrongFalsely : Prop := cacheNeedsRow.holds Tryz.pinned (OpenSpec.ofChange cacheNeedsWrong)

/- THE SECOND FORM. 'bulk': how many values and letters a reading holds, each counted each time it is reached (what is shared counts as often as it is met; a slice's spare places count too). A statement '..UptoSaid' is the law's where the arguments, and the package variables that the reading takes, are together of bulk at most 1048576: NARROWER than '..Said'. Prove '..Said' where nothing that the law and all that it calls make is longer than what came in: it says more and counts as full. Else prove '..UptoSaid'. A law counts once. -/
mutual
def uptoBulk {H : Type} : DataW H → Nat
  | .lit (.string bytes) => bytes.length + 1
  | .lit _ => 1
  | .nil => 1
  | .ptr d => uptoBulk d + 1
  | .slice elems spare => uptoBulkAll elems + uptoBulkAll spare + 1
  | .agg parts => uptoBulkAll parts + 1
  | .iface _ d => uptoBulk d + 1
  | .map entries => uptoBulkEntries entries + 1
  | .held _ => 1
def uptoBulkAll {H : Type} : List (DataW H) → Nat
  | [] => 0
  | d :: r => uptoBulk d + uptoBulkAll r
def uptoBulkEntries {H : Type} : List (Lit × DataW H) → Nat
  | [] => 0
  | x :: r => uptoBulkEntry x + uptoBulkEntries r
def uptoBulkEntry {H : Type} : Lit × DataW H → Nat
  | (.string bytes, d) => bytes.length + uptoBulk d + 1
  | (_, d) => uptoBulk d + 1
 end
def uptoSmall : (H : Type) → List (DataW H) → Bool := fun _ ds => decide (uptoBulkAll ds ≤ 1048576)
def OpenSpec.upto (s : _root_.Go.ChangeSpec) : _root_.Go.OpenSpec := { _root_.Go.OpenSpec.ofChange s with cond := some uptoSmall }

/-- 'credenzalaw13.CachePlays', WHERE WHAT IT READS IS OF BULK AT MOST 1048576: true; the input reads as it did. -/
def cachePlaysUptoRow : OpenClaim := { program := "ytnchnlgnnlgjcaagreat", sum := "07e047cb046ce2e6128ce69e150a39bec07dd6720d8375eaad0dabcf8f3370af", func := "credenza/credenzalaw13.CachePlays", spec := "cachePlays", inPlace := ["sync/atomic.StoreInt64", "sync/atomic.LoadInt64", "sync/atomic.AddInt64"], unfollowed := true, recurses := true, apart := false, narrowed := true }
def CachePlaysUptoSaid : Prop := cachePlaysUptoRow.holds Tryz.pinned (OpenSpec.upto cachePlaysSpec)

/-- 'credenzalaw13.CacheAlone', WHERE WHAT IT READS IS OF BULK AT MOST 1048576: true; the input reads as it did. -/
def cacheAloneUptoRow : OpenClaim := { program := "ytnchnlgnnlgjcaagreat", sum := "07e047cb046ce2e6128ce69e150a39bec07dd6720d8375eaad0dabcf8f3370af", func := "credenza/credenzalaw13.CacheAlone", spec := "cacheAlone", inPlace := ["sync/atomic.StoreInt64", "sync/atomic.LoadInt64", "sync/atomic.AddInt64"], unfollowed := true, recurses := true, apart := false, narrowed := true }
def CacheAloneUptoSaid : Prop := cacheAloneUptoRow.holds Tryz.pinned (OpenSpec.upto cacheAloneSpec)

/-- 'credenzalaw13.CacheFrees', WHERE WHAT IT READS IS OF BULK AT MOST 1048576: true; the input reads as it did. -/
def cacheFreesUptoRow : OpenClaim := { program := "ytnchnlgnnlgjcaagreat", sum := "07e047cb046ce2e6128ce69e150a39bec07dd6720d8375eaad0dabcf8f3370af", func := "credenza/credenzalaw13.CacheFrees", spec := "cacheFrees", inPlace := ["sync/atomic.StoreInt64", "sync/atomic.LoadInt64", "sync/atomic.AddInt64"], unfollowed := true, recurses := true, apart := false, narrowed := true }
def CacheFreesUptoSaid : Prop := cacheFreesUptoRow.holds Tryz.pinned (OpenSpec.upto cacheFreesSpec)

/-- 'credenzalaw13.CacheOwn', WHERE WHAT IT READS IS OF BULK AT MOST 1048576: true; the input reads as it did. -/
def cacheOwnUptoRow : OpenClaim := { program := "ytnchnlgnnlgjcaagreat", sum := "07e047cb046ce2e6128ce69e150a39bec07dd6720d8375eaad0dabcf8f3370af", func := "credenza/credenzalaw13.CacheOwn", spec := "cacheOwn", inPlace := ["sync/atomic.StoreInt64", "sync/atomic.LoadInt64", "sync/atomic.AddInt64"], unfollowed := true, recurses := true, apart := false, narrowed := true }
def CacheOwnUptoSaid : Prop := cacheOwnUptoRow.holds Tryz.pinned (OpenSpec.upto cacheOwnSpec)

/-- 'credenzalaw13.CacheNeeds', WHERE WHAT IT READS IS OF BULK AT MOST 1048576: true; the input reads as it did. -/
def cacheNeedsUptoRow : OpenClaim := { program := "ytnchnlgnnlgjcaagreat", sum := "07e047cb046ce2e6128ce69e150a39bec07dd6720d8375eaad0dabcf8f3370af", func := "credenza/credenzalaw13.CacheNeeds", spec := "cacheNeeds", inPlace := ["sync/atomic.StoreInt64", "sync/atomic.LoadInt64", "sync/atomic.AddInt64"], unfollowed := true, recurses := true, apart := false, narrowed := true }
def CacheNeedsUptoSaid : Prop := cacheNeedsUptoRow.holds Tryz.pinned (OpenSpec.upto cacheNeedsSpec)

end Rows
end Go.Proofs.YtnchnlgnnlgjcaaGreat
