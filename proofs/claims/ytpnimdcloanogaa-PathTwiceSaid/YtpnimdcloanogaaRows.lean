/-
  No cell of these rows narrows 'for every input' (looked for: loops, veiled, ifaces, maps, wideKeys, modest, calm, conditions, laid).
  DERIVED. THE GIVEN ROWS OF THIS SEAT. 7 by the template 'for every input the law returns true; each argument reads behind the call as it read before'; 0 by the template 'total and deterministic' (their statements: YtpnimdcloanogaaTotals.lean).
  GIVEN WITH THE SEED: the statements are not yours to turn. If you find one false, say at which input.
  Laid BY PROGRAM, IN A SANDBOX (cutbox-rows.mjs): the forced cells as the released guide's own fill.sh prints them over the translation a349e9ac7247e381… (all of the seat's roots in one cut). By AI agents, Wed Nov 11 2026. No macro, syntax, notation, axiom, sorry.
-/
import Derived.Test.YtpnimdcloanogaaChecked
import GoSem.Claim
import GoSem.ClaimJoined
import GoSem.ClaimMapViews
import Derived.JoinedTies
import Derived.KernelRfl
namespace Go.Proofs.Ytpnimdcloanogaa
/- THE CELL 'sum', in the pinned program and in every row, IS THE sha256 OF THE DUMP (.gsa) THAT YtpnimdcloanogaaProg.lean LOADS. Nothing in Lean hashes anything: it is a label: what it is worth is what the hold of that sum in a sandbox is worth. -/
noncomputable def Try.pinned : Pinned := { name := "ytpnimdcloanogaa", sum := "a349e9ac7247e381e8242d4024840f1cb68064f7c73e68c467f5716717578340", checked := Try.checked }
namespace Rows
def none {H : Type} : Left H := { results := [], args := [] }

/-- 'garboardlaw05.PathThens': WHATEVER THE INPUT: true; the input reads as it did. -/
def pathThensSpec : ChangeSpec := { name := "pathThens", fn := fun _ => fun
  | [d1, d2] => { results := [.lit (.bool true)], args := [d1, d2] }
  | _ => none }
def pathThensRow : OpenClaim := { program := "ytpnimdcloanogaa", sum := "a349e9ac7247e381e8242d4024840f1cb68064f7c73e68c467f5716717578340", func := "garboard/garboardlaw05.PathThens", spec := "pathThens", inPlace := ["internal/reflectlite.ValueOf", "internal/reflectlite.Swapper", "(internal/reflectlite.Value).Len"], unfollowed := true, recurses := true, apart := false }
def PathThensSaid : Prop := pathThensRow.holds Try.pinned (OpenSpec.ofChange pathThensSpec)

/-- ITS FALSE NEIGHBOUR: 'it returns false'. Refute it at one input. -/
def pathThensWrong : ChangeSpec := { name := "pathThens", fn := fun _ => fun
  | [d1, d2] => { results := [.lit (.bool false)], args := [d1, d2] }
  | _ => none }
def PathThensWrongFalsely : Prop := pathThensRow.holds Try.pinned (OpenSpec.ofChange pathThensWrong)

/-- 'garboardlaw05.PathLists': WHATEVER THE INPUT: true; the input reads as it did. -/
def pathListsSpec : ChangeSpec := { name := "pathLists", fn := fun _ => fun
  | [d1, d2] => { results := [.lit (.bool true)], args := [d1, d2] }
  | _ => none }
def pathListsRow : OpenClaim := { program := "ytpnimdcloanogaa", sum := "a349e9ac7247e381e8242d4024840f1cb68064f7c73e68c467f5716717578340", func := "garboard/garboardlaw05.PathLists", spec := "pathLists", inPlace := ["internal/reflectlite.ValueOf", "internal/reflectlite.Swapper", "(internal/reflectlite.Value).Len"], unfollowed := true, recurses := true, apart := false }
def PathListsSaid : Prop := pathListsRow.holds Try.pinned (OpenSpec.ofChange pathListsSpec)

/-- ITS FALSE NEIGHBOUR: 'it returns false'. Refute it at one input. -/
def pathListsWrong : ChangeSpec := { name := "pathLists", fn := fun _ => fun
  | [d1, d2] => { results := [.lit (.bool false)], args := [d1, d2] }
  | _ => none }
def PathListsWrongFalsely : Prop := pathListsRow.holds Try.pinned (OpenSpec.ofChange pathListsWrong)

/-- 'garboardlaw05.PathOrder': WHATEVER THE INPUT: true; the input reads as it did. -/
def pathOrderSpec : ChangeSpec := { name := "pathOrder", fn := fun _ => fun
  | [d1, d2, d3] => { results := [.lit (.bool true)], args := [d1, d2, d3] }
  | _ => none }
def pathOrderRow : OpenClaim := { program := "ytpnimdcloanogaa", sum := "a349e9ac7247e381e8242d4024840f1cb68064f7c73e68c467f5716717578340", func := "garboard/garboardlaw05.PathOrder", spec := "pathOrder", inPlace := ["internal/reflectlite.ValueOf", "internal/reflectlite.Swapper", "(internal/reflectlite.Value).Len"], unfollowed := true, recurses := true, apart := false }
def PathOrderSaid : Prop := pathOrderRow.holds Try.pinned (OpenSpec.ofChange pathOrderSpec)

/-- ITS FALSE NEIGHBOUR: 'it returns false'. Refute it at one input. -/
def pathOrderWrong : ChangeSpec := { name := "pathOrder", fn := fun _ => fun
  | [d1, d2, d3] => { results := [.lit (.bool false)], args := [d1, d2, d3] }
  | _ => none }
def PathOrderWrongFalsely : Prop := pathOrderRow.holds Try.pinned (OpenSpec.ofChange pathOrderWrong)

/-- 'garboardlaw05.PathStamps': WHATEVER THE INPUT: true; the input reads as it did. -/
def pathStampsSpec : ChangeSpec := { name := "pathStamps", fn := fun _ => fun
  | [d1, d2, d3] => { results := [.lit (.bool true)], args := [d1, d2, d3] }
  | _ => none }
def pathStampsRow : OpenClaim := { program := "ytpnimdcloanogaa", sum := "a349e9ac7247e381e8242d4024840f1cb68064f7c73e68c467f5716717578340", func := "garboard/garboardlaw05.PathStamps", spec := "pathStamps", inPlace := ["internal/reflectlite.ValueOf", "internal/reflectlite.Swapper", "(internal/reflectlite.Value).Len"], unfollowed := true, recurses := true, apart := false }
def PathStampsSaid : Prop := pathStampsRow.holds Try.pinned (OpenSpec.ofChange pathStampsSpec)

/-- ITS FALSE NEIGHBOUR: 'it returns false'. Refute it at one input. -/
def pathStampsWrong : ChangeSpec := { name := "pathStamps", fn := fun _ => fun
  | [d1, d2, d3] => { results := [.lit (.bool false)], args := [d1, d2, d3] }
  | _ => none }
def PathStampsWrongFalsely : Prop := pathStampsRow.holds Try.pinned (OpenSpec.ofChange pathStampsWrong)

/-- 'garboardlaw05.PathLeast': WHATEVER THE INPUT: true; the input reads as it did. -/
def pathLeastSpec : ChangeSpec := { name := "pathLeast", fn := fun _ => fun
  | [d1, d2] => { results := [.lit (.bool true)], args := [d1, d2] }
  | _ => none }
def pathLeastRow : OpenClaim := { program := "ytpnimdcloanogaa", sum := "a349e9ac7247e381e8242d4024840f1cb68064f7c73e68c467f5716717578340", func := "garboard/garboardlaw05.PathLeast", spec := "pathLeast", inPlace := ["internal/reflectlite.ValueOf", "internal/reflectlite.Swapper", "(internal/reflectlite.Value).Len"], unfollowed := true, recurses := true, apart := false }
def PathLeastSaid : Prop := pathLeastRow.holds Try.pinned (OpenSpec.ofChange pathLeastSpec)

/-- ITS FALSE NEIGHBOUR: 'it returns false'. Refute it at one input. -/
def pathLeastWrong : ChangeSpec := { name := "pathLeast", fn := fun _ => fun
  | [d1, d2] => { results := [.lit (.bool false)], args := [d1, d2] }
  | _ => none }
def PathLeastWrongFalsely : Prop := pathLeastRow.holds Try.pinned (OpenSpec.ofChange pathLeastWrong)

/-- 'garboardlaw05.PathEmpty': WHATEVER THE INPUT: true; the input reads as it did. -/
def pathEmptySpec : ChangeSpec := { name := "pathEmpty", fn := fun _ => fun
  | [d] => { results := [.lit (.bool true)], args := [d] }
  | _ => none }
def pathEmptyRow : OpenClaim := { program := "ytpnimdcloanogaa", sum := "a349e9ac7247e381e8242d4024840f1cb68064f7c73e68c467f5716717578340", func := "garboard/garboardlaw05.PathEmpty", spec := "pathEmpty", inPlace := ["internal/reflectlite.ValueOf", "internal/reflectlite.Swapper", "(internal/reflectlite.Value).Len"], unfollowed := true, recurses := true, apart := false }
def PathEmptySaid : Prop := pathEmptyRow.holds Try.pinned (OpenSpec.ofChange pathEmptySpec)

/-- ITS FALSE NEIGHBOUR: 'it returns false'. Refute it at one input. -/
def pathEmptyWrong : ChangeSpec := { name := "pathEmpty", fn := fun _ => fun
  | [d] => { results := [.lit (.bool false)], args := [d] }
  | _ => none }
def PathEmptyWrongFalsely : Prop := pathEmptyRow.holds Try.pinned (OpenSpec.ofChange pathEmptyWrong)

/-- 'garboardlaw05.PathTwice': WHATEVER THE INPUT: true; the input reads as it did. -/
def pathTwiceSpec : ChangeSpec := { name := "pathTwice", fn := fun _ => fun
  | [d1, d2, d3] => { results := [.lit (.bool true)], args := [d1, d2, d3] }
  | _ => none }
def pathTwiceRow : OpenClaim := { program := "ytpnimdcloanogaa", sum := "a349e9ac7247e381e8242d4024840f1cb68064f7c73e68c467f5716717578340", func := "garboard/garboardlaw05.PathTwice", spec := "pathTwice", inPlace := ["internal/reflectlite.ValueOf", "internal/reflectlite.Swapper", "(internal/reflectlite.Value).Len"], unfollowed := true, recurses := true, apart := false }
def PathTwiceSaid : Prop := pathTwiceRow.holds Try.pinned (OpenSpec.ofChange pathTwiceSpec)

/-- ITS FALSE NEIGHBOUR: 'it returns false'. Refute it at one input. -/
def pathTwiceWrong : ChangeSpec := { name := "pathTwice", fn := fun _ => fun
  | [d1, d2, d3] => { results := [.lit (.bool false)], args := [d1, d2, d3] }
  | _ => none }
def PathTwiceWrongFalsely : Prop := pathTwiceRow.holds Try.pinned (OpenSpec.ofChange pathTwiceWrong)

/- THE SECOND FORM. 'bulk': how many values and letters a reading holds, each counted each time it is reached (what is shared counts as often as it is met; a slice's spare places count too). A statement '..UptoSaid' is the law's where the arguments, and the package variables that the reading takes, are together of bulk at most 1048576: NARROWER than '..Said'. Prove '..Said' where nothing that the law and all that it calls make is longer than what came in: it says more and counts as full. Else prove '..UptoSaid'. A law counts once. -/
mutual
def uptoBulk {H : Type} : DataW H → Nat
  | .lit (.string bytes) => bytes.length + 1
  | .lit _ => 1
  | .nil => 1
  | .ptr d => uptoBulk d + 1
  | .slice elems spare => uptoBulkAll elems + uptoBulkAll spare + 1
  | .agg parts => uptoBulkAll parts + 1
  | .iface _ d => uptoBulk d + 1
  | .map entries => uptoBulkEntries entries + 1
  | .held _ => 1
def uptoBulkAll {H : Type} : List (DataW H) → Nat
  | [] => 0
  | d :: r => uptoBulk d + uptoBulkAll r
def uptoBulkEntries {H : Type} : List (Lit × DataW H) → Nat
  | [] => 0
  | x :: r => uptoBulkEntry x + uptoBulkEntries r
def uptoBulkEntry {H : Type} : Lit × DataW H → Nat
  | (.string bytes, d) => bytes.length + uptoBulk d + 1
  | (_, d) => uptoBulk d + 1
 end
def uptoSmall : (H : Type) → List (DataW H) → Bool := fun _ ds => decide (uptoBulkAll ds ≤ 1048576)
def OpenSpec.upto (s : _root_.Go.ChangeSpec) : _root_.Go.OpenSpec := { _root_.Go.OpenSpec.ofChange s with cond := some uptoSmall }

/-- 'garboardlaw05.PathThens', WHERE WHAT IT READS IS OF BULK AT MOST 1048576: true; the input reads as it did. -/
def pathThensUptoRow : OpenClaim := { program := "ytpnimdcloanogaa", sum := "a349e9ac7247e381e8242d4024840f1cb68064f7c73e68c467f5716717578340", func := "garboard/garboardlaw05.PathThens", spec := "pathThens", inPlace := ["internal/reflectlite.ValueOf", "internal/reflectlite.Swapper", "(internal/reflectlite.Value).Len"], unfollowed := true, recurses := true, apart := false, narrowed := true }
def PathThensUptoSaid : Prop := pathThensUptoRow.holds Try.pinned (OpenSpec.upto pathThensSpec)

/-- 'garboardlaw05.PathLists', WHERE WHAT IT READS IS OF BULK AT MOST 1048576: true; the input reads as it did. -/
def pathListsUptoRow : OpenClaim := { program := "ytpnimdcloanogaa", sum := "a349e9ac7247e381e8242d4024840f1cb68064f7c73e68c467f5716717578340", func := "garboard/garboardlaw05.PathLists", spec := "pathLists", inPlace := ["internal/reflectlite.ValueOf", "internal/reflectlite.Swapper", "(internal/reflectlite.Value).Len"], unfollowed := true, recurses := true, apart := false, narrowed := true }
def PathListsUptoSaid : Prop := pathListsUptoRow.holds Try.pinned (OpenSpec.upto pathListsSpec)

/-- 'garboardlaw05.PathOrder', WHERE WHAT IT READS IS OF BULK AT MOST 1048576: true; the input reads as it did. -/
def pathOrderUptoRow : OpenClaim := { program := "ytpnimdcloanogaa", sum := "a349e9ac7247e381e8242d4024840f1cb68064f7c73e68c467f5716717578340", func := "garboard/garboardlaw05.PathOrder", spec := "pathOrder", inPlace := ["internal/reflectlite.ValueOf", "internal/reflectlite.Swapper", "(internal/reflectlite.Value).Len"], unfollowed := true, recurses := true, apart := false, narrowed := true }
def PathOrderUptoSaid : Prop := pathOrderUptoRow.holds Try.pinned (OpenSpec.upto pathOrderSpec)

/-- 'garboardlaw05.PathStamps', WHERE WHAT IT READS IS OF BULK AT MOST 1048576: true; the input reads as it did. -/
def pathStampsUptoRow : OpenClaim := { program := "ytpnimdcloanogaa", sum := "a349e9ac7247e381e8242d4024840f1cb68064f7c73e68c467f5716717578340", func := "garboard/garboardlaw05.PathStamps", spec := "pathStamps", inPlace := ["internal/reflectlite.ValueOf", "internal/reflectlite.Swapper", "(internal/reflectlite.Value).Len"], unfollowed := true, recurses := true, apart := false, narrowed := true }
def PathStampsUptoSaid : Prop := pathStampsUptoRow.holds Try.pinned (OpenSpec.upto pathStampsSpec)

/-- 'garboardlaw05.PathLeast', WHERE WHAT IT READS IS OF BULK AT MOST 1048576: true; the input reads as it did. -/
def pathLeastUptoRow : OpenClaim := { program := "ytpnimdcloanogaa", sum := "a349e9ac7247e381e8242d4024840f1cb68064f7c73e68c467f5716717578340", func := "garboard/garboardlaw05.PathLeast", spec := "pathLeast", inPlace := ["internal/reflectlite.ValueOf", "internal/reflectlite.Swapper", "(internal/reflectlite.Value).Len"], unfollowed := true, recurses := true, apart := false, narrowed := true }
def PathLeastUptoSaid : Prop := pathLeastUptoRow.holds Try.pinned (OpenSpec.upto pathLeastSpec)

/-- 'garboardlaw05.PathEmpty', WHERE WHAT IT READS IS OF BULK AT MOST 1048576: true; the input reads as it did. -/
def pathEmptyUptoRow : OpenClaim := { program := "ytpnimdcloanogaa", sum := "a349e9ac7247e381e8242d4024840f1cb68064f7c73e68c467f5716717578340", func := "garboard/garboardlaw05.PathEmpty", spec := "pathEmpty", inPlace := ["internal/reflectlite.ValueOf", "internal/reflectlite.Swapper", "(internal/reflectlite.Value).Len"], unfollowed := true, recurses := true, apart := false, narrowed := true }
def PathEmptyUptoSaid : Prop := pathEmptyUptoRow.holds Try.pinned (OpenSpec.upto pathEmptySpec)

/-- 'garboardlaw05.PathTwice', WHERE WHAT IT READS IS OF BULK AT MOST 1048576: true; the input reads as it did. -/
def pathTwiceUptoRow : OpenClaim := { program := "ytpnimdcloanogaa", sum := "a349e9ac7247e381e8242d4024840f1cb68064f7c73e68c467f5716717578340", func := "garboard/garboardlaw05.PathTwice", spec := "pathTwice", inPlace := ["internal/reflectlite.ValueOf", "internal/reflectlite.Swapper", "(internal/reflectlite.Value).Len"], unfollowed := true, recurses := true, apart := false, narrowed := true }
def PathTwiceUptoSaid : Prop := pathTwiceUptoRow.holds Try.pinned (OpenSpec.upto pathTwiceSpec)

end Rows
end Go.Proofs.Ytpnimdcloanogaa
