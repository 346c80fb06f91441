/-
  No cell of these rows narrows 'for every input' (looked for: loops, veiled, ifaces, maps, wideKeys, modest, calm, conditions, laid).
  DERIVED. THE GIVEN ROWS OF THIS SEAT. 8 by the template 'for every input the law returns true; each argument reads behind the call as it read before'; 0 by the template 'total and deterministic' (their statements: YtabpnebiannglaaTotals.lean).
  GIVEN WITH THE SEED: the statements are not yours to turn. If you find one false, say at which input.
  Laid BY PROGRAM, IN A SANDBOX (cutbox-rows.mjs): the forced cells as the released guide's own fill.sh prints them over the translation fd7248f41a52c1f6… (all of the seat's roots in one cut). By AI agents, Wed Nov 11 2026. No macro, syntax, notation, axiom, sorry.
-/
import Derived.Test.YtabpnebiannglaaChecked
import GoSem.Claim
import GoSem.ClaimJoined
import GoSem.ClaimMapViews
import Derived.JoinedTies
import Derived.KernelRfl
namespace Go.Proofs.Ytabpnebiannglaa
/- THE CELL 'sum', in the pinned program and in every row, IS THE sha256 OF THE DUMP (.gsa) THAT YtabpnebiannglaaProg.lean LOADS. Nothing in Lean hashes anything: it is a label: what it is worth is what the hold of that sum in a sandbox is worth. -/
noncomputable def Try.pinned : Pinned := { name := "ytabpnebiannglaa", sum := "fd7248f41a52c1f64bd75940cc3433a20c2ae8ae5ecbfbfbfda821b86d6b3c3e", checked := Try.checked }
namespace Rows
def none {H : Type} : Left H := { results := [], args := [] }

/-- 'garboardlaw03.AntiTells': WHATEVER THE INPUT: true; the input reads as it did. -/
def antiTellsSpec : ChangeSpec := { name := "antiTells", fn := fun _ => fun
  | [d] => { results := [.lit (.bool true)], args := [d] }
  | _ => none }
def antiTellsRow : OpenClaim := { program := "ytabpnebiannglaa", sum := "fd7248f41a52c1f64bd75940cc3433a20c2ae8ae5ecbfbfbfda821b86d6b3c3e", func := "garboard/garboardlaw03.AntiTells", spec := "antiTells", inPlace := ["internal/reflectlite.ValueOf", "internal/reflectlite.Swapper", "(internal/reflectlite.Value).Len"], unfollowed := true, recurses := true, apart := false }
def AntiTellsSaid : Prop := antiTellsRow.holds Try.pinned (OpenSpec.ofChange antiTellsSpec)

/-- ITS FALSE NEIGHBOUR: 'it returns false'. Refute it at one input. -/
def antiTellsWrong : ChangeSpec := { name := "antiTells", fn := fun _ => fun
  | [d] => { results := [.lit (.bool false)], args := [d] }
  | _ => none }
def AntiTellsWrongFalsely : Prop := antiTellsRow.holds Try.pinned (OpenSpec.ofChange antiTellsWrong)

/-- 'garboardlaw03.AntiCovers': WHATEVER THE INPUT: true; the input reads as it did. -/
def antiCoversSpec : ChangeSpec := { name := "antiCovers", fn := fun _ => fun
  | [d1, d2, d3] => { results := [.lit (.bool true)], args := [d1, d2, d3] }
  | _ => none }
def antiCoversRow : OpenClaim := { program := "ytabpnebiannglaa", sum := "fd7248f41a52c1f64bd75940cc3433a20c2ae8ae5ecbfbfbfda821b86d6b3c3e", func := "garboard/garboardlaw03.AntiCovers", spec := "antiCovers", inPlace := ["internal/reflectlite.ValueOf", "internal/reflectlite.Swapper", "(internal/reflectlite.Value).Len"], unfollowed := true, recurses := true, apart := false }
def AntiCoversSaid : Prop := antiCoversRow.holds Try.pinned (OpenSpec.ofChange antiCoversSpec)

/-- ITS FALSE NEIGHBOUR: 'it returns false'. Refute it at one input. -/
def antiCoversWrong : ChangeSpec := { name := "antiCovers", fn := fun _ => fun
  | [d1, d2, d3] => { results := [.lit (.bool false)], args := [d1, d2, d3] }
  | _ => none }
def AntiCoversWrongFalsely : Prop := antiCoversRow.holds Try.pinned (OpenSpec.ofChange antiCoversWrong)

/-- 'garboardlaw03.AntiLeast': WHATEVER THE INPUT: true; the input reads as it did. -/
def antiLeastSpec : ChangeSpec := { name := "antiLeast", fn := fun _ => fun
  | [d1, d2] => { results := [.lit (.bool true)], args := [d1, d2] }
  | _ => none }
def antiLeastRow : OpenClaim := { program := "ytabpnebiannglaa", sum := "fd7248f41a52c1f64bd75940cc3433a20c2ae8ae5ecbfbfbfda821b86d6b3c3e", func := "garboard/garboardlaw03.AntiLeast", spec := "antiLeast", inPlace := ["internal/reflectlite.ValueOf", "internal/reflectlite.Swapper", "(internal/reflectlite.Value).Len"], unfollowed := true, recurses := true, apart := false }
def AntiLeastSaid : Prop := antiLeastRow.holds Try.pinned (OpenSpec.ofChange antiLeastSpec)

/-- ITS FALSE NEIGHBOUR: 'it returns false'. Refute it at one input. -/
def antiLeastWrong : ChangeSpec := { name := "antiLeast", fn := fun _ => fun
  | [d1, d2] => { results := [.lit (.bool false)], args := [d1, d2] }
  | _ => none }
def AntiLeastWrongFalsely : Prop := antiLeastRow.holds Try.pinned (OpenSpec.ofChange antiLeastWrong)

/-- 'garboardlaw03.AntiBeyond': WHATEVER THE INPUT: true; the input reads as it did. -/
def antiBeyondSpec : ChangeSpec := { name := "antiBeyond", fn := fun _ => fun
  | [d1, d2, d3] => { results := [.lit (.bool true)], args := [d1, d2, d3] }
  | _ => none }
def antiBeyondRow : OpenClaim := { program := "ytabpnebiannglaa", sum := "fd7248f41a52c1f64bd75940cc3433a20c2ae8ae5ecbfbfbfda821b86d6b3c3e", func := "garboard/garboardlaw03.AntiBeyond", spec := "antiBeyond", inPlace := ["internal/reflectlite.ValueOf", "internal/reflectlite.Swapper", "(internal/reflectlite.Value).Len"], unfollowed := true, recurses := true, apart := false }
def AntiBeyondSaid : Prop := antiBeyondRow.holds Try.pinned (OpenSpec.ofChange antiBeyondSpec)

/-- ITS FALSE NEIGHBOUR: 'it returns false'. Refute it at one input. -/
def antiBeyondWrong : ChangeSpec := { name := "antiBeyond", fn := fun _ => fun
  | [d1, d2, d3] => { results := [.lit (.bool false)], args := [d1, d2, d3] }
  | _ => none }
def AntiBeyondWrongFalsely : Prop := antiBeyondRow.holds Try.pinned (OpenSpec.ofChange antiBeyondWrong)

/-- 'garboardlaw03.AntiJoined': WHATEVER THE INPUT: true; the input reads as it did. -/
def antiJoinedSpec : ChangeSpec := { name := "antiJoined", fn := fun _ => fun
  | [d1, d2, d3] => { results := [.lit (.bool true)], args := [d1, d2, d3] }
  | _ => none }
def antiJoinedRow : OpenClaim := { program := "ytabpnebiannglaa", sum := "fd7248f41a52c1f64bd75940cc3433a20c2ae8ae5ecbfbfbfda821b86d6b3c3e", func := "garboard/garboardlaw03.AntiJoined", spec := "antiJoined", inPlace := ["internal/reflectlite.ValueOf", "internal/reflectlite.Swapper", "(internal/reflectlite.Value).Len"], unfollowed := true, recurses := true, apart := false }
def AntiJoinedSaid : Prop := antiJoinedRow.holds Try.pinned (OpenSpec.ofChange antiJoinedSpec)

/-- ITS FALSE NEIGHBOUR: 'it returns false'. Refute it at one input. -/
def antiJoinedWrong : ChangeSpec := { name := "antiJoined", fn := fun _ => fun
  | [d1, d2, d3] => { results := [.lit (.bool false)], args := [d1, d2, d3] }
  | _ => none }
def AntiJoinedWrongFalsely : Prop := antiJoinedRow.holds Try.pinned (OpenSpec.ofChange antiJoinedWrong)

/-- 'garboardlaw03.AntiOrder': WHATEVER THE INPUT: true; the input reads as it did. -/
def antiOrderSpec : ChangeSpec := { name := "antiOrder", fn := fun _ => fun
  | [d1, d2] => { results := [.lit (.bool true)], args := [d1, d2] }
  | _ => none }
def antiOrderRow : OpenClaim := { program := "ytabpnebiannglaa", sum := "fd7248f41a52c1f64bd75940cc3433a20c2ae8ae5ecbfbfbfda821b86d6b3c3e", func := "garboard/garboardlaw03.AntiOrder", spec := "antiOrder", inPlace := ["internal/reflectlite.ValueOf", "internal/reflectlite.Swapper", "(internal/reflectlite.Value).Len"], unfollowed := true, recurses := true, apart := false }
def AntiOrderSaid : Prop := antiOrderRow.holds Try.pinned (OpenSpec.ofChange antiOrderSpec)

/-- ITS FALSE NEIGHBOUR: 'it returns false'. Refute it at one input. -/
def antiOrderWrong : ChangeSpec := { name := "antiOrder", fn := fun _ => fun
  | [d1, d2] => { results := [.lit (.bool false)], args := [d1, d2] }
  | _ => none }
def AntiOrderWrongFalsely : Prop := antiOrderRow.holds Try.pinned (OpenSpec.ofChange antiOrderWrong)

/-- 'garboardlaw03.AntiMore': WHATEVER THE INPUT: true; the input reads as it did. -/
def antiMoreSpec : ChangeSpec := { name := "antiMore", fn := fun _ => fun
  | [d1, d2] => { results := [.lit (.bool true)], args := [d1, d2] }
  | _ => none }
def antiMoreRow : OpenClaim := { program := "ytabpnebiannglaa", sum := "fd7248f41a52c1f64bd75940cc3433a20c2ae8ae5ecbfbfbfda821b86d6b3c3e", func := "garboard/garboardlaw03.AntiMore", spec := "antiMore", inPlace := ["internal/reflectlite.ValueOf", "internal/reflectlite.Swapper", "(internal/reflectlite.Value).Len"], unfollowed := true, recurses := true, apart := false }
def AntiMoreSaid : Prop := antiMoreRow.holds Try.pinned (OpenSpec.ofChange antiMoreSpec)

/-- ITS FALSE NEIGHBOUR: 'it returns false'. Refute it at one input. -/
def antiMoreWrong : ChangeSpec := { name := "antiMore", fn := fun _ => fun
  | [d1, d2] => { results := [.lit (.bool false)], args := [d1, d2] }
  | _ => none }
def AntiMoreWrongFalsely : Prop := antiMoreRow.holds Try.pinned (OpenSpec.ofChange antiMoreWrong)

/-- 'garboardlaw03.AntiOne': WHATEVER THE INPUT: true; the input reads as it did. -/
def antiOneSpec : ChangeSpec := { name := "antiOne", fn := fun _ => fun
  | [d1, d2] => { results := [.lit (.bool true)], args := [d1, d2] }
  | _ => none }
def antiOneRow : OpenClaim := { program := "ytabpnebiannglaa", sum := "fd7248f41a52c1f64bd75940cc3433a20c2ae8ae5ecbfbfbfda821b86d6b3c3e", func := "garboard/garboardlaw03.AntiOne", spec := "antiOne", inPlace := ["internal/reflectlite.ValueOf", "internal/reflectlite.Swapper", "(internal/reflectlite.Value).Len"], unfollowed := true, recurses := true, apart := false }
def AntiOneSaid : Prop := antiOneRow.holds Try.pinned (OpenSpec.ofChange antiOneSpec)

/-- ITS FALSE NEIGHBOUR: 'it returns false'. Refute it at one input. -/
def antiOneWrong : ChangeSpec := { name := "antiOne", fn := fun _ => fun
  | [d1, d2] => { results := [.lit (.bool false)], args := [d1, d2] }
  | _ => none }
def AntiOneWrongFalsely : Prop := antiOneRow.holds Try.pinned (OpenSpec.ofChange antiOneWrong)

/- THE SECOND FORM. 'bulk': how many values and letters a reading holds, each counted each time it is reached (what is shared counts as often as it is met; a slice's spare places count too). A statement '..UptoSaid' is the law's where the arguments, and the package variables that the reading takes, are together of bulk at most 1048576: NARROWER than '..Said'. Prove '..Said' where nothing that the law and all that it calls make is longer than what came in: it says more and counts as full. Else prove '..UptoSaid'. A law counts once. -/
mutual
def uptoBulk {H : Type} : DataW H → Nat
  | .lit (.string bytes) => bytes.length + 1
  | .lit _ => 1
  | .nil => 1
  | .ptr d => uptoBulk d + 1
  | .slice elems spare => uptoBulkAll elems + uptoBulkAll spare + 1
  | .agg parts => uptoBulkAll parts + 1
  | .iface _ d => uptoBulk d + 1
  | .map entries => uptoBulkEntries entries + 1
  | .held _ => 1
def uptoBulkAll {H : Type} : List (DataW H) → Nat
  | [] => 0
  | d :: r => uptoBulk d + uptoBulkAll r
def uptoBulkEntries {H : Type} : List (Lit × DataW H) → Nat
  | [] => 0
  | x :: r => uptoBulkEntry x + uptoBulkEntries r
def uptoBulkEntry {H : Type} : Lit × DataW H → Nat
  | (.string bytes, d) => bytes.length + uptoBulk d + 1
  | (_, d) => uptoBulk d + 1
 end
def uptoSmall : (H : Type) → List (DataW H) → Bool := fun _ ds => decide (uptoBulkAll ds ≤ 1048576)
def OpenSpec.upto (s : _root_.Go.ChangeSpec) : _root_.Go.OpenSpec := { _root_.Go.OpenSpec.ofChange s with cond := some uptoSmall }

/-- 'garboardlaw03.AntiTells', WHERE WHAT IT READS IS OF BULK AT MOST 1048576: true; the input reads as it did. -/
def antiTellsUptoRow : OpenClaim := { program := "ytabpnebiannglaa", sum := "fd7248f41a52c1f64bd75940cc3433a20c2ae8ae5ecbfbfbfda821b86d6b3c3e", func := "garboard/garboardlaw03.AntiTells", spec := "antiTells", inPlace := ["internal/reflectlite.ValueOf", "internal/reflectlite.Swapper", "(internal/reflectlite.Value).Len"], unfollowed := true, recurses := true, apart := false, narrowed := true }
def AntiTellsUptoSaid : Prop := antiTellsUptoRow.holds Try.pinned (OpenSpec.upto antiTellsSpec)

/-- 'garboardlaw03.AntiCovers', WHERE WHAT IT READS IS OF BULK AT MOST 1048576: true; the input reads as it did. -/
def antiCoversUptoRow : OpenClaim := { program := "ytabpnebiannglaa", sum := "fd7248f41a52c1f64bd75940cc3433a20c2ae8ae5ecbfbfbfda821b86d6b3c3e", func := "garboard/garboardlaw03.AntiCovers", spec := "antiCovers", inPlace := ["internal/reflectlite.ValueOf", "internal/reflectlite.Swapper", "(internal/reflectlite.Value).Len"], unfollowed := true, recurses := true, apart := false, narrowed := true }
def AntiCoversUptoSaid : Prop := antiCoversUptoRow.holds Try.pinned (OpenSpec.upto antiCoversSpec)

/-- 'garboardlaw03.AntiLeast', WHERE WHAT IT READS IS OF BULK AT MOST 1048576: true; the input reads as it did. -/
def antiLeastUptoRow : OpenClaim := { program := "ytabpnebiannglaa", sum := "fd7248f41a52c1f64bd75940cc3433a20c2ae8ae5ecbfbfbfda821b86d6b3c3e", func := "garboard/garboardlaw03.AntiLeast", spec := "antiLeast", inPlace := ["internal/reflectlite.ValueOf", "internal/reflectlite.Swapper", "(internal/reflectlite.Value).Len"], unfollowed := true, recurses := true, apart := false, narrowed := true }
def AntiLeastUptoSaid : Prop := antiLeastUptoRow.holds Try.pinned (OpenSpec.upto antiLeastSpec)

/-- 'garboardlaw03.AntiBeyond', WHERE WHAT IT READS IS OF BULK AT MOST 1048576: true; the input reads as it did. -/
def antiBeyondUptoRow : OpenClaim := { program := "ytabpnebiannglaa", sum := "fd7248f41a52c1f64bd75940cc3433a20c2ae8ae5ecbfbfbfda821b86d6b3c3e", func := "garboard/garboardlaw03.AntiBeyond", spec := "antiBeyond", inPlace := ["internal/reflectlite.ValueOf", "internal/reflectlite.Swapper", "(internal/reflectlite.Value).Len"], unfollowed := true, recurses := true, apart := false, narrowed := true }
def AntiBeyondUptoSaid : Prop := antiBeyondUptoRow.holds Try.pinned (OpenSpec.upto antiBeyondSpec)

/-- 'garboardlaw03.AntiJoined', WHERE WHAT IT READS IS OF BULK AT MOST 1048576: true; the input reads as it did. -/
def antiJoinedUptoRow : OpenClaim := { program := "ytabpnebiannglaa", sum := "fd7248f41a52c1f64bd75940cc3433a20c2ae8ae5ecbfbfbfda821b86d6b3c3e", func := "garboard/garboardlaw03.AntiJoined", spec := "antiJoined", inPlace := ["internal/reflectlite.ValueOf", "internal/reflectlite.Swapper", "(internal/reflectlite.Value).Len"], unfollowed := true, recurses := true, apart := false, narrowed := true }
def AntiJoinedUptoSaid : Prop := antiJoinedUptoRow.holds Try.pinned (OpenSpec.upto antiJoinedSpec)

/-- 'garboardlaw03.AntiOrder', WHERE WHAT IT READS IS OF BULK AT MOST 1048576: true; the input reads as it did. -/
def antiOrderUptoRow : OpenClaim := { program := "ytabpnebiannglaa", sum := "fd7248f41a52c1f64bd75940cc3433a20c2ae8ae5ecbfbfbfda821b86d6b3c3e", func := "garboard/garboardlaw03.AntiOrder", spec := "antiOrder", inPlace := ["internal/reflectlite.ValueOf", "internal/reflectlite.Swapper", "(internal/reflectlite.Value).Len"], unfollowed := true, recurses := true, apart := false, narrowed := true }
def AntiOrderUptoSaid : Prop := antiOrderUptoRow.holds Try.pinned (OpenSpec.upto antiOrderSpec)

/-- 'garboardlaw03.AntiMore', WHERE WHAT IT READS IS OF BULK AT MOST 1048576: true; the input reads as it did. -/
def antiMoreUptoRow : OpenClaim := { program := "ytabpnebiannglaa", sum := "fd7248f41a52c1f64bd75940cc3433a20c2ae8ae5ecbfbfbfda821b86d6b3c3e", func := "garboard/garboardlaw03.AntiMore", spec := "antiMore", inPlace := ["internal/reflectlite.ValueOf", "internal/reflectlite.Swapper", "(internal/reflectlite.Value).Len"], unfollowed := true, recurses := true, apart := false, narrowed := true }
def AntiMoreUptoSaid : Prop := antiMoreUptoRow.holds Try.pinned (OpenSpec.upto antiMoreSpec)

/-- 'garboardlaw03.AntiOne', WHERE WHAT IT READS IS OF BULK AT MOST 1048576: true; the input reads as it did. -/
def antiOneUptoRow : OpenClaim := { program := "ytabpnebiannglaa", sum := "fd7248f41a52c1f64bd75940cc3433a20c2ae8ae5ecbfbfbfda821b86d6b3c3e", func := "garboard/garboardlaw03.AntiOne", spec := "antiOne", inPlace := ["internal/reflectlite.ValueOf", "internal/reflectlite.Swapper", "(internal/reflectlite.Value).Len"], unfollowed := true, recurses := true, apart := false, narrowed := true }
def AntiOneUptoSaid : Prop := antiOneUptoRow.holds Try.pinned (OpenSpec.upto antiOneSpec)

end Rows
end Go.Proofs.Ytabpnebiannglaa
