/-
  No cell of these rows narrows 'for every input' (looked for: loops, veiled, ifaces, maps, wideKeys, modest, calm, conditions, laid).
  DERIVED. THE GIVEN ROWS OF THIS SEAT. 6 by the template 'for every input the law returns true; each argument reads behind the call as it read before'; 0 by the template 'total and deterministic' (their statements: YtlgeodnbkndciaaTotals.lean).
  GIVEN WITH THE SEED: the statements are not yours to turn. If you find one false, say at which input.
  Laid BY PROGRAM, IN A SANDBOX (cutbox-rows.mjs): the forced cells as the released guide's own fill.sh prints them over the translation d2337d4d4afc7f52… (all of the seat's roots in one cut). By AI agents, Wed Nov 11 2026. No macro, syntax, notation, axiom, sorry.
-/
import Derived.Test.YtlgeodnbkndciaaChecked
import GoSem.Claim
import GoSem.ClaimJoined
import GoSem.ClaimMapViews
import Derived.JoinedTies
import Derived.KernelRfl
namespace Go.Proofs.Ytlgeodnbkndciaa
/- THE CELL 'sum', in the pinned program and in every row, IS THE sha256 OF THE DUMP (.gsa) THAT YtlgeodnbkndciaaProg.lean LOADS. Nothing in Lean hashes anything: it is a label: what it is worth is what the hold of that sum in a sandbox is worth. -/
noncomputable def Try.pinned : Pinned := { name := "ytlgeodnbkndciaa", sum := "d2337d4d4afc7f521e6b32fd03711c6898a779de80008116358e7b4b932ca685", checked := Try.checked }
namespace Rows
def none {H : Type} : Left H := { results := [], args := [] }

/-- 'garboardlaw07.ReachTells': WHATEVER THE INPUT: true; the input reads as it did. -/
def reachTellsSpec : ChangeSpec := { name := "reachTells", fn := fun _ => fun
  | [d1, d2, d3] => { results := [.lit (.bool true)], args := [d1, d2, d3] }
  | _ => none }
def reachTellsRow : OpenClaim := { program := "ytlgeodnbkndciaa", sum := "d2337d4d4afc7f521e6b32fd03711c6898a779de80008116358e7b4b932ca685", func := "garboard/garboardlaw07.ReachTells", spec := "reachTells", inPlace := ["internal/reflectlite.ValueOf", "internal/reflectlite.Swapper", "(internal/reflectlite.Value).Len"], unfollowed := true, recurses := true, apart := false }
def ReachTellsSaid : Prop := reachTellsRow.holds Try.pinned (OpenSpec.ofChange reachTellsSpec)

/-- ITS FALSE NEIGHBOUR: 'it returns false'. Refute it at one input. -/
def reachTellsWrong : ChangeSpec := { name := "reachTells", fn := fun _ => fun
  | [d1, d2, d3] => { results := [.lit (.bool false)], args := [d1, d2, d3] }
  | _ => none }
def ReachTellsWrongFalsely : Prop := reachTellsRow.holds Try.pinned (OpenSpec.ofChange reachTellsWrong)

/-- 'garboardlaw07.ReachGoes': WHATEVER THE INPUT: true; the input reads as it did. -/
def reachGoesSpec : ChangeSpec := { name := "reachGoes", fn := fun _ => fun
  | [d1, d2] => { results := [.lit (.bool true)], args := [d1, d2] }
  | _ => none }
def reachGoesRow : OpenClaim := { program := "ytlgeodnbkndciaa", sum := "d2337d4d4afc7f521e6b32fd03711c6898a779de80008116358e7b4b932ca685", func := "garboard/garboardlaw07.ReachGoes", spec := "reachGoes", inPlace := ["internal/reflectlite.ValueOf", "internal/reflectlite.Swapper", "(internal/reflectlite.Value).Len"], unfollowed := true, recurses := true, apart := false }
def ReachGoesSaid : Prop := reachGoesRow.holds Try.pinned (OpenSpec.ofChange reachGoesSpec)

/-- ITS FALSE NEIGHBOUR: 'it returns false'. Refute it at one input. -/
def reachGoesWrong : ChangeSpec := { name := "reachGoes", fn := fun _ => fun
  | [d1, d2] => { results := [.lit (.bool false)], args := [d1, d2] }
  | _ => none }
def ReachGoesWrongFalsely : Prop := reachGoesRow.holds Try.pinned (OpenSpec.ofChange reachGoesWrong)

/-- 'garboardlaw07.ReachLater': WHATEVER THE INPUT: true; the input reads as it did. -/
def reachLaterSpec : ChangeSpec := { name := "reachLater", fn := fun _ => fun
  | [d1, d2, d3] => { results := [.lit (.bool true)], args := [d1, d2, d3] }
  | _ => none }
def reachLaterRow : OpenClaim := { program := "ytlgeodnbkndciaa", sum := "d2337d4d4afc7f521e6b32fd03711c6898a779de80008116358e7b4b932ca685", func := "garboard/garboardlaw07.ReachLater", spec := "reachLater", inPlace := ["internal/reflectlite.ValueOf", "internal/reflectlite.Swapper", "(internal/reflectlite.Value).Len"], unfollowed := true, recurses := true, apart := false }
def ReachLaterSaid : Prop := reachLaterRow.holds Try.pinned (OpenSpec.ofChange reachLaterSpec)

/-- ITS FALSE NEIGHBOUR: 'it returns false'. Refute it at one input. -/
def reachLaterWrong : ChangeSpec := { name := "reachLater", fn := fun _ => fun
  | [d1, d2, d3] => { results := [.lit (.bool false)], args := [d1, d2, d3] }
  | _ => none }
def ReachLaterWrongFalsely : Prop := reachLaterRow.holds Try.pinned (OpenSpec.ofChange reachLaterWrong)

/-- 'garboardlaw07.ReachEdge': WHATEVER THE INPUT: true; the input reads as it did. -/
def reachEdgeSpec : ChangeSpec := { name := "reachEdge", fn := fun _ => fun
  | [d1, d2, d3] => { results := [.lit (.bool true)], args := [d1, d2, d3] }
  | _ => none }
def reachEdgeRow : OpenClaim := { program := "ytlgeodnbkndciaa", sum := "d2337d4d4afc7f521e6b32fd03711c6898a779de80008116358e7b4b932ca685", func := "garboard/garboardlaw07.ReachEdge", spec := "reachEdge", inPlace := ["internal/reflectlite.ValueOf", "internal/reflectlite.Swapper", "(internal/reflectlite.Value).Len"], unfollowed := true, recurses := true, apart := false }
def ReachEdgeSaid : Prop := reachEdgeRow.holds Try.pinned (OpenSpec.ofChange reachEdgeSpec)

/-- ITS FALSE NEIGHBOUR: 'it returns false'. Refute it at one input. -/
def reachEdgeWrong : ChangeSpec := { name := "reachEdge", fn := fun _ => fun
  | [d1, d2, d3] => { results := [.lit (.bool false)], args := [d1, d2, d3] }
  | _ => none }
def ReachEdgeWrongFalsely : Prop := reachEdgeRow.holds Try.pinned (OpenSpec.ofChange reachEdgeWrong)

/-- 'garboardlaw07.ReachLeast': WHATEVER THE INPUT: true; the input reads as it did. -/
def reachLeastSpec : ChangeSpec := { name := "reachLeast", fn := fun _ => fun
  | [d1, d2, d3] => { results := [.lit (.bool true)], args := [d1, d2, d3] }
  | _ => none }
def reachLeastRow : OpenClaim := { program := "ytlgeodnbkndciaa", sum := "d2337d4d4afc7f521e6b32fd03711c6898a779de80008116358e7b4b932ca685", func := "garboard/garboardlaw07.ReachLeast", spec := "reachLeast", inPlace := ["internal/reflectlite.ValueOf", "internal/reflectlite.Swapper", "(internal/reflectlite.Value).Len"], unfollowed := true, recurses := true, apart := false }
def ReachLeastSaid : Prop := reachLeastRow.holds Try.pinned (OpenSpec.ofChange reachLeastSpec)

/-- ITS FALSE NEIGHBOUR: 'it returns false'. Refute it at one input. -/
def reachLeastWrong : ChangeSpec := { name := "reachLeast", fn := fun _ => fun
  | [d1, d2, d3] => { results := [.lit (.bool false)], args := [d1, d2, d3] }
  | _ => none }
def ReachLeastWrongFalsely : Prop := reachLeastRow.holds Try.pinned (OpenSpec.ofChange reachLeastWrong)

/-- 'garboardlaw07.ReachSelf': WHATEVER THE INPUT: true; the input reads as it did. -/
def reachSelfSpec : ChangeSpec := { name := "reachSelf", fn := fun _ => fun
  | [d1, d2, d3] => { results := [.lit (.bool true)], args := [d1, d2, d3] }
  | _ => none }
def reachSelfRow : OpenClaim := { program := "ytlgeodnbkndciaa", sum := "d2337d4d4afc7f521e6b32fd03711c6898a779de80008116358e7b4b932ca685", func := "garboard/garboardlaw07.ReachSelf", spec := "reachSelf", inPlace := ["internal/reflectlite.ValueOf", "internal/reflectlite.Swapper", "(internal/reflectlite.Value).Len"], unfollowed := true, recurses := true, apart := false }
def ReachSelfSaid : Prop := reachSelfRow.holds Try.pinned (OpenSpec.ofChange reachSelfSpec)

/-- ITS FALSE NEIGHBOUR: 'it returns false'. Refute it at one input. -/
def reachSelfWrong : ChangeSpec := { name := "reachSelf", fn := fun _ => fun
  | [d1, d2, d3] => { results := [.lit (.bool false)], args := [d1, d2, d3] }
  | _ => none }
def ReachSelfWrongFalsely : Prop := reachSelfRow.holds Try.pinned (OpenSpec.ofChange reachSelfWrong)

/- THE SECOND FORM. 'bulk': how many values and letters a reading holds, each counted each time it is reached (what is shared counts as often as it is met; a slice's spare places count too). A statement '..UptoSaid' is the law's where the arguments, and the package variables that the reading takes, are together of bulk at most 1048576: NARROWER than '..Said'. Prove '..Said' where nothing that the law and all that it calls make is longer than what came in: it says more and counts as full. Else prove '..UptoSaid'. A law counts once. -/
mutual
def uptoBulk {H : Type} : DataW H → Nat
  | .lit (.string bytes) => bytes.length + 1
  | .lit _ => 1
  | .nil => 1
  | .ptr d => uptoBulk d + 1
  | .slice elems spare => uptoBulkAll elems + uptoBulkAll spare + 1
  | .agg parts => uptoBulkAll parts + 1
  | .iface _ d => uptoBulk d + 1
  | .map entries => uptoBulkEntries entries + 1
  | .held _ => 1
def uptoBulkAll {H : Type} : List (DataW H) → Nat
  | [] => 0
  | d :: r => uptoBulk d + uptoBulkAll r
def uptoBulkEntries {H : Type} : List (Lit × DataW H) → Nat
  | [] => 0
  | x :: r => uptoBulkEntry x + uptoBulkEntries r
def uptoBulkEntry {H : Type} : Lit × DataW H → Nat
  | (.string bytes, d) => bytes.length + uptoBulk d + 1
  | (_, d) => uptoBulk d + 1
 end
def uptoSmall : (H : Type) → List (DataW H) → Bool := fun _ ds => decide (uptoBulkAll ds ≤ 1048576)
def OpenSpec.upto (s : _root_.Go.ChangeSpec) : _root_.Go.OpenSpec := { _root_.Go.OpenSpec.ofChange s with cond := some uptoSmall }

/-- 'garboardlaw07.ReachTells', WHERE WHAT IT READS IS OF BULK AT MOST 1048576: true; the input reads as it did. -/
def reachTellsUptoRow : OpenClaim := { program := "ytlgeodnbkndciaa", sum := "d2337d4d4afc7f521e6b32fd03711c6898a779de80008116358e7b4b932ca685", func := "garboard/garboardlaw07.ReachTells", spec := "reachTells", inPlace := ["internal/reflectlite.ValueOf", "internal/reflectlite.Swapper", "(internal/reflectlite.Value).Len"], unfollowed := true, recurses := true, apart := false, narrowed := true }
def ReachTellsUptoSaid : Prop := reachTellsUptoRow.holds Try.pinned (OpenSpec.upto reachTellsSpec)

/-- 'garboardlaw07.ReachGoes', WHERE WHAT IT READS IS OF BULK AT MOST 1048576: true; the input reads as it did. -/
def reachGoesUptoRow : OpenClaim := { program := "ytlgeodnbkndciaa", sum := "d2337d4d4afc7f521e6b32fd03711c6898a779de80008116358e7b4b932ca685", func := "garboard/garboardlaw07.ReachGoes", spec := "reachGoes", inPlace := ["internal/reflectlite.ValueOf", "internal/reflectlite.Swapper", "(internal/reflectlite.Value).Len"], unfollowed := true, recurses := true, apart := false, narrowed := true }
def ReachGoesUptoSaid : Prop := reachGoesUptoRow.holds Try.pinned (OpenSpec.upto reachGoesSpec)

/-- 'garboardlaw07.ReachLater', WHERE WHAT IT READS IS OF BULK AT MOST 1048576: true; the input reads as it did. -/
def reachLaterUptoRow : OpenClaim := { program := "ytlgeodnbkndciaa", sum := "d2337d4d4afc7f521e6b32fd03711c6898a779de80008116358e7b4b932ca685", func := "garboard/garboardlaw07.ReachLater", spec := "reachLater", inPlace := ["internal/reflectlite.ValueOf", "internal/reflectlite.Swapper", "(internal/reflectlite.Value).Len"], unfollowed := true, recurses := true, apart := false, narrowed := true }
def ReachLaterUptoSaid : Prop := reachLaterUptoRow.holds Try.pinned (OpenSpec.upto reachLaterSpec)

/-- 'garboardlaw07.ReachEdge', WHERE WHAT IT READS IS OF BULK AT MOST 1048576: true; the input reads as it did. -/
def reachEdgeUptoRow : OpenClaim := { program := "ytlgeodnbkndciaa", sum := "d2337d4d4afc7f521e6b32fd03711c6898a779de80008116358e7b4b932ca685", func := "garboard/garboardlaw07.ReachEdge", spec := "reachEdge", inPlace := ["internal/reflectlite.ValueOf", "internal/reflectlite.Swapper", "(internal/reflectlite.Value).Len"], unfollowed := true, recurses := true, apart := false, narrowed := true }
def ReachEdgeUptoSaid : Prop := reachEdgeUptoRow.holds Try.pinned (OpenSpec.upto reachEdgeSpec)

/-- 'garboardlaw07.ReachLeast', WHERE WHAT IT READS IS OF BULK AT MOST 1048576: true; the input reads as it did. -/
def reachLeastUptoRow : OpenClaim := { program := "ytlgeodnbkndciaa", sum := "d2337d4d4afc7f521e6b32fd03711c6898a779de80008116358e7b4b932ca685", func := "garboard/garboardlaw07.ReachLeast", spec := "reachLeast", inPlace := ["internal/reflectlite.ValueOf", "internal/reflectlite.Swapper", "(internal/reflectlite.Value).Len"], unfollowed := true, recurses := true, apart := false, narrowed := true }
def ReachLeastUptoSaid : Prop := reachLeastUptoRow.holds Try.pinned (OpenSpec.upto reachLeastSpec)

/-- 'garboardlaw07.ReachSelf', WHERE WHAT IT READS IS OF BULK AT MOST 1048576: true; the input reads as it did. -/
def reachSelfUptoRow : OpenClaim := { program := "ytlgeodnbkndciaa", sum := "d2337d4d4afc7f521e6b32fd03711c6898a779de80008116358e7b4b932ca685", func := "garboard/garboardlaw07.ReachSelf", spec := "reachSelf", inPlace := ["internal/reflectlite.ValueOf", "internal/reflectlite.Swapper", "(internal/reflectlite.Value).Len"], unfollowed := true, recurses := true, apart := false, narrowed := true }
def ReachSelfUptoSaid : Prop := reachSelfUptoRow.holds Try.pinned (OpenSpec.upto reachSelfSpec)

end Rows
end Go.Proofs.Ytlgeodnbkndciaa
