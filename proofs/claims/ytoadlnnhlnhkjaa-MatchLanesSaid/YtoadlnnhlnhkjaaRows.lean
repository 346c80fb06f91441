/-
  No cell of these rows narrows 'for every input' (looked for: loops, veiled, ifaces, maps, wideKeys, modest, calm, conditions, laid).
  DERIVED. THE GIVEN ROWS OF THIS SEAT. 4 by the template 'for every input the law returns true; each argument reads behind the call as it read before'; 0 by the template 'total and deterministic' (their statements: YtoadlnnhlnhkjaaTotals.lean).
  GIVEN WITH THE SEED: the statements are not yours to turn. If you find one false, say at which input.
  Laid BY PROGRAM, IN A SANDBOX (cutbox-rows.mjs): the forced cells as the released guide's own fill.sh prints them over the translation 1e53ee7f3b6a563d… (all of the seat's roots in one cut). By AI agents, Wed Nov 11 2026. No macro, syntax, notation, axiom, sorry.
-/
import Derived.Test.YtoadlnnhlnhkjaaChecked
import GoSem.Claim
import GoSem.ClaimJoined
import GoSem.ClaimMapViews
import Derived.JoinedTies
import Derived.KernelRfl
namespace Go.Proofs.Ytoadlnnhlnhkjaa
/- THE CELL 'sum', in the pinned program and in every row, IS THE sha256 OF THE DUMP (.gsa) THAT YtoadlnnhlnhkjaaProg.lean LOADS. Nothing in Lean hashes anything: it is a label: what it is worth is what the hold of that sum in a sandbox is worth. -/
noncomputable def Try.pinned : Pinned := { name := "ytoadlnnhlnhkjaa", sum := "1e53ee7f3b6a563d5079318bb3351b294f9b61fb30fd82621a7be2a06c8cc6be", checked := Try.checked }
namespace Rows
def none {H : Type} : Left H := { results := [], args := [] }

/-- 'garboardlaw12.MatchSums': WHATEVER THE INPUT: true; the input reads as it did. -/
def matchSumsSpec : ChangeSpec := { name := "matchSums", fn := fun _ => fun
  | [d] => { results := [.lit (.bool true)], args := [d] }
  | _ => none }
def matchSumsRow : OpenClaim := { program := "ytoadlnnhlnhkjaa", sum := "1e53ee7f3b6a563d5079318bb3351b294f9b61fb30fd82621a7be2a06c8cc6be", func := "garboard/garboardlaw12.MatchSums", spec := "matchSums", plainKeys := false, apart := false }
def MatchSumsSaid : Prop := matchSumsRow.holds Try.pinned (OpenSpec.ofChange matchSumsSpec)

/-- ITS FALSE NEIGHBOUR: 'it returns false'. Refute it at one input. -/
def matchSumsWrong : ChangeSpec := { name := "matchSums", fn := fun _ => fun
  | [d] => { results := [.lit (.bool false)], args := [d] }
  | _ => none }
def MatchSumsWrongFalsely : Prop := matchSumsRow.holds Try.pinned (OpenSpec.ofChange matchSumsWrong)

/-- 'garboardlaw12.MatchBack': WHATEVER THE INPUT: true; the input reads as it did. -/
def matchBackSpec : ChangeSpec := { name := "matchBack", fn := fun _ => fun
  | [d] => { results := [.lit (.bool true)], args := [d] }
  | _ => none }
def matchBackRow : OpenClaim := { program := "ytoadlnnhlnhkjaa", sum := "1e53ee7f3b6a563d5079318bb3351b294f9b61fb30fd82621a7be2a06c8cc6be", func := "garboard/garboardlaw12.MatchBack", spec := "matchBack", plainKeys := false, apart := false }
def MatchBackSaid : Prop := matchBackRow.holds Try.pinned (OpenSpec.ofChange matchBackSpec)

/-- ITS FALSE NEIGHBOUR: 'it returns false'. Refute it at one input. -/
def matchBackWrong : ChangeSpec := { name := "matchBack", fn := fun _ => fun
  | [d] => { results := [.lit (.bool false)], args := [d] }
  | _ => none }
def MatchBackWrongFalsely : Prop := matchBackRow.holds Try.pinned (OpenSpec.ofChange matchBackWrong)

/-- 'garboardlaw12.MatchOff': WHATEVER THE INPUT: true; the input reads as it did. -/
def matchOffSpec : ChangeSpec := { name := "matchOff", fn := fun _ => fun
  | [d1, d2] => { results := [.lit (.bool true)], args := [d1, d2] }
  | _ => none }
def matchOffRow : OpenClaim := { program := "ytoadlnnhlnhkjaa", sum := "1e53ee7f3b6a563d5079318bb3351b294f9b61fb30fd82621a7be2a06c8cc6be", func := "garboard/garboardlaw12.MatchOff", spec := "matchOff", unfollowed := true, recurses := true, plainKeys := false, apart := false }
def MatchOffSaid : Prop := matchOffRow.holds Try.pinned (OpenSpec.ofChange matchOffSpec)

/-- ITS FALSE NEIGHBOUR: 'it returns false'. Refute it at one input. -/
def matchOffWrong : ChangeSpec := { name := "matchOff", fn := fun _ => fun
  | [d1, d2] => { results := [.lit (.bool false)], args := [d1, d2] }
  | _ => none }
def MatchOffWrongFalsely : Prop := matchOffRow.holds Try.pinned (OpenSpec.ofChange matchOffWrong)

/-- 'garboardlaw12.MatchLanes': WHATEVER THE INPUT: true; the input reads as it did. -/
def matchLanesSpec : ChangeSpec := { name := "matchLanes", fn := fun _ => fun
  | [d1, d2, d3] => { results := [.lit (.bool true)], args := [d1, d2, d3] }
  | _ => none }
def matchLanesRow : OpenClaim := { program := "ytoadlnnhlnhkjaa", sum := "1e53ee7f3b6a563d5079318bb3351b294f9b61fb30fd82621a7be2a06c8cc6be", func := "garboard/garboardlaw12.MatchLanes", spec := "matchLanes", plainKeys := false, apart := false }
def MatchLanesSaid : Prop := matchLanesRow.holds Try.pinned (OpenSpec.ofChange matchLanesSpec)

/-- ITS FALSE NEIGHBOUR: 'it returns false'. Refute it at one input. -/
def matchLanesWrong : ChangeSpec := { name := "matchLanes", fn := fun _ => fun
  | [d1, d2, d3] => { results := [.lit (.bool false)], args := [d1, d2, d3] }
  | _ => none }
def MatchLanesWrongFalsely : Prop := matchLanesRow.holds Try.pinned (OpenSpec.ofChange matchLanesWrong)

/- THE SECOND FORM. 'bulk': how many values and letters a reading holds, each counted each time it is reached (what is shared counts as often as it is met; a slice's spare places count too). A statement '..UptoSaid' is the law's where the arguments, and the package variables that the reading takes, are together of bulk at most 1048576: NARROWER than '..Said'. Prove '..Said' where nothing that the law and all that it calls make is longer than what came in: it says more and counts as full. Else prove '..UptoSaid'. A law counts once. -/
mutual
def uptoBulk {H : Type} : DataW H → Nat
  | .lit (.string bytes) => bytes.length + 1
  | .lit _ => 1
  | .nil => 1
  | .ptr d => uptoBulk d + 1
  | .slice elems spare => uptoBulkAll elems + uptoBulkAll spare + 1
  | .agg parts => uptoBulkAll parts + 1
  | .iface _ d => uptoBulk d + 1
  | .map entries => uptoBulkEntries entries + 1
  | .held _ => 1
def uptoBulkAll {H : Type} : List (DataW H) → Nat
  | [] => 0
  | d :: r => uptoBulk d + uptoBulkAll r
def uptoBulkEntries {H : Type} : List (Lit × DataW H) → Nat
  | [] => 0
  | x :: r => uptoBulkEntry x + uptoBulkEntries r
def uptoBulkEntry {H : Type} : Lit × DataW H → Nat
  | (.string bytes, d) => bytes.length + uptoBulk d + 1
  | (_, d) => uptoBulk d + 1
 end
def uptoSmall : (H : Type) → List (DataW H) → Bool := fun _ ds => decide (uptoBulkAll ds ≤ 1048576)
def OpenSpec.upto (s : _root_.Go.ChangeSpec) : _root_.Go.OpenSpec := { _root_.Go.OpenSpec.ofChange s with cond := some uptoSmall }

/-- 'garboardlaw12.MatchSums', WHERE WHAT IT READS IS OF BULK AT MOST 1048576: true; the input reads as it did. -/
def matchSumsUptoRow : OpenClaim := { program := "ytoadlnnhlnhkjaa", sum := "1e53ee7f3b6a563d5079318bb3351b294f9b61fb30fd82621a7be2a06c8cc6be", func := "garboard/garboardlaw12.MatchSums", spec := "matchSums", plainKeys := false, apart := false, narrowed := true }
def MatchSumsUptoSaid : Prop := matchSumsUptoRow.holds Try.pinned (OpenSpec.upto matchSumsSpec)

/-- 'garboardlaw12.MatchBack', WHERE WHAT IT READS IS OF BULK AT MOST 1048576: true; the input reads as it did. -/
def matchBackUptoRow : OpenClaim := { program := "ytoadlnnhlnhkjaa", sum := "1e53ee7f3b6a563d5079318bb3351b294f9b61fb30fd82621a7be2a06c8cc6be", func := "garboard/garboardlaw12.MatchBack", spec := "matchBack", plainKeys := false, apart := false, narrowed := true }
def MatchBackUptoSaid : Prop := matchBackUptoRow.holds Try.pinned (OpenSpec.upto matchBackSpec)

/-- 'garboardlaw12.MatchOff', WHERE WHAT IT READS IS OF BULK AT MOST 1048576: true; the input reads as it did. -/
def matchOffUptoRow : OpenClaim := { program := "ytoadlnnhlnhkjaa", sum := "1e53ee7f3b6a563d5079318bb3351b294f9b61fb30fd82621a7be2a06c8cc6be", func := "garboard/garboardlaw12.MatchOff", spec := "matchOff", unfollowed := true, recurses := true, plainKeys := false, apart := false, narrowed := true }
def MatchOffUptoSaid : Prop := matchOffUptoRow.holds Try.pinned (OpenSpec.upto matchOffSpec)

/-- 'garboardlaw12.MatchLanes', WHERE WHAT IT READS IS OF BULK AT MOST 1048576: true; the input reads as it did. -/
def matchLanesUptoRow : OpenClaim := { program := "ytoadlnnhlnhkjaa", sum := "1e53ee7f3b6a563d5079318bb3351b294f9b61fb30fd82621a7be2a06c8cc6be", func := "garboard/garboardlaw12.MatchLanes", spec := "matchLanes", plainKeys := false, apart := false, narrowed := true }
def MatchLanesUptoSaid : Prop := matchLanesUptoRow.holds Try.pinned (OpenSpec.upto matchLanesSpec)

end Rows
end Go.Proofs.Ytoadlnnhlnhkjaa
