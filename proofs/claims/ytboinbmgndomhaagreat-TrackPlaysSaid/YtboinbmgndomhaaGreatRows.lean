/-
  No cell of these rows narrows 'for every input' (looked for: loops, veiled, ifaces, maps, wideKeys, modest, calm, conditions, laid).
  DERIVED. THE GIVEN ROWS OF THIS SEAT. 4 by the template 'for every input the law returns true; each argument reads behind the call as it read before'; 0 by the template 'total and deterministic' (their statements: YtboinbmgndomhaaGreatTotals.lean).
  GIVEN WITH THE SEED: the statements are not yours to turn. If you find one false, say at which input.
  Laid BY PROGRAM, IN A SANDBOX (cutbox-rows.mjs): the forced cells as the released guide's own fill.sh prints them over the translation 88ea48bedd4d1976… (all of the seat's roots in one cut). By AI agents, Wed Nov 11 2026. No macro, syntax, notation, axiom, sorry.
-/
import Derived.Test.YtboinbmgndomhaaGreatChecked
import GoSem.Claim
import GoSem.ClaimJoined
import GoSem.ClaimMapViews
import Derived.JoinedTies
import Derived.KernelRfl
namespace Go.Proofs.YtboinbmgndomhaaGreat
/- THE CELL 'sum', in the pinned program and in every row, IS THE sha256 OF THE DUMP (.gsa) THAT YtboinbmgndomhaaGreatProg.lean LOADS. Nothing in Lean hashes anything: it is a label: what it is worth is what the hold of that sum in a sandbox is worth. -/
noncomputable def Tryz.pinned : Pinned := { name := "ytboinbmgndomhaagreat", sum := "88ea48bedd4d1976d7b9dcf3b52e44e976942ff8e041c43d345e87c379b1e1f3", checked := Tryz.checked }
namespace Rows
def none {H : Type} : Left H := { results := [], args := [] }

/-- 'garboardlaw08.TrackPlays': WHATEVER THE INPUT: true; the input reads as it did. -/
def trackPlaysSpec : ChangeSpec := { name := "trackPlays", fn := fun _ => fun
  | [d1, d2] => { results := [.lit (.bool true)], args := [d1, d2] }
  | _ => none }
def trackPlaysRow : OpenClaim := { program := "ytboinbmgndomhaagreat", sum := "88ea48bedd4d1976d7b9dcf3b52e44e976942ff8e041c43d345e87c379b1e1f3", func := "garboard/garboardlaw08.TrackPlays", spec := "trackPlays", inPlace := ["internal/reflectlite.ValueOf", "internal/reflectlite.Swapper", "(internal/reflectlite.Value).Len"], unfollowed := true, recurses := true, plainKeys := false, apart := false }
def TrackPlaysSaid : Prop := trackPlaysRow.holds Tryz.pinned (OpenSpec.ofChange trackPlaysSpec)

/-- ITS FALSE NEIGHBOUR: 'it returns false'. Refute it at one input. -/
def trackPlaysWrong : ChangeSpec := { name := "trackPlays", fn := fun _ => fun
  | [d1, d2] => { results := [.lit (.bool false)], args := [d1, d2] }
  | _ => none }
def TrackPlaysWrongFalsely : Prop := trackPlaysRow.holds Tryz.pinned (OpenSpec.ofChange trackPlaysWrong)

/-- 'garboardlaw08.TrackHolds': WHATEVER THE INPUT: true; the input reads as it did. -/
def trackHoldsSpec : ChangeSpec := { name := "trackHolds", fn := fun _ => fun
  | [d1, d2, d3] => { results := [.lit (.bool true)], args := [d1, d2, d3] }
  | _ => none }
def trackHoldsRow : OpenClaim := { program := "ytboinbmgndomhaagreat", sum := "88ea48bedd4d1976d7b9dcf3b52e44e976942ff8e041c43d345e87c379b1e1f3", func := "garboard/garboardlaw08.TrackHolds", spec := "trackHolds", inPlace := ["internal/reflectlite.ValueOf", "internal/reflectlite.Swapper", "(internal/reflectlite.Value).Len"], unfollowed := true, recurses := true, plainKeys := false, apart := false }
def TrackHoldsSaid : Prop := trackHoldsRow.holds Tryz.pinned (OpenSpec.ofChange trackHoldsSpec)

/-- ITS FALSE NEIGHBOUR: 'it returns false'. Refute it at one input. -/
def trackHoldsWrong : ChangeSpec := { name := "trackHolds", fn := fun _ => fun
  | [d1, d2, d3] => { results := [.lit (.bool false)], args := [d1, d2, d3] }
  | _ => none }
def TrackHoldsWrongFalsely : Prop := trackHoldsRow.holds Tryz.pinned (OpenSpec.ofChange trackHoldsWrong)

/-- 'garboardlaw08.TrackStays': WHATEVER THE INPUT: true; the input reads as it did. -/
def trackStaysSpec : ChangeSpec := { name := "trackStays", fn := fun _ => fun
  | [d1, d2, d3] => { results := [.lit (.bool true)], args := [d1, d2, d3] }
  | _ => none }
def trackStaysRow : OpenClaim := { program := "ytboinbmgndomhaagreat", sum := "88ea48bedd4d1976d7b9dcf3b52e44e976942ff8e041c43d345e87c379b1e1f3", func := "garboard/garboardlaw08.TrackStays", spec := "trackStays", inPlace := ["internal/reflectlite.ValueOf", "internal/reflectlite.Swapper", "(internal/reflectlite.Value).Len"], unfollowed := true, recurses := true, plainKeys := false, apart := false }
def TrackStaysSaid : Prop := trackStaysRow.holds Tryz.pinned (OpenSpec.ofChange trackStaysSpec)

/-- ITS FALSE NEIGHBOUR: 'it returns false'. Refute it at one input. -/
def trackStaysWrong : ChangeSpec := { name := "trackStays", fn := fun _ => fun
  | [d1, d2, d3] => { results := [.lit (.bool false)], args := [d1, d2, d3] }
  | _ => none }
def TrackStaysWrongFalsely : Prop := trackStaysRow.holds Tryz.pinned (OpenSpec.ofChange trackStaysWrong)

/-- 'garboardlaw08.TrackOne': WHATEVER THE INPUT: true; the input reads as it did. -/
def trackOneSpec : ChangeSpec := { name := "trackOne", fn := fun _ => fun
  | [d1, d2, d3] => { results := [.lit (.bool true)], args := [d1, d2, d3] }
  | _ => none }
def trackOneRow : OpenClaim := { program := "ytboinbmgndomhaagreat", sum := "88ea48bedd4d1976d7b9dcf3b52e44e976942ff8e041c43d345e87c379b1e1f3", func := "garboard/garboardlaw08.TrackOne", spec := "trackOne", inPlace := ["internal/reflectlite.ValueOf", "internal/reflectlite.Swapper", "(internal/reflectlite.Value).Len"], unfollowed := true, recurses := true, plainKeys := false, apart := false }
def TrackOneSaid : Prop := trackOneRow.holds Tryz.pinned (OpenSpec.ofChange trackOneSpec)

/-- ITS FALSE NEIGHBOUR: 'it returns false'. Refute it at one input. -/
def trackOneWrong : ChangeSpec := { name := "trackOne", fn := fun _ => fun
  | [d1, d2, d3] => { results := [.lit (.bool false)], args := [d1, d2, d3] }
  | _ => none }
def TrackOneWrongFalsely : Prop := trackOneRow.holds Tryz.pinned (OpenSpec.ofChange trackOneWrong)

/- THE SECOND FORM. 'bulk': how many values and letters a reading holds, each counted each time it is reached (what is shared counts as often as it is met; a slice's spare places count too). A statement '..UptoSaid' is the law's where the arguments, and the package variables that the reading takes, are together of bulk at most 1048576: NARROWER than '..Said'. Prove '..Said' where nothing that the law and all that it calls make is longer than what came in: it says more and counts as full. Else prove '..UptoSaid'. A law counts once. -/
mutual
def uptoBulk {H : Type} : DataW H → Nat
  | .lit (.string bytes) => bytes.length + 1
  | .lit _ => 1
  | .nil => 1
  | .ptr d => uptoBulk d + 1
  | .slice elems spare => uptoBulkAll elems + uptoBulkAll spare + 1
  | .agg parts => uptoBulkAll parts + 1
  | .iface _ d => uptoBulk d + 1
  | .map entries => uptoBulkEntries entries + 1
  | .held _ => 1
def uptoBulkAll {H : Type} : List (DataW H) → Nat
  | [] => 0
  | d :: r => uptoBulk d + uptoBulkAll r
def uptoBulkEntries {H : Type} : List (Lit × DataW H) → Nat
  | [] => 0
  | x :: r => uptoBulkEntry x + uptoBulkEntries r
def uptoBulkEntry {H : Type} : Lit × DataW H → Nat
  | (.string bytes, d) => bytes.length + uptoBulk d + 1
  | (_, d) => uptoBulk d + 1
 end
def uptoSmall : (H : Type) → List (DataW H) → Bool := fun _ ds => decide (uptoBulkAll ds ≤ 1048576)
def OpenSpec.upto (s : _root_.Go.ChangeSpec) : _root_.Go.OpenSpec := { _root_.Go.OpenSpec.ofChange s with cond := some uptoSmall }

/-- 'garboardlaw08.TrackPlays', WHERE WHAT IT READS IS OF BULK AT MOST 1048576: true; the input reads as it did. -/
def trackPlaysUptoRow : OpenClaim := { program := "ytboinbmgndomhaagreat", sum := "88ea48bedd4d1976d7b9dcf3b52e44e976942ff8e041c43d345e87c379b1e1f3", func := "garboard/garboardlaw08.TrackPlays", spec := "trackPlays", inPlace := ["internal/reflectlite.ValueOf", "internal/reflectlite.Swapper", "(internal/reflectlite.Value).Len"], unfollowed := true, recurses := true, plainKeys := false, apart := false, narrowed := true }
def TrackPlaysUptoSaid : Prop := trackPlaysUptoRow.holds Tryz.pinned (OpenSpec.upto trackPlaysSpec)

/-- 'garboardlaw08.TrackHolds', WHERE WHAT IT READS IS OF BULK AT MOST 1048576: true; the input reads as it did. -/
def trackHoldsUptoRow : OpenClaim := { program := "ytboinbmgndomhaagreat", sum := "88ea48bedd4d1976d7b9dcf3b52e44e976942ff8e041c43d345e87c379b1e1f3", func := "garboard/garboardlaw08.TrackHolds", spec := "trackHolds", inPlace := ["internal/reflectlite.ValueOf", "internal/reflectlite.Swapper", "(internal/reflectlite.Value).Len"], unfollowed := true, recurses := true, plainKeys := false, apart := false, narrowed := true }
def TrackHoldsUptoSaid : Prop := trackHoldsUptoRow.holds Tryz.pinned (OpenSpec.upto trackHoldsSpec)

/-- 'garboardlaw08.TrackStays', WHERE WHAT IT READS IS OF BULK AT MOST 1048576: true; the input reads as it did. -/
def trackStaysUptoRow : OpenClaim := { program := "ytboinbmgndomhaagreat", sum := "88ea48bedd4d1976d7b9dcf3b52e44e976942ff8e041c43d345e87c379b1e1f3", func := "garboard/garboardlaw08.TrackStays", spec := "trackStays", inPlace := ["internal/reflectlite.ValueOf", "internal/reflectlite.Swapper", "(internal/reflectlite.Value).Len"], unfollowed := true, recurses := true, plainKeys := false, apart := false, narrowed := true }
def TrackStaysUptoSaid : Prop := trackStaysUptoRow.holds Tryz.pinned (OpenSpec.upto trackStaysSpec)

/-- 'garboardlaw08.TrackOne', WHERE WHAT IT READS IS OF BULK AT MOST 1048576: true; the input reads as it did. -/
def trackOneUptoRow : OpenClaim := { program := "ytboinbmgndomhaagreat", sum := "88ea48bedd4d1976d7b9dcf3b52e44e976942ff8e041c43d345e87c379b1e1f3", func := "garboard/garboardlaw08.TrackOne", spec := "trackOne", inPlace := ["internal/reflectlite.ValueOf", "internal/reflectlite.Swapper", "(internal/reflectlite.Value).Len"], unfollowed := true, recurses := true, plainKeys := false, apart := false, narrowed := true }
def TrackOneUptoSaid : Prop := trackOneUptoRow.holds Tryz.pinned (OpenSpec.upto trackOneSpec)

end Rows
end Go.Proofs.YtboinbmgndomhaaGreat
