/-
  No cell of these rows narrows 'for every input' (looked for: loops, veiled, ifaces, maps, wideKeys, modest, calm, conditions, laid).
  DERIVED. THE GIVEN ROWS OF THIS SEAT. 6 by the template 'for every input the law returns true; each argument reads behind the call as it read before'; 0 by the template 'total and deterministic' (their statements: YtjelhljgeinodaaTotals.lean).
  GIVEN WITH THE SEED: the statements are not yours to turn. If you find one false, say at which input.
  Laid BY PROGRAM, IN A SANDBOX (cutbox-rows.mjs): the forced cells as the released guide's own fill.sh prints them over the translation 585286fb209e7abb… (all of the seat's roots in one cut). By AI agents, Wed Nov 11 2026. No macro, syntax, notation, axiom, sorry.
-/
import Derived.Test.YtjelhljgeinodaaChecked
import GoSem.Claim
import GoSem.ClaimJoined
import GoSem.ClaimMapViews
import Derived.JoinedTies
import Derived.KernelRfl
namespace Go.Proofs.Ytjelhljgeinodaa
/- THE CELL 'sum', in the pinned program and in every row, IS THE sha256 OF THE DUMP (.gsa) THAT YtjelhljgeinodaaProg.lean LOADS. Nothing in Lean hashes anything: it is a label: what it is worth is what the hold of that sum in a sandbox is worth. -/
noncomputable def Try.pinned : Pinned := { name := "ytjelhljgeinodaa", sum := "585286fb209e7abb46221441f2e3011997d61d85383d2d6eb9309a31df081264", checked := Try.checked }
namespace Rows
def none {H : Type} : Left H := { results := [], args := [] }

/-- 'garboardlaw10.EntryChecks': WHATEVER THE INPUT: true; the input reads as it did. -/
def entryChecksSpec : ChangeSpec := { name := "entryChecks", fn := fun _ => fun
  | [d] => { results := [.lit (.bool true)], args := [d] }
  | _ => none }
def entryChecksRow : OpenClaim := { program := "ytjelhljgeinodaa", sum := "585286fb209e7abb46221441f2e3011997d61d85383d2d6eb9309a31df081264", func := "garboard/garboardlaw10.EntryChecks", spec := "entryChecks", unfollowed := true, recurses := true, apart := false }
def EntryChecksSaid : Prop := entryChecksRow.holds Try.pinned (OpenSpec.ofChange entryChecksSpec)

/-- ITS FALSE NEIGHBOUR: 'it returns false'. Refute it at one input. -/
def entryChecksWrong : ChangeSpec := { name := "entryChecks", fn := fun _ => fun
  | [d] => { results := [.lit (.bool false)], args := [d] }
  | _ => none }
def EntryChecksWrongFalsely : Prop := entryChecksRow.holds Try.pinned (OpenSpec.ofChange entryChecksWrong)

/-- 'garboardlaw10.EntryNexts': WHATEVER THE INPUT: true; the input reads as it did. -/
def entryNextsSpec : ChangeSpec := { name := "entryNexts", fn := fun _ => fun
  | [d1, d2] => { results := [.lit (.bool true)], args := [d1, d2] }
  | _ => none }
def entryNextsRow : OpenClaim := { program := "ytjelhljgeinodaa", sum := "585286fb209e7abb46221441f2e3011997d61d85383d2d6eb9309a31df081264", func := "garboard/garboardlaw10.EntryNexts", spec := "entryNexts", unfollowed := true, recurses := true, apart := false }
def EntryNextsSaid : Prop := entryNextsRow.holds Try.pinned (OpenSpec.ofChange entryNextsSpec)

/-- ITS FALSE NEIGHBOUR: 'it returns false'. Refute it at one input. -/
def entryNextsWrong : ChangeSpec := { name := "entryNexts", fn := fun _ => fun
  | [d1, d2] => { results := [.lit (.bool false)], args := [d1, d2] }
  | _ => none }
def EntryNextsWrongFalsely : Prop := entryNextsRow.holds Try.pinned (OpenSpec.ofChange entryNextsWrong)

/-- 'garboardlaw10.EntryGrows': WHATEVER THE INPUT: true; the input reads as it did. -/
def entryGrowsSpec : ChangeSpec := { name := "entryGrows", fn := fun _ => fun
  | [d1, d2] => { results := [.lit (.bool true)], args := [d1, d2] }
  | _ => none }
def entryGrowsRow : OpenClaim := { program := "ytjelhljgeinodaa", sum := "585286fb209e7abb46221441f2e3011997d61d85383d2d6eb9309a31df081264", func := "garboard/garboardlaw10.EntryGrows", spec := "entryGrows", unfollowed := true, recurses := true, apart := false }
def EntryGrowsSaid : Prop := entryGrowsRow.holds Try.pinned (OpenSpec.ofChange entryGrowsSpec)

/-- ITS FALSE NEIGHBOUR: 'it returns false'. Refute it at one input. -/
def entryGrowsWrong : ChangeSpec := { name := "entryGrows", fn := fun _ => fun
  | [d1, d2] => { results := [.lit (.bool false)], args := [d1, d2] }
  | _ => none }
def EntryGrowsWrongFalsely : Prop := entryGrowsRow.holds Try.pinned (OpenSpec.ofChange entryGrowsWrong)

/-- 'garboardlaw10.EntryBreaks': WHATEVER THE INPUT: true; the input reads as it did. -/
def entryBreaksSpec : ChangeSpec := { name := "entryBreaks", fn := fun _ => fun
  | [d1, d2] => { results := [.lit (.bool true)], args := [d1, d2] }
  | _ => none }
def entryBreaksRow : OpenClaim := { program := "ytjelhljgeinodaa", sum := "585286fb209e7abb46221441f2e3011997d61d85383d2d6eb9309a31df081264", func := "garboard/garboardlaw10.EntryBreaks", spec := "entryBreaks", unfollowed := true, recurses := true, apart := false }
def EntryBreaksSaid : Prop := entryBreaksRow.holds Try.pinned (OpenSpec.ofChange entryBreaksSpec)

/-- ITS FALSE NEIGHBOUR: 'it returns false'. Refute it at one input. -/
def entryBreaksWrong : ChangeSpec := { name := "entryBreaks", fn := fun _ => fun
  | [d1, d2] => { results := [.lit (.bool false)], args := [d1, d2] }
  | _ => none }
def EntryBreaksWrongFalsely : Prop := entryBreaksRow.holds Try.pinned (OpenSpec.ofChange entryBreaksWrong)

/-- 'garboardlaw10.EntryHead': WHATEVER THE INPUT: true; the input reads as it did. -/
def entryHeadSpec : ChangeSpec := { name := "entryHead", fn := fun _ => fun
  | [d1, d2] => { results := [.lit (.bool true)], args := [d1, d2] }
  | _ => none }
def entryHeadRow : OpenClaim := { program := "ytjelhljgeinodaa", sum := "585286fb209e7abb46221441f2e3011997d61d85383d2d6eb9309a31df081264", func := "garboard/garboardlaw10.EntryHead", spec := "entryHead", unfollowed := true, recurses := true, apart := false }
def EntryHeadSaid : Prop := entryHeadRow.holds Try.pinned (OpenSpec.ofChange entryHeadSpec)

/-- ITS FALSE NEIGHBOUR: 'it returns false'. Refute it at one input. -/
def entryHeadWrong : ChangeSpec := { name := "entryHead", fn := fun _ => fun
  | [d1, d2] => { results := [.lit (.bool false)], args := [d1, d2] }
  | _ => none }
def EntryHeadWrongFalsely : Prop := entryHeadRow.holds Try.pinned (OpenSpec.ofChange entryHeadWrong)

/-- 'garboardlaw10.EntryLast': WHATEVER THE INPUT: true; the input reads as it did. -/
def entryLastSpec : ChangeSpec := { name := "entryLast", fn := fun _ => fun
  | [d1, d2, d3] => { results := [.lit (.bool true)], args := [d1, d2, d3] }
  | _ => none }
def entryLastRow : OpenClaim := { program := "ytjelhljgeinodaa", sum := "585286fb209e7abb46221441f2e3011997d61d85383d2d6eb9309a31df081264", func := "garboard/garboardlaw10.EntryLast", spec := "entryLast", unfollowed := true, recurses := true, apart := false }
def EntryLastSaid : Prop := entryLastRow.holds Try.pinned (OpenSpec.ofChange entryLastSpec)

/-- ITS FALSE NEIGHBOUR: 'it returns false'. Refute it at one input. -/
def entryLastWrong : ChangeSpec := { name := "entryLast", fn := fun _ => fun
  | [d1, d2, d3] => { results := [.lit (.bool false)], args := [d1, d2, d3] }
  | _ => none }
def EntryLastWrongFalsely : Prop := entryLastRow.holds Try.pinned (OpenSpec.ofChange entryLastWrong)

/- THE SECOND FORM. 'bulk': how many values and letters a reading holds, each counted each time it is reached (what is shared counts as often as it is met; a slice's spare places count too). A statement '..UptoSaid' is the law's where the arguments, and the package variables that the reading takes, are together of bulk at most 1048576: NARROWER than '..Said'. Prove '..Said' where nothing that the law and all that it calls make is longer than what came in: it says more and counts as full. Else prove '..UptoSaid'. A law counts once. -/
mutual
def uptoBulk {H : Type} : DataW H → Nat
  | .lit (.string bytes) => bytes.length + 1
  | .lit _ => 1
  | .nil => 1
  | .ptr d => uptoBulk d + 1
  | .slice elems spare => uptoBulkAll elems + uptoBulkAll spare + 1
  | .agg parts => uptoBulkAll parts + 1
  | .iface _ d => uptoBulk d + 1
  | .map entries => uptoBulkEntries entries + 1
  | .held _ => 1
def uptoBulkAll {H : Type} : List (DataW H) → Nat
  | [] => 0
  | d :: r => uptoBulk d + uptoBulkAll r
def uptoBulkEntries {H : Type} : List (Lit × DataW H) → Nat
  | [] => 0
  | x :: r => uptoBulkEntry x + uptoBulkEntries r
def uptoBulkEntry {H : Type} : Lit × DataW H → Nat
  | (.string bytes, d) => bytes.length + uptoBulk d + 1
  | (_, d) => uptoBulk d + 1
 end
def uptoSmall : (H : Type) → List (DataW H) → Bool := fun _ ds => decide (uptoBulkAll ds ≤ 1048576)
def OpenSpec.upto (s : _root_.Go.ChangeSpec) : _root_.Go.OpenSpec := { _root_.Go.OpenSpec.ofChange s with cond := some uptoSmall }

/-- 'garboardlaw10.EntryChecks', WHERE WHAT IT READS IS OF BULK AT MOST 1048576: true; the input reads as it did. -/
def entryChecksUptoRow : OpenClaim := { program := "ytjelhljgeinodaa", sum := "585286fb209e7abb46221441f2e3011997d61d85383d2d6eb9309a31df081264", func := "garboard/garboardlaw10.EntryChecks", spec := "entryChecks", unfollowed := true, recurses := true, apart := false, narrowed := true }
def EntryChecksUptoSaid : Prop := entryChecksUptoRow.holds Try.pinned (OpenSpec.upto entryChecksSpec)

/-- 'garboardlaw10.EntryNexts', WHERE WHAT IT READS IS OF BULK AT MOST 1048576: true; the input reads as it did. -/
def entryNextsUptoRow : OpenClaim := { program := "ytjelhljgeinodaa", sum := "585286fb209e7abb46221441f2e3011997d61d85383d2d6eb9309a31df081264", func := "garboard/garboardlaw10.EntryNexts", spec := "entryNexts", unfollowed := true, recurses := true, apart := false, narrowed := true }
def EntryNextsUptoSaid : Prop := entryNextsUptoRow.holds Try.pinned (OpenSpec.upto entryNextsSpec)

/-- 'garboardlaw10.EntryGrows', WHERE WHAT IT READS IS OF BULK AT MOST 1048576: true; the input reads as it did. -/
def entryGrowsUptoRow : OpenClaim := { program := "ytjelhljgeinodaa", sum := "585286fb209e7abb46221441f2e3011997d61d85383d2d6eb9309a31df081264", func := "garboard/garboardlaw10.EntryGrows", spec := "entryGrows", unfollowed := true, recurses := true, apart := false, narrowed := true }
def EntryGrowsUptoSaid : Prop := entryGrowsUptoRow.holds Try.pinned (OpenSpec.upto entryGrowsSpec)

/-- 'garboardlaw10.EntryBreaks', WHERE WHAT IT READS IS OF BULK AT MOST 1048576: true; the input reads as it did. -/
def entryBreaksUptoRow : OpenClaim := { program := "ytjelhljgeinodaa", sum := "585286fb209e7abb46221441f2e3011997d61d85383d2d6eb9309a31df081264", func := "garboard/garboardlaw10.EntryBreaks", spec := "entryBreaks", unfollowed := true, recurses := true, apart := false, narrowed := true }
def EntryBreaksUptoSaid : Prop := entryBreaksUptoRow.holds Try.pinned (OpenSpec.upto entryBreaksSpec)

/-- 'garboardlaw10.EntryHead', WHERE WHAT IT READS IS OF BULK AT MOST 1048576: true; the input reads as it did. -/
def entryHeadUptoRow : OpenClaim := { program := "ytjelhljgeinodaa", sum := "585286fb209e7abb46221441f2e3011997d61d85383d2d6eb9309a31df081264", func := "garboard/garboardlaw10.EntryHead", spec := "entryHead", unfollowed := true, recurses := true, apart := false, narrowed := true }
def EntryHeadUptoSaid : Prop := entryHeadUptoRow.holds Try.pinned (OpenSpec.upto entryHeadSpec)

/-- 'garboardlaw10.EntryLast', WHERE WHAT IT READS IS OF BULK AT MOST 1048576: true; the input reads as it did. -/
def entryLastUptoRow : OpenClaim := { program := "ytjelhljgeinodaa", sum := "585286fb209e7abb46221441f2e3011997d61d85383d2d6eb9309a31df081264", func := "garboard/garboardlaw10.EntryLast", spec := "entryLast", unfollowed := true, recurses := true, apart := false, narrowed := true }
def EntryLastUptoSaid : Prop := entryLastUptoRow.holds Try.pinned (OpenSpec.upto entryLastSpec)

end Rows
end Go.Proofs.Ytjelhljgeinodaa
