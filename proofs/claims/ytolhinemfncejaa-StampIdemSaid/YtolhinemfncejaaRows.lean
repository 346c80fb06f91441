/-
  No cell of these rows narrows 'for every input' (looked for: loops, veiled, ifaces, maps, wideKeys, modest, calm, conditions, laid).
  DERIVED. THE GIVEN ROWS OF THIS SEAT. 8 by the template 'for every input the law returns true; each argument reads behind the call as it read before'; 0 by the template 'total and deterministic' (their statements: YtolhinemfncejaaTotals.lean).
  GIVEN WITH THE SEED: the statements are not yours to turn. If you find one false, say at which input.
  Laid BY PROGRAM, IN A SANDBOX (cutbox-rows.mjs): the forced cells as the released guide's own fill.sh prints them over the translation ca295cbd273ab9ff… (all of the seat's roots in one cut). By AI agents, Wed Nov 11 2026. No macro, syntax, notation, axiom, sorry.
-/
import Derived.Test.YtolhinemfncejaaChecked
import GoSem.Claim
import GoSem.ClaimJoined
import GoSem.ClaimMapViews
import Derived.JoinedTies
import Derived.KernelRfl
namespace Go.Proofs.Ytolhinemfncejaa
/- THE CELL 'sum', in the pinned program and in every row, IS THE sha256 OF THE DUMP (.gsa) THAT YtolhinemfncejaaProg.lean LOADS. Nothing in Lean hashes anything: it is a label: what it is worth is what the hold of that sum in a sandbox is worth. -/
noncomputable def Try.pinned : Pinned := { name := "ytolhinemfncejaa", sum := "ca295cbd273ab9ff91f9e97f3902102cf6abbe93ddaf83236aab6da5cc8b0edc", checked := Try.checked }
namespace Rows
def none {H : Type} : Left H := { results := [], args := [] }

/-- 'garboardlaw02.StampTells': WHATEVER THE INPUT: true; the input reads as it did. -/
def stampTellsSpec : ChangeSpec := { name := "stampTells", fn := fun _ => fun
  | [d1, d2] => { results := [.lit (.bool true)], args := [d1, d2] }
  | _ => none }
def stampTellsRow : OpenClaim := { program := "ytolhinemfncejaa", sum := "ca295cbd273ab9ff91f9e97f3902102cf6abbe93ddaf83236aab6da5cc8b0edc", func := "garboard/garboardlaw02.StampTells", spec := "stampTells", apart := false }
def StampTellsSaid : Prop := stampTellsRow.holds Try.pinned (OpenSpec.ofChange stampTellsSpec)

/-- ITS FALSE NEIGHBOUR: 'it returns false'. Refute it at one input. -/
def stampTellsWrong : ChangeSpec := { name := "stampTells", fn := fun _ => fun
  | [d1, d2] => { results := [.lit (.bool false)], args := [d1, d2] }
  | _ => none }
def StampTellsWrongFalsely : Prop := stampTellsRow.holds Try.pinned (OpenSpec.ofChange stampTellsWrong)

/-- 'garboardlaw02.StampAfters': WHATEVER THE INPUT: true; the input reads as it did. -/
def stampAftersSpec : ChangeSpec := { name := "stampAfters", fn := fun _ => fun
  | [d1, d2] => { results := [.lit (.bool true)], args := [d1, d2] }
  | _ => none }
def stampAftersRow : OpenClaim := { program := "ytolhinemfncejaa", sum := "ca295cbd273ab9ff91f9e97f3902102cf6abbe93ddaf83236aab6da5cc8b0edc", func := "garboard/garboardlaw02.StampAfters", spec := "stampAfters", apart := false }
def StampAftersSaid : Prop := stampAftersRow.holds Try.pinned (OpenSpec.ofChange stampAftersSpec)

/-- ITS FALSE NEIGHBOUR: 'it returns false'. Refute it at one input. -/
def stampAftersWrong : ChangeSpec := { name := "stampAfters", fn := fun _ => fun
  | [d1, d2] => { results := [.lit (.bool false)], args := [d1, d2] }
  | _ => none }
def StampAftersWrongFalsely : Prop := stampAftersRow.holds Try.pinned (OpenSpec.ofChange stampAftersWrong)

/-- 'garboardlaw02.StampOrder': WHATEVER THE INPUT: true; the input reads as it did. -/
def stampOrderSpec : ChangeSpec := { name := "stampOrder", fn := fun _ => fun
  | [d1, d2, d3] => { results := [.lit (.bool true)], args := [d1, d2, d3] }
  | _ => none }
def stampOrderRow : OpenClaim := { program := "ytolhinemfncejaa", sum := "ca295cbd273ab9ff91f9e97f3902102cf6abbe93ddaf83236aab6da5cc8b0edc", func := "garboard/garboardlaw02.StampOrder", spec := "stampOrder", apart := false }
def StampOrderSaid : Prop := stampOrderRow.holds Try.pinned (OpenSpec.ofChange stampOrderSpec)

/-- ITS FALSE NEIGHBOUR: 'it returns false'. Refute it at one input. -/
def stampOrderWrong : ChangeSpec := { name := "stampOrder", fn := fun _ => fun
  | [d1, d2, d3] => { results := [.lit (.bool false)], args := [d1, d2, d3] }
  | _ => none }
def StampOrderWrongFalsely : Prop := stampOrderRow.holds Try.pinned (OpenSpec.ofChange stampOrderWrong)

/-- 'garboardlaw02.StampMeets': WHATEVER THE INPUT: true; the input reads as it did. -/
def stampMeetsSpec : ChangeSpec := { name := "stampMeets", fn := fun _ => fun
  | [d1, d2, d3] => { results := [.lit (.bool true)], args := [d1, d2, d3] }
  | _ => none }
def stampMeetsRow : OpenClaim := { program := "ytolhinemfncejaa", sum := "ca295cbd273ab9ff91f9e97f3902102cf6abbe93ddaf83236aab6da5cc8b0edc", func := "garboard/garboardlaw02.StampMeets", spec := "stampMeets", apart := false }
def StampMeetsSaid : Prop := stampMeetsRow.holds Try.pinned (OpenSpec.ofChange stampMeetsSpec)

/-- ITS FALSE NEIGHBOUR: 'it returns false'. Refute it at one input. -/
def stampMeetsWrong : ChangeSpec := { name := "stampMeets", fn := fun _ => fun
  | [d1, d2, d3] => { results := [.lit (.bool false)], args := [d1, d2, d3] }
  | _ => none }
def StampMeetsWrongFalsely : Prop := stampMeetsRow.holds Try.pinned (OpenSpec.ofChange stampMeetsWrong)

/-- 'garboardlaw02.StampKeeps': WHATEVER THE INPUT: true; the input reads as it did. -/
def stampKeepsSpec : ChangeSpec := { name := "stampKeeps", fn := fun _ => fun
  | [d1, d2, d3] => { results := [.lit (.bool true)], args := [d1, d2, d3] }
  | _ => none }
def stampKeepsRow : OpenClaim := { program := "ytolhinemfncejaa", sum := "ca295cbd273ab9ff91f9e97f3902102cf6abbe93ddaf83236aab6da5cc8b0edc", func := "garboard/garboardlaw02.StampKeeps", spec := "stampKeeps", apart := false }
def StampKeepsSaid : Prop := stampKeepsRow.holds Try.pinned (OpenSpec.ofChange stampKeepsSpec)

/-- ITS FALSE NEIGHBOUR: 'it returns false'. Refute it at one input. -/
def stampKeepsWrong : ChangeSpec := { name := "stampKeeps", fn := fun _ => fun
  | [d1, d2, d3] => { results := [.lit (.bool false)], args := [d1, d2, d3] }
  | _ => none }
def StampKeepsWrongFalsely : Prop := stampKeepsRow.holds Try.pinned (OpenSpec.ofChange stampKeepsWrong)

/-- 'garboardlaw02.StampRow': WHATEVER THE INPUT: true; the input reads as it did. -/
def stampRowSpec : ChangeSpec := { name := "stampRow", fn := fun _ => fun
  | [d1, d2, d3] => { results := [.lit (.bool true)], args := [d1, d2, d3] }
  | _ => none }
def stampRowRow : OpenClaim := { program := "ytolhinemfncejaa", sum := "ca295cbd273ab9ff91f9e97f3902102cf6abbe93ddaf83236aab6da5cc8b0edc", func := "garboard/garboardlaw02.StampRow", spec := "stampRow", apart := false }
def StampRowSaid : Prop := stampRowRow.holds Try.pinned (OpenSpec.ofChange stampRowSpec)

/-- ITS FALSE NEIGHBOUR: 'it returns false'. Refute it at one input. -/
def stampRowWrong : ChangeSpec := { name := "stampRow", fn := fun _ => fun
  | [d1, d2, d3] => { results := [.lit (.bool false)], args := [d1, d2, d3] }
  | _ => none }
def StampRowWrongFalsely : Prop := stampRowRow.holds Try.pinned (OpenSpec.ofChange stampRowWrong)

/-- 'garboardlaw02.StampIdem': WHATEVER THE INPUT: true; the input reads as it did. -/
def stampIdemSpec : ChangeSpec := { name := "stampIdem", fn := fun _ => fun
  | [d1, d2, d3] => { results := [.lit (.bool true)], args := [d1, d2, d3] }
  | _ => none }
def stampIdemRow : OpenClaim := { program := "ytolhinemfncejaa", sum := "ca295cbd273ab9ff91f9e97f3902102cf6abbe93ddaf83236aab6da5cc8b0edc", func := "garboard/garboardlaw02.StampIdem", spec := "stampIdem", apart := false }
def StampIdemSaid : Prop := stampIdemRow.holds Try.pinned (OpenSpec.ofChange stampIdemSpec)

/-- ITS FALSE NEIGHBOUR: 'it returns false'. Refute it at one input. -/
def stampIdemWrong : ChangeSpec := { name := "stampIdem", fn := fun _ => fun
  | [d1, d2, d3] => { results := [.lit (.bool false)], args := [d1, d2, d3] }
  | _ => none }
def StampIdemWrongFalsely : Prop := stampIdemRow.holds Try.pinned (OpenSpec.ofChange stampIdemWrong)

/-- 'garboardlaw02.StampNoughts': WHATEVER THE INPUT: true; the input reads as it did. -/
def stampNoughtsSpec : ChangeSpec := { name := "stampNoughts", fn := fun _ => fun
  | [d] => { results := [.lit (.bool true)], args := [d] }
  | _ => none }
def stampNoughtsRow : OpenClaim := { program := "ytolhinemfncejaa", sum := "ca295cbd273ab9ff91f9e97f3902102cf6abbe93ddaf83236aab6da5cc8b0edc", func := "garboard/garboardlaw02.StampNoughts", spec := "stampNoughts", apart := false }
def StampNoughtsSaid : Prop := stampNoughtsRow.holds Try.pinned (OpenSpec.ofChange stampNoughtsSpec)

/-- ITS FALSE NEIGHBOUR: 'it returns false'. Refute it at one input. -/
def stampNoughtsWrong : ChangeSpec := { name := "stampNoughts", fn := fun _ => fun
  | [d] => { results := [.lit (.bool false)], args := [d] }
  | _ => none }
def StampNoughtsWrongFalsely : Prop := stampNoughtsRow.holds Try.pinned (OpenSpec.ofChange stampNoughtsWrong)

/- THE SECOND FORM. 'bulk': how many values and letters a reading holds, each counted each time it is reached (what is shared counts as often as it is met; a slice's spare places count too). A statement '..UptoSaid' is the law's where the arguments, and the package variables that the reading takes, are together of bulk at most 1048576: NARROWER than '..Said'. Prove '..Said' where nothing that the law and all that it calls make is longer than what came in: it says more and counts as full. Else prove '..UptoSaid'. A law counts once. -/
mutual
def uptoBulk {H : Type} : DataW H → Nat
  | .lit (.string bytes) => bytes.length + 1
  | .lit _ => 1
  | .nil => 1
  | .ptr d => uptoBulk d + 1
  | .slice elems spare => uptoBulkAll elems + uptoBulkAll spare + 1
  | .agg parts => uptoBulkAll parts + 1
  | .iface _ d => uptoBulk d + 1
  | .map entries => uptoBulkEntries entries + 1
  | .held _ => 1
def uptoBulkAll {H : Type} : List (DataW H) → Nat
  | [] => 0
  | d :: r => uptoBulk d + uptoBulkAll r
def uptoBulkEntries {H : Type} : List (Lit × DataW H) → Nat
  | [] => 0
  | x :: r => uptoBulkEntry x + uptoBulkEntries r
def uptoBulkEntry {H : Type} : Lit × DataW H → Nat
  | (.string bytes, d) => bytes.length + uptoBulk d + 1
  | (_, d) => uptoBulk d + 1
 end
def uptoSmall : (H : Type) → List (DataW H) → Bool := fun _ ds => decide (uptoBulkAll ds ≤ 1048576)
def OpenSpec.upto (s : _root_.Go.ChangeSpec) : _root_.Go.OpenSpec := { _root_.Go.OpenSpec.ofChange s with cond := some uptoSmall }

/-- 'garboardlaw02.StampTells', WHERE WHAT IT READS IS OF BULK AT MOST 1048576: true; the input reads as it did. -/
def stampTellsUptoRow : OpenClaim := { program := "ytolhinemfncejaa", sum := "ca295cbd273ab9ff91f9e97f3902102cf6abbe93ddaf83236aab6da5cc8b0edc", func := "garboard/garboardlaw02.StampTells", spec := "stampTells", apart := false, narrowed := true }
def StampTellsUptoSaid : Prop := stampTellsUptoRow.holds Try.pinned (OpenSpec.upto stampTellsSpec)

/-- 'garboardlaw02.StampAfters', WHERE WHAT IT READS IS OF BULK AT MOST 1048576: true; the input reads as it did. -/
def stampAftersUptoRow : OpenClaim := { program := "ytolhinemfncejaa", sum := "ca295cbd273ab9ff91f9e97f3902102cf6abbe93ddaf83236aab6da5cc8b0edc", func := "garboard/garboardlaw02.StampAfters", spec := "stampAfters", apart := false, narrowed := true }
def StampAftersUptoSaid : Prop := stampAftersUptoRow.holds Try.pinned (OpenSpec.upto stampAftersSpec)

/-- 'garboardlaw02.StampOrder', WHERE WHAT IT READS IS OF BULK AT MOST 1048576: true; the input reads as it did. -/
def stampOrderUptoRow : OpenClaim := { program := "ytolhinemfncejaa", sum := "ca295cbd273ab9ff91f9e97f3902102cf6abbe93ddaf83236aab6da5cc8b0edc", func := "garboard/garboardlaw02.StampOrder", spec := "stampOrder", apart := false, narrowed := true }
def StampOrderUptoSaid : Prop := stampOrderUptoRow.holds Try.pinned (OpenSpec.upto stampOrderSpec)

/-- 'garboardlaw02.StampMeets', WHERE WHAT IT READS IS OF BULK AT MOST 1048576: true; the input reads as it did. -/
def stampMeetsUptoRow : OpenClaim := { program := "ytolhinemfncejaa", sum := "ca295cbd273ab9ff91f9e97f3902102cf6abbe93ddaf83236aab6da5cc8b0edc", func := "garboard/garboardlaw02.StampMeets", spec := "stampMeets", apart := false, narrowed := true }
def StampMeetsUptoSaid : Prop := stampMeetsUptoRow.holds Try.pinned (OpenSpec.upto stampMeetsSpec)

/-- 'garboardlaw02.StampKeeps', WHERE WHAT IT READS IS OF BULK AT MOST 1048576: true; the input reads as it did. -/
def stampKeepsUptoRow : OpenClaim := { program := "ytolhinemfncejaa", sum := "ca295cbd273ab9ff91f9e97f3902102cf6abbe93ddaf83236aab6da5cc8b0edc", func := "garboard/garboardlaw02.StampKeeps", spec := "stampKeeps", apart := false, narrowed := true }
def StampKeepsUptoSaid : Prop := stampKeepsUptoRow.holds Try.pinned (OpenSpec.upto stampKeepsSpec)

/-- 'garboardlaw02.StampRow', WHERE WHAT IT READS IS OF BULK AT MOST 1048576: true; the input reads as it did. -/
def stampRowUptoRow : OpenClaim := { program := "ytolhinemfncejaa", sum := "ca295cbd273ab9ff91f9e97f3902102cf6abbe93ddaf83236aab6da5cc8b0edc", func := "garboard/garboardlaw02.StampRow", spec := "stampRow", apart := false, narrowed := true }
def StampRowUptoSaid : Prop := stampRowUptoRow.holds Try.pinned (OpenSpec.upto stampRowSpec)

/-- 'garboardlaw02.StampIdem', WHERE WHAT IT READS IS OF BULK AT MOST 1048576: true; the input reads as it did. -/
def stampIdemUptoRow : OpenClaim := { program := "ytolhinemfncejaa", sum := "ca295cbd273ab9ff91f9e97f3902102cf6abbe93ddaf83236aab6da5cc8b0edc", func := "garboard/garboardlaw02.StampIdem", spec := "stampIdem", apart := false, narrowed := true }
def StampIdemUptoSaid : Prop := stampIdemUptoRow.holds Try.pinned (OpenSpec.upto stampIdemSpec)

/-- 'garboardlaw02.StampNoughts', WHERE WHAT IT READS IS OF BULK AT MOST 1048576: true; the input reads as it did. -/
def stampNoughtsUptoRow : OpenClaim := { program := "ytolhinemfncejaa", sum := "ca295cbd273ab9ff91f9e97f3902102cf6abbe93ddaf83236aab6da5cc8b0edc", func := "garboard/garboardlaw02.StampNoughts", spec := "stampNoughts", apart := false, narrowed := true }
def StampNoughtsUptoSaid : Prop := stampNoughtsUptoRow.holds Try.pinned (OpenSpec.upto stampNoughtsSpec)

end Rows
end Go.Proofs.Ytolhinemfncejaa
