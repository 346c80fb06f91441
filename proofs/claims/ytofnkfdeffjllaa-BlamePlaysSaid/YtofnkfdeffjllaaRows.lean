/-
  No cell of these rows narrows 'for every input' (looked for: loops, veiled, ifaces, maps, wideKeys, modest, calm, conditions, laid).
  DERIVED. THE GIVEN ROWS OF THIS SEAT. 5 by the template 'for every input the law returns true; each argument reads behind the call as it read before'; 0 by the template 'total and deterministic' (their statements: YtofnkfdeffjllaaTotals.lean).
  GIVEN WITH THE SEED: the statements are not yours to turn. If you find one false, say at which input.
  Laid BY PROGRAM, IN A SANDBOX (cutbox-rows.mjs): the forced cells as the released guide's own fill.sh prints them over the translation b57665cfd0c59047… (all of the seat's roots in one cut). By AI agents, Wed Nov 11 2026. No macro, syntax, notation, axiom, sorry.
-/
import Derived.Test.YtofnkfdeffjllaaChecked
import GoSem.Claim
import GoSem.ClaimJoined
import GoSem.ClaimMapViews
import Derived.JoinedTies
import Derived.KernelRfl
namespace Go.Proofs.Ytofnkfdeffjllaa
/- THE CELL 'sum', in the pinned program and in every row, IS THE sha256 OF THE DUMP (.gsa) THAT YtofnkfdeffjllaaProg.lean LOADS. Nothing in Lean hashes anything: it is a label: what it is worth is what the hold of that sum in a sandbox is worth. -/
noncomputable def Try.pinned : Pinned := { name := "ytofnkfdeffjllaa", sum := "b57665cfd0c59047b88c840144b8db9ddaa063f6611fd767220a712b98c3f411", checked := Try.checked }
namespace Rows
def none {H : Type} : Left H := { results := [], args := [] }

/-- 'garboardlaw13.BlamePlays': WHATEVER THE INPUT: true; the input reads as it did. -/
def blamePlaysSpec : ChangeSpec := { name := "blamePlays", fn := fun _ => fun
  | [d1, d2, d3] => { results := [.lit (.bool true)], args := [d1, d2, d3] }
  | _ => none }
def blamePlaysRow : OpenClaim := { program := "ytofnkfdeffjllaa", sum := "b57665cfd0c59047b88c840144b8db9ddaa063f6611fd767220a712b98c3f411", func := "garboard/garboardlaw13.BlamePlays", spec := "blamePlays", apart := false }
def BlamePlaysSaid : Prop := blamePlaysRow.holds Try.pinned (OpenSpec.ofChange blamePlaysSpec)

/-- ITS FALSE NEIGHBOUR: 'it returns false'. Refute it at one input. -/
def blamePlaysWrong : ChangeSpec := { name := "blamePlays", fn := fun _ => fun
  | [d1, d2, d3] => { results := [.lit (.bool false)], args := [d1, d2, d3] }
  | _ => none }
def BlamePlaysWrongFalsely : Prop := blamePlaysRow.holds Try.pinned (OpenSpec.ofChange blamePlaysWrong)

/-- 'garboardlaw13.BlameFew': WHATEVER THE INPUT: true; the input reads as it did. -/
def blameFewSpec : ChangeSpec := { name := "blameFew", fn := fun _ => fun
  | [d1, d2, d3] => { results := [.lit (.bool true)], args := [d1, d2, d3] }
  | _ => none }
def blameFewRow : OpenClaim := { program := "ytofnkfdeffjllaa", sum := "b57665cfd0c59047b88c840144b8db9ddaa063f6611fd767220a712b98c3f411", func := "garboard/garboardlaw13.BlameFew", spec := "blameFew", apart := false }
def BlameFewSaid : Prop := blameFewRow.holds Try.pinned (OpenSpec.ofChange blameFewSpec)

/-- ITS FALSE NEIGHBOUR: 'it returns false'. Refute it at one input. -/
def blameFewWrong : ChangeSpec := { name := "blameFew", fn := fun _ => fun
  | [d1, d2, d3] => { results := [.lit (.bool false)], args := [d1, d2, d3] }
  | _ => none }
def BlameFewWrongFalsely : Prop := blameFewRow.holds Try.pinned (OpenSpec.ofChange blameFewWrong)

/-- 'garboardlaw13.BlameStays': WHATEVER THE INPUT: true; the input reads as it did. -/
def blameStaysSpec : ChangeSpec := { name := "blameStays", fn := fun _ => fun
  | [d1, d2, d3] => { results := [.lit (.bool true)], args := [d1, d2, d3] }
  | _ => none }
def blameStaysRow : OpenClaim := { program := "ytofnkfdeffjllaa", sum := "b57665cfd0c59047b88c840144b8db9ddaa063f6611fd767220a712b98c3f411", func := "garboard/garboardlaw13.BlameStays", spec := "blameStays", apart := false }
def BlameStaysSaid : Prop := blameStaysRow.holds Try.pinned (OpenSpec.ofChange blameStaysSpec)

/-- ITS FALSE NEIGHBOUR: 'it returns false'. Refute it at one input. -/
def blameStaysWrong : ChangeSpec := { name := "blameStays", fn := fun _ => fun
  | [d1, d2, d3] => { results := [.lit (.bool false)], args := [d1, d2, d3] }
  | _ => none }
def BlameStaysWrongFalsely : Prop := blameStaysRow.holds Try.pinned (OpenSpec.ofChange blameStaysWrong)

/-- 'garboardlaw13.BlameOrder': WHATEVER THE INPUT: true; the input reads as it did. -/
def blameOrderSpec : ChangeSpec := { name := "blameOrder", fn := fun _ => fun
  | [d1, d2, d3] => { results := [.lit (.bool true)], args := [d1, d2, d3] }
  | _ => none }
def blameOrderRow : OpenClaim := { program := "ytofnkfdeffjllaa", sum := "b57665cfd0c59047b88c840144b8db9ddaa063f6611fd767220a712b98c3f411", func := "garboard/garboardlaw13.BlameOrder", spec := "blameOrder", apart := false }
def BlameOrderSaid : Prop := blameOrderRow.holds Try.pinned (OpenSpec.ofChange blameOrderSpec)

/-- ITS FALSE NEIGHBOUR: 'it returns false'. Refute it at one input. -/
def blameOrderWrong : ChangeSpec := { name := "blameOrder", fn := fun _ => fun
  | [d1, d2, d3] => { results := [.lit (.bool false)], args := [d1, d2, d3] }
  | _ => none }
def BlameOrderWrongFalsely : Prop := blameOrderRow.holds Try.pinned (OpenSpec.ofChange blameOrderWrong)

/-- 'garboardlaw13.BlameEnough': WHATEVER THE INPUT: true; the input reads as it did. -/
def blameEnoughSpec : ChangeSpec := { name := "blameEnough", fn := fun _ => fun
  | [d1, d2, d3] => { results := [.lit (.bool true)], args := [d1, d2, d3] }
  | _ => none }
def blameEnoughRow : OpenClaim := { program := "ytofnkfdeffjllaa", sum := "b57665cfd0c59047b88c840144b8db9ddaa063f6611fd767220a712b98c3f411", func := "garboard/garboardlaw13.BlameEnough", spec := "blameEnough", apart := false }
def BlameEnoughSaid : Prop := blameEnoughRow.holds Try.pinned (OpenSpec.ofChange blameEnoughSpec)

/-- ITS FALSE NEIGHBOUR: 'it returns false'. Refute it at one input. -/
def blameEnoughWrong : ChangeSpec := { name := "blameEnough", fn := fun _ => fun
  | [d1, d2, d3] => { results := [.lit (.bool false)], args := [d1, d2, d3] }
  | _ => none }
def BlameEnoughWrongFalsely : Prop := blameEnoughRow.holds Try.pinned (OpenSpec.ofChange blameEnoughWrong)

/- THE SECOND FORM. 'bulk': how many values and letters a reading holds, each counted each time it is reached (what is shared counts as often as it is met; a slice's spare places count too). A statement '..UptoSaid' is the law's where the arguments, and the package variables that the reading takes, are together of bulk at most 1048576: NARROWER than '..Said'. Prove '..Said' where nothing that the law and all that it calls make is longer than what came in: it says more and counts as full. Else prove '..UptoSaid'. A law counts once. -/
mutual
def uptoBulk {H : Type} : DataW H → Nat
  | .lit (.string bytes) => bytes.length + 1
  | .lit _ => 1
  | .nil => 1
  | .ptr d => uptoBulk d + 1
  | .slice elems spare => uptoBulkAll elems + uptoBulkAll spare + 1
  | .agg parts => uptoBulkAll parts + 1
  | .iface _ d => uptoBulk d + 1
  | .map entries => uptoBulkEntries entries + 1
  | .held _ => 1
def uptoBulkAll {H : Type} : List (DataW H) → Nat
  | [] => 0
  | d :: r => uptoBulk d + uptoBulkAll r
def uptoBulkEntries {H : Type} : List (Lit × DataW H) → Nat
  | [] => 0
  | x :: r => uptoBulkEntry x + uptoBulkEntries r
def uptoBulkEntry {H : Type} : Lit × DataW H → Nat
  | (.string bytes, d) => bytes.length + uptoBulk d + 1
  | (_, d) => uptoBulk d + 1
 end
def uptoSmall : (H : Type) → List (DataW H) → Bool := fun _ ds => decide (uptoBulkAll ds ≤ 1048576)
def OpenSpec.upto (s : _root_.Go.ChangeSpec) : _root_.Go.OpenSpec := { _root_.Go.OpenSpec.ofChange s with cond := some uptoSmall }

/-- 'garboardlaw13.BlamePlays', WHERE WHAT IT READS IS OF BULK AT MOST 1048576: true; the input reads as it did. -/
def blamePlaysUptoRow : OpenClaim := { program := "ytofnkfdeffjllaa", sum := "b57665cfd0c59047b88c840144b8db9ddaa063f6611fd767220a712b98c3f411", func := "garboard/garboardlaw13.BlamePlays", spec := "blamePlays", apart := false, narrowed := true }
def BlamePlaysUptoSaid : Prop := blamePlaysUptoRow.holds Try.pinned (OpenSpec.upto blamePlaysSpec)

/-- 'garboardlaw13.BlameFew', WHERE WHAT IT READS IS OF BULK AT MOST 1048576: true; the input reads as it did. -/
def blameFewUptoRow : OpenClaim := { program := "ytofnkfdeffjllaa", sum := "b57665cfd0c59047b88c840144b8db9ddaa063f6611fd767220a712b98c3f411", func := "garboard/garboardlaw13.BlameFew", spec := "blameFew", apart := false, narrowed := true }
def BlameFewUptoSaid : Prop := blameFewUptoRow.holds Try.pinned (OpenSpec.upto blameFewSpec)

/-- 'garboardlaw13.BlameStays', WHERE WHAT IT READS IS OF BULK AT MOST 1048576: true; the input reads as it did. -/
def blameStaysUptoRow : OpenClaim := { program := "ytofnkfdeffjllaa", sum := "b57665cfd0c59047b88c840144b8db9ddaa063f6611fd767220a712b98c3f411", func := "garboard/garboardlaw13.BlameStays", spec := "blameStays", apart := false, narrowed := true }
def BlameStaysUptoSaid : Prop := blameStaysUptoRow.holds Try.pinned (OpenSpec.upto blameStaysSpec)

/-- 'garboardlaw13.BlameOrder', WHERE WHAT IT READS IS OF BULK AT MOST 1048576: true; the input reads as it did. -/
def blameOrderUptoRow : OpenClaim := { program := "ytofnkfdeffjllaa", sum := "b57665cfd0c59047b88c840144b8db9ddaa063f6611fd767220a712b98c3f411", func := "garboard/garboardlaw13.BlameOrder", spec := "blameOrder", apart := false, narrowed := true }
def BlameOrderUptoSaid : Prop := blameOrderUptoRow.holds Try.pinned (OpenSpec.upto blameOrderSpec)

/-- 'garboardlaw13.BlameEnough', WHERE WHAT IT READS IS OF BULK AT MOST 1048576: true; the input reads as it did. -/
def blameEnoughUptoRow : OpenClaim := { program := "ytofnkfdeffjllaa", sum := "b57665cfd0c59047b88c840144b8db9ddaa063f6611fd767220a712b98c3f411", func := "garboard/garboardlaw13.BlameEnough", spec := "blameEnough", apart := false, narrowed := true }
def BlameEnoughUptoSaid : Prop := blameEnoughUptoRow.holds Try.pinned (OpenSpec.upto blameEnoughSpec)

end Rows
end Go.Proofs.Ytofnkfdeffjllaa
