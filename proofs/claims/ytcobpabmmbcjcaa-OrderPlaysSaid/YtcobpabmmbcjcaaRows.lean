/-
  No cell of these rows narrows 'for every input' (looked for: loops, veiled, ifaces, maps, wideKeys, modest, calm, conditions, laid).
  DERIVED. THE GIVEN ROWS OF THIS SEAT. 5 by the template 'for every input the law returns true; each argument reads behind the call as it read before'; 0 by the template 'total and deterministic' (their statements: YtcobpabmmbcjcaaTotals.lean).
  GIVEN WITH THE SEED: the statements are not yours to turn. If you find one false, say at which input.
  Laid BY PROGRAM, IN A SANDBOX (cutbox-rows.mjs): the forced cells as the released guide's own fill.sh prints them over the translation 1eb3f2209479019a… (all of the seat's roots in one cut). By AI agents, Wed Nov 11 2026. No macro, syntax, notation, axiom, sorry.
-/
import Derived.Test.YtcobpabmmbcjcaaChecked
import GoSem.Claim
import GoSem.ClaimJoined
import GoSem.ClaimMapViews
import Derived.JoinedTies
import Derived.KernelRfl
namespace Go.Proofs.Ytcobpabmmbcjcaa
/- THE CELL 'sum', in the pinned program and in every row, IS THE sha256 OF THE DUMP (.gsa) THAT YtcobpabmmbcjcaaProg.lean LOADS. Nothing in Lean hashes anything: it is a label: what it is worth is what the hold of that sum in a sandbox is worth. -/
noncomputable def Try.pinned : Pinned := { name := "ytcobpabmmbcjcaa", sum := "1eb3f2209479019ab8d48b7d9cce8c48eaccfea0a658b091a4ff5993dbf4e72d", checked := Try.checked }
namespace Rows
def none {H : Type} : Left H := { results := [], args := [] }

/-- 'garboardlaw15.OrderPlays': WHATEVER THE INPUT: true; the input reads as it did. -/
def orderPlaysSpec : ChangeSpec := { name := "orderPlays", fn := fun _ => fun
  | [d1, d2] => { results := [.lit (.bool true)], args := [d1, d2] }
  | _ => none }
def orderPlaysRow : OpenClaim := { program := "ytcobpabmmbcjcaa", sum := "1eb3f2209479019ab8d48b7d9cce8c48eaccfea0a658b091a4ff5993dbf4e72d", func := "garboard/garboardlaw15.OrderPlays", spec := "orderPlays", apart := false }
def OrderPlaysSaid : Prop := orderPlaysRow.holds Try.pinned (OpenSpec.ofChange orderPlaysSpec)

/-- ITS FALSE NEIGHBOUR: 'it returns false'. Refute it at one input. -/
def orderPlaysWrong : ChangeSpec := { name := "orderPlays", fn := fun _ => fun
  | [d1, d2] => { results := [.lit (.bool false)], args := [d1, d2] }
  | _ => none }
def OrderPlaysWrongFalsely : Prop := orderPlaysRow.holds Try.pinned (OpenSpec.ofChange orderPlaysWrong)

/-- 'garboardlaw15.OrderRises': WHATEVER THE INPUT: true; the input reads as it did. -/
def orderRisesSpec : ChangeSpec := { name := "orderRises", fn := fun _ => fun
  | [d1, d2] => { results := [.lit (.bool true)], args := [d1, d2] }
  | _ => none }
def orderRisesRow : OpenClaim := { program := "ytcobpabmmbcjcaa", sum := "1eb3f2209479019ab8d48b7d9cce8c48eaccfea0a658b091a4ff5993dbf4e72d", func := "garboard/garboardlaw15.OrderRises", spec := "orderRises", apart := false }
def OrderRisesSaid : Prop := orderRisesRow.holds Try.pinned (OpenSpec.ofChange orderRisesSpec)

/-- ITS FALSE NEIGHBOUR: 'it returns false'. Refute it at one input. -/
def orderRisesWrong : ChangeSpec := { name := "orderRises", fn := fun _ => fun
  | [d1, d2] => { results := [.lit (.bool false)], args := [d1, d2] }
  | _ => none }
def OrderRisesWrongFalsely : Prop := orderRisesRow.holds Try.pinned (OpenSpec.ofChange orderRisesWrong)

/-- 'garboardlaw15.OrderAgree': WHATEVER THE INPUT: true; the input reads as it did. -/
def orderAgreeSpec : ChangeSpec := { name := "orderAgree", fn := fun _ => fun
  | [d1, d2, d3] => { results := [.lit (.bool true)], args := [d1, d2, d3] }
  | _ => none }
def orderAgreeRow : OpenClaim := { program := "ytcobpabmmbcjcaa", sum := "1eb3f2209479019ab8d48b7d9cce8c48eaccfea0a658b091a4ff5993dbf4e72d", func := "garboard/garboardlaw15.OrderAgree", spec := "orderAgree", apart := false }
def OrderAgreeSaid : Prop := orderAgreeRow.holds Try.pinned (OpenSpec.ofChange orderAgreeSpec)

/-- ITS FALSE NEIGHBOUR: 'it returns false'. Refute it at one input. -/
def orderAgreeWrong : ChangeSpec := { name := "orderAgree", fn := fun _ => fun
  | [d1, d2, d3] => { results := [.lit (.bool false)], args := [d1, d2, d3] }
  | _ => none }
def OrderAgreeWrongFalsely : Prop := orderAgreeRow.holds Try.pinned (OpenSpec.ofChange orderAgreeWrong)

/-- 'garboardlaw15.OrderSays': WHATEVER THE INPUT: true; the input reads as it did. -/
def orderSaysSpec : ChangeSpec := { name := "orderSays", fn := fun _ => fun
  | [d1, d2] => { results := [.lit (.bool true)], args := [d1, d2] }
  | _ => none }
def orderSaysRow : OpenClaim := { program := "ytcobpabmmbcjcaa", sum := "1eb3f2209479019ab8d48b7d9cce8c48eaccfea0a658b091a4ff5993dbf4e72d", func := "garboard/garboardlaw15.OrderSays", spec := "orderSays", apart := false }
def OrderSaysSaid : Prop := orderSaysRow.holds Try.pinned (OpenSpec.ofChange orderSaysSpec)

/-- ITS FALSE NEIGHBOUR: 'it returns false'. Refute it at one input. -/
def orderSaysWrong : ChangeSpec := { name := "orderSays", fn := fun _ => fun
  | [d1, d2] => { results := [.lit (.bool false)], args := [d1, d2] }
  | _ => none }
def OrderSaysWrongFalsely : Prop := orderSaysRow.holds Try.pinned (OpenSpec.ofChange orderSaysWrong)

/-- 'garboardlaw15.OrderWindow': WHATEVER THE INPUT: true; the input reads as it did. -/
def orderWindowSpec : ChangeSpec := { name := "orderWindow", fn := fun _ => fun
  | [d1, d2] => { results := [.lit (.bool true)], args := [d1, d2] }
  | _ => none }
def orderWindowRow : OpenClaim := { program := "ytcobpabmmbcjcaa", sum := "1eb3f2209479019ab8d48b7d9cce8c48eaccfea0a658b091a4ff5993dbf4e72d", func := "garboard/garboardlaw15.OrderWindow", spec := "orderWindow", apart := false }
def OrderWindowSaid : Prop := orderWindowRow.holds Try.pinned (OpenSpec.ofChange orderWindowSpec)

/-- ITS FALSE NEIGHBOUR: 'it returns false'. Refute it at one input. -/
def orderWindowWrong : ChangeSpec := { name := "orderWindow", fn := fun _ => fun
  | [d1, d2] => { results := [.lit (.bool false)], args := [d1, d2] }
  | _ => none }
def OrderWindowWrongFalsely : Prop := orderWindowRow.holds Try.pinned (OpenSpec.ofChange orderWindowWrong)

/- THE SECOND FORM. 'bulk': how many values and letters a reading holds, each counted each time it is reached (what is shared counts as often as it is met; a slice's spare places count too). A statement '..UptoSaid' is the law's where the arguments, and the package variables that the reading takes, are together of bulk at most 1048576: NARROWER than '..Said'. Prove '..Said' where nothing that the law and all that it calls make is longer than what came in: it says more and counts as full. Else prove '..UptoSaid'. A law counts once. -/
mutual
def uptoBulk {H : Type} : DataW H → Nat
  | .lit (.string bytes) => bytes.length + 1
  | .lit _ => 1
  | .nil => 1
  | .ptr d => uptoBulk d + 1
  | .slice elems spare => uptoBulkAll elems + uptoBulkAll spare + 1
  | .agg parts => uptoBulkAll parts + 1
  | .iface _ d => uptoBulk d + 1
  | .map entries => uptoBulkEntries entries + 1
  | .held _ => 1
def uptoBulkAll {H : Type} : List (DataW H) → Nat
  | [] => 0
  | d :: r => uptoBulk d + uptoBulkAll r
def uptoBulkEntries {H : Type} : List (Lit × DataW H) → Nat
  | [] => 0
  | x :: r => uptoBulkEntry x + uptoBulkEntries r
def uptoBulkEntry {H : Type} : Lit × DataW H → Nat
  | (.string bytes, d) => bytes.length + uptoBulk d + 1
  | (_, d) => uptoBulk d + 1
 end
def uptoSmall : (H : Type) → List (DataW H) → Bool := fun _ ds => decide (uptoBulkAll ds ≤ 1048576)
def OpenSpec.upto (s : _root_.Go.ChangeSpec) : _root_.Go.OpenSpec := { _root_.Go.OpenSpec.ofChange s with cond := some uptoSmall }

/-- 'garboardlaw15.OrderPlays', WHERE WHAT IT READS IS OF BULK AT MOST 1048576: true; the input reads as it did. -/
def orderPlaysUptoRow : OpenClaim := { program := "ytcobpabmmbcjcaa", sum := "1eb3f2209479019ab8d48b7d9cce8c48eaccfea0a658b091a4ff5993dbf4e72d", func := "garboard/garboardlaw15.OrderPlays", spec := "orderPlays", apart := false, narrowed := true }
def OrderPlaysUptoSaid : Prop := orderPlaysUptoRow.holds Try.pinned (OpenSpec.upto orderPlaysSpec)

/-- 'garboardlaw15.OrderRises', WHERE WHAT IT READS IS OF BULK AT MOST 1048576: true; the input reads as it did. -/
def orderRisesUptoRow : OpenClaim := { program := "ytcobpabmmbcjcaa", sum := "1eb3f2209479019ab8d48b7d9cce8c48eaccfea0a658b091a4ff5993dbf4e72d", func := "garboard/garboardlaw15.OrderRises", spec := "orderRises", apart := false, narrowed := true }
def OrderRisesUptoSaid : Prop := orderRisesUptoRow.holds Try.pinned (OpenSpec.upto orderRisesSpec)

/-- 'garboardlaw15.OrderAgree', WHERE WHAT IT READS IS OF BULK AT MOST 1048576: true; the input reads as it did. -/
def orderAgreeUptoRow : OpenClaim := { program := "ytcobpabmmbcjcaa", sum := "1eb3f2209479019ab8d48b7d9cce8c48eaccfea0a658b091a4ff5993dbf4e72d", func := "garboard/garboardlaw15.OrderAgree", spec := "orderAgree", apart := false, narrowed := true }
def OrderAgreeUptoSaid : Prop := orderAgreeUptoRow.holds Try.pinned (OpenSpec.upto orderAgreeSpec)

/-- 'garboardlaw15.OrderSays', WHERE WHAT IT READS IS OF BULK AT MOST 1048576: true; the input reads as it did. -/
def orderSaysUptoRow : OpenClaim := { program := "ytcobpabmmbcjcaa", sum := "1eb3f2209479019ab8d48b7d9cce8c48eaccfea0a658b091a4ff5993dbf4e72d", func := "garboard/garboardlaw15.OrderSays", spec := "orderSays", apart := false, narrowed := true }
def OrderSaysUptoSaid : Prop := orderSaysUptoRow.holds Try.pinned (OpenSpec.upto orderSaysSpec)

/-- 'garboardlaw15.OrderWindow', WHERE WHAT IT READS IS OF BULK AT MOST 1048576: true; the input reads as it did. -/
def orderWindowUptoRow : OpenClaim := { program := "ytcobpabmmbcjcaa", sum := "1eb3f2209479019ab8d48b7d9cce8c48eaccfea0a658b091a4ff5993dbf4e72d", func := "garboard/garboardlaw15.OrderWindow", spec := "orderWindow", apart := false, narrowed := true }
def OrderWindowUptoSaid : Prop := orderWindowUptoRow.holds Try.pinned (OpenSpec.upto orderWindowSpec)

end Rows
end Go.Proofs.Ytcobpabmmbcjcaa
