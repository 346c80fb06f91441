/-
  No cell of these rows narrows 'for every input' (looked for: loops, veiled, ifaces, maps, wideKeys, modest, calm, conditions, laid).
  DERIVED. THE GIVEN ROWS OF THIS SEAT. 6 by the template 'for every input the law returns true; each argument reads behind the call as it read before'; 0 by the template 'total and deterministic' (their statements: YtcnkakahhekobaaTotals.lean).
  GIVEN WITH THE SEED: the statements are not yours to turn. If you find one false, say at which input.
  Laid BY PROGRAM, IN A SANDBOX (cutbox-rows.mjs): the forced cells as the released guide's own fill.sh prints them over the translation f6b6540e22c9259a… (all of the seat's roots in one cut). By AI agents, Wed Nov 11 2026. No macro, syntax, notation, axiom, sorry.
-/
import Derived.Test.YtcnkakahhekobaaChecked
import GoSem.Claim
import GoSem.ClaimJoined
import GoSem.ClaimMapViews
import Derived.JoinedTies
import Derived.KernelRfl
namespace Go.Proofs.Ytcnkakahhekobaa
/- THE CELL 'sum', in the pinned program and in every row, IS THE sha256 OF THE DUMP (.gsa) THAT YtcnkakahhekobaaProg.lean LOADS. Nothing in Lean hashes anything: it is a label: what it is worth is what the hold of that sum in a sandbox is worth. -/
noncomputable def Try.pinned : Pinned := { name := "ytcnkakahhekobaa", sum := "f6b6540e22c9259a9223191ee95af902d7d50a5ae7ca6389a76b9c1685770022", checked := Try.checked }
namespace Rows
def none {H : Type} : Left H := { results := [], args := [] }

/-- 'garboardlaw14.BrachaPlays': WHATEVER THE INPUT: true; the input reads as it did. -/
def brachaPlaysSpec : ChangeSpec := { name := "brachaPlays", fn := fun _ => fun
  | [d1, d2, d3] => { results := [.lit (.bool true)], args := [d1, d2, d3] }
  | _ => none }
def brachaPlaysRow : OpenClaim := { program := "ytcnkakahhekobaa", sum := "f6b6540e22c9259a9223191ee95af902d7d50a5ae7ca6389a76b9c1685770022", func := "garboard/garboardlaw14.BrachaPlays", spec := "brachaPlays", apart := false }
def BrachaPlaysSaid : Prop := brachaPlaysRow.holds Try.pinned (OpenSpec.ofChange brachaPlaysSpec)

/-- ITS FALSE NEIGHBOUR: 'it returns false'. Refute it at one input. -/
def brachaPlaysWrong : ChangeSpec := { name := "brachaPlays", fn := fun _ => fun
  | [d1, d2, d3] => { results := [.lit (.bool false)], args := [d1, d2, d3] }
  | _ => none }
def BrachaPlaysWrongFalsely : Prop := brachaPlaysRow.holds Try.pinned (OpenSpec.ofChange brachaPlaysWrong)

/-- 'garboardlaw14.BrachaOnce': WHATEVER THE INPUT: true; the input reads as it did. -/
def brachaOnceSpec : ChangeSpec := { name := "brachaOnce", fn := fun _ => fun
  | [d1, d2, d3] => { results := [.lit (.bool true)], args := [d1, d2, d3] }
  | _ => none }
def brachaOnceRow : OpenClaim := { program := "ytcnkakahhekobaa", sum := "f6b6540e22c9259a9223191ee95af902d7d50a5ae7ca6389a76b9c1685770022", func := "garboard/garboardlaw14.BrachaOnce", spec := "brachaOnce", apart := false }
def BrachaOnceSaid : Prop := brachaOnceRow.holds Try.pinned (OpenSpec.ofChange brachaOnceSpec)

/-- ITS FALSE NEIGHBOUR: 'it returns false'. Refute it at one input. -/
def brachaOnceWrong : ChangeSpec := { name := "brachaOnce", fn := fun _ => fun
  | [d1, d2, d3] => { results := [.lit (.bool false)], args := [d1, d2, d3] }
  | _ => none }
def BrachaOnceWrongFalsely : Prop := brachaOnceRow.holds Try.pinned (OpenSpec.ofChange brachaOnceWrong)

/-- 'garboardlaw14.BrachaAgree': WHATEVER THE INPUT: true; the input reads as it did. -/
def brachaAgreeSpec : ChangeSpec := { name := "brachaAgree", fn := fun _ => fun
  | [d1, d2, d3] => { results := [.lit (.bool true)], args := [d1, d2, d3] }
  | _ => none }
def brachaAgreeRow : OpenClaim := { program := "ytcnkakahhekobaa", sum := "f6b6540e22c9259a9223191ee95af902d7d50a5ae7ca6389a76b9c1685770022", func := "garboard/garboardlaw14.BrachaAgree", spec := "brachaAgree", apart := false }
def BrachaAgreeSaid : Prop := brachaAgreeRow.holds Try.pinned (OpenSpec.ofChange brachaAgreeSpec)

/-- ITS FALSE NEIGHBOUR: 'it returns false'. Refute it at one input. -/
def brachaAgreeWrong : ChangeSpec := { name := "brachaAgree", fn := fun _ => fun
  | [d1, d2, d3] => { results := [.lit (.bool false)], args := [d1, d2, d3] }
  | _ => none }
def BrachaAgreeWrongFalsely : Prop := brachaAgreeRow.holds Try.pinned (OpenSpec.ofChange brachaAgreeWrong)

/-- 'garboardlaw14.BrachaHonest': WHATEVER THE INPUT: true; the input reads as it did. -/
def brachaHonestSpec : ChangeSpec := { name := "brachaHonest", fn := fun _ => fun
  | [d1, d2, d3] => { results := [.lit (.bool true)], args := [d1, d2, d3] }
  | _ => none }
def brachaHonestRow : OpenClaim := { program := "ytcnkakahhekobaa", sum := "f6b6540e22c9259a9223191ee95af902d7d50a5ae7ca6389a76b9c1685770022", func := "garboard/garboardlaw14.BrachaHonest", spec := "brachaHonest", apart := false }
def BrachaHonestSaid : Prop := brachaHonestRow.holds Try.pinned (OpenSpec.ofChange brachaHonestSpec)

/-- ITS FALSE NEIGHBOUR: 'it returns false'. Refute it at one input. -/
def brachaHonestWrong : ChangeSpec := { name := "brachaHonest", fn := fun _ => fun
  | [d1, d2, d3] => { results := [.lit (.bool false)], args := [d1, d2, d3] }
  | _ => none }
def BrachaHonestWrongFalsely : Prop := brachaHonestRow.holds Try.pinned (OpenSpec.ofChange brachaHonestWrong)

/-- 'garboardlaw14.BrachaFew': WHATEVER THE INPUT: true; the input reads as it did. -/
def brachaFewSpec : ChangeSpec := { name := "brachaFew", fn := fun _ => fun
  | [d1, d2, d3] => { results := [.lit (.bool true)], args := [d1, d2, d3] }
  | _ => none }
def brachaFewRow : OpenClaim := { program := "ytcnkakahhekobaa", sum := "f6b6540e22c9259a9223191ee95af902d7d50a5ae7ca6389a76b9c1685770022", func := "garboard/garboardlaw14.BrachaFew", spec := "brachaFew", apart := false }
def BrachaFewSaid : Prop := brachaFewRow.holds Try.pinned (OpenSpec.ofChange brachaFewSpec)

/-- ITS FALSE NEIGHBOUR: 'it returns false'. Refute it at one input. -/
def brachaFewWrong : ChangeSpec := { name := "brachaFew", fn := fun _ => fun
  | [d1, d2, d3] => { results := [.lit (.bool false)], args := [d1, d2, d3] }
  | _ => none }
def BrachaFewWrongFalsely : Prop := brachaFewRow.holds Try.pinned (OpenSpec.ofChange brachaFewWrong)

/-- 'garboardlaw14.BrachaEchoes': WHATEVER THE INPUT: true; the input reads as it did. -/
def brachaEchoesSpec : ChangeSpec := { name := "brachaEchoes", fn := fun _ => fun
  | [d1, d2, d3] => { results := [.lit (.bool true)], args := [d1, d2, d3] }
  | _ => none }
def brachaEchoesRow : OpenClaim := { program := "ytcnkakahhekobaa", sum := "f6b6540e22c9259a9223191ee95af902d7d50a5ae7ca6389a76b9c1685770022", func := "garboard/garboardlaw14.BrachaEchoes", spec := "brachaEchoes", apart := false }
def BrachaEchoesSaid : Prop := brachaEchoesRow.holds Try.pinned (OpenSpec.ofChange brachaEchoesSpec)

/-- ITS FALSE NEIGHBOUR: 'it returns false'. Refute it at one input. -/
def brachaEchoesWrong : ChangeSpec := { name := "brachaEchoes", fn := fun _ => fun
  | [d1, d2, d3] => { results := [.lit (.bool false)], args := [d1, d2, d3] }
  | _ => none }
def BrachaEchoesWrongFalsely : Prop := brachaEchoesRow.holds Try.pinned (OpenSpec.ofChange brachaEchoesWrong)

/- THE SECOND FORM. 'bulk': how many values and letters a reading holds, each counted each time it is reached (what is shared counts as often as it is met; a slice's spare places count too). A statement '..UptoSaid' is the law's where the arguments, and the package variables that the reading takes, are together of bulk at most 1048576: NARROWER than '..Said'. Prove '..Said' where nothing that the law and all that it calls make is longer than what came in: it says more and counts as full. Else prove '..UptoSaid'. A law counts once. -/
mutual
def uptoBulk {H : Type} : DataW H → Nat
  | .lit (.string bytes) => bytes.length + 1
  | .lit _ => 1
  | .nil => 1
  | .ptr d => uptoBulk d + 1
  | .slice elems spare => uptoBulkAll elems + uptoBulkAll spare + 1
  | .agg parts => uptoBulkAll parts + 1
  | .iface _ d => uptoBulk d + 1
  | .map entries => uptoBulkEntries entries + 1
  | .held _ => 1
def uptoBulkAll {H : Type} : List (DataW H) → Nat
  | [] => 0
  | d :: r => uptoBulk d + uptoBulkAll r
def uptoBulkEntries {H : Type} : List (Lit × DataW H) → Nat
  | [] => 0
  | x :: r => uptoBulkEntry x + uptoBulkEntries r
def uptoBulkEntry {H : Type} : Lit × DataW H → Nat
  | (.string bytes, d) => bytes.length + uptoBulk d + 1
  | (_, d) => uptoBulk d + 1
 end
def uptoSmall : (H : Type) → List (DataW H) → Bool := fun _ ds => decide (uptoBulkAll ds ≤ 1048576)
def OpenSpec.upto (s : _root_.Go.ChangeSpec) : _root_.Go.OpenSpec := { _root_.Go.OpenSpec.ofChange s with cond := some uptoSmall }

/-- 'garboardlaw14.BrachaPlays', WHERE WHAT IT READS IS OF BULK AT MOST 1048576: true; the input reads as it did. -/
def brachaPlaysUptoRow : OpenClaim := { program := "ytcnkakahhekobaa", sum := "f6b6540e22c9259a9223191ee95af902d7d50a5ae7ca6389a76b9c1685770022", func := "garboard/garboardlaw14.BrachaPlays", spec := "brachaPlays", apart := false, narrowed := true }
def BrachaPlaysUptoSaid : Prop := brachaPlaysUptoRow.holds Try.pinned (OpenSpec.upto brachaPlaysSpec)

/-- 'garboardlaw14.BrachaOnce', WHERE WHAT IT READS IS OF BULK AT MOST 1048576: true; the input reads as it did. -/
def brachaOnceUptoRow : OpenClaim := { program := "ytcnkakahhekobaa", sum := "f6b6540e22c9259a9223191ee95af902d7d50a5ae7ca6389a76b9c1685770022", func := "garboard/garboardlaw14.BrachaOnce", spec := "brachaOnce", apart := false, narrowed := true }
def BrachaOnceUptoSaid : Prop := brachaOnceUptoRow.holds Try.pinned (OpenSpec.upto brachaOnceSpec)

/-- 'garboardlaw14.BrachaAgree', WHERE WHAT IT READS IS OF BULK AT MOST 1048576: true; the input reads as it did. -/
def brachaAgreeUptoRow : OpenClaim := { program := "ytcnkakahhekobaa", sum := "f6b6540e22c9259a9223191ee95af902d7d50a5ae7ca6389a76b9c1685770022", func := "garboard/garboardlaw14.BrachaAgree", spec := "brachaAgree", apart := false, narrowed := true }
def BrachaAgreeUptoSaid : Prop := brachaAgreeUptoRow.holds Try.pinned (OpenSpec.upto brachaAgreeSpec)

/-- 'garboardlaw14.BrachaHonest', WHERE WHAT IT READS IS OF BULK AT MOST 1048576: true; the input reads as it did. -/
def brachaHonestUptoRow : OpenClaim := { program := "ytcnkakahhekobaa", sum := "f6b6540e22c9259a9223191ee95af902d7d50a5ae7ca6389a76b9c1685770022", func := "garboard/garboardlaw14.BrachaHonest", spec := "brachaHonest", apart := false, narrowed := true }
def BrachaHonestUptoSaid : Prop := brachaHonestUptoRow.holds Try.pinned (OpenSpec.upto brachaHonestSpec)

/-- 'garboardlaw14.BrachaFew', WHERE WHAT IT READS IS OF BULK AT MOST 1048576: true; the input reads as it did. -/
def brachaFewUptoRow : OpenClaim := { program := "ytcnkakahhekobaa", sum := "f6b6540e22c9259a9223191ee95af902d7d50a5ae7ca6389a76b9c1685770022", func := "garboard/garboardlaw14.BrachaFew", spec := "brachaFew", apart := false, narrowed := true }
def BrachaFewUptoSaid : Prop := brachaFewUptoRow.holds Try.pinned (OpenSpec.upto brachaFewSpec)

/-- 'garboardlaw14.BrachaEchoes', WHERE WHAT IT READS IS OF BULK AT MOST 1048576: true; the input reads as it did. -/
def brachaEchoesUptoRow : OpenClaim := { program := "ytcnkakahhekobaa", sum := "f6b6540e22c9259a9223191ee95af902d7d50a5ae7ca6389a76b9c1685770022", func := "garboard/garboardlaw14.BrachaEchoes", spec := "brachaEchoes", apart := false, narrowed := true }
def BrachaEchoesUptoSaid : Prop := brachaEchoesUptoRow.holds Try.pinned (OpenSpec.upto brachaEchoesSpec)

end Rows
end Go.Proofs.Ytcnkakahhekobaa
