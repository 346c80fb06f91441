/-
  No cell of these rows narrows 'for every input' (looked for: loops, veiled, ifaces, maps, wideKeys, modest, calm, conditions, laid).
  DERIVED. THE GIVEN ROWS OF THIS SEAT. 8 by the template 'for every input the law returns true; each argument reads behind the call as it read before'; 0 by the template 'total and deterministic' (their statements: YtiigbhpnlpbnjaaTotals.lean).
  GIVEN WITH THE SEED: the statements are not yours to turn. If you find one false, say at which input.
  Laid BY PROGRAM, IN A SANDBOX (cutbox-rows.mjs): the forced cells as the released guide's own fill.sh prints them over the translation 9f3e1e5bab2416d3… (all of the seat's roots in one cut). By AI agents, Wed Nov 11 2026. No macro, syntax, notation, axiom, sorry.
-/
import Derived.Test.YtiigbhpnlpbnjaaChecked
import GoSem.Claim
import GoSem.ClaimJoined
import GoSem.ClaimMapViews
import Derived.JoinedTies
import Derived.KernelRfl
namespace Go.Proofs.Ytiigbhpnlpbnjaa
/- THE CELL 'sum', in the pinned program and in every row, IS THE sha256 OF THE DUMP (.gsa) THAT YtiigbhpnlpbnjaaProg.lean LOADS. Nothing in Lean hashes anything: it is a label: what it is worth is what the hold of that sum in a sandbox is worth. -/
noncomputable def Try.pinned : Pinned := { name := "ytiigbhpnlpbnjaa", sum := "9f3e1e5bab2416d3f0a9ee4ecd9886858f68819089e15377fb8755352f6d5bc5", checked := Try.checked }
namespace Rows
def none {H : Type} : Left H := { results := [], args := [] }

/-- 'garboardlaw01.HashSums': WHATEVER THE INPUT: true; the input reads as it did. -/
def hashSumsSpec : ChangeSpec := { name := "hashSums", fn := fun _ => fun
  | [d] => { results := [.lit (.bool true)], args := [d] }
  | _ => none }
def hashSumsRow : OpenClaim := { program := "ytiigbhpnlpbnjaa", sum := "9f3e1e5bab2416d3f0a9ee4ecd9886858f68819089e15377fb8755352f6d5bc5", func := "garboard/garboardlaw01.HashSums", spec := "hashSums", apart := false }
def HashSumsSaid : Prop := hashSumsRow.holds Try.pinned (OpenSpec.ofChange hashSumsSpec)

/-- ITS FALSE NEIGHBOUR: 'it returns false'. Refute it at one input. -/
def hashSumsWrong : ChangeSpec := { name := "hashSums", fn := fun _ => fun
  | [d] => { results := [.lit (.bool false)], args := [d] }
  | _ => none }
def HashSumsWrongFalsely : Prop := hashSumsRow.holds Try.pinned (OpenSpec.ofChange hashSumsWrong)

/-- 'garboardlaw01.HashMacs': WHATEVER THE INPUT: true; the input reads as it did. -/
def hashMacsSpec : ChangeSpec := { name := "hashMacs", fn := fun _ => fun
  | [d1, d2] => { results := [.lit (.bool true)], args := [d1, d2] }
  | _ => none }
def hashMacsRow : OpenClaim := { program := "ytiigbhpnlpbnjaa", sum := "9f3e1e5bab2416d3f0a9ee4ecd9886858f68819089e15377fb8755352f6d5bc5", func := "garboard/garboardlaw01.HashMacs", spec := "hashMacs", apart := false }
def HashMacsSaid : Prop := hashMacsRow.holds Try.pinned (OpenSpec.ofChange hashMacsSpec)

/-- ITS FALSE NEIGHBOUR: 'it returns false'. Refute it at one input. -/
def hashMacsWrong : ChangeSpec := { name := "hashMacs", fn := fun _ => fun
  | [d1, d2] => { results := [.lit (.bool false)], args := [d1, d2] }
  | _ => none }
def HashMacsWrongFalsely : Prop := hashMacsRow.holds Try.pinned (OpenSpec.ofChange hashMacsWrong)

/-- 'garboardlaw01.HashSame': WHATEVER THE INPUT: true; the input reads as it did. -/
def hashSameSpec : ChangeSpec := { name := "hashSame", fn := fun _ => fun
  | [d1, d2] => { results := [.lit (.bool true)], args := [d1, d2] }
  | _ => none }
def hashSameRow : OpenClaim := { program := "ytiigbhpnlpbnjaa", sum := "9f3e1e5bab2416d3f0a9ee4ecd9886858f68819089e15377fb8755352f6d5bc5", func := "garboard/garboardlaw01.HashSame", spec := "hashSame", apart := false }
def HashSameSaid : Prop := hashSameRow.holds Try.pinned (OpenSpec.ofChange hashSameSpec)

/-- ITS FALSE NEIGHBOUR: 'it returns false'. Refute it at one input. -/
def hashSameWrong : ChangeSpec := { name := "hashSame", fn := fun _ => fun
  | [d1, d2] => { results := [.lit (.bool false)], args := [d1, d2] }
  | _ => none }
def HashSameWrongFalsely : Prop := hashSameRow.holds Try.pinned (OpenSpec.ofChange hashSameWrong)

/-- 'garboardlaw01.HashKeys': WHATEVER THE INPUT: true; the input reads as it did. -/
def hashKeysSpec : ChangeSpec := { name := "hashKeys", fn := fun _ => fun
  | [d1, d2, d3] => { results := [.lit (.bool true)], args := [d1, d2, d3] }
  | _ => none }
def hashKeysRow : OpenClaim := { program := "ytiigbhpnlpbnjaa", sum := "9f3e1e5bab2416d3f0a9ee4ecd9886858f68819089e15377fb8755352f6d5bc5", func := "garboard/garboardlaw01.HashKeys", spec := "hashKeys", apart := false }
def HashKeysSaid : Prop := hashKeysRow.holds Try.pinned (OpenSpec.ofChange hashKeysSpec)

/-- ITS FALSE NEIGHBOUR: 'it returns false'. Refute it at one input. -/
def hashKeysWrong : ChangeSpec := { name := "hashKeys", fn := fun _ => fun
  | [d1, d2, d3] => { results := [.lit (.bool false)], args := [d1, d2, d3] }
  | _ => none }
def HashKeysWrongFalsely : Prop := hashKeysRow.holds Try.pinned (OpenSpec.ofChange hashKeysWrong)

/-- 'garboardlaw01.HashOut': WHATEVER THE INPUT: true; the input reads as it did. -/
def hashOutSpec : ChangeSpec := { name := "hashOut", fn := fun _ => fun
  | [d1, d2] => { results := [.lit (.bool true)], args := [d1, d2] }
  | _ => none }
def hashOutRow : OpenClaim := { program := "ytiigbhpnlpbnjaa", sum := "9f3e1e5bab2416d3f0a9ee4ecd9886858f68819089e15377fb8755352f6d5bc5", func := "garboard/garboardlaw01.HashOut", spec := "hashOut", apart := false }
def HashOutSaid : Prop := hashOutRow.holds Try.pinned (OpenSpec.ofChange hashOutSpec)

/-- ITS FALSE NEIGHBOUR: 'it returns false'. Refute it at one input. -/
def hashOutWrong : ChangeSpec := { name := "hashOut", fn := fun _ => fun
  | [d1, d2] => { results := [.lit (.bool false)], args := [d1, d2] }
  | _ => none }
def HashOutWrongFalsely : Prop := hashOutRow.holds Try.pinned (OpenSpec.ofChange hashOutWrong)

/-- 'garboardlaw01.HashLong': WHATEVER THE INPUT: true; the input reads as it did. -/
def hashLongSpec : ChangeSpec := { name := "hashLong", fn := fun _ => fun
  | [d1, d2] => { results := [.lit (.bool true)], args := [d1, d2] }
  | _ => none }
def hashLongRow : OpenClaim := { program := "ytiigbhpnlpbnjaa", sum := "9f3e1e5bab2416d3f0a9ee4ecd9886858f68819089e15377fb8755352f6d5bc5", func := "garboard/garboardlaw01.HashLong", spec := "hashLong", apart := false }
def HashLongSaid : Prop := hashLongRow.holds Try.pinned (OpenSpec.ofChange hashLongSpec)

/-- ITS FALSE NEIGHBOUR: 'it returns false'. Refute it at one input. -/
def hashLongWrong : ChangeSpec := { name := "hashLong", fn := fun _ => fun
  | [d1, d2] => { results := [.lit (.bool false)], args := [d1, d2] }
  | _ => none }
def HashLongWrongFalsely : Prop := hashLongRow.holds Try.pinned (OpenSpec.ofChange hashLongWrong)

/-- 'garboardlaw01.HashEmpty': WHATEVER THE INPUT: true; the input reads as it did. -/
def hashEmptySpec : ChangeSpec := { name := "hashEmpty", fn := fun _ => fun
  | [d] => { results := [.lit (.bool true)], args := [d] }
  | _ => none }
def hashEmptyRow : OpenClaim := { program := "ytiigbhpnlpbnjaa", sum := "9f3e1e5bab2416d3f0a9ee4ecd9886858f68819089e15377fb8755352f6d5bc5", func := "garboard/garboardlaw01.HashEmpty", spec := "hashEmpty", apart := false }
def HashEmptySaid : Prop := hashEmptyRow.holds Try.pinned (OpenSpec.ofChange hashEmptySpec)

/-- ITS FALSE NEIGHBOUR: 'it returns false'. Refute it at one input. -/
def hashEmptyWrong : ChangeSpec := { name := "hashEmpty", fn := fun _ => fun
  | [d] => { results := [.lit (.bool false)], args := [d] }
  | _ => none }
def HashEmptyWrongFalsely : Prop := hashEmptyRow.holds Try.pinned (OpenSpec.ofChange hashEmptyWrong)

/-- 'garboardlaw01.HashBits': WHATEVER THE INPUT: true; the input reads as it did. -/
def hashBitsSpec : ChangeSpec := { name := "hashBits", fn := fun _ => fun
  | [d1, d2] => { results := [.lit (.bool true)], args := [d1, d2] }
  | _ => none }
def hashBitsRow : OpenClaim := { program := "ytiigbhpnlpbnjaa", sum := "9f3e1e5bab2416d3f0a9ee4ecd9886858f68819089e15377fb8755352f6d5bc5", func := "garboard/garboardlaw01.HashBits", spec := "hashBits", apart := false }
def HashBitsSaid : Prop := hashBitsRow.holds Try.pinned (OpenSpec.ofChange hashBitsSpec)

/-- ITS FALSE NEIGHBOUR: 'it returns false'. Refute it at one input. -/
def hashBitsWrong : ChangeSpec := { name := "hashBits", fn := fun _ => fun
  | [d1, d2] => { results := [.lit (.bool false)], args := [d1, d2] }
  | _ => none }
def HashBitsWrongFalsely : Prop := hashBitsRow.holds Try.pinned (OpenSpec.ofChange hashBitsWrong)

/- THE SECOND FORM. 'bulk': how many values and letters a reading holds, each counted each time it is reached (what is shared counts as often as it is met; a slice's spare places count too). A statement '..UptoSaid' is the law's where the arguments, and the package variables that the reading takes, are together of bulk at most 1048576: NARROWER than '..Said'. Prove '..Said' where nothing that the law and all that it calls make is longer than what came in: it says more and counts as full. Else prove '..UptoSaid'. A law counts once. -/
mutual
def uptoBulk {H : Type} : DataW H → Nat
  | .lit (.string bytes) => bytes.length + 1
  | .lit _ => 1
  | .nil => 1
  | .ptr d => uptoBulk d + 1
  | .slice elems spare => uptoBulkAll elems + uptoBulkAll spare + 1
  | .agg parts => uptoBulkAll parts + 1
  | .iface _ d => uptoBulk d + 1
  | .map entries => uptoBulkEntries entries + 1
  | .held _ => 1
def uptoBulkAll {H : Type} : List (DataW H) → Nat
  | [] => 0
  | d :: r => uptoBulk d + uptoBulkAll r
def uptoBulkEntries {H : Type} : List (Lit × DataW H) → Nat
  | [] => 0
  | x :: r => uptoBulkEntry x + uptoBulkEntries r
def uptoBulkEntry {H : Type} : Lit × DataW H → Nat
  | (.string bytes, d) => bytes.length + uptoBulk d + 1
  | (_, d) => uptoBulk d + 1
 end
def uptoSmall : (H : Type) → List (DataW H) → Bool := fun _ ds => decide (uptoBulkAll ds ≤ 1048576)
def OpenSpec.upto (s : _root_.Go.ChangeSpec) : _root_.Go.OpenSpec := { _root_.Go.OpenSpec.ofChange s with cond := some uptoSmall }

/-- 'garboardlaw01.HashSums', WHERE WHAT IT READS IS OF BULK AT MOST 1048576: true; the input reads as it did. -/
def hashSumsUptoRow : OpenClaim := { program := "ytiigbhpnlpbnjaa", sum := "9f3e1e5bab2416d3f0a9ee4ecd9886858f68819089e15377fb8755352f6d5bc5", func := "garboard/garboardlaw01.HashSums", spec := "hashSums", apart := false, narrowed := true }
def HashSumsUptoSaid : Prop := hashSumsUptoRow.holds Try.pinned (OpenSpec.upto hashSumsSpec)

/-- 'garboardlaw01.HashMacs', WHERE WHAT IT READS IS OF BULK AT MOST 1048576: true; the input reads as it did. -/
def hashMacsUptoRow : OpenClaim := { program := "ytiigbhpnlpbnjaa", sum := "9f3e1e5bab2416d3f0a9ee4ecd9886858f68819089e15377fb8755352f6d5bc5", func := "garboard/garboardlaw01.HashMacs", spec := "hashMacs", apart := false, narrowed := true }
def HashMacsUptoSaid : Prop := hashMacsUptoRow.holds Try.pinned (OpenSpec.upto hashMacsSpec)

/-- 'garboardlaw01.HashSame', WHERE WHAT IT READS IS OF BULK AT MOST 1048576: true; the input reads as it did. -/
def hashSameUptoRow : OpenClaim := { program := "ytiigbhpnlpbnjaa", sum := "9f3e1e5bab2416d3f0a9ee4ecd9886858f68819089e15377fb8755352f6d5bc5", func := "garboard/garboardlaw01.HashSame", spec := "hashSame", apart := false, narrowed := true }
def HashSameUptoSaid : Prop := hashSameUptoRow.holds Try.pinned (OpenSpec.upto hashSameSpec)

/-- 'garboardlaw01.HashKeys', WHERE WHAT IT READS IS OF BULK AT MOST 1048576: true; the input reads as it did. -/
def hashKeysUptoRow : OpenClaim := { program := "ytiigbhpnlpbnjaa", sum := "9f3e1e5bab2416d3f0a9ee4ecd9886858f68819089e15377fb8755352f6d5bc5", func := "garboard/garboardlaw01.HashKeys", spec := "hashKeys", apart := false, narrowed := true }
def HashKeysUptoSaid : Prop := hashKeysUptoRow.holds Try.pinned (OpenSpec.upto hashKeysSpec)

/-- 'garboardlaw01.HashOut', WHERE WHAT IT READS IS OF BULK AT MOST 1048576: true; the input reads as it did. -/
def hashOutUptoRow : OpenClaim := { program := "ytiigbhpnlpbnjaa", sum := "9f3e1e5bab2416d3f0a9ee4ecd9886858f68819089e15377fb8755352f6d5bc5", func := "garboard/garboardlaw01.HashOut", spec := "hashOut", apart := false, narrowed := true }
def HashOutUptoSaid : Prop := hashOutUptoRow.holds Try.pinned (OpenSpec.upto hashOutSpec)

/-- 'garboardlaw01.HashLong', WHERE WHAT IT READS IS OF BULK AT MOST 1048576: true; the input reads as it did. -/
def hashLongUptoRow : OpenClaim := { program := "ytiigbhpnlpbnjaa", sum := "9f3e1e5bab2416d3f0a9ee4ecd9886858f68819089e15377fb8755352f6d5bc5", func := "garboard/garboardlaw01.HashLong", spec := "hashLong", apart := false, narrowed := true }
def HashLongUptoSaid : Prop := hashLongUptoRow.holds Try.pinned (OpenSpec.upto hashLongSpec)

/-- 'garboardlaw01.HashEmpty', WHERE WHAT IT READS IS OF BULK AT MOST 1048576: true; the input reads as it did. -/
def hashEmptyUptoRow : OpenClaim := { program := "ytiigbhpnlpbnjaa", sum := "9f3e1e5bab2416d3f0a9ee4ecd9886858f68819089e15377fb8755352f6d5bc5", func := "garboard/garboardlaw01.HashEmpty", spec := "hashEmpty", apart := false, narrowed := true }
def HashEmptyUptoSaid : Prop := hashEmptyUptoRow.holds Try.pinned (OpenSpec.upto hashEmptySpec)

/-- 'garboardlaw01.HashBits', WHERE WHAT IT READS IS OF BULK AT MOST 1048576: true; the input reads as it did. -/
def hashBitsUptoRow : OpenClaim := { program := "ytiigbhpnlpbnjaa", sum := "9f3e1e5bab2416d3f0a9ee4ecd9886858f68819089e15377fb8755352f6d5bc5", func := "garboard/garboardlaw01.HashBits", spec := "hashBits", apart := false, narrowed := true }
def HashBitsUptoSaid : Prop := hashBitsUptoRow.holds Try.pinned (OpenSpec.upto hashBitsSpec)

end Rows
end Go.Proofs.Ytiigbhpnlpbnjaa
