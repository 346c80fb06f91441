/-
  No cell of these rows narrows 'for every input' (looked for: loops, veiled, ifaces, maps, wideKeys, modest, calm, conditions, laid).
  DERIVED. THE GIVEN ROWS OF THIS SEAT. 5 by the template 'for every input the law returns true; each argument reads behind the call as it read before'; 0 by the template 'total and deterministic' (their statements: YtcnmmnhlhenifaaTotals.lean).
  GIVEN WITH THE SEED: the statements are not yours to turn. If you find one false, say at which input.
  Laid BY PROGRAM, IN A SANDBOX (cutbox-rows.mjs): the forced cells as the released guide's own fill.sh prints them over the translation de356b83194a7d5a… (all of the seat's roots in one cut). By AI agents, Wed Nov 11 2026. No macro, syntax, notation, axiom, sorry.
-/
import Derived.Test.YtcnmmnhlhenifaaChecked
import GoSem.Claim
import GoSem.ClaimJoined
import GoSem.ClaimMapViews
import Derived.JoinedTies
import Derived.KernelRfl
namespace Go.Proofs.Ytcnmmnhlhenifaa
/- THE CELL 'sum', in the pinned program and in every row, IS THE sha256 OF THE DUMP (.gsa) THAT YtcnmmnhlhenifaaProg.lean LOADS. Nothing in Lean hashes anything: it is a label: what it is worth is what the hold of that sum in a sandbox is worth. -/
noncomputable def Try.pinned : Pinned := { name := "ytcnmmnhlhenifaa", sum := "de356b83194a7d5a69f78d2410c728bce9de69cdc3f7d4a716024f5aa132bb67", checked := Try.checked }
namespace Rows
def none {H : Type} : Left H := { results := [], args := [] }

/-- 'garboardlaw11.BookMoves': WHATEVER THE INPUT: true; the input reads as it did. -/
def bookMovesSpec : ChangeSpec := { name := "bookMoves", fn := fun _ => fun
  | [d] => { results := [.lit (.bool true)], args := [d] }
  | _ => none }
def bookMovesRow : OpenClaim := { program := "ytcnmmnhlhenifaa", sum := "de356b83194a7d5a69f78d2410c728bce9de69cdc3f7d4a716024f5aa132bb67", func := "garboard/garboardlaw11.BookMoves", spec := "bookMoves", inPlace := ["internal/reflectlite.ValueOf", "internal/reflectlite.Swapper", "(internal/reflectlite.Value).Len"], unfollowed := true, recurses := true, plainKeys := false, apart := false }
def BookMovesSaid : Prop := bookMovesRow.holds Try.pinned (OpenSpec.ofChange bookMovesSpec)

/-- ITS FALSE NEIGHBOUR: 'it returns false'. Refute it at one input. -/
def bookMovesWrong : ChangeSpec := { name := "bookMoves", fn := fun _ => fun
  | [d] => { results := [.lit (.bool false)], args := [d] }
  | _ => none }
def BookMovesWrongFalsely : Prop := bookMovesRow.holds Try.pinned (OpenSpec.ofChange bookMovesWrong)

/-- 'garboardlaw11.BookSums': WHATEVER THE INPUT: true; the input reads as it did. -/
def bookSumsSpec : ChangeSpec := { name := "bookSums", fn := fun _ => fun
  | [d1, d2] => { results := [.lit (.bool true)], args := [d1, d2] }
  | _ => none }
def bookSumsRow : OpenClaim := { program := "ytcnmmnhlhenifaa", sum := "de356b83194a7d5a69f78d2410c728bce9de69cdc3f7d4a716024f5aa132bb67", func := "garboard/garboardlaw11.BookSums", spec := "bookSums", inPlace := ["internal/reflectlite.ValueOf", "internal/reflectlite.Swapper", "(internal/reflectlite.Value).Len"], unfollowed := true, recurses := true, plainKeys := false, apart := false }
def BookSumsSaid : Prop := bookSumsRow.holds Try.pinned (OpenSpec.ofChange bookSumsSpec)

/-- ITS FALSE NEIGHBOUR: 'it returns false'. Refute it at one input. -/
def bookSumsWrong : ChangeSpec := { name := "bookSums", fn := fun _ => fun
  | [d1, d2] => { results := [.lit (.bool false)], args := [d1, d2] }
  | _ => none }
def BookSumsWrongFalsely : Prop := bookSumsRow.holds Try.pinned (OpenSpec.ofChange bookSumsWrong)

/-- 'garboardlaw11.BookMay': WHATEVER THE INPUT: true; the input reads as it did. -/
def bookMaySpec : ChangeSpec := { name := "bookMay", fn := fun _ => fun
  | [d1, d2, d3] => { results := [.lit (.bool true)], args := [d1, d2, d3] }
  | _ => none }
def bookMayRow : OpenClaim := { program := "ytcnmmnhlhenifaa", sum := "de356b83194a7d5a69f78d2410c728bce9de69cdc3f7d4a716024f5aa132bb67", func := "garboard/garboardlaw11.BookMay", spec := "bookMay", inPlace := ["internal/reflectlite.ValueOf", "internal/reflectlite.Swapper", "(internal/reflectlite.Value).Len"], unfollowed := true, recurses := true, plainKeys := false, apart := false }
def BookMaySaid : Prop := bookMayRow.holds Try.pinned (OpenSpec.ofChange bookMaySpec)

/-- ITS FALSE NEIGHBOUR: 'it returns false'. Refute it at one input. -/
def bookMayWrong : ChangeSpec := { name := "bookMay", fn := fun _ => fun
  | [d1, d2, d3] => { results := [.lit (.bool false)], args := [d1, d2, d3] }
  | _ => none }
def BookMayWrongFalsely : Prop := bookMayRow.holds Try.pinned (OpenSpec.ofChange bookMayWrong)

/-- 'garboardlaw11.BookFeeds': WHATEVER THE INPUT: true; the input reads as it did. -/
def bookFeedsSpec : ChangeSpec := { name := "bookFeeds", fn := fun _ => fun
  | [d1, d2, d3] => { results := [.lit (.bool true)], args := [d1, d2, d3] }
  | _ => none }
def bookFeedsRow : OpenClaim := { program := "ytcnmmnhlhenifaa", sum := "de356b83194a7d5a69f78d2410c728bce9de69cdc3f7d4a716024f5aa132bb67", func := "garboard/garboardlaw11.BookFeeds", spec := "bookFeeds", inPlace := ["internal/reflectlite.ValueOf", "internal/reflectlite.Swapper", "(internal/reflectlite.Value).Len"], unfollowed := true, recurses := true, plainKeys := false, apart := false }
def BookFeedsSaid : Prop := bookFeedsRow.holds Try.pinned (OpenSpec.ofChange bookFeedsSpec)

/-- ITS FALSE NEIGHBOUR: 'it returns false'. Refute it at one input. -/
def bookFeedsWrong : ChangeSpec := { name := "bookFeeds", fn := fun _ => fun
  | [d1, d2, d3] => { results := [.lit (.bool false)], args := [d1, d2, d3] }
  | _ => none }
def BookFeedsWrongFalsely : Prop := bookFeedsRow.holds Try.pinned (OpenSpec.ofChange bookFeedsWrong)

/-- 'garboardlaw11.BookNever': WHATEVER THE INPUT: true; the input reads as it did. -/
def bookNeverSpec : ChangeSpec := { name := "bookNever", fn := fun _ => fun
  | [d1, d2] => { results := [.lit (.bool true)], args := [d1, d2] }
  | _ => none }
def bookNeverRow : OpenClaim := { program := "ytcnmmnhlhenifaa", sum := "de356b83194a7d5a69f78d2410c728bce9de69cdc3f7d4a716024f5aa132bb67", func := "garboard/garboardlaw11.BookNever", spec := "bookNever", inPlace := ["internal/reflectlite.ValueOf", "internal/reflectlite.Swapper", "(internal/reflectlite.Value).Len"], unfollowed := true, recurses := true, plainKeys := false, apart := false }
def BookNeverSaid : Prop := bookNeverRow.holds Try.pinned (OpenSpec.ofChange bookNeverSpec)

/-- ITS FALSE NEIGHBOUR: 'it returns false'. Refute it at one input. -/
def bookNeverWrong : ChangeSpec := { name := "bookNever", fn := fun _ => fun
  | [d1, d2] => { results := [.lit (.bool false)], args := [d1, d2] }
  | _ => none }
def BookNeverWrongFalsely : Prop := bookNeverRow.holds Try.pinned (OpenSpec.ofChange bookNeverWrong)

/- THE SECOND FORM. 'bulk': how many values and letters a reading holds, each counted each time it is reached (what is shared counts as often as it is met; a slice's spare places count too). A statement '..UptoSaid' is the law's where the arguments, and the package variables that the reading takes, are together of bulk at most 1048576: NARROWER than '..Said'. Prove '..Said' where nothing that the law and all that it calls make is longer than what came in: it says more and counts as full. Else prove '..UptoSaid'. A law counts once. -/
mutual
def uptoBulk {H : Type} : DataW H → Nat
  | .lit (.string bytes) => bytes.length + 1
  | .lit _ => 1
  | .nil => 1
  | .ptr d => uptoBulk d + 1
  | .slice elems spare => uptoBulkAll elems + uptoBulkAll spare + 1
  | .agg parts => uptoBulkAll parts + 1
  | .iface _ d => uptoBulk d + 1
  | .map entries => uptoBulkEntries entries + 1
  | .held _ => 1
def uptoBulkAll {H : Type} : List (DataW H) → Nat
  | [] => 0
  | d :: r => uptoBulk d + uptoBulkAll r
def uptoBulkEntries {H : Type} : List (Lit × DataW H) → Nat
  | [] => 0
  | x :: r => uptoBulkEntry x + uptoBulkEntries r
def uptoBulkEntry {H : Type} : Lit × DataW H → Nat
  | (.string bytes, d) => bytes.length + uptoBulk d + 1
  | (_, d) => uptoBulk d + 1
 end
def uptoSmall : (H : Type) → List (DataW H) → Bool := fun _ ds => decide (uptoBulkAll ds ≤ 1048576)
def OpenSpec.upto (s : _root_.Go.ChangeSpec) : _root_.Go.OpenSpec := { _root_.Go.OpenSpec.ofChange s with cond := some uptoSmall }

/-- 'garboardlaw11.BookMoves', WHERE WHAT IT READS IS OF BULK AT MOST 1048576: true; the input reads as it did. -/
def bookMovesUptoRow : OpenClaim := { program := "ytcnmmnhlhenifaa", sum := "de356b83194a7d5a69f78d2410c728bce9de69cdc3f7d4a716024f5aa132bb67", func := "garboard/garboardlaw11.BookMoves", spec := "bookMoves", inPlace := ["internal/reflectlite.ValueOf", "internal/reflectlite.Swapper", "(internal/reflectlite.Value).Len"], unfollowed := true, recurses := true, plainKeys := false, apart := false, narrowed := true }
def BookMovesUptoSaid : Prop := bookMovesUptoRow.holds Try.pinned (OpenSpec.upto bookMovesSpec)

/-- 'garboardlaw11.BookSums', WHERE WHAT IT READS IS OF BULK AT MOST 1048576: true; the input reads as it did. -/
def bookSumsUptoRow : OpenClaim := { program := "ytcnmmnhlhenifaa", sum := "de356b83194a7d5a69f78d2410c728bce9de69cdc3f7d4a716024f5aa132bb67", func := "garboard/garboardlaw11.BookSums", spec := "bookSums", inPlace := ["internal/reflectlite.ValueOf", "internal/reflectlite.Swapper", "(internal/reflectlite.Value).Len"], unfollowed := true, recurses := true, plainKeys := false, apart := false, narrowed := true }
def BookSumsUptoSaid : Prop := bookSumsUptoRow.holds Try.pinned (OpenSpec.upto bookSumsSpec)

/-- 'garboardlaw11.BookMay', WHERE WHAT IT READS IS OF BULK AT MOST 1048576: true; the input reads as it did. -/
def bookMayUptoRow : OpenClaim := { program := "ytcnmmnhlhenifaa", sum := "de356b83194a7d5a69f78d2410c728bce9de69cdc3f7d4a716024f5aa132bb67", func := "garboard/garboardlaw11.BookMay", spec := "bookMay", inPlace := ["internal/reflectlite.ValueOf", "internal/reflectlite.Swapper", "(internal/reflectlite.Value).Len"], unfollowed := true, recurses := true, plainKeys := false, apart := false, narrowed := true }
def BookMayUptoSaid : Prop := bookMayUptoRow.holds Try.pinned (OpenSpec.upto bookMaySpec)

/-- 'garboardlaw11.BookFeeds', WHERE WHAT IT READS IS OF BULK AT MOST 1048576: true; the input reads as it did. -/
def bookFeedsUptoRow : OpenClaim := { program := "ytcnmmnhlhenifaa", sum := "de356b83194a7d5a69f78d2410c728bce9de69cdc3f7d4a716024f5aa132bb67", func := "garboard/garboardlaw11.BookFeeds", spec := "bookFeeds", inPlace := ["internal/reflectlite.ValueOf", "internal/reflectlite.Swapper", "(internal/reflectlite.Value).Len"], unfollowed := true, recurses := true, plainKeys := false, apart := false, narrowed := true }
def BookFeedsUptoSaid : Prop := bookFeedsUptoRow.holds Try.pinned (OpenSpec.upto bookFeedsSpec)

/-- 'garboardlaw11.BookNever', WHERE WHAT IT READS IS OF BULK AT MOST 1048576: true; the input reads as it did. -/
def bookNeverUptoRow : OpenClaim := { program := "ytcnmmnhlhenifaa", sum := "de356b83194a7d5a69f78d2410c728bce9de69cdc3f7d4a716024f5aa132bb67", func := "garboard/garboardlaw11.BookNever", spec := "bookNever", inPlace := ["internal/reflectlite.ValueOf", "internal/reflectlite.Swapper", "(internal/reflectlite.Value).Len"], unfollowed := true, recurses := true, plainKeys := false, apart := false, narrowed := true }
def BookNeverUptoSaid : Prop := bookNeverUptoRow.holds Try.pinned (OpenSpec.upto bookNeverSpec)

end Rows
end Go.Proofs.Ytcnmmnhlhenifaa
