/- Points as elements of slices. Any seat. -/
import Derived.Test.YtoadlnnhlnhkjaaPq
import Derived.Test.YtoadlnnhlnhkjaaEn
namespace Go.Proofs.Ytoadlnnhlnhkjaa
open Go.RowKit
set_option maxRecDepth 100000
set_option linter.unusedSimpArgs false
set_option linter.unusedVariables false

def encQ : Enc Po := ⟨3, fun p => [.int .i64 p.n, .int .i64 p.t.e, .int .i64 p.t.r], ⟨0, St.zero⟩, fun _ => rfl, fun a v h => by
  simp only [List.mem_cons, List.not_mem_nil, or_false] at h
  rcases h with rfl | rfl | rfl <;> rfl⟩
def cQ (L : List Po) : List Value := cE encQ L
def atQ (L : List Po) (i : Nat) : Po := atE encQ L i
theorem cQ_at {L : List Po} {i : Nat} (h : i < L.length) : ((cQ L).drop (i * 3)).take 3 = [.int .i64 (atQ L i).n, .int .i64 (atQ L i).t.e, .int .i64 (atQ L i).t.r] := cE_at (E := encQ) h
theorem cQ_app (L K : List Po) : cQ (L ++ K) = cQ L ++ cQ K := cE_app L K
theorem cQ_ones (L : List Po) : ∀ z ∈ cQ L, z.oneCell' = true := cE_ones L
theorem atQ_eq {L : List Po} {i : Nat} (h : i < L.length) : atQ L i = L[i] := atE_eq (E := encQ) h
end Go.Proofs.Ytoadlnnhlnhkjaa
