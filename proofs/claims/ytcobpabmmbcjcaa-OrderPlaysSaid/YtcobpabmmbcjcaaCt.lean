/- Counts of stamps as elements. Any seat with stamps in it. -/
import Derived.Test.YtcobpabmmbcjcaaJ2
namespace Go.Proofs.Ytcobpabmmbcjcaa
open Go.RowKit
set_option maxRecDepth 100000
set_option linter.unusedSimpArgs false
set_option linter.unusedVariables false
abbrev Ct := St × Int
def encC : Enc Ct := ⟨3, fun p => [.int .i64 p.1.e, .int .i64 p.1.r, .int .i64 p.2], (St.zero, 0), fun _ => rfl, fun a v h => by
  simp only [List.mem_cons, List.not_mem_nil, or_false] at h
  rcases h with rfl | rfl | rfl <;> rfl⟩
def cC (L : List Ct) : List Value := cE encC L
def atC (L : List Ct) (i : Nat) : Ct := atE encC L i
abbrev RdC (w : World) (v : Value) (L : List Ct) : Prop := RdV w 3 v L.length (cC L)
theorem blk_loc {p : Nat} {t : TypeId} {cs : Array Value} : Loc [p] (fun w => Blk w p t cs) := fun _ _ hk h =>
  ⟨(hk p (by simp)).trans h, fun g hg => by simp only [List.mem_singleton] at hg; subst hg; exact Blk.lt h⟩
end Go.Proofs.Ytcobpabmmbcjcaa
