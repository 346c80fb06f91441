/- A slice with something in it is not nil; a row is apart from what else there is. Any seat. -/
import Derived.Test.YtcnkakahhekobaaPk
import Derived.Lib.SliceRun
namespace Go.Proofs.Ytcnkakahhekobaa
open Go.RowKit
set_option maxRecDepth 100000
set_option linter.unusedSimpArgs false
set_option linter.unusedVariables false

section
variable {P : Program} {o : Oper} {a : Act} {x y : Operand} {t t' e : TypeId} {v : Value}
theorem pu_eqlZ {w : World} {m n : Nat} {xs : List Value} (ho : o.op = .binOp .eql t x y t') (hx : a.eval x = v) (hy : a.eval y = .slice none 0 0) (ht : P.underlying t = some (.slice e)) (hr : RdV w m v n xs) (hn : 0 < n) : Pure P o a (.bool false) := fun w' => by
  obtain ⟨c, hv, _⟩ := hr.form hn
  rw [hv] at hx
  have hq := Lib.run_eql_slice_nil (P := P) w' t e (some ⟨gof v, oof v, none⟩) n c 0 0 ht
  simp only [execOp, ho, hx, hy]
  simp [go_sem, ht, hq]
end
section
variable {R : List Nat} {w w0 : World} {B : List Ent} {i j m k : Nat} {t : TypeId} {v : Value} {xs : List Value} {y : Ent}
theorem Mm.rowFar (M : Mm R w0 w B) (hi : B[i]? = some (.row t m v k xs)) (hj : B[j]? = some y) (hne : i ≠ j) : 0 < k → ¬ gof v ∈ y.fp := fun h =>
  M.apart hi hj hne (gof v) (by show gof v ∈ v.ownBlock.toList; rw [(own_spot (M.ow hi) h).1]; simp)
end
end Go.Proofs.Ytcnkakahhekobaa
