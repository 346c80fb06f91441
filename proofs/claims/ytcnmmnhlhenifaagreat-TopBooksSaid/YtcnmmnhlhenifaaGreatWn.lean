/- Frames and entries are read as they were: mathematics of layer 9's laws. Any seat. -/
import Derived.Test.YtcnmmnhlhenifaaGreatWm
namespace Go.Proofs.YtcnmmnhlhenifaaGreat
open Go.RowKit
set_option maxRecDepth 100000
set_option linter.unusedSimpArgs false
set_option linter.unusedVariables false
section
variable {f g : Fm} {x y : En} {b r A B C : List UInt8} {n : Int} {k : Nat}
def tailN (x : En) (r : List UInt8) : List UInt8 := byteU x.po.n :: (bigL x.po.t.e ++ (bigL x.po.t.r ++ (byteU x.edge :: byteU x.peer :: (bigL x.n ++ (List.replicate 11 0 ++ r)))))
theorem entry_len_le (x : En) : (entryL x).length ≤ 63 := by
  unfold entryL; split
  · rw [bytes_len]; omega
  · simp
end
end Go.Proofs.YtcnmmnhlhenifaaGreat
