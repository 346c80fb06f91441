/- Stamps: contracts of package stamp and of the reference. Made by walks/stamp.py. -/
import Derived.Test.YtcnkakahhekobaaFc
import Derived.Test.YtcnkakahhekobaaSm
import Derived.Test.YtcnkakahhekobaaFg
namespace Go.Proofs.Ytcnkakahhekobaa
open Go.RowKit
set_option maxRecDepth 100000
set_option linter.unusedSimpArgs false
set_option linter.unusedVariables false

theorem eqS99 (a b : St) (w : World) : (Op.equalIn 10000 99 (.agg #[.int .i64 a.e, .int .i64 a.r]) (.agg #[.int .i64 b.e, .int .i64 b.r])).run Try.prog w = .ok (decide (a = b)) w := by
  have h : decide (a = b) = (decide (a.e = b.e) && decide (a.r = b.r)) := by
    rw [Bool.eq_iff_iff]; simp [St.eq_iff]
  rw [h]; simp [go_sem]; (repeat' split); (all_goals simp_all)

theorem meet_eq (a b : St) : decide (a.meet b = a) = a.leB b := by
  rw [Bool.eq_iff_iff, St.le_iff]; simp [St.eq_iff, St.meet]; omega

end Go.Proofs.Ytcnkakahhekobaa
