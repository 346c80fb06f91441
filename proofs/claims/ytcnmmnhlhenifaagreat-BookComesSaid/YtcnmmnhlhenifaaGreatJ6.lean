/- Put together: Br, Bq. -/
import Derived.Test.YtcnmmnhlhenifaaGreatJ5
import Derived.Test.YtcnmmnhlhenifaaGreatWr
import Derived.Test.YtcnmmnhlhenifaaGreatBw
import Derived.Test.YtcnmmnhlhenifaaGreatHr
import Derived.Test.YtcnmmnhlhenifaaGreatJ3
namespace Go.Proofs.YtcnmmnhlhenifaaGreat
open Go.RowKit
set_option maxRecDepth 100000
set_option linter.unusedSimpArgs false
set_option linter.unusedVariables false
end Go.Proofs.YtcnmmnhlhenifaaGreat
namespace Go.Proofs.YtcnmmnhlhenifaaGreat
open Go.RowKit
set_option maxRecDepth 100000
set_option linter.unusedSimpArgs false
set_option linter.unusedVariables false
section
variable (r : Nat) (fp : List Nat) (n : Int) (ev : Value) (B : Bags) (E : List Ed) (en : En) (w : World) (h : RBk r fp n ev B w) (hE : RdG w ev E) (hlE : E.length ≤ 20000000) (hz : SmB B 1000) (hf : ∀ i : Nat, i < E.length → 0 ≤ (atG E i).f ∧ (atG E i).f < n)
include h hE hlE hz hf
end
end Go.Proofs.YtcnmmnhlhenifaaGreat
