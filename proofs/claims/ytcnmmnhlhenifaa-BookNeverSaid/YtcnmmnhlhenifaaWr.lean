/- The reference of layer 9. Made by walks/ref09.py. -/
import Derived.Test.YtcnmmnhlhenifaaWm
import Derived.Test.YtcnmmnhlhenifaaJ4
import Derived.Test.YtcnmmnhlhenifaaJ3
import Derived.Test.YtcnmmnhlhenifaaJ2
namespace Go.Proofs.Ytcnmmnhlhenifaa
open Go.RowKit
set_option maxRecDepth 100000
set_option linter.unusedSimpArgs false
set_option linter.unusedVariables false
end Go.Proofs.Ytcnmmnhlhenifaa
