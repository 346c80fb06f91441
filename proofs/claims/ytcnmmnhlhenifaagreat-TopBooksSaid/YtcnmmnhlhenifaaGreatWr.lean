/- The reference of layer 9. Made by walks/ref09.py. -/
import Derived.Test.YtcnmmnhlhenifaaGreatWm
import Derived.Test.YtcnmmnhlhenifaaGreatJ6
import Derived.Test.YtcnmmnhlhenifaaGreatJ2
import Derived.Test.YtcnmmnhlhenifaaGreatJ3
namespace Go.Proofs.YtcnmmnhlhenifaaGreat
open Go.RowKit
set_option maxRecDepth 100000
set_option linter.unusedSimpArgs false
set_option linter.unusedVariables false
end Go.Proofs.YtcnmmnhlhenifaaGreat
