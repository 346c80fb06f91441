/- The reference of layer 6: the closure. Made by walks/ref06c.py. -/
import Derived.Test.YtlgeodnbkndciaaRg
import Derived.Test.YtlgeodnbkndciaaGm
import Derived.Test.YtlgeodnbkndciaaFg
namespace Go.Proofs.Ytlgeodnbkndciaa
open Go.RowKit
set_option maxRecDepth 100000
set_option linter.unusedSimpArgs false
set_option linter.unusedVariables false

end Go.Proofs.Ytlgeodnbkndciaa
