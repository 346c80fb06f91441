/- Frames and entries that are read piece by piece: mathematics. Any seat. -/
import Derived.Test.YtcnmmnhlhenifaaGreatWn
import Derived.Test.YtcnmmnhlhenifaaGreatJ4
namespace Go.Proofs.YtcnmmnhlhenifaaGreat
open Go.RowKit
set_option maxRecDepth 100000
set_option linter.unusedSimpArgs false
set_option linter.unusedVariables false
section
variable {L X : List UInt8} {s k t : Nat}
def sparesL (L : List UInt8) : Prop := ∀ k, k < 11 → atU ((L.drop 52).take 11) k = 0
instance (L : List UInt8) : Decidable (sparesL L) := inferInstanceAs (Decidable (∀ k, k < 11 → atU ((L.drop 52).take 11) k = 0))
end
end Go.Proofs.YtcnmmnhlhenifaaGreat
