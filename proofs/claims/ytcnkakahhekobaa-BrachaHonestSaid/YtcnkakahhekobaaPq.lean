/- Points: a node and a stamp. Any seat. -/
import Derived.Test.YtcnkakahhekobaaSm
namespace Go.Proofs.Ytcnkakahhekobaa
open Go

structure Po where
  n : Int
  t : St
deriving DecidableEq
def Po.zero : Po := ⟨0, St.zero⟩
end Go.Proofs.Ytcnkakahhekobaa
