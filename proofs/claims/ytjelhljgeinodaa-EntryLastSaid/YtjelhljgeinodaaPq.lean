/- Points: a node and a stamp. Any seat. -/
import Derived.Test.YtjelhljgeinodaaSm
namespace Go.Proofs.Ytjelhljgeinodaa
open Go

structure Po where
  n : Int
  t : St
deriving DecidableEq
def Po.zero : Po := ⟨0, St.zero⟩
end Go.Proofs.Ytjelhljgeinodaa
