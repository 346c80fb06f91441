/- Small laws of Below, as the other seats' tools have them. -/
import Derived.Test.YtiigbhpnlpbnjaaTl
import Derived.Test.YtiigbhpnlpbnjaaRd
namespace Go.Proofs.Ytiigbhpnlpbnjaa
open Go.RowKit
theorem bth {w W w1 : World} (h0 : Below w.heap.size w W) (h1 : Below W.heap.size W w1) : Below w.heap.size w w1 := h0.trans (h1.mono h0.size)
theorem bel1 (w : World) (x : Obj) : Below w.heap.size w (w.alloc x) := (Below.refl _ _).alloc (Nat.le_refl _) _
theorem bel2 (w : World) (x y : Obj) : Below w.heap.size w ((w.alloc x).alloc y) := (bel1 w x).alloc (by simp) _
end Go.Proofs.Ytiigbhpnlpbnjaa
