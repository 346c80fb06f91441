/- What the reference's Sum makes of bytes. Any seat with both in it. -/
import Derived.Test.YtjelhljgeinodaaHb
import Derived.Test.YtjelhljgeinodaaHc
namespace Go.Proofs.Ytjelhljgeinodaa
open Go.RowKit
set_option maxRecDepth 100000
set_option linter.unusedSimpArgs false
set_option linter.unusedVariables false

theorem rsum_any (L : List UInt8) (v : Value) (n : Nat) (w : World) (hr : RdV w 1 v n (cU L)) (hn : L.length = n) (hlen : n ≤ 800000) :
    Calls Try.prog 21 #[v] w fun e w' => e = .returned (.agg (List.toArray (l32 (sumB L)))) ∧ Below w.heap.size w w' := by
  obtain ⟨A, c, rfl⟩ : ∃ A c, v = .slice A n c := by obtain ⟨_, A, c, h, _⟩ := hr; exact ⟨A, c, h⟩
  obtain ⟨h1, h2⟩ := natL_rd hr hn
  have h := Hs.rsum_any (natL L) A c w (natL_w8 L) h1 (by rw [natL_len, hn]; omega)
  rw [natL_len, hn, sumB_cells] at h
  exact h
end Go.Proofs.Ytjelhljgeinodaa
