/- What both Sums make of bytes, as the generator's contracts tell it. Any seat with hash.Sum and the reference's in it. -/
import Derived.Test.YtjelhljgeinodaaHa
import Derived.Test.YtjelhljgeinodaaUr
namespace Go.Proofs.Ytjelhljgeinodaa
open Go.RowKit
set_option maxRecDepth 100000
set_option linter.unusedSimpArgs false
set_option linter.unusedVariables false

def natL (L : List UInt8) : List Nat := L.map (·.toNat)
theorem natL_len (L : List UInt8) : (natL L).length = L.length := List.length_map _
theorem natL_w8 (L : List UInt8) : Hs.W8 (natL L) := fun a ha => by
  obtain ⟨b, _, rfl⟩ := List.mem_map.1 ha
  exact b.toNat_lt
theorem natL_at {L : List UInt8} {j : Nat} (h : j < L.length) : ((Hs.at0 (natL L) j : Nat) : Int) = u8 (atU L j) := by
  rw [Hs.at0_eq (by rw [natL_len]; exact h), atU_eq h]
  simp [natL, u8]
theorem natL_rd {L : List UInt8} {w : World} {A : Option Addr} {c n : Nat} (hr : RdV w 1 (.slice A n c) n (cU L)) (hn : L.length = n) : Hs.Rd w w.heap.size A (natL L) ∧ n ≤ c := by
  obtain ⟨hl, A', c', he, hc, hm, h⟩ := hr
  injection he with h1 _ h2
  subst h1 h2
  refine ⟨fun h0 => ?_, hc⟩
  rw [natL_len, hn] at h0
  obtain ⟨g, off, rfl, hg, hcell⟩ := h h0
  refine ⟨⟨g, off, none⟩, rfl, hg, fun j hj => ?_⟩
  rw [natL_len] at hj
  rw [natL_at hj, addr_add]
  have := cU_at hj
  rw [Nat.mul_one] at this
  exact hcell j _ this
theorem sumN_lt (l : List Nat) : ∀ a ∈ Hs.sumN l, a < 256 := by
  intro a ha
  simp only [Hs.sumN, Hs.finishN, Hs.bytesN, List.mem_map] at ha
  obtain ⟨i, _, rfl⟩ := ha
  exact Nat.mod_lt _ (by omega)
/-- The hash of bytes. -/
def sumB (L : List UInt8) : B32 := ⟨(Hs.sumN (natL L)).map UInt8.ofNat, by rw [List.length_map]; exact Hs.bytesN_length _⟩
theorem sumB_cells (L : List UInt8) : Hs.B8 (Hs.sumN (natL L)) = List.toArray (l32 (sumB L)) := by
  rw [l32_eq, cU_map]
  unfold Hs.B8 sumB
  congr 1
  rw [List.map_map]
  refine List.map_congr_left fun a ha => ?_
  have := sumN_lt _ a ha
  simp only [Function.comp, u8]
  rw [UInt8.toNat_ofNat', Nat.mod_eq_of_lt (by omega)]
theorem sum_any (L : List UInt8) (v : Value) (n : Nat) (w : World) (hr : RdV w 1 v n (cU L)) (hn : L.length = n) (hlen : n ≤ 800000) :
    Calls Try.prog 19 #[v] w fun e w' => e = .returned (.agg (List.toArray (l32 (sumB L)))) ∧ Below w.heap.size w w' := by
  obtain ⟨A, c, rfl⟩ : ∃ A c, v = .slice A n c := by obtain ⟨_, A, c, h, _⟩ := hr; exact ⟨A, c, h⟩
  obtain ⟨h1, h2⟩ := natL_rd hr hn
  have h := Hs.sum_any (natL L) A c w (natL_w8 L) h1 (by rw [natL_len, hn]; exact h2) (by rw [natL_len, hn]; omega)
  rw [natL_len, hn, sumB_cells] at h
  exact h
end Go.Proofs.Ytjelhljgeinodaa
