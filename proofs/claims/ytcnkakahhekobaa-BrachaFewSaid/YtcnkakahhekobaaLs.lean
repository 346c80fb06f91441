/- Opening of a slice of stamps that came in. Any seat. -/
import Derived.Test.YtcnkakahhekobaaLi
import Derived.Test.YtcnkakahhekobaaSt
import Derived.Deep.Slices
namespace Go.Proofs.Ytcnkakahhekobaa
open Go.ChangeShapes Go.WideShapes Go.ChangeAt Go.RowKit Go.Joins Go.Deep
set_option maxRecDepth 100000
set_option linter.unusedSimpArgs false
set_option linter.unusedVariables false

section
variable {H : Type} {enc : TypeId × Value → H} {W : World}
theorem cells_two {w : World} {b : Nat} {a : Addr} {c0 c1 : Value} (h : w.cells? b a 2 = some [c0, c1]) : w.cell? (a.add 0) = some c0 ∧ w.cell? (a.add 1) = some c1 := by
  unfold World.cells? at h
  split at h
  · cases h0 : w.cell? (a.add 0) with
    | none => simp [List.range_succ, h0] at h
    | some x0 =>
      cases h1 : w.cell? (a.add 1) with
      | none => simp [List.range_succ, h0, h1] at h
      | some x1 =>
        simp [List.range_succ, h0, h1] at h
        exact ⟨by rw [h.1], by rw [h.2]⟩
  · cases h
theorem cell_spot {w : World} {a : Addr} {v : Value} (h : w.cell? a = some v) : a.spot = none ∧ a.block < w.heap.size := by
  unfold World.cell? at h
  split at h
  · rename_i c e f hh
    split at h
    · cases h
    · rename_i hs
      exact ⟨by simpa using hs, (Array.getElem?_eq_some_iff.1 hh).1⟩
  · cases h
theorem add_lit {a : Addr} (h : a.spot = none) (k : Nat) : a.add k = ⟨a.block, a.off + k, none⟩ := by
  obtain ⟨b, o, s⟩ := a
  subst h
  exact addr_add b o k
theorem choose_ltS {n : Nat} {p : Nat → St → Prop} (h : ∀ i, i < n → ∃ s, p i s) : ∃ f : Nat → St, ∀ i, i < n → p i (f i) := by
  refine ⟨fun i => if hi : i < n then Classical.choose (h i hi) else St.zero, fun i hi => ?_⟩
  simp only [hi, dif_pos]
  exact Classical.choose_spec (h i hi)
theorem openL {t e : TypeId} {ti : TypeId} {f0 f1 : Field} (hut : Try.prog.underlying t = some (.slice e)) (hu : Try.prog.underlying e = some (.struct #[f0, f1])) (hone : oneCellFields Try.prog #[f0, f1] = true) (hC : Try.prog.cellsOf e = 2)
    (h0 : f0.type = ti) (h1 : f1.type = ti) (hi : Try.prog.underlying ti = some (.int .i64)) {v : Value} {d : DataW H} {ps : List MemPlace} {base : Nat} (hval : Value.okWide Try.prog W .any base t v) (h : DataW.Trod enc Try.prog W 0 (fun _ => true) true t v d ps) :
    ∃ L : List St, RdS W v L ∧ ∀ s ∈ L, s.I := by
  obtain ⟨a0, len, cap, rfl⟩ := okWide_slice hut hval
  obtain ⟨fuel, hf⟩ := h
  rcases open_slice hut hf with ⟨hcs, _⟩ | ⟨a, len', cap', m, n, D, Pl, hcs, _, hl, hm, hmm, _, hel⟩
  · have hv : Value.slice a0 len cap = .slice none 0 0 := by simpa [Value.cells] using hcs
    rw [hv]
    exact ⟨[], ⟨rfl, none, 0, rfl, Nat.le_refl _, Nat.zero_le _, fun h => absurd h (by simp)⟩, by simp⟩
  · have hv : Value.slice a0 len cap = .slice (some a) len' cap' := by simpa [Value.cells] using hcs
    rw [hv]
    have hel2 : ∀ i, i < len' → ∃ s : St, s.I ∧ W.cell? (a.add (i * 2)) = some (.int .i64 s.e) ∧ W.cell? (a.add (i * 2 + 1)) = some (.int .i64 s.r) := fun i hil => by
      obtain ⟨cs', hc, htr⟩ := hel i (by rw [hmm]; split <;> omega)
      rw [hC] at hc
      obtain ⟨s, hs, hI⟩ := pair_cells hu hone hC h0 h1 hi htr
      subst hs
      have h2 := cells_two hc
      rw [add_add, add_add] at h2
      exact ⟨s, hI, h2.1, h2.2⟩
    obtain ⟨f, hf⟩ := choose_ltS hel2
    refine ⟨(List.range len').map f, ?_, fun s hs => ?_⟩
    · have hll : ((List.range len').map f).length = len' := by simp
      unfold RdS
      rw [hll]
      refine ⟨by rw [cS_len, hll], some a, cap', rfl, hl, hm, fun hp => ?_⟩
      have h3 := cell_spot (hf 0 hp).2.1
      rw [show a.add (0 * 2) = a from by simp [Addr.add]] at h3
      refine ⟨a.block, a.off, by cases a; simp_all, h3.2, fun j u hj => ?_⟩
      have hj2 : j < len' * 2 := by
        have := (List.getElem?_eq_some_iff.1 hj).1
        rw [cS_len, hll] at this; exact this
      have hc := cS_at (L := (List.range len').map f) (i := j / 2) (by rw [hll]; omega)
      have hat : atS ((List.range len').map f) (j / 2) = f (j / 2) := by
        rw [atS_eq (by rw [hll]; omega)]; simp
      rw [hat] at hc
      have hg : (cS ((List.range len').map f))[j / 2 * 2 + j % 2]? = [Value.int .i64 (f (j / 2)).e, .int .i64 (f (j / 2)).r][j % 2]? := by
        rw [← hc]; simp [Nat.mod_lt j (show 0 < 2 by omega)]
      rw [show j / 2 * 2 + j % 2 = j by omega, hj] at hg
      have hcell := hf (j / 2) (by omega)
      have e : ∀ k, W.cell? (a.add k) = W.cell? ⟨a.block, a.off + k, none⟩ := fun k => by rw [add_lit h3.1]
      rw [e, e] at hcell
      rcases (show j % 2 = 0 ∨ j % 2 = 1 by omega) with h5 | h5
      · rw [h5] at hg
        have : u = .int .i64 (f (j / 2)).e := by simpa using hg
        rw [this, show j = j / 2 * 2 by omega]
        have := hcell.2.1
        rwa [show j / 2 * 2 / 2 = j / 2 by omega]
      · rw [h5] at hg
        have : u = .int .i64 (f (j / 2)).r := by simpa using hg
        rw [this]
        have := hcell.2.2
        rwa [show j / 2 * 2 + 1 = j by omega] at this
    · obtain ⟨i, hi, rfl⟩ := List.mem_map.1 hs
      exact (hf i (by simpa using hi)).1
end
theorem rdI : Try.prog.readableRec 3 = true ∧ 3 < Try.prog.types.size := ⟨by kernel_rfl, of_decide_eq_true (by kernel_rfl)⟩
end Go.Proofs.Ytcnkakahhekobaa
