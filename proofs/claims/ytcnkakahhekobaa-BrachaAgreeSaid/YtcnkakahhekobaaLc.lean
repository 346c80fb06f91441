/- Opening of arguments, by the shapes of their types: structs, slices of structs, of ints. Any seat. -/
import Derived.Test.YtcnkakahhekobaaLs
import Derived.Test.YtcnkakahhekobaaEn
namespace Go.Proofs.Ytcnkakahhekobaa
open Go.ChangeShapes Go.WideShapes Go.ChangeAt Go.RowKit Go.Joins Go.Deep
set_option maxRecDepth 100000
set_option linter.unusedSimpArgs false
set_option linter.unusedVariables false

/-- What reads as type t are the cells f of some a. -/
def Opens (P : Program) (t : TypeId) {α : Type} (f : α → List Value) (I : α → Prop) : Prop :=
  ∀ {H : Type} {enc : TypeId × Value → H} {W : World} {base : Nat} {sp : Nat → Bool} {held : Bool} {fuel : Nat} {cs : List Value} {x : DataW H × List MemPlace}, DataW.trod enc P W base sp held fuel t cs = some x → ∃ a, cs = f a ∧ I a
section
variable {P : Program} {t : TypeId} {α β : Type}
theorem opens_int (h : P.underlying t = some (.int .i64)) : Opens P t (fun n : Int => [.int .i64 n]) (fun n => -9223372036854775808 ≤ n ∧ n ≤ 9223372036854775807) := by
  intro H enc W base sp held fuel cs x hx
  obtain ⟨z, e, _, w⟩ := DataW.trod_int h hx
  exact ⟨z, e, wf64 w⟩
theorem opens_struct2 {f0 f1 : Field} {f : α → List Value} {I : α → Prop} {g : β → List Value} {J : β → Prop} {m0 m1 : Nat} (h : P.underlying t = some (.struct #[f0, f1])) (h0 : Opens P f0.type f I) (h1 : Opens P f1.type g J)
    (hl : (((Nat.beq f0.offset 0 && Nat.beq f1.offset m0) && (Nat.beq (P.cellsOf f0.type) m0 && Nat.beq (P.cellsOf f1.type) m1)) && Nat.beq (P.cellsOf t) (m0 + m1)) = true) : Opens P t (fun p : α × β => f p.1 ++ g p.2) (fun p => I p.1 ∧ J p.2) := by
  simp only [Bool.and_eq_true, Nat.beq_eq] at hl
  obtain ⟨⟨⟨o0, o1⟩, c0, c1⟩, c⟩ := hl
  intro H enc W base sp held fuel cs x hx
  obtain ⟨y0, y1, n, _, hlen, hy0, hy1⟩ := trod_struct2 h hx
  rw [o0, c0] at hy0
  rw [o1, c1] at hy1
  obtain ⟨a, ha, hI⟩ := h0 hy0
  obtain ⟨b, hb, hJ⟩ := h1 hy1
  refine ⟨(a, b), ?_, hI, hJ⟩
  show cs = f a ++ g b
  rw [← ha, ← hb, List.drop_zero, List.take_of_length_le (l := cs.drop m0) (by rw [List.length_drop, hlen, c]; omega), List.take_append_drop]
theorem opens_pair {ti : TypeId} {f0 f1 : Field} (hu : Try.prog.underlying t = some (.struct #[f0, f1])) (hone : oneCellFields Try.prog #[f0, f1] = true) (hC : Try.prog.cellsOf t = 2)
    (h0 : f0.type = ti) (h1 : f1.type = ti) (hi : Try.prog.underlying ti = some (.int .i64)) : Opens Try.prog t (fun s : St => [.int .i64 s.e, .int .i64 s.r]) St.I := by
  intro H enc W base sp held fuel cs x hx
  exact pair_cells hu hone hC h0 h1 hi hx
/-- A struct that came in by value. -/
theorem openV {H : Type} {enc : TypeId × Value → H} {W : World} {fs : Array Field} {f : α → List Value} {I : α → Prop} (hu : P.underlying t = some (.struct fs)) (ho : Opens P t f I) {v : Value} {d : DataW H} {ps : List MemPlace} {base : Nat} (hval : Value.okWide P W .any base t v) (h : DataW.Trod enc P W 0 (fun _ => true) true t v d ps) :
    ∃ a, v = .agg (f a).toArray ∧ I a := by
  obtain ⟨cs, rfl, hsz⟩ := okWide_struct hu hval
  obtain ⟨fuel, hf⟩ := h
  obtain ⟨a, ha, hI⟩ := ho hf
  refine ⟨a, ?_, hI⟩
  have ha' : cs.toList = f a := ha
  congr 1
  exact Array.ext' (by simpa using ha')
theorem cells_at {w : World} {b m : Nat} {a : Addr} {cs : List Value} (h : w.cells? b a m = some cs) : ∀ j u, cs[j]? = some u → w.cell? (a.add j) = some u := by
  unfold World.cells? at h
  split at h
  · intro j u hj
    obtain ⟨hl, hu⟩ := List.getElem?_eq_some_iff.1 hj
    have hlen := mapM_some_length h
    have hm : j < m := by rw [List.length_range] at hlen; omega
    have := mapM_some_get h j j (by rw [List.getElem?_range hm])
    rw [hj] at this
    exact this
  · cases h
/-- A slice that came in. -/
theorem openE {H : Type} {enc : TypeId × Value → H} {W : World} {e : TypeId} (E : Enc α) {I : α → Prop} (hut : P.underlying t = some (.slice e)) (hC : P.cellsOf e = E.m) (hpos : 0 < E.m) (ho : Opens P e E.f I) {v : Value} {d : DataW H} {ps : List MemPlace} {base : Nat} (hval : Value.okWide P W .any base t v) (h : DataW.Trod enc P W 0 (fun _ => true) true t v d ps) :
    ∃ L : List α, RdV W E.m v L.length (cE E L) ∧ ∀ s ∈ L, I s := by
  obtain ⟨a0, len, cap, rfl⟩ := okWide_slice hut hval
  obtain ⟨fuel, hf⟩ := h
  rcases open_slice hut hf with ⟨hcs, _⟩ | ⟨a, len', cap', m, n, D, Pl, hcs, _, hl, hm, hmm, _, hel⟩
  · have hv : Value.slice a0 len cap = .slice none 0 0 := by simpa [Value.cells] using hcs
    rw [hv]
    exact ⟨[], ⟨by simp [cE], none, 0, rfl, Nat.le_refl _, Nat.zero_le _, fun h => absurd h (by simp)⟩, by simp⟩
  · have hv : Value.slice a0 len cap = .slice (some a) len' cap' := by simpa [Value.cells] using hcs
    rw [hv]
    have hel2 : ∀ i, i < len' → ∃ s : α, I s ∧ ∀ j u, (E.f s)[j]? = some u → W.cell? (a.add (i * E.m + j)) = some u := fun i hil => by
      obtain ⟨cs', hc, htr⟩ := hel i (by rw [hmm]; split <;> omega)
      rw [hC] at hc
      obtain ⟨s, hs, hI⟩ := ho htr
      subst hs
      refine ⟨s, hI, fun j u hj => ?_⟩
      have := cells_at hc j u hj
      rwa [add_add] at this
    obtain ⟨f, hf⟩ : ∃ f : Nat → α, ∀ i, i < len' → I (f i) ∧ ∀ j u, (E.f (f i))[j]? = some u → W.cell? (a.add (i * E.m + j)) = some u := by
      refine ⟨fun i => if hi : i < len' then Classical.choose (hel2 i hi) else E.z, fun i hi => ?_⟩
      simp only [hi, dif_pos]
      exact Classical.choose_spec (hel2 i hi)
    refine ⟨(List.range len').map f, ?_, fun s hs => ?_⟩
    · have hll : ((List.range len').map f).length = len' := by simp
      rw [hll]
      refine ⟨by rw [cE_len, hll], some a, cap', rfl, hl, hm, fun hp => ?_⟩
      have hx0 : ∃ u, (E.f (f 0))[0]? = some u := ⟨(E.f (f 0))[0]'(by rw [E.len]; exact hpos), List.getElem?_eq_getElem _⟩
      obtain ⟨u0, hu0⟩ := hx0
      have h3 := cell_spot ((hf 0 hp).2 0 u0 hu0)
      rw [show a.add (0 * E.m + 0) = a from by simp [Addr.add]] at h3
      refine ⟨a.block, a.off, by cases a; simp_all, h3.2, fun j u hj => ?_⟩
      have hj2 : j < len' * E.m := by
        have := (List.getElem?_eq_some_iff.1 hj).1
        rw [cE_len, hll] at this; exact this
      have hjd : j / E.m < len' := by rw [Nat.div_lt_iff_lt_mul hpos]; exact hj2
      have hjm : j % E.m < E.m := Nat.mod_lt _ hpos
      have hdm : j / E.m * E.m + j % E.m = j := by rw [Nat.mul_comm]; exact Nat.div_add_mod j E.m
      have hc := cE_at (E := E) (L := (List.range len').map f) (i := j / E.m) (by rw [hll]; exact hjd)
      have hat : atE E ((List.range len').map f) (j / E.m) = f (j / E.m) := by
        rw [atE_eq (by rw [hll]; exact hjd)]; simp
      rw [hat] at hc
      have hg : (E.f (f (j / E.m)))[j % E.m]? = some u := by
        rw [← hc, List.getElem?_take, if_pos hjm, List.getElem?_drop, hdm]; exact hj
      have := (hf (j / E.m) hjd).2 _ u hg
      rw [hdm, add_lit h3.1] at this
      exact this
    · obtain ⟨i, hi, rfl⟩ := List.mem_map.1 hs
      exact (hf i (by simpa using hi)).1
end
section
variable {H : Type} {enc : TypeId × Value → H} {W : World}
theorem openIL {v : Value} {d : DataW H} {ps : List MemPlace} {base : Nat} (hval : Value.okWide Try.prog W .any base 73 v) (h : DataW.Trod enc Try.prog W 0 (fun _ => true) true 73 v d ps) :
    ∃ L : List Int, RdI W v L ∧ ∀ n ∈ L, -9223372036854775808 ≤ n ∧ n ≤ 9223372036854775807 := openE encI Try.underlying73 (by kernel_rfl) (by decide) (opens_int Try.underlying3) hval h
end
theorem rdIL : Try.prog.readableRec 73 = true ∧ 73 < Try.prog.types.size := ⟨by kernel_rfl, of_decide_eq_true (by kernel_rfl)⟩
end Go.Proofs.Ytcnkakahhekobaa
