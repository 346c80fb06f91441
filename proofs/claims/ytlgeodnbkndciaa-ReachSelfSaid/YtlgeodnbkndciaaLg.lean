/- Opening of graphs and edges that came in. Any seat with layer 6 in it. -/
import Derived.Test.YtlgeodnbkndciaaLc
import Derived.Test.YtlgeodnbkndciaaGp
import Derived.Deep.Strs
namespace Go.Proofs.Ytlgeodnbkndciaa
open Go.ChangeShapes Go.WideShapes Go.ChangeAt Go.RowKit Go.Joins Go.Deep
set_option maxRecDepth 100000
set_option linter.unusedSimpArgs false
set_option linter.unusedVariables false

def I64 (n : Int) : Prop := -9223372036854775808 ≤ n ∧ n ≤ 9223372036854775807
def Ed.I (x : Ed) : Prop := I64 x.f ∧ I64 x.t ∧ x.p.I
section
variable {P : Program} {t : TypeId} {α β γ : Type}
theorem opens_struct3 {f0 f1 f2 : Field} {f : α → List Value} {I : α → Prop} {g : β → List Value} {J : β → Prop} {h : γ → List Value} {K : γ → Prop} {m0 m1 m2 : Nat} (hu : P.underlying t = some (.struct #[f0, f1, f2])) (h0 : Opens P f0.type f I) (h1 : Opens P f1.type g J) (h2 : Opens P f2.type h K)
    (o0 : f0.offset = 0) (o1 : f1.offset = m0) (o2 : f2.offset = m0 + m1) (c0 : P.cellsOf f0.type = m0) (c1 : P.cellsOf f1.type = m1) (c2 : P.cellsOf f2.type = m2) (c : P.cellsOf t = m0 + m1 + m2) : Opens P t (fun p : α × β × γ => f p.1 ++ (g p.2.1 ++ h p.2.2)) (fun p => I p.1 ∧ J p.2.1 ∧ K p.2.2) := by
  intro H enc W base sp held fuel cs x hx
  obtain ⟨y0, y1, y2, n, _, hlen, hy0, hy1, hy2⟩ := trod_struct3 hu hx
  rw [o0, c0] at hy0
  rw [o1, c1] at hy1
  rw [o2, c2] at hy2
  obtain ⟨a, ha, hI⟩ := h0 hy0
  obtain ⟨b, hb, hJ⟩ := h1 hy1
  obtain ⟨d, hd, hK⟩ := h2 hy2
  refine ⟨(a, b, d), ?_, hI, hJ, hK⟩
  show cs = f a ++ (g b ++ h d)
  rw [← ha, ← hb, ← hd, List.drop_zero, List.take_of_length_le (l := cs.drop (m0 + m1)) (by rw [List.length_drop, hlen, c]; omega), ← List.drop_drop, List.take_append_drop, List.take_append_drop]
/-- A slice in something that came in. -/
theorem openE1 {H : Type} {enc : TypeId × Value → H} {W : World} {e : TypeId} (E : Enc α) {I : α → Prop} (hut : P.underlying t = some (.slice e)) (hC : P.cellsOf e = E.m) (hpos : 0 < E.m) (ho : Opens P e E.f I) {fuel : Nat} {cs : List Value} {x : DataW H × List MemPlace} (hf : DataW.trod enc P W 0 (fun _ => true) true fuel t cs = some x) :
    ∃ (v : Value) (L : List α), cs = [v] ∧ RdV W E.m v L.length (cE E L) ∧ ∀ s ∈ L, I s := by
  rcases open_slice hut hf with ⟨hcs, _⟩ | ⟨a, len', cap', m, n, D, Pl, hcs, _, hl, hm, hmm, _, hel⟩
  · exact ⟨_, [], hcs, ⟨by simp [cE], none, 0, rfl, Nat.le_refl _, Nat.zero_le _, fun h => absurd h (by simp)⟩, by simp⟩
  · have hel2 : ∀ i, i < len' → ∃ s : α, I s ∧ ∀ j u, (E.f s)[j]? = some u → W.cell? (a.add (i * E.m + j)) = some u := fun i hil => by
      obtain ⟨cs', hc, htr⟩ := hel i (by rw [hmm]; split <;> omega)
      rw [hC] at hc
      obtain ⟨s, hs, hI⟩ := ho htr
      subst hs
      refine ⟨s, hI, fun j u hj => ?_⟩
      have := cells_at hc j u hj
      rwa [add_add] at this
    obtain ⟨f, hf⟩ : ∃ f : Nat → α, ∀ i, i < len' → I (f i) ∧ ∀ j u, (E.f (f i))[j]? = some u → W.cell? (a.add (i * E.m + j)) = some u := by
      refine ⟨fun i => if hi : i < len' then Classical.choose (hel2 i hi) else E.z, fun i hi => ?_⟩
      simp only [hi, dif_pos]
      exact Classical.choose_spec (hel2 i hi)
    refine ⟨_, (List.range len').map f, hcs, ?_, fun s hs => ?_⟩
    · have hll : ((List.range len').map f).length = len' := by simp
      rw [hll]
      refine ⟨by rw [cE_len, hll], some a, cap', rfl, hl, hm, fun hp => ?_⟩
      have hx0 : ∃ u, (E.f (f 0))[0]? = some u := ⟨(E.f (f 0))[0]'(by rw [E.len]; exact hpos), List.getElem?_eq_getElem _⟩
      obtain ⟨u0, hu0⟩ := hx0
      have h3 := cell_spot ((hf 0 hp).2 0 u0 hu0)
      rw [show a.add (0 * E.m + 0) = a from by simp [Addr.add]] at h3
      refine ⟨a.block, a.off, by cases a; simp_all, h3.2, fun j u hj => ?_⟩
      have hj2 : j < len' * E.m := by
        have := (List.getElem?_eq_some_iff.1 hj).1
        rw [cE_len, hll] at this; exact this
      have hjd : j / E.m < len' := by rw [Nat.div_lt_iff_lt_mul hpos]; exact hj2
      have hjm : j % E.m < E.m := Nat.mod_lt _ hpos
      have hdm : j / E.m * E.m + j % E.m = j := by rw [Nat.mul_comm]; exact Nat.div_add_mod j E.m
      have hc := cE_at (E := E) (L := (List.range len').map f) (i := j / E.m) (by rw [hll]; exact hjd)
      have hat : atE E ((List.range len').map f) (j / E.m) = f (j / E.m) := by
        rw [atE_eq (by rw [hll]; exact hjd)]; simp
      rw [hat] at hc
      have hg : (E.f (f (j / E.m)))[j % E.m]? = some u := by
        rw [← hc, List.getElem?_take, if_pos hjm, List.getElem?_drop, hdm]; exact hj
      have := (hf (j / E.m) hjd).2 _ u hg
      rw [hdm, add_lit h3.1] at this
      exact this
    · obtain ⟨i, hi, rfl⟩ := List.mem_map.1 hs
      exact (hf i (by simpa using hi)).1
end
theorem opensEd : Opens Try.prog 46 encG.f Ed.I := by
  intro H enc W base sp held fuel cs x hx
  obtain ⟨p, hp, hI⟩ := opens_struct3 (m0 := 1) (m1 := 1) (m2 := 2) Try.underlying46 (opens_int Try.underlying3) (opens_int Try.underlying3) (opens_pair Try.underlying44 (by kernel_rfl) (by kernel_rfl) rfl rfl Try.underlying3) rfl rfl rfl (by kernel_rfl) (by kernel_rfl) (by kernel_rfl) (by kernel_rfl) hx
  exact ⟨⟨p.1, p.2.1, p.2.2⟩, hp, hI⟩
section
variable {H : Type} {enc : TypeId × Value → H} {W : World}
theorem openEd {v : Value} {d : DataW H} {ps : List MemPlace} {base : Nat} (hval : Value.okWide Try.prog W .any base 46 v) (h : DataW.Trod enc Try.prog W 0 (fun _ => true) true 46 v d ps) :
    ∃ x : Ed, v = .agg #[.int .i64 x.f, .int .i64 x.t, .int .i64 x.p.e, .int .i64 x.p.r] ∧ x.I := openV Try.underlying46 opensEd hval h
theorem openGr {v : Value} {d : DataW H} {ps : List MemPlace} {base : Nat} (hval : Value.okWide Try.prog W .any base 36 v) (h : DataW.Trod enc Try.prog W 0 (fun _ => true) true 36 v d ps) :
    ∃ (n : Int) (ev : Value) (E : List Ed), v = .agg #[.int .i64 n, ev] ∧ I64 n ∧ RdG W ev E ∧ ∀ x ∈ E, x.I := by
  obtain ⟨cs, rfl, hsz⟩ := okWide_struct Try.underlying36 hval
  obtain ⟨fuel, hf⟩ := h
  obtain ⟨y0, y1, k, _, hlen, hy0, hy1⟩ := trod_struct2 Try.underlying36 hf
  obtain ⟨n, hn, hI⟩ := opens_int Try.underlying3 hy0
  obtain ⟨ev, E, he, hr, hE⟩ := openE1 encG Try.underlying34 (by kernel_rfl) (by decide) opensEd hy1
  refine ⟨n, ev, E, ?_, hI, hr, hE⟩
  have hc : Try.prog.cellsOf 36 = 2 := by kernel_rfl
  have hc0 : Try.prog.cellsOf 3 = 1 := by kernel_rfl
  have hc1 : Try.prog.cellsOf 34 = 1 := by kernel_rfl
  have hl : cs.toList.length = 2 := by rw [← hc]; exact hlen
  have h0 : (cs.toList.drop 0).take 1 = [.int .i64 n] := by rw [← hc0]; exact hn
  have h1 : (cs.toList.drop 1).take 1 = [ev] := by rw [← hc1]; exact he
  congr 1
  apply Array.ext'
  match hq : cs.toList, hl with
  | [a, b], _ =>
    rw [hq] at h0 h1
    simp at h0 h1
    rw [h0, h1]
end
theorem rdEd : Try.prog.readableRec 46 = true ∧ 46 < Try.prog.types.size := ⟨by kernel_rfl, of_decide_eq_true (by kernel_rfl)⟩
theorem rdGr : Try.prog.readableRec 36 = true ∧ 36 < Try.prog.types.size := ⟨by kernel_rfl, of_decide_eq_true (by kernel_rfl)⟩
end Go.Proofs.Ytlgeodnbkndciaa
