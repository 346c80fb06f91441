/- Put together: Lc, Lg, Go, Hm, Lw, Bg, Km, Bh, Bl. -/
import Derived.Test.YtboinbmgndomhaaJ2
import Derived.Test.YtboinbmgndomhaaCt
import Derived.Test.YtboinbmgndomhaaJ3
import Derived.Deep.Strs
import Derived.Test.YtboinbmgndomhaaGm
import Derived.Test.YtboinbmgndomhaaJ1
import Derived.Test.YtboinbmgndomhaaSc
namespace Go.Proofs.Ytboinbmgndomhaa
open Go.ChangeShapes Go.WideShapes Go.ChangeAt Go.RowKit Go.Joins Go.Deep
set_option maxRecDepth 100000
set_option linter.unusedSimpArgs false
set_option linter.unusedVariables false

/-- What reads as type t are the cells f of some a. -/
def Opens (P : Program) (t : TypeId) {α : Type} (f : α → List Value) (I : α → Prop) : Prop :=
  ∀ {H : Type} {enc : TypeId × Value → H} {W : World} {base : Nat} {sp : Nat → Bool} {held : Bool} {fuel : Nat} {cs : List Value} {x : DataW H × List MemPlace}, DataW.trod enc P W base sp held fuel t cs = some x → ∃ a, cs = f a ∧ I a
section
variable {P : Program} {t : TypeId} {α β : Type}
theorem opens_int (h : P.underlying t = some (.int .i64)) : Opens P t (fun n : Int => [.int .i64 n]) (fun n => -9223372036854775808 ≤ n ∧ n ≤ 9223372036854775807) := by
  intro H enc W base sp held fuel cs x hx
  obtain ⟨z, e, _, w⟩ := DataW.trod_int h hx
  exact ⟨z, e, wf64 w⟩
theorem opens_struct2 {f0 f1 : Field} {f : α → List Value} {I : α → Prop} {g : β → List Value} {J : β → Prop} {m0 m1 : Nat} (h : P.underlying t = some (.struct #[f0, f1])) (h0 : Opens P f0.type f I) (h1 : Opens P f1.type g J)
    (hl : (((Nat.beq f0.offset 0 && Nat.beq f1.offset m0) && (Nat.beq (P.cellsOf f0.type) m0 && Nat.beq (P.cellsOf f1.type) m1)) && Nat.beq (P.cellsOf t) (m0 + m1)) = true) : Opens P t (fun p : α × β => f p.1 ++ g p.2) (fun p => I p.1 ∧ J p.2) := by
  simp only [Bool.and_eq_true, Nat.beq_eq] at hl
  obtain ⟨⟨⟨o0, o1⟩, c0, c1⟩, c⟩ := hl
  intro H enc W base sp held fuel cs x hx
  obtain ⟨y0, y1, n, _, hlen, hy0, hy1⟩ := trod_struct2 h hx
  rw [o0, c0] at hy0
  rw [o1, c1] at hy1
  obtain ⟨a, ha, hI⟩ := h0 hy0
  obtain ⟨b, hb, hJ⟩ := h1 hy1
  refine ⟨(a, b), ?_, hI, hJ⟩
  show cs = f a ++ g b
  rw [← ha, ← hb, List.drop_zero, List.take_of_length_le (l := cs.drop m0) (by rw [List.length_drop, hlen, c]; omega), List.take_append_drop]
theorem opens_pair {ti : TypeId} {f0 f1 : Field} (hu : Try.prog.underlying t = some (.struct #[f0, f1])) (hone : oneCellFields Try.prog #[f0, f1] = true) (hC : Try.prog.cellsOf t = 2)
    (h0 : f0.type = ti) (h1 : f1.type = ti) (hi : Try.prog.underlying ti = some (.int .i64)) : Opens Try.prog t (fun s : St => [.int .i64 s.e, .int .i64 s.r]) St.I := by
  intro H enc W base sp held fuel cs x hx
  exact pair_cells hu hone hC h0 h1 hi hx
/-- A struct that came in by value. -/
theorem openV {H : Type} {enc : TypeId × Value → H} {W : World} {fs : Array Field} {f : α → List Value} {I : α → Prop} (hu : P.underlying t = some (.struct fs)) (ho : Opens P t f I) {v : Value} {d : DataW H} {ps : List MemPlace} {base : Nat} (hval : Value.okWide P W .any base t v) (h : DataW.Trod enc P W 0 (fun _ => true) true t v d ps) :
    ∃ a, v = .agg (f a).toArray ∧ I a := by
  obtain ⟨cs, rfl, hsz⟩ := okWide_struct hu hval
  obtain ⟨fuel, hf⟩ := h
  obtain ⟨a, ha, hI⟩ := ho hf
  refine ⟨a, ?_, hI⟩
  have ha' : cs.toList = f a := ha
  congr 1
  exact Array.ext' (by simpa using ha')
theorem cells_at {w : World} {b m : Nat} {a : Addr} {cs : List Value} (h : w.cells? b a m = some cs) : ∀ j u, cs[j]? = some u → w.cell? (a.add j) = some u := by
  unfold World.cells? at h
  split at h
  · intro j u hj
    obtain ⟨hl, hu⟩ := List.getElem?_eq_some_iff.1 hj
    have hlen := mapM_some_length h
    have hm : j < m := by rw [List.length_range] at hlen; omega
    have := mapM_some_get h j j (by rw [List.getElem?_range hm])
    rw [hj] at this
    exact this
  · cases h
/-- A slice that came in. -/
theorem openE {H : Type} {enc : TypeId × Value → H} {W : World} {e : TypeId} (E : Enc α) {I : α → Prop} (hut : P.underlying t = some (.slice e)) (hC : P.cellsOf e = E.m) (hpos : 0 < E.m) (ho : Opens P e E.f I) {v : Value} {d : DataW H} {ps : List MemPlace} {base : Nat} (hval : Value.okWide P W .any base t v) (h : DataW.Trod enc P W 0 (fun _ => true) true t v d ps) :
    ∃ L : List α, RdV W E.m v L.length (cE E L) ∧ ∀ s ∈ L, I s := by
  obtain ⟨a0, len, cap, rfl⟩ := okWide_slice hut hval
  obtain ⟨fuel, hf⟩ := h
  rcases open_slice hut hf with ⟨hcs, _⟩ | ⟨a, len', cap', m, n, D, Pl, hcs, _, hl, hm, hmm, _, hel⟩
  · have hv : Value.slice a0 len cap = .slice none 0 0 := by simpa [Value.cells] using hcs
    rw [hv]
    exact ⟨[], ⟨by simp [cE], none, 0, rfl, Nat.le_refl _, Nat.zero_le _, fun h => absurd h (by simp)⟩, by simp⟩
  · have hv : Value.slice a0 len cap = .slice (some a) len' cap' := by simpa [Value.cells] using hcs
    rw [hv]
    have hel2 : ∀ i, i < len' → ∃ s : α, I s ∧ ∀ j u, (E.f s)[j]? = some u → W.cell? (a.add (i * E.m + j)) = some u := fun i hil => by
      obtain ⟨cs', hc, htr⟩ := hel i (by rw [hmm]; split <;> omega)
      rw [hC] at hc
      obtain ⟨s, hs, hI⟩ := ho htr
      subst hs
      refine ⟨s, hI, fun j u hj => ?_⟩
      have := cells_at hc j u hj
      rwa [add_add] at this
    obtain ⟨f, hf⟩ : ∃ f : Nat → α, ∀ i, i < len' → I (f i) ∧ ∀ j u, (E.f (f i))[j]? = some u → W.cell? (a.add (i * E.m + j)) = some u := by
      refine ⟨fun i => if hi : i < len' then Classical.choose (hel2 i hi) else E.z, fun i hi => ?_⟩
      simp only [hi, dif_pos]
      exact Classical.choose_spec (hel2 i hi)
    refine ⟨(List.range len').map f, ?_, fun s hs => ?_⟩
    · have hll : ((List.range len').map f).length = len' := by simp
      rw [hll]
      refine ⟨by rw [cE_len, hll], some a, cap', rfl, hl, hm, fun hp => ?_⟩
      have hx0 : ∃ u, (E.f (f 0))[0]? = some u := ⟨(E.f (f 0))[0]'(by rw [E.len]; exact hpos), List.getElem?_eq_getElem _⟩
      obtain ⟨u0, hu0⟩ := hx0
      have h3 := cell_spot ((hf 0 hp).2 0 u0 hu0)
      rw [show a.add (0 * E.m + 0) = a from by simp [Addr.add]] at h3
      refine ⟨a.block, a.off, by cases a; simp_all, h3.2, fun j u hj => ?_⟩
      have hj2 : j < len' * E.m := by
        have := (List.getElem?_eq_some_iff.1 hj).1
        rw [cE_len, hll] at this; exact this
      have hjd : j / E.m < len' := by rw [Nat.div_lt_iff_lt_mul hpos]; exact hj2
      have hjm : j % E.m < E.m := Nat.mod_lt _ hpos
      have hdm : j / E.m * E.m + j % E.m = j := by rw [Nat.mul_comm]; exact Nat.div_add_mod j E.m
      have hc := cE_at (E := E) (L := (List.range len').map f) (i := j / E.m) (by rw [hll]; exact hjd)
      have hat : atE E ((List.range len').map f) (j / E.m) = f (j / E.m) := by
        rw [atE_eq (by rw [hll]; exact hjd)]; simp
      rw [hat] at hc
      have hg : (E.f (f (j / E.m)))[j % E.m]? = some u := by
        rw [← hc, List.getElem?_take, if_pos hjm, List.getElem?_drop, hdm]; exact hj
      have := (hf (j / E.m) hjd).2 _ u hg
      rw [hdm, add_lit h3.1] at this
      exact this
    · obtain ⟨i, hi, rfl⟩ := List.mem_map.1 hs
      exact (hf i (by simpa using hi)).1
end
theorem opensC : Opens Try.prog 73 encC.f (fun p : Ct => p.1.I ∧ (-9223372036854775808 ≤ p.2 ∧ p.2 ≤ 9223372036854775807)) := by
  intro H enc W base sp held fuel cs x hx
  obtain ⟨p, hp, hI⟩ := opens_struct2 (m0 := 2) (m1 := 1) Try.underlying73 (opens_pair Try.underlying32 (by kernel_rfl) (by kernel_rfl) rfl rfl Try.underlying3) (opens_int Try.underlying3) (by kernel_rfl) hx
  exact ⟨p, hp, hI⟩
section
variable {H : Type} {enc : TypeId × Value → H} {W : World}
theorem openCV {v : Value} {d : DataW H} {ps : List MemPlace} {base : Nat} (hval : Value.okWide Try.prog W .any base 73 v) (h : DataW.Trod enc Try.prog W 0 (fun _ => true) true 73 v d ps) :
    ∃ p : Ct, v = .agg #[.int .i64 p.1.e, .int .i64 p.1.r, .int .i64 p.2] ∧ (p.1.I ∧ (-9223372036854775808 ≤ p.2 ∧ p.2 ≤ 9223372036854775807)) := openV Try.underlying73 opensC hval h
end
theorem rdC : Try.prog.readableRec 73 = true ∧ 73 < Try.prog.types.size := ⟨by kernel_rfl, of_decide_eq_true (by kernel_rfl)⟩
section
variable {H : Type} {enc : TypeId × Value → H} {W : World}
theorem openCL {v : Value} {d : DataW H} {ps : List MemPlace} {base : Nat} (hval : Value.okWide Try.prog W .any base 42 v) (h : DataW.Trod enc Try.prog W 0 (fun _ => true) true 42 v d ps) :
    ∃ L : List Ct, RdC W v L ∧ ∀ p ∈ L, p.1.I ∧ (-9223372036854775808 ≤ p.2 ∧ p.2 ≤ 9223372036854775807) := openE encC Try.underlying42 (by kernel_rfl) (by decide) opensC hval h
end
theorem rdCL : Try.prog.readableRec 42 = true ∧ 42 < Try.prog.types.size := ⟨by kernel_rfl, of_decide_eq_true (by kernel_rfl)⟩
section
variable {H : Type} {enc : TypeId × Value → H} {W : World}
theorem openIL {v : Value} {d : DataW H} {ps : List MemPlace} {base : Nat} (hval : Value.okWide Try.prog W .any base 47 v) (h : DataW.Trod enc Try.prog W 0 (fun _ => true) true 47 v d ps) :
    ∃ L : List Int, RdI W v L ∧ ∀ n ∈ L, -9223372036854775808 ≤ n ∧ n ≤ 9223372036854775807 := openE encI Try.underlying47 (by kernel_rfl) (by decide) (opens_int Try.underlying3) hval h
end
theorem rdIL : Try.prog.readableRec 47 = true ∧ 47 < Try.prog.types.size := ⟨by kernel_rfl, of_decide_eq_true (by kernel_rfl)⟩
end Go.Proofs.Ytboinbmgndomhaa
namespace Go.Proofs.Ytboinbmgndomhaa
open Go.ChangeShapes Go.WideShapes Go.ChangeAt Go.RowKit Go.Joins Go.Deep
set_option maxRecDepth 100000
set_option linter.unusedSimpArgs false
set_option linter.unusedVariables false

def I64 (n : Int) : Prop := -9223372036854775808 ≤ n ∧ n ≤ 9223372036854775807
def Ed.I (x : Ed) : Prop := I64 x.f ∧ I64 x.t ∧ x.p.I
section
variable {P : Program} {t : TypeId} {α β γ : Type}
theorem opens_struct3 {f0 f1 f2 : Field} {f : α → List Value} {I : α → Prop} {g : β → List Value} {J : β → Prop} {h : γ → List Value} {K : γ → Prop} {m0 m1 m2 : Nat} (hu : P.underlying t = some (.struct #[f0, f1, f2])) (h0 : Opens P f0.type f I) (h1 : Opens P f1.type g J) (h2 : Opens P f2.type h K)
    (o0 : f0.offset = 0) (o1 : f1.offset = m0) (o2 : f2.offset = m0 + m1) (c0 : P.cellsOf f0.type = m0) (c1 : P.cellsOf f1.type = m1) (c2 : P.cellsOf f2.type = m2) (c : P.cellsOf t = m0 + m1 + m2) : Opens P t (fun p : α × β × γ => f p.1 ++ (g p.2.1 ++ h p.2.2)) (fun p => I p.1 ∧ J p.2.1 ∧ K p.2.2) := by
  intro H enc W base sp held fuel cs x hx
  obtain ⟨y0, y1, y2, n, _, hlen, hy0, hy1, hy2⟩ := trod_struct3 hu hx
  rw [o0, c0] at hy0
  rw [o1, c1] at hy1
  rw [o2, c2] at hy2
  obtain ⟨a, ha, hI⟩ := h0 hy0
  obtain ⟨b, hb, hJ⟩ := h1 hy1
  obtain ⟨d, hd, hK⟩ := h2 hy2
  refine ⟨(a, b, d), ?_, hI, hJ, hK⟩
  show cs = f a ++ (g b ++ h d)
  rw [← ha, ← hb, ← hd, List.drop_zero, List.take_of_length_le (l := cs.drop (m0 + m1)) (by rw [List.length_drop, hlen, c]; omega), ← List.drop_drop, List.take_append_drop, List.take_append_drop]
/-- A slice in something that came in. -/
theorem openE1 {H : Type} {enc : TypeId × Value → H} {W : World} {e : TypeId} (E : Enc α) {I : α → Prop} (hut : P.underlying t = some (.slice e)) (hC : P.cellsOf e = E.m) (hpos : 0 < E.m) (ho : Opens P e E.f I) {fuel : Nat} {cs : List Value} {x : DataW H × List MemPlace} (hf : DataW.trod enc P W 0 (fun _ => true) true fuel t cs = some x) :
    ∃ (v : Value) (L : List α), cs = [v] ∧ RdV W E.m v L.length (cE E L) ∧ ∀ s ∈ L, I s := by
  rcases open_slice hut hf with ⟨hcs, _⟩ | ⟨a, len', cap', m, n, D, Pl, hcs, _, hl, hm, hmm, _, hel⟩
  · exact ⟨_, [], hcs, ⟨by simp [cE], none, 0, rfl, Nat.le_refl _, Nat.zero_le _, fun h => absurd h (by simp)⟩, by simp⟩
  · have hel2 : ∀ i, i < len' → ∃ s : α, I s ∧ ∀ j u, (E.f s)[j]? = some u → W.cell? (a.add (i * E.m + j)) = some u := fun i hil => by
      obtain ⟨cs', hc, htr⟩ := hel i (by rw [hmm]; split <;> omega)
      rw [hC] at hc
      obtain ⟨s, hs, hI⟩ := ho htr
      subst hs
      refine ⟨s, hI, fun j u hj => ?_⟩
      have := cells_at hc j u hj
      rwa [add_add] at this
    obtain ⟨f, hf⟩ : ∃ f : Nat → α, ∀ i, i < len' → I (f i) ∧ ∀ j u, (E.f (f i))[j]? = some u → W.cell? (a.add (i * E.m + j)) = some u := by
      refine ⟨fun i => if hi : i < len' then Classical.choose (hel2 i hi) else E.z, fun i hi => ?_⟩
      simp only [hi, dif_pos]
      exact Classical.choose_spec (hel2 i hi)
    refine ⟨_, (List.range len').map f, hcs, ?_, fun s hs => ?_⟩
    · have hll : ((List.range len').map f).length = len' := by simp
      rw [hll]
      refine ⟨by rw [cE_len, hll], some a, cap', rfl, hl, hm, fun hp => ?_⟩
      have hx0 : ∃ u, (E.f (f 0))[0]? = some u := ⟨(E.f (f 0))[0]'(by rw [E.len]; exact hpos), List.getElem?_eq_getElem _⟩
      obtain ⟨u0, hu0⟩ := hx0
      have h3 := cell_spot ((hf 0 hp).2 0 u0 hu0)
      rw [show a.add (0 * E.m + 0) = a from by simp [Addr.add]] at h3
      refine ⟨a.block, a.off, by cases a; simp_all, h3.2, fun j u hj => ?_⟩
      have hj2 : j < len' * E.m := by
        have := (List.getElem?_eq_some_iff.1 hj).1
        rw [cE_len, hll] at this; exact this
      have hjd : j / E.m < len' := by rw [Nat.div_lt_iff_lt_mul hpos]; exact hj2
      have hjm : j % E.m < E.m := Nat.mod_lt _ hpos
      have hdm : j / E.m * E.m + j % E.m = j := by rw [Nat.mul_comm]; exact Nat.div_add_mod j E.m
      have hc := cE_at (E := E) (L := (List.range len').map f) (i := j / E.m) (by rw [hll]; exact hjd)
      have hat : atE E ((List.range len').map f) (j / E.m) = f (j / E.m) := by
        rw [atE_eq (by rw [hll]; exact hjd)]; simp
      rw [hat] at hc
      have hg : (E.f (f (j / E.m)))[j % E.m]? = some u := by
        rw [← hc, List.getElem?_take, if_pos hjm, List.getElem?_drop, hdm]; exact hj
      have := (hf (j / E.m) hjd).2 _ u hg
      rw [hdm, add_lit h3.1] at this
      exact this
    · obtain ⟨i, hi, rfl⟩ := List.mem_map.1 hs
      exact (hf i (by simpa using hi)).1
end
theorem opensEd : Opens Try.prog 51 encG.f Ed.I := by
  intro H enc W base sp held fuel cs x hx
  obtain ⟨p, hp, hI⟩ := opens_struct3 (m0 := 1) (m1 := 1) (m2 := 2) Try.underlying51 (opens_int Try.underlying3) (opens_int Try.underlying3) (opens_pair Try.underlying49 (by kernel_rfl) (by kernel_rfl) rfl rfl Try.underlying3) rfl rfl rfl (by kernel_rfl) (by kernel_rfl) (by kernel_rfl) (by kernel_rfl) hx
  exact ⟨⟨p.1, p.2.1, p.2.2⟩, hp, hI⟩
section
variable {H : Type} {enc : TypeId × Value → H} {W : World}
theorem openEd {v : Value} {d : DataW H} {ps : List MemPlace} {base : Nat} (hval : Value.okWide Try.prog W .any base 51 v) (h : DataW.Trod enc Try.prog W 0 (fun _ => true) true 51 v d ps) :
    ∃ x : Ed, v = .agg #[.int .i64 x.f, .int .i64 x.t, .int .i64 x.p.e, .int .i64 x.p.r] ∧ x.I := openV Try.underlying51 opensEd hval h
theorem openGr {v : Value} {d : DataW H} {ps : List MemPlace} {base : Nat} (hval : Value.okWide Try.prog W .any base 24 v) (h : DataW.Trod enc Try.prog W 0 (fun _ => true) true 24 v d ps) :
    ∃ (n : Int) (ev : Value) (E : List Ed), v = .agg #[.int .i64 n, ev] ∧ I64 n ∧ RdG W ev E ∧ ∀ x ∈ E, x.I := by
  obtain ⟨cs, rfl, hsz⟩ := okWide_struct Try.underlying24 hval
  obtain ⟨fuel, hf⟩ := h
  obtain ⟨y0, y1, k, _, hlen, hy0, hy1⟩ := trod_struct2 Try.underlying24 hf
  obtain ⟨n, hn, hI⟩ := opens_int Try.underlying3 hy0
  obtain ⟨ev, E, he, hr, hE⟩ := openE1 encG Try.underlying22 (by kernel_rfl) (by decide) opensEd hy1
  refine ⟨n, ev, E, ?_, hI, hr, hE⟩
  have hc : Try.prog.cellsOf 24 = 2 := by kernel_rfl
  have hc0 : Try.prog.cellsOf 3 = 1 := by kernel_rfl
  have hc1 : Try.prog.cellsOf 22 = 1 := by kernel_rfl
  have hl : cs.toList.length = 2 := by rw [← hc]; exact hlen
  have h0 : (cs.toList.drop 0).take 1 = [.int .i64 n] := by rw [← hc0]; exact hn
  have h1 : (cs.toList.drop 1).take 1 = [ev] := by rw [← hc1]; exact he
  congr 1
  apply Array.ext'
  match hq : cs.toList, hl with
  | [a, b], _ =>
    rw [hq] at h0 h1
    simp at h0 h1
    rw [h0, h1]
end
theorem rdEd : Try.prog.readableRec 51 = true ∧ 51 < Try.prog.types.size := ⟨by kernel_rfl, of_decide_eq_true (by kernel_rfl)⟩
theorem rdGr : Try.prog.readableRec 24 = true ∧ 24 < Try.prog.types.size := ⟨by kernel_rfl, of_decide_eq_true (by kernel_rfl)⟩
end Go.Proofs.Ytboinbmgndomhaa
namespace Go.Proofs.Ytboinbmgndomhaa
open Go.RowKit
set_option maxRecDepth 100000
set_option linter.unusedSimpArgs false
set_option linter.unusedVariables false

theorem nodup_sub {l m : List Int} (h : l.Nodup) (hs : ∀ x ∈ l, x ∈ m) : l.length ≤ m.length := by
  induction l generalizing m with
  | nil => simp
  | cons x r ih =>
    have hn := List.nodup_cons.1 h
    have hx := hs x (by simp)
    have h1 := ih (m := m.erase x) hn.2 (fun y hy => (List.mem_erase_of_ne (fun (e : y = x) => hn.1 (by rw [← e]; exact hy))).2 (hs y (by simp [hy])))
    rw [List.length_erase_of_mem hx] at h1
    have h2 : 0 < m.length := List.length_pos_of_mem hx
    simp only [List.length_cons]; omega
theorem next_some {E : List Ed} {T : List Bool} {n k : Nat} (h : nextO E T n = some k) : k < n ∧ freeB E T k = true := by
  have h1 := List.find?_some h
  have h2 := List.mem_of_find?_eq_some h
  exact ⟨List.mem_range.1 h2, h1⟩
theorem next_none {E : List Ed} {T : List Bool} {n k : Nat} (h : nextO E T n = none) (hk : k < n) : freeB E T k = false := by
  have := List.find?_eq_none.1 h k (List.mem_range.2 hk)
  simpa using this
theorem free_iff {E : List Ed} {T : List Bool} {k : Nat} : freeB E T k = true ↔ atB T k = false ∧ ∀ x ∈ E, x.t = (k : Int) → x.p = St.zero → atB T x.f.toNat = true := by
  unfold freeB
  rw [Bool.and_eq_true, Bool.not_eq_true', List.all_eq_true]
  refine and_congr_right fun _ => forall_congr' fun x => forall_congr' fun _ => ?_
  unfold okE
  simp only [Bool.not_eq_true', Bool.and_eq_false_iff, decide_eq_false_iff_not, Bool.not_eq_false]
  constructor
  · intro h ht hp
    rcases h with (h | h) | h
    · exact absurd ht h
    · exact absurd hp h
    · simpa using h
  · intro h
    by_cases ht : x.t = (k : Int)
    · by_cases hp : x.p = St.zero
      · exact .inr (by simpa using h ht hp)
      · exact .inl (.inr hp)
    · exact .inl (.inl ht)
structure RowI (E : List Ed) (n : Nat) (s : List Bool × List Int) : Prop where
  told : ∀ k, k < n → (atB s.1 k = true ↔ (k : Int) ∈ s.2)
  nd : s.2.Nodup
  rng : ∀ q ∈ s.2, 0 ≤ q ∧ q < (n : Int)
  bef : ∀ x ∈ E, x.p = St.zero → ∀ a b, s.2 = a ++ x.t :: b → x.f ∈ a
theorem row_inv {n : Nat} {E : List Ed} (hF : Fits (n : Int) E) : ∀ r, RowI E n (roundsO E n r)
  | 0 => by
    refine ⟨fun k hk => ?_, List.nodup_nil, fun q hq => (by cases hq), fun x _ _ a b h => ?_⟩
    · show atB (List.replicate n false) k = true ↔ (k : Int) ∈ ([] : List Int)
      unfold atB atE
      rw [List.getD_eq_getElem?_getD, List.getElem?_replicate, if_pos hk]; simp
    · have h' : ([] : List Int) = a ++ x.t :: b := h
      simp at h'
  | r + 1 => by
    have ih := row_inv hF r
    have hl := rounds_len E n r
    simp only [roundsO, stepO]
    cases hq : nextO E (roundsO E n r).1 n with
    | none => exact ih
    | some k =>
      have h1 := next_some hq
      have h2 := free_iff.1 h1.2
      have hk : ¬ (k : Int) ∈ (roundsO E n r).2 := fun hm => by
        rw [← ih.told k h1.1, h2.1] at hm; cases hm
      refine ⟨fun j hj => ?_, ?_, fun q hq => ?_, fun x hx hp a b hab => ?_⟩
      · show atB ((roundsO E n r).1.set k true) j = true ↔ (j : Int) ∈ (roundsO E n r).2 ++ [(k : Int)]
        rw [atB_set (by omega), List.mem_append, List.mem_singleton]
        split
        · rename_i e; subst e; simp
        · rename_i e
          rw [ih.told j hj]
          constructor
          · exact .inl
          · rintro (h | h)
            · exact h
            · omega
      · show ((roundsO E n r).2 ++ [(k : Int)]).Nodup
        refine List.nodup_append.2 ⟨ih.nd, by simp, fun p hp q hq e => ?_⟩
        rw [List.mem_singleton.1 hq] at e
        exact hk (e ▸ hp)
      · rcases List.mem_append.1 hq with h | h
        · exact ih.rng q h
        · rw [List.mem_singleton.1 h]; omega
      · have hab' : (roundsO E n r).2 ++ [(k : Int)] = a ++ x.t :: b := hab
        rcases List.eq_nil_or_concat b with hb | ⟨b', y, hb⟩
        · subst hb
          have h3 := List.append_inj' hab' (by simp)
          have h4 : (k : Int) = x.t := by simpa using h3.2
          have hx' := fit_t hF hx
          have h5 := h2.2 x hx h4.symm hp
          have h6 := (ih.told x.f.toNat (by omega)).1 h5
          rw [show ((x.f.toNat : Nat) : Int) = x.f by omega] at h6
          rw [← h3.1]; exact h6
        · rw [List.concat_eq_append] at hb
          subst hb
          have h3 : (roundsO E n r).2 ++ [(k : Int)] = (a ++ x.t :: b') ++ [y] := by simpa using hab'
          have h4 := List.append_inj' h3 (by simp)
          exact ih.bef x hx hp a b' h4.1
theorem row_stuck (E : List Ed) (n : Nat) : ∀ r, (roundsO E n r).2.length = r ∨ nextO E (roundsO E n r).1 n = none
  | 0 => .inl rfl
  | r + 1 => by
    simp only [roundsO, stepO]
    cases hq : nextO E (roundsO E n r).1 n with
    | none => exact .inr hq
    | some k =>
      rcases row_stuck E n r with h | h
      · exact .inl (by simp [h])
      · rw [h] at hq; cases hq
/-- All nodes get in, where the edges of noughts go up. -/
theorem order_of_rank {n : Nat} {E : List Ed} (hF : Fits (n : Int) E) (rk : Nat → Nat) (h : ∀ x ∈ E, x.p = St.zero → rk x.f.toNat < rk x.t.toNat) : (orderL E n).length = n := by
  have hi := row_inv hF n
  rcases row_stuck E n n with h1 | h1
  · exact h1
  · have hall : ∀ m k, k < n → rk k = m → atB (roundsO E n n).1 k = true := by
      intro m
      induction m using Nat.strongRecOn with
      | ind m ih =>
        intro k hk hm
        cases hb : atB (roundsO E n n).1 k with
        | true => rfl
        | false =>
          have h2 := next_none h1 hk
          have h3 : freeB E (roundsO E n n).1 k = true := free_iff.2 ⟨hb, fun x hx ht hp => by
            have hx' := fit_t hF hx
            have h4 := h x hx hp
            rw [ht, show ((k : Nat) : Int).toNat = k by omega] at h4
            exact ih (rk x.f.toNat) (by omega) x.f.toNat (by omega) rfl⟩
          rw [h3] at h2; cases h2
    have h2 : ((List.range n).map fun (k : Nat) => (k : Int)).length ≤ (roundsO E n n).2.length := nodup_sub (by
      refine List.Pairwise.map (R := fun a b => a ≠ b) _ (fun a b h => by omega) List.nodup_range) (fun q hq => by
      obtain ⟨k, hk, rfl⟩ := List.mem_map.1 hq
      have hk := List.mem_range.1 hk
      exact (hi.told k hk).1 (hall _ k hk rfl))
    have h3 := rounds_out E n n
    simp only [List.length_map, List.length_range] at h2
    show (roundsO E n n).2.length = n
    omega
theorem order_all {n : Nat} {E : List Ed} (hF : Fits (n : Int) E) (h : (orderL E n).length = n) {k : Int} (h0 : 0 ≤ k) (hk : k < (n : Int)) : k ∈ orderL E n := by
  apply Classical.byContradiction
  intro hm
  have hi := row_inv hF n
  have h1 := nodup_small n (k :: orderL E n) (List.nodup_cons.2 ⟨hm, hi.nd⟩) (fun q hq => by
    rcases List.mem_cons.1 hq with rfl | hq
    · exact ⟨h0, hk⟩
    · exact hi.rng q hq)
  simp only [List.length_cons] at h1
  omega
/-- In a whole row, an edge of noughts goes forward. -/
theorem rank_of_order {n : Nat} {E : List Ed} (hF : Fits (n : Int) E) (h : (orderL E n).length = n) {x : Ed} (hx : x ∈ E) (hp : x.p = St.zero) : (orderL E n).idxOf x.f < (orderL E n).idxOf x.t := by
  have hi := row_inv hF n
  have hx' := fit_t hF hx
  have ht := order_all hF h (k := x.t) (by omega) (by omega)
  obtain ⟨a, b, hab⟩ := List.append_of_mem ht
  have hf := hi.bef x hx hp a b hab
  have hnd : (a ++ x.t :: b).Nodup := hab ▸ hi.nd
  have hna : ¬ x.t ∈ a := fun hm => (List.nodup_append.1 hnd).2.2 x.t hm x.t (by simp) rfl
  rw [hab, List.idxOf_append, List.idxOf_append, if_pos hf, if_neg hna]
  have := List.idxOf_lt_length_of_mem hf
  simp only [List.idxOf_cons_self]
  omega
/-- Fewer edges: all nodes get in all the same. -/
theorem order_less {n : Nat} {E F : List Ed} (hF : Fits (n : Int) F) (hs : ∀ x ∈ E, x ∈ F) (h : (orderL F n).length = n) : (orderL E n).length = n :=
  order_of_rank (fun x hx => hF x (hs x hx)) (fun k => (orderL F n).idxOf (k : Int)) (fun x hx hp => by
    have h1 := rank_of_order hF h (hs x hx) hp
    have hx' := fit_t hF (hs x hx)
    rw [show ((x.f.toNat : Nat) : Int) = x.f by omega, show ((x.t.toNat : Nat) : Int) = x.t by omega]
    exact h1)
theorem check_of {n : Int} {E : List Ed} (h1 : 1 ≤ n) (h2 : n ≤ 8) (h3 : E.length ≤ 16) (hF : Fits n E) (ho : n ≤ ((orderL E n.toNat).length : Int)) : checkG n E = (0, -1) := by
  unfold checkG
  rw [if_neg (by omega)]
  have : E.findIdx? (fun x => !fitsB n x) = none := by
    rw [List.findIdx?_eq_none_iff]
    intro x hx; rw [hF x hx]; rfl
  rw [this]
  exact if_neg (by omega)
theorem clo_two {n : Int} {E : List Ed} (h : (checkG n E).1 = 0) : (cloG n E).2 = 0 ∨ (cloG n E).2 = 10 := by
  unfold cloG
  rw [if_neg (fun h2 => h2 h)]
  split
  · exact .inr rfl
  · exact .inl rfl
theorem moreg_err {n : Int} {E : List Ed} {x : Ed} (hf : (cloG n (E ++ [x])).2 = 0) : (cloG n E).2 = 0 ∨ (cloG n E).2 = 10 := by
  rcases clo_cases n (E ++ [x]) with h | ⟨⟨h1, h2, h3, h4, h5, h6⟩, _⟩
  · exact absurd hf h.2
  · have hF : Fits ((n.toNat : Nat) : Int) (E ++ [x]) := by rw [show ((n.toNat : Nat) : Int) = n by omega]; exact h4
    have ho := order_len (n := n) (E := E ++ [x]) (by rw [h6])
    have hl := order_less hF (E := E) (fun y hy => by simp [hy]) ho
    refine clo_two ?_
    rw [check_of h1 h2 (by simp only [List.length_append, List.length_singleton] at h3; omega) (fun y hy => h4 y (by simp [hy])) (by omega)]
theorem moreg_cov {n : Nat} {E : List Ed} {x : Ed} (hE : Fits (n : Int) E) (hF : Fits (n : Int) (E ++ [x])) {i j : Nat} (hi : i < n) (hj : j < n) {t : St} (ht : t ∈ atR (at3 (cloT E n n) i) j) : covB (atR (at3 (cloT (E ++ [x]) n n) i) j) t = true := by
  rw [cloT_at hi] at ht ⊢
  have := clo_covers hF hi (way_more (clo_sound hE hi hj ht) (fun y hy => by simp [hy]))
  rwa [show ((j : Int)).toNat = j by omega] at this
theorem clo_ahead {n : Nat} {E : List Ed} {i j : Nat} (hi : i < n) (hj : j < n) {m : Int} (h0 : 0 < m) (hm : m < ((atR (at3 (cloT E n n) i) j).length : Int)) : (atS (atR (at3 (cloT E n n) i) j) (m - 1).toNat).aheadB (atS (atR (at3 (cloT E n n) i) j) m.toNat) = true := by
  rw [cloT_at hi] at hm ⊢
  have := clo_asc (E := E) (i := i) hj (m - 1).toNat (by omega)
  rwa [show (m - 1).toNat + 1 = m.toNat by omega] at this
end Go.Proofs.Ytboinbmgndomhaa
namespace Go.Proofs.Ytboinbmgndomhaa
open Go.RowKit
set_option maxRecDepth 100000
set_option linter.unusedSimpArgs false
set_option linter.unusedVariables false

def rightC (L : List (List (List St))) (p : Po) : Bool :=
  decide (1 ≤ L.length ∧ L.length ≤ 8) && L.all (fun r => decide (r.length = L.length)) && (decide (0 ≤ p.n ∧ p.n < (L.length : Int)) && p.t.rightB)
def placesC (L : List (List (List St))) (p : Po) (k : Int) : List St :=
  if rightC L p && decide (0 ≤ k ∧ k < (L.length : Int)) then minL (sumsP [p.t] (atR (at3 L p.n.toNat) k.toNat)) else []
def couldC (L : List (List (List St))) (a b : Po) : Bool := rightC L b && covB (placesC L a b.n) b.t
section
variable {L : List (List (List St))} {p a b d : Po} {k : Int}
theorem rightC_iff : rightC L p = true ↔ (1 ≤ L.length ∧ L.length ≤ 8) ∧ (∀ r ∈ L, r.length = L.length) ∧ (0 ≤ p.n ∧ p.n < (L.length : Int)) ∧ p.t.rightB = true := by
  unfold rightC; simp [and_assoc]
theorem rc_len (h : L.length < 1 ∨ 8 < L.length) : rightC L p = false := by
  rw [← Bool.not_eq_true, rightC_iff]; intro z; omega
theorem rc_row {i : Nat} (hi : i < L.length) (h : ¬ (at3 L i).length = L.length) : rightC L p = false := by
  rw [← Bool.not_eq_true, rightC_iff]
  intro z
  exact h (z.2.1 _ (by rw [at3_eq hi]; exact List.getElem_mem hi))
theorem rc_fin {i : Int} (h1 : 1 ≤ L.length ∧ L.length ≤ 8) (h : ∀ k, k < i.toNat → (at3 L k).length = L.length) (hi : ¬ i < (L.length : Int)) : rightC L p = (decide (0 ≤ p.n ∧ p.n < (L.length : Int)) && p.t.rightB) := by
  unfold rightC
  rw [decide_eq_true h1, Bool.true_and, show L.all (fun r => decide (r.length = L.length)) = true from ?_, Bool.true_and]
  rw [List.all_eq_true]
  intro r hr
  obtain ⟨q, hq, e⟩ := List.mem_iff_getElem.1 hr
  have := h q (by omega)
  rw [at3_eq hq, e] at this
  exact decide_eq_true this
theorem rightC_at (h : rightC L p = true) : (1 ≤ L.length ∧ L.length ≤ 8) ∧ (0 ≤ p.n ∧ p.n < (L.length : Int)) ∧ p.t.rightB = true ∧ ∀ i, i < L.length → (at3 L i).length = L.length := by
  have z := rightC_iff.1 h
  exact ⟨z.1, z.2.2.1, z.2.2.2, fun i hi => z.2.1 _ (by rw [at3_eq hi]; exact List.getElem_mem hi)⟩
theorem pl_no (h : rightC L p = false ∨ ¬ (0 ≤ k ∧ k < (L.length : Int))) : placesC L p k = [] := by
  unfold placesC
  rcases h with h | h
  · rw [h]; rfl
  · rw [decide_eq_false h, Bool.and_false]; rfl
theorem pl_yes (h : rightC L p = true) (hk : 0 ≤ k ∧ k < (L.length : Int)) : placesC L p k = minL (sumsP [p.t] (atR (at3 L p.n.toNat) k.toNat)) := by
  unfold placesC; rw [h, decide_eq_true hk]; rfl
theorem could_right (h : couldC L a b = true) : rightC L b = true := by
  unfold couldC at h; rw [Bool.and_eq_true] at h; exact h.1
theorem mem_sums1 {t : St} {l : List St} {s : St} : s ∈ sumsP [t] l ↔ ∃ q ∈ l, t.afterB q = true ∧ t.after q = s := by
  rw [mem_sums]; simp
theorem aft_len (t : St) (l : List St) (k : Nat) : (partP [t] l 0 k).length ≤ l.length := by
  unfold partP
  simp only [List.take_zero, sumsP, List.flatMap_nil, List.nil_append, List.length_map]
  exact Nat.le_trans (List.length_filter_le _ _) (by rw [List.length_take]; omega)
theorem aft_zero (t : St) (l : List St) : [] = partP [t] l 0 (0 : Int).toNat := by simp [partP, sumsP]
theorem aft_end {t : St} {l : List St} {k : Int} (h : ¬ k < (l.length : Int)) : partP [t] l 0 k.toNat = sumsP [t] l := by
  have e : l.take k.toNat = l := List.take_of_length_le (by omega)
  simp only [partP, List.take_zero, e, sumsP, List.flatMap_nil, List.nil_append, List.flatMap_cons, List.append_nil]
  rfl
theorem cov_minL {l : List St} {t : St} : covB (minL l) t = true ↔ ∃ s ∈ l, s.leB t = true := by rw [min_cov, cov_iff]
theorem min_one (t : St) : minL [t] = [t] := (minL_of (fun k hk => by simp at hk) (fun s => by
  simp only [List.mem_singleton]
  exact ⟨fun h => ⟨h, fun u hu _ => hu.trans h.symm⟩, fun h => h.1⟩)).symm
end
theorem placesC_len {L : List (List (List St))} {a : Po} {k : Int} (hs : Sm3 L) : (placesC L a k).length ≤ 20000000 := by
  unfold placesC
  split
  · refine Nat.le_trans (minL_len _) (Nat.le_trans (sums_len _ _) ?_)
    have := hs.2.2 a.n.toNat k.toNat
    simp only [List.length_singleton]; omega
  · simp
/-! ### By a graph's closure -/
section
variable {n : Nat} {E : List Ed} {a b d p : Po} {k : Int}
theorem rightC_clo (h1 : 1 ≤ n) (h8 : n ≤ 8) : rightC (cloT E n n) p = true ↔ (0 ≤ p.n ∧ p.n < (n : Int)) ∧ p.t.rightB = true := by
  rw [rightC_iff, cloT_len]
  constructor
  · intro h; exact h.2.2
  · intro h
    refine ⟨⟨h1, h8⟩, fun r hr => ?_, h⟩
    obtain ⟨q, hq, rfl⟩ := List.mem_map.1 hr
    exact row_len E n q n
theorem could_iff (hF : Fits (n : Int) E) (h1 : 1 ≤ n) (h8 : n ≤ 8) : couldC (cloT E n n) a b = true ↔
    ((0 ≤ a.n ∧ a.n < (n : Int)) ∧ a.t.rightB = true) ∧ ((0 ≤ b.n ∧ b.n < (n : Int)) ∧ b.t.rightB = true) ∧ ∃ s, WayS E a.n b.n s ∧ a.t.afterB s = true ∧ (a.t.after s).leB b.t = true := by
  unfold couldC
  rw [Bool.and_eq_true, rightC_clo h1 h8]
  by_cases ha : rightC (cloT E n n) a = true
  · have ha2 := (rightC_clo h1 h8).1 ha
    constructor
    · rintro ⟨hb, hc⟩
      rw [pl_yes ha (by rw [cloT_len]; exact hb.1), cov_minL] at hc
      obtain ⟨m, hm, hle⟩ := hc
      obtain ⟨q, hq, hq1, rfl⟩ := mem_sums1.1 hm
      rw [cloT_at (by omega)] at hq
      have hw := clo_sound hF (i := a.n.toNat) (j := b.n.toNat) (by omega) (by omega) hq
      rw [show ((a.n.toNat : Nat) : Int) = a.n by omega, show ((b.n.toNat : Nat) : Int) = b.n by omega] at hw
      exact ⟨ha2, hb, q, hw, hq1, hle⟩
    · rintro ⟨_, hb, s, hw, hs1, hle⟩
      refine ⟨hb, ?_⟩
      rw [pl_yes ha (by rw [cloT_len]; exact hb.1), cov_minL]
      have hc := way_cov hF (i := a.n) (j := b.n) ha2.1.1 ha2.1.2 hw
      obtain ⟨q, hq, hqs⟩ := cov_iff.1 hc
      have hqr : q.rightB = true := by
        rw [cloT_at (by omega)] at hq
        exact way_right (clo_sound hF (by omega) (by omega) hq)
      have z := after_mono (p := a.t) (q := s) (m := a.t) (n := q) (St.le_refl _) hqs ha2.2 hqr hs1
      exact ⟨_, mem_sums1.2 ⟨q, hq, z.1, rfl⟩, St.le_trans z.2 hle⟩
  · rw [Bool.not_eq_true] at ha
    constructor
    · rintro ⟨_, hc⟩; rw [pl_no (.inl ha)] at hc; cases hc
    · rintro ⟨h, _⟩; rw [(rightC_clo h1 h8).2 h] at ha; cases ha
theorem could_self (hF : Fits (n : Int) E) (h1 : 1 ≤ n) (h8 : n ≤ 8) : couldC (cloT E n n) a a = rightC (cloT E n n) a := by
  rw [Bool.eq_iff_iff, could_iff hF h1 h8, rightC_clo h1 h8]
  refine ⟨fun h => h.1, fun h => ⟨h, h, St.zero, way_nil _ _, ?_⟩⟩
  have hr := St.right_iff.1 h.2
  have ha : a.t.afterB St.zero = true := by
    unfold St.afterB
    rw [Bool.and_eq_true, Bool.and_eq_true]
    exact ⟨⟨h.2, by decide⟩, St.right_iff.2 (by simp only [St.add, St.zero]; omega)⟩
  have z := after_t ha
  refine ⟨ha, ?_⟩
  rw [St.le_iff]
  have z0 : St.zero.e = 0 ∧ St.zero.r = 0 := ⟨rfl, rfl⟩
  omega
theorem could_trans (hF : Fits (n : Int) E) (h1 : 1 ≤ n) (h8 : n ≤ 8) (hx : couldC (cloT E n n) a b = true) (hy : couldC (cloT E n n) b d = true) : couldC (cloT E n n) a d = true := by
  rw [could_iff hF h1 h8] at *
  obtain ⟨ha, hb, s, hs, hs1, hs2⟩ := hx
  obtain ⟨_, hd, u, hu, hu1, hu2⟩ := hy
  have e1 := after_t hs1
  have e2 := after_t hu1
  have l1 := St.le_iff.1 hs2
  have l2 := St.le_iff.1 hu2
  have hdr := St.right_iff.1 hd.2
  have har := St.right_iff.1 ha.2
  have hsu : s.afterB u = true := by
    unfold St.afterB
    rw [Bool.and_eq_true, Bool.and_eq_true]
    exact ⟨⟨way_right hs, way_right hu⟩, St.right_iff.2 (by simp only [St.add]; omega)⟩
  have e3 := after_t hsu
  have hasu : a.t.afterB (s.after u) = true := by
    unfold St.afterB
    rw [Bool.and_eq_true, Bool.and_eq_true]
    exact ⟨⟨ha.2, after_right hsu⟩, St.right_iff.2 (by simp only [St.add]; omega)⟩
  have e4 := after_t hasu
  exact ⟨ha, hd, s.after u, way_add hs hu hsu, hasu, St.le_iff.2 (by omega)⟩
theorem could_mono {a' b' : Po} (hF : Fits (n : Int) E) (h1 : 1 ≤ n) (h8 : n ≤ 8) (h : couldC (cloT E n n) a b = true) (ha : a'.n = a.n) (hb : b'.n = b.n) (la : a'.t.leB a.t = true) (lb : b.t.leB b'.t = true) (ra : a'.t.rightB = true) (rb : b'.t.rightB = true) : couldC (cloT E n n) a' b' = true := by
  rw [could_iff hF h1 h8] at *
  obtain ⟨ha2, hb2, s, hs, hs1, hs2⟩ := h
  have z := after_mono (p := a.t) (q := s) (m := a'.t) (n := s) la (St.le_refl _) ra (way_right hs) hs1
  exact ⟨⟨by rw [ha]; exact ha2.1, ra⟩, ⟨by rw [hb]; exact hb2.1, rb⟩, s, by rw [ha, hb]; exact hs, z.1, St.le_trans z.2 (St.le_trans hs2 lb)⟩
theorem could_edge (hF : Fits (n : Int) E) (h1 : 1 ≤ n) (h8 : n ≤ 8) (h : couldC (cloT E n n) a b = true) {x : Ed} (hx : x ∈ E) (hf : b.n = x.f) (ht : (b.t.add x.p).rightB = true) : couldC (cloT E n n) a ⟨x.t, b.t.add x.p⟩ = true := by
  have hfx := fit_t hF hx
  refine could_trans (b := b) hF h1 h8 h ?_
  rw [could_iff hF h1 h8] at *
  obtain ⟨_, hb2, _⟩ := h
  have hp : St.zero.afterB x.p = true := by
    unfold St.afterB
    rw [Bool.and_eq_true, Bool.and_eq_true]
    exact ⟨⟨by decide, hfx.2.2.2.2.2⟩, St.right_iff.2 (by simp only [St.add, St.zero]; omega)⟩
  have e1 := after_t hp
  have hw : WayS E b.n x.t (St.zero.after x.p) := way_snoc (i := b.n) (s := St.zero) (by rw [hf]; exact way_nil _ _) hx hp
  have e0 : St.zero.after x.p = x.p := by rw [St.eq_iff]; simp only [St.zero] at e1 ⊢; omega
  rw [e0] at hw
  have hbp : b.t.afterB x.p = true := by
    unfold St.afterB
    rw [Bool.and_eq_true, Bool.and_eq_true]
    exact ⟨⟨hb2.2, hfx.2.2.2.2.2⟩, ht⟩
  have e2 : b.t.after x.p = b.t.add x.p := by unfold St.after; rw [if_pos hbp]
  exact ⟨hb2, ⟨by simp only; omega, ht⟩, x.p, hw, hbp, by rw [e2]; exact St.le_refl _⟩
theorem places_self (hF : Fits (n : Int) E) (h1 : 1 ≤ n) (h8 : n ≤ 8) (ha : rightC (cloT E n n) a = true) : placesC (cloT E n n) a a.n = [a.t] := by
  have ha2 := (rightC_clo h1 h8).1 ha
  rw [pl_yes ha (by rw [cloT_len]; exact ha2.1), self_one hF (by omega)]
  have hz : sumsP [a.t] [St.zero] = [a.t] := sums_zero (A := [a.t]) fun q hq => by rw [List.mem_singleton.1 hq]; exact ha2.2
  rw [hz]
  exact min_one a.t
theorem places_each (ha : rightC (cloT E n n) a = true) (hk : 0 ≤ k ∧ k < (n : Int)) (h1 : 1 ≤ n) (h8 : n ≤ 8) {i : Nat} (hi : i < (placesC (cloT E n n) a k).length) : couldC (cloT E n n) a ⟨k, atS (placesC (cloT E n n) a k) i⟩ = true := by
  have hm : atS (placesC (cloT E n n) a k) i ∈ placesC (cloT E n n) a k := atS_mem hi
  unfold couldC
  rw [Bool.and_eq_true, rightC_clo h1 h8]
  refine ⟨⟨hk, ?_⟩, cov_iff.2 ⟨_, hm, St.le_refl _⟩⟩
  rw [pl_yes ha (by rw [cloT_len]; exact hk)] at hm ⊢
  exact sums_right (mem_minL.1 hm).1
end
theorem places_ne {L : List (List (List St))} {a : Po} {k : Int} {i : Nat} (h : i < (placesC L a k).length) : rightC L a = true ∧ (0 ≤ k ∧ k < (L.length : Int)) := by
  cases hr : rightC L a with
  | false => rw [pl_no (.inl hr)] at h; simp at h
  | true =>
    by_cases hk : 0 ≤ k ∧ k < (L.length : Int)
    · exact ⟨rfl, hk⟩
    · rw [pl_no (.inr hk)] at h; simp at h
theorem places_right {L : List (List (List St))} {a : Po} {k : Int} {i : Nat} (h : i < (placesC L a k).length) : (atS (placesC L a k) i).rightB = true := by
  have h2 := places_ne h
  have hm : atS (placesC L a k) i ∈ placesC L a k := atS_mem h
  rw [pl_yes h2.1 h2.2] at hm ⊢
  exact sums_right (mem_minL.1 hm).1
theorem right_same {L : List (List (List St))} {a : Po} {k : Int} {t : St} (ha : rightC L a = true) (hk : 0 ≤ k ∧ k < (L.length : Int)) (ht : t.rightB = true) : rightC L ⟨k, t⟩ = true := by
  have z := rightC_iff.1 ha
  exact rightC_iff.2 ⟨z.1, z.2.1, hk, ht⟩
theorem could_cov {L : List (List (List St))} {a : Po} {k : Int} {t : St} {i : Nat} (h : i < (placesC L a k).length) (ht : t.rightB = true) : couldC L a ⟨k, t⟩ = covB (placesC L a k) t := by
  have h2 := places_ne h
  unfold couldC
  rw [right_same h2.1 h2.2 ht, Bool.true_and]
theorem could_at {L : List (List (List St))} {a : Po} {k : Int} {i : Nat} (h : i < (placesC L a k).length) : couldC L a ⟨k, atS (placesC L a k) i⟩ = true := by
  rw [could_cov h (places_right h), cov_iff]
  exact ⟨_, atS_mem h, St.le_refl _⟩
theorem could_no {L : List (List (List St))} {a : Po} (b : Po) (h : rightC L a = false) : couldC L a b = false ∧ couldC L b a = false := by
  unfold couldC
  rw [pl_no (.inl h), h]
  exact ⟨by simp [covB], rfl⟩
theorem places_nil {a : Po} {k : Int} : placesC [] a k = [] := pl_no (.inl (rc_len (by simp)))
theorem places_bad {n : Int} {E : List Ed} {a : Po} {k : Int} (h : ¬ (cloG n E).2 = 0) : (placesC (cloG n E).1 a k).length = 0 := by
  have z := clo_none h
  rw [List.length_eq_zero_iff.1 z, places_nil]; rfl
theorem sm_light {L : List (List (List St))} (h : L.length ≤ 20 ∧ ∀ k, k < L.length → (at3 L k).length ≤ 20 ∧ ∀ q, q < (at3 L k).length → (atR (at3 L k) q).length < 3000) : Sm3 L := by
  refine ⟨by omega, fun i => ?_, fun i j => ?_⟩
  · rcases Nat.lt_or_ge i L.length with hi | hi
    · have := (h.2 i hi).1; omega
    · rw [at3_out hi]; simp
  · rcases Nat.lt_or_ge i L.length with hi | hi
    · rcases Nat.lt_or_ge j (at3 L i).length with hj | hj
      · have := (h.2 i hi).2 j hj; omega
      · rw [atR_out hj]; simp
    · rw [at3_out hi]; simp [atR]
theorem could_both {n : Nat} {E : List Ed} {a b : Po} (hF : Fits (n : Int) E) (h1 : 1 ≤ n) (h8 : n ≤ 8) (h : couldC (cloT E n n) a b = true) :
    (0 ≤ a.n ∧ a.n < (n : Int) ∧ 0 ≤ a.t.e ∧ a.t.e ≤ 1000000 ∧ 0 ≤ a.t.r ∧ a.t.r ≤ 1000000) ∧ 0 ≤ b.n ∧ b.n < (n : Int) ∧ 0 ≤ b.t.e ∧ b.t.e ≤ 1000000 ∧ 0 ≤ b.t.r ∧ b.t.r ≤ 1000000 := by
  obtain ⟨ha, hb, _⟩ := (could_iff hF h1 h8).1 h
  have := St.right_iff.1 ha.2
  have := St.right_iff.1 hb.2
  omega
theorem places_anti {L : List (List (List St))} {a : Po} {k : Int} {i j : Nat} (hj : j < i) (hi : i < (placesC L a k).length) : (atS (placesC L a k) j).leB (atS (placesC L a k) i) = false := by
  unfold placesC at *
  split at hi
  · rename_i h
    simp only [h, if_true]
    exact Bool.eq_false_iff.2 fun h2 => min_false h2 (by omega) (by omega) (by simpa only [h, if_true] using hi)
  · simp at hi
end Go.Proofs.Ytboinbmgndomhaa
namespace Go.Proofs.Ytboinbmgndomhaa
open Go.ChangeShapes Go.WideShapes Go.ChangeAt Go.RowKit Go.Joins Go.Deep
set_option maxRecDepth 100000
set_option linter.unusedSimpArgs false
set_option linter.unusedVariables false

def encSt : Enc St := ⟨2, fun s => [.int .i64 s.e, .int .i64 s.r], St.zero, fun _ => rfl, fun s v h => by
  simp only [List.mem_cons, List.not_mem_nil, or_false] at h
  rcases h with rfl | rfl <;> rfl⟩
theorem cE_cS (L : List St) : cE encSt L = cS L := by
  induction L with
  | nil => rfl
  | cons a r ih => show [Value.int .i64 a.e, .int .i64 a.r] ++ cE encSt r = cS (a :: r); rw [ih]; rfl
section
variable {P : Program} {t e : TypeId} {α β : Type}
theorem openSS [Inhabited β] {H : Type} {enc : TypeId × Value → H} {W : World} {J : Value → β → Prop} (hut : P.underlying t = some (.slice e)) (hC : P.cellsOf e = 1)
    (ho : ∀ {fuel : Nat} {v : Value} {x : DataW H × List MemPlace}, DataW.trod enc P W 0 (fun _ => true) true fuel e [v] = some x → ∃ b, J v b) {fuel : Nat} {cs : List Value} {x : DataW H × List MemPlace} (hf : DataW.trod enc P W 0 (fun _ => true) true fuel t cs = some x) :
    ∃ (v : Value) (vs : List Value) (L : List β), cs = [v] ∧ vs.length = L.length ∧ RdV W 1 v L.length (cV vs) ∧ ∀ i, i < L.length → J (atV vs i) (L.getD i default) := by
  rcases open_slice1 hut hC hf with ⟨hcs, _⟩ | ⟨a, len', cap', m, n, V, D, Pl, hcs, _, hl, hm, hmm, _, hel⟩
  · exact ⟨_, [], [], hcs, rfl, nil_rd W, fun i hi => absurd hi (Nat.not_lt_zero i)⟩
  · have hlm : len' ≤ m := by rw [hmm]; split <;> omega
    have hb : ∀ i, i < len' → ∃ b, J (V i) b := fun i hi => ho (hel i (by omega)).2
    obtain ⟨f, hf⟩ : ∃ f : Nat → β, ∀ i, i < len' → J (V i) (f i) := by
      refine ⟨fun i => if hi : i < len' then Classical.choose (hb i hi) else default, fun i hi => ?_⟩
      simp only [hi, dif_pos]
      exact Classical.choose_spec (hb i hi)
    have hvl : ((List.range len').map V).length = len' := by simp
    have hll : ((List.range len').map f).length = len' := by simp
    have hva : ∀ i, i < len' → atV ((List.range len').map V) i = V i := fun i hi => by rw [atV_eq (by rw [hvl]; exact hi)]; simp
    refine ⟨_, (List.range len').map V, (List.range len').map f, hcs, by rw [hvl, hll], ?_, fun i hi => ?_⟩
    · rw [hll]
      refine ⟨by rw [Nat.mul_one]; exact hvl, some a, cap', rfl, hl, hm, fun hp => ?_⟩
      have h3 := cell_spot (hel 0 (by omega)).1
      rw [show a.add 0 = a from by simp [Addr.add]] at h3
      refine ⟨a.block, a.off, by cases a; simp_all, h3.2, fun j u hj => ?_⟩
      have hj2 : j < len' := by
        have := (List.getElem?_eq_some_iff.1 hj).1
        rw [show (cV ((List.range len').map V)).length = len' from hvl] at this; exact this
      have hu : u = V j := by
        have h5 := (List.getElem?_eq_some_iff.1 hj).2
        rw [← h5]; simp [cV]
      have := (hel j (by omega)).1
      rw [add_lit h3.1] at this
      rw [hu]; exact this
    · rw [hll] at hi
      rw [hva i hi, List.getD_eq_getElem?_getD, List.getElem?_eq_getElem (by rw [hll]; exact hi)]
      simpa using hf i hi
theorem chunks {f : α → List Value} {I : α → Prop} {m : Nat} (hm : ∀ a, (f a).length = m) : ∀ (n : Nat) (cs : List Value), cs.length = n * m → (∀ i, i < n → ∃ a, (cs.drop (i * m)).take m = f a ∧ I a) → ∃ L : List α, L.length = n ∧ cs = L.flatMap f ∧ ∀ a ∈ L, I a
  | 0, cs, hl, _ => ⟨[], rfl, by simpa using hl, fun a ha => by cases ha⟩
  | n + 1, cs, hl, h => by
    obtain ⟨a, ha, hI⟩ := h 0 (by omega)
    rw [Nat.zero_mul, List.drop_zero] at ha
    obtain ⟨L, h1, h2, h3⟩ := chunks hm n (cs.drop m) (by rw [List.length_drop, hl, Nat.add_mul]; omega) fun i hi => by
      have := h (i + 1) (by omega)
      rwa [show (i + 1) * m = m + i * m by rw [Nat.add_mul]; omega, ← List.drop_drop] at this
    refine ⟨a :: L, by simp [h1], ?_, fun b hb => ?_⟩
    · rw [List.flatMap_cons, ← ha, ← h2, List.take_append_drop]
    · rcases List.mem_cons.1 hb with rfl | hb
      · exact hI
      · exact h3 b hb
/-- An array of structs that came in by value. -/
theorem openA {H : Type} {enc : TypeId × Value → H} {W : World} {n m : Nat} {f : α → List Value} {I : α → Prop} (hm : ∀ a, (f a).length = m) (hua : P.underlying t = some (.array n e)) (hC : P.cellsOf e = m) (hCa : P.cellsOf t = n * m) (ho : Opens P e f I) {v : Value} {d : DataW H} {ps : List MemPlace} {base : Nat} (hval : Value.okWide P W .any base t v) (h : DataW.Trod enc P W 0 (fun _ => true) true t v d ps) :
    ∃ L : List α, L.length = n ∧ v = .agg (L.flatMap f).toArray ∧ ∀ a ∈ L, I a := by
  unfold Value.okWide at hval
  rw [hua] at hval
  obtain ⟨cs, rfl, hsz, _⟩ := hval
  obtain ⟨fuel, hf⟩ := h
  obtain ⟨xs, q, _, _, hl, hlen, heach⟩ := DataW.trod_array hua hf
  have hcs : (Value.agg cs).cells = cs := rfl
  rw [hcs] at heach
  obtain ⟨L, h1, h2, h3⟩ := chunks (I := I) hm n cs.toList (by rw [Array.length_toList, hsz, hCa]) fun i hi => by
    have e0 := heach i hi
    rw [hC, List.getElem?_eq_getElem (by omega)] at e0
    obtain ⟨a, ha, hI⟩ := ho e0
    exact ⟨a, ha, hI⟩
  refine ⟨L, h1, ?_, h3⟩
  congr 1
  exact Array.ext' (by simpa using h2)
end
def Po.I (p : Po) : Prop := I64 p.n ∧ p.t.I
def poF (p : Po) : List Value := [.int .i64 p.n, .int .i64 p.t.e, .int .i64 p.t.r]
theorem opensPo : Opens Try.prog 34 poF Po.I := by
  intro H enc W base sp held fuel cs x hx
  obtain ⟨p, hp, hI⟩ := opens_struct2 (m0 := 1) (m1 := 2) Try.underlying34 (opens_int Try.underlying3) (opens_pair Try.underlying32 (by kernel_rfl) (by kernel_rfl) rfl rfl Try.underlying3) (by kernel_rfl) hx
  exact ⟨⟨p.1, p.2⟩, hp, hI⟩
section
variable {H : Type} {enc : TypeId × Value → H} {W : World}
theorem openPo {v : Value} {d : DataW H} {ps : List MemPlace} {base : Nat} (hval : Value.okWide Try.prog W .any base 34 v) (h : DataW.Trod enc Try.prog W 0 (fun _ => true) true 34 v d ps) :
    ∃ p : Po, v = .agg #[.int .i64 p.n, .int .i64 p.t.e, .int .i64 p.t.r] ∧ p.I := openV Try.underlying34 opensPo hval h
end
theorem rdPo : Try.prog.readableRec 34 = true ∧ 34 < Try.prog.types.size := ⟨by kernel_rfl, of_decide_eq_true (by kernel_rfl)⟩
theorem opensP : Opens Try.prog 49 encSt.f St.I := by
  intro H enc W base sp held fuel cs x hx
  exact opens_pair Try.underlying49 (by kernel_rfl) (by kernel_rfl) rfl rfl Try.underlying3 hx
section
variable {H : Type} {enc : TypeId × Value → H} {W : World}
theorem openC3 {v : Value} {d : DataW H} {ps : List MemPlace} {base : Nat} (hval : Value.okWide Try.prog W .any base 56 v) (h : DataW.Trod enc Try.prog W 0 (fun _ => true) true 56 v d ps) :
    ∃ (L : List (List (List St))) (rs : List Value) (vss : List (List Value)), Rd3 v rs vss L W := by
  obtain ⟨a0, len, cap, rfl⟩ := okWide_slice Try.underlying56 hval
  obtain ⟨fuel, hf⟩ := h
  obtain ⟨v, rs, B, hcs, hlen, htop, hrow⟩ := openSS (β := List Value × List (List St)) (J := fun v b => b.1.length = b.2.length ∧ RdV W 1 v b.2.length (cV b.1) ∧ ∀ i, i < b.2.length → RdS W (atV b.1 i) (atR b.2 i)) Try.underlying56 (by kernel_rfl) (fun {_ v _} hx => by
    obtain ⟨v', vs, L, hcs, h1, h2, h3⟩ := openSS (β := List St) (J := fun v l => RdS W v l) Try.underlying78 (by kernel_rfl) (fun {_ v _} hx => by
      obtain ⟨v', L, hcs, hr, _⟩ := openE1 encSt Try.underlying93 (by kernel_rfl) (by decide) opensP hx
      have e : v = v' := by simpa using hcs
      subst e
      rw [cE_cS] at hr
      exact ⟨L, hr⟩) hx
    have e : v = v' := by simpa using hcs
    subst e
    exact ⟨(vs, L), h1, h2, h3⟩) hf
  have e : Value.slice a0 len cap = v := by simpa [Value.cells] using hcs
  subst e
  have hat : ∀ i, i < B.length → atW (B.map (·.1)) i = (B.getD i default).1 ∧ at3 (B.map (·.2)) i = (B.getD i default).2 := fun i hi => by
    unfold atW at3
    simp only [List.getD_eq_getElem?_getD, List.getElem?_map, List.getElem?_eq_getElem hi]
    exact ⟨rfl, rfl⟩
  refine ⟨B.map (·.2), rs, B.map (·.1), ⟨by simpa using htop, ⟨by simpa using hlen, by simp, fun i hi => ?_, fun i hi => ?_, fun i j hi hj => ?_⟩⟩⟩
  · rw [List.length_map] at hi
    rw [(hat i hi).1, (hat i hi).2]; exact (hrow i hi).1
  · rw [List.length_map] at hi
    rw [(hat i hi).1, (hat i hi).2]; exact (hrow i hi).2.1
  · rw [List.length_map] at hi
    rw [(hat i hi).2] at hj ⊢
    rw [(hat i hi).1]; exact (hrow i hi).2.2 j hj
end
theorem rdC3 : Try.prog.readableRec 56 = true ∧ 56 < Try.prog.types.size := ⟨by kernel_rfl, of_decide_eq_true (by kernel_rfl)⟩
end Go.Proofs.Ytboinbmgndomhaa
namespace Go.Proofs.Ytboinbmgndomhaa
open Go.RowKit
set_option maxRecDepth 100000
set_option linter.unusedSimpArgs false
set_option linter.unusedVariables false

def stV (s : St) : Value := .agg #[.int .i64 s.e, .int .i64 s.r]
def iV (n : Int) : Value := .int .i64 n
theorem stV_inj (a b : St) (h : stV a = stV b) : a = b := by
  simp only [stV, Value.agg.injEq, Array.mk.injEq, List.cons.injEq, Value.int.injEq] at h
  exact St.eq_iff.2 ⟨h.1.2, h.2.1.2⟩
/-! ### Counts by their stamps -/
def ofC (C : List Ct) (t : St) : Int := (getM C t).getD 0
theorem of_elim (C : List Ct) (t : St) : (getM C t).elim (.int .i64 0) iV = .int .i64 (ofC C t) := by
  unfold ofC; cases getM C t <;> rfl
def AscC (C : List Ct) : Prop := C.Pairwise fun p q => p.1.aheadB q.1 = true
structure BagOK (C : List Ct) : Prop where
  asc : AscC C
  ok : ∀ p ∈ C, p.2 ≠ 0 ∧ -1000000000 ≤ p.2 ∧ p.2 ≤ 1000000000 ∧ p.1.rightB = true
theorem AscC.nodup {C : List Ct} (h : AscC C) : C.Pairwise (fun p q => p.1 ≠ q.1) := h.imp fun h e => by rw [e, ahead_irr] at h; cases h
theorem pw_nodup {C : List Ct} (h : C.Pairwise (fun p q => p.1 ≠ q.1)) : C.Nodup := h.imp fun h e => h (by rw [e])
theorem AscC.keys {C : List Ct} (h : AscC C) : Asc (C.map (·.1)) := fun i hi => by
  have hp : (C.map (·.1)).Pairwise (fun a b => St.aheadB a b = true) := by rw [List.pairwise_map]; exact h
  rw [List.length_map] at hi
  have := List.pairwise_iff_getElem.1 hp i (i + 1) (by simpa using (show i < C.length by omega)) (by simpa using hi) (by omega)
  rwa [atS_eq (by simpa using (show i < C.length by omega)), atS_eq (by simpa using hi)]
theorem AscC.uniq : ∀ {L K : List Ct}, AscC L → AscC K → (∀ p, p ∈ L ↔ p ∈ K) → L = K
  | [], [], _, _, _ => rfl
  | [], k :: K, _, _, h => by have := (h k).2 (by simp); simp at this
  | l :: L, [], _, _, h => by have := (h l).1 (by simp); simp at this
  | l :: L, k :: K, hl, hk, h => by
    obtain ⟨l1, l2⟩ := List.pairwise_cons.1 hl
    obtain ⟨k1, k2⟩ := List.pairwise_cons.1 hk
    have e : l = k := by
      rcases List.mem_cons.1 ((h l).1 (by simp)) with h1 | h1
      · exact h1
      · rcases List.mem_cons.1 ((h k).2 (by simp)) with h2 | h2
        · exact h2.symm
        · have := ahead_trans (k1 l h1) (l1 k h2)
          rw [ahead_irr] at this; cases this
    subst e
    congr 1
    refine AscC.uniq l2 k2 fun p => ⟨fun hp => ?_, fun hp => ?_⟩
    · rcases List.mem_cons.1 ((h p).1 (by simp [hp])) with h1 | h1
      · subst h1; have := l1 _ hp; rw [ahead_irr] at this; cases this
      · exact h1
    · rcases List.mem_cons.1 ((h p).2 (by simp [hp])) with h1 | h1
      · subst h1; have := k1 _ hp; rw [ahead_irr] at this; cases this
      · exact h1
theorem of_mem {C : List Ct} (h : C.Pairwise (fun p q => p.1 ≠ q.1)) {p : Ct} (hp : p ∈ C) : ofC C p.1 = p.2 := by
  unfold ofC; rw [getM_some h (show (p.1, p.2) ∈ C from hp)]; rfl
theorem of_not {C : List Ct} {t : St} (h : ∀ p ∈ C, p.1 ≠ t) : ofC C t = 0 := by unfold ofC; rw [getM_none h]; rfl
theorem of_pos {C : List Ct} {t : St} (h : ofC C t ≠ 0) : (t, ofC C t) ∈ C := by
  unfold ofC at h ⊢
  cases hg : getM C t with
  | none => rw [hg] at h; exact absurd rfl h
  | some v => exact getM_mem hg
theorem BagOK.mem {C : List Ct} (h : BagOK C) {p : Ct} : p ∈ C ↔ ofC C p.1 = p.2 ∧ p.2 ≠ 0 := by
  constructor
  · intro hp; exact ⟨of_mem h.asc.nodup hp, (h.ok p hp).1⟩
  · rintro ⟨h1, h2⟩
    have := of_pos (C := C) (t := p.1) (by rw [h1]; exact h2)
    rw [h1] at this; exact this
theorem BagOK.ext {C K : List Ct} (h : BagOK C) (hk : BagOK K) (he : ∀ t, ofC C t = ofC K t) : C = K := h.asc.uniq hk.asc fun p => by rw [h.mem, hk.mem, he]
theorem BagOK.bound {C : List Ct} (h : BagOK C) (t : St) : -1000000000 ≤ ofC C t ∧ ofC C t ≤ 1000000000 := by
  by_cases h0 : ofC C t = 0
  · omega
  · have := (h.ok _ (of_pos h0)).2
    exact ⟨this.1, this.2.1⟩
theorem bag_nil : BagOK [] := ⟨List.Pairwise.nil, fun p hp => by cases hp⟩
theorem of_nil (t : St) : ofC [] t = 0 := rfl
/-! ### One count set -/
def setC : List Ct → St → Int → List Ct
  | [], t, n => if n = 0 then [] else [(t, n)]
  | p :: r, t, n => if p.1.aheadB t then p :: setC r t n else if p.1 = t then (if n = 0 then r else (t, n) :: r) else if n = 0 then p :: r else (t, n) :: p :: r
theorem mem_setC {C : List Ct} (h : AscC C) {t : St} {n : Int} {q : Ct} : q ∈ setC C t n ↔ (q ∈ C ∧ q.1 ≠ t) ∨ (q = (t, n) ∧ n ≠ 0) := by
  induction C with
  | nil =>
    unfold setC
    split <;> rename_i h0 <;> simp [h0]
  | cons p r ih =>
    obtain ⟨h1, h2⟩ := List.pairwise_cons.1 h
    unfold setC
    split
    · rename_i hp
      rw [List.mem_cons, List.mem_cons, ih h2]
      constructor
      · rintro (h3 | h3 | h3)
        · exact .inl ⟨.inl h3, fun e => by rw [← h3, e, ahead_irr] at hp; cases hp⟩
        · exact .inl ⟨.inr h3.1, h3.2⟩
        · exact .inr h3
      · rintro (⟨h3 | h3, h4⟩ | h3)
        · exact .inl h3
        · exact .inr (.inl ⟨h3, h4⟩)
        · exact .inr (.inr h3)
    · rename_i hp
      have hr : ∀ u ∈ r, u.1 ≠ t := fun u hu e => by
        have := h1 u hu; rw [e] at this; exact hp this
      split
      · rename_i hpt
        split
        · rename_i h0
          constructor
          · intro h3; exact .inl ⟨List.mem_cons_of_mem _ h3, hr q h3⟩
          · rintro (⟨h3, h4⟩ | h3)
            · rcases List.mem_cons.1 h3 with h5 | h5
              · rw [h5] at h4; exact absurd hpt h4
              · exact h5
            · exact absurd h0 h3.2
        · rename_i h0
          rw [List.mem_cons]
          constructor
          · rintro (h3 | h3)
            · exact .inr ⟨h3, h0⟩
            · exact .inl ⟨List.mem_cons_of_mem _ h3, hr q h3⟩
          · rintro (⟨h3, h4⟩ | h3)
            · rcases List.mem_cons.1 h3 with h5 | h5
              · rw [h5] at h4; exact absurd hpt h4
              · exact .inr h5
            · exact .inl h3.1
      · rename_i hpt
        have hall : ∀ u ∈ p :: r, u.1 ≠ t := fun u hu => by
          rcases List.mem_cons.1 hu with h5 | h5
          · rw [h5]; exact hpt
          · exact hr u h5
        split
        · rename_i h0
          constructor
          · intro h3; exact .inl ⟨h3, hall q h3⟩
          · rintro (h3 | h3)
            · exact h3.1
            · exact absurd h0 h3.2
        · rename_i h0
          rw [List.mem_cons]
          constructor
          · rintro (h3 | h3)
            · exact .inr ⟨h3, h0⟩
            · exact .inl ⟨h3, hall q h3⟩
          · rintro (h3 | h3)
            · exact .inr h3.1
            · exact .inl h3.1
theorem setC_asc {C : List Ct} (h : AscC C) (t : St) (n : Int) : AscC (setC C t n) := by
  induction C with
  | nil => unfold setC; split <;> simp [AscC]
  | cons p r ih =>
    obtain ⟨h1, h2⟩ := List.pairwise_cons.1 h
    unfold setC
    split
    · rename_i hp
      refine List.pairwise_cons.2 ⟨fun q hq => ?_, ih h2⟩
      rcases (mem_setC h2).1 hq with h3 | h3
      · exact h1 q h3.1
      · rw [h3.1]; exact hp
    · rename_i hp
      split
      · rename_i hpt
        split
        · exact h2
        · exact List.pairwise_cons.2 ⟨fun q hq => by rw [← hpt]; exact h1 q hq, h2⟩
      · rename_i hpt
        split
        · exact h
        · refine List.pairwise_cons.2 ⟨fun q hq => ?_, h⟩
          have htp : t.aheadB p.1 = true := by
            cases hq' : t.aheadB p.1 with
            | true => rfl
            | false => exact absurd (ahead_tri (by simpa using hp) hq') hpt
          rcases List.mem_cons.1 hq with h3 | h3
          · rw [h3]; exact htp
          · exact ahead_trans htp (h1 q h3)
theorem setC_len (C : List Ct) (t : St) (n : Int) : (setC C t n).length ≤ C.length + 1 := by
  induction C with
  | nil => unfold setC; split <;> simp
  | cons p r ih =>
    unfold setC
    repeat' split
    all_goals simp only [List.length_cons] at *
    all_goals omega
theorem of_setC {C : List Ct} (h : AscC C) (t : St) (n : Int) (u : St) : ofC (setC C t n) u = if u = t then n else ofC C u := by
  have ha := setC_asc h t n
  split
  · rename_i hu
    subst hu
    by_cases h0 : n = 0
    · refine (of_not fun p hp e => ?_).trans h0.symm
      rcases (mem_setC h).1 hp with h1 | h1
      · exact h1.2 e
      · exact h1.2 h0
    · exact of_mem ha.nodup (p := (u, n)) ((mem_setC h).2 (.inr ⟨rfl, h0⟩))
  · rename_i hu
    by_cases hx : ∃ p, p ∈ C ∧ p.1 = u
    · obtain ⟨p, hp, rfl⟩ := hx
      rw [of_mem h.nodup hp]
      exact of_mem ha.nodup ((mem_setC h).2 (.inl ⟨hp, hu⟩))
    · have hn : ∀ p ∈ C, p.1 ≠ u := fun p hp e => hx ⟨p, hp, e⟩
      rw [of_not hn]
      refine of_not fun p hp e => ?_
      rcases (mem_setC h).1 hp with h1 | h1
      · exact hn p h1.1 e
      · rw [h1.1] at e; exact hu e.symm
theorem mem_delM {C : List Ct} {t : St} {q : Ct} : q ∈ delM C t ↔ q ∈ C ∧ q.1 ≠ t := by simp [delM]
theorem delM_asc {C : List Ct} (h : AscC C) (t : St) : AscC (delM C t) := List.Pairwise.filter _ h
theorem del_setC {C : List Ct} (h : AscC C) (t : St) : delM C t = setC C t 0 := (delM_asc h t).uniq (setC_asc h t 0) fun q => by
  rw [mem_delM, mem_setC h]
  simp
theorem put_setC {C : List Ct} (h : AscC C) {t : St} {n : Int} (hn : n ≠ 0) : ((t, n) :: delM C t).Perm (setC C t n) := by
  refine (List.perm_ext_iff_of_nodup ?_ (pw_nodup (setC_asc h t n).nodup)).2 fun q => ?_
  · refine List.nodup_cons.2 ⟨fun hm => (mem_delM.1 hm).2 rfl, pw_nodup (delM_asc h t).nodup⟩
  · rw [List.mem_cons, mem_delM, mem_setC h]
    constructor
    · rintro (h1 | h1)
      · exact .inr ⟨h1, hn⟩
      · exact .inl h1
    · rintro (h1 | h1)
      · exact .inr h1
      · exact .inl h1.1
/-! ### One more count: what Add answers, and what is there then -/
def addE (C : List Ct) (t : St) (n : Int) : Int := if t.rightB = false then 1 else if 1000000000 < ofC C t + n ∨ ofC C t + n < -1000000000 then 9 else 0
def addC (C : List Ct) (t : St) (n : Int) : List Ct := if addE C t n = 0 then setC C t (ofC C t + n) else C
theorem addE_wrong {C : List Ct} {t : St} {n : Int} (h : t.rightB = false) : addE C t n = 1 := by unfold addE; rw [if_pos h]
theorem addE_over {C : List Ct} {t : St} {n : Int} (h : t.rightB = true) (ho : 1000000000 < ofC C t + n ∨ ofC C t + n < -1000000000) : addE C t n = 9 := by unfold addE; rw [if_neg (by rw [h]; simp), if_pos ho]
theorem addE_ok {C : List Ct} {t : St} {n : Int} (h : t.rightB = true) (ho : ¬ (1000000000 < ofC C t + n ∨ ofC C t + n < -1000000000)) : addE C t n = 0 := by unfold addE; rw [if_neg (by rw [h]; simp), if_neg ho]
theorem addC_no {C : List Ct} {t : St} {n : Int} (h : ¬ addE C t n = 0) : addC C t n = C := if_neg h
theorem addC_yes {C : List Ct} {t : St} {n : Int} (h : addE C t n = 0) : addC C t n = setC C t (ofC C t + n) := if_pos h
theorem add_iff {C : List Ct} {t : St} {n : Int} : addE C t n = 0 ↔ t.rightB = true ∧ -1000000000 ≤ ofC C t + n ∧ ofC C t + n ≤ 1000000000 := by
  unfold addE
  split
  · rename_i h; constructor
    · intro h1; cases h1
    · intro h1; rw [h] at h1; cases h1.1
  · rename_i h
    have : t.rightB = true := by simpa using h
    split
    · rename_i h1; constructor
      · intro h2; cases h2
      · intro h2; omega
    · rename_i h1; exact ⟨fun _ => ⟨this, by omega, by omega⟩, fun _ => rfl⟩
theorem BagOK.add {C : List Ct} (h : BagOK C) (t : St) (n : Int) : BagOK (addC C t n) := by
  by_cases h0 : addE C t n = 0
  · rw [addC_yes h0]
    have h1 := add_iff.1 h0
    refine ⟨setC_asc h.asc _ _, fun p hp => ?_⟩
    rcases (mem_setC h.asc).1 hp with h2 | h2
    · exact h.ok p h2.1
    · rw [h2.1]; exact ⟨h2.2, h1.2.1, h1.2.2, h1.1⟩
  · rw [addC_no h0]; exact h
theorem addC_len (C : List Ct) (t : St) (n : Int) : (addC C t n).length ≤ C.length + 1 := by
  unfold addC; split
  · exact setC_len _ _ _
  · omega
theorem of_add {C : List Ct} (h : AscC C) (t : St) (n : Int) (u : St) : ofC (addC C t n) u = if u = t ∧ addE C t n = 0 then ofC C t + n else ofC C u := by
  by_cases h0 : addE C t n = 0
  · rw [addC_yes h0, of_setC h]
    simp [h0]
  · rw [addC_no h0, if_neg (fun h => h0 h.2)]
/-! ### What is read off -/
def posL (C : List Ct) : List St := (C.filter fun p => decide (0 < p.2)).map (·.1)
def lackB (C : List Ct) : Bool := C.any fun p => decide (p.2 < 0)
theorem mem_posL {C : List Ct} {t : St} : t ∈ posL C ↔ ∃ p ∈ C, 0 < p.2 ∧ p.1 = t := by
  unfold posL
  rw [List.mem_map]
  constructor
  · rintro ⟨p, hp, rfl⟩
    have := List.mem_filter.1 hp
    exact ⟨p, this.1, by simpa using this.2, rfl⟩
  · rintro ⟨p, hp, h1, rfl⟩
    exact ⟨p, List.mem_filter.2 ⟨hp, by simpa using h1⟩, rfl⟩
theorem posL_len (C : List Ct) : (posL C).length ≤ C.length := by unfold posL; rw [List.length_map]; exact List.length_filter_le _ _
theorem lack_iff {C : List Ct} : lackB C = true ↔ ∃ p ∈ C, p.2 < 0 := by unfold lackB; rw [List.any_eq_true]; simp
theorem lack_cons (p : Ct) (C : List Ct) : lackB (p :: C) = (decide (p.2 < 0) || lackB C) := rfl
theorem lack_perm {C C' : List Ct} (h : C.Perm C') : lackB C = lackB C' := by
  rw [Bool.eq_iff_iff, lack_iff, lack_iff]
  constructor
  · rintro ⟨p, h1, h2⟩; exact ⟨p, h.mem_iff.1 h1, h2⟩
  · rintro ⟨p, h1, h2⟩; exact ⟨p, h.mem_iff.2 h1, h2⟩
/-- A bag: a struct with a map in it. -/
def BagV (p g : Nat) (C : List Ct) (w : World) : Prop := Blk w p 87 #[.map (some g)] ∧ MpV g (encM stV iV C) w ∧ BagOK C
theorem BagV.loc (p g : Nat) (C : List Ct) : Loc [p, g] (BagV p g C) := fun w w' hk ⟨h1, h2, h3⟩ => by
  have e1 := blk_loc w w' (fun k hk' => hk k (by simp only [List.mem_singleton] at hk'; simp [hk'])) h1
  have e2 := MpV.loc g _ w w' (fun k hk' => hk k (by simp only [List.mem_singleton] at hk'; simp [hk'])) h2
  refine ⟨⟨e1.1, e2.1, h3⟩, fun k hk' => ?_⟩
  simp only [List.mem_cons, List.not_mem_nil, or_false] at hk'
  rcases hk' with rfl | rfl
  · exact e1.2 k (by simp)
  · exact e2.2 k (by simp)
theorem BagV.ne {p g : Nat} {C : List Ct} {w : World} (h : BagV p g C w) : p ≠ g := by
  rintro rfl
  obtain ⟨h1, ⟨es, clock, h2, _⟩, _⟩ := h
  have : w.heap[p]? = some (.cells #[.map (some p)] 87) := h1
  rw [this] at h2
  cases h2
theorem stKeys : KeyOK Try.prog 32 (fun v => ∃ a, v = stV a) :=
  keyOK_of Try.underlying32 (fun _ _ => rfl) (fun w em a => by
    have hi : ∀ v : Int, (Instr.checkKey em 9999 3 (.int .i64 v)).run Try.prog w = .ok () w := fun v => MapKept.run_checkKey Try.underlying3 (by simp [MapKept.IsKey]) em 9998
    show (Instr.checkKey em (9999 + 1) _ _).run _ _ = _
    rw [Instr.checkKey]
    unfold stV
    simp [go_sem, hi]) (fun w a b => eqS32 a b w) (fun a => by
    unfold stV; simp [Instr.sameBits]) stV_inj
theorem mtBag : MapEn Try.prog 85 32 3 stV iV (.int .i64 0) :=
  ⟨Try.underlying85, ⟨_, stKeys, fun a => ⟨a, rfl⟩⟩, stV_inj, fun w => by kernel_rfl⟩
end Go.Proofs.Ytboinbmgndomhaa
namespace Go.Proofs.Ytboinbmgndomhaa
open Go.RowKit
set_option maxRecDepth 100000
set_option linter.unusedSimpArgs false
set_option linter.unusedVariables false

abbrev Bags := List (List Ct)
def atK (B : Bags) (i : Nat) : List Ct := B.getD i []
theorem atK_eq {B : Bags} {i : Nat} (h : i < B.length) : atK B i = B[i] := by unfold atK; rw [List.getD_eq_getElem?_getD, List.getElem?_eq_getElem h]; rfl
theorem atK_out {B : Bags} {i : Nat} (h : B.length ≤ i) : atK B i = [] := by unfold atK; rw [List.getD_eq_getElem?_getD, List.getElem?_eq_none h]; rfl
theorem atK_set {B : Bags} {i j : Nat} {C : List Ct} (h : i < B.length) : atK (B.set i C) j = if i = j then C else atK B j := by
  unfold atK
  rw [List.getD_eq_getElem?_getD, List.getD_eq_getElem?_getD, List.getElem?_set]
  split
  · rename_i e; subst e; simp [h]
  · rfl
def addTE (L : List (List (List St))) (B : Bags) (p : Po) (x : Int) : Int := if rightC L p = true then addE (atK B p.n.toNat) p.t x else 1
def addTB (L : List (List (List St))) (B : Bags) (p : Po) (x : Int) : Bags := if rightC L p = true then B.set p.n.toNat (addC (atK B p.n.toNat) p.t x) else B
def atT (B : Bags) (k : Int) : List Ct := if 0 ≤ k ∧ k < (B.length : Int) then atK B k.toNat else []
def nodePl (L : List (List (List St))) (B : Bags) (k : Int) (i : Nat) : List St := (posL (atK B i)).flatMap fun t => placesC L ⟨(i : Int), t⟩ k
def allPl (L : List (List (List St))) (B : Bags) (k : Int) : List St := (List.range B.length).flatMap fun i => nodePl L B k i
def frontT (L : List (List (List St))) (B : Bags) (k : Int) : List St := minL (allPl L B k)
def passedT (L : List (List (List St))) (B : Bags) (p : Po) : Bool := rightC L p && !covB (frontT L B p.n) p.t
section
variable {L : List (List (List St))} {B : Bags} {p q : Po} {x k : Int}
theorem addT_no (h : rightC L p = false) : addTE L B p x = 1 ∧ addTB L B p x = B := by unfold addTE addTB; rw [h]; exact ⟨rfl, rfl⟩
theorem addT_yes (h : rightC L p = true) : addTE L B p x = addE (atK B p.n.toNat) p.t x ∧ addTB L B p x = B.set p.n.toNat (addC (atK B p.n.toNat) p.t x) := by unfold addTE addTB; rw [h]; exact ⟨rfl, rfl⟩
theorem addT_len : (addTB L B p x).length = B.length := by unfold addTB; split <;> simp
theorem addT_bad (h : ¬ addTE L B p x = 0) : addTB L B p x = B := by
  cases hr : rightC L p with
  | false => exact (addT_no hr).2
  | true =>
    rw [(addT_yes hr).1] at h
    rw [(addT_yes hr).2, addC_no h]
    apply List.ext_getElem (by simp)
    intro i h1 h2
    rw [List.getElem_set]
    split
    · rename_i e; subst e; rw [atK_eq h2]
    · rfl
theorem at_no (h : ¬ (0 ≤ k ∧ k < (B.length : Int))) : atT B k = [] := if_neg h
theorem at_yes (h : 0 ≤ k ∧ k < (B.length : Int)) : atT B k = atK B k.toNat := if_pos h
theorem front_cov {t : St} : covB (frontT L B k) t = true ↔ ∃ i, i < B.length ∧ ∃ s ∈ posL (atK B i), covB (placesC L ⟨(i : Int), s⟩ k) t = true := by
  unfold frontT allPl nodePl
  rw [cov_minL]
  simp only [List.mem_flatMap, List.mem_range]
  constructor
  · rintro ⟨u, ⟨i, hi, s, hs, hu⟩, hle⟩; exact ⟨i, hi, s, hs, cov_iff.2 ⟨u, hu, hle⟩⟩
  · rintro ⟨i, hi, s, hs, hc⟩
    obtain ⟨u, hu, hle⟩ := cov_iff.1 hc
    exact ⟨u, ⟨i, hi, s, hs, hu⟩, hle⟩
/-- A point is not passed just where something that is there could come to it. -/
theorem passed_iff (hp : rightC L p = true) : passedT L B p = false ↔ ∃ i, i < B.length ∧ ∃ s ∈ posL (atK B i), couldC L ⟨(i : Int), s⟩ p = true := by
  unfold passedT
  rw [hp, Bool.true_and, Bool.not_eq_false', front_cov]
  unfold couldC
  rw [hp]
  simp only [Bool.true_and]
theorem passed_no (h : rightC L p = false) : passedT L B p = false := by unfold passedT; rw [h]; rfl
theorem front_nil (h : ∀ i, i < B.length → posL (atK B i) = []) : frontT L B k = [] := by
  have : allPl L B k = [] := by
    unfold allPl nodePl
    rw [List.flatMap_eq_nil_iff]
    intro i hi
    rw [h i (List.mem_range.1 hi)]; rfl
  unfold frontT; rw [this]; rfl
theorem passed_nil (h : ∀ i, i < B.length → posL (atK B i) = []) : passedT L B p = rightC L p := by
  unfold passedT; rw [front_nil h]; simp [covB]
/-! ### Adds -/
def OKs (B : Bags) : Prop := ∀ i, i < B.length → BagOK (atK B i)
theorem ok_new (n : Nat) : OKs (List.replicate n []) := fun i hi => by
  rw [atK_eq hi, List.getElem_replicate]; exact bag_nil
theorem ok_add (h : OKs B) (p : Po) (x : Int) : OKs (addTB L B p x) := fun i hi => by
  rw [addT_len] at hi
  cases hr : rightC L p with
  | false => rw [(addT_no hr).2]; exact h i hi
  | true =>
    rw [(addT_yes hr).2]
    by_cases hb : p.n.toNat < B.length
    · rw [atK_set hb]
      split
      · rename_i e; subst e; exact (h _ hb).add _ _
      · exact h i hi
    · rw [List.set_eq_of_length_le (by omega)]; exact h i hi
/-- How often something is at a point. -/
def ofT (B : Bags) (p : Po) : Int := ofC (atK B p.n.toNat) p.t
theorem of_addT (hL : L.length = B.length) (h : OKs B) (hq : 0 ≤ q.n ∧ q.n < (B.length : Int)) : ofT (addTB L B p x) q = if q = p ∧ addTE L B p x = 0 then ofT B p + x else ofT B q := by
  cases hr : rightC L p with
  | false =>
    rw [(addT_no hr).2, if_neg]
    rintro ⟨_, h2⟩; rw [(addT_no hr).1] at h2; cases h2
  | true =>
    have hp := (rightC_at hr).2.1
    unfold ofT
    rw [(addT_yes hr).2, (addT_yes hr).1, atK_set (by omega)]
    by_cases hn : p.n.toNat = q.n.toNat
    · rw [if_pos hn, of_add (h _ (by omega)).asc]
      have en : p.n = q.n := by omega
      by_cases ht : q.t = p.t ∧ addE (atK B p.n.toNat) p.t x = 0
      · rw [if_pos ht, if_pos ⟨by cases p; cases q; simp_all, ht.2⟩]
      · rw [if_neg ht, if_neg (fun z => ht ⟨by rw [z.1], z.2⟩), hn]
    · rw [if_neg hn, if_neg]
      rintro ⟨rfl, _⟩; exact hn rfl
theorem bags_ext {A : Bags} (hl : A.length = B.length) (hA : OKs A) (hB : OKs B) (h : ∀ q : Po, 0 ≤ q.n ∧ q.n < (B.length : Int) → ofT A q = ofT B q) : A = B := by
  apply List.ext_getElem hl
  intro i h1 h2
  rw [← atK_eq h1, ← atK_eq h2]
  exact (hA i h1).ext (hB i h2) fun t => by
    have := h ⟨(i : Int), t⟩ ⟨by simp, by simp; omega⟩
    simpa [ofT] using this
theorem mem_pos {C : List Ct} (h : BagOK C) {t : St} : t ∈ posL C ↔ 0 < ofC C t := by
  rw [mem_posL]
  constructor
  · rintro ⟨c, hc, h1, rfl⟩; rw [of_mem h.asc.nodup hc]; exact h1
  · intro h1; exact ⟨(t, ofC C t), of_pos (by omega), h1, rfl⟩
/-- Not passed: something there could come. -/
theorem passed_of (hB : OKs B) (hp : rightC L p = true) : passedT L B p = false ↔ ∃ q : Po, (0 ≤ q.n ∧ q.n < (B.length : Int)) ∧ 0 < ofT B q ∧ couldC L q p = true := by
  rw [passed_iff hp]
  constructor
  · rintro ⟨i, hi, s, hs, hc⟩
    exact ⟨⟨(i : Int), s⟩, ⟨by simp, by simp; omega⟩, by simpa [ofT] using (mem_pos (hB i hi)).1 hs, hc⟩
  · rintro ⟨⟨m, s⟩, hm, h1, hc⟩
    simp only at hm
    refine ⟨m.toNat, by omega, s, (mem_pos (hB _ (by omega))).2 h1, ?_⟩
    rwa [show ((m.toNat : Nat) : Int) = m by omega]
theorem addE_room {C : List Ct} {t : St} (ht : t.rightB = true) (h : -1000000000 ≤ ofC C t + x ∧ ofC C t + x ≤ 1000000000) : addE C t x = 0 := add_iff.2 ⟨ht, h⟩
theorem addT_iff : addTE L B p x = 0 ↔ rightC L p = true ∧ -1000000000 ≤ ofT B p + x ∧ ofT B p + x ≤ 1000000000 := by
  cases hr : rightC L p with
  | false => rw [(addT_no hr).1]; simp
  | true =>
    rw [(addT_yes hr).1, add_iff]
    have := (rightC_at hr).2.2.1
    unfold ofT
    exact ⟨fun h => ⟨rfl, h.2⟩, fun h => ⟨this, h.2⟩⟩
theorem addT_arg (h : ¬ addTE L B p x = 0) : addTE L B p x = 1 ∨ addTE L B p x = 9 := by
  unfold addTE at *
  split at h
  · rename_i hr
    rw [if_pos hr]
    unfold addE at *
    split at h
    · exact .inl (by rename_i h1; rw [if_pos h1])
    · rename_i h1
      rw [if_neg h1]
      split at h
      · rename_i h2; exact .inr (by rw [if_pos h2])
      · omega
  · rename_i hr; rw [if_neg hr]; exact .inl rfl
end
/-! ### By a graph's closure: what is passed stays so -/
section
variable {n : Nat} {E : List Ed} {B : Bags} {p q r : Po} {x : Int}
/-- What is added comes from what is there: no more is not passed than was. -/
theorem stays_add (hF : Fits (n : Int) E) (h1 : 1 ≤ n) (h8 : n ≤ 8) (hl : B.length = n) (hB : OKs B) (hr : 0 < ofT B r) (hc : couldC (cloT E n n) r q = true) (hp : rightC (cloT E n n) p = true) (hn : passedT (cloT E n n) (addTB (cloT E n n) B q x) p = false) : passedT (cloT E n n) B p = false := by
  obtain ⟨u, hu, hu2, hu3⟩ := (passed_of (ok_add hB q x) hp).1 hn
  rw [addT_len] at hu
  rw [of_addT (by rw [cloT_len, hl]) hB hu] at hu2
  have hrb := (could_both hF h1 h8 hc).1
  by_cases hq : u = q
  · subst hq
    exact (passed_of hB hp).2 ⟨r, by omega, hr, could_trans hF h1 h8 hc hu3⟩
  · rw [if_neg (fun z => hq z.1)] at hu2
    exact (passed_of hB hp).2 ⟨u, hu, hu2, hu3⟩
/-- What is taken off lets nothing come. -/
theorem stays_off {L : List (List (List St))} (hL : L.length = B.length) (hB : OKs B) (hx : x ≤ 0) (hp : rightC L p = true) (hn : passedT L (addTB L B q x) p = false) : passedT L B p = false := by
  obtain ⟨u, hu, hu2, hu3⟩ := (passed_of (ok_add hB q x) hp).1 hn
  rw [addT_len] at hu
  rw [of_addT hL hB hu] at hu2
  refine (passed_of hB hp).2 ⟨u, hu, ?_, hu3⟩
  split at hu2
  · rename_i h; rw [h.1]; omega
  · exact hu2
/-- What is added makes no frontier go on. -/
theorem more_add {L : List (List (List St))} (hL : L.length = B.length) (hB : OKs B) (hx : 0 ≤ x) (hn : passedT L (addTB L B q x) p = true) : passedT L B p = true := by
  cases hp : rightC L p with
  | false => rw [passed_no hp] at hn; cases hn
  | true =>
    cases hz : passedT L B p with
    | true => rfl
    | false =>
      obtain ⟨u, hu, hu2, hu3⟩ := (passed_of hB hp).1 hz
      have : passedT L (addTB L B q x) p = false := (passed_of (ok_add hB q x) hp).2 ⟨u, by rw [addT_len]; exact hu, by
        rw [of_addT hL hB hu]
        split
        · rename_i h; rw [← h.1]; omega
        · exact hu2, hu3⟩
      rw [this] at hn; cases hn
end
/-! ### What is there, as a list of points -/
def cntP (T : List Po) (q : Po) : Nat := T.countP (fun u => decide (u = q))
structure RepT (L : List (List (List St))) (B : Bags) (T : List Po) : Prop where
  ok : OKs B
  len : B.length = L.length
  of : ∀ q : Po, 0 ≤ q.n ∧ q.n < (B.length : Int) → ofT B q = (cntP T q : Int)
  right : ∀ q ∈ T, rightC L q = true
section
variable {L : List (List (List St))} {B : Bags} {T : List Po} {p q : Po} {x : Int}
theorem cnt_app (T : List Po) (q u : Po) : cntP (T ++ [q]) u = cntP T u + if q = u then 1 else 0 := by
  unfold cntP; rw [List.countP_append, List.countP_singleton]; simp
theorem cnt_off {k : Nat} (hk : k < T.length) (u : Po) : cntP T u = cntP (T.take k ++ T.drop (k + 1)) u + if T[k] = u then 1 else 0 := by
  unfold cntP
  conv => lhs; rw [← List.take_append_drop k T, List.drop_eq_getElem_cons hk]
  rw [List.countP_append, List.countP_append, List.countP_cons]
  simp only [decide_eq_true_eq]
  omega
theorem cnt_mem (h : q ∈ T) : 0 < cntP T q := by unfold cntP; rw [List.countP_pos_iff]; exact ⟨q, h, by simp⟩
theorem cnt_len (T : List Po) (q : Po) : cntP T q ≤ T.length := List.countP_le_length
theorem RepT.start (hL : L.length = B.length) (hB : OKs B) (h : ∀ q : Po, 0 ≤ q.n ∧ q.n < (B.length : Int) → ofT B q = 0) : RepT L B [] := ⟨hB, hL.symm, fun q hq => by rw [h q hq]; rfl, fun q hq => by cases hq⟩
theorem RepT.inn (h : RepT L B T) (hq : q ∈ T) : (0 ≤ q.n ∧ q.n < (B.length : Int)) ∧ 0 < ofT B q := by
  have h1 := (rightC_at (h.right q hq)).2.1
  rw [← h.len] at h1
  have := cnt_mem hq
  exact ⟨h1, by rw [h.of q h1]; omega⟩
theorem RepT.addOK (h : RepT L B T) (hr : rightC L q = true) (hl : T.length < 1000) : addTE L B q 1 = 0 := by
  have h1 := (rightC_at hr).2.1
  rw [← h.len] at h1
  have h2 := cnt_len T q
  rw [addT_iff, h.of q h1]
  exact ⟨hr, by omega⟩
theorem RepT.offOK (h : RepT L B T) (hq : q ∈ T) (hl : T.length < 1000) : addTE L B q (-1) = 0 := by
  have hr := h.right q hq
  have h1 := (rightC_at hr).2.1
  rw [← h.len] at h1
  have h2 := cnt_len T q
  rw [addT_iff, h.of q h1]
  exact ⟨hr, by omega⟩
theorem RepT.add (h : RepT L B T) (hr : rightC L q = true) (hl : T.length < 1000) : RepT L (addTB L B q 1) (T ++ [q]) := by
  refine ⟨ok_add h.ok q 1, by rw [addT_len]; exact h.len, fun u hu => ?_, fun u hu => ?_⟩
  · rw [addT_len] at hu
    rw [of_addT h.len.symm h.ok hu, cnt_app]
    have h1 := (rightC_at hr).2.1
    rw [← h.len] at h1
    by_cases e : u = q
    · subst e
      rw [if_pos ⟨rfl, h.addOK hr hl⟩, if_pos rfl, h.of u hu]; omega
    · rw [if_neg (fun z => e z.1), if_neg (fun z => e z.symm), h.of u hu]; omega
  · rcases List.mem_append.1 hu with hu | hu
    · exact h.right u hu
    · rw [List.mem_singleton.1 hu]; exact hr
theorem RepT.off (h : RepT L B T) {k : Nat} (hk : k < T.length) (hl : T.length < 1000) : RepT L (addTB L B T[k] (-1)) (T.take k ++ T.drop (k + 1)) := by
  have hm : T[k] ∈ T := List.getElem_mem hk
  refine ⟨ok_add h.ok _ _, by rw [addT_len]; exact h.len, fun u hu => ?_, fun u hu => ?_⟩
  · rw [addT_len] at hu
    rw [of_addT h.len.symm h.ok hu]
    have hc := cnt_off hk u
    by_cases e : u = T[k]
    · rw [if_pos ⟨e, h.offOK hm hl⟩, ← e, h.of u hu]
      rw [if_pos e.symm] at hc; omega
    · rw [if_neg (fun z => e z.1), h.of u hu]
      rw [if_neg (fun z => e z.symm)] at hc; omega
  · rcases List.mem_append.1 hu with hu | hu
    · exact h.right u (List.mem_of_mem_take hu)
    · exact h.right u (List.mem_of_mem_drop hu)
theorem RepT.none (h : RepT L B []) : ∀ i, i < B.length → posL (atK B i) = [] := fun i hi => by
  rw [List.eq_nil_iff_forall_not_mem]
  intro t ht
  have h1 := (mem_pos (h.ok i hi)).1 ht
  have h2 := h.of ⟨(i : Int), t⟩ ⟨by simp, by simp; omega⟩
  simp [ofT, cntP] at h2
  omega
end
/-! ### Adds in another order -/
def foldT (L : List (List (List St))) (B : Bags) (l : List (Po × Int)) : Bags := l.foldl (fun b c => addTB L b c.1 c.2) B
def sumP (L : List (List (List St))) (l : List (Po × Int)) (q : Po) : Int := (l.map fun c => if q = c.1 ∧ rightC L c.1 = true then c.2 else 0).sum
section
variable {L : List (List (List St))} {B : Bags} {l : List (Po × Int)} {q : Po}
theorem tfold_len : (foldT L B l).length = B.length := by
  unfold foldT
  induction l generalizing B with
  | nil => rfl
  | cons c r ih => rw [List.foldl_cons, ih, addT_len]
theorem tfold_ok (hB : OKs B) : OKs (foldT L B l) := by
  unfold foldT
  induction l generalizing B with
  | nil => exact hB
  | cons c r ih => rw [List.foldl_cons]; exact ih (ok_add hB _ _)
theorem tfold_snoc {c : Po × Int} : foldT L B (l ++ [c]) = addTB L (foldT L B l) c.1 c.2 := by unfold foldT; rw [List.foldl_append]; rfl
theorem tsum_bound (h : ∀ c ∈ l, -1000000 ≤ c.2 ∧ c.2 ≤ 1000000) : -1000000 * (l.length : Int) ≤ sumP L l q ∧ sumP L l q ≤ 1000000 * (l.length : Int) := by
  induction l with
  | nil => simp [sumP]
  | cons c r ih =>
    have h1 := h c (by simp)
    have h2 := ih fun d hd => h d (by simp [hd])
    unfold sumP at *
    simp only [List.map_cons, List.sum_cons, List.length_cons]
    split <;> omega
theorem tsum_app {l m : List (Po × Int)} : sumP L (l ++ m) q = sumP L l q + sumP L m q := by unfold sumP; rw [List.map_append, List.sum_append]
theorem tsum_perm {l m : List (Po × Int)} (h : l.Perm m) : sumP L l q = sumP L m q := by
  unfold sumP
  induction h with
  | nil => rfl
  | cons x _ ih => simp only [List.map_cons, List.sum_cons, ih]
  | swap x y l => simp only [List.map_cons, List.sum_cons]; omega
  | trans _ _ h1 h2 => rw [h1, h2]
theorem tfold_of (hL : L.length = B.length) (hB : OKs B) (hl : l.length ≤ 100) (hb : ∀ c ∈ l, -1000000 ≤ c.2 ∧ c.2 ≤ 1000000) (h0 : ∀ q : Po, 0 ≤ q.n ∧ q.n < (B.length : Int) → ofT B q = 0) (hq : 0 ≤ q.n ∧ q.n < (B.length : Int)) : ofT (foldT L B l) q = sumP L l q := by
  induction hn : l.length generalizing l q with
  | zero => rw [List.length_eq_zero_iff.1 hn]; exact h0 q hq
  | succ k ih =>
    obtain ⟨m, c, rfl⟩ : ∃ m c, l = m ++ [c] := ⟨l.dropLast, l.getLast (by intro h; rw [h] at hn; simp at hn), (List.dropLast_concat_getLast _).symm⟩
    simp only [List.length_append, List.length_singleton] at hn hl
    have hbm : ∀ d ∈ m, -1000000 ≤ d.2 ∧ d.2 ≤ 1000000 := fun d hd => hb d (by simp [hd])
    have hc := hb c (by simp)
    rw [tfold_snoc, of_addT (by rw [tfold_len]; exact hL) (tfold_ok hB) (by rw [tfold_len]; exact hq), tsum_app]
    have e1 : sumP L [c] q = if q = c.1 ∧ rightC L c.1 = true then c.2 else 0 := by simp [sumP]
    rw [e1]
    cases hr : rightC L c.1 with
    | false =>
      rw [if_neg (fun z => by have := z.2; rw [(addT_no hr).1] at this; cases this), if_neg (fun z => by cases z.2), ih (by omega) hbm hq (by omega)]; omega
    | true =>
      have hcn := (rightC_at hr).2.1
      rw [hL] at hcn
      have ihc := ih (l := m) (q := c.1) (by omega) hbm hcn (by omega)
      have sb := tsum_bound (L := L) (q := c.1) hbm
      have hz : addTE L (foldT L B m) c.1 c.2 = 0 := addT_iff.2 ⟨hr, by rw [ihc]; omega⟩
      by_cases e : q = c.1
      · rw [if_pos ⟨e, hz⟩, if_pos ⟨e, rfl⟩, ihc, e]
      · rw [if_neg (fun z => e z.1), if_neg (fun z => e z.1), ih (by omega) hbm hq (by omega)]; omega
theorem tfold_perm {l m : List (Po × Int)} (hL : L.length = B.length) (hB : OKs B) (hl : l.length ≤ 100) (hb : ∀ c ∈ l, -1000000 ≤ c.2 ∧ c.2 ≤ 1000000) (h0 : ∀ q : Po, 0 ≤ q.n ∧ q.n < (B.length : Int) → ofT B q = 0) (hp : l.Perm m) : foldT L B l = foldT L B m :=
  bags_ext (by rw [tfold_len, tfold_len]) (tfold_ok hB) (tfold_ok hB) fun q hq => by
    rw [tfold_len] at hq
    rw [tfold_of hL hB hl hb h0 hq, tfold_of hL hB (by rw [← hp.length_eq]; exact hl) (fun c hc => hb c (hp.mem_iff.2 hc)) h0 hq, tsum_perm hp]
end
theorem new_of {n : Nat} {q : Po} : ofT (List.replicate n []) q = 0 := by
  unfold ofT atK
  rw [List.getD_eq_getElem?_getD, List.getElem?_replicate]
  split <;> rfl
end Go.Proofs.Ytboinbmgndomhaa
namespace Go.Proofs.Ytboinbmgndomhaa
open Go.RowKit
set_option maxRecDepth 100000
set_option linter.unusedSimpArgs false
set_option linter.unusedVariables false

theorem eqCt (a b : Ct) (w : World) : (Op.equalIn 10000 73 (.agg #[.int .i64 a.1.e, .int .i64 a.1.r, .int .i64 a.2]) (.agg #[.int .i64 b.1.e, .int .i64 b.1.r, .int .i64 b.2])).run Try.prog w = .ok (decide (a = b)) w := by
  have h : decide (a = b) = ((decide (a.1.e = b.1.e) && decide (a.1.r = b.1.r)) && decide (a.2 = b.2)) := by
    rw [Bool.eq_iff_iff]; simp [Prod.ext_iff, St.eq_iff]
  rw [h]
  simp [go_sem]
  repeat' split
  all_goals simp_all
theorem atC_mem {L : List Ct} {i : Nat} (h : i < L.length) : atC L i ∈ L := atE_mem (E := encC) h
theorem take_snocC {L : List Ct} {i : Int} (h0 : 0 ≤ i) (h : i < (L.length : Int)) : L.take (i + 1).toNat = L.take i.toNat ++ [atC L i.toNat] := take_snocE (E := encC) h0 h
theorem ext_atC {A B : List Ct} {i : Int} (hl : A.length = B.length) (h : ∀ k, k < i.toNat → atC A k = atC B k) (hi : ¬ i < (A.length : Int)) : A = B := ext_atE (E := encC) hl h hi
/-! ### Of -/
theorem of_hit {C : List Ct} {t : St} {i : Int} (h0 : 0 ≤ i) (h : i < (C.length : Int)) (hb : ∀ k, k < i.toNat → ¬ (atC C k).1 = t) (ht : (atC C i.toNat).1 = t) : (atC C i.toNat).2 = ofC C t := by
  unfold ofC getM
  have e : C = C.take i.toNat ++ atC C i.toNat :: C.drop (i.toNat + 1) := by
    rw [show atC C i.toNat = C[i.toNat] from atE_eq (by omega), List.getElem_cons_drop, List.take_append_drop]
  have hn : (C.take i.toNat).find? (fun p => decide (p.1 = t)) = none := List.find?_eq_none.2 fun p hp => by
    obtain ⟨k, hk, rfl⟩ := List.mem_iff_getElem.1 hp
    rw [List.length_take] at hk
    rw [List.getElem_take, ← atE_eq (E := encC) (by omega)]
    have h9 : ¬ (atE encC C k).1 = t := hb k (by omega)
    simpa using h9
  generalize hq : atC C i.toNat = q at *
  rw [e, List.find?_append, hn]
  simp [ht]
theorem of_miss {C : List Ct} {t : St} {i : Int} (hb : ∀ k, k < i.toNat → ¬ (atC C k).1 = t) (hi : ¬ i < (C.length : Int)) : (0 : Int) = ofC C t := by
  refine (of_not fun p hp e => ?_).symm
  obtain ⟨k, hk, rfl⟩ := at_of_memE (E := encC) hp
  exact hb k (by omega) e
/-! ### Frontier, Lacks -/
theorem pos_yes {C : List Ct} {i : Int} (h0 : 0 ≤ i) (h : i < (C.length : Int)) (hp : 0 < (atC C i.toNat).2) : posL (C.take (i + 1).toNat) = posL (C.take i.toNat) ++ [(atC C i.toNat).1] := by
  rw [take_snocC h0 h]; unfold posL; rw [List.filter_append, List.map_append]; simp [hp]
theorem pos_no {C : List Ct} {i : Int} (h0 : 0 ≤ i) (h : i < (C.length : Int)) (hp : ¬ 0 < (atC C i.toNat).2) : posL (C.take (i + 1).toNat) = posL (C.take i.toNat) := by
  rw [take_snocC h0 h]; unfold posL; rw [List.filter_append, List.map_append]; simp [hp]
theorem pos_take (C : List Ct) (i : Nat) : (posL (C.take i)).length ≤ C.length := Nat.le_trans (posL_len _) (by rw [List.length_take]; omega)
theorem lack_hit {C : List Ct} {i : Int} (h0 : 0 ≤ i) (h : i < (C.length : Int)) (hp : (atC C i.toNat).2 < 0) : lackB C = true := lack_iff.2 ⟨_, atC_mem (by omega), hp⟩
theorem lack_miss {C : List Ct} {i : Int} (hb : ∀ k, k < i.toNat → ¬ (atC C k).2 < 0) (hi : ¬ i < (C.length : Int)) : lackB C = false := by
  rw [← Bool.not_eq_true, lack_iff]
  rintro ⟨p, hp, hn⟩
  obtain ⟨k, hk, rfl⟩ := at_of_memE (E := encC) hp
  exact hb k (by omega) hn
/-! ### The reference's Add -/
def stepC (t : St) (n : Int) (s : List Ct × Bool) (p : Ct) : List Ct × Bool :=
  if s.2 = false ∧ p.1.aheadB t = false then (if p.1 = t then (s.1 ++ [(t, n)], true) else (s.1 ++ [(t, n)] ++ [p], true)) else (if p.1 = t then s else (s.1 ++ [p], s.2))
def runC (t : St) (n : Int) (C : List Ct) : List Ct × Bool := C.foldl (stepC t n) ([], decide (n = 0))
theorem run_zero (t : St) (n : Int) (C : List Ct) : ([], decide (n = 0)) = runC t n (C.take (0 : Int).toNat) := rfl
theorem run_step {t : St} {n : Int} {C : List Ct} {i : Int} {Q Q' : List Ct} {b b' : Bool} (h0 : 0 ≤ i) (h : i < (C.length : Int)) (hr : (Q, b) = runC t n (C.take i.toNat)) (hs : stepC t n (Q, b) (atC C i.toNat) = (Q', b')) : (Q', b') = runC t n (C.take (i + 1).toNat) := by
  rw [take_snocC h0 h]; unfold runC; rw [List.foldl_append, ← hs, hr]; rfl
theorem st_put_ne {t : St} {n : Int} {Q : List Ct} {p : Ct} {b : Bool} (hb : b = false) (ha : p.1.aheadB t = false) (he : ¬ p.1 = t) : stepC t n (Q, b) p = (Q ++ [(t, n)] ++ [p], true) := by unfold stepC; rw [if_pos ⟨hb, ha⟩, if_neg he]
theorem st_put_eq {t : St} {n : Int} {Q : List Ct} {p : Ct} {b : Bool} (hb : b = false) (ha : p.1.aheadB t = false) (he : p.1 = t) : stepC t n (Q, b) p = (Q ++ [(t, n)], true) := by unfold stepC; rw [if_pos ⟨hb, ha⟩, if_pos he]
theorem st_no_ne {t : St} {n : Int} {Q : List Ct} {p : Ct} {b : Bool} (h : b = true ∨ p.1.aheadB t = true) (he : ¬ p.1 = t) : stepC t n (Q, b) p = (Q ++ [p], b) := by
  unfold stepC; rw [if_neg (fun hn => by rcases h with h | h; rw [show b = false from hn.1] at h; cases h; rw [hn.2] at h; cases h), if_neg he]
theorem st_no_eq {t : St} {n : Int} {Q : List Ct} {p : Ct} {b : Bool} (h : b = true ∨ p.1.aheadB t = true) (he : p.1 = t) : stepC t n (Q, b) p = (Q, b) := by
  unfold stepC; rw [if_neg (fun hn => by rcases h with h | h; rw [show b = false from hn.1] at h; cases h; rw [hn.2] at h; cases h), if_pos he]
theorem fold_true (t : St) (n : Int) : ∀ (C o : List Ct), C.foldl (stepC t n) (o, true) = (o ++ delM C t, true)
  | [], o => by simp [delM]
  | p :: r, o => by
    rw [List.foldl_cons]
    by_cases h : p.1 = t
    · rw [st_no_eq (.inl rfl) h, fold_true t n r]; simp [delM, h]
    · rw [st_no_ne (.inl rfl) h, fold_true t n r]; simp [delM, h]
theorem del_same {C : List Ct} {t : St} (h : ∀ p ∈ C, p.1 ≠ t) : delM C t = C := List.filter_eq_self.2 fun p hp => by simp [h p hp]
theorem fold_false {t : St} {n : Int} (hn : n ≠ 0) : ∀ (C o : List Ct), AscC C → (if (C.foldl (stepC t n) (o, false)).2 then (C.foldl (stepC t n) (o, false)).1 else (C.foldl (stepC t n) (o, false)).1 ++ [(t, n)]) = o ++ setC C t n
  | [], o, _ => by simp [setC, hn]
  | p :: r, o, h => by
    obtain ⟨h1, h2⟩ := List.pairwise_cons.1 h
    rw [List.foldl_cons]
    cases ha : p.1.aheadB t with
    | true =>
      have hne : ¬ p.1 = t := fun e => by rw [e, ahead_irr] at ha; cases ha
      rw [st_no_ne (.inr ha) hne, fold_false hn r _ h2]
      simp [setC, ha]
    | false =>
      have hr : ∀ u ∈ r, u.1 ≠ t := fun u hu e => by
        have := h1 u hu; rw [e, ha] at this; cases this
      by_cases he : p.1 = t
      · rw [st_put_eq rfl ha he, fold_true, del_same hr]
        simp [setC, ha, he, hn, ahead_irr]
      · rw [st_put_ne rfl ha he, fold_true, del_same hr]
        simp [setC, ha, he, hn]
theorem run_put {t : St} {n : Int} {C Q : List Ct} {b : Bool} {i : Int} (h : AscC C) (hr : (Q, b) = runC t n (C.take i.toNat)) (hi : ¬ i < (C.length : Int)) (hb : b = false) : Q ++ [(t, n)] = setC C t n := by
  rw [List.take_of_length_le (by omega)] at hr
  have hn : n ≠ 0 := fun h0 => by
    unfold runC at hr
    rw [decide_eq_true h0, fold_true] at hr
    injection hr with _ h2; rw [hb] at h2; cases h2
  have := fold_false (t := t) hn C [] h
  unfold runC at hr
  rw [decide_eq_false hn] at hr
  rw [← hr, hb] at this
  simpa using this
theorem run_done {t : St} {n : Int} {C Q : List Ct} {b : Bool} {i : Int} (h : AscC C) (hr : (Q, b) = runC t n (C.take i.toNat)) (hi : ¬ i < (C.length : Int)) (hb : b = true) : Q = setC C t n := by
  rw [List.take_of_length_le (by omega)] at hr
  unfold runC at hr
  by_cases hn : n = 0
  · rw [decide_eq_true hn, fold_true] at hr
    injection hr with h1 _
    rw [h1, hn, ← del_setC h]; simp
  · have := fold_false (t := t) hn C [] h
    rw [decide_eq_false hn] at hr
    rw [← hr, hb] at this
    simpa using this
theorem run_len (t : St) (n : Int) (C : List Ct) : (runC t n C).1.length ≤ 2 * C.length := by
  suffices h : ∀ (C o : List Ct) (b : Bool), (C.foldl (stepC t n) (o, b)).1.length ≤ o.length + 2 * C.length by
    have := h C [] (decide (n = 0)); simpa [runC] using this
  intro C
  induction C with
  | nil => intro o b; simp
  | cons p r ih =>
    intro o b
    rw [List.foldl_cons]
    have h1 : ∃ o' b', stepC t n (o, b) p = (o', b') ∧ o'.length ≤ o.length + 2 := by
      unfold stepC
      repeat' split
      all_goals exact ⟨_, _, rfl, by simp⟩
    obtain ⟨o', b', h1, h2⟩ := h1
    rw [h1]
    have := ih o' b'
    simp only [List.length_cons]; omega
/-! ### Over the map, in whatever order -/
structure KInv (C Rs : List Ct) (K : List St) : Prop where
  mem : ∀ t, (∃ p ∈ C, p.1 = t) ↔ t ∈ K ∨ ∃ p ∈ Rs, p.1 = t
  len : K.length + Rs.length = C.length
theorem KInv.start (C : List Ct) : KInv C C [] := ⟨fun t => by simp, by simp⟩
theorem KInv.next {C Rs Rs' : List Ct} {K : List St} {q : Ct} (h : KInv C Rs K) (hp : Rs.Perm (q :: Rs')) : KInv C Rs' (K ++ [q.1]) := by
  refine ⟨fun t => ?_, ?_⟩
  · rw [h.mem, List.mem_append, List.mem_singleton]
    constructor
    · rintro (h1 | ⟨p, h1, h2⟩)
      · exact .inl (.inl h1)
      · rcases List.mem_cons.1 (hp.mem_iff.1 h1) with h3 | h3
        · exact .inl (.inr (by rw [← h2, h3]))
        · exact .inr ⟨p, h3, h2⟩
    · rintro ((h1 | h1) | ⟨p, h1, h2⟩)
      · exact .inl h1
      · exact .inr ⟨q, hp.mem_iff.2 (by simp), h1.symm⟩
      · exact .inr ⟨p, hp.mem_iff.2 (by simp [h1]), h2⟩
  · have := h.len; have h2 := hp.length_eq; simp at h2 ⊢; omega
theorem KInv.fin {C Rs : List Ct} {K : List St} (h : KInv C Rs K) (hb : BagOK C) (hz : Rs = []) : rowL K = C.map (·.1) := by
  refine (rowL_of hb.asc.keys fun t => ?_).symm
  have := h.mem t
  rw [hz] at this
  simp only [List.not_mem_nil, false_and, exists_false, or_false] at this
  rw [← this, List.mem_map]
theorem map_of {C : List Ct} (hb : BagOK C) : (C.map (·.1)).map (fun t => (t, ofC C t)) = C := by
  rw [List.map_map]
  conv => rhs; rw [← List.map_id C]
  exact List.map_congr_left fun p hp => by simp [of_mem hb.asc.nodup hp]
def allC (C : List Ct) (i : Nat) : List Ct := ((C.map (·.1)).take i).map fun t => (t, ofC C t)
theorem all_next {C : List Ct} {i : Int} (h0 : 0 ≤ i) (h : i < ((C.map (·.1)).length : Int)) : allC C (i + 1).toNat = allC C i.toNat ++ [(atS (C.map (·.1)) i.toNat, ofC C (atS (C.map (·.1)) i.toNat))] := by
  unfold allC
  rw [show (i + 1).toNat = i.toNat + 1 by omega, List.take_succ_eq_append_getElem (by omega), List.map_append, atS_eq (by omega)]
  rfl
theorem all_end {C : List Ct} {i : Int} (hb : BagOK C) (hi : ¬ i < ((C.map (·.1)).length : Int)) : allC C i.toNat = C := by
  unfold allC
  rw [List.take_of_length_le (by omega), map_of hb]
theorem all_len (C : List Ct) (i : Nat) : (allC C i).length ≤ C.length := by unfold allC; rw [List.length_map, List.length_take, List.length_map]; omega
structure PInv (C Rs : List Ct) (K : List St) : Prop where
  mem : ∀ t, t ∈ posL C ↔ t ∈ K ∨ t ∈ posL Rs
  len : K.length + Rs.length ≤ C.length
theorem PInv.start (C : List Ct) : PInv C C [] := ⟨fun t => by simp, by simp⟩
theorem pos_perm {Rs Rs' : List Ct} {q : Ct} (hp : Rs.Perm (q :: Rs')) (t : St) : t ∈ posL Rs ↔ (0 < q.2 ∧ q.1 = t) ∨ t ∈ posL Rs' := by
  rw [mem_posL, mem_posL]
  constructor
  · rintro ⟨p, h1, h2⟩
    rcases List.mem_cons.1 (hp.mem_iff.1 h1) with h3 | h3
    · rw [h3] at h2; exact .inl h2
    · exact .inr ⟨p, h3, h2⟩
  · rintro (h1 | ⟨p, h1, h2⟩)
    · exact ⟨q, hp.mem_iff.2 (by simp), h1⟩
    · exact ⟨p, hp.mem_iff.2 (by simp [h1]), h2⟩
theorem PInv.yes {C Rs Rs' : List Ct} {K : List St} {q : Ct} (h : PInv C Rs K) (hp : Rs.Perm (q :: Rs')) (hq : 0 < q.2) : PInv C Rs' (K ++ [q.1]) := by
  refine ⟨fun t => ?_, by have := h.len; have h2 := hp.length_eq; simp at h2 ⊢; omega⟩
  rw [h.mem, pos_perm hp, List.mem_append, List.mem_singleton]
  constructor
  · rintro (h1 | h1 | h1)
    · exact .inl (.inl h1)
    · exact .inl (.inr h1.2.symm)
    · exact .inr h1
  · rintro ((h1 | h1) | h1)
    · exact .inl h1
    · exact .inr (.inl ⟨hq, h1.symm⟩)
    · exact .inr (.inr h1)
theorem PInv.no {C Rs Rs' : List Ct} {K : List St} {q : Ct} (h : PInv C Rs K) (hp : Rs.Perm (q :: Rs')) (hq : ¬ 0 < q.2) : PInv C Rs' K := by
  refine ⟨fun t => ?_, by have := h.len; have h2 := hp.length_eq; simp at h2; omega⟩
  rw [h.mem, pos_perm hp]
  constructor
  · rintro (h1 | h1 | h1)
    · exact .inl h1
    · exact absurd h1.1 hq
    · exact .inr h1
  · rintro (h1 | h1)
    · exact .inl h1
    · exact .inr (.inr h1)
theorem PInv.fin {C Rs : List Ct} {K : List St} (h : PInv C Rs K) (hz : Rs = []) : minL K = minL (posL C) := min_mem fun t => by
  rw [h.mem, hz]; simp [posL]
theorem lack_next {C Rs Rs' : List Ct} {q : Ct} (h : lackB C = lackB Rs) (hp : Rs.Perm (q :: Rs')) (hq : ¬ q.2 < 0) : lackB C = lackB Rs' := by
  rw [h, lack_perm hp, lack_cons]; simp [hq]
theorem lack_now {C Rs Rs' : List Ct} {q : Ct} (h : lackB C = lackB Rs) (hp : Rs.Perm (q :: Rs')) (hq : q.2 < 0) : lackB C = true := by
  rw [h, lack_perm hp, lack_cons]; simp [hq]
theorem lack_end {C Rs : List Ct} (h : lackB C = lackB Rs) (hz : Rs = []) : lackB C = false := by rw [h, hz]; rfl
/-! ### How the calls end -/
section
variable {R : List Nat} {w0 w w' : World} {B : List Ent} {i p g rb : Nat} {x : Ent} {C C' : List Ct} {t : St} {n z : Int} {v v' : Value}
theorem Mm.new1 (M : Mm [] w0 w B) (h : B[i]? = some x) : ∀ g ∈ x.fp, w0.heap.size ≤ g := fun g hg => by
  rcases M.own x (List.mem_of_getElem? h) g hg with h1 | h1
  · exact h1
  · cases h1
theorem bag_post (hO : Out [p, g] w w') (hb : Blk w' p 87 #[.map (some g)]) (hm : MpV g (encM stV iV C') w') (hk : BagOK C) (ez : addE C t n = z) (eC : C' = addC C t n) :
    TurnsE w (.own [p, g] (BagV p g C)) (fun v x' => v = .int .i64 (addE C t n) ∧ x' = .own [p, g] (BagV p g (addC C t n))) (.returned (.int .i64 z)) w' :=
  ⟨_, .own [p, g] (BagV p g (addC C t n)), rfl, hO, ⟨⟨hb, eC ▸ hm, hk.add t n⟩, BagV.loc _ _ _⟩, fun k hk' => .inl hk', rfl, by rw [ez], rfl⟩
theorem empty_post (hO : Out [p, g] w w') (hb : Blk w' p 87 #[.map (some g)]) (hm : MpV g [] w') :
    TurnsE w (.own [p, g] (BagV p g C)) (fun v x' => v = .tuple #[] ∧ x' = .own [p, g] (BagV p g [])) (.returned (.tuple #[])) w' :=
  ⟨_, .own [p, g] (BagV p g []), rfl, hO, ⟨⟨hb, hm, bag_nil⟩, BagV.loc _ _ _⟩, fun k hk' => .inl hk', rfl, rfl, rfl⟩
theorem new_post (hO : Below w.heap.size w w') (hb : Blk w' p 87 #[.map (some g)]) (hm : MpV g [] w') (h1 : w.heap.size ≤ p) (h2 : w.heap.size ≤ g) :
    MakesE w (fun v x => ∃ p g, v = .pointer (some ⟨p, 0, none⟩) ∧ x = .own [p, g] (BagV p g [])) (.returned (.pointer (some ⟨p, 0, none⟩))) w' :=
  ⟨_, .own [p, g] (BagV p g []), rfl, hO, ⟨⟨hb, hm, bag_nil⟩, BagV.loc _ _ _⟩, fun k hk => by
    simp only [Ent.fp, List.mem_cons, List.not_mem_nil, or_false] at hk
    rcases hk with rfl | rfl
    · exact h1
    · exact h2, rfl, p, g, rfl, rfl⟩
theorem Mm.rowNew (M : Mm R w0 w B) {ty : TypeId} {m k : Nat} {xs : List Value} (h : B[i]? = some (.row ty m v k xs)) : ∀ g, v.ownBlock = some g → w0.heap.size ≤ g ∨ g ∈ R := fun g hg => M.own _ (List.mem_of_getElem? h) g (by simp [Ent.fp, hg])
end
end Go.Proofs.Ytboinbmgndomhaa
namespace Go.Proofs.Ytboinbmgndomhaa
open Go.RowKit
set_option maxRecDepth 100000
set_option linter.unusedSimpArgs false
set_option linter.unusedVariables false

def foldC (C l : List Ct) : List Ct := l.foldl (fun C p => addC C p.1 p.2) C
def sumC (l : List Ct) : List Ct := foldC [] l
theorem fold_ok : ∀ (l C : List Ct), BagOK C → BagOK (foldC C l)
  | [], _, h => h
  | p :: r, _, h => fold_ok r _ (h.add p.1 p.2)
theorem sum_ok (l : List Ct) : BagOK (sumC l) := fold_ok l [] bag_nil
theorem sum_snoc (l : List Ct) (p : Ct) : sumC (l ++ [p]) = addC (sumC l) p.1 p.2 := by
  unfold sumC foldC; rw [List.foldl_append]; rfl
theorem sum_step {L : List Ct} {i : Int} (h0 : 0 ≤ i) (h : i < (L.length : Int)) : addC (sumC (L.take i.toNat)) (atC L i.toNat).1 (atC L i.toNat).2 = sumC (L.take (i + 1).toNat) := by
  rw [take_snocC h0 h, sum_snoc]
theorem sum_len : ∀ (l C : List Ct), (foldC C l).length ≤ C.length + l.length
  | [], _ => by simp [foldC]
  | p :: r, C => by
    have h1 := sum_len r (addC C p.1 p.2)
    have h2 := addC_len C p.1 p.2
    simp only [foldC, List.foldl_cons, List.length_cons] at *
    omega
def tot : List Ct → St → Int
  | [], _ => 0
  | p :: r, t => (if p.1 = t then p.2 else 0) + tot r t
theorem tot_app : ∀ (l k : List Ct) (t : St), tot (l ++ k) t = tot l t + tot k t
  | [], k, t => by simp [tot]
  | p :: r, k, t => by simp only [List.cons_append, tot, tot_app r k t]; omega
theorem tot_perm {l k : List Ct} (h : l.Perm k) (t : St) : tot l t = tot k t := by
  induction h with
  | nil => rfl
  | cons p _ ih => simp only [tot, ih]
  | swap p q r => simp only [tot]; omega
  | trans _ _ h1 h2 => rw [h1, h2]
def small (l : List Ct) : Prop := ∀ p ∈ l, -1000000 ≤ p.2 ∧ p.2 ≤ 1000000
theorem of_fold {t : St} : ∀ (l C : List Ct) (m : Int), BagOK C → (∀ u, -m ≤ ofC C u ∧ ofC C u ≤ m) → m + 1000000 * (l.length : Int) ≤ 1000000000 → small l → ofC (foldC C l) t = ofC C t + (if t.rightB then tot l t else 0)
  | [], C, m, _, _, _, _ => by simp [foldC, tot]
  | p :: r, C, m, hC, hm, hl, hs => by
    have hp := hs p (by simp)
    simp only [List.length_cons] at hl
    have hof := of_add hC.asc p.1 p.2
    have hb := hm p.1
    have key := of_fold (t := t) r (addC C p.1 p.2) (m + 1000000) (hC.add p.1 p.2) (fun u => by
      have := hm u
      rw [hof]; split <;> omega) (by omega) (fun q hq => hs q (by simp [hq]))
    show ofC (foldC (addC C p.1 p.2) r) t = _
    rw [key, hof]
    simp only [tot]
    by_cases hpt : p.1 = t
    · subst hpt
      cases hr : p.1.rightB with
      | false =>
        have : ¬ addE C p.1 p.2 = 0 := by rw [addE_wrong hr]; decide
        simp [this]
      | true =>
        have : addE C p.1 p.2 = 0 := addE_ok hr (by omega)
        simp [this]; omega
    · have : ¬ (t = p.1 ∧ addE C p.1 p.2 = 0) := fun h => hpt h.1.symm
      rw [if_neg this, if_neg hpt, Int.zero_add]
theorem of_sum {l : List Ct} (hs : small l) (hn : l.length ≤ 1000) (t : St) : ofC (sumC l) t = if t.rightB then tot l t else 0 := by
  have := of_fold (t := t) l [] 0 bag_nil (fun u => by rw [of_nil]; omega) (by omega) hs
  rw [of_nil, Int.zero_add] at this
  exact this
theorem sum_perm {l k : List Ct} (h : l.Perm k) (hs : small l) (hn : l.length ≤ 1000) : sumC l = sumC k :=
  (sum_ok l).ext (sum_ok k) fun t => by
    rw [of_sum hs hn, of_sum (fun p hp => hs p (h.mem_iff.2 hp)) (by rw [← h.length_eq]; exact hn), tot_perm h]
/-! ### In another order -/
def rotC (L : List Ct) (k : Nat) : List Ct := L.drop k ++ L.take k
theorem rot_perm (L : List Ct) (k : Nat) : (rotC L k).Perm L := by
  unfold rotC
  exact List.perm_append_comm.trans (by rw [List.take_append_drop])
theorem rot_len (L : List Ct) (k : Nat) : (rotC L k).length = L.length := (rot_perm L k).length_eq
theorem rot_at {L : List Ct} {i k j : Int} (h0 : 0 ≤ i) (h : i < (L.length : Int)) (hk0 : 0 ≤ k) (hk : k < (L.length : Int)) (hj : j = (i + k) % (L.length : Int)) : atC (rotC L k.toNat) i.toNat = atC L j.toNat := by
  unfold atC atE rotC
  rw [List.getD_eq_getElem?_getD, List.getD_eq_getElem?_getD]
  by_cases hc : i + k < (L.length : Int)
  · have e : j = i + k := by rw [hj]; exact Int.emod_eq_of_lt (by omega) hc
    rw [List.getElem?_append_left (by rw [List.length_drop]; omega), List.getElem?_drop, e, show k.toNat + i.toNat = (i + k).toNat by omega]
  · have e : j = i + k - L.length := by rw [hj, ← Int.sub_emod_right]; exact Int.emod_eq_of_lt (by omega) (by omega)
    rw [List.getElem?_append_right (by rw [List.length_drop]; omega), List.getElem?_take, List.length_drop, if_pos (by omega), e, show i.toNat - (L.length - k.toNat) = (i + k - L.length).toNat by omega]
theorem rot_step {L : List Ct} {i k j : Int} (h0 : 0 ≤ i) (h : i < (L.length : Int)) (hk0 : 0 ≤ k) (hk : k < (L.length : Int)) (hj : j = (i + k) % (L.length : Int)) : addC (sumC ((rotC L k.toNat).take i.toNat)) (atC L j.toNat).1 (atC L j.toNat).2 = sumC ((rotC L k.toNat).take (i + 1).toNat) := by
  rw [← sum_step h0 (by rw [rot_len]; exact h), rot_at h0 h hk0 hk hj]
theorem small_of {L : List Ct} {i : Int} (h : ∀ k, k < i.toNat → -1000000 ≤ (atC L k).2 ∧ (atC L k).2 ≤ 1000000) (hi : ¬ i < (L.length : Int)) : small L := fun p hp => by
  obtain ⟨k, hk, rfl⟩ := at_of_memE (E := encC) hp
  exact h k (by omega)
theorem order_eq {L : List Ct} {i k : Int} (hn : L.length ≤ 100) (h : ∀ q, q < i.toNat → -1000000 ≤ (atC L q).2 ∧ (atC L q).2 ≤ 1000000) (hi : ¬ i < (L.length : Int)) : sumC ((rotC L k.toNat).take i.toNat) = sumC (L.take i.toNat) := by
  rw [List.take_of_length_le (l := rotC L k.toNat) (by rw [rot_len]; omega), List.take_of_length_le (l := L) (by omega)]
  exact sum_perm (rot_perm L _) (fun p hp => small_of h hi p ((rot_perm L _).mem_iff.1 hp)) (by rw [rot_len]; omega)
/-! ### And back -/
def negC (l : List Ct) : List Ct := l.map fun p => (p.1, -p.2)
theorem tot_neg : ∀ (l : List Ct) (t : St), tot (negC l) t = - tot l t
  | [], t => rfl
  | p :: r, t => by
    have := tot_neg r t
    simp only [negC, List.map_cons, tot] at this ⊢
    rw [this]; split <;> omega
def backL (L : List Ct) (i : Int) : List Ct := L ++ negC ((L.drop (i + 1).toNat).reverse)
theorem back_start {L : List Ct} {i : Int} (hi : ¬ i < (L.length : Int)) : sumC (L.take i.toNat) = sumC (backL L ((L.length : Int) - 1)) := by
  unfold backL
  rw [List.take_of_length_le (by omega), List.drop_of_length_le (by omega)]; simp [negC]
theorem back_step {L : List Ct} {i : Int} (h0 : 0 ≤ i) (h : i < (L.length : Int)) : addC (sumC (backL L i)) (atC L i.toNat).1 (-(atC L i.toNat).2) = sumC (backL L (i - 1)) := by
  have e : backL L (i - 1) = backL L i ++ [((atC L i.toNat).1, -(atC L i.toNat).2)] := by
    unfold backL negC
    rw [show (i - 1 + 1).toNat = i.toNat by omega, show (i + 1).toNat = i.toNat + 1 by omega, List.drop_eq_getElem_cons (show i.toNat < L.length by omega), List.reverse_cons, List.map_append, ← List.append_assoc, show L[i.toNat] = atC L i.toNat from (atE_eq (by omega)).symm]
    rfl
  rw [e, sum_snoc]
theorem back_len (L : List Ct) (i : Int) : (backL L i).length ≤ 2 * L.length := by
  unfold backL negC; rw [List.length_append, List.length_map, List.length_reverse, List.length_drop]; omega
theorem back_end {L : List Ct} {i : Int} (hn : L.length ≤ 100) (hs : small L) (hi : ¬ 0 ≤ i) : sumC (backL L i) = [] := by
  refine (sum_ok _).ext bag_nil fun t => ?_
  have e : backL L i = L ++ negC L.reverse := by unfold backL; rw [show (i + 1).toNat = 0 by omega]; rfl
  have hl := back_len L i
  rw [of_sum (fun p hp => ?_) (by omega), of_nil, e, tot_app, tot_neg, tot_perm (List.reverse_perm L)]
  · split <;> omega
  · rw [e] at hp
    rcases List.mem_append.1 hp with h1 | h1
    · exact hs p h1
    · obtain ⟨q, hq, rfl⟩ := List.mem_map.1 h1
      have := hs q (List.mem_reverse.1 hq)
      simp only; omega
/-! ### Covers -/
theorem front_pos {C : List Ct} {i : Nat} (h : BagOK C) (hi : i < (minL (posL C)).length) : 0 < ofC C (atS (minL (posL C)) i) := by
  obtain ⟨p, hp, h1, h2⟩ := mem_posL.1 (mem_minL.1 (atS_mem hi)).1
  rw [← h2, of_mem h.asc.nodup hp]; exact h1
theorem cov_pos {C : List Ct} {i : Nat} (hi : i < C.length) (h : 0 < (atC C i).2) : covB (minL (posL C)) (atC C i).1 = true := by
  rw [min_cov]
  exact cov_iff.2 ⟨_, mem_posL.2 ⟨_, atC_mem hi, h, rfl⟩, St.le_refl _⟩
theorem of_at {C : List Ct} {i : Nat} (h : BagOK C) (hi : i < C.length) : ofC C (atC C i).1 = (atC C i).2 ∧ (atC C i).2 ≠ 0 := ⟨of_mem h.asc.nodup (atC_mem hi), (h.ok _ (atC_mem hi)).1⟩
theorem asc_at {C : List Ct} {i j : Nat} (h : BagOK C) (hij : i < j) (hj : j < C.length) : (atC C i).1.aheadB (atC C j).1 = true := by
  have := List.pairwise_iff_getElem.1 h.asc i j (by omega) hj hij
  unfold atC
  rwa [atE_eq (by omega), atE_eq hj]
/-! ### One stamp alone -/
def oneC (t : St) (s : Int) : List Ct := if s = 0 then [] else [(t, s)]
theorem of_one (t : St) (s : Int) : ofC (oneC t s) t = s := by
  unfold oneC
  split
  · rename_i h; rw [h]; rfl
  · simp [ofC, getM]
theorem add_one {t : St} {s x : Int} (hr : t.rightB = true) (h1 : -1000000000 ≤ s + x) (h2 : s + x ≤ 1000000000) : addC (oneC t s) t x = oneC t (s + x) := by
  have h0 : addE (oneC t s) t x = 0 := add_iff.2 ⟨hr, by rw [of_one]; exact h1, by rw [of_one]; exact h2⟩
  rw [addC_yes h0, of_one]
  unfold oneC
  by_cases hs : s = 0
  · rw [if_pos hs]; simp [setC]
  · rw [if_neg hs]
    by_cases hx : s + x = 0
    · simp [setC, ahead_irr, hx]
    · simp [setC, ahead_irr, hx]
theorem one_len (t : St) (s : Int) : ((oneC t s).length : Int) = if s = 0 then 0 else 1 := by unfold oneC; split <;> rfl
theorem one_lack (t : St) (s : Int) : lackB (oneC t s) = decide (s < 0) := by
  unfold oneC lackB
  split
  · rename_i h; simp [h]
  · simp
theorem one_front (t : St) (s : Int) : ((minL (posL (oneC t s))).length : Int) = if 0 < s then 1 else 0 := by
  unfold oneC posL
  by_cases h : s = 0
  · rw [if_pos h]; simp [h, minL, rowL]
  · rw [if_neg h]
    by_cases hp : 0 < s
    · simp [hp, minL, rowL, leastB, putL]
    · simp [hp, minL, rowL]
end Go.Proofs.Ytboinbmgndomhaa
