/- Put together: Lc, Lg, Go, Hm, Lw, Gr, Sv, Gx, Gy, Pk. -/
import Derived.Test.YtboinbmgndomhaaGreatJ2
import Derived.Test.YtboinbmgndomhaaGreatCt
import Derived.Test.YtboinbmgndomhaaGreatJ3
import Derived.Deep.Strs
import Derived.Test.YtboinbmgndomhaaGreatGm
import Derived.Test.YtboinbmgndomhaaGreatJ1
import Derived.ChangeKeysEq
namespace Go.Proofs.YtboinbmgndomhaaGreat
open Go.ChangeShapes Go.WideShapes Go.ChangeAt Go.RowKit Go.Joins Go.Deep
set_option maxRecDepth 100000
set_option linter.unusedSimpArgs false
set_option linter.unusedVariables false
def Opens (P : Program) (t : TypeId) {α : Type} (f : α → List Value) (I : α → Prop) : Prop :=
  ∀ {H : Type} {enc : TypeId × Value → H} {W : World} {base : Nat} {sp : Nat → Bool} {held : Bool} {fuel : Nat} {cs : List Value} {x : DataW H × List MemPlace}, DataW.trod enc P W base sp held fuel t cs = some x → ∃ a, cs = f a ∧ I a
section
variable {P : Program} {t : TypeId} {α β : Type}
theorem opens_int (h : P.underlying t = some (.int .i64)) : Opens P t (fun n : Int => [.int .i64 n]) (fun n => -9223372036854775808 ≤ n ∧ n ≤ 9223372036854775807) := by
  intro H enc W base sp held fuel cs x hx
  obtain ⟨z, e, _, w⟩ := DataW.trod_int h hx
  exact ⟨z, e, wf64 w⟩
theorem opens_struct2 {f0 f1 : Field} {f : α → List Value} {I : α → Prop} {g : β → List Value} {J : β → Prop} {m0 m1 : Nat} (h : P.underlying t = some (.struct #[f0, f1])) (h0 : Opens P f0.type f I) (h1 : Opens P f1.type g J)
    (hl : (((Nat.beq f0.offset 0 && Nat.beq f1.offset m0) && (Nat.beq (P.cellsOf f0.type) m0 && Nat.beq (P.cellsOf f1.type) m1)) && Nat.beq (P.cellsOf t) (m0 + m1)) = true) : Opens P t (fun p : α × β => f p.1 ++ g p.2) (fun p => I p.1 ∧ J p.2) := by
  simp only [Bool.and_eq_true, Nat.beq_eq] at hl
  obtain ⟨⟨⟨o0, o1⟩, c0, c1⟩, c⟩ := hl
  intro H enc W base sp held fuel cs x hx
  obtain ⟨y0, y1, n, _, hlen, hy0, hy1⟩ := trod_struct2 h hx
  rw [o0, c0] at hy0
  rw [o1, c1] at hy1
  obtain ⟨a, ha, hI⟩ := h0 hy0
  obtain ⟨b, hb, hJ⟩ := h1 hy1
  refine ⟨(a, b), ?_, hI, hJ⟩
  show cs = f a ++ g b
  rw [← ha, ← hb, List.drop_zero, List.take_of_length_le (l := cs.drop m0) (by rw [List.length_drop, hlen, c]; omega), List.take_append_drop]
theorem opens_pair {ti : TypeId} {f0 f1 : Field} (hu : Tryz.prog.underlying t = some (.struct #[f0, f1])) (hone : oneCellFields Tryz.prog #[f0, f1] = true) (hC : Tryz.prog.cellsOf t = 2)
    (h0 : f0.type = ti) (h1 : f1.type = ti) (hi : Tryz.prog.underlying ti = some (.int .i64)) : Opens Tryz.prog t (fun s : St => [.int .i64 s.e, .int .i64 s.r]) St.I := by
  intro H enc W base sp held fuel cs x hx
  exact pair_cells hu hone hC h0 h1 hi hx
theorem cells_at {w : World} {b m : Nat} {a : Addr} {cs : List Value} (h : w.cells? b a m = some cs) : ∀ j u, cs[j]? = some u → w.cell? (a.add j) = some u := by
  unfold World.cells? at h
  split at h
  · intro j u hj
    obtain ⟨hl, hu⟩ := List.getElem?_eq_some_iff.1 hj
    have hlen := mapM_some_length h
    have hm : j < m := by rw [List.length_range] at hlen; omega
    have := mapM_some_get h j j (by rw [List.getElem?_range hm])
    rw [hj] at this
    exact this
  · cases h
theorem openE {H : Type} {enc : TypeId × Value → H} {W : World} {e : TypeId} (E : Enc α) {I : α → Prop} (hut : P.underlying t = some (.slice e)) (hC : P.cellsOf e = E.m) (hpos : 0 < E.m) (ho : Opens P e E.f I) {v : Value} {d : DataW H} {ps : List MemPlace} {base : Nat} (hval : Value.okWide P W .any base t v) (h : DataW.Trod enc P W 0 (fun _ => true) true t v d ps) :
    ∃ L : List α, RdV W E.m v L.length (cE E L) ∧ ∀ s ∈ L, I s := by
  obtain ⟨a0, len, cap, rfl⟩ := okWide_slice hut hval
  obtain ⟨fuel, hf⟩ := h
  rcases open_slice hut hf with ⟨hcs, _⟩ | ⟨a, len', cap', m, n, D, Pl, hcs, _, hl, hm, hmm, _, hel⟩
  · have hv : Value.slice a0 len cap = .slice none 0 0 := by simpa [Value.cells] using hcs
    rw [hv]
    exact ⟨[], ⟨by simp [cE], none, 0, rfl, Nat.le_refl _, Nat.zero_le _, fun h => absurd h (by simp)⟩, by simp⟩
  · have hv : Value.slice a0 len cap = .slice (some a) len' cap' := by simpa [Value.cells] using hcs
    rw [hv]
    have hel2 : ∀ i, i < len' → ∃ s : α, I s ∧ ∀ j u, (E.f s)[j]? = some u → W.cell? (a.add (i * E.m + j)) = some u := fun i hil => by
      obtain ⟨cs', hc, htr⟩ := hel i (by rw [hmm]; split <;> omega)
      rw [hC] at hc
      obtain ⟨s, hs, hI⟩ := ho htr
      subst hs
      refine ⟨s, hI, fun j u hj => ?_⟩
      have := cells_at hc j u hj
      rwa [add_add] at this
    obtain ⟨f, hf⟩ : ∃ f : Nat → α, ∀ i, i < len' → I (f i) ∧ ∀ j u, (E.f (f i))[j]? = some u → W.cell? (a.add (i * E.m + j)) = some u := by
      refine ⟨fun i => if hi : i < len' then Classical.choose (hel2 i hi) else E.z, fun i hi => ?_⟩
      simp only [hi, dif_pos]
      exact Classical.choose_spec (hel2 i hi)
    refine ⟨(List.range len').map f, ?_, fun s hs => ?_⟩
    · have hll : ((List.range len').map f).length = len' := by simp
      rw [hll]
      refine ⟨by rw [cE_len, hll], some a, cap', rfl, hl, hm, fun hp => ?_⟩
      have hx0 : ∃ u, (E.f (f 0))[0]? = some u := ⟨(E.f (f 0))[0]'(by rw [E.len]; exact hpos), List.getElem?_eq_getElem _⟩
      obtain ⟨u0, hu0⟩ := hx0
      have h3 := cell_spot ((hf 0 hp).2 0 u0 hu0)
      rw [show a.add (0 * E.m + 0) = a from by simp [Addr.add]] at h3
      refine ⟨a.block, a.off, by cases a; simp_all, h3.2, fun j u hj => ?_⟩
      have hj2 : j < len' * E.m := by
        have := (List.getElem?_eq_some_iff.1 hj).1
        rw [cE_len, hll] at this; exact this
      have hjd : j / E.m < len' := by rw [Nat.div_lt_iff_lt_mul hpos]; exact hj2
      have hjm : j % E.m < E.m := Nat.mod_lt _ hpos
      have hdm : j / E.m * E.m + j % E.m = j := by rw [Nat.mul_comm]; exact Nat.div_add_mod j E.m
      have hc := cE_at (E := E) (L := (List.range len').map f) (i := j / E.m) (by rw [hll]; exact hjd)
      have hat : atE E ((List.range len').map f) (j / E.m) = f (j / E.m) := by
        rw [atE_eq (by rw [hll]; exact hjd)]; simp
      rw [hat] at hc
      have hg : (E.f (f (j / E.m)))[j % E.m]? = some u := by
        rw [← hc, List.getElem?_take, if_pos hjm, List.getElem?_drop, hdm]; exact hj
      have := (hf (j / E.m) hjd).2 _ u hg
      rw [hdm, add_lit h3.1] at this
      exact this
    · obtain ⟨i, hi, rfl⟩ := List.mem_map.1 hs
      exact (hf i (by simpa using hi)).1
end
section
variable {H : Type} {enc : TypeId × Value → H} {W : World}
end
section
variable {H : Type} {enc : TypeId × Value → H} {W : World}
end
section
variable {H : Type} {enc : TypeId × Value → H} {W : World}
end
end Go.Proofs.YtboinbmgndomhaaGreat
namespace Go.Proofs.YtboinbmgndomhaaGreat
open Go.ChangeShapes Go.WideShapes Go.ChangeAt Go.RowKit Go.Joins Go.Deep
set_option maxRecDepth 100000
set_option linter.unusedSimpArgs false
set_option linter.unusedVariables false
def I64 (n : Int) : Prop := -9223372036854775808 ≤ n ∧ n ≤ 9223372036854775807
def Ed.I (x : Ed) : Prop := I64 x.f ∧ I64 x.t ∧ x.p.I
section
variable {P : Program} {t : TypeId} {α β γ : Type}
theorem opens_struct3 {f0 f1 f2 : Field} {f : α → List Value} {I : α → Prop} {g : β → List Value} {J : β → Prop} {h : γ → List Value} {K : γ → Prop} {m0 m1 m2 : Nat} (hu : P.underlying t = some (.struct #[f0, f1, f2])) (h0 : Opens P f0.type f I) (h1 : Opens P f1.type g J) (h2 : Opens P f2.type h K)
    (o0 : f0.offset = 0) (o1 : f1.offset = m0) (o2 : f2.offset = m0 + m1) (c0 : P.cellsOf f0.type = m0) (c1 : P.cellsOf f1.type = m1) (c2 : P.cellsOf f2.type = m2) (c : P.cellsOf t = m0 + m1 + m2) : Opens P t (fun p : α × β × γ => f p.1 ++ (g p.2.1 ++ h p.2.2)) (fun p => I p.1 ∧ J p.2.1 ∧ K p.2.2) := by
  intro H enc W base sp held fuel cs x hx
  obtain ⟨y0, y1, y2, n, _, hlen, hy0, hy1, hy2⟩ := trod_struct3 hu hx
  rw [o0, c0] at hy0
  rw [o1, c1] at hy1
  rw [o2, c2] at hy2
  obtain ⟨a, ha, hI⟩ := h0 hy0
  obtain ⟨b, hb, hJ⟩ := h1 hy1
  obtain ⟨d, hd, hK⟩ := h2 hy2
  refine ⟨(a, b, d), ?_, hI, hJ, hK⟩
  show cs = f a ++ (g b ++ h d)
  rw [← ha, ← hb, ← hd, List.drop_zero, List.take_of_length_le (l := cs.drop (m0 + m1)) (by rw [List.length_drop, hlen, c]; omega), ← List.drop_drop, List.take_append_drop, List.take_append_drop]
theorem openE1 {H : Type} {enc : TypeId × Value → H} {W : World} {e : TypeId} (E : Enc α) {I : α → Prop} (hut : P.underlying t = some (.slice e)) (hC : P.cellsOf e = E.m) (hpos : 0 < E.m) (ho : Opens P e E.f I) {fuel : Nat} {cs : List Value} {x : DataW H × List MemPlace} (hf : DataW.trod enc P W 0 (fun _ => true) true fuel t cs = some x) :
    ∃ (v : Value) (L : List α), cs = [v] ∧ RdV W E.m v L.length (cE E L) ∧ ∀ s ∈ L, I s := by
  rcases open_slice hut hf with ⟨hcs, _⟩ | ⟨a, len', cap', m, n, D, Pl, hcs, _, hl, hm, hmm, _, hel⟩
  · exact ⟨_, [], hcs, ⟨by simp [cE], none, 0, rfl, Nat.le_refl _, Nat.zero_le _, fun h => absurd h (by simp)⟩, by simp⟩
  · have hel2 : ∀ i, i < len' → ∃ s : α, I s ∧ ∀ j u, (E.f s)[j]? = some u → W.cell? (a.add (i * E.m + j)) = some u := fun i hil => by
      obtain ⟨cs', hc, htr⟩ := hel i (by rw [hmm]; split <;> omega)
      rw [hC] at hc
      obtain ⟨s, hs, hI⟩ := ho htr
      subst hs
      refine ⟨s, hI, fun j u hj => ?_⟩
      have := cells_at hc j u hj
      rwa [add_add] at this
    obtain ⟨f, hf⟩ : ∃ f : Nat → α, ∀ i, i < len' → I (f i) ∧ ∀ j u, (E.f (f i))[j]? = some u → W.cell? (a.add (i * E.m + j)) = some u := by
      refine ⟨fun i => if hi : i < len' then Classical.choose (hel2 i hi) else E.z, fun i hi => ?_⟩
      simp only [hi, dif_pos]
      exact Classical.choose_spec (hel2 i hi)
    refine ⟨_, (List.range len').map f, hcs, ?_, fun s hs => ?_⟩
    · have hll : ((List.range len').map f).length = len' := by simp
      rw [hll]
      refine ⟨by rw [cE_len, hll], some a, cap', rfl, hl, hm, fun hp => ?_⟩
      have hx0 : ∃ u, (E.f (f 0))[0]? = some u := ⟨(E.f (f 0))[0]'(by rw [E.len]; exact hpos), List.getElem?_eq_getElem _⟩
      obtain ⟨u0, hu0⟩ := hx0
      have h3 := cell_spot ((hf 0 hp).2 0 u0 hu0)
      rw [show a.add (0 * E.m + 0) = a from by simp [Addr.add]] at h3
      refine ⟨a.block, a.off, by cases a; simp_all, h3.2, fun j u hj => ?_⟩
      have hj2 : j < len' * E.m := by
        have := (List.getElem?_eq_some_iff.1 hj).1
        rw [cE_len, hll] at this; exact this
      have hjd : j / E.m < len' := by rw [Nat.div_lt_iff_lt_mul hpos]; exact hj2
      have hjm : j % E.m < E.m := Nat.mod_lt _ hpos
      have hdm : j / E.m * E.m + j % E.m = j := by rw [Nat.mul_comm]; exact Nat.div_add_mod j E.m
      have hc := cE_at (E := E) (L := (List.range len').map f) (i := j / E.m) (by rw [hll]; exact hjd)
      have hat : atE E ((List.range len').map f) (j / E.m) = f (j / E.m) := by
        rw [atE_eq (by rw [hll]; exact hjd)]; simp
      rw [hat] at hc
      have hg : (E.f (f (j / E.m)))[j % E.m]? = some u := by
        rw [← hc, List.getElem?_take, if_pos hjm, List.getElem?_drop, hdm]; exact hj
      have := (hf (j / E.m) hjd).2 _ u hg
      rw [hdm, add_lit h3.1] at this
      exact this
    · obtain ⟨i, hi, rfl⟩ := List.mem_map.1 hs
      exact (hf i (by simpa using hi)).1
end
theorem opensEd : Opens Tryz.prog 88 encG.f Ed.I := by
  intro H enc W base sp held fuel cs x hx
  obtain ⟨p, hp, hI⟩ := opens_struct3 (m0 := 1) (m1 := 1) (m2 := 2) Tryz.underlying88 (opens_int Tryz.underlying3) (opens_int Tryz.underlying3) (opens_pair Tryz.underlying85 (by kernel_rfl) (by kernel_rfl) rfl rfl Tryz.underlying3) rfl rfl rfl (by kernel_rfl) (by kernel_rfl) (by kernel_rfl) (by kernel_rfl) hx
  exact ⟨⟨p.1, p.2.1, p.2.2⟩, hp, hI⟩
section
variable {H : Type} {enc : TypeId × Value → H} {W : World}
theorem openGr {v : Value} {d : DataW H} {ps : List MemPlace} {base : Nat} (hval : Value.okWide Tryz.prog W .any base 24 v) (h : DataW.Trod enc Tryz.prog W 0 (fun _ => true) true 24 v d ps) :
    ∃ (n : Int) (ev : Value) (E : List Ed), v = .agg #[.int .i64 n, ev] ∧ I64 n ∧ RdG W ev E ∧ ∀ x ∈ E, x.I := by
  obtain ⟨cs, rfl, hsz⟩ := okWide_struct Tryz.underlying24 hval
  obtain ⟨fuel, hf⟩ := h
  obtain ⟨y0, y1, k, _, hlen, hy0, hy1⟩ := trod_struct2 Tryz.underlying24 hf
  obtain ⟨n, hn, hI⟩ := opens_int Tryz.underlying3 hy0
  obtain ⟨ev, E, he, hr, hE⟩ := openE1 encG Tryz.underlying22 (by kernel_rfl) (by decide) opensEd hy1
  refine ⟨n, ev, E, ?_, hI, hr, hE⟩
  have hc : Tryz.prog.cellsOf 24 = 2 := by kernel_rfl
  have hc0 : Tryz.prog.cellsOf 3 = 1 := by kernel_rfl
  have hc1 : Tryz.prog.cellsOf 22 = 1 := by kernel_rfl
  have hl : cs.toList.length = 2 := by rw [← hc]; exact hlen
  have h0 : (cs.toList.drop 0).take 1 = [.int .i64 n] := by rw [← hc0]; exact hn
  have h1 : (cs.toList.drop 1).take 1 = [ev] := by rw [← hc1]; exact he
  congr 1
  apply Array.ext'
  match hq : cs.toList, hl with
  | [a, b], _ =>
    rw [hq] at h0 h1
    simp at h0 h1
    rw [h0, h1]
end
theorem rdGr : Tryz.prog.readableRec 24 = true ∧ 24 < Tryz.prog.types.size := ⟨by kernel_rfl, of_decide_eq_true (by kernel_rfl)⟩
end Go.Proofs.YtboinbmgndomhaaGreat
namespace Go.Proofs.YtboinbmgndomhaaGreat
open Go.RowKit
set_option maxRecDepth 100000
set_option linter.unusedSimpArgs false
set_option linter.unusedVariables false
structure RowI (E : List Ed) (n : Nat) (s : List Bool × List Int) : Prop where
  told : ∀ k, k < n → (atB s.1 k = true ↔ (k : Int) ∈ s.2)
  nd : s.2.Nodup
  rng : ∀ q ∈ s.2, 0 ≤ q ∧ q < (n : Int)
  bef : ∀ x ∈ E, x.p = St.zero → ∀ a b, s.2 = a ++ x.t :: b → x.f ∈ a
end Go.Proofs.YtboinbmgndomhaaGreat
namespace Go.Proofs.YtboinbmgndomhaaGreat
open Go.RowKit
set_option maxRecDepth 100000
set_option linter.unusedSimpArgs false
set_option linter.unusedVariables false
def rightC (L : List (List (List St))) (p : Po) : Bool :=
  decide (1 ≤ L.length ∧ L.length ≤ 8) && L.all (fun r => decide (r.length = L.length)) && (decide (0 ≤ p.n ∧ p.n < (L.length : Int)) && p.t.rightB)
def placesC (L : List (List (List St))) (p : Po) (k : Int) : List St :=
  if rightC L p && decide (0 ≤ k ∧ k < (L.length : Int)) then minL (sumsP [p.t] (atR (at3 L p.n.toNat) k.toNat)) else []
def couldC (L : List (List (List St))) (a b : Po) : Bool := rightC L b && covB (placesC L a b.n) b.t
section
variable {L : List (List (List St))} {p a b d : Po} {k : Int}
theorem rightC_iff : rightC L p = true ↔ (1 ≤ L.length ∧ L.length ≤ 8) ∧ (∀ r ∈ L, r.length = L.length) ∧ (0 ≤ p.n ∧ p.n < (L.length : Int)) ∧ p.t.rightB = true := by
  unfold rightC; simp [and_assoc]
theorem rc_len (h : L.length < 1 ∨ 8 < L.length) : rightC L p = false := by
  rw [← Bool.not_eq_true, rightC_iff]; intro z; omega
theorem rc_row {i : Nat} (hi : i < L.length) (h : ¬ (at3 L i).length = L.length) : rightC L p = false := by
  rw [← Bool.not_eq_true, rightC_iff]
  intro z
  exact h (z.2.1 _ (by rw [at3_eq hi]; exact List.getElem_mem hi))
theorem rc_fin {i : Int} (h1 : 1 ≤ L.length ∧ L.length ≤ 8) (h : ∀ k, k < i.toNat → (at3 L k).length = L.length) (hi : ¬ i < (L.length : Int)) : rightC L p = (decide (0 ≤ p.n ∧ p.n < (L.length : Int)) && p.t.rightB) := by
  unfold rightC
  rw [decide_eq_true h1, Bool.true_and, show L.all (fun r => decide (r.length = L.length)) = true from ?_, Bool.true_and]
  rw [List.all_eq_true]
  intro r hr
  obtain ⟨q, hq, e⟩ := List.mem_iff_getElem.1 hr
  have := h q (by omega)
  rw [at3_eq hq, e] at this
  exact decide_eq_true this
theorem rightC_at (h : rightC L p = true) : (1 ≤ L.length ∧ L.length ≤ 8) ∧ (0 ≤ p.n ∧ p.n < (L.length : Int)) ∧ p.t.rightB = true ∧ ∀ i, i < L.length → (at3 L i).length = L.length := by
  have z := rightC_iff.1 h
  exact ⟨z.1, z.2.2.1, z.2.2.2, fun i hi => z.2.1 _ (by rw [at3_eq hi]; exact List.getElem_mem hi)⟩
theorem pl_no (h : rightC L p = false ∨ ¬ (0 ≤ k ∧ k < (L.length : Int))) : placesC L p k = [] := by
  unfold placesC
  rcases h with h | h
  · rw [h]; rfl
  · rw [decide_eq_false h, Bool.and_false]; rfl
theorem pl_yes (h : rightC L p = true) (hk : 0 ≤ k ∧ k < (L.length : Int)) : placesC L p k = minL (sumsP [p.t] (atR (at3 L p.n.toNat) k.toNat)) := by
  unfold placesC; rw [h, decide_eq_true hk]; rfl
theorem mem_sums1 {t : St} {l : List St} {s : St} : s ∈ sumsP [t] l ↔ ∃ q ∈ l, t.afterB q = true ∧ t.after q = s := by
  rw [mem_sums]; simp
theorem aft_len (t : St) (l : List St) (k : Nat) : (partP [t] l 0 k).length ≤ l.length := by
  unfold partP
  simp only [List.take_zero, sumsP, List.flatMap_nil, List.nil_append, List.length_map]
  exact Nat.le_trans (List.length_filter_le _ _) (by rw [List.length_take]; omega)
theorem aft_zero (t : St) (l : List St) : [] = partP [t] l 0 (0 : Int).toNat := by simp [partP, sumsP]
theorem aft_end {t : St} {l : List St} {k : Int} (h : ¬ k < (l.length : Int)) : partP [t] l 0 k.toNat = sumsP [t] l := by
  have e : l.take k.toNat = l := List.take_of_length_le (by omega)
  simp only [partP, List.take_zero, e, sumsP, List.flatMap_nil, List.nil_append, List.flatMap_cons, List.append_nil]
  rfl
end
theorem placesC_len {L : List (List (List St))} {a : Po} {k : Int} (hs : Sm3 L) : (placesC L a k).length ≤ 20000000 := by
  unfold placesC
  split
  · refine Nat.le_trans (minL_len _) (Nat.le_trans (sums_len _ _) ?_)
    have := hs.2.2 a.n.toNat k.toNat
    simp only [List.length_singleton]; omega
  · simp
section
variable {n : Nat} {E : List Ed} {a b d p : Po} {k : Int}
end
end Go.Proofs.YtboinbmgndomhaaGreat
namespace Go.Proofs.YtboinbmgndomhaaGreat
open Go.ChangeShapes Go.WideShapes Go.ChangeAt Go.RowKit Go.Joins Go.Deep
set_option maxRecDepth 100000
set_option linter.unusedSimpArgs false
set_option linter.unusedVariables false
def encSt : Enc St := ⟨2, fun s => [.int .i64 s.e, .int .i64 s.r], St.zero, fun _ => rfl, fun s v h => by
  simp only [List.mem_cons, List.not_mem_nil, or_false] at h
  rcases h with rfl | rfl <;> rfl⟩
section
variable {P : Program} {t e : TypeId} {α β : Type}
end
def Po.I (p : Po) : Prop := I64 p.n ∧ p.t.I
def poF (p : Po) : List Value := [.int .i64 p.n, .int .i64 p.t.e, .int .i64 p.t.r]
theorem opensPo : Opens Tryz.prog 38 poF Po.I := by
  intro H enc W base sp held fuel cs x hx
  obtain ⟨p, hp, hI⟩ := opens_struct2 (m0 := 1) (m1 := 2) Tryz.underlying38 (opens_int Tryz.underlying3) (opens_pair Tryz.underlying36 (by kernel_rfl) (by kernel_rfl) rfl rfl Tryz.underlying3) (by kernel_rfl) hx
  exact ⟨⟨p.1, p.2⟩, hp, hI⟩
section
variable {H : Type} {enc : TypeId × Value → H} {W : World}
end
section
variable {H : Type} {enc : TypeId × Value → H} {W : World}
end
end Go.Proofs.YtboinbmgndomhaaGreat
namespace Go.Proofs.YtboinbmgndomhaaGreat
open Go.RowKit
set_option maxRecDepth 100000
set_option linter.unusedSimpArgs false
set_option linter.unusedVariables false
theorem cI_len (L : List Int) : (cI L).length = L.length := by unfold cI; rw [cE_len]; simp [encI]
theorem cI_set : ∀ (L : List Int) (j : Nat) (x : Int), (cI L).set j (.int .i64 x) = cI (L.set j x)
  | [], _, _ => rfl
  | _ :: _, 0, _ => rfl
  | a :: r, j + 1, x => by
    have := cI_set r j x
    show Value.int .i64 a :: (cI r).set j (.int .i64 x) = Value.int .i64 a :: cI (r.set j x)
    rw [this]
theorem aI_at {T : List Int} {j : Nat} (h : j < T.length) : (List.toArray (cI T))[0 + j * 1]? = some (.int .i64 (atI T j)) := by
  rw [Nat.zero_add, List.getElem?_toArray]; exact cI_at h
theorem aI_set (T : List Int) (j : Nat) (x : Int) : (List.toArray (cI T)).setIfInBounds (0 + j * 1) (.int .i64 x) = List.toArray (cI (T.set j x)) := by
  rw [← cI_set]; simp
theorem aI_size (T : List Int) : (List.toArray (cI T)).size = T.length := by rw [List.size_toArray, cI_len]
theorem atI_eq {L : List Int} {i : Nat} (h : i < L.length) : atI L i = L[i] := atE_eq (E := encI) h
theorem atI_set {L : List Int} {i j : Nat} {b : Int} (h : i < L.length) : atI (L.set i b) j = if i = j then b else atI L j := by
  unfold atI atE
  rw [List.getD_eq_getElem?_getD, List.getD_eq_getElem?_getD, List.getElem?_set]
  split
  · rename_i e; subst e; simp [h]
  · rfl
theorem ext_atI {A B : List Int} (hl : A.length = B.length) (h : ∀ k, k < A.length → atI A k = atI B k) : A = B := by
  apply List.ext_getElem hl
  intro k h1 h2
  have := h k h1
  rwa [atI_eq h1, atI_eq h2] at this
def posO (o : List Int) (i : Nat) : List Int := (List.range 8).map fun (q : Nat) => if (q : Int) ∈ o.take i then ((o.idxOf (q : Int) : Nat) : Int) + 1 else 0
theorem pos_len (o : List Int) (i : Nat) : (posO o i).length = 8 := by simp [posO]
def lineE (P : List St) (k : Nat) : List Ed := (List.range k).map fun (i : Nat) => (⟨(i : Int), (i : Int) + 1, atS P i⟩ : Ed)
def lsum (P : List St) (i : Nat) : Nat → St
  | 0 => St.zero
  | d + 1 => (lsum P i d).add (atS P (i + d))
def Small (P : List St) (m : Nat) : Prop := ∀ k, k < m → 0 ≤ (atS P k).e ∧ (atS P k).e ≤ 100000 ∧ 0 ≤ (atS P k).r ∧ (atS P k).r ≤ 100000
end Go.Proofs.YtboinbmgndomhaaGreat
namespace Go.Proofs.YtboinbmgndomhaaGreat
open Go.RowKit
set_option maxRecDepth 100000
set_option linter.unusedSimpArgs false
set_option linter.unusedVariables false
theorem blk_locS {p : Nat} {t : TypeId} {cs : Array Value} : Loc [p] (fun w => Blk w p t cs) := fun _ _ hk h =>
  ⟨(hk p (by simp)).trans h, fun g hg => by simp only [List.mem_singleton] at hg; subst hg; exact Blk.lt h⟩
def fpSv (B : Nat) (v : Value) : List Nat := B :: v.ownBlock.toList
structure SvV (B : Nat) (t ts : TypeId) (m n : Nat) (xs : List Value) (v : Value) (w : World) : Prop where
  blk : Blk w B t #[v]
  row : w.ownsRow 0 ts m v n xs
  ne : ¬ B ∈ v.ownBlock.toList
section
variable {R : List Nat} {w0 w w' : World} {C : List Ent} {B : Nat} {t ts : TypeId} {m n : Nat} {xs : List Value} {v : Value}
theorem SvV.loc (B : Nat) (t ts : TypeId) (m n : Nat) (xs : List Value) (v : Value) : Loc (fpSv B v) (SvV B t ts m n xs v) := fun w w' hk h => by
  have e1 := blk_locS w w' (fun k hk' => hk k (by simp only [List.mem_singleton] at hk'; simp [fpSv, hk'])) h.blk
  have hlt : ∀ k, v.ownBlock = some k → k < w.heap.size := fun k hk' => (World.ownsRow.lt h.row k hk').2
  refine ⟨⟨e1.1, ⟨h.row.1, ?_⟩, h.ne⟩, fun k hk' => ?_⟩
  · rcases h.row.2 with h4 | ⟨g, cap, cur, h4, h5, h6, h7⟩
    · exact .inl h4
    · exact .inr ⟨g, cap, cur, h4, h5, (hk g (by simp [fpSv, h4, Value.ownBlock])).trans h6, h7⟩
  · rcases List.mem_cons.1 hk' with rfl | h4
    · exact e1.2 k (by simp)
    · exact hlt k (by simpa using h4)
theorem Mm.packSv (M : Mm R w0 w (.row ts m v n xs :: .blk B t #[v] :: C)) : Mm R w0 w (.own (fpSv B v) (SvV B t ts m n xs v) :: C) := by
  have hap := M.apart (i := 1) (j := 0) rfl rfl (by decide)
  refine Mm.recast (X := [.row ts m v n xs, .blk B t #[v]]) (Y := [_]) M (fun y hy => ?_) (fun y hy g hg => ?_) (List.pairwise_singleton _ _) (fun y hy g hg => ?_)
  · rw [List.mem_singleton.1 hy]
    exact ⟨⟨M.at (i := 1) rfl, M.ow (i := 0) rfl, fun h => hap B (by simp [Ent.fp]) (by simpa [Ent.fp] using h)⟩, SvV.loc _ _ _ _ _ _ _⟩
  · rw [List.mem_singleton.1 hy] at hg
    rcases List.mem_cons.1 (show g ∈ B :: v.ownBlock.toList from hg) with rfl | h
    · exact ⟨.blk g t #[v], by simp, by simp [Ent.fp]⟩
    · exact ⟨.row ts m v n xs, by simp, h⟩
  · rw [List.mem_singleton.1 hy] at hg; cases hg
theorem Mm.unpackSv (M : Mm R w0 w (.own (fpSv B v) (SvV B t ts m n xs v) :: C)) : Mm R w0 w (.row ts m v n xs :: .blk B t #[v] :: C) := by
  have h := M.pv (i := 0) rfl
  refine Mm.recast (X := [.own (fpSv B v) (SvV B t ts m n xs v)]) (Y := [.row ts m v n xs, .blk B t #[v]]) M (fun y hy => ?_) (fun y hy g hg => ?_) ?_ (fun y hy g hg => ?_)
  · rcases List.mem_cons.1 hy with rfl | hy
    · exact h.row
    · rw [List.mem_singleton.1 hy]; exact h.blk
  · refine ⟨_, List.mem_singleton.2 rfl, ?_⟩
    show g ∈ B :: v.ownBlock.toList
    rcases List.mem_cons.1 hy with rfl | hy
    · exact List.mem_cons_of_mem _ hg
    · rw [List.mem_singleton.1 hy] at hg; simp only [Ent.fp, List.mem_singleton] at hg; simp [hg]
  · refine List.pairwise_cons.2 ⟨fun y hy g hg hg' => ?_, List.pairwise_singleton _ _⟩
    rw [List.mem_singleton.1 hy] at hg'
    simp only [Ent.fp, List.mem_singleton] at hg'
    subst hg'
    exact h.ne hg
  · rcases List.mem_cons.1 hy with rfl | hy
    · cases hg
    · rw [List.mem_singleton.1 hy] at hg; cases hg
theorem Mm.new1S (M : Mm [] w0 w C) {i : Nat} {x : Ent} (h : C[i]? = some x) : ∀ g ∈ x.fp, w0.heap.size ≤ g := fun g hg => (M.own x (List.mem_of_getElem? h) g hg).resolve_right (by simp)
def SvZ (B : Nat) (t ts : TypeId) (m : Nat) (xs : List Value) (n : Nat) : Value → Ent → Prop := fun u x' => u = .tuple #[] ∧ ∃ v, x' = .own (fpSv B v) (SvV B t ts m n xs v)
theorem Mm.endSv {v0 : Value} {n0 : Nat} {xs0 : List Value} (M : Mm (fpSv B v0) w0 w C) {i : Nat} (hi : C[i]? = some (.own (fpSv B v) (SvV B t ts m n xs v))) :
    TurnsE w0 (.own (fpSv B v0) (SvV B t ts m n0 xs0 v0)) (SvZ B t ts m xs n) (.returned (.tuple #[])) w :=
  ⟨_, .own (fpSv B v) (SvV B t ts m n xs v), rfl, M.out, ⟨M.pv hi, SvV.loc _ _ _ _ _ _ _⟩, fun g hg => (M.own _ (List.mem_of_getElem? hi) g hg).elim .inr .inl, rfl, rfl, v, rfl⟩
end
section
variable {P : Program} {ops rest : List Oper} {o : Oper} {a : Act} {n d : Nat} {L : List (Nat × Value)} {Q : Exit → Act → World → Prop} {R : List Nat} {w w0 : World} {B : List Ent} {x : Operand}
theorem sq_callVT (F : Fr a n L) (M : Mm R w0 w B) (hw : Region.wanted o (yielded ops.toArray a.tmps) = true) {xs : List Operand} {ts : Array TypeId} {args : List Value} {f i : Nat} {lb : Array Value} {y : Ent} {Z : Value → Ent → Prop} (ho : o.op = .call { callee := .value x, args := xs.toArray, argTypes := ts })
    (hx : a.eval x = .func (.func f) #[] lb) (he : enters P f = true) (ha : xs.map a.eval = args) (hi : B[i]? = some y) (hc : Calls P f (args.toArray ++ lb) w (TurnsE w y Z)) (hd : o.dst = some d) (hdn : Nat.blt d n = true)
    (h : ∀ a' w' v x', Z v x' → Fr a' n ((d, v) :: L) → Mm R w0 w' (B.set i x') → wpList P ops.toArray Q rest a' w') : wpList P ops.toArray Q (o :: rest) a w :=
  wpList_step fun K hK => by
    rw [if_pos hw]
    unfold Oper.wp
    rw [run_callV ho hx ha w, callFunc_enters he]
    refine hc.mono fun e w' ⟨v, x', h1, h2, h3, h4, h5, h6⟩ => ?_
    subst h1
    exact hK _ _ (by rw [hd]; exact h _ _ v x' h6 (F.put hdn) (M.swap hi h2 h3 h4 (fun g hg => by rw [h5] at hg; cases hg)))
end
section
variable {P : Program} {w : World} {t e : TypeId} {dd N : Nat}
theorem eqIs (he : P.underlying e = some (.int .i64)) {A B : List Int} (hl : A.length = B.length) : ∀ is : List Nat, (∀ i ∈ is, i < A.length) → (Op.eqItems (dd + 1) e 1 (List.toArray (cI A)) (List.toArray (cI B)) is).run P w = .ok (is.all fun i => decide (atI A i = atI B i)) w
  | [], _ => by simp [Op.eqItems]
  | i :: is, h => by
    have hi := h i (by simp)
    have c1 : (List.toArray (cI A))[i]? = some (.int .i64 (atI A i)) := by have := aI_at (T := A) hi; simpa using this
    have c2 : (List.toArray (cI B))[i]? = some (.int .i64 (atI B i)) := by have := aI_at (T := B) (hl ▸ hi); simpa using this
    have p1 : (part e (List.toArray (cI A)) i).run P w = .ok (.int .i64 (atI A i)) w := by
      have hq : (isAgg e).run P w = .ok false w := by simp [isAgg, run_underlying he, TypeDesc.isRow]
      simp [part, hq, c1]
    have p2 : (part e (List.toArray (cI B)) i).run P w = .ok (.int .i64 (atI B i)) w := by
      have hq : (isAgg e).run P w = .ok false w := by simp [isAgg, run_underlying he, TypeDesc.isRow]
      simp [part, hq, c2]
    have p3 : (Op.equalIn (dd + 1) e (.int .i64 (atI A i)) (.int .i64 (atI B i))).run P w = .ok (decide (atI A i = atI B i)) w := by
      rw [run_equalIn_int w dd e _ _ _ _ he]; congr 1
    have ih := eqIs he hl is (fun j hj => h j (by simp [hj]))
    simp only [Op.eqItems, Nat.mul_one, Sem.run_bind, p1, p2, p3, Result.andThen_ok, List.all_cons]
    cases hc : decide (atI A i = atI B i)
    · simp
    · simp [ih]
theorem eqIa (ht : P.underlying t = some (.array N e)) (he : P.underlying e = some (.int .i64)) (hi : (P.info? e).map (·.size) = some 1) (hc : P.cellsOf e = 1) {A B : List Int} (hA : A.length = N) (hB : B.length = N) : (Op.equalIn (dd + 2) t (.agg (List.toArray (cI A))) (.agg (List.toArray (cI B)))).run P w = .ok (decide (A = B)) w := by
  cases hq : P.info? e with
  | none => simp [hq] at hi
  | some i =>
    rw [run_equalIn_array w (dd + 1) _ _ ht hq, hc, eqIs he (hA.trans hB.symm) _ (fun i hi => by rw [hA]; exact List.mem_range.1 hi)]
    congr 1
    rw [Bool.eq_iff_iff, List.all_eq_true, decide_eq_true_iff]
    refine ⟨fun h => ext_atI (hA.trans hB.symm) fun k hk => ?_, fun h i _ => by rw [h]; simp⟩
    have := h k (List.mem_range.2 (hA ▸ hk))
    simpa using this
end
def upI (f : Nat → Int) (i : Nat) : List Int := (List.range 8).map fun q => if q < i then f q else 0
theorem upI_len (f : Nat → Int) (i : Nat) : (upI f i).length = 8 := by simp [upI]
theorem upI_at {f : Nat → Int} {i q : Nat} (h : q < 8) : atI (upI f i) q = if q < i then f q else 0 := by
  rw [atI_eq (by rw [upI_len]; exact h)]; simp [upI]
theorem upI_zero (f : Nat → Int) : List.replicate 8 0 = upI f (0 : Int).toNat := by
  apply ext_atI
  · rw [upI_len]; simp
  · intro k hk
    have hk8 : k < 8 := by simpa using hk
    rw [upI_at hk8, atI_eq hk, List.getElem_replicate]; simp
theorem upI_step {f : Nat → Int} {i : Int} (h0 : 0 ≤ i) (h8 : i < 8) : (upI f i.toNat).set i.toNat (f i.toNat) = upI f (i + 1).toNat := by
  apply ext_atI
  · rw [List.length_set, upI_len, upI_len]
  · intro k hk
    have hk8 : k < 8 := by rw [List.length_set, upI_len] at hk; exact hk
    rw [atI_set (by rw [upI_len]; omega), upI_at hk8, upI_at hk8, show (i + 1).toNat = i.toNat + 1 by omega]
    split
    · rename_i e; subst e; rw [if_pos (by omega)]
    · rename_i e
      by_cases hlt : k < i.toNat
      · rw [if_pos hlt, if_pos (by omega)]
      · rw [if_neg hlt, if_neg (by omega)]
theorem upI_eq {f g : Nat → Int} {i : Nat} (h8 : i ≤ 8) : upI f i = upI g i ↔ ∀ q, q < i → f q = g q := by
  constructor
  · intro h q hq
    have := congrArg (fun l => atI l q) h
    simp only [upI_at (show q < 8 by omega), if_pos hq] at this
    exact this
  · intro h
    unfold upI
    apply List.map_congr_left
    intro q hq
    split
    · exact h q (by assumption)
    · rfl
def squareB (L : List (List (List St))) : Bool := decide (L.length ≤ 8) && L.all (fun r => decide (r.length = L.length))
theorem sq_big {L : List (List (List St))} (h : 8 < L.length) : squareB L = false := by
  unfold squareB; rw [decide_eq_false (by omega)]; rfl
theorem sq_all {L : List (List (List St))} {i : Int} (h8 : L.length ≤ 8) (h : ¬ i < (L.length : Int)) (h1 : i ≤ (L.length : Int)) :
    decide (upI (fun q => ((at3 L q).length : Int)) i.toNat = upI (fun _ => (L.length : Int)) i.toNat) = squareB L := by
  unfold squareB
  rw [decide_eq_true h8, Bool.true_and, Bool.eq_iff_iff, decide_eq_true_iff, upI_eq (by omega), List.all_eq_true]
  constructor
  · intro z r hr
    obtain ⟨q, hq, e⟩ := List.mem_iff_getElem.1 hr
    have := z q (by omega)
    rw [at3_eq hq, e] at this
    exact decide_eq_true (by omega)
  · intro z q hq
    have := of_decide_eq_true (z (at3 L q) (by rw [at3_eq (show q < L.length by omega)]; exact List.getElem_mem _))
    rw [this]
def nodeB (L : List (List (List St))) (k : Int) : Bool := decide (0 ≤ k ∧ k < (L.length : Int))
theorem node_no {L : List (List (List St))} {k : Int} (h : ¬ (0 ≤ k ∧ k < (L.length : Int))) : nodeB L k = false := decide_eq_false h
theorem node_yes {L : List (List (List St))} {k : Int} (h : 0 ≤ k) : nodeB L k = decide (k < (L.length : Int)) := by unfold nodeB; rw [decide_eq_decide]; omega
theorem right_split (L : List (List (List St))) (p : Po) : rightC L p = (squareB L && (nodeB L p.n && p.t.rightB)) := by
  rw [Bool.eq_iff_iff, rightC_iff]
  unfold squareB nodeB
  simp only [Bool.and_eq_true, decide_eq_true_iff, List.all_eq_true]
  constructor
  · rintro ⟨⟨_, h8⟩, h2, h3, h4⟩; exact ⟨⟨h8, h2⟩, h3, h4⟩
  · rintro ⟨⟨h8, h2⟩, h3, h4⟩; exact ⟨⟨by omega, h8⟩, h2, h3, h4⟩
end Go.Proofs.YtboinbmgndomhaaGreat
namespace Go.Proofs.YtboinbmgndomhaaGreat
open Go.RowKit
set_option maxRecDepth 100000
set_option linter.unusedSimpArgs false
set_option linter.unusedVariables false
def ixI (K : List Int) (x : Int) : Int :=
  match K.findIdx? (fun y => decide (x = y)) with
  | some i => (i : Int)
  | none => -1
theorem ix_hit {K : List Int} {x i : Int} (h0 : 0 ≤ i) (hi : i < (K.length : Int)) (hb : ∀ p, p < i.toNat → ¬ x = atI K p) (h : x = atI K i.toNat) : ixI K x = i := by
  unfold ixI
  have : K.findIdx? (fun y => decide (x = y)) = some i.toNat := by
    rw [List.findIdx?_eq_some_iff_getElem]
    refine ⟨by omega, by rw [← atI_eq (by omega)]; exact decide_eq_true h, fun j hj => ?_⟩
    have := hb j hj
    rw [atI_eq (by omega)] at this
    simpa using this
  rw [this]; simp only; omega
theorem ix_miss {K : List Int} {x i : Int} (hb : ∀ p, p < i.toNat → ¬ x = atI K p) (hi : ¬ i < (K.length : Int)) : ixI K x = -1 := by
  unfold ixI
  have : K.findIdx? (fun y => decide (x = y)) = none := by
    rw [List.findIdx?_eq_none_iff]
    intro y hy
    obtain ⟨j, hj, rfl⟩ := List.mem_iff_getElem.1 hy
    have := hb j (by omega)
    rw [atI_eq hj] at this
    simpa using this
  rw [this]
def memI (K : List Int) (x : Int) : Bool := decide (0 ≤ ixI K x)
theorem memI_iff {K : List Int} {x : Int} : memI K x = true ↔ x ∈ K := by
  unfold memI ixI
  rw [decide_eq_true_iff]
  cases h : K.findIdx? (fun y => decide (x = y)) with
  | none =>
    rw [List.findIdx?_eq_none_iff] at h
    constructor
    · intro h2; simp only at h2; omega
    · intro h2; have := h x h2; simp at this
  | some i =>
    rw [List.findIdx?_eq_some_iff_getElem] at h
    obtain ⟨h1, h2, _⟩ := h
    constructor
    · intro _; rw [of_decide_eq_true h2]; exact List.getElem_mem h1
    · intro _; simp only; omega
def waitE (K : List Int) (k : Int) (x : Ed) : Bool := decide (x.t = k) && decide (x.p = St.zero) && !memI K x.f
def waitsB (E : List Ed) (K : List Int) (k : Int) : Bool := E.any (waitE K k)
theorem waits_hit {E : List Ed} {K : List Int} {k i : Int} (h0 : 0 ≤ i) (hi : i < (E.length : Int)) (h : waitE K k (atG E i.toNat) = true) : waitsB E K k = true :=
  List.any_eq_true.2 ⟨_, atG_mem (by omega), h⟩
theorem waits_miss {E : List Ed} {K : List Int} {k i : Int} (hb : ∀ p, p < i.toNat → waitE K k (atG E p) = false) (hi : ¬ i < (E.length : Int)) : waitsB E K k = false := by
  rw [← Bool.not_eq_true]
  intro h
  obtain ⟨x, hx, h1⟩ := List.any_eq_true.1 h
  obtain ⟨q, hq, rfl⟩ := at_of_memG hx
  rw [hb q (by omega)] at h1; cases h1
theorem wait_t {K : List Int} {k : Int} {x : Ed} (h1 : x.t = k) (h2 : x.p = St.zero) (h3 : memI K x.f = false) : waitE K k x = true := by
  unfold waitE; rw [decide_eq_true h1, decide_eq_true h2, h3]; rfl
theorem wait_f {K : List Int} {k : Int} {x : Ed} (h : ¬ x.t = k ∨ ¬ x.p = St.zero ∨ memI K x.f = true) : waitE K k x = false := by
  unfold waitE
  rcases h with h | h | h <;> simp [h]
def inN (n i : Int) : Bool := decide (0 ≤ i ∧ i < n)
theorem in_no {n i : Int} (h : ¬ (0 ≤ i ∧ i < n)) : inN n i = false := decide_eq_false h
theorem in_yes {n i : Int} (h : 0 ≤ i) : inN n i = decide (i < n) := by unfold inN; rw [decide_eq_decide]; omega
theorem fits_in (n : Int) (x : Ed) : fitsB n x = (inN n x.f && inN n x.t && x.p.rightB) := by
  unfold fitsB inN
  rw [← Bool.decide_and]
  congr 1
  rw [decide_eq_decide]; omega
theorem rounds_mem {E : List Ed} {n : Nat} : ∀ (r : Nat) {q : Nat}, q < n → memI (roundsO E n r).2 (q : Int) = atB (roundsO E n r).1 q
  | 0, q, hq => by
    have : atB (List.replicate n false) q = false := by
      unfold atB atE; rw [List.getD_eq_getElem?_getD, List.getElem?_replicate, if_pos hq]; rfl
    show memI [] (q : Int) = atB (List.replicate n false) q
    rw [this]; rfl
  | r + 1, q, hq => by
    have ih := rounds_mem (E := E) (n := n) r hq
    have hl := rounds_len E n r
    simp only [roundsO, stepO]
    split
    · rename_i k hk
      have hkn := List.mem_range.1 (List.mem_of_find?_eq_some hk)
      rw [atB_set (by omega), Bool.eq_iff_iff, memI_iff, List.mem_append, List.mem_singleton, ← memI_iff, ih]
      by_cases e : k = q
      · subst e; simp
      · rw [if_neg e]
        constructor
        · rintro (h | h)
          · exact h
          · omega
        · exact .inl
    · exact ih
theorem free_of {E : List Ed} {n r k : Nat} (hF : ∀ x ∈ E, fitsB (n : Int) x = true) (hk : k < n) : freeB E (roundsO E n r).1 k = (!memI (roundsO E n r).2 (k : Int) && !waitsB E (roundsO E n r).2 (k : Int)) := by
  unfold freeB waitsB
  rw [rounds_mem r hk]
  congr 1
  rw [List.all_eq_not_any_not]
  congr 1
  rw [Bool.eq_iff_iff, List.any_eq_true, List.any_eq_true]
  have key : ∀ x ∈ E, (!okE (roundsO E n r).1 k x) = waitE (roundsO E n r).2 (k : Int) x := fun x hx => by
    have hf := (fits_iff.1 (hF x hx)).1
    have := rounds_mem (E := E) (n := n) r (q := x.f.toNat) (by omega)
    rw [show ((x.f.toNat : Nat) : Int) = x.f by omega] at this
    unfold okE waitE
    rw [Bool.not_not, this]
  exact ⟨fun ⟨x, hx, h⟩ => ⟨x, hx, by rw [← key x hx]; exact h⟩, fun ⟨x, hx, h⟩ => ⟨x, hx, by rw [key x hx]; exact h⟩⟩
theorem free_no {E : List Ed} {n : Nat} {r k : Int} (hF : ∀ x ∈ E, fitsB (n : Int) x = true) (h0 : 0 ≤ k) (hk : k < (n : Int)) (h : memI (roundsO E n r.toNat).2 k = true ∨ waitsB E (roundsO E n r.toNat).2 k = true) : freeB E (roundsO E n r.toNat).1 k.toNat = false := by
  rw [free_of hF (by omega), show ((k.toNat : Nat) : Int) = k by omega]
  rcases h with h | h <;> rw [h] <;> simp
theorem free_yes {E : List Ed} {n : Nat} {r k : Int} (hF : ∀ x ∈ E, fitsB (n : Int) x = true) (h0 : 0 ≤ k) (hk : k < (n : Int)) (h : memI (roundsO E n r.toNat).2 k = false) (h' : waitsB E (roundsO E n r.toNat).2 k = false) : freeB E (roundsO E n r.toNat).1 k.toNat = true := by
  rw [free_of hF (by omega), show ((k.toNat : Nat) : Int) = k by omega, h, h']; rfl
theorem rounds_stop {E : List Ed} {n r : Nat} (hb : ∀ q, q < n → freeB E (roundsO E n r).1 q = false) : ∀ d, roundsO E n (r + d) = roundsO E n r
  | 0 => rfl
  | d + 1 => by
    have ih := rounds_stop hb d
    show stepO E n (roundsO E n (r + d)) = _
    rw [ih]
    unfold stepO
    have : nextO E (roundsO E n r).1 n = none := List.find?_eq_none.2 fun q hq => by rw [hb q (List.mem_range.1 hq)]; simp
    rw [this]
theorem order_stop {E : List Ed} {n : Nat} {r k : Int} (hr : r ≤ (n : Int)) (hb : ∀ q, q < k.toNat → freeB E (roundsO E n r.toNat).1 q = false) (hk : ¬ k < (n : Int)) : (roundsO E n r.toNat).2 = orderL E n := by
  unfold orderL
  rw [show n = r.toNat + (n - r.toNat) by omega]
  have := rounds_stop (E := E) (n := r.toNat + (n - r.toNat)) (r := r.toNat) (fun q hq => by
    have := hb q (by omega)
    rwa [show r.toNat + (n - r.toNat) = n by omega]) (n - r.toNat)
  rw [this]
theorem order_full {E : List Ed} {n : Nat} {r : Int} (hr : r ≤ (n : Int)) (h : ¬ r < (n : Int)) : (roundsO E n r.toNat).2 = orderL E n := by
  rw [show r.toNat = n by omega]; rfl
theorem rounds_one {E : List Ed} {n : Nat} {r k : Int} (h0 : 0 ≤ r) (hk0 : 0 ≤ k) (hk : k.toNat < n) (h : freeB E (roundsO E n r.toNat).1 k.toNat = true) (hb : ∀ q, q < k.toNat → freeB E (roundsO E n r.toNat).1 q = false) :
    (roundsO E n r.toNat).2 ++ [k] = (roundsO E n (r + 1).toNat).2 := by rw [round_some h0 hk0 hk h hb]
theorem sums_yes {L : List St} {p : St} {i : Int} (h0 : 0 ≤ i) (hi : i < (L.length : Int)) (h : (atS L i.toNat).afterB p = true) : sumsP (L.take i.toNat) [p] ++ [(atS L i.toNat).after p] = sumsP (L.take (i + 1).toNat) [p] := by
  rw [sums_one h0 hi, if_pos h]
theorem sums_no {L : List St} {p : St} {i : Int} (h0 : 0 ≤ i) (hi : i < (L.length : Int)) (h : (atS L i.toNat).afterB p = false) : sumsP (L.take i.toNat) [p] = sumsP (L.take (i + 1).toNat) [p] := by
  rw [sums_one h0 hi, if_neg (by rw [h]; simp), List.append_nil]
theorem sums1_len (L : List St) (p : St) (i : Nat) : (sumsP (L.take i) [p]).length ≤ L.length := by
  have := sums_len (L.take i) [p]
  simp only [List.length_singleton, Nat.mul_one, List.length_take] at this
  omega
theorem sums1_all (L : List St) (p : St) : (sumsP L [p]).length ≤ L.length := by
  have := sums_len L [p]
  simpa using this
def edgeR (row : List (List St)) (x : Ed) : List (List St) := row.set x.t.toNat (minL (atR row x.t.toNat ++ sumsP (atR row x.f.toNat) [x.p]))
def rowE (E : List Ed) (row : List (List St)) (k : Nat) : List (List St) := (E.take k).foldl edgeR row
def rowP (E : List Ed) (n i : Nat) : Nat → List (List St)
  | 0 => (List.replicate n []).set i [St.zero]
  | r + 1 => rowE E (rowP E n i r) E.length
theorem edge_len (row : List (List St)) (x : Ed) : (edgeR row x).length = row.length := List.length_set
theorem rowE_len (E : List Ed) (row : List (List St)) (k : Nat) : (rowE E row k).length = row.length := by
  unfold rowE
  generalize E.take k = l
  induction l generalizing row with
  | nil => rfl
  | cons x r ih => rw [List.foldl_cons, ih, edge_len]
theorem rowP_len (E : List Ed) (n i : Nat) : ∀ r, (rowP E n i r).length = n
  | 0 => by simp [rowP]
  | r + 1 => by simp only [rowP]; rw [rowE_len, rowP_len E n i r]
theorem rowE_step {E : List Ed} {row : List (List St)} {k : Int} (h0 : 0 ≤ k) (hk : k < (E.length : Int)) : rowE E row (k + 1).toNat = edgeR (rowE E row k.toNat) (atG E k.toNat) := by
  unfold rowE
  rw [show (k + 1).toNat = k.toNat + 1 by omega, List.take_add_one, List.foldl_append]
  have e : E[k.toNat]? = some (atG E k.toNat) := by rw [List.getElem?_eq_getElem (by omega), show atG E k.toNat = E[k.toNat] from atE_eq (by omega)]
  rw [e]; rfl
theorem rowP_step {E : List Ed} {n i : Nat} {r k : Int} (h0 : 0 ≤ r) (hk : ¬ k < (E.length : Int)) : rowE E (rowP E n i r.toNat) k.toNat = rowP E n i (r + 1).toNat := by
  rw [show (r + 1).toNat = r.toNat + 1 by omega]
  show _ = rowE E (rowP E n i r.toNat) E.length
  unfold rowE
  rw [List.take_of_length_le (by omega), List.take_of_length_le (Nat.le_refl _)]
structure RowOK (E : List Ed) (n i : Nat) (row : List (List St)) : Prop where
  len : row.length = n
  way : ∀ j, j < n → ∀ t ∈ atR row j, WayS E (i : Int) (j : Int) t
  asc : ∀ j, Asc (atR row j)
  anti : ∀ j, ∀ s ∈ atR row j, ∀ t ∈ atR row j, s.leB t = true → s = t
theorem asc_one (t : St) : Asc [t] := fun i h => absurd h (by simp)
theorem row0_at {n i j : Nat} (hi : i < n) : atR ((List.replicate n ([] : List St)).set i [St.zero]) j = if i = j then [St.zero] else [] := by
  rw [atR_set (by simpa using hi)]
  split
  · rfl
  · unfold atR; rw [List.getD_eq_getElem?_getD, List.getElem?_replicate]; split <;> rfl
theorem row0_ok {E : List Ed} {n i : Nat} (hi : i < n) : RowOK E n i (rowP E n i 0) := by
  refine ⟨by simp [rowP], fun j hj t ht => ?_, fun j => ?_, fun j s hs t ht h => ?_⟩
  · rw [show rowP E n i 0 = (List.replicate n []).set i [St.zero] from rfl, row0_at hi] at ht
    split at ht
    · rename_i e; subst e; rw [List.mem_singleton.1 ht]; exact way_nil _ _
    · cases ht
  · rw [show rowP E n i 0 = (List.replicate n []).set i [St.zero] from rfl, row0_at hi]
    split
    · exact asc_one _
    · exact asc_nil
  · rw [show rowP E n i 0 = (List.replicate n []).set i [St.zero] from rfl, row0_at hi] at hs ht
    split at hs
    · rename_i e
      rw [if_pos e] at ht
      rw [List.mem_singleton.1 hs, List.mem_singleton.1 ht]
    · cases hs
theorem mem_sums2 {A : List St} {p t : St} : t ∈ sumsP A [p] ↔ ∃ s ∈ A, s.afterB p = true ∧ s.after p = t := by
  rw [mem_sums]
  exact ⟨fun ⟨s, hs, q, hq, h1, h2⟩ => ⟨s, hs, by rw [List.mem_singleton.1 hq] at h1 h2; exact ⟨h1, h2⟩⟩, fun ⟨s, hs, h1, h2⟩ => ⟨s, hs, p, List.mem_singleton.2 rfl, h1, h2⟩⟩
theorem edge_at {row : List (List St)} {x : Ed} {j : Nat} (h : x.t.toNat < row.length) : atR (edgeR row x) j = if x.t.toNat = j then minL (atR row x.t.toNat ++ sumsP (atR row x.f.toNat) [x.p]) else atR row j := atR_set h
theorem edge_ok {E : List Ed} {n i : Nat} {row : List (List St)} {x : Ed} (hF : Fits (n : Int) E) (hx : x ∈ E) (h : RowOK E n i row) : RowOK E n i (edgeR row x) := by
  have hf := fit_t hF hx
  have ht : x.t.toNat < row.length := by rw [h.len]; omega
  refine ⟨by rw [edge_len, h.len], fun j hj t hm => ?_, fun j => ?_, fun j => ?_⟩
  · rw [edge_at ht] at hm
    split at hm
    · rename_i e; subst e
      rcases List.mem_append.1 (mem_minL.1 hm).1 with h1 | h1
      · exact h.way _ hj t h1
      · obtain ⟨s, hs, h2, rfl⟩ := mem_sums2.1 h1
        have h3 := h.way x.f.toNat (by omega) s hs
        rw [show ((x.f.toNat : Nat) : Int) = x.f by omega] at h3
        rw [show ((x.t.toNat : Nat) : Int) = x.t by omega]
        exact way_snoc h3 hx h2
    · exact h.way j hj t hm
  · rw [edge_at ht]
    split
    · exact minL_asc _
    · exact h.asc j
  · rw [edge_at ht]
    split
    · exact fun s h1 t h2 h3 => (mem_minL.1 h2).2 s (mem_minL.1 h1).1 h3
    · exact h.anti j
theorem edge_grow {row : List (List St)} {x : Ed} {j : Nat} {t : St} (ht : x.t.toNat < row.length) (h : covB (atR row j) t = true) : covB (atR (edgeR row x) j) t = true := by
  rw [edge_at ht]
  split
  · rename_i e; subst e
    obtain ⟨m, hm, h1⟩ := cov_iff.1 h
    obtain ⟨k, hk, h2⟩ := least_of (List.mem_append.2 (.inl hm) : m ∈ atR row x.t.toNat ++ sumsP (atR row x.f.toNat) [x.p])
    exact cov_iff.2 ⟨k, hk, St.le_trans h2 h1⟩
  · exact h
theorem edge_new {row : List (List St)} {x : Ed} {s : St} (ht : x.t.toNat < row.length) (hs : s ∈ atR row x.f.toNat) (ha : s.afterB x.p = true) : covB (atR (edgeR row x) x.t.toNat) (s.after x.p) = true := by
  rw [edge_at ht, if_pos rfl]
  obtain ⟨k, hk, h2⟩ := least_of (List.mem_append.2 (.inr (mem_sums2.2 ⟨s, hs, ha, rfl⟩)) : s.after x.p ∈ atR row x.t.toNat ++ sumsP (atR row x.f.toNat) [x.p])
  exact cov_iff.2 ⟨k, hk, h2⟩
theorem rowE_succ {E : List Ed} {row : List (List St)} {k : Nat} (hk : k < E.length) : rowE E row (k + 1) = edgeR (rowE E row k) E[k] := by
  unfold rowE
  rw [List.take_add_one, List.foldl_append, List.getElem?_eq_getElem hk]; rfl
theorem rowE_ok {E : List Ed} {n i : Nat} {row : List (List St)} (hF : Fits (n : Int) E) (h : RowOK E n i row) : ∀ k, k ≤ E.length → RowOK E n i (rowE E row k)
  | 0, _ => h
  | k + 1, hk => by rw [rowE_succ (by omega)]; exact edge_ok hF (List.getElem_mem _) (rowE_ok hF h k (by omega))
theorem rowP_ok {E : List Ed} {n i : Nat} (hF : Fits (n : Int) E) (hi : i < n) : ∀ r, RowOK E n i (rowP E n i r)
  | 0 => row0_ok hi
  | r + 1 => rowE_ok hF (rowP_ok hF hi r) _ (Nat.le_refl _)
theorem rowE_grow {E : List Ed} {n i : Nat} {row : List (List St)} (hF : Fits (n : Int) E) (h : RowOK E n i row) {j : Nat} {t : St} {k : Nat} (hc : covB (atR (rowE E row k) j) t = true) : ∀ d, k + d ≤ E.length → covB (atR (rowE E row (k + d)) j) t = true
  | 0, _ => hc
  | d + 1, hd => by
    rw [← Nat.add_assoc, rowE_succ (by omega)]
    have hf := fit_t hF (List.getElem_mem (show k + d < E.length by omega))
    exact edge_grow (by rw [rowE_len, h.len]; omega) (rowE_grow hF h hc d (by omega))
theorem rowP_grow {E : List Ed} {n i : Nat} (hF : Fits (n : Int) E) (hi : i < n) {r j : Nat} {t : St} (h : covB (atR (rowP E n i r) j) t = true) : ∀ d, covB (atR (rowP E n i (r + d)) j) t = true
  | 0 => h
  | d + 1 => by
    have := rowE_grow hF (rowP_ok hF hi (r + d)) (k := 0) (rowP_grow hF hi h d) E.length (by omega)
    rwa [Nat.zero_add] at this
theorem rowP_covers {n : Nat} {E : List Ed} (hf : Fits (n : Int) E) {i : Nat} (hi : i < n) : ∀ (m : Nat) (es : List Ed), es.length = m → (∀ x ∈ es, x ∈ E) → ∀ j : Int, Run (i : Int) es j → (sumW es).rightB = true → covB (atR (rowP E n i m) j.toNat) (sumW es) = true
  | 0, es, hl, he, j, hr, hs => by
    have h0 : es = [] := List.length_eq_zero_iff.1 hl
    subst h0
    have hj : (i : Int) = j := hr
    rw [← hj]
    refine cov_iff.2 ⟨St.zero, ?_, St.le_refl _⟩
    show St.zero ∈ atR ((List.replicate n []).set i [St.zero]) ((i : Int)).toNat
    rw [row0_at hi, if_pos (by omega)]
    exact List.mem_singleton.2 rfl
  | m + 1, es, hl, he, j, hr, hs => by
    rcases List.eq_nil_or_concat es with h0 | ⟨fs, x, h0⟩
    · subst h0; simp at hl
    · rw [List.concat_eq_append] at h0
      subst h0
      obtain ⟨k, h1, h2⟩ := run_app.1 hr
      have h3 : x.f = k := h2.1
      have h4 : x.t = j := h2.2
      have hxE : x ∈ E := he x (by simp)
      have hx := fit_t hf hxE
      have hfs : ∀ y ∈ fs, y ∈ E := fun y hy => he y (by simp [hy])
      have hp := sum_pos hf hfs
      have hs' := right_t hs
      have ha : sumW (fs ++ [x]) = (sumW fs).add x.p := by
        rw [sum_app, St.eq_iff]; simp only [sumW, St.add, St.zero]; omega
      have hs1 := St.right_iff.1 hs
      rw [ha] at hs1
      simp only [St.add] at hs1
      have hr1 : (sumW fs).rightB = true := St.right_iff.2 (by omega)
      have ih := rowP_covers hf hi m fs (by simpa using hl) hfs k h1 hr1
      have hok := rowP_ok hf hi m
      obtain ⟨e, hel, hex⟩ := List.mem_iff_getElem.1 hxE
      have hg := rowE_grow hf hok (k := 0) ih e (by omega)
      rw [Nat.zero_add] at hg
      have hoke := rowE_ok hf hok e (by omega)
      obtain ⟨q, hq, hle⟩ := cov_iff.1 hg
      have haft : (sumW fs).afterB x.p = true := after_iff.2 (by have := right_t hr1; omega)
      have hqr : q.rightB = true := way_right (hoke.way k.toNat (by omega) q hq)
      have hm := after_mono hle (St.le_refl x.p) hqr hx.2.2.2.2.2 haft
      have hnew := edge_new (row := rowE E (rowP E n i m) e) (x := x) (s := q) (by rw [rowE_len, rowP_len]; omega) (by rw [h3]; exact hq) hm.1
      rw [← hex, ← rowE_succ hel] at hnew
      have hfin := rowE_grow hf hok hnew (E.length - (e + 1)) (by omega)
      rw [show e + 1 + (E.length - (e + 1)) = E.length by omega, hex] at hfin
      obtain ⟨z, hz, hzl⟩ := cov_iff.1 hfin
      rw [← h4]
      refine cov_iff.2 ⟨z, hz, St.le_trans hzl (St.le_trans hm.2 ?_)⟩
      have := after_t haft
      rw [ha, St.le_iff]; simp only [St.add]; omega
theorem rowP_clo {n : Nat} {E : List Ed} (hF : Fits (n : Int) E) {i : Nat} (hi : i < n) : rowP E n i (n - 1) = rowM E n i n := by
  have hok := rowP_ok hF hi (n - 1)
  refine atR_ext (by rw [rowP_len, row_len]) fun j hj => ?_
  rw [rowP_len] at hj
  refine clo_uniq hF hi hj (hok.asc j) (hok.way j hj) (fun t ht => ?_) (hok.anti j)
  obtain ⟨es, h1, h2, rfl, h4⟩ := ht
  obtain ⟨fs, f1, f2, f3, f4⟩ := run_short hF (by omega) es.length es (Nat.le_refl _) h1 h2
  have hp := sum_pos hF f2
  have hl := le_t f4
  have hr := right_t h4
  have hfr : (sumW fs).rightB = true := St.right_iff.2 (by omega)
  have h5 := rowP_covers hF hi fs.length fs rfl f2 _ f3 hfr
  rw [show ((j : Int)).toNat = j by omega] at h5
  have h6 := rowP_grow hF hi h5 (n - 1 - fs.length)
  rw [show fs.length + (n - 1 - fs.length) = n - 1 by omega] at h6
  obtain ⟨q, hq, hle⟩ := cov_iff.1 h6
  exact cov_iff.2 ⟨q, hq, St.le_trans hle f4⟩
theorem ok_small {E : List Ed} {n i : Nat} {row : List (List St)} (h : RowOK E n i row) (j : Nat) : (atR row j).length ≤ 1000001 := by
  rcases Nat.lt_or_ge j n with hj | hj
  · have hr : ∀ t ∈ atR row j, t.rightB = true := fun t ht => way_right (h.way j hj t ht)
    exact asc_small 1000001 _ (h.asc j) (h.anti j) hr (fun t ht => by have := right_t (hr t ht); omega)
  · rw [atR_out (by rw [h.len]; exact hj)]; simp
def overB (L : List (List St)) : Bool := L.any fun l => decide (64 < l.length)
def ixO (L : List (List St)) : Int :=
  match L.findIdx? (fun l => decide (64 < l.length)) with
  | some i => (i : Int)
  | none => -1
theorem atR_eq {L : List (List St)} {i : Nat} (h : i < L.length) : atR L i = L[i] := by unfold atR; rw [List.getD_eq_getElem?_getD, List.getElem?_eq_getElem h]; rfl
theorem ixO_hit {L : List (List St)} {i : Int} (h0 : 0 ≤ i) (hi : i < (L.length : Int)) (hb : ∀ p, p < i.toNat → ¬ 64 < (atR L p).length) (h : 64 < (atR L i.toNat).length) : ixO L = i := by
  unfold ixO
  have : L.findIdx? (fun l => decide (64 < l.length)) = some i.toNat := by
    rw [List.findIdx?_eq_some_iff_getElem]
    refine ⟨by omega, by rw [← atR_eq (by omega)]; exact decide_eq_true h, fun j hj => ?_⟩
    have := hb j hj
    rw [atR_eq (by omega)] at this
    simpa using this
  rw [this]; simp only; omega
theorem ixO_miss {L : List (List St)} {i : Int} (hb : ∀ p, p < i.toNat → ¬ 64 < (atR L p).length) (hi : ¬ i < (L.length : Int)) : ixO L = -1 := by
  unfold ixO
  have : L.findIdx? (fun l => decide (64 < l.length)) = none := by
    rw [List.findIdx?_eq_none_iff]
    intro l hl
    obtain ⟨j, hj, rfl⟩ := List.mem_iff_getElem.1 hl
    have := hb j (by omega)
    rw [atR_eq hj] at this
    simpa using this
  rw [this]
theorem over_ix (L : List (List St)) : decide (0 ≤ ixO L) = overB L := by
  unfold ixO overB
  cases h : L.findIdx? (fun l => decide (64 < l.length)) with
  | none =>
    rw [List.findIdx?_eq_none_iff] at h
    have : L.any (fun l => decide (64 < l.length)) = false := by rw [List.any_eq_false]; intro l hl; rw [h l hl]; simp
    rw [this]; rfl
  | some i =>
    rw [List.findIdx?_eq_some_iff_getElem] at h
    obtain ⟨h1, h2, _⟩ := h
    have : L.any (fun l => decide (64 < l.length)) = true := List.any_eq_true.2 ⟨_, List.getElem_mem h1, h2⟩
    rw [this]; simp only; rw [decide_eq_true (by omega)]
theorem over_no {L : List (List St)} (h : overB L = false) (j : Nat) : (atR L j).length ≤ 64 := by
  rcases Nat.lt_or_ge j L.length with hj | hj
  · rw [atR_eq hj]
    have := List.any_eq_false.1 h _ (List.getElem_mem hj)
    simp only [decide_eq_true_eq] at this
    omega
  · rw [atR_out hj]; simp
theorem over_yes {L : List (List St)} (h : overB L = true) : ∃ j, j < L.length ∧ 64 < (atR L j).length := by
  obtain ⟨l, hl, h1⟩ := List.any_eq_true.1 h
  obtain ⟨j, hj, rfl⟩ := List.mem_iff_getElem.1 hl
  exact ⟨j, hj, by rw [atR_eq hj]; exact of_decide_eq_true h1⟩
end Go.Proofs.YtboinbmgndomhaaGreat
namespace Go.Proofs.YtboinbmgndomhaaGreat
open Go.RowKit
set_option maxRecDepth 100000
set_option linter.unusedSimpArgs false
set_option linter.unusedVariables false
theorem evfn {a : Act} {f : FuncId} : a.eval (.func f) = .func (.func f) #[] #[] := rfl
abbrev winV (g o n : Nat) : Value := .slice (some ⟨g, o, none⟩) n n
section
variable {P : Program} {ops rest : List Oper} {o : Oper} {a : Act} {n d : Nat} {L : List (Nat × Value)} {Q : Exit → Act → World → Prop} {R : List Nat} {w w0 : World} {B : List Ent} {v : Value} {x y lo hi mx : Operand} {t e ty : TypeId} {i g k s N c m : Nat} {k1 k2 k3 : IntKind} {i1 i2 i3 : Int} {A V C X : List Value}
theorem pu_slice3 (ho : o.op = .slice t x (some lo) (some hi) (some mx)) (hx : a.eval x = .slice (some ⟨g, 0, none⟩) N c) (hlo : a.eval lo = .int k1 i1) (hhi : a.eval hi = .int k2 i2) (hmx : a.eval mx = .int k3 i3) (hT : SlTy P t e 1)
    (h0 : 0 ≤ i1) (e1 : i1.toNat = s) (e2 : i2.toNat = s + m) (e3 : i3 = i2) (hm : 0 < m) (hc : s + m ≤ c) : Pure P o a (winV g s m) := fun w' => by
  obtain ⟨hu, hi'⟩ := hT
  subst e3
  cases hq : P.info? e with
  | none => simp [hq] at hi'
  | some inf =>
    have hs : inf.size = 1 := by simpa [hq] using hi'
    simp only [execOp, ho, hx, Option.map_some, hlo, hhi, hmx]
    have e9 : (Instr.sliceBounds true N c (some (.int k1 i1)) (some (.int k2 i3)) (some (.int k3 i3))).run P w' = .ok (i1.toNat, i3.toNat, i3.toNat) w' := by
      simp only [Instr.sliceBounds, Sem.run_bind, Sem.run_pure, Result.andThen_ok, run_sliceBound _ _ _ _ _ (show 0 ≤ i3 by omega) (show i3 ≤ (c : Int) by omega)]
      rw [run_sliceBound _ _ _ _ _ (show 0 ≤ i3 by omega) (show i3 ≤ ((i3.toNat : Nat) : Int) by omega)]
      simp only [Result.andThen_ok]
      rw [run_sliceBound _ _ _ _ _ h0 (show i1 ≤ ((i3.toNat : Nat) : Int) by omega)]
      rfl
    simp [Instr.sliceAt, Instr.slice, run_underlying hu, e9, sizeOf, typeInfo, hq, hs, addr_add]
    exact ⟨by rw [if_neg (by omega), e1], by omega⟩
theorem win_rdv (h : Blk w g t (List.toArray (cV X))) (hX : (X.drop s).take n = V) (hV : V.length = n) (hn : n ≤ 1000000000) : RdV w 1 (winV g s n) n (cV V) :=
  ⟨by show V.length = n * 1; omega, _, _, rfl, Nat.le_refl _, by unfold maxLen; omega, fun _ => ⟨g, s, rfl, h.lt, fun j u hj => by
    rw [h.cell, List.getElem?_toArray]
    have hj' : V[j]? = some u := hj
    rw [← hX, List.getElem?_take, List.getElem?_drop] at hj'
    split at hj'
    · exact hj'
    · cases hj'⟩⟩
theorem mid_win (hA : A.length = s) (hV : V.length = n) : ((A ++ V ++ C).drop s).take n = V := by
  rw [List.append_assoc, ← hA, List.drop_left, ← hV, List.take_left]
theorem mid_set {j : Nat} (hA : A.length = s) (hj : j < V.length) : (A ++ V ++ C).set (s + j) v = A ++ V.set j v ++ C := by
  rw [List.append_assoc, List.set_append_right _ _ (by omega), show s + j - A.length = j by omega, List.set_append_left _ _ (by omega), List.append_assoc]
theorem sq_stW {j : Nat} (F : Fr a n L) (M : Mm R w0 w B) (hw : Region.wanted o (yielded ops.toArray a.tmps) = true) (ho : o.op = .store ty x y) (hx : a.eval x = .pointer (some ⟨g, s + j * 1, none⟩)) (hy : a.eval y = v)
    (hi : B[i]? = some (.blk g t (List.toArray (cV (A ++ V ++ C))))) (hA : A.length = s) (hj : j < V.length) (hT : (P.info? ty).map (·.size) = some 1) (h1 : v.oneCell' = true) (hv : v.cells = #[v]) (hd : o.dst = none)
    (h : ∀ w', Mm R w0 w' (B.set i (.blk g t (List.toArray (cV (A ++ V.set j v ++ C))))) → wpList P ops.toArray Q rest a w') : wpList P ops.toArray Q (o :: rest) a w :=
  sq_st1 (j := s + j) F M hw ho (by rw [hx]; simp) hy hi (by simp only [cV, List.length_append]; omega) hT h1 hv hd (fun w' M' => h w' (by
    have e1 : (cV (A ++ V ++ C)).set (s + j) v = cV (A ++ V.set j v ++ C) := mid_set hA hj
    rwa [e1] at M'))
end
theorem fpR_rep (n : Nat) : fpR (List.replicate n nilV) = [] := by
  unfold fpR
  rw [List.flatMap_eq_nil_iff]
  intro v hv
  rw [(List.mem_replicate.1 hv).2]; rfl
structure TabV (t ty : TypeId) (g : Nat) (A V C : List Value) (L : List (List St)) (w : World) : Prop where
  blk : Blk w g t (List.toArray (cV (A ++ V ++ C)))
  rows : RowsV ty V L w
  ne : ¬ g ∈ fpR V
theorem TabV.loc (t ty : TypeId) (g : Nat) (A V C : List Value) (L : List (List St)) : Loc (g :: fpR V) (TabV t ty g A V C L) := fun w w' hk h => by
  have h2 := RowsV.loc ty V L w w' (fun q hq => hk q (List.mem_cons_of_mem _ hq)) h.rows
  refine ⟨⟨(hk g (List.mem_cons_self ..)).trans h.blk, h2.1, h.ne⟩, fun q hq => ?_⟩
  rcases List.mem_cons.1 hq with rfl | hq
  · exact h.blk.lt
  · exact h2.2 q hq
theorem TabV.loc0 (t ty : TypeId) (g n : Nat) (A C : List Value) (L : List (List St)) : Loc [g] (TabV t ty g A (List.replicate n nilV) C L) := by
  have := TabV.loc t ty g A (List.replicate n nilV) C L
  rwa [fpR_rep] at this
section
variable {R : List Nat} {w0 w : World} {B : List Ent} {t ty t2 : TypeId} {g g2 n m s i k : Nat} {A V C X : List Value} {K : List (List St)} {vss : List (List Value)} {L : List (List (List St))}
theorem TabV.rd (h : TabV t ty g A V C K w) (hA : A.length = s) (hV : V.length = n) (hn : n ≤ 1000000000) : RdV w 1 (winV g s n) n (cV V) := win_rdv h.blk (mid_win hA hV) hV hn
theorem Mm.tabIn (M : Mm R w0 w B) (h : B[k]? = some (.blk g t (List.toArray (cV X)))) (ty : TypeId) (hX : X = A ++ List.replicate n nilV ++ C) : Mm R w0 w (B.set k (.own [g] (TabV t ty g A (List.replicate n nilV) C (List.replicate n [])))) := by
  subst hX
  exact M.swap h (x' := .own [g] (TabV t ty g A (List.replicate n nilV) C (List.replicate n []))) (Out.refl _ _) ⟨⟨M.at h, rows_rep ty n w, by rw [fpR_rep]; simp⟩, TabV.loc0 _ _ _ _ _ _ _⟩ (fun q hq => .inl (by simpa [Ent.fp] using hq)) (fun q hq => by cases hq)
theorem tab_post {Φ : World → Prop} (M : Mm [g] w0 w B) (hb : B[k]? = some (.blk g t (List.toArray (cV (A ++ V ++ C))))) (hr : B[i]? = some (.own (fpR V) (RowsV ty V K))) (hne : k ≠ i) (hV : V.length = n) :
    TurnsE w0 (.own [g] Φ) (fun u x' => u = .tuple #[] ∧ ∃ V', V'.length = n ∧ x' = .own (g :: fpR V') (TabV t ty g A V' C K)) (.returned (.tuple #[])) w := by
  refine ⟨_, .own (g :: fpR V) (TabV t ty g A V C K), rfl, M.out, ⟨⟨M.at hb, M.pv hr, fun hg => M.apart hb hr hne g (by simp [Ent.fp]) hg⟩, TabV.loc _ _ _ _ _ _ _⟩, fun q hq => ?_, rfl, rfl, V, hV, rfl⟩
  rcases List.mem_cons.1 hq with rfl | hq
  · exact .inl (by simp [Ent.fp])
  · rcases M.own _ (List.mem_of_getElem? hr) q hq with h | h
    · exact .inr h
    · exact .inl h
structure DoneV (vss : List (List Value)) (L : List (List (List St))) (w : World) : Prop where
  len : vss.length = L.length
  lv : ∀ i, i < L.length → (atW vss i).length = (at3 L i).length
  one : ∀ i j, i < L.length → j < (at3 L i).length → RdS w (atV (atW vss i) j) (atR (at3 L i) j)
def fpD (vss : List (List Value)) (L : List (List (List St))) : List Nat :=
  (List.range L.length).flatMap fun i => (List.range (at3 L i).length).flatMap fun j => fpN (atV (atW vss i) j) (atR (at3 L i) j).length
theorem mem_fpD {q : Nat} : q ∈ fpD vss L ↔ ∃ i, i < L.length ∧ ∃ j, j < (at3 L i).length ∧ q ∈ fpN (atV (atW vss i) j) (atR (at3 L i) j).length := by
  unfold fpD
  simp only [List.mem_flatMap, List.mem_range]
theorem DoneV.loc (vss : List (List Value)) (L : List (List (List St))) : Loc (fpD vss L) (DoneV vss L) := fun w w' hk h => by
  refine ⟨⟨h.len, h.lv, fun i j hi hj => ?_⟩, fun q hq => ?_⟩
  · exact (RdV.keep (h.one i j hi hj) fun q hq => hk q (mem_fpD.2 ⟨i, hi, j, hj, hq⟩)).1
  · obtain ⟨i, hi, j, hj, h1⟩ := mem_fpD.1 hq
    exact (RdV.keep (w' := w) (h.one i j hi hj) fun _ _ => rfl).2 q h1
theorem done_push (h : DoneV vss L w) (hl : V.length = K.length) (ho : ∀ j, j < K.length → RdS w (atV V j) (atR K j)) : DoneV (vss ++ [V]) (L ++ [K]) w := by
  have hs := h.len
  refine ⟨by simp [hs], fun i hi => ?_, fun i j hi hj => ?_⟩
  · simp only [List.length_append, List.length_singleton] at hi
    rcases Nat.lt_or_ge i L.length with h1 | h1
    · rw [atW_app (by omega), at3_app h1]; exact h.lv i h1
    · rw [atW_last (by omega), at3_last (by omega)]; exact hl
  · simp only [List.length_append, List.length_singleton] at hi
    rcases Nat.lt_or_ge i L.length with h1 | h1
    · rw [at3_app h1] at hj ⊢
      rw [atW_app (by omega)]; exact h.one i j h1 hj
    · rw [at3_last (by omega)] at hj ⊢
      rw [atW_last (by omega)]; exact ho j hj
theorem fpD_push (hs : vss.length = L.length) {q : Nat} (hq : q ∈ fpD (vss ++ [V]) (L ++ [K])) : q ∈ fpD vss L ∨ ∃ j, j < K.length ∧ q ∈ fpN (atV V j) (atR K j).length := by
  obtain ⟨i, hi, j, hj, h⟩ := mem_fpD.1 hq
  simp only [List.length_append, List.length_singleton] at hi
  rcases Nat.lt_or_ge i L.length with h1 | h1
  · rw [at3_app h1] at hj h
    rw [atW_app (by omega)] at h
    exact .inl (mem_fpD.2 ⟨i, h1, j, hj, h⟩)
  · rw [at3_last (by omega)] at hj h
    rw [atW_last (by omega)] at h
    exact .inr ⟨j, hj, h⟩
theorem Mm.tabOut (M : Mm R w0 w (.own (g :: fpR V) (TabV t ty g A V C K) :: .own (fpD vss L) (DoneV vss L) :: B)) :
    Mm R w0 w (.blk g t (List.toArray (cV (A ++ V ++ C))) :: .own (fpD (vss ++ [V]) (L ++ [K])) (DoneV (vss ++ [V]) (L ++ [K])) :: B) := by
  have h1 : TabV t ty g A V C K w := M.pv (i := 0) rfl
  have h2 : DoneV vss L w := M.pv (i := 1) rfl
  have hl := h1.rows.len
  have hp : DoneV (vss ++ [V]) (L ++ [K]) w := done_push h2 hl (fun j hj => h1.rows.rd (by omega))
  have hfp : ∀ q ∈ fpD (vss ++ [V]) (L ++ [K]), q ∈ fpD vss L ∨ q ∈ fpR V := fun q hq => by
    rcases fpD_push h2.len hq with h | ⟨j, hj, h⟩
    · exact .inl h
    · exact .inr (mem_fpR.2 ⟨j, by omega, own_fpN (h1.rows.row j (by omega)) h⟩)
  have hnd := List.pairwise_cons.1 M.nd
  refine M.recast (X := [.own (g :: fpR V) (TabV t ty g A V C K), .own (fpD vss L) (DoneV vss L)]) (Y := [.blk g t (List.toArray (cV (A ++ V ++ C))), .own (fpD (vss ++ [V]) (L ++ [K])) (DoneV (vss ++ [V]) (L ++ [K]))]) (fun y hy => ?_) (fun y hy q hq => ?_) ?_ (fun y hy q hq => ?_)
  · rcases List.mem_cons.1 hy with rfl | hy
    · exact h1.blk
    · rw [List.mem_singleton.1 hy]; exact ⟨hp, DoneV.loc _ _⟩
  · rcases List.mem_cons.1 hy with rfl | hy
    · exact ⟨_, List.mem_cons_self .., by simp only [Ent.fp, List.mem_singleton] at hq; simp [Ent.fp, hq]⟩
    · rw [List.mem_singleton.1 hy] at hq
      rcases hfp q hq with h | h
      · exact ⟨.own (fpD vss L) (DoneV vss L), by simp, h⟩
      · exact ⟨.own (g :: fpR V) (TabV t ty g A V C K), by simp, by simp [Ent.fp, h]⟩
  · refine List.pairwise_cons.2 ⟨fun y hy q hq hq2 => ?_, List.pairwise_singleton _ _⟩
    rw [List.mem_singleton.1 hy] at hq2
    simp only [Ent.fp, List.mem_singleton] at hq
    subst hq
    rcases hfp q hq2 with h | h
    · exact hnd.1 (.own (fpD vss L) (DoneV vss L)) (by simp) q (by simp [Ent.fp]) h
    · exact h1.ne h
  · rcases List.mem_cons.1 hy with rfl | hy
    · cases hq
    · rw [List.mem_singleton.1 hy] at hq; cases hq
theorem done_nil (w : World) : DoneV [] [] w := ⟨rfl, fun i h => absurd h (Nat.not_lt_zero i), fun i _ h => absurd h (Nat.not_lt_zero i)⟩
theorem Mm.done0 {x y z : Ent} (M : Mm R w0 w (x :: y :: z :: B)) : Mm R w0 w (z :: .own (fpD [] []) (DoneV [] []) :: x :: B) := by
  have M1 := M.sub (B' := x :: z :: B) (.cons_cons _ (.cons _ (List.Sublist.refl _)))
  have M2 := M1.addOwn (Below.refl _ _) (done_nil w) (DoneV.loc _ _) (fun q hq => by cases hq)
  exact M2.perm ((List.Perm.cons _ (List.Perm.swap _ _ _)).trans (List.Perm.swap _ _ _))
def rsF (g n k : Nat) : List Value := (List.range n).map fun q => if q < k then winV g (q * n) n else nilV
theorem rsF_len (g n k : Nat) : (rsF g n k).length = n := by simp [rsF]
theorem rsF_at {q : Nat} (hk : q < k) (hn : q < n) : atV (rsF g n k) q = winV g (q * n) n := by
  rw [atV_eq (by rw [rsF_len]; exact hn)]; simp [rsF, hk]
theorem rsF_zero (g n : Nat) : List.replicate n nilV = rsF g n (0 : Int).toNat := by
  apply List.ext_getElem
  · simp [rsF_len]
  · intro j h1 h2; simp [rsF]
theorem rsF_set {i : Int} (h0 : 0 ≤ i) (hi : i.toNat < n) : (rsF g n i.toNat).set i.toNat (winV g (i.toNat * n) n) = rsF g n (i + 1).toNat := by
  apply List.ext_getElem
  · simp [rsF_len]
  · intro j h1 h2
    rw [List.getElem_set]
    split
    · rename_i e; subst e; simp only [rsF, List.getElem_map, List.getElem_range]; rw [if_pos (by omega)]
    · simp only [rsF, List.getElem_map, List.getElem_range]
      by_cases e : j < i.toNat
      · rw [if_pos e, if_pos (by omega)]
      · rw [if_neg e, if_neg (by omega)]
theorem flat_len : ∀ {vss : List (List Value)}, (∀ u ∈ vss, u.length = n) → vss.flatten.length = vss.length * n
  | [], _ => by simp
  | u :: r, h => by
    rw [List.flatten_cons, List.length_append, flat_len (fun x hx => h x (by simp [hx])), h u (by simp), List.length_cons, Nat.succ_mul]; omega
theorem flat_at : ∀ {vss : List (List Value)} {i : Nat}, (∀ u ∈ vss, u.length = n) → i < vss.length → (vss.flatten.drop (i * n)).take n = atW vss i
  | u :: r, 0, h, _ => by
    rw [List.flatten_cons, Nat.zero_mul, List.drop_zero, ← h u (by simp), List.take_left]; rfl
  | u :: r, i + 1, h, hi => by
    have e : u.length = n := h u (by simp)
    rw [List.flatten_cons, show (i + 1) * n = u.length + i * n by rw [Nat.succ_mul]; omega, List.drop_append, List.drop_of_length_le (by omega), List.nil_append, show u.length + i * n - u.length = i * n by omega]
    exact flat_at (fun x hx => h x (by simp [hx])) (by simpa using hi)
theorem rep_split {i : Nat} (hi : i < n) : List.replicate ((n - i) * n) nilV = List.replicate n nilV ++ List.replicate ((n - (i + 1)) * n) nilV := by
  rw [List.replicate_append_replicate, show n - i = (n - (i + 1)) + 1 by omega, Nat.succ_mul, Nat.add_comm]
theorem rep_splitI {i : Int} (h0 : 0 ≤ i) (hi : i.toNat < n) : List.replicate ((n - i.toNat) * n) nilV = List.replicate n nilV ++ List.replicate ((n - (i + 1).toNat) * n) nilV := by
  rw [show (i + 1).toNat = i.toNat + 1 by omega]; exact rep_split hi
theorem flat_push (vss : List (List Value)) (V C : List Value) : vss.flatten ++ V ++ C = (vss ++ [V]).flatten ++ C := by simp
theorem all_push (h : ∀ u ∈ vss, u.length = n) (hV : V.length = n) : ∀ u ∈ vss ++ [V], u.length = n := fun u hu => by
  rcases List.mem_append.1 hu with h1 | h1
  · exact h u h1
  · rw [List.mem_singleton.1 h1]; exact hV
theorem arg_apart {v : Value} {xs fp : List _} {Φ : World → Prop} (M : Mm [] w0 w B) (hi : B[i]? = some (.arg m v n xs)) (hk : B[k]? = some (.own fp Φ)) (hg : g ∈ fp) (hn : 0 < n) : ¬ gof v ∈ [g] := fun h => by
  have h1 := M.far _ (List.mem_of_getElem? hi) (gof v) (by rw [show (Ent.arg m v n xs).base = [gof v] from if_neg (by omega)]; simp)
  rcases M.own _ (List.mem_of_getElem? hk) g hg with h2 | h2
  · rw [List.mem_singleton.1 h] at h1; omega
  · cases h2
theorem mul_toNat {a b : Int} (ha : 0 ≤ a) (hb : 0 ≤ b) : (a * b).toNat = a.toNat * b.toNat := by
  obtain ⟨x, rfl⟩ := Int.eq_ofNat_of_zero_le ha
  obtain ⟨y, rfl⟩ := Int.eq_ofNat_of_zero_le hb
  rw [← Int.natCast_mul, Int.toNat_natCast, Int.toNat_natCast, Int.toNat_natCast]
theorem mul_small {a b : Int} (ha : 0 ≤ a) (ha8 : a ≤ 8) (hb : 0 ≤ b) (hb8 : b ≤ 8) : 0 ≤ a * b ∧ a * b ≤ 64 := by
  refine ⟨Int.mul_nonneg ha hb, ?_⟩
  have := Int.mul_le_mul ha8 hb8 hb (by omega : (0 : Int) ≤ 8)
  omega
theorem rd3_tab (M : Mm R w0 w (.blk g t (List.toArray (cV (vss.flatten ++ C))) :: .own (fpD vss L) (DoneV vss L) :: .blk g2 t2 (List.toArray (cV (rsF g n n))) :: B)) (hu : ∀ u ∈ vss, u.length = n) (hL : L.length = n) (hn : n ≤ 1000) :
    Rd3 (.slice (some ⟨g2, 0, none⟩) n n) (rsF g n n) vss L w ∧ ∀ q ∈ fp3 (.slice (some ⟨g2, 0, none⟩) n n) (rsF g n n) vss L, w0.heap.size ≤ q ∨ q ∈ R := by
  have h1 : Blk w g t (List.toArray (cV (vss.flatten ++ C))) := M.at (i := 0) rfl
  have h2 : DoneV vss L w := M.pv (i := 1) rfl
  have h3 : Blk w g2 t2 (List.toArray (cV (rsF g n n))) := M.at (i := 2) rfl
  have hv := h2.len
  have hrow : ∀ i, i < L.length → (at3 L i).length = n := fun i hi => by
    rw [← h2.lv i hi]
    have e : atW vss i = vss[i]'(by omega) := by unfold atW; rw [List.getD_eq_getElem?_getD, List.getElem?_eq_getElem (by omega)]; rfl
    rw [e]; exact hu _ (List.getElem_mem _)
  have htop : RdV w 1 (.slice (some ⟨g2, 0, none⟩) n n) L.length (cV (rsF g n n)) := by
    rw [hL]
    exact win_rdv (s := 0) h3 (by rw [List.drop_zero, List.take_of_length_le (by rw [rsF_len]; omega)]) (rsF_len _ _ _) (by omega)
  refine ⟨⟨htop, ⟨by rw [rsF_len, hL], hv, h2.lv, fun i hi => ?_, h2.one⟩⟩, fun q hq => ?_⟩
  · rw [rsF_at (by omega) (by omega), hrow i hi]
    refine win_rdv h1 ?_ (by rw [h2.lv i hi, hrow i hi]) (by omega)
    have hfl := flat_len hu
    have h5 : i * n + n ≤ vss.flatten.length := by
      rw [hfl, ← Nat.succ_mul]; exact Nat.mul_le_mul_right _ (by omega)
    rw [List.drop_append, List.take_append_of_le_length (by rw [List.length_drop]; omega)]
    exact flat_at hu (by omega)
  · have hown := M.own
    rcases List.mem_append.1 hq with h | h
    · exact hown (.blk g2 t2 (List.toArray (cV (rsF g n n)))) (by simp) q (by
        have := (mem_fpN.1 h).2
        simp only [Ent.fp, List.mem_singleton]; exact this)
    · obtain ⟨i, hi, h4 | ⟨j, hj, h4⟩⟩ := mem_fpI.1 h
      · rw [rsF_at (by omega) (by omega)] at h4
        exact hown (.blk g t (List.toArray (cV (vss.flatten ++ C)))) (by simp) q (by
          have := (mem_fpN.1 h4).2
          simp only [Ent.fp, List.mem_singleton]; exact this)
      · exact hown (.own (fpD vss L) (DoneV vss L)) (by simp) q (mem_fpD.2 ⟨i, hi, j, hj, h4⟩)
theorem rows_other {vs : List Value} {L : List (List St)} {j q : Nat} (h : RowsV ty (vs.set j nilV) (L.set j []) w) (hq : q < vs.length) (hl : vs.length = L.length) (hj : j < vs.length) (hne : ¬ j = q) : RdS w (atV vs q) (atR L q) := by
  have := h.rd (j := q) (by simpa using hq)
  rwa [atV_set hj, if_neg hne, atR_set (by omega), if_neg hne] at this
end
end Go.Proofs.YtboinbmgndomhaaGreat
namespace Go.Proofs.YtboinbmgndomhaaGreat
open Go.RowKit
set_option maxRecDepth 100000
set_option linter.unusedSimpArgs false
set_option linter.unusedVariables false
def fpE (B : List Ent) : List Nat := B.flatMap Ent.fp
theorem mem_fpE {B : List Ent} {g : Nat} : g ∈ fpE B ↔ ∃ x ∈ B, g ∈ x.fp := by unfold fpE; rw [List.mem_flatMap]
structure PkV (B : List Ent) (w : World) : Prop where
  has : ∀ x ∈ B, x.at w
  base : ∀ x ∈ B, x.base = []
  nd : B.Pairwise (fun x y => ∀ g ∈ x.fp, ¬ g ∈ y.fp)
theorem Ent.loc {x : Ent} (hb : x.base = []) : Loc x.fp (fun w => x.at w) := fun w w' hk h => by
  refine ⟨?_, Ent.lt h⟩
  cases x with
  | blk g t cs => exact (blk_loc w w' hk h).1
  | row t m v n xs =>
    have h : w.ownsRow 0 t m v n xs := h
    refine ⟨h.1, ?_⟩
    rcases h.2 with h4 | ⟨g, cap, cur, h4, h5, h6, h7⟩
    · exact .inl h4
    · exact .inr ⟨g, cap, cur, h4, h5, (hk g (by simp [Ent.fp, h4, Value.ownBlock])).trans h6, h7⟩
  | arg m v n xs =>
    have h : RdV w m v n xs := h
    have hn : n = 0 := by
      by_cases h0 : n = 0
      · exact h0
      · rw [show (Ent.arg m v n xs).base = [gof v] from if_neg h0] at hb; cases hb
    obtain ⟨h0, A, c, rfl, h1, h2, h3⟩ := h
    exact ⟨h0, A, c, rfl, h1, h2, fun hn' => by omega⟩
  | got m v n xs =>
    have h : RdV w m v n xs := h
    obtain ⟨h0, A, c, rfl, h1, h2, h3⟩ := h
    refine ⟨h0, A, c, rfl, h1, h2, fun hn' => ?_⟩
    obtain ⟨g, off, rfl, h4, h5⟩ := h3 hn'
    have hg := hk g (by rw [show (Ent.got m (.slice (some ⟨g, off, none⟩) n c) n xs).fp = [g] from if_neg (by omega)]; simp)
    refine ⟨g, off, rfl, ?_, fun j u hj => by rw [World.cell?_of_block hg]; exact h5 j u hj⟩
    have h6 : w.heap[g]? = some w.heap[g] := Array.getElem?_eq_getElem h4
    rw [← hg] at h6
    exact (Array.getElem?_eq_some_iff.1 h6).1
  | own fp Φ => exact ⟨(h.2 w w' hk h.1).1, h.2⟩
  | ext fp Φ =>
    have hb : fp = [] := hb
    subst hb
    exact ⟨(h.2 w w' (fun g hg => by cases hg) h.1).1, h.2⟩
section
variable {R : List Nat} {w0 w w' : World} {B C X : List Ent}
theorem PkV.loc (B : List Ent) : Loc (fpE B) (PkV B) := fun w w' hk h =>
  ⟨⟨fun x hx => (Ent.loc (h.base x hx) w w' (fun g hg => hk g (mem_fpE.2 ⟨x, hx, hg⟩)) (h.has x hx)).1, h.base, h.nd⟩, fun g hg => by
    obtain ⟨x, hx, hg⟩ := mem_fpE.1 hg
    exact Ent.lt (h.has x hx) g hg⟩
theorem PkV.start (h : PkV B w) : Mm (fpE B) w w B := ⟨Out.refl _ _, h.has, fun x hx g hg => .inr (mem_fpE.2 ⟨x, hx, hg⟩), fun x hx g hg => (by rw [h.base x hx] at hg; cases hg), h.nd⟩
theorem Mm.pkv (M : Mm R w0 w B) (hb : ∀ x ∈ B, x.base = []) : PkV B w := ⟨M.has, hb, M.nd⟩
theorem Mm.pkTurns {v : Value} {Φ : World → Prop} {fp : List Nat} {Z : Value → Ent → Prop} (M : Mm R w0 w B) (hR : R = fp) (hb : ∀ x ∈ B, x.base = []) {Ψ : World → Prop} (hΨ : Ψ w) (hl : Loc (fpE B) Ψ) (hz : Z v (.own (fpE B) Ψ)) :
    TurnsE w0 (.own fp Φ) Z (.returned v) w :=
  ⟨v, .own (fpE B) Ψ, rfl, hR ▸ M.out, ⟨hΨ, hl⟩, fun g hg => by
    obtain ⟨x, hx, hg⟩ := mem_fpE.1 (show g ∈ fpE B from hg)
    rcases M.own x hx g hg with h | h
    · exact .inr h
    · exact .inl (hR ▸ h), rfl, hz⟩
theorem Mm.pkMakes {v : Value} {Z : Value → Ent → Prop} (M : Mm [] w0 w B) {Ψ : World → Prop} (hΨ : Ψ w) (hl : Loc (fpE B) Ψ) (hz : Z v (.own (fpE B) Ψ)) : MakesE w0 Z (.returned v) w :=
  ⟨v, .own (fpE B) Ψ, rfl, M.bel, ⟨hΨ, hl⟩, fun g hg => by
    obtain ⟨x, hx, hg⟩ := mem_fpE.1 (show g ∈ fpE B from hg)
    exact (M.own x hx g hg).elim id (fun z => by cases z), rfl, hz⟩
theorem PkV.get (h : PkV B w) {i : Nat} {x : Ent} (hi : B[i]? = some x) : x.at w := h.has x (List.mem_of_getElem? hi)
theorem PkV.pv (h : PkV B w) {i : Nat} {fp : List Nat} {Φ : World → Prop} (hi : B[i]? = some (.own fp Φ)) : Φ w := (show Φ w ∧ Loc fp Φ from h.get hi).1
theorem PkV.blk (h : PkV B w) {i g : Nat} {t : TypeId} {cs : Array Value} (hi : B[i]? = some (.blk g t cs)) : Blk w g t cs := h.get hi
theorem PkV.apart (h : PkV B w) {i j : Nat} {x y : Ent} (hi : B[i]? = some x) (hj : B[j]? = some y) (hne : i ≠ j) : ∀ g ∈ x.fp, ¬ g ∈ y.fp := by
  have hp := List.pairwise_iff_getElem.1 h.nd
  obtain ⟨hi', rfl⟩ := List.getElem?_eq_some_iff.1 hi
  obtain ⟨hj', rfl⟩ := List.getElem?_eq_some_iff.1 hj
  rcases Nat.lt_or_gt_of_ne hne with h1 | h1
  · exact hp i j hi' hj' h1
  · exact fun g hg hg' => hp j i hj' hi' h1 g hg' hg
end
end Go.Proofs.YtboinbmgndomhaaGreat
