/- Put together: Lc, Lg, Lu, Pk. -/
import Derived.Test.YtcnmmnhlhenifaaGreatJ2
import Derived.Test.YtcnmmnhlhenifaaGreatCt
import Derived.Test.YtcnmmnhlhenifaaGreatJ3
import Derived.Deep.Strs
import Derived.SizedLaws
namespace Go.Proofs.YtcnmmnhlhenifaaGreat
open Go.ChangeShapes Go.WideShapes Go.ChangeAt Go.RowKit Go.Joins Go.Deep
set_option maxRecDepth 100000
set_option linter.unusedSimpArgs false
set_option linter.unusedVariables false
def Opens (P : Program) (t : TypeId) {α : Type} (f : α → List Value) (I : α → Prop) : Prop :=
  ∀ {H : Type} {enc : TypeId × Value → H} {W : World} {base : Nat} {sp : Nat → Bool} {held : Bool} {fuel : Nat} {cs : List Value} {x : DataW H × List MemPlace}, DataW.trod enc P W base sp held fuel t cs = some x → ∃ a, cs = f a ∧ I a
section
variable {P : Program} {t : TypeId} {α β : Type}
theorem opens_int (h : P.underlying t = some (.int .i64)) : Opens P t (fun n : Int => [.int .i64 n]) (fun n => -9223372036854775808 ≤ n ∧ n ≤ 9223372036854775807) := by
  intro H enc W base sp held fuel cs x hx
  obtain ⟨z, e, _, w⟩ := DataW.trod_int h hx
  exact ⟨z, e, wf64 w⟩
theorem opens_struct2 {f0 f1 : Field} {f : α → List Value} {I : α → Prop} {g : β → List Value} {J : β → Prop} {m0 m1 : Nat} (h : P.underlying t = some (.struct #[f0, f1])) (h0 : Opens P f0.type f I) (h1 : Opens P f1.type g J)
    (hl : (((Nat.beq f0.offset 0 && Nat.beq f1.offset m0) && (Nat.beq (P.cellsOf f0.type) m0 && Nat.beq (P.cellsOf f1.type) m1)) && Nat.beq (P.cellsOf t) (m0 + m1)) = true) : Opens P t (fun p : α × β => f p.1 ++ g p.2) (fun p => I p.1 ∧ J p.2) := by
  simp only [Bool.and_eq_true, Nat.beq_eq] at hl
  obtain ⟨⟨⟨o0, o1⟩, c0, c1⟩, c⟩ := hl
  intro H enc W base sp held fuel cs x hx
  obtain ⟨y0, y1, n, _, hlen, hy0, hy1⟩ := trod_struct2 h hx
  rw [o0, c0] at hy0
  rw [o1, c1] at hy1
  obtain ⟨a, ha, hI⟩ := h0 hy0
  obtain ⟨b, hb, hJ⟩ := h1 hy1
  refine ⟨(a, b), ?_, hI, hJ⟩
  show cs = f a ++ g b
  rw [← ha, ← hb, List.drop_zero, List.take_of_length_le (l := cs.drop m0) (by rw [List.length_drop, hlen, c]; omega), List.take_append_drop]
theorem opens_pair {ti : TypeId} {f0 f1 : Field} (hu : Tryz.prog.underlying t = some (.struct #[f0, f1])) (hone : oneCellFields Tryz.prog #[f0, f1] = true) (hC : Tryz.prog.cellsOf t = 2)
    (h0 : f0.type = ti) (h1 : f1.type = ti) (hi : Tryz.prog.underlying ti = some (.int .i64)) : Opens Tryz.prog t (fun s : St => [.int .i64 s.e, .int .i64 s.r]) St.I := by
  intro H enc W base sp held fuel cs x hx
  exact pair_cells hu hone hC h0 h1 hi hx
theorem cells_at {w : World} {b m : Nat} {a : Addr} {cs : List Value} (h : w.cells? b a m = some cs) : ∀ j u, cs[j]? = some u → w.cell? (a.add j) = some u := by
  unfold World.cells? at h
  split at h
  · intro j u hj
    obtain ⟨hl, hu⟩ := List.getElem?_eq_some_iff.1 hj
    have hlen := mapM_some_length h
    have hm : j < m := by rw [List.length_range] at hlen; omega
    have := mapM_some_get h j j (by rw [List.getElem?_range hm])
    rw [hj] at this
    exact this
  · cases h
theorem openE {H : Type} {enc : TypeId × Value → H} {W : World} {e : TypeId} (E : Enc α) {I : α → Prop} (hut : P.underlying t = some (.slice e)) (hC : P.cellsOf e = E.m) (hpos : 0 < E.m) (ho : Opens P e E.f I) {v : Value} {d : DataW H} {ps : List MemPlace} {base : Nat} (hval : Value.okWide P W .any base t v) (h : DataW.Trod enc P W 0 (fun _ => true) true t v d ps) :
    ∃ L : List α, RdV W E.m v L.length (cE E L) ∧ ∀ s ∈ L, I s := by
  obtain ⟨a0, len, cap, rfl⟩ := okWide_slice hut hval
  obtain ⟨fuel, hf⟩ := h
  rcases open_slice hut hf with ⟨hcs, _⟩ | ⟨a, len', cap', m, n, D, Pl, hcs, _, hl, hm, hmm, _, hel⟩
  · have hv : Value.slice a0 len cap = .slice none 0 0 := by simpa [Value.cells] using hcs
    rw [hv]
    exact ⟨[], ⟨by simp [cE], none, 0, rfl, Nat.le_refl _, Nat.zero_le _, fun h => absurd h (by simp)⟩, by simp⟩
  · have hv : Value.slice a0 len cap = .slice (some a) len' cap' := by simpa [Value.cells] using hcs
    rw [hv]
    have hel2 : ∀ i, i < len' → ∃ s : α, I s ∧ ∀ j u, (E.f s)[j]? = some u → W.cell? (a.add (i * E.m + j)) = some u := fun i hil => by
      obtain ⟨cs', hc, htr⟩ := hel i (by rw [hmm]; split <;> omega)
      rw [hC] at hc
      obtain ⟨s, hs, hI⟩ := ho htr
      subst hs
      refine ⟨s, hI, fun j u hj => ?_⟩
      have := cells_at hc j u hj
      rwa [add_add] at this
    obtain ⟨f, hf⟩ : ∃ f : Nat → α, ∀ i, i < len' → I (f i) ∧ ∀ j u, (E.f (f i))[j]? = some u → W.cell? (a.add (i * E.m + j)) = some u := by
      refine ⟨fun i => if hi : i < len' then Classical.choose (hel2 i hi) else E.z, fun i hi => ?_⟩
      simp only [hi, dif_pos]
      exact Classical.choose_spec (hel2 i hi)
    refine ⟨(List.range len').map f, ?_, fun s hs => ?_⟩
    · have hll : ((List.range len').map f).length = len' := by simp
      rw [hll]
      refine ⟨by rw [cE_len, hll], some a, cap', rfl, hl, hm, fun hp => ?_⟩
      have hx0 : ∃ u, (E.f (f 0))[0]? = some u := ⟨(E.f (f 0))[0]'(by rw [E.len]; exact hpos), List.getElem?_eq_getElem _⟩
      obtain ⟨u0, hu0⟩ := hx0
      have h3 := cell_spot ((hf 0 hp).2 0 u0 hu0)
      rw [show a.add (0 * E.m + 0) = a from by simp [Addr.add]] at h3
      refine ⟨a.block, a.off, by cases a; simp_all, h3.2, fun j u hj => ?_⟩
      have hj2 : j < len' * E.m := by
        have := (List.getElem?_eq_some_iff.1 hj).1
        rw [cE_len, hll] at this; exact this
      have hjd : j / E.m < len' := by rw [Nat.div_lt_iff_lt_mul hpos]; exact hj2
      have hjm : j % E.m < E.m := Nat.mod_lt _ hpos
      have hdm : j / E.m * E.m + j % E.m = j := by rw [Nat.mul_comm]; exact Nat.div_add_mod j E.m
      have hc := cE_at (E := E) (L := (List.range len').map f) (i := j / E.m) (by rw [hll]; exact hjd)
      have hat : atE E ((List.range len').map f) (j / E.m) = f (j / E.m) := by
        rw [atE_eq (by rw [hll]; exact hjd)]; simp
      rw [hat] at hc
      have hg : (E.f (f (j / E.m)))[j % E.m]? = some u := by
        rw [← hc, List.getElem?_take, if_pos hjm, List.getElem?_drop, hdm]; exact hj
      have := (hf (j / E.m) hjd).2 _ u hg
      rw [hdm, add_lit h3.1] at this
      exact this
    · obtain ⟨i, hi, rfl⟩ := List.mem_map.1 hs
      exact (hf i (by simpa using hi)).1
end
section
variable {H : Type} {enc : TypeId × Value → H} {W : World}
end
section
variable {H : Type} {enc : TypeId × Value → H} {W : World}
end
section
variable {H : Type} {enc : TypeId × Value → H} {W : World}
end
end Go.Proofs.YtcnmmnhlhenifaaGreat
namespace Go.Proofs.YtcnmmnhlhenifaaGreat
open Go.ChangeShapes Go.WideShapes Go.ChangeAt Go.RowKit Go.Joins Go.Deep
set_option maxRecDepth 100000
set_option linter.unusedSimpArgs false
set_option linter.unusedVariables false
def I64 (n : Int) : Prop := -9223372036854775808 ≤ n ∧ n ≤ 9223372036854775807
def Ed.I (x : Ed) : Prop := I64 x.f ∧ I64 x.t ∧ x.p.I
section
variable {P : Program} {t : TypeId} {α β γ : Type}
theorem opens_struct3 {f0 f1 f2 : Field} {f : α → List Value} {I : α → Prop} {g : β → List Value} {J : β → Prop} {h : γ → List Value} {K : γ → Prop} {m0 m1 m2 : Nat} (hu : P.underlying t = some (.struct #[f0, f1, f2])) (h0 : Opens P f0.type f I) (h1 : Opens P f1.type g J) (h2 : Opens P f2.type h K)
    (o0 : f0.offset = 0) (o1 : f1.offset = m0) (o2 : f2.offset = m0 + m1) (c0 : P.cellsOf f0.type = m0) (c1 : P.cellsOf f1.type = m1) (c2 : P.cellsOf f2.type = m2) (c : P.cellsOf t = m0 + m1 + m2) : Opens P t (fun p : α × β × γ => f p.1 ++ (g p.2.1 ++ h p.2.2)) (fun p => I p.1 ∧ J p.2.1 ∧ K p.2.2) := by
  intro H enc W base sp held fuel cs x hx
  obtain ⟨y0, y1, y2, n, _, hlen, hy0, hy1, hy2⟩ := trod_struct3 hu hx
  rw [o0, c0] at hy0
  rw [o1, c1] at hy1
  rw [o2, c2] at hy2
  obtain ⟨a, ha, hI⟩ := h0 hy0
  obtain ⟨b, hb, hJ⟩ := h1 hy1
  obtain ⟨d, hd, hK⟩ := h2 hy2
  refine ⟨(a, b, d), ?_, hI, hJ, hK⟩
  show cs = f a ++ (g b ++ h d)
  rw [← ha, ← hb, ← hd, List.drop_zero, List.take_of_length_le (l := cs.drop (m0 + m1)) (by rw [List.length_drop, hlen, c]; omega), ← List.drop_drop, List.take_append_drop, List.take_append_drop]
theorem openE1 {H : Type} {enc : TypeId × Value → H} {W : World} {e : TypeId} (E : Enc α) {I : α → Prop} (hut : P.underlying t = some (.slice e)) (hC : P.cellsOf e = E.m) (hpos : 0 < E.m) (ho : Opens P e E.f I) {fuel : Nat} {cs : List Value} {x : DataW H × List MemPlace} (hf : DataW.trod enc P W 0 (fun _ => true) true fuel t cs = some x) :
    ∃ (v : Value) (L : List α), cs = [v] ∧ RdV W E.m v L.length (cE E L) ∧ ∀ s ∈ L, I s := by
  rcases open_slice hut hf with ⟨hcs, _⟩ | ⟨a, len', cap', m, n, D, Pl, hcs, _, hl, hm, hmm, _, hel⟩
  · exact ⟨_, [], hcs, ⟨by simp [cE], none, 0, rfl, Nat.le_refl _, Nat.zero_le _, fun h => absurd h (by simp)⟩, by simp⟩
  · have hel2 : ∀ i, i < len' → ∃ s : α, I s ∧ ∀ j u, (E.f s)[j]? = some u → W.cell? (a.add (i * E.m + j)) = some u := fun i hil => by
      obtain ⟨cs', hc, htr⟩ := hel i (by rw [hmm]; split <;> omega)
      rw [hC] at hc
      obtain ⟨s, hs, hI⟩ := ho htr
      subst hs
      refine ⟨s, hI, fun j u hj => ?_⟩
      have := cells_at hc j u hj
      rwa [add_add] at this
    obtain ⟨f, hf⟩ : ∃ f : Nat → α, ∀ i, i < len' → I (f i) ∧ ∀ j u, (E.f (f i))[j]? = some u → W.cell? (a.add (i * E.m + j)) = some u := by
      refine ⟨fun i => if hi : i < len' then Classical.choose (hel2 i hi) else E.z, fun i hi => ?_⟩
      simp only [hi, dif_pos]
      exact Classical.choose_spec (hel2 i hi)
    refine ⟨_, (List.range len').map f, hcs, ?_, fun s hs => ?_⟩
    · have hll : ((List.range len').map f).length = len' := by simp
      rw [hll]
      refine ⟨by rw [cE_len, hll], some a, cap', rfl, hl, hm, fun hp => ?_⟩
      have hx0 : ∃ u, (E.f (f 0))[0]? = some u := ⟨(E.f (f 0))[0]'(by rw [E.len]; exact hpos), List.getElem?_eq_getElem _⟩
      obtain ⟨u0, hu0⟩ := hx0
      have h3 := cell_spot ((hf 0 hp).2 0 u0 hu0)
      rw [show a.add (0 * E.m + 0) = a from by simp [Addr.add]] at h3
      refine ⟨a.block, a.off, by cases a; simp_all, h3.2, fun j u hj => ?_⟩
      have hj2 : j < len' * E.m := by
        have := (List.getElem?_eq_some_iff.1 hj).1
        rw [cE_len, hll] at this; exact this
      have hjd : j / E.m < len' := by rw [Nat.div_lt_iff_lt_mul hpos]; exact hj2
      have hjm : j % E.m < E.m := Nat.mod_lt _ hpos
      have hdm : j / E.m * E.m + j % E.m = j := by rw [Nat.mul_comm]; exact Nat.div_add_mod j E.m
      have hc := cE_at (E := E) (L := (List.range len').map f) (i := j / E.m) (by rw [hll]; exact hjd)
      have hat : atE E ((List.range len').map f) (j / E.m) = f (j / E.m) := by
        rw [atE_eq (by rw [hll]; exact hjd)]; simp
      rw [hat] at hc
      have hg : (E.f (f (j / E.m)))[j % E.m]? = some u := by
        rw [← hc, List.getElem?_take, if_pos hjm, List.getElem?_drop, hdm]; exact hj
      have := (hf (j / E.m) hjd).2 _ u hg
      rw [hdm, add_lit h3.1] at this
      exact this
    · obtain ⟨i, hi, rfl⟩ := List.mem_map.1 hs
      exact (hf i (by simpa using hi)).1
end
theorem opensEd : Opens Tryz.prog 79 encG.f Ed.I := by
  intro H enc W base sp held fuel cs x hx
  obtain ⟨p, hp, hI⟩ := opens_struct3 (m0 := 1) (m1 := 1) (m2 := 2) Tryz.underlying79 (opens_int Tryz.underlying3) (opens_int Tryz.underlying3) (opens_pair Tryz.underlying77 (by kernel_rfl) (by kernel_rfl) rfl rfl Tryz.underlying3) rfl rfl rfl (by kernel_rfl) (by kernel_rfl) (by kernel_rfl) (by kernel_rfl) hx
  exact ⟨⟨p.1, p.2.1, p.2.2⟩, hp, hI⟩
section
variable {H : Type} {enc : TypeId × Value → H} {W : World}
theorem openGr {v : Value} {d : DataW H} {ps : List MemPlace} {base : Nat} (hval : Value.okWide Tryz.prog W .any base 24 v) (h : DataW.Trod enc Tryz.prog W 0 (fun _ => true) true 24 v d ps) :
    ∃ (n : Int) (ev : Value) (E : List Ed), v = .agg #[.int .i64 n, ev] ∧ I64 n ∧ RdG W ev E ∧ ∀ x ∈ E, x.I := by
  obtain ⟨cs, rfl, hsz⟩ := okWide_struct Tryz.underlying24 hval
  obtain ⟨fuel, hf⟩ := h
  obtain ⟨y0, y1, k, _, hlen, hy0, hy1⟩ := trod_struct2 Tryz.underlying24 hf
  obtain ⟨n, hn, hI⟩ := opens_int Tryz.underlying3 hy0
  obtain ⟨ev, E, he, hr, hE⟩ := openE1 encG Tryz.underlying22 (by kernel_rfl) (by decide) opensEd hy1
  refine ⟨n, ev, E, ?_, hI, hr, hE⟩
  have hc : Tryz.prog.cellsOf 24 = 2 := by kernel_rfl
  have hc0 : Tryz.prog.cellsOf 3 = 1 := by kernel_rfl
  have hc1 : Tryz.prog.cellsOf 22 = 1 := by kernel_rfl
  have hl : cs.toList.length = 2 := by rw [← hc]; exact hlen
  have h0 : (cs.toList.drop 0).take 1 = [.int .i64 n] := by rw [← hc0]; exact hn
  have h1 : (cs.toList.drop 1).take 1 = [ev] := by rw [← hc1]; exact he
  congr 1
  apply Array.ext'
  match hq : cs.toList, hl with
  | [a, b], _ =>
    rw [hq] at h0 h1
    simp at h0 h1
    rw [h0, h1]
end
theorem rdGr : Tryz.prog.readableRec 24 = true ∧ 24 < Tryz.prog.types.size := ⟨by kernel_rfl, of_decide_eq_true (by kernel_rfl)⟩
end Go.Proofs.YtcnmmnhlhenifaaGreat
namespace Go.Proofs.YtcnmmnhlhenifaaGreat
open Go.ChangeShapes Go.WideShapes Go.ChangeAt Go.RowKit Go.Joins Go.Deep
set_option maxRecDepth 100000
set_option linter.unusedSimpArgs false
set_option linter.unusedVariables false
section
variable {P : Program} {t e : TypeId} {α : Type}
theorem opens_u8 (h : P.underlying t = some (.int .u8)) : Opens P t (fun b : UInt8 => [.int .u8 (u8 b)]) (fun _ => True) := by
  intro H enc W base sp held fuel cs x hx
  obtain ⟨z, e, _, w⟩ := DataW.trod_int h hx
  have hz := wf8 w
  refine ⟨byteU z, ?_, trivial⟩
  rw [e]
  show [Value.int .u8 z] = [Value.int .u8 (u8 (byteU z))]
  rw [u8_byte, show z % 256 = z by omega]
theorem chunksU {f : α → List Value} {I : α → Prop} {m : Nat} (hm : ∀ a, (f a).length = m) : ∀ (n : Nat) (cs : List Value), cs.length = n * m → (∀ i, i < n → ∃ a, (cs.drop (i * m)).take m = f a ∧ I a) → ∃ L : List α, L.length = n ∧ cs = L.flatMap f ∧ ∀ a ∈ L, I a
  | 0, cs, hl, _ => ⟨[], rfl, by simpa using hl, fun a ha => by cases ha⟩
  | n + 1, cs, hl, h => by
    obtain ⟨a, ha, hI⟩ := h 0 (by omega)
    rw [Nat.zero_mul, List.drop_zero] at ha
    obtain ⟨L, h1, h2, h3⟩ := chunksU hm n (cs.drop m) (by rw [List.length_drop, hl, Nat.add_mul]; omega) fun i hi => by
      have := h (i + 1) (by omega)
      rwa [show (i + 1) * m = m + i * m by rw [Nat.add_mul]; omega, ← List.drop_drop] at this
    refine ⟨a :: L, by simp [h1], ?_, fun b hb => ?_⟩
    · rw [List.flatMap_cons, ← ha, ← h2, List.take_append_drop]
    · rcases List.mem_cons.1 hb with rfl | hb
      · exact hI
      · exact h3 b hb
theorem opens_array {n m : Nat} {f : α → List Value} {I : α → Prop} (hm : ∀ a, (f a).length = m) (hua : P.underlying t = some (.array n e)) (hC : P.cellsOf e = m) (hCa : P.cellsOf t = n * m) (ho : Opens P e f I) : Opens P t (fun L : List α => L.flatMap f) (fun L => L.length = n ∧ ∀ a ∈ L, I a) := by
  intro H enc W base sp held fuel cs x hx
  obtain ⟨xs, q, _, _, hl, hlen, heach⟩ := DataW.trod_array hua hx
  obtain ⟨L, h1, h2, h3⟩ := chunksU (I := I) hm n cs (by rw [hl, hCa]) fun i hi => by
    have e0 := heach i hi
    rw [hC, List.getElem?_eq_getElem (by omega)] at e0
    obtain ⟨a, ha, hI⟩ := ho e0
    exact ⟨a, ha, hI⟩
  exact ⟨L, h2, h1, h3⟩
theorem flatU : ∀ L : List UInt8, L.flatMap (fun b => [Value.int .u8 (u8 b)]) = L.map fun b => .int .u8 (u8 b)
  | [] => rfl
  | b :: L => by rw [List.flatMap_cons, flatU L]; rfl
theorem opens_32 (hua : P.underlying t = some (.array 32 e)) (he : P.underlying e = some (.int .u8)) (hC : P.cellsOf e = 1) (hCa : P.cellsOf t = 32 * 1) : Opens P t l32 (fun _ => True) := by
  intro H enc W base sp held fuel cs x hx
  obtain ⟨L, hL, hn, _⟩ := opens_array (m := 1) (f := fun b : UInt8 => [Value.int .u8 (u8 b)]) (fun _ => rfl) hua hC hCa (opens_u8 he) hx
  refine ⟨⟨L, hn⟩, ?_, trivial⟩
  rw [l32_eq, cU_map, hL]
  show L.flatMap (fun b => [Value.int .u8 (u8 b)]) = L.map fun b => .int .u8 (u8 b)
  exact flatU _
theorem field_at {fs : Array Field} (hu : P.underlying t = some (.struct fs)) {H : Type} {enc : TypeId × Value → H} {W : World} {base : Nat} {sp : Nat → Bool} {held : Bool} {fuel : Nat} {cs : List Value} {x : DataW H × List MemPlace} (hx : DataW.trod enc P W base sp held fuel t cs = some x) {i : Nat} {f : Field} (hf : fs[i]? = some f) {g : α → List Value} {I : α → Prop} (o m : Nat) (ho : Opens P f.type g I) (h1 : f.offset = o) (h2 : P.cellsOf f.type = m) :
    ∃ a, (cs.drop o).take m = g a ∧ I a := by
  obtain ⟨xs, n, _, _, _, hlen, hall⟩ := DataW.trod_struct hu hx
  have h3 := hall i f hf
  have hi : i < xs.length := by rw [hlen]; exact (Array.getElem?_eq_some_iff.1 hf).1
  rw [List.getElem?_eq_getElem hi, h1, h2] at h3
  exact ho h3
theorem cut_step (cs : List Value) (o m : Nat) {X : List Value} (h : (cs.drop o).take m = X) : cs.drop o = X ++ cs.drop (o + m) := by
  rw [← h, ← List.drop_drop, List.take_append_drop]
end
theorem oi9 : Opens Tryz.prog 3 (fun n : Int => [.int .i64 n]) (fun n => -9223372036854775808 ≤ n ∧ n ≤ 9223372036854775807) := opens_int Tryz.underlying3
theorem opensPt : Opens Tryz.prog 39 (fun p : Po => [.int .i64 p.n, .int .i64 p.t.e, .int .i64 p.t.r]) (fun _ => True) := by
  intro H enc W base sp held fuel cs x hx
  obtain ⟨p, hp, _⟩ := opens_struct2 (m0 := 1) (m1 := 2) Tryz.underlying39 (opens_int Tryz.underlying3) (opens_pair Tryz.underlying37 (by kernel_rfl) (by kernel_rfl) rfl rfl Tryz.underlying3) (by kernel_rfl) hx
  exact ⟨⟨p.1, p.2⟩, hp, trivial⟩
theorem opensEn : Opens Tryz.prog 41 cEn (fun _ => True) := by
  intro H enc W base sp held fuel cs x hx
  have hu := Tryz.underlying41
  obtain ⟨xs, n, _, _, hl, _, _⟩ := DataW.trod_struct hu hx
  rw [show Tryz.prog.cellsOf 41 = 40 by kernel_rfl] at hl
  obtain ⟨a0, h0, _⟩ := field_at hu hx (i := 0) rfl 0 1 oi9 rfl (by kernel_rfl)
  obtain ⟨a1, h1, _⟩ := field_at hu hx (i := 1) rfl 1 32 (opens_32 Tryz.underlying35 Tryz.underlying5 (by kernel_rfl) (by kernel_rfl)) rfl (by kernel_rfl)
  obtain ⟨a2, h2, _⟩ := field_at hu hx (i := 2) rfl 33 1 oi9 rfl (by kernel_rfl)
  obtain ⟨a3, h3, _⟩ := field_at hu hx (i := 3) rfl 34 3 opensPt rfl (by kernel_rfl)
  obtain ⟨a4, h4, _⟩ := field_at hu hx (i := 4) rfl 37 1 oi9 rfl (by kernel_rfl)
  obtain ⟨a5, h5, _⟩ := field_at hu hx (i := 5) rfl 38 1 oi9 rfl (by kernel_rfl)
  obtain ⟨a6, h6, _⟩ := field_at hu hx (i := 6) rfl 39 1 oi9 rfl (by kernel_rfl)
  refine ⟨⟨a0, a1, a2, a3, a4, a5, a6⟩, ?_, trivial⟩
  have hc : cs = cs.drop 0 := List.drop_zero.symm
  rw [hc, cut_step cs 0 1 h0, cut_step cs 1 32 h1, cut_step cs 33 1 h2, cut_step cs 34 3 h3, cut_step cs 37 1 h4, cut_step cs 38 1 h5, cut_step cs 39 1 h6, List.drop_eq_nil_of_le (by omega), List.append_nil]
  rfl
section
variable {H : Type} {enc : TypeId × Value → H} {W : World}
end
section
variable {H : Type} {enc : TypeId × Value → H} {W : World}
theorem openNL {v : Value} {d : DataW H} {ps : List MemPlace} {base : Nat} (hval : Value.okWide Tryz.prog W .any base 25 v) (h : DataW.Trod enc Tryz.prog W 0 (fun _ => true) true 25 v d ps) :
    ∃ L : List En, RdN W v L ∧ True := by
  obtain ⟨L, hl, _⟩ := openE encN Tryz.underlying25 (by kernel_rfl) (by decide) opensEn hval h
  exact ⟨L, hl, trivial⟩
end
theorem rdNL : Tryz.prog.readableRec 25 = true ∧ 25 < Tryz.prog.types.size := ⟨by kernel_rfl, of_decide_eq_true (by kernel_rfl)⟩
section
variable {H : Type} {enc : TypeId × Value → H} {W : World}
end
section
variable {H : Type} {enc : TypeId × Value → H} {W : World}
end
end Go.Proofs.YtcnmmnhlhenifaaGreat
namespace Go.Proofs.YtcnmmnhlhenifaaGreat
open Go.RowKit
set_option maxRecDepth 100000
set_option linter.unusedSimpArgs false
set_option linter.unusedVariables false
def fpE (B : List Ent) : List Nat := B.flatMap Ent.fp
theorem mem_fpE {B : List Ent} {g : Nat} : g ∈ fpE B ↔ ∃ x ∈ B, g ∈ x.fp := by unfold fpE; rw [List.mem_flatMap]
structure PkV (B : List Ent) (w : World) : Prop where
  has : ∀ x ∈ B, x.at w
  base : ∀ x ∈ B, x.base = []
  nd : B.Pairwise (fun x y => ∀ g ∈ x.fp, ¬ g ∈ y.fp)
theorem Ent.loc {x : Ent} (hb : x.base = []) : Loc x.fp (fun w => x.at w) := fun w w' hk h => by
  refine ⟨?_, Ent.lt h⟩
  cases x with
  | blk g t cs => exact (blk_loc w w' hk h).1
  | row t m v n xs =>
    have h : w.ownsRow 0 t m v n xs := h
    refine ⟨h.1, ?_⟩
    rcases h.2 with h4 | ⟨g, cap, cur, h4, h5, h6, h7⟩
    · exact .inl h4
    · exact .inr ⟨g, cap, cur, h4, h5, (hk g (by simp [Ent.fp, h4, Value.ownBlock])).trans h6, h7⟩
  | arg m v n xs =>
    have h : RdV w m v n xs := h
    have hn : n = 0 := by
      by_cases h0 : n = 0
      · exact h0
      · rw [show (Ent.arg m v n xs).base = [gof v] from if_neg h0] at hb; cases hb
    obtain ⟨h0, A, c, rfl, h1, h2, h3⟩ := h
    exact ⟨h0, A, c, rfl, h1, h2, fun hn' => by omega⟩
  | got m v n xs =>
    have h : RdV w m v n xs := h
    obtain ⟨h0, A, c, rfl, h1, h2, h3⟩ := h
    refine ⟨h0, A, c, rfl, h1, h2, fun hn' => ?_⟩
    obtain ⟨g, off, rfl, h4, h5⟩ := h3 hn'
    have hg := hk g (by rw [show (Ent.got m (.slice (some ⟨g, off, none⟩) n c) n xs).fp = [g] from if_neg (by omega)]; simp)
    refine ⟨g, off, rfl, ?_, fun j u hj => by rw [World.cell?_of_block hg]; exact h5 j u hj⟩
    have h6 : w.heap[g]? = some w.heap[g] := Array.getElem?_eq_getElem h4
    rw [← hg] at h6
    exact (Array.getElem?_eq_some_iff.1 h6).1
  | own fp Φ => exact ⟨(h.2 w w' hk h.1).1, h.2⟩
  | ext fp Φ =>
    have hb : fp = [] := hb
    subst hb
    exact ⟨(h.2 w w' (fun g hg => by cases hg) h.1).1, h.2⟩
section
variable {R : List Nat} {w0 w w' : World} {B C X : List Ent}
theorem PkV.loc (B : List Ent) : Loc (fpE B) (PkV B) := fun w w' hk h =>
  ⟨⟨fun x hx => (Ent.loc (h.base x hx) w w' (fun g hg => hk g (mem_fpE.2 ⟨x, hx, hg⟩)) (h.has x hx)).1, h.base, h.nd⟩, fun g hg => by
    obtain ⟨x, hx, hg⟩ := mem_fpE.1 hg
    exact Ent.lt (h.has x hx) g hg⟩
theorem PkV.start (h : PkV B w) : Mm (fpE B) w w B := ⟨Out.refl _ _, h.has, fun x hx g hg => .inr (mem_fpE.2 ⟨x, hx, hg⟩), fun x hx g hg => (by rw [h.base x hx] at hg; cases hg), h.nd⟩
theorem Mm.pkv (M : Mm R w0 w B) (hb : ∀ x ∈ B, x.base = []) : PkV B w := ⟨M.has, hb, M.nd⟩
theorem Mm.pkTurns {v : Value} {Φ : World → Prop} {fp : List Nat} {Z : Value → Ent → Prop} (M : Mm R w0 w B) (hR : R = fp) (hb : ∀ x ∈ B, x.base = []) {Ψ : World → Prop} (hΨ : Ψ w) (hl : Loc (fpE B) Ψ) (hz : Z v (.own (fpE B) Ψ)) :
    TurnsE w0 (.own fp Φ) Z (.returned v) w :=
  ⟨v, .own (fpE B) Ψ, rfl, hR ▸ M.out, ⟨hΨ, hl⟩, fun g hg => by
    obtain ⟨x, hx, hg⟩ := mem_fpE.1 (show g ∈ fpE B from hg)
    rcases M.own x hx g hg with h | h
    · exact .inr h
    · exact .inl (hR ▸ h), rfl, hz⟩
theorem Mm.pkMakes {v : Value} {Z : Value → Ent → Prop} (M : Mm [] w0 w B) {Ψ : World → Prop} (hΨ : Ψ w) (hl : Loc (fpE B) Ψ) (hz : Z v (.own (fpE B) Ψ)) : MakesE w0 Z (.returned v) w :=
  ⟨v, .own (fpE B) Ψ, rfl, M.bel, ⟨hΨ, hl⟩, fun g hg => by
    obtain ⟨x, hx, hg⟩ := mem_fpE.1 (show g ∈ fpE B from hg)
    exact (M.own x hx g hg).elim id (fun z => by cases z), rfl, hz⟩
theorem PkV.get (h : PkV B w) {i : Nat} {x : Ent} (hi : B[i]? = some x) : x.at w := h.has x (List.mem_of_getElem? hi)
theorem PkV.pv (h : PkV B w) {i : Nat} {fp : List Nat} {Φ : World → Prop} (hi : B[i]? = some (.own fp Φ)) : Φ w := (show Φ w ∧ Loc fp Φ from h.get hi).1
theorem PkV.blk (h : PkV B w) {i g : Nat} {t : TypeId} {cs : Array Value} (hi : B[i]? = some (.blk g t cs)) : Blk w g t cs := h.get hi
theorem PkV.apart (h : PkV B w) {i j : Nat} {x y : Ent} (hi : B[i]? = some x) (hj : B[j]? = some y) (hne : i ≠ j) : ∀ g ∈ x.fp, ¬ g ∈ y.fp := by
  have hp := List.pairwise_iff_getElem.1 h.nd
  obtain ⟨hi', rfl⟩ := List.getElem?_eq_some_iff.1 hi
  obtain ⟨hj', rfl⟩ := List.getElem?_eq_some_iff.1 hj
  rcases Nat.lt_or_gt_of_ne hne with h1 | h1
  · exact hp i j hi' hj' h1
  · exact fun g hg hg' => hp j i hj' hi' h1 g hg' hg
theorem Mm.pick (M : Mm R w0 w B) (is : List Nat) (hn : is.Nodup) {X : List Ent} (h : is.map (fun i => B[i]?) = X.map some) : Mm R w0 w X := by
  have hl : is.length = X.length := by have := congrArg List.length h; simpa using this
  have hat : ∀ k (hk : k < X.length), B[is[k]'(by omega)]? = some X[k] := fun k hk => by
    have := congrArg (fun l => l[k]?) h
    simpa [List.getElem?_eq_getElem hk, List.getElem?_eq_getElem (show k < is.length by omega)] using this
  have hm : ∀ x ∈ X, x ∈ B := fun x hx => by
    obtain ⟨k, hk, rfl⟩ := List.mem_iff_getElem.1 hx
    exact List.mem_of_getElem? (hat k hk)
  refine ⟨M.out, fun x hx => M.has x (hm x hx), fun x hx => M.own x (hm x hx), fun x hx => M.far x (hm x hx), ?_⟩
  rw [List.pairwise_iff_getElem]
  intro a b ha hb hab
  refine M.apart (hat a ha) (hat b hb) fun e => ?_
  exact (List.pairwise_iff_getElem.1 hn) a b (by omega) (by omega) hab e
end
end Go.Proofs.YtcnmmnhlhenifaaGreat
