/- Put together: Lc, Lg, Lu, Sc, Rr, Rp, Rg, Rc, Hr, Bg, Bh, Km, Bl, Kb, Kt, Pk, Ko, Ke. -/
import Derived.Test.YtcnmmnhlhenifaaGreatJ2
import Derived.Test.YtcnmmnhlhenifaaGreatCt
import Derived.Test.YtcnmmnhlhenifaaGreatJ3
import Derived.Deep.Strs
import Derived.SizedLaws
import Derived.Test.YtcnmmnhlhenifaaGreatFc
import Derived.Test.YtcnmmnhlhenifaaGreatJ1
namespace Go.Proofs.YtcnmmnhlhenifaaGreat
open Go.ChangeShapes Go.WideShapes Go.ChangeAt Go.RowKit Go.Joins Go.Deep
set_option maxRecDepth 100000
set_option linter.unusedSimpArgs false
set_option linter.unusedVariables false
def Opens (P : Program) (t : TypeId) {α : Type} (f : α → List Value) (I : α → Prop) : Prop :=
  ∀ {H : Type} {enc : TypeId × Value → H} {W : World} {base : Nat} {sp : Nat → Bool} {held : Bool} {fuel : Nat} {cs : List Value} {x : DataW H × List MemPlace}, DataW.trod enc P W base sp held fuel t cs = some x → ∃ a, cs = f a ∧ I a
section
variable {P : Program} {t : TypeId} {α β : Type}
theorem opens_int (h : P.underlying t = some (.int .i64)) : Opens P t (fun n : Int => [.int .i64 n]) (fun n => -9223372036854775808 ≤ n ∧ n ≤ 9223372036854775807) := by
  intro H enc W base sp held fuel cs x hx
  obtain ⟨z, e, _, w⟩ := DataW.trod_int h hx
  exact ⟨z, e, wf64 w⟩
theorem opens_struct2 {f0 f1 : Field} {f : α → List Value} {I : α → Prop} {g : β → List Value} {J : β → Prop} {m0 m1 : Nat} (h : P.underlying t = some (.struct #[f0, f1])) (h0 : Opens P f0.type f I) (h1 : Opens P f1.type g J)
    (hl : (((Nat.beq f0.offset 0 && Nat.beq f1.offset m0) && (Nat.beq (P.cellsOf f0.type) m0 && Nat.beq (P.cellsOf f1.type) m1)) && Nat.beq (P.cellsOf t) (m0 + m1)) = true) : Opens P t (fun p : α × β => f p.1 ++ g p.2) (fun p => I p.1 ∧ J p.2) := by
  simp only [Bool.and_eq_true, Nat.beq_eq] at hl
  obtain ⟨⟨⟨o0, o1⟩, c0, c1⟩, c⟩ := hl
  intro H enc W base sp held fuel cs x hx
  obtain ⟨y0, y1, n, _, hlen, hy0, hy1⟩ := trod_struct2 h hx
  rw [o0, c0] at hy0
  rw [o1, c1] at hy1
  obtain ⟨a, ha, hI⟩ := h0 hy0
  obtain ⟨b, hb, hJ⟩ := h1 hy1
  refine ⟨(a, b), ?_, hI, hJ⟩
  show cs = f a ++ g b
  rw [← ha, ← hb, List.drop_zero, List.take_of_length_le (l := cs.drop m0) (by rw [List.length_drop, hlen, c]; omega), List.take_append_drop]
theorem opens_pair {ti : TypeId} {f0 f1 : Field} (hu : Tryz.prog.underlying t = some (.struct #[f0, f1])) (hone : oneCellFields Tryz.prog #[f0, f1] = true) (hC : Tryz.prog.cellsOf t = 2)
    (h0 : f0.type = ti) (h1 : f1.type = ti) (hi : Tryz.prog.underlying ti = some (.int .i64)) : Opens Tryz.prog t (fun s : St => [.int .i64 s.e, .int .i64 s.r]) St.I := by
  intro H enc W base sp held fuel cs x hx
  exact pair_cells hu hone hC h0 h1 hi hx
theorem cells_at {w : World} {b m : Nat} {a : Addr} {cs : List Value} (h : w.cells? b a m = some cs) : ∀ j u, cs[j]? = some u → w.cell? (a.add j) = some u := by
  unfold World.cells? at h
  split at h
  · intro j u hj
    obtain ⟨hl, hu⟩ := List.getElem?_eq_some_iff.1 hj
    have hlen := mapM_some_length h
    have hm : j < m := by rw [List.length_range] at hlen; omega
    have := mapM_some_get h j j (by rw [List.getElem?_range hm])
    rw [hj] at this
    exact this
  · cases h
theorem openE {H : Type} {enc : TypeId × Value → H} {W : World} {e : TypeId} (E : Enc α) {I : α → Prop} (hut : P.underlying t = some (.slice e)) (hC : P.cellsOf e = E.m) (hpos : 0 < E.m) (ho : Opens P e E.f I) {v : Value} {d : DataW H} {ps : List MemPlace} {base : Nat} (hval : Value.okWide P W .any base t v) (h : DataW.Trod enc P W 0 (fun _ => true) true t v d ps) :
    ∃ L : List α, RdV W E.m v L.length (cE E L) ∧ ∀ s ∈ L, I s := by
  obtain ⟨a0, len, cap, rfl⟩ := okWide_slice hut hval
  obtain ⟨fuel, hf⟩ := h
  rcases open_slice hut hf with ⟨hcs, _⟩ | ⟨a, len', cap', m, n, D, Pl, hcs, _, hl, hm, hmm, _, hel⟩
  · have hv : Value.slice a0 len cap = .slice none 0 0 := by simpa [Value.cells] using hcs
    rw [hv]
    exact ⟨[], ⟨by simp [cE], none, 0, rfl, Nat.le_refl _, Nat.zero_le _, fun h => absurd h (by simp)⟩, by simp⟩
  · have hv : Value.slice a0 len cap = .slice (some a) len' cap' := by simpa [Value.cells] using hcs
    rw [hv]
    have hel2 : ∀ i, i < len' → ∃ s : α, I s ∧ ∀ j u, (E.f s)[j]? = some u → W.cell? (a.add (i * E.m + j)) = some u := fun i hil => by
      obtain ⟨cs', hc, htr⟩ := hel i (by rw [hmm]; split <;> omega)
      rw [hC] at hc
      obtain ⟨s, hs, hI⟩ := ho htr
      subst hs
      refine ⟨s, hI, fun j u hj => ?_⟩
      have := cells_at hc j u hj
      rwa [add_add] at this
    obtain ⟨f, hf⟩ : ∃ f : Nat → α, ∀ i, i < len' → I (f i) ∧ ∀ j u, (E.f (f i))[j]? = some u → W.cell? (a.add (i * E.m + j)) = some u := by
      refine ⟨fun i => if hi : i < len' then Classical.choose (hel2 i hi) else E.z, fun i hi => ?_⟩
      simp only [hi, dif_pos]
      exact Classical.choose_spec (hel2 i hi)
    refine ⟨(List.range len').map f, ?_, fun s hs => ?_⟩
    · have hll : ((List.range len').map f).length = len' := by simp
      rw [hll]
      refine ⟨by rw [cE_len, hll], some a, cap', rfl, hl, hm, fun hp => ?_⟩
      have hx0 : ∃ u, (E.f (f 0))[0]? = some u := ⟨(E.f (f 0))[0]'(by rw [E.len]; exact hpos), List.getElem?_eq_getElem _⟩
      obtain ⟨u0, hu0⟩ := hx0
      have h3 := cell_spot ((hf 0 hp).2 0 u0 hu0)
      rw [show a.add (0 * E.m + 0) = a from by simp [Addr.add]] at h3
      refine ⟨a.block, a.off, by cases a; simp_all, h3.2, fun j u hj => ?_⟩
      have hj2 : j < len' * E.m := by
        have := (List.getElem?_eq_some_iff.1 hj).1
        rw [cE_len, hll] at this; exact this
      have hjd : j / E.m < len' := by rw [Nat.div_lt_iff_lt_mul hpos]; exact hj2
      have hjm : j % E.m < E.m := Nat.mod_lt _ hpos
      have hdm : j / E.m * E.m + j % E.m = j := by rw [Nat.mul_comm]; exact Nat.div_add_mod j E.m
      have hc := cE_at (E := E) (L := (List.range len').map f) (i := j / E.m) (by rw [hll]; exact hjd)
      have hat : atE E ((List.range len').map f) (j / E.m) = f (j / E.m) := by
        rw [atE_eq (by rw [hll]; exact hjd)]; simp
      rw [hat] at hc
      have hg : (E.f (f (j / E.m)))[j % E.m]? = some u := by
        rw [← hc, List.getElem?_take, if_pos hjm, List.getElem?_drop, hdm]; exact hj
      have := (hf (j / E.m) hjd).2 _ u hg
      rw [hdm, add_lit h3.1] at this
      exact this
    · obtain ⟨i, hi, rfl⟩ := List.mem_map.1 hs
      exact (hf i (by simpa using hi)).1
end
section
variable {H : Type} {enc : TypeId × Value → H} {W : World}
end
section
variable {H : Type} {enc : TypeId × Value → H} {W : World}
end
section
variable {H : Type} {enc : TypeId × Value → H} {W : World}
end
end Go.Proofs.YtcnmmnhlhenifaaGreat
namespace Go.Proofs.YtcnmmnhlhenifaaGreat
open Go.ChangeShapes Go.WideShapes Go.ChangeAt Go.RowKit Go.Joins Go.Deep
set_option maxRecDepth 100000
set_option linter.unusedSimpArgs false
set_option linter.unusedVariables false
def I64 (n : Int) : Prop := -9223372036854775808 ≤ n ∧ n ≤ 9223372036854775807
def Ed.I (x : Ed) : Prop := I64 x.f ∧ I64 x.t ∧ x.p.I
section
variable {P : Program} {t : TypeId} {α β γ : Type}
theorem opens_struct3 {f0 f1 f2 : Field} {f : α → List Value} {I : α → Prop} {g : β → List Value} {J : β → Prop} {h : γ → List Value} {K : γ → Prop} {m0 m1 m2 : Nat} (hu : P.underlying t = some (.struct #[f0, f1, f2])) (h0 : Opens P f0.type f I) (h1 : Opens P f1.type g J) (h2 : Opens P f2.type h K)
    (o0 : f0.offset = 0) (o1 : f1.offset = m0) (o2 : f2.offset = m0 + m1) (c0 : P.cellsOf f0.type = m0) (c1 : P.cellsOf f1.type = m1) (c2 : P.cellsOf f2.type = m2) (c : P.cellsOf t = m0 + m1 + m2) : Opens P t (fun p : α × β × γ => f p.1 ++ (g p.2.1 ++ h p.2.2)) (fun p => I p.1 ∧ J p.2.1 ∧ K p.2.2) := by
  intro H enc W base sp held fuel cs x hx
  obtain ⟨y0, y1, y2, n, _, hlen, hy0, hy1, hy2⟩ := trod_struct3 hu hx
  rw [o0, c0] at hy0
  rw [o1, c1] at hy1
  rw [o2, c2] at hy2
  obtain ⟨a, ha, hI⟩ := h0 hy0
  obtain ⟨b, hb, hJ⟩ := h1 hy1
  obtain ⟨d, hd, hK⟩ := h2 hy2
  refine ⟨(a, b, d), ?_, hI, hJ, hK⟩
  show cs = f a ++ (g b ++ h d)
  rw [← ha, ← hb, ← hd, List.drop_zero, List.take_of_length_le (l := cs.drop (m0 + m1)) (by rw [List.length_drop, hlen, c]; omega), ← List.drop_drop, List.take_append_drop, List.take_append_drop]
theorem openE1 {H : Type} {enc : TypeId × Value → H} {W : World} {e : TypeId} (E : Enc α) {I : α → Prop} (hut : P.underlying t = some (.slice e)) (hC : P.cellsOf e = E.m) (hpos : 0 < E.m) (ho : Opens P e E.f I) {fuel : Nat} {cs : List Value} {x : DataW H × List MemPlace} (hf : DataW.trod enc P W 0 (fun _ => true) true fuel t cs = some x) :
    ∃ (v : Value) (L : List α), cs = [v] ∧ RdV W E.m v L.length (cE E L) ∧ ∀ s ∈ L, I s := by
  rcases open_slice hut hf with ⟨hcs, _⟩ | ⟨a, len', cap', m, n, D, Pl, hcs, _, hl, hm, hmm, _, hel⟩
  · exact ⟨_, [], hcs, ⟨by simp [cE], none, 0, rfl, Nat.le_refl _, Nat.zero_le _, fun h => absurd h (by simp)⟩, by simp⟩
  · have hel2 : ∀ i, i < len' → ∃ s : α, I s ∧ ∀ j u, (E.f s)[j]? = some u → W.cell? (a.add (i * E.m + j)) = some u := fun i hil => by
      obtain ⟨cs', hc, htr⟩ := hel i (by rw [hmm]; split <;> omega)
      rw [hC] at hc
      obtain ⟨s, hs, hI⟩ := ho htr
      subst hs
      refine ⟨s, hI, fun j u hj => ?_⟩
      have := cells_at hc j u hj
      rwa [add_add] at this
    obtain ⟨f, hf⟩ : ∃ f : Nat → α, ∀ i, i < len' → I (f i) ∧ ∀ j u, (E.f (f i))[j]? = some u → W.cell? (a.add (i * E.m + j)) = some u := by
      refine ⟨fun i => if hi : i < len' then Classical.choose (hel2 i hi) else E.z, fun i hi => ?_⟩
      simp only [hi, dif_pos]
      exact Classical.choose_spec (hel2 i hi)
    refine ⟨_, (List.range len').map f, hcs, ?_, fun s hs => ?_⟩
    · have hll : ((List.range len').map f).length = len' := by simp
      rw [hll]
      refine ⟨by rw [cE_len, hll], some a, cap', rfl, hl, hm, fun hp => ?_⟩
      have hx0 : ∃ u, (E.f (f 0))[0]? = some u := ⟨(E.f (f 0))[0]'(by rw [E.len]; exact hpos), List.getElem?_eq_getElem _⟩
      obtain ⟨u0, hu0⟩ := hx0
      have h3 := cell_spot ((hf 0 hp).2 0 u0 hu0)
      rw [show a.add (0 * E.m + 0) = a from by simp [Addr.add]] at h3
      refine ⟨a.block, a.off, by cases a; simp_all, h3.2, fun j u hj => ?_⟩
      have hj2 : j < len' * E.m := by
        have := (List.getElem?_eq_some_iff.1 hj).1
        rw [cE_len, hll] at this; exact this
      have hjd : j / E.m < len' := by rw [Nat.div_lt_iff_lt_mul hpos]; exact hj2
      have hjm : j % E.m < E.m := Nat.mod_lt _ hpos
      have hdm : j / E.m * E.m + j % E.m = j := by rw [Nat.mul_comm]; exact Nat.div_add_mod j E.m
      have hc := cE_at (E := E) (L := (List.range len').map f) (i := j / E.m) (by rw [hll]; exact hjd)
      have hat : atE E ((List.range len').map f) (j / E.m) = f (j / E.m) := by
        rw [atE_eq (by rw [hll]; exact hjd)]; simp
      rw [hat] at hc
      have hg : (E.f (f (j / E.m)))[j % E.m]? = some u := by
        rw [← hc, List.getElem?_take, if_pos hjm, List.getElem?_drop, hdm]; exact hj
      have := (hf (j / E.m) hjd).2 _ u hg
      rw [hdm, add_lit h3.1] at this
      exact this
    · obtain ⟨i, hi, rfl⟩ := List.mem_map.1 hs
      exact (hf i (by simpa using hi)).1
end
theorem opensEd : Opens Tryz.prog 79 encG.f Ed.I := by
  intro H enc W base sp held fuel cs x hx
  obtain ⟨p, hp, hI⟩ := opens_struct3 (m0 := 1) (m1 := 1) (m2 := 2) Tryz.underlying79 (opens_int Tryz.underlying3) (opens_int Tryz.underlying3) (opens_pair Tryz.underlying77 (by kernel_rfl) (by kernel_rfl) rfl rfl Tryz.underlying3) rfl rfl rfl (by kernel_rfl) (by kernel_rfl) (by kernel_rfl) (by kernel_rfl) hx
  exact ⟨⟨p.1, p.2.1, p.2.2⟩, hp, hI⟩
section
variable {H : Type} {enc : TypeId × Value → H} {W : World}
theorem openGr {v : Value} {d : DataW H} {ps : List MemPlace} {base : Nat} (hval : Value.okWide Tryz.prog W .any base 24 v) (h : DataW.Trod enc Tryz.prog W 0 (fun _ => true) true 24 v d ps) :
    ∃ (n : Int) (ev : Value) (E : List Ed), v = .agg #[.int .i64 n, ev] ∧ I64 n ∧ RdG W ev E ∧ ∀ x ∈ E, x.I := by
  obtain ⟨cs, rfl, hsz⟩ := okWide_struct Tryz.underlying24 hval
  obtain ⟨fuel, hf⟩ := h
  obtain ⟨y0, y1, k, _, hlen, hy0, hy1⟩ := trod_struct2 Tryz.underlying24 hf
  obtain ⟨n, hn, hI⟩ := opens_int Tryz.underlying3 hy0
  obtain ⟨ev, E, he, hr, hE⟩ := openE1 encG Tryz.underlying22 (by kernel_rfl) (by decide) opensEd hy1
  refine ⟨n, ev, E, ?_, hI, hr, hE⟩
  have hc : Tryz.prog.cellsOf 24 = 2 := by kernel_rfl
  have hc0 : Tryz.prog.cellsOf 3 = 1 := by kernel_rfl
  have hc1 : Tryz.prog.cellsOf 22 = 1 := by kernel_rfl
  have hl : cs.toList.length = 2 := by rw [← hc]; exact hlen
  have h0 : (cs.toList.drop 0).take 1 = [.int .i64 n] := by rw [← hc0]; exact hn
  have h1 : (cs.toList.drop 1).take 1 = [ev] := by rw [← hc1]; exact he
  congr 1
  apply Array.ext'
  match hq : cs.toList, hl with
  | [a, b], _ =>
    rw [hq] at h0 h1
    simp at h0 h1
    rw [h0, h1]
end
theorem rdGr : Tryz.prog.readableRec 24 = true ∧ 24 < Tryz.prog.types.size := ⟨by kernel_rfl, of_decide_eq_true (by kernel_rfl)⟩
end Go.Proofs.YtcnmmnhlhenifaaGreat
namespace Go.Proofs.YtcnmmnhlhenifaaGreat
open Go.ChangeShapes Go.WideShapes Go.ChangeAt Go.RowKit Go.Joins Go.Deep
set_option maxRecDepth 100000
set_option linter.unusedSimpArgs false
set_option linter.unusedVariables false
section
variable {P : Program} {t e : TypeId} {α : Type}
theorem opens_u8 (h : P.underlying t = some (.int .u8)) : Opens P t (fun b : UInt8 => [.int .u8 (u8 b)]) (fun _ => True) := by
  intro H enc W base sp held fuel cs x hx
  obtain ⟨z, e, _, w⟩ := DataW.trod_int h hx
  have hz := wf8 w
  refine ⟨byteU z, ?_, trivial⟩
  rw [e]
  show [Value.int .u8 z] = [Value.int .u8 (u8 (byteU z))]
  rw [u8_byte, show z % 256 = z by omega]
theorem chunksU {f : α → List Value} {I : α → Prop} {m : Nat} (hm : ∀ a, (f a).length = m) : ∀ (n : Nat) (cs : List Value), cs.length = n * m → (∀ i, i < n → ∃ a, (cs.drop (i * m)).take m = f a ∧ I a) → ∃ L : List α, L.length = n ∧ cs = L.flatMap f ∧ ∀ a ∈ L, I a
  | 0, cs, hl, _ => ⟨[], rfl, by simpa using hl, fun a ha => by cases ha⟩
  | n + 1, cs, hl, h => by
    obtain ⟨a, ha, hI⟩ := h 0 (by omega)
    rw [Nat.zero_mul, List.drop_zero] at ha
    obtain ⟨L, h1, h2, h3⟩ := chunksU hm n (cs.drop m) (by rw [List.length_drop, hl, Nat.add_mul]; omega) fun i hi => by
      have := h (i + 1) (by omega)
      rwa [show (i + 1) * m = m + i * m by rw [Nat.add_mul]; omega, ← List.drop_drop] at this
    refine ⟨a :: L, by simp [h1], ?_, fun b hb => ?_⟩
    · rw [List.flatMap_cons, ← ha, ← h2, List.take_append_drop]
    · rcases List.mem_cons.1 hb with rfl | hb
      · exact hI
      · exact h3 b hb
theorem opens_array {n m : Nat} {f : α → List Value} {I : α → Prop} (hm : ∀ a, (f a).length = m) (hua : P.underlying t = some (.array n e)) (hC : P.cellsOf e = m) (hCa : P.cellsOf t = n * m) (ho : Opens P e f I) : Opens P t (fun L : List α => L.flatMap f) (fun L => L.length = n ∧ ∀ a ∈ L, I a) := by
  intro H enc W base sp held fuel cs x hx
  obtain ⟨xs, q, _, _, hl, hlen, heach⟩ := DataW.trod_array hua hx
  obtain ⟨L, h1, h2, h3⟩ := chunksU (I := I) hm n cs (by rw [hl, hCa]) fun i hi => by
    have e0 := heach i hi
    rw [hC, List.getElem?_eq_getElem (by omega)] at e0
    obtain ⟨a, ha, hI⟩ := ho e0
    exact ⟨a, ha, hI⟩
  exact ⟨L, h2, h1, h3⟩
theorem flatU : ∀ L : List UInt8, L.flatMap (fun b => [Value.int .u8 (u8 b)]) = L.map fun b => .int .u8 (u8 b)
  | [] => rfl
  | b :: L => by rw [List.flatMap_cons, flatU L]; rfl
theorem opens_32 (hua : P.underlying t = some (.array 32 e)) (he : P.underlying e = some (.int .u8)) (hC : P.cellsOf e = 1) (hCa : P.cellsOf t = 32 * 1) : Opens P t l32 (fun _ => True) := by
  intro H enc W base sp held fuel cs x hx
  obtain ⟨L, hL, hn, _⟩ := opens_array (m := 1) (f := fun b : UInt8 => [Value.int .u8 (u8 b)]) (fun _ => rfl) hua hC hCa (opens_u8 he) hx
  refine ⟨⟨L, hn⟩, ?_, trivial⟩
  rw [l32_eq, cU_map, hL]
  show L.flatMap (fun b => [Value.int .u8 (u8 b)]) = L.map fun b => .int .u8 (u8 b)
  exact flatU _
theorem field_at {fs : Array Field} (hu : P.underlying t = some (.struct fs)) {H : Type} {enc : TypeId × Value → H} {W : World} {base : Nat} {sp : Nat → Bool} {held : Bool} {fuel : Nat} {cs : List Value} {x : DataW H × List MemPlace} (hx : DataW.trod enc P W base sp held fuel t cs = some x) {i : Nat} {f : Field} (hf : fs[i]? = some f) {g : α → List Value} {I : α → Prop} (o m : Nat) (ho : Opens P f.type g I) (h1 : f.offset = o) (h2 : P.cellsOf f.type = m) :
    ∃ a, (cs.drop o).take m = g a ∧ I a := by
  obtain ⟨xs, n, _, _, _, hlen, hall⟩ := DataW.trod_struct hu hx
  have h3 := hall i f hf
  have hi : i < xs.length := by rw [hlen]; exact (Array.getElem?_eq_some_iff.1 hf).1
  rw [List.getElem?_eq_getElem hi, h1, h2] at h3
  exact ho h3
theorem cut_step (cs : List Value) (o m : Nat) {X : List Value} (h : (cs.drop o).take m = X) : cs.drop o = X ++ cs.drop (o + m) := by
  rw [← h, ← List.drop_drop, List.take_append_drop]
end
theorem oi9 : Opens Tryz.prog 3 (fun n : Int => [.int .i64 n]) (fun n => -9223372036854775808 ≤ n ∧ n ≤ 9223372036854775807) := opens_int Tryz.underlying3
theorem opensPt : Opens Tryz.prog 39 (fun p : Po => [.int .i64 p.n, .int .i64 p.t.e, .int .i64 p.t.r]) (fun _ => True) := by
  intro H enc W base sp held fuel cs x hx
  obtain ⟨p, hp, _⟩ := opens_struct2 (m0 := 1) (m1 := 2) Tryz.underlying39 (opens_int Tryz.underlying3) (opens_pair Tryz.underlying37 (by kernel_rfl) (by kernel_rfl) rfl rfl Tryz.underlying3) (by kernel_rfl) hx
  exact ⟨⟨p.1, p.2⟩, hp, trivial⟩
theorem opensEn : Opens Tryz.prog 41 cEn (fun _ => True) := by
  intro H enc W base sp held fuel cs x hx
  have hu := Tryz.underlying41
  obtain ⟨xs, n, _, _, hl, _, _⟩ := DataW.trod_struct hu hx
  rw [show Tryz.prog.cellsOf 41 = 40 by kernel_rfl] at hl
  obtain ⟨a0, h0, _⟩ := field_at hu hx (i := 0) rfl 0 1 oi9 rfl (by kernel_rfl)
  obtain ⟨a1, h1, _⟩ := field_at hu hx (i := 1) rfl 1 32 (opens_32 Tryz.underlying35 Tryz.underlying5 (by kernel_rfl) (by kernel_rfl)) rfl (by kernel_rfl)
  obtain ⟨a2, h2, _⟩ := field_at hu hx (i := 2) rfl 33 1 oi9 rfl (by kernel_rfl)
  obtain ⟨a3, h3, _⟩ := field_at hu hx (i := 3) rfl 34 3 opensPt rfl (by kernel_rfl)
  obtain ⟨a4, h4, _⟩ := field_at hu hx (i := 4) rfl 37 1 oi9 rfl (by kernel_rfl)
  obtain ⟨a5, h5, _⟩ := field_at hu hx (i := 5) rfl 38 1 oi9 rfl (by kernel_rfl)
  obtain ⟨a6, h6, _⟩ := field_at hu hx (i := 6) rfl 39 1 oi9 rfl (by kernel_rfl)
  refine ⟨⟨a0, a1, a2, a3, a4, a5, a6⟩, ?_, trivial⟩
  have hc : cs = cs.drop 0 := List.drop_zero.symm
  rw [hc, cut_step cs 0 1 h0, cut_step cs 1 32 h1, cut_step cs 33 1 h2, cut_step cs 34 3 h3, cut_step cs 37 1 h4, cut_step cs 38 1 h5, cut_step cs 39 1 h6, List.drop_eq_nil_of_le (by omega), List.append_nil]
  rfl
section
variable {H : Type} {enc : TypeId × Value → H} {W : World}
end
section
variable {H : Type} {enc : TypeId × Value → H} {W : World}
theorem openNL {v : Value} {d : DataW H} {ps : List MemPlace} {base : Nat} (hval : Value.okWide Tryz.prog W .any base 25 v) (h : DataW.Trod enc Tryz.prog W 0 (fun _ => true) true 25 v d ps) :
    ∃ L : List En, RdN W v L ∧ True := by
  obtain ⟨L, hl, _⟩ := openE encN Tryz.underlying25 (by kernel_rfl) (by decide) opensEn hval h
  exact ⟨L, hl, trivial⟩
end
theorem rdNL : Tryz.prog.readableRec 25 = true ∧ 25 < Tryz.prog.types.size := ⟨by kernel_rfl, of_decide_eq_true (by kernel_rfl)⟩
section
variable {H : Type} {enc : TypeId × Value → H} {W : World}
end
section
variable {H : Type} {enc : TypeId × Value → H} {W : World}
end
end Go.Proofs.YtcnmmnhlhenifaaGreat
namespace Go.Proofs.YtcnmmnhlhenifaaGreat
open Go.RowKit
set_option maxRecDepth 100000
set_option linter.unusedSimpArgs false
set_option linter.unusedVariables false
theorem eqS37 (a b : St) (w : World) : (Op.equalIn 10000 37 (.agg #[.int .i64 a.e, .int .i64 a.r]) (.agg #[.int .i64 b.e, .int .i64 b.r])).run Tryz.prog w = .ok (decide (a = b)) w := by
  have h : decide (a = b) = (decide (a.e = b.e) && decide (a.r = b.r)) := by
    rw [Bool.eq_iff_iff]; simp [St.eq_iff]
  rw [h]; simp [go_sem]; (repeat' split); (all_goals simp_all)
theorem eqS77 (a b : St) (w : World) : (Op.equalIn 10000 77 (.agg #[.int .i64 a.e, .int .i64 a.r]) (.agg #[.int .i64 b.e, .int .i64 b.r])).run Tryz.prog w = .ok (decide (a = b)) w := by
  have h : decide (a = b) = (decide (a.e = b.e) && decide (a.r = b.r)) := by
    rw [Bool.eq_iff_iff]; simp [St.eq_iff]
  rw [h]; simp [go_sem]; (repeat' split); (all_goals simp_all)
set_option maxHeartbeats 400000 in
theorem partR_any (n : Int) (w : World) :
    Calls Tryz.prog 103 #[.int .i64 n] w fun e w' => e = .returned (.bool (inB n)) ∧ Below w.heap.size w w' := by
  refine enterF Tryz.func103 rfl 9 Tryz.ntmps103 [.int .i64 n] rfl [(0, .int .i64 n)] rfl ?_; intro φ F; have M := Mm.start [] w; revert φ; refine srG ?_; refine asG ?_; refine nxG ?_; refine srG ?_; refine mvG ?_; refine leG ?_; refine mvG ?_; intro φ F; cases hs1 : (decide (0 ≤ n))
  · rw [hs1] at F; revert φ; refine skG ?_; refine skG ?_; refine pkF ?_; refine asG ?_; intro φ F; refine nx ?_; refine wp_ret ?_; refine rt_tmp F rfl rfl ?_; exact ⟨by unfold inB; simp_all; try omega, M.bel⟩
  · rw [hs1] at F; revert φ; refine mvG ?_; refine leG ?_; refine pkT ?_; refine asG ?_; intro φ F; refine nx ?_; refine wp_ret ?_; refine rt_tmp F rfl rfl ?_; exact ⟨by unfold inB; simp_all; try omega, M.bel⟩
set_option maxHeartbeats 400000 in
theorem right_any (a : St) (w : World) :
    Calls Tryz.prog 79 #[.agg #[.int .i64 a.e, .int .i64 a.r]] w fun e w' => e = .returned (.bool a.rightB) ∧ Below w.heap.size w w' := by
  refine enterF Tryz.func79 rfl 11 Tryz.ntmps79 [.agg #[.int .i64 a.e, .int .i64 a.r]] rfl [(0, .agg #[.int .i64 a.e, .int .i64 a.r])] rfl ?_; intro φ F; have M := Mm.start [] w; refine wp_seq ?_; refine wp_region_lit ?_; refine sq_box F M (wt0 rfl) rfl (F.ev rfl) (cs := #[.int .i64 a.e, .int .i64 a.r]) rfl rfl rfl ?_; clear F M; intro φ ω g1 F M; revert φ; refine asG ?_; refine nxG ?_; refine srG ?_; refine faG fo37_0 ?_; refine lcG M one3 (r := 0) rfl ?_; intro φ F; refine sq_call F M (wt0 rfl) rfl en103 (evc (F.ev rfl) evn) (partR_any a.e _) rfl rfl ?_; clear F M; intro φ ω F M; revert φ; refine mvG ?_; intro φ F; cases hs1 : (inB a.e)
  · rw [hs1] at F; revert φ; refine skG ?_; refine skG ?_; refine skG ?_; refine pkF ?_; refine asG ?_; intro φ F; refine nx ?_; refine wp_ret ?_; refine rt_tmp F rfl rfl ?_; exact ⟨by unfold St.rightB; simp_all, M.bel⟩
  · rw [hs1] at F; revert φ; refine faG fo37_1 ?_; refine lcG M one3 (r := 0) rfl ?_; intro φ F; refine sq_call F M (wt1 F rfl rfl rfl rfl rfl) rfl en103 (evc (F.ev rfl) evn) (partR_any a.r _) rfl rfl ?_; clear F M; intro φ ω F M; revert φ; refine pkT ?_; refine asG ?_; intro φ F; refine nx ?_; refine wp_ret ?_; refine rt_tmp F rfl rfl ?_; exact ⟨by unfold St.rightB; simp_all, M.bel⟩
set_option maxHeartbeats 400000 in
theorem meet_any (a b : St) (w : World) :
    Calls Tryz.prog 119 #[.agg #[.int .i64 a.e, .int .i64 a.r], .agg #[.int .i64 b.e, .int .i64 b.r]] w fun e w' => e = .returned (.agg #[.int .i64 ((a.meet b).e), .int .i64 ((a.meet b).r)]) ∧ Below w.heap.size w w' := by
  refine enterF Tryz.func119 rfl 16 Tryz.ntmps119 [.agg #[.int .i64 a.e, .int .i64 a.r], .agg #[.int .i64 b.e, .int .i64 b.r]] rfl [(0, .agg #[.int .i64 a.e, .int .i64 a.r]), (1, .agg #[.int .i64 b.e, .int .i64 b.r])] rfl ?_; intro φ F; have M := Mm.start [] w; refine wp_seq ?_; refine wp_region_lit ?_; refine sq_box F M (wt0 rfl) rfl (F.ev rfl) (cs := #[.int .i64 a.e, .int .i64 a.r]) rfl rfl rfl ?_; clear F M; intro φ ω g1 F M; refine sq_box F M (wt0 rfl) rfl (F.ev rfl) (cs := #[.int .i64 b.e, .int .i64 b.r]) rfl rfl rfl ?_; clear F M; intro φ ω g2 F M; refine sq_alloc F M (wt0 rfl) rfl z37 rfl rfl ?_; clear F M; intro φ ω g3 F M; refine nx ?_; revert φ; refine srG ?_; refine faG fo37_0 ?_; refine lcG M one3 (r := 2) rfl ?_; refine faG fo37_0 ?_; refine lcG M one3 (r := 1) rfl ?_; refine puG (fun _ F => pu_min rfl (F.ev rfl) (F.ev rfl)) ?_; refine faG fo37_1 ?_; refine lcG M one3 (r := 2) rfl ?_; refine faG fo37_1 ?_; refine lcG M one3 (r := 1) rfl ?_; refine puG (fun _ F => pu_min rfl (F.ev rfl) (F.ev rfl)) ?_; refine puG (fun _ F => bu37_0_1 rfl (F.ev rfl) (F.ev rfl)) ?_; intro φ F; refine sq_stA F M (wt0 rfl) rfl (F.ev rfl) (F.ev rfl) (i := 0) rfl agg37 rfl rfl rfl rfl ?_; clear M; intro ω M; refine nx ?_; refine wp_ret ?_; refine rt_cell F M rfl rfl (i := 0) rfl agg37 rfl ?_; exact ⟨rfl, M.bel⟩
theorem meet_eq (a b : St) : decide (a.meet b = a) = a.leB b := by
  rw [Bool.eq_iff_iff, St.le_iff]; simp [St.eq_iff, St.meet]; omega
set_option maxHeartbeats 400000 in
theorem le_any (a b : St) (w : World) :
    Calls Tryz.prog 97 #[.agg #[.int .i64 a.e, .int .i64 a.r], .agg #[.int .i64 b.e, .int .i64 b.r]] w fun e w' => e = .returned (.bool (a.leB b)) ∧ Below w.heap.size w w' := by
  refine enterF Tryz.func97 rfl 10 Tryz.ntmps97 [.agg #[.int .i64 a.e, .int .i64 a.r], .agg #[.int .i64 b.e, .int .i64 b.r]] rfl [(0, .agg #[.int .i64 a.e, .int .i64 a.r]), (1, .agg #[.int .i64 b.e, .int .i64 b.r])] rfl ?_; intro φ F; have M := Mm.start [] w; refine wp_seq ?_; refine wp_region_lit ?_; refine sq_box F M (wt0 rfl) rfl (F.ev rfl) (cs := #[.int .i64 a.e, .int .i64 a.r]) rfl rfl rfl ?_; clear F M; intro φ ω g1 F M; refine sq_box F M (wt0 rfl) rfl (F.ev rfl) (cs := #[.int .i64 b.e, .int .i64 b.r]) rfl rfl rfl ?_; clear F M; intro φ ω g2 F M; revert φ; refine asG ?_; intro φ F; refine nx ?_; refine wp_seq ?_; refine rg_quiet M mixedOK (by kernel_rfl) ?_; refine qt_rd F (wt0 rfl) (ld_agg rfl (F.ev rfl) agg37 (M.rdB (i := 1) rfl) rfl) rfl rfl ?_; clear F; intro φ F; refine qt_rd F (wt0 rfl) (ld_agg rfl (F.ev rfl) agg37 (M.rdB (i := 0) rfl) rfl) rfl rfl ?_; clear F; intro φ F; refine qt_call F (wt0 rfl) rfl en119 (evc (F.ev rfl) (evc (F.ev rfl) evn)) (fun w' h => calls_below h (meet_any a b w')) rfl rfl ?_; clear F; intro φ F; refine qt_rd F (wt0 rfl) (ld_agg rfl (F.ev rfl) agg37 (M.rdB (i := 1) rfl) rfl) rfl rfl ?_; clear F; intro φ F; refine qt_pure F (wt0 rfl) (pu_eqlA rfl (F.ev rfl) (F.ev rfl) eqg37 (fun w => eqS37 (a.meet b) a w)) rfl rfl ?_; clear F; intro φ F; refine qt_pure F (wt0 rfl) (pu_assign rfl (F.ev rfl)) rfl rfl ?_; clear F; intro φ F; refine wpQuiet_nil ?_; clear M; intro ω M; refine nxq ?_; refine wp_ret ?_; refine rt_tmp F rfl rfl ?_; exact ⟨by rw [meet_eq], M.bel⟩
set_option maxHeartbeats 400000 in
theorem cmp_any (a b : St) (w : World) :
    Calls Tryz.prog 106 #[.agg #[.int .i64 a.e, .int .i64 a.r], .agg #[.int .i64 b.e, .int .i64 b.r]] w fun e w' => e = .returned (.int .i64 (a.cmp b)) ∧ Below w.heap.size w w' := by
  refine enterF Tryz.func106 rfl 27 Tryz.ntmps106 [.agg #[.int .i64 a.e, .int .i64 a.r], .agg #[.int .i64 b.e, .int .i64 b.r]] rfl [(0, .agg #[.int .i64 a.e, .int .i64 a.r]), (1, .agg #[.int .i64 b.e, .int .i64 b.r])] rfl ?_; intro φ F; have M := Mm.start [] w; refine wp_seq ?_; refine wp_region_lit ?_; refine sq_box F M (wt0 rfl) rfl (F.ev rfl) (cs := #[.int .i64 a.e, .int .i64 a.r]) rfl rfl rfl ?_; clear F M; intro φ ω g1 F M; refine sq_box F M (wt0 rfl) rfl (F.ev rfl) (cs := #[.int .i64 b.e, .int .i64 b.r]) rfl rfl rfl ?_; clear F M; intro φ ω g2 F M; revert φ; refine asG ?_; intro φ F; refine nx ?_; refine wp_seq ?_; revert φ; refine srG ?_; refine rdG (fun _ F => ld_agg rfl (F.ev rfl) agg37 (M.rd (i := 1) rfl) rfl) ?_; refine rdG (fun _ F => ld_agg rfl (F.ev rfl) agg37 (M.rd (i := 0) rfl) rfl) ?_; refine puG (fun _ F => pu_eqlA rfl (F.ev rfl) (F.ev rfl) eqg37 (fun w => eqS37 a b w)) ?_; intro φ F; refine nx ?_; cases hs1 : (decide (a = b))
  · rw [hs1] at F; refine wp_cond_false (F.ev rfl) ?_; refine wp_skip ?_; refine nxq ?_; refine wp_seq ?_; revert φ; refine srG ?_; refine faG fo37_0 ?_; refine lcG M one3 (r := 1) rfl ?_; refine faG fo37_0 ?_; refine lcG M one3 (r := 0) rfl ?_; refine lsG ?_; refine mvG ?_; intro φ F; cases hs2 : (decide (a.e < b.e))
    · rw [hs2] at F; revert φ; refine faG fo37_0 ?_; refine lcG M one3 (r := 1) rfl ?_; refine faG fo37_0 ?_; refine lcG M one3 (r := 0) rfl ?_; refine eqG ?_; refine mvG ?_; intro φ F; cases hs3 : (decide (a.e = b.e))
      · rw [hs3] at F; revert φ; refine skG ?_; refine skG ?_; refine skG ?_; refine skG ?_; refine skG ?_; refine pkF ?_; refine pkF ?_; intro φ F; refine nx ?_; refine wp_cond_false (F.ev rfl) ?_; refine wp_skip ?_; refine nxq ?_; revert φ; refine srG ?_; refine asG ?_; intro φ F; refine nx ?_; refine wp_ret ?_; refine rt_tmp F rfl rfl ?_; exact ⟨by unfold St.cmp St.aheadB; simp_all; try omega, M.bel⟩
      · rw [hs3] at F; revert φ; refine faG fo37_1 ?_; refine lcG M one3 (r := 1) rfl ?_; refine faG fo37_1 ?_; refine lcG M one3 (r := 0) rfl ?_; refine lsG ?_; refine pkT ?_; refine pkF ?_; intro φ F; refine nx ?_; cases hs4 : (decide (a.r < b.r))
        · rw [hs4] at F; refine wp_cond_false (F.ev rfl) ?_; refine wp_skip ?_; refine nxq ?_; revert φ; refine srG ?_; refine asG ?_; intro φ F; refine nx ?_; refine wp_ret ?_; refine rt_tmp F rfl rfl ?_; exact ⟨by unfold St.cmp St.aheadB; simp_all; try omega, M.bel⟩
        · rw [hs4] at F; refine wp_cond_true (F.ev rfl) ?_; revert φ; refine srG ?_; refine asG ?_; intro φ F; refine nx ?_; refine wp_ret ?_; refine nxr ?_; refine rt_tmp F rfl rfl ?_; exact ⟨by unfold St.cmp St.aheadB; simp_all; try omega, M.bel⟩
    · rw [hs2] at F; revert φ; refine skG ?_; refine skG ?_; refine skG ?_; refine skG ?_; refine skG ?_; refine skG ?_; refine skG ?_; refine skG ?_; refine skG ?_; refine skG ?_; refine skG ?_; refine skG ?_; refine pkT ?_; intro φ F; refine nx ?_; refine wp_cond_true (F.ev rfl) ?_; revert φ; refine srG ?_; refine asG ?_; intro φ F; refine nx ?_; refine wp_ret ?_; refine nxr ?_; refine rt_tmp F rfl rfl ?_; exact ⟨by unfold St.cmp St.aheadB; simp_all; try omega, M.bel⟩
  · rw [hs1] at F; refine wp_cond_true (F.ev rfl) ?_; revert φ; refine srG ?_; refine asG ?_; intro φ F; refine nx ?_; refine wp_ret ?_; refine nxr ?_; refine rt_tmp F rfl rfl ?_; exact ⟨by unfold St.cmp St.aheadB; simp_all; try omega, M.bel⟩
set_option maxHeartbeats 400000 in
theorem after_any (t p : St) (w : World) :
    Calls Tryz.prog 96 #[.agg #[.int .i64 t.e, .int .i64 t.r], .agg #[.int .i64 p.e, .int .i64 p.r]] w fun e w' => e = .returned (.tuple #[.agg #[.int .i64 ((t.after p).e), .int .i64 ((t.after p).r)], .bool (t.afterB p)]) ∧ Below w.heap.size w w' := by
  refine enterF Tryz.func96 rfl 39 Tryz.ntmps96 [.agg #[.int .i64 t.e, .int .i64 t.r], .agg #[.int .i64 p.e, .int .i64 p.r]] rfl [(0, .agg #[.int .i64 t.e, .int .i64 t.r]), (1, .agg #[.int .i64 p.e, .int .i64 p.r])] rfl ?_; intro φ F; have M := Mm.start [] w; refine wp_seq ?_; refine wp_region_lit ?_; refine sq_box F M (wt0 rfl) rfl (F.ev rfl) (cs := #[.int .i64 t.e, .int .i64 t.r]) rfl rfl rfl ?_; clear F M; intro φ ω g1 F M; refine sq_box F M (wt0 rfl) rfl (F.ev rfl) (cs := #[.int .i64 p.e, .int .i64 p.r]) rfl rfl rfl ?_; clear F M; intro φ ω g2 F M; refine sq_alloc F M (wt0 rfl) rfl z37 rfl rfl ?_; clear F M; intro φ ω g3 F M; revert φ; refine asG ?_; intro φ F; refine nx ?_; refine wp_seq ?_; revert φ; refine srG ?_; refine rdG (fun _ F => ld_agg rfl (F.ev rfl) agg37 (M.rd (i := 2) rfl) rfl) ?_; intro φ F; refine sq_call F M (wt0 rfl) rfl en79 (evc (F.ev rfl) evn) (right_any t _) rfl rfl ?_; clear F M; intro φ ω F M; cases hs1 : t.rightB
  · rw [hs1] at F; have hs1i := right_f hs1; (try dsimp only at hs1i); revert φ; refine puG (fun _ F => pu_not rfl (F.ev rfl)) ?_; intro φ F; rw [show (!false) = true from rfl] at F; revert φ; refine mvG ?_; refine skG ?_; refine skG ?_; refine skG ?_; refine skG ?_; refine pkT ?_; refine mvG ?_; refine skG ?_; refine skG ?_; refine skG ?_; refine skG ?_; refine pkT ?_; intro φ F; refine nx ?_; refine wp_cond_true (F.ev rfl) ?_; revert φ; refine srG ?_; refine puG (fun _ F => bu37_ rfl) ?_; intro φ F; refine sq_stA F M (wt0 rfl) rfl (F.ev rfl) (F.ev rfl) (i := 0) rfl agg37 rfl rfl rfl rfl ?_; clear M; intro ω M; revert φ; refine asG ?_; intro φ F; refine nx ?_; refine wp_ret ?_; refine nxr ?_; refine rt_cell_tmp F M rfl rfl rfl (i := 0) rfl agg37 rfl ?_; have hz : t.afterB p = false := by rw [← Bool.not_eq_true, after_iff]; omega
    refine ⟨?_, M.bel⟩; rw [after_no hz, hz]; rfl
  · rw [hs1] at F; have hs1i := right_t hs1; (try dsimp only at hs1i); revert φ; refine puG (fun _ F => pu_not rfl (F.ev rfl)) ?_; intro φ F; rw [show (!true) = false from rfl] at F; revert φ; refine mvG ?_; refine faG fo77_0 ?_; refine lcG M one3 (r := 1) rfl ?_; intro φ F; refine sq_call F M (wt1 F rfl rfl rfl rfl rfl) rfl en103 (evc (F.ev rfl) evn) (partR_any p.e _) rfl rfl ?_; clear F M; intro φ ω F M; cases hs2 : (inB p.e)
    · rw [hs2] at F; have hs2i := in_f hs2; (try dsimp only at hs2i); revert φ; refine puG (fun _ F => pu_not rfl (F.ev rfl)) ?_; intro φ F; rw [show (!false) = true from rfl] at F; revert φ; refine pkF ?_; refine mvG ?_; refine skG ?_; refine skG ?_; refine skG ?_; refine skG ?_; refine pkT ?_; intro φ F; refine nx ?_; refine wp_cond_true (F.ev rfl) ?_; revert φ; refine srG ?_; refine puG (fun _ F => bu37_ rfl) ?_; intro φ F; refine sq_stA F M (wt0 rfl) rfl (F.ev rfl) (F.ev rfl) (i := 0) rfl agg37 rfl rfl rfl rfl ?_; clear M; intro ω M; revert φ; refine asG ?_; intro φ F; refine nx ?_; refine wp_ret ?_; refine nxr ?_; refine rt_cell_tmp F M rfl rfl rfl (i := 0) rfl agg37 rfl ?_; have hz : t.afterB p = false := by rw [← Bool.not_eq_true, after_iff]; omega
      refine ⟨?_, M.bel⟩; rw [after_no hz, hz]; rfl
    · rw [hs2] at F; have hs2i := in_t hs2; (try dsimp only at hs2i); revert φ; refine puG (fun _ F => pu_not rfl (F.ev rfl)) ?_; intro φ F; rw [show (!true) = false from rfl] at F; revert φ; refine pkF ?_; refine mvG ?_; refine faG fo77_1 ?_; refine lcG M one3 (r := 1) rfl ?_; intro φ F; refine sq_call F M (wt1 F rfl rfl rfl rfl rfl) rfl en103 (evc (F.ev rfl) evn) (partR_any p.r _) rfl rfl ?_; clear F M; intro φ ω F M; cases hs3 : (inB p.r)
      · rw [hs3] at F; have hs3i := in_f hs3; (try dsimp only at hs3i); revert φ; refine puG (fun _ F => pu_not rfl (F.ev rfl)) ?_; intro φ F; rw [show (!false) = true from rfl] at F; revert φ; refine pkF ?_; intro φ F; refine nx ?_; refine wp_cond_true (F.ev rfl) ?_; revert φ; refine srG ?_; refine puG (fun _ F => bu37_ rfl) ?_; intro φ F; refine sq_stA F M (wt0 rfl) rfl (F.ev rfl) (F.ev rfl) (i := 0) rfl agg37 rfl rfl rfl rfl ?_; clear M; intro ω M; revert φ; refine asG ?_; intro φ F; refine nx ?_; refine wp_ret ?_; refine nxr ?_; refine rt_cell_tmp F M rfl rfl rfl (i := 0) rfl agg37 rfl ?_; have hz : t.afterB p = false := by rw [← Bool.not_eq_true, after_iff]; omega
        refine ⟨?_, M.bel⟩; rw [after_no hz, hz]; rfl
      · rw [hs3] at F; have hs3i := in_t hs3; (try dsimp only at hs3i); revert φ; refine puG (fun _ F => pu_not rfl (F.ev rfl)) ?_; intro φ F; rw [show (!true) = false from rfl] at F; revert φ; refine pkF ?_; intro φ F; refine nx ?_; refine wp_cond_false (F.ev rfl) ?_; refine wp_skip ?_; refine nxq ?_; revert φ; refine srG ?_; refine faG fo37_0 ?_; refine lcG M one3 (r := 2) rfl ?_; refine faG fo77_0 ?_; refine lcG M one3 (r := 1) rfl ?_; refine adG ?_; refine faG fo37_1 ?_; refine lcG M one3 (r := 2) rfl ?_; refine faG fo77_1 ?_; refine lcG M one3 (r := 1) rfl ?_; refine adG ?_; refine puG (fun _ F => bu37_0_1 rfl (F.ev rfl) (F.ev rfl)) ?_; intro φ F; refine sq_alloc F M (wt0 rfl) rfl z37 rfl rfl ?_; clear F M; intro φ ω g4 F M; refine sq_stA F M (wt0 rfl) rfl (F.ev rfl) (F.ev rfl) (i := 0) rfl agg37 rfl rfl rfl rfl ?_; clear M; intro ω M; refine nx ?_; refine wp_seq ?_; revert φ; refine srG ?_; refine rdG (fun _ F => ld_agg rfl (F.ev rfl) agg37 (M.rd (i := 0) rfl) rfl) ?_; intro φ F; refine sq_call F M (wt0 rfl) rfl en79 (evc (F.ev rfl) evn) (right_any (St.mk (t.e + p.e) (t.r + p.r)) _) rfl rfl ?_; clear F M; intro φ ω F M; cases hs4 : ((St.mk (t.e + p.e) (t.r + p.r)).rightB)
        · rw [hs4] at F; have hs4i := right_f hs4; (try dsimp only at hs4i); revert φ; refine puG (fun _ F => pu_not rfl (F.ev rfl)) ?_; intro φ F; rw [show (!false) = true from rfl] at F; refine nx ?_; refine wp_cond_true (F.ev rfl) ?_; revert φ; refine srG ?_; refine puG (fun _ F => bu37_ rfl) ?_; intro φ F; refine sq_stA F M (wt0 rfl) rfl (F.ev rfl) (F.ev rfl) (i := 1) rfl agg37 rfl rfl rfl rfl ?_; clear M; intro ω M; revert φ; refine asG ?_; intro φ F; refine nx ?_; refine wp_ret ?_; refine nxr ?_; refine rt_cell_tmp F M rfl rfl rfl (i := 1) rfl agg37 rfl ?_; have hz : t.afterB p = false := by rw [← Bool.not_eq_true, after_iff]; omega
          refine ⟨?_, M.bel⟩; rw [after_no hz, hz]; rfl
        · rw [hs4] at F; have hs4i := right_t hs4; (try dsimp only at hs4i); revert φ; refine puG (fun _ F => pu_not rfl (F.ev rfl)) ?_; intro φ F; rw [show (!true) = false from rfl] at F; refine nx ?_; refine wp_cond_false (F.ev rfl) ?_; refine wp_skip ?_; refine nxq ?_; revert φ; refine srG ?_; refine rdG (fun _ F => ld_agg rfl (F.ev rfl) agg37 (M.rd (i := 0) rfl) rfl) ?_; intro φ F; refine sq_stA F M (wt0 rfl) rfl (F.ev rfl) (F.ev rfl) (i := 1) rfl agg37 rfl rfl rfl rfl ?_; clear M; intro ω M; revert φ; refine asG ?_; intro φ F; refine nx ?_; refine wp_ret ?_; refine rt_cell_tmp F M rfl rfl rfl (i := 1) rfl agg37 rfl ?_; have hz : t.afterB p = true := after_iff.2 (by omega); refine ⟨?_, M.bel⟩; rw [after_yes hz, hz]; rfl
end Go.Proofs.YtcnmmnhlhenifaaGreat
namespace Go.Proofs.YtcnmmnhlhenifaaGreat
open Go.RowKit
set_option maxRecDepth 100000
set_option linter.unusedSimpArgs false
set_option linter.unusedVariables false
end Go.Proofs.YtcnmmnhlhenifaaGreat
namespace Go.Proofs.YtcnmmnhlhenifaaGreat
open Go.RowKit
set_option maxRecDepth 100000
set_option linter.unusedSimpArgs false
set_option linter.unusedVariables false
end Go.Proofs.YtcnmmnhlhenifaaGreat
namespace Go.Proofs.YtcnmmnhlhenifaaGreat
open Go.RowKit
set_option maxRecDepth 100000
set_option linter.unusedSimpArgs false
set_option linter.unusedVariables false
end Go.Proofs.YtcnmmnhlhenifaaGreat
namespace Go.Proofs.YtcnmmnhlhenifaaGreat
open Go.RowKit
set_option maxRecDepth 100000
set_option linter.unusedSimpArgs false
set_option linter.unusedVariables false
end Go.Proofs.YtcnmmnhlhenifaaGreat
namespace Go.Proofs.YtcnmmnhlhenifaaGreat
open Go.RowKit
set_option maxRecDepth 100000
set_option linter.unusedSimpArgs false
set_option linter.unusedVariables false
end Go.Proofs.YtcnmmnhlhenifaaGreat
namespace Go.Proofs.YtcnmmnhlhenifaaGreat
open Go.RowKit
set_option maxRecDepth 100000
set_option linter.unusedSimpArgs false
set_option linter.unusedVariables false
def stV (s : St) : Value := .agg #[.int .i64 s.e, .int .i64 s.r]
def iV (n : Int) : Value := .int .i64 n
theorem stV_inj (a b : St) (h : stV a = stV b) : a = b := by
  simp only [stV, Value.agg.injEq, Array.mk.injEq, List.cons.injEq, Value.int.injEq] at h
  exact St.eq_iff.2 ⟨h.1.2, h.2.1.2⟩
def ofC (C : List Ct) (t : St) : Int := (getM C t).getD 0
theorem of_elim (C : List Ct) (t : St) : (getM C t).elim (.int .i64 0) iV = .int .i64 (ofC C t) := by
  unfold ofC; cases getM C t <;> rfl
def AscC (C : List Ct) : Prop := C.Pairwise fun p q => p.1.aheadB q.1 = true
structure BagOK (C : List Ct) : Prop where
  asc : AscC C
  ok : ∀ p ∈ C, p.2 ≠ 0 ∧ -1000000000 ≤ p.2 ∧ p.2 ≤ 1000000000 ∧ p.1.rightB = true
theorem AscC.nodup {C : List Ct} (h : AscC C) : C.Pairwise (fun p q => p.1 ≠ q.1) := h.imp fun h e => by rw [e, ahead_irr] at h; cases h
theorem pw_nodup {C : List Ct} (h : C.Pairwise (fun p q => p.1 ≠ q.1)) : C.Nodup := h.imp fun h e => h (by rw [e])
theorem AscC.keys {C : List Ct} (h : AscC C) : Asc (C.map (·.1)) := fun i hi => by
  have hp : (C.map (·.1)).Pairwise (fun a b => St.aheadB a b = true) := by rw [List.pairwise_map]; exact h
  rw [List.length_map] at hi
  have := List.pairwise_iff_getElem.1 hp i (i + 1) (by simpa using (show i < C.length by omega)) (by simpa using hi) (by omega)
  rwa [atS_eq (by simpa using (show i < C.length by omega)), atS_eq (by simpa using hi)]
theorem AscC.uniq : ∀ {L K : List Ct}, AscC L → AscC K → (∀ p, p ∈ L ↔ p ∈ K) → L = K
  | [], [], _, _, _ => rfl
  | [], k :: K, _, _, h => by have := (h k).2 (by simp); simp at this
  | l :: L, [], _, _, h => by have := (h l).1 (by simp); simp at this
  | l :: L, k :: K, hl, hk, h => by
    obtain ⟨l1, l2⟩ := List.pairwise_cons.1 hl
    obtain ⟨k1, k2⟩ := List.pairwise_cons.1 hk
    have e : l = k := by
      rcases List.mem_cons.1 ((h l).1 (by simp)) with h1 | h1
      · exact h1
      · rcases List.mem_cons.1 ((h k).2 (by simp)) with h2 | h2
        · exact h2.symm
        · have := ahead_trans (k1 l h1) (l1 k h2)
          rw [ahead_irr] at this; cases this
    subst e
    congr 1
    refine AscC.uniq l2 k2 fun p => ⟨fun hp => ?_, fun hp => ?_⟩
    · rcases List.mem_cons.1 ((h p).1 (by simp [hp])) with h1 | h1
      · subst h1; have := l1 _ hp; rw [ahead_irr] at this; cases this
      · exact h1
    · rcases List.mem_cons.1 ((h p).2 (by simp [hp])) with h1 | h1
      · subst h1; have := k1 _ hp; rw [ahead_irr] at this; cases this
      · exact h1
theorem of_mem {C : List Ct} (h : C.Pairwise (fun p q => p.1 ≠ q.1)) {p : Ct} (hp : p ∈ C) : ofC C p.1 = p.2 := by
  unfold ofC; rw [getM_some h (show (p.1, p.2) ∈ C from hp)]; rfl
theorem of_not {C : List Ct} {t : St} (h : ∀ p ∈ C, p.1 ≠ t) : ofC C t = 0 := by unfold ofC; rw [getM_none h]; rfl
theorem of_pos {C : List Ct} {t : St} (h : ofC C t ≠ 0) : (t, ofC C t) ∈ C := by
  unfold ofC at h ⊢
  cases hg : getM C t with
  | none => rw [hg] at h; exact absurd rfl h
  | some v => exact getM_mem hg
theorem BagOK.mem {C : List Ct} (h : BagOK C) {p : Ct} : p ∈ C ↔ ofC C p.1 = p.2 ∧ p.2 ≠ 0 := by
  constructor
  · intro hp; exact ⟨of_mem h.asc.nodup hp, (h.ok p hp).1⟩
  · rintro ⟨h1, h2⟩
    have := of_pos (C := C) (t := p.1) (by rw [h1]; exact h2)
    rw [h1] at this; exact this
theorem BagOK.ext {C K : List Ct} (h : BagOK C) (hk : BagOK K) (he : ∀ t, ofC C t = ofC K t) : C = K := h.asc.uniq hk.asc fun p => by rw [h.mem, hk.mem, he]
theorem BagOK.bound {C : List Ct} (h : BagOK C) (t : St) : -1000000000 ≤ ofC C t ∧ ofC C t ≤ 1000000000 := by
  by_cases h0 : ofC C t = 0
  · omega
  · have := (h.ok _ (of_pos h0)).2
    exact ⟨this.1, this.2.1⟩
theorem bag_nil : BagOK [] := ⟨List.Pairwise.nil, fun p hp => by cases hp⟩
theorem of_nil (t : St) : ofC [] t = 0 := rfl
def setC : List Ct → St → Int → List Ct
  | [], t, n => if n = 0 then [] else [(t, n)]
  | p :: r, t, n => if p.1.aheadB t then p :: setC r t n else if p.1 = t then (if n = 0 then r else (t, n) :: r) else if n = 0 then p :: r else (t, n) :: p :: r
theorem mem_setC {C : List Ct} (h : AscC C) {t : St} {n : Int} {q : Ct} : q ∈ setC C t n ↔ (q ∈ C ∧ q.1 ≠ t) ∨ (q = (t, n) ∧ n ≠ 0) := by
  induction C with
  | nil =>
    unfold setC
    split <;> rename_i h0 <;> simp [h0]
  | cons p r ih =>
    obtain ⟨h1, h2⟩ := List.pairwise_cons.1 h
    unfold setC
    split
    · rename_i hp
      rw [List.mem_cons, List.mem_cons, ih h2]
      constructor
      · rintro (h3 | h3 | h3)
        · exact .inl ⟨.inl h3, fun e => by rw [← h3, e, ahead_irr] at hp; cases hp⟩
        · exact .inl ⟨.inr h3.1, h3.2⟩
        · exact .inr h3
      · rintro (⟨h3 | h3, h4⟩ | h3)
        · exact .inl h3
        · exact .inr (.inl ⟨h3, h4⟩)
        · exact .inr (.inr h3)
    · rename_i hp
      have hr : ∀ u ∈ r, u.1 ≠ t := fun u hu e => by
        have := h1 u hu; rw [e] at this; exact hp this
      split
      · rename_i hpt
        split
        · rename_i h0
          constructor
          · intro h3; exact .inl ⟨List.mem_cons_of_mem _ h3, hr q h3⟩
          · rintro (⟨h3, h4⟩ | h3)
            · rcases List.mem_cons.1 h3 with h5 | h5
              · rw [h5] at h4; exact absurd hpt h4
              · exact h5
            · exact absurd h0 h3.2
        · rename_i h0
          rw [List.mem_cons]
          constructor
          · rintro (h3 | h3)
            · exact .inr ⟨h3, h0⟩
            · exact .inl ⟨List.mem_cons_of_mem _ h3, hr q h3⟩
          · rintro (⟨h3, h4⟩ | h3)
            · rcases List.mem_cons.1 h3 with h5 | h5
              · rw [h5] at h4; exact absurd hpt h4
              · exact .inr h5
            · exact .inl h3.1
      · rename_i hpt
        have hall : ∀ u ∈ p :: r, u.1 ≠ t := fun u hu => by
          rcases List.mem_cons.1 hu with h5 | h5
          · rw [h5]; exact hpt
          · exact hr u h5
        split
        · rename_i h0
          constructor
          · intro h3; exact .inl ⟨h3, hall q h3⟩
          · rintro (h3 | h3)
            · exact h3.1
            · exact absurd h0 h3.2
        · rename_i h0
          rw [List.mem_cons]
          constructor
          · rintro (h3 | h3)
            · exact .inr ⟨h3, h0⟩
            · exact .inl ⟨h3, hall q h3⟩
          · rintro (h3 | h3)
            · exact .inr h3.1
            · exact .inl h3.1
theorem setC_asc {C : List Ct} (h : AscC C) (t : St) (n : Int) : AscC (setC C t n) := by
  induction C with
  | nil => unfold setC; split <;> simp [AscC]
  | cons p r ih =>
    obtain ⟨h1, h2⟩ := List.pairwise_cons.1 h
    unfold setC
    split
    · rename_i hp
      refine List.pairwise_cons.2 ⟨fun q hq => ?_, ih h2⟩
      rcases (mem_setC h2).1 hq with h3 | h3
      · exact h1 q h3.1
      · rw [h3.1]; exact hp
    · rename_i hp
      split
      · rename_i hpt
        split
        · exact h2
        · exact List.pairwise_cons.2 ⟨fun q hq => by rw [← hpt]; exact h1 q hq, h2⟩
      · rename_i hpt
        split
        · exact h
        · refine List.pairwise_cons.2 ⟨fun q hq => ?_, h⟩
          have htp : t.aheadB p.1 = true := by
            cases hq' : t.aheadB p.1 with
            | true => rfl
            | false => exact absurd (ahead_tri (by simpa using hp) hq') hpt
          rcases List.mem_cons.1 hq with h3 | h3
          · rw [h3]; exact htp
          · exact ahead_trans htp (h1 q h3)
theorem setC_len (C : List Ct) (t : St) (n : Int) : (setC C t n).length ≤ C.length + 1 := by
  induction C with
  | nil => unfold setC; split <;> simp
  | cons p r ih =>
    unfold setC
    repeat' split
    all_goals simp only [List.length_cons] at *
    all_goals omega
theorem of_setC {C : List Ct} (h : AscC C) (t : St) (n : Int) (u : St) : ofC (setC C t n) u = if u = t then n else ofC C u := by
  have ha := setC_asc h t n
  split
  · rename_i hu
    subst hu
    by_cases h0 : n = 0
    · refine (of_not fun p hp e => ?_).trans h0.symm
      rcases (mem_setC h).1 hp with h1 | h1
      · exact h1.2 e
      · exact h1.2 h0
    · exact of_mem ha.nodup (p := (u, n)) ((mem_setC h).2 (.inr ⟨rfl, h0⟩))
  · rename_i hu
    by_cases hx : ∃ p, p ∈ C ∧ p.1 = u
    · obtain ⟨p, hp, rfl⟩ := hx
      rw [of_mem h.nodup hp]
      exact of_mem ha.nodup ((mem_setC h).2 (.inl ⟨hp, hu⟩))
    · have hn : ∀ p ∈ C, p.1 ≠ u := fun p hp e => hx ⟨p, hp, e⟩
      rw [of_not hn]
      refine of_not fun p hp e => ?_
      rcases (mem_setC h).1 hp with h1 | h1
      · exact hn p h1.1 e
      · rw [h1.1] at e; exact hu e.symm
theorem mem_delM {C : List Ct} {t : St} {q : Ct} : q ∈ delM C t ↔ q ∈ C ∧ q.1 ≠ t := by simp [delM]
theorem delM_asc {C : List Ct} (h : AscC C) (t : St) : AscC (delM C t) := List.Pairwise.filter _ h
theorem del_setC {C : List Ct} (h : AscC C) (t : St) : delM C t = setC C t 0 := (delM_asc h t).uniq (setC_asc h t 0) fun q => by
  rw [mem_delM, mem_setC h]
  simp
theorem put_setC {C : List Ct} (h : AscC C) {t : St} {n : Int} (hn : n ≠ 0) : ((t, n) :: delM C t).Perm (setC C t n) := by
  refine (List.perm_ext_iff_of_nodup ?_ (pw_nodup (setC_asc h t n).nodup)).2 fun q => ?_
  · refine List.nodup_cons.2 ⟨fun hm => (mem_delM.1 hm).2 rfl, pw_nodup (delM_asc h t).nodup⟩
  · rw [List.mem_cons, mem_delM, mem_setC h]
    constructor
    · rintro (h1 | h1)
      · exact .inr ⟨h1, hn⟩
      · exact .inl h1
    · rintro (h1 | h1)
      · exact .inr h1
      · exact .inl h1.1
def addE (C : List Ct) (t : St) (n : Int) : Int := if t.rightB = false then 1 else if 1000000000 < ofC C t + n ∨ ofC C t + n < -1000000000 then 9 else 0
def addC (C : List Ct) (t : St) (n : Int) : List Ct := if addE C t n = 0 then setC C t (ofC C t + n) else C
theorem addE_wrong {C : List Ct} {t : St} {n : Int} (h : t.rightB = false) : addE C t n = 1 := by unfold addE; rw [if_pos h]
theorem addE_over {C : List Ct} {t : St} {n : Int} (h : t.rightB = true) (ho : 1000000000 < ofC C t + n ∨ ofC C t + n < -1000000000) : addE C t n = 9 := by unfold addE; rw [if_neg (by rw [h]; simp), if_pos ho]
theorem addE_ok {C : List Ct} {t : St} {n : Int} (h : t.rightB = true) (ho : ¬ (1000000000 < ofC C t + n ∨ ofC C t + n < -1000000000)) : addE C t n = 0 := by unfold addE; rw [if_neg (by rw [h]; simp), if_neg ho]
theorem addC_no {C : List Ct} {t : St} {n : Int} (h : ¬ addE C t n = 0) : addC C t n = C := if_neg h
theorem addC_yes {C : List Ct} {t : St} {n : Int} (h : addE C t n = 0) : addC C t n = setC C t (ofC C t + n) := if_pos h
theorem add_iff {C : List Ct} {t : St} {n : Int} : addE C t n = 0 ↔ t.rightB = true ∧ -1000000000 ≤ ofC C t + n ∧ ofC C t + n ≤ 1000000000 := by
  unfold addE
  split
  · rename_i h; constructor
    · intro h1; cases h1
    · intro h1; rw [h] at h1; cases h1.1
  · rename_i h
    have : t.rightB = true := by simpa using h
    split
    · rename_i h1; constructor
      · intro h2; cases h2
      · intro h2; omega
    · rename_i h1; exact ⟨fun _ => ⟨this, by omega, by omega⟩, fun _ => rfl⟩
theorem BagOK.add {C : List Ct} (h : BagOK C) (t : St) (n : Int) : BagOK (addC C t n) := by
  by_cases h0 : addE C t n = 0
  · rw [addC_yes h0]
    have h1 := add_iff.1 h0
    refine ⟨setC_asc h.asc _ _, fun p hp => ?_⟩
    rcases (mem_setC h.asc).1 hp with h2 | h2
    · exact h.ok p h2.1
    · rw [h2.1]; exact ⟨h2.2, h1.2.1, h1.2.2, h1.1⟩
  · rw [addC_no h0]; exact h
theorem addC_len (C : List Ct) (t : St) (n : Int) : (addC C t n).length ≤ C.length + 1 := by
  unfold addC; split
  · exact setC_len _ _ _
  · omega
theorem of_add {C : List Ct} (h : AscC C) (t : St) (n : Int) (u : St) : ofC (addC C t n) u = if u = t ∧ addE C t n = 0 then ofC C t + n else ofC C u := by
  by_cases h0 : addE C t n = 0
  · rw [addC_yes h0, of_setC h]
    simp [h0]
  · rw [addC_no h0, if_neg (fun h => h0 h.2)]
def posL (C : List Ct) : List St := (C.filter fun p => decide (0 < p.2)).map (·.1)
def lackB (C : List Ct) : Bool := C.any fun p => decide (p.2 < 0)
theorem mem_posL {C : List Ct} {t : St} : t ∈ posL C ↔ ∃ p ∈ C, 0 < p.2 ∧ p.1 = t := by
  unfold posL
  rw [List.mem_map]
  constructor
  · rintro ⟨p, hp, rfl⟩
    have := List.mem_filter.1 hp
    exact ⟨p, this.1, by simpa using this.2, rfl⟩
  · rintro ⟨p, hp, h1, rfl⟩
    exact ⟨p, List.mem_filter.2 ⟨hp, by simpa using h1⟩, rfl⟩
theorem posL_len (C : List Ct) : (posL C).length ≤ C.length := by unfold posL; rw [List.length_map]; exact List.length_filter_le _ _
def BagV (p g : Nat) (C : List Ct) (w : World) : Prop := Blk w p 130 #[.map (some g)] ∧ MpV g (encM stV iV C) w ∧ BagOK C
theorem BagV.loc (p g : Nat) (C : List Ct) : Loc [p, g] (BagV p g C) := fun w w' hk ⟨h1, h2, h3⟩ => by
  have e1 := blk_loc w w' (fun k hk' => hk k (by simp only [List.mem_singleton] at hk'; simp [hk'])) h1
  have e2 := MpV.loc g _ w w' (fun k hk' => hk k (by simp only [List.mem_singleton] at hk'; simp [hk'])) h2
  refine ⟨⟨e1.1, e2.1, h3⟩, fun k hk' => ?_⟩
  simp only [List.mem_cons, List.not_mem_nil, or_false] at hk'
  rcases hk' with rfl | rfl
  · exact e1.2 k (by simp)
  · exact e2.2 k (by simp)
theorem BagV.ne {p g : Nat} {C : List Ct} {w : World} (h : BagV p g C w) : p ≠ g := by
  rintro rfl
  obtain ⟨h1, ⟨es, clock, h2, _⟩, _⟩ := h
  have : w.heap[p]? = some (.cells #[.map (some p)] 130) := h1
  rw [this] at h2
  cases h2
theorem stKeys : KeyOK Tryz.prog 37 (fun v => ∃ a, v = stV a) :=
  keyOK_of Tryz.underlying37 (fun _ _ => rfl) (fun w em a => by
    have hi : ∀ v : Int, (Instr.checkKey em 9999 3 (.int .i64 v)).run Tryz.prog w = .ok () w := fun v => MapKept.run_checkKey Tryz.underlying3 (by simp [MapKept.IsKey]) em 9998
    show (Instr.checkKey em (9999 + 1) _ _).run _ _ = _
    rw [Instr.checkKey]
    unfold stV
    simp [go_sem, hi]) (fun w a b => eqS37 a b w) (fun a => by
    unfold stV; simp [Instr.sameBits]) stV_inj
theorem mtBag : MapEn Tryz.prog 128 37 3 stV iV (.int .i64 0) :=
  ⟨Tryz.underlying128, ⟨_, stKeys, fun a => ⟨a, rfl⟩⟩, stV_inj, fun w => by kernel_rfl⟩
end Go.Proofs.YtcnmmnhlhenifaaGreat
namespace Go.Proofs.YtcnmmnhlhenifaaGreat
open Go.RowKit
set_option maxRecDepth 100000
set_option linter.unusedSimpArgs false
set_option linter.unusedVariables false
def stepC (t : St) (n : Int) (s : List Ct × Bool) (p : Ct) : List Ct × Bool :=
  if s.2 = false ∧ p.1.aheadB t = false then (if p.1 = t then (s.1 ++ [(t, n)], true) else (s.1 ++ [(t, n)] ++ [p], true)) else (if p.1 = t then s else (s.1 ++ [p], s.2))
def runC (t : St) (n : Int) (C : List Ct) : List Ct × Bool := C.foldl (stepC t n) ([], decide (n = 0))
structure KInv (C Rs : List Ct) (K : List St) : Prop where
  mem : ∀ t, (∃ p ∈ C, p.1 = t) ↔ t ∈ K ∨ ∃ p ∈ Rs, p.1 = t
  len : K.length + Rs.length = C.length
theorem KInv.start (C : List Ct) : KInv C C [] := ⟨fun t => by simp, by simp⟩
theorem KInv.next {C Rs Rs' : List Ct} {K : List St} {q : Ct} (h : KInv C Rs K) (hp : Rs.Perm (q :: Rs')) : KInv C Rs' (K ++ [q.1]) := by
  refine ⟨fun t => ?_, ?_⟩
  · rw [h.mem, List.mem_append, List.mem_singleton]
    constructor
    · rintro (h1 | ⟨p, h1, h2⟩)
      · exact .inl (.inl h1)
      · rcases List.mem_cons.1 (hp.mem_iff.1 h1) with h3 | h3
        · exact .inl (.inr (by rw [← h2, h3]))
        · exact .inr ⟨p, h3, h2⟩
    · rintro ((h1 | h1) | ⟨p, h1, h2⟩)
      · exact .inl h1
      · exact .inr ⟨q, hp.mem_iff.2 (by simp), h1.symm⟩
      · exact .inr ⟨p, hp.mem_iff.2 (by simp [h1]), h2⟩
  · have := h.len; have h2 := hp.length_eq; simp at h2 ⊢; omega
theorem KInv.fin {C Rs : List Ct} {K : List St} (h : KInv C Rs K) (hb : BagOK C) (hz : Rs = []) : rowL K = C.map (·.1) := by
  refine (rowL_of hb.asc.keys fun t => ?_).symm
  have := h.mem t
  rw [hz] at this
  simp only [List.not_mem_nil, false_and, exists_false, or_false] at this
  rw [← this, List.mem_map]
theorem map_of {C : List Ct} (hb : BagOK C) : (C.map (·.1)).map (fun t => (t, ofC C t)) = C := by
  rw [List.map_map]
  conv => rhs; rw [← List.map_id C]
  exact List.map_congr_left fun p hp => by simp [of_mem hb.asc.nodup hp]
def allC (C : List Ct) (i : Nat) : List Ct := ((C.map (·.1)).take i).map fun t => (t, ofC C t)
theorem all_next {C : List Ct} {i : Int} (h0 : 0 ≤ i) (h : i < ((C.map (·.1)).length : Int)) : allC C (i + 1).toNat = allC C i.toNat ++ [(atS (C.map (·.1)) i.toNat, ofC C (atS (C.map (·.1)) i.toNat))] := by
  unfold allC
  rw [show (i + 1).toNat = i.toNat + 1 by omega, List.take_succ_eq_append_getElem (by omega), List.map_append, atS_eq (by omega)]
  rfl
theorem all_end {C : List Ct} {i : Int} (hb : BagOK C) (hi : ¬ i < ((C.map (·.1)).length : Int)) : allC C i.toNat = C := by
  unfold allC
  rw [List.take_of_length_le (by omega), map_of hb]
theorem all_len (C : List Ct) (i : Nat) : (allC C i).length ≤ C.length := by unfold allC; rw [List.length_map, List.length_take, List.length_map]; omega
structure PInv (C Rs : List Ct) (K : List St) : Prop where
  mem : ∀ t, t ∈ posL C ↔ t ∈ K ∨ t ∈ posL Rs
  len : K.length + Rs.length ≤ C.length
theorem PInv.start (C : List Ct) : PInv C C [] := ⟨fun t => by simp, by simp⟩
theorem pos_perm {Rs Rs' : List Ct} {q : Ct} (hp : Rs.Perm (q :: Rs')) (t : St) : t ∈ posL Rs ↔ (0 < q.2 ∧ q.1 = t) ∨ t ∈ posL Rs' := by
  rw [mem_posL, mem_posL]
  constructor
  · rintro ⟨p, h1, h2⟩
    rcases List.mem_cons.1 (hp.mem_iff.1 h1) with h3 | h3
    · rw [h3] at h2; exact .inl h2
    · exact .inr ⟨p, h3, h2⟩
  · rintro (h1 | ⟨p, h1, h2⟩)
    · exact ⟨q, hp.mem_iff.2 (by simp), h1⟩
    · exact ⟨p, hp.mem_iff.2 (by simp [h1]), h2⟩
theorem PInv.yes {C Rs Rs' : List Ct} {K : List St} {q : Ct} (h : PInv C Rs K) (hp : Rs.Perm (q :: Rs')) (hq : 0 < q.2) : PInv C Rs' (K ++ [q.1]) := by
  refine ⟨fun t => ?_, by have := h.len; have h2 := hp.length_eq; simp at h2 ⊢; omega⟩
  rw [h.mem, pos_perm hp, List.mem_append, List.mem_singleton]
  constructor
  · rintro (h1 | h1 | h1)
    · exact .inl (.inl h1)
    · exact .inl (.inr h1.2.symm)
    · exact .inr h1
  · rintro ((h1 | h1) | h1)
    · exact .inl h1
    · exact .inr (.inl ⟨hq, h1.symm⟩)
    · exact .inr (.inr h1)
theorem PInv.no {C Rs Rs' : List Ct} {K : List St} {q : Ct} (h : PInv C Rs K) (hp : Rs.Perm (q :: Rs')) (hq : ¬ 0 < q.2) : PInv C Rs' K := by
  refine ⟨fun t => ?_, by have := h.len; have h2 := hp.length_eq; simp at h2; omega⟩
  rw [h.mem, pos_perm hp]
  constructor
  · rintro (h1 | h1 | h1)
    · exact .inl h1
    · exact absurd h1.1 hq
    · exact .inr h1
  · rintro (h1 | h1)
    · exact .inl h1
    · exact .inr (.inr h1)
theorem PInv.fin {C Rs : List Ct} {K : List St} (h : PInv C Rs K) (hz : Rs = []) : minL K = minL (posL C) := min_mem fun t => by
  rw [h.mem, hz]; simp [posL]
section
variable {R : List Nat} {w0 w w' : World} {B : List Ent} {i p g rb : Nat} {x : Ent} {C C' : List Ct} {t : St} {n z : Int} {v v' : Value}
theorem Mm.new1 (M : Mm [] w0 w B) (h : B[i]? = some x) : ∀ g ∈ x.fp, w0.heap.size ≤ g := fun g hg => by
  rcases M.own x (List.mem_of_getElem? h) g hg with h1 | h1
  · exact h1
  · cases h1
theorem bag_post (hO : Out [p, g] w w') (hb : Blk w' p 130 #[.map (some g)]) (hm : MpV g (encM stV iV C') w') (hk : BagOK C) (ez : addE C t n = z) (eC : C' = addC C t n) :
    TurnsE w (.own [p, g] (BagV p g C)) (fun v x' => v = .int .i64 (addE C t n) ∧ x' = .own [p, g] (BagV p g (addC C t n))) (.returned (.int .i64 z)) w' :=
  ⟨_, .own [p, g] (BagV p g (addC C t n)), rfl, hO, ⟨⟨hb, eC ▸ hm, hk.add t n⟩, BagV.loc _ _ _⟩, fun k hk' => .inl hk', rfl, by rw [ez], rfl⟩
theorem new_post (hO : Below w.heap.size w w') (hb : Blk w' p 130 #[.map (some g)]) (hm : MpV g [] w') (h1 : w.heap.size ≤ p) (h2 : w.heap.size ≤ g) :
    MakesE w (fun v x => ∃ p g, v = .pointer (some ⟨p, 0, none⟩) ∧ x = .own [p, g] (BagV p g [])) (.returned (.pointer (some ⟨p, 0, none⟩))) w' :=
  ⟨_, .own [p, g] (BagV p g []), rfl, hO, ⟨⟨hb, hm, bag_nil⟩, BagV.loc _ _ _⟩, fun k hk => by
    simp only [Ent.fp, List.mem_cons, List.not_mem_nil, or_false] at hk
    rcases hk with rfl | rfl
    · exact h1
    · exact h2, rfl, p, g, rfl, rfl⟩
def RefV (rb : Nat) (v : Value) (C : List Ct) (w : World) : Prop := Blk w rb 46 #[v] ∧ w.ownsRow 0 57 3 v C.length (cC C) ∧ BagOK C
theorem RefV.loc (rb : Nat) (v : Value) (C : List Ct) : Loc (rb :: v.ownBlock.toList) (RefV rb v C) := fun w w' hk ⟨h1, h2, h3⟩ => by
  have e1 := blk_loc w w' (fun k hk' => hk k (by simp only [List.mem_singleton] at hk'; simp [hk'])) h1
  have hlt : ∀ k, v.ownBlock = some k → k < w.heap.size := fun k hk' => (World.ownsRow.lt h2 k hk').2
  refine ⟨⟨e1.1, ?_, h3⟩, fun k hk' => ?_⟩
  · refine ⟨h2.1, ?_⟩
    rcases h2.2 with h4 | ⟨g, cap, cur, h4, h5, h6, h7⟩
    · exact .inl h4
    · exact .inr ⟨g, cap, cur, h4, h5, (hk g (by simp [h4, Value.ownBlock])).trans h6, h7⟩
  · rcases List.mem_cons.1 hk' with rfl | h4
    · exact e1.2 k (by simp)
    · exact hlt k (by simpa using h4)
theorem RefV.apart (hB : Blk w rb 46 #[v]) (h : w.ownsRow 0 57 3 v C.length (cC C)) : ∀ k, v.ownBlock = some k → k ≠ rb := by
  intro k hk e
  rcases h.2 with h4 | ⟨g, cap, cur, h4, h5, h6, h7⟩
  · rw [h4.1] at hk; cases hk
  · rw [h4] at hk
    simp only [Value.ownBlock, Option.some.injEq] at hk
    have h8 : w.heap[rb]? = some (.cells #[v] 46) := hB
    rw [← e, ← hk, h6] at h8
    injection h8 with h8
    injection h8 with _ h9
    cases h9
def RefPost (w : World) (rb : Nat) (v : Value) (C C' : List Ct) (z : Int) : Ending → World → Prop :=
  TurnsE w (.own (rb :: v.ownBlock.toList) (RefV rb v C)) (fun u x' => ∃ v', u = .int .i64 z ∧ x' = .own (rb :: v'.ownBlock.toList) (RefV rb v' C'))
end
end Go.Proofs.YtcnmmnhlhenifaaGreat
namespace Go.Proofs.YtcnmmnhlhenifaaGreat
open Go.RowKit
set_option maxRecDepth 100000
set_option linter.unusedSimpArgs false
set_option linter.unusedVariables false
abbrev Bags := List (List Ct)
def atK (B : Bags) (i : Nat) : List Ct := B.getD i []
theorem atK_eq {B : Bags} {i : Nat} (h : i < B.length) : atK B i = B[i] := by unfold atK; rw [List.getD_eq_getElem?_getD, List.getElem?_eq_getElem h]; rfl
theorem atK_out {B : Bags} {i : Nat} (h : B.length ≤ i) : atK B i = [] := by unfold atK; rw [List.getD_eq_getElem?_getD, List.getElem?_eq_none h]; rfl
theorem atK_set {B : Bags} {i j : Nat} {C : List Ct} (h : i < B.length) : atK (B.set i C) j = if i = j then C else atK B j := by
  unfold atK
  rw [List.getD_eq_getElem?_getD, List.getD_eq_getElem?_getD, List.getElem?_set]
  split
  · rename_i e; subst e; simp [h]
  · rfl
def addTE (L : List (List (List St))) (B : Bags) (p : Po) (x : Int) : Int := if rightC L p = true then addE (atK B p.n.toNat) p.t x else 1
def addTB (L : List (List (List St))) (B : Bags) (p : Po) (x : Int) : Bags := if rightC L p = true then B.set p.n.toNat (addC (atK B p.n.toNat) p.t x) else B
def atT (B : Bags) (k : Int) : List Ct := if 0 ≤ k ∧ k < (B.length : Int) then atK B k.toNat else []
def nodePl (L : List (List (List St))) (B : Bags) (k : Int) (i : Nat) : List St := (posL (atK B i)).flatMap fun t => placesC L ⟨(i : Int), t⟩ k
def allPl (L : List (List (List St))) (B : Bags) (k : Int) : List St := (List.range B.length).flatMap fun i => nodePl L B k i
def frontT (L : List (List (List St))) (B : Bags) (k : Int) : List St := minL (allPl L B k)
def passedT (L : List (List (List St))) (B : Bags) (p : Po) : Bool := rightC L p && !covB (frontT L B p.n) p.t
section
variable {L : List (List (List St))} {B : Bags} {p q : Po} {x k : Int}
theorem addT_no (h : rightC L p = false) : addTE L B p x = 1 ∧ addTB L B p x = B := by unfold addTE addTB; rw [h]; exact ⟨rfl, rfl⟩
theorem addT_yes (h : rightC L p = true) : addTE L B p x = addE (atK B p.n.toNat) p.t x ∧ addTB L B p x = B.set p.n.toNat (addC (atK B p.n.toNat) p.t x) := by unfold addTE addTB; rw [h]; exact ⟨rfl, rfl⟩
theorem addT_len : (addTB L B p x).length = B.length := by unfold addTB; split <;> simp
theorem addT_bad (h : ¬ addTE L B p x = 0) : addTB L B p x = B := by
  cases hr : rightC L p with
  | false => exact (addT_no hr).2
  | true =>
    rw [(addT_yes hr).1] at h
    rw [(addT_yes hr).2, addC_no h]
    apply List.ext_getElem (by simp)
    intro i h1 h2
    rw [List.getElem_set]
    split
    · rename_i e; subst e; rw [atK_eq h2]
    · rfl
theorem at_no (h : ¬ (0 ≤ k ∧ k < (B.length : Int))) : atT B k = [] := if_neg h
theorem at_yes (h : 0 ≤ k ∧ k < (B.length : Int)) : atT B k = atK B k.toNat := if_pos h
theorem passed_no (h : rightC L p = false) : passedT L B p = false := by unfold passedT; rw [h]; rfl
theorem front_nil (h : ∀ i, i < B.length → posL (atK B i) = []) : frontT L B k = [] := by
  have : allPl L B k = [] := by
    unfold allPl nodePl
    rw [List.flatMap_eq_nil_iff]
    intro i hi
    rw [h i (List.mem_range.1 hi)]; rfl
  unfold frontT; rw [this]; rfl
theorem passed_nil (h : ∀ i, i < B.length → posL (atK B i) = []) : passedT L B p = rightC L p := by
  unfold passedT; rw [front_nil h]; simp [covB]
def OKs (B : Bags) : Prop := ∀ i, i < B.length → BagOK (atK B i)
theorem ok_new (n : Nat) : OKs (List.replicate n []) := fun i hi => by
  rw [atK_eq hi, List.getElem_replicate]; exact bag_nil
theorem ok_add (h : OKs B) (p : Po) (x : Int) : OKs (addTB L B p x) := fun i hi => by
  rw [addT_len] at hi
  cases hr : rightC L p with
  | false => rw [(addT_no hr).2]; exact h i hi
  | true =>
    rw [(addT_yes hr).2]
    by_cases hb : p.n.toNat < B.length
    · rw [atK_set hb]
      split
      · rename_i e; subst e; exact (h _ hb).add _ _
      · exact h i hi
    · rw [List.set_eq_of_length_le (by omega)]; exact h i hi
def ofT (B : Bags) (p : Po) : Int := ofC (atK B p.n.toNat) p.t
theorem of_addT (hL : L.length = B.length) (h : OKs B) (hq : 0 ≤ q.n ∧ q.n < (B.length : Int)) : ofT (addTB L B p x) q = if q = p ∧ addTE L B p x = 0 then ofT B p + x else ofT B q := by
  cases hr : rightC L p with
  | false =>
    rw [(addT_no hr).2, if_neg]
    rintro ⟨_, h2⟩; rw [(addT_no hr).1] at h2; cases h2
  | true =>
    have hp := (rightC_at hr).2.1
    unfold ofT
    rw [(addT_yes hr).2, (addT_yes hr).1, atK_set (by omega)]
    by_cases hn : p.n.toNat = q.n.toNat
    · rw [if_pos hn, of_add (h _ (by omega)).asc]
      have en : p.n = q.n := by omega
      by_cases ht : q.t = p.t ∧ addE (atK B p.n.toNat) p.t x = 0
      · rw [if_pos ht, if_pos ⟨by cases p; cases q; simp_all, ht.2⟩]
      · rw [if_neg ht, if_neg (fun z => ht ⟨by rw [z.1], z.2⟩), hn]
    · rw [if_neg hn, if_neg]
      rintro ⟨rfl, _⟩; exact hn rfl
theorem mem_pos {C : List Ct} (h : BagOK C) {t : St} : t ∈ posL C ↔ 0 < ofC C t := by
  rw [mem_posL]
  constructor
  · rintro ⟨c, hc, h1, rfl⟩; rw [of_mem h.asc.nodup hc]; exact h1
  · intro h1; exact ⟨(t, ofC C t), of_pos (by omega), h1, rfl⟩
theorem addT_iff : addTE L B p x = 0 ↔ rightC L p = true ∧ -1000000000 ≤ ofT B p + x ∧ ofT B p + x ≤ 1000000000 := by
  cases hr : rightC L p with
  | false => rw [(addT_no hr).1]; simp
  | true =>
    rw [(addT_yes hr).1, add_iff]
    have := (rightC_at hr).2.2.1
    unfold ofT
    exact ⟨fun h => ⟨rfl, h.2⟩, fun h => ⟨this, h.2⟩⟩
end
section
variable {n : Nat} {E : List Ed} {B : Bags} {p q r : Po} {x : Int}
end
def cntP (T : List Po) (q : Po) : Nat := T.countP (fun u => decide (u = q))
structure RepT (L : List (List (List St))) (B : Bags) (T : List Po) : Prop where
  ok : OKs B
  len : B.length = L.length
  of : ∀ q : Po, 0 ≤ q.n ∧ q.n < (B.length : Int) → ofT B q = (cntP T q : Int)
  right : ∀ q ∈ T, rightC L q = true
section
variable {L : List (List (List St))} {B : Bags} {T : List Po} {p q : Po} {x : Int}
theorem cnt_app (T : List Po) (q u : Po) : cntP (T ++ [q]) u = cntP T u + if q = u then 1 else 0 := by
  unfold cntP; rw [List.countP_append, List.countP_singleton]; simp
theorem cnt_off {k : Nat} (hk : k < T.length) (u : Po) : cntP T u = cntP (T.take k ++ T.drop (k + 1)) u + if T[k] = u then 1 else 0 := by
  unfold cntP
  conv => lhs; rw [← List.take_append_drop k T, List.drop_eq_getElem_cons hk]
  rw [List.countP_append, List.countP_append, List.countP_cons]
  simp only [decide_eq_true_eq]
  omega
theorem cnt_mem (h : q ∈ T) : 0 < cntP T q := by unfold cntP; rw [List.countP_pos_iff]; exact ⟨q, h, by simp⟩
theorem cnt_len (T : List Po) (q : Po) : cntP T q ≤ T.length := List.countP_le_length
theorem RepT.start (hL : L.length = B.length) (hB : OKs B) (h : ∀ q : Po, 0 ≤ q.n ∧ q.n < (B.length : Int) → ofT B q = 0) : RepT L B [] := ⟨hB, hL.symm, fun q hq => by rw [h q hq]; rfl, fun q hq => by cases hq⟩
theorem RepT.inn (h : RepT L B T) (hq : q ∈ T) : (0 ≤ q.n ∧ q.n < (B.length : Int)) ∧ 0 < ofT B q := by
  have h1 := (rightC_at (h.right q hq)).2.1
  rw [← h.len] at h1
  have := cnt_mem hq
  exact ⟨h1, by rw [h.of q h1]; omega⟩
theorem RepT.addOK (h : RepT L B T) (hr : rightC L q = true) (hl : T.length < 1000) : addTE L B q 1 = 0 := by
  have h1 := (rightC_at hr).2.1
  rw [← h.len] at h1
  have h2 := cnt_len T q
  rw [addT_iff, h.of q h1]
  exact ⟨hr, by omega⟩
theorem RepT.offOK (h : RepT L B T) (hq : q ∈ T) (hl : T.length < 1000) : addTE L B q (-1) = 0 := by
  have hr := h.right q hq
  have h1 := (rightC_at hr).2.1
  rw [← h.len] at h1
  have h2 := cnt_len T q
  rw [addT_iff, h.of q h1]
  exact ⟨hr, by omega⟩
theorem RepT.add (h : RepT L B T) (hr : rightC L q = true) (hl : T.length < 1000) : RepT L (addTB L B q 1) (T ++ [q]) := by
  refine ⟨ok_add h.ok q 1, by rw [addT_len]; exact h.len, fun u hu => ?_, fun u hu => ?_⟩
  · rw [addT_len] at hu
    rw [of_addT h.len.symm h.ok hu, cnt_app]
    have h1 := (rightC_at hr).2.1
    rw [← h.len] at h1
    by_cases e : u = q
    · subst e
      rw [if_pos ⟨rfl, h.addOK hr hl⟩, if_pos rfl, h.of u hu]; omega
    · rw [if_neg (fun z => e z.1), if_neg (fun z => e z.symm), h.of u hu]; omega
  · rcases List.mem_append.1 hu with hu | hu
    · exact h.right u hu
    · rw [List.mem_singleton.1 hu]; exact hr
theorem RepT.off (h : RepT L B T) {k : Nat} (hk : k < T.length) (hl : T.length < 1000) : RepT L (addTB L B T[k] (-1)) (T.take k ++ T.drop (k + 1)) := by
  have hm : T[k] ∈ T := List.getElem_mem hk
  refine ⟨ok_add h.ok _ _, by rw [addT_len]; exact h.len, fun u hu => ?_, fun u hu => ?_⟩
  · rw [addT_len] at hu
    rw [of_addT h.len.symm h.ok hu]
    have hc := cnt_off hk u
    by_cases e : u = T[k]
    · rw [if_pos ⟨e, h.offOK hm hl⟩, ← e, h.of u hu]
      rw [if_pos e.symm] at hc; omega
    · rw [if_neg (fun z => e z.1), h.of u hu]
      rw [if_neg (fun z => e z.symm)] at hc; omega
  · rcases List.mem_append.1 hu with hu | hu
    · exact h.right u (List.mem_of_mem_take hu)
    · exact h.right u (List.mem_of_mem_drop hu)
theorem RepT.none (h : RepT L B []) : ∀ i, i < B.length → posL (atK B i) = [] := fun i hi => by
  rw [List.eq_nil_iff_forall_not_mem]
  intro t ht
  have h1 := (mem_pos (h.ok i hi)).1 ht
  have h2 := h.of ⟨(i : Int), t⟩ ⟨by simp, by simp; omega⟩
  simp [ofT, cntP] at h2
  omega
end
def foldT (L : List (List (List St))) (B : Bags) (l : List (Po × Int)) : Bags := l.foldl (fun b c => addTB L b c.1 c.2) B
def sumP (L : List (List (List St))) (l : List (Po × Int)) (q : Po) : Int := (l.map fun c => if q = c.1 ∧ rightC L c.1 = true then c.2 else 0).sum
section
variable {L : List (List (List St))} {B : Bags} {l : List (Po × Int)} {q : Po}
end
theorem new_of {n : Nat} {q : Po} : ofT (List.replicate n []) q = 0 := by
  unfold ofT atK
  rw [List.getD_eq_getElem?_getD, List.getElem?_replicate]
  split <;> rfl
end Go.Proofs.YtcnmmnhlhenifaaGreat
namespace Go.Proofs.YtcnmmnhlhenifaaGreat
open Go.RowKit
set_option maxRecDepth 100000
set_option linter.unusedSimpArgs false
set_option linter.unusedVariables false
def foldC (C l : List Ct) : List Ct := l.foldl (fun C p => addC C p.1 p.2) C
def sumC (l : List Ct) : List Ct := foldC [] l
def tot : List Ct → St → Int
  | [], _ => 0
  | p :: r, t => (if p.1 = t then p.2 else 0) + tot r t
def small (l : List Ct) : Prop := ∀ p ∈ l, -1000000 ≤ p.2 ∧ p.2 ≤ 1000000
def rotC (L : List Ct) (k : Nat) : List Ct := L.drop k ++ L.take k
def negC (l : List Ct) : List Ct := l.map fun p => (p.1, -p.2)
def backL (L : List Ct) (i : Int) : List Ct := L ++ negC ((L.drop (i + 1).toNat).reverse)
def oneC (t : St) (s : Int) : List Ct := if s = 0 then [] else [(t, s)]
section
variable {R : List Nat} {w0 w : World} {B : List Ent} {i rb p g : Nat} {v : Value} {C C' : List Ct}
end
end Go.Proofs.YtcnmmnhlhenifaaGreat
namespace Go.Proofs.YtcnmmnhlhenifaaGreat
open Go.RowKit
set_option maxRecDepth 100000
set_option linter.unusedSimpArgs false
set_option linter.unusedVariables false
abbrev RB := Nat × Value × List Ct
def fpRB (o : RB) : List Nat := o.1 :: o.2.1.ownBlock.toList
def RBV (o : RB) (w : World) : Prop := RefV o.1 o.2.1 o.2.2 w
theorem RBV.loc (o : RB) : Loc (fpRB o) (RBV o) := RefV.loc _ _ _
def newRB (g : Nat) : RB := (g, .slice none 0 0, [])
def atO (Q : List RB) (i : Nat) : RB := Q.getD i (0, .slice none 0 0, [])
theorem atO_eq {Q : List RB} {i : Nat} (h : i < Q.length) : atO Q i = Q[i] := by unfold atO; rw [List.getD_eq_getElem?_getD, List.getElem?_eq_getElem h]; rfl
def bagsR (Q : List RB) : Bags := Q.map (·.2.2)
theorem bagsR_len (Q : List RB) : (bagsR Q).length = Q.length := by simp [bagsR]
theorem atK_bagsR (Q : List RB) (i : Nat) : atK (bagsR Q) i = (atO Q i).2.2 := by
  unfold atK bagsR atO
  simp only [List.getD_eq_getElem?_getD, List.getElem?_map]
  cases Q[i]? <;> rfl
def SmB (B : Bags) (m : Nat) : Prop := ∀ i, (atK B i).length ≤ m
theorem smB_new (n m : Nat) : SmB (List.replicate n []) m := fun i => by
  unfold atK; rw [List.getD_eq_getElem?_getD, List.getElem?_replicate]; split <;> simp
theorem smB_add {L : List (List (List St))} {B : Bags} {m : Nat} (h : SmB B m) (p : Po) (x : Int) : SmB (addTB L B p x) (m + 1) := fun i => by
  unfold addTB
  split
  · by_cases hb : p.n.toNat < B.length
    · rw [atK_set hb]
      split
      · have := addC_len (atK B p.n.toNat) p.t x; have := h p.n.toNat; omega
      · have := h i; omega
    · rw [List.set_eq_of_length_le (by omega)]; have := h i; omega
  · have := h i; omega
theorem SmB.mono {B : Bags} {m k : Nat} (h : SmB B m) (hk : m ≤ k) : SmB B k := fun i => Nat.le_trans (h i) hk
section
variable {Q : List RB} {w : World}
theorem objs_ref (h : ObjsV fpRB RBV Q w) {i : Nat} (hi : i < Q.length) : RefV (atO Q i).1 (atO Q i).2.1 (atO Q i).2.2 w := by
  rw [atO_eq hi]; exact h.all _ (List.getElem_mem hi)
end
def Sm64 (L : List (List (List St))) : Prop := L.length ≤ 8 ∧ ∀ i j, (atR (at3 L i) j).length ≤ 64
theorem places_64 {L : List (List (List St))} {p : Po} {k : Int} (h : Sm64 L) : (placesC L p k).length ≤ 64 := by
  unfold placesC
  split
  · refine Nat.le_trans (minL_len _) (Nat.le_trans (sums_len _ _) ?_)
    have := h.2 p.n.toNat k.toNat
    simp only [List.length_singleton]; omega
  · simp
theorem sm64_clo (n : Int) (E : List Ed) : Sm64 (cloG n E).1 := by
  rcases clo_cases n E with ⟨h, _⟩ | ⟨h, hc, hl⟩
  · rw [h]; exact ⟨by simp, fun i j => by simp [at3, atR]⟩
  · rw [hc]
    refine ⟨by simp only [cloT_len]; omega, fun i j => ?_⟩
    rcases Nat.lt_or_ge i n.toNat with hi | hi
    · rw [cloT_at hi]; exact hl i hi j
    · rw [at3_out (by rw [cloT_len]; exact hi)]; simp [atR]
theorem flat_le {α β : Type} {f : α → List β} {l : List α} {c : Nat} (h : ∀ a ∈ l, (f a).length ≤ c) : (l.flatMap f).length ≤ l.length * c := by
  induction l with
  | nil => simp
  | cons a r ih =>
    have h1 := h a (by simp)
    have h2 := ih fun b hb => h b (by simp [hb])
    rw [List.flatMap_cons, List.length_append, List.length_cons, Nat.add_mul]; omega
section
variable {L : List (List (List St))} {B : Bags} {k : Int}
theorem all_len3 (hs : Sm64 L) (hl : B.length ≤ 8) (hb : SmB B 1000) : (allPl L B k).length ≤ 600000 := by
  have h3 : (allPl L B k).length ≤ (List.range B.length).length * (1000 * 64) := by
    unfold allPl
    refine flat_le fun j _ => ?_
    unfold nodePl
    exact Nat.le_trans (flat_le fun t _ => places_64 hs) (Nat.mul_le_mul_right _ (Nat.le_trans (posL_len _) (hb j)))
  rw [List.length_range] at h3
  have h5 : B.length * (1000 * 64) ≤ 8 * (1000 * 64) := Nat.mul_le_mul_right _ hl
  omega
theorem front_len (hs : Sm64 L) (hl : B.length ≤ 8) (hb : SmB B 1000) : (frontT L B k).length ≤ 600000 := Nat.le_trans (minL_len _) (all_len3 hs hl hb)
end
end Go.Proofs.YtcnmmnhlhenifaaGreat
namespace Go.Proofs.YtcnmmnhlhenifaaGreat
open Go.RowKit
set_option maxRecDepth 100000
set_option linter.unusedSimpArgs false
set_option linter.unusedVariables false
theorem nd_len {α : Type} [DecidableEq α] : ∀ {l m : List α}, l.Nodup → (∀ a ∈ l, a ∈ m) → l.length ≤ m.length
  | [], _, _, _ => Nat.zero_le _
  | a :: r, m, hn, hs => by
    obtain ⟨h1, h2⟩ := List.nodup_cons.1 hn
    have ha := hs a (by simp)
    have h3 := nd_len (m := m.erase a) h2 fun b hb => (List.mem_erase_of_ne (show b ≠ a from fun e => h1 (by rw [← e]; exact hb))).2 (hs b (by simp [hb]))
    rw [List.length_erase_of_mem ha] at h3
    have := List.length_pos_of_mem ha
    simp only [List.length_cons]; omega
section
variable {L : List (List (List St))} {B R : Bags} {p q : Po} {x k : Int} {s t u : St} {C D : List Ct}
theorem pos_nodup (h : BagOK C) : (posL C).Nodup := by
  unfold posL
  have hpw : (C.map (·.1)).Nodup := by
    show List.Pairwise _ _
    rw [List.pairwise_map]; exact h.asc.nodup
  exact hpw.sublist (List.Sublist.map _ List.filter_sublist)
theorem places_nodup : (placesC L p k).Nodup := by
  unfold placesC
  split
  · exact (minL_asc _).nodup
  · exact List.nodup_nil
theorem places_rightB (h : s ∈ placesC L p k) : s.rightB = true := by
  unfold placesC at h
  split at h
  · obtain ⟨q, _, h2, rfl⟩ := mem_sums1.1 (mem_minL.1 h).1
    rw [after_yes h2]
    unfold St.afterB at h2
    rw [Bool.and_eq_true] at h2
    exact h2.2
  · cases h
def hitC (L : List (List (List St))) (k : Int) (s : St) (i : Int) (C : List Ct) : Nat := (posL C).countP fun t => decide (s ∈ placesC L ⟨i, t⟩ k)
def sumF (f : Nat → Nat) : Nat → Nat
  | 0 => 0
  | n + 1 => sumF f n + f n
def cntH (L : List (List (List St))) (B : Bags) (k : Int) (s : St) : Nat := sumF (fun i => hitC L k s (i : Int) (atK B i)) B.length
theorem sumF_one {f g : Nat → Nat} {j : Nat} (h : ∀ i, i ≠ j → f i = g i) : ∀ n, sumF f n + (if j < n then g j else 0) = sumF g n + (if j < n then f j else 0)
  | 0 => rfl
  | n + 1 => by
    have ih := sumF_one h n
    simp only [sumF]
    by_cases e : n = j
    · subst e
      rw [if_neg (by omega), if_neg (by omega)] at ih
      rw [if_pos (by omega), if_pos (by omega)]; omega
    · rw [h n e]
      by_cases e2 : j < n
      · rw [if_pos e2, if_pos e2] at ih
        rw [if_pos (by omega), if_pos (by omega)]; omega
      · rw [if_neg e2, if_neg e2] at ih
        rw [if_neg (by omega), if_neg (by omega)]; omega
theorem sumF_le {f : Nat → Nat} {c : Nat} (h : ∀ i, f i ≤ c) : ∀ n, sumF f n ≤ n * c
  | 0 => by simp [sumF]
  | n + 1 => by
    have := sumF_le h n
    have := h n
    simp only [sumF, Nat.add_mul]; omega
theorem sumF_pos {f : Nat → Nat} : ∀ n, 0 < sumF f n ↔ ∃ i, i < n ∧ 0 < f i
  | 0 => ⟨fun h => by simp [sumF] at h, fun ⟨i, h, _⟩ => by omega⟩
  | n + 1 => by
    simp only [sumF]
    constructor
    · intro h
      by_cases h0 : 0 < f n
      · exact ⟨n, by omega, h0⟩
      · obtain ⟨i, hi, h1⟩ := (sumF_pos (f := f) n).1 (by omega)
        exact ⟨i, by omega, h1⟩
    · rintro ⟨i, hi, h1⟩
      by_cases e : i = n
      · subst e; omega
      · have := (sumF_pos (f := f) n).2 ⟨i, by omega, h1⟩; omega
theorem hit_le {m : Nat} (h : C.length ≤ m) (i : Int) : hitC L k s i C ≤ m := Nat.le_trans List.countP_le_length (Nat.le_trans (posL_len _) h)
theorem cntH_le {m : Nat} (hs : SmB B m) : cntH L B k s ≤ B.length * m := sumF_le (fun i => hit_le (hs i) _) _
theorem mem_all : s ∈ allPl L B k ↔ 0 < cntH L B k s := by
  unfold allPl nodePl cntH hitC
  rw [sumF_pos]
  simp only [List.mem_flatMap, List.mem_range, List.countP_pos_iff, decide_eq_true_iff]
theorem hit_perm (h : ∀ u, u ∈ posL D ↔ u ∈ posL C) (hC : BagOK C) (hD : BagOK D) (i : Int) : hitC L k s i D = hitC L k s i C := by
  unfold hitC
  exact ((List.perm_ext_iff_of_nodup (pos_nodup hD) (pos_nodup hC)).2 h).countP_eq _
theorem hit_more (h : ∀ u, u ∈ posL D ↔ u = t ∨ u ∈ posL C) (ht : ¬ t ∈ posL C) (hC : BagOK C) (hD : BagOK D) (i : Int) : hitC L k s i D = hitC L k s i C + (if s ∈ placesC L ⟨i, t⟩ k then 1 else 0) := by
  unfold hitC
  rw [((List.perm_ext_iff_of_nodup (pos_nodup hD) (List.nodup_cons.2 ⟨ht, pos_nodup hC⟩)).2 (fun u => by rw [h, List.mem_cons])).countP_eq, List.countP_cons]
  simp
def leadN (C : List Ct) (t : St) (n : Int) : Int := if 0 < ofC C t then (if 0 < ofC (addC C t n) t then 0 else -1) else (if 0 < ofC (addC C t n) t then 1 else 0)
theorem hit_add (hC : BagOK C) (t : St) (n : Int) (i : Int) : (hitC L k s i (addC C t n) : Int) = hitC L k s i C + (if s ∈ placesC L ⟨i, t⟩ k then leadN C t n else 0) := by
  have hD := hC.add t n
  have hne : ∀ u, u ≠ t → (u ∈ posL (addC C t n) ↔ u ∈ posL C) := fun u hu => by
    rw [mem_pos hD, mem_pos hC, of_add hC.asc, if_neg (fun z => hu z.1)]
  unfold leadN
  by_cases h1 : 0 < ofC C t <;> by_cases h2 : 0 < ofC (addC C t n) t
  · rw [if_pos h1, if_pos h2, hit_perm (fun u => ?_) hC hD]
    · simp
    · by_cases hu : u = t
      · subst hu; rw [mem_pos hD, mem_pos hC]; exact ⟨fun _ => h1, fun _ => h2⟩
      · exact hne u hu
  · rw [if_pos h1, if_neg h2, hit_more (C := addC C t n) (D := C) (t := t) (fun u => ?_) (fun z => h2 ((mem_pos hD).1 z)) hD hC]
    · split <;> simp <;> omega
    · by_cases hu : u = t
      · subst hu; rw [mem_pos hC]; exact ⟨fun _ => .inl rfl, fun _ => h1⟩
      · rw [← hne u hu]; exact ⟨.inr, fun z => z.resolve_left hu⟩
  · rw [if_neg h1, if_pos h2, hit_more (C := C) (D := addC C t n) (t := t) (fun u => ?_) (fun z => h1 ((mem_pos hC).1 z)) hC hD]
    · split <;> simp
    · by_cases hu : u = t
      · subst hu; rw [mem_pos hD]; exact ⟨fun _ => .inl rfl, fun _ => h2⟩
      · rw [hne u hu]; exact ⟨.inr, fun z => z.resolve_left hu⟩
  · rw [if_neg h1, if_neg h2, hit_perm (fun u => ?_) hC hD]
    · simp
    · by_cases hu : u = t
      · subst hu; rw [mem_pos hD, mem_pos hC]; exact ⟨fun z => absurd z h2, fun z => absurd z h1⟩
      · exact hne u hu
theorem cnt_add (hr : rightC L p = true) (hl : L.length = B.length) (hB : OKs B) : (cntH L (addTB L B p x) k s : Int) = cntH L B k s + (if s ∈ placesC L p k then leadN (atK B p.n.toNat) p.t x else 0) := by
  have hp := (rightC_at hr).2.1
  have hj : p.n.toNat < B.length := by omega
  unfold cntH
  rw [addT_len]
  have h1 := sumF_one (f := fun i => hitC L k s (i : Int) (atK (addTB L B p x) i)) (g := fun i => hitC L k s (i : Int) (atK B i)) (j := p.n.toNat) (fun i hi => by
    show hitC L k s (i : Int) (atK (addTB L B p x) i) = hitC L k s (i : Int) (atK B i)
    rw [(addT_yes hr).2, atK_set hj, if_neg (fun z => hi z.symm)]) B.length
  rw [if_pos hj, if_pos hj] at h1
  have h2 := hit_add (L := L) (k := k) (s := s) (hB _ hj) p.t x (p.n.toNat : Int)
  have h3 : atK (addTB L B p x) p.n.toNat = addC (atK B p.n.toNat) p.t x := by rw [(addT_yes hr).2, atK_set hj, if_pos rfl]
  have h4 : (⟨(p.n.toNat : Int), p.t⟩ : Po) = p := by cases p; simp at hp ⊢; omega
  simp only [h3] at h1
  rw [h4] at h2
  omega
structure InvR (L : List (List (List St))) (B R : Bags) : Prop where
  len : R.length = B.length
  ok : OKs R
  of : ∀ i, i < B.length → ∀ s, ofC (atK R i) s = (cntH L B (i : Int) s : Int)
theorem InvR.new (n : Nat) : InvR L (List.replicate n []) (List.replicate n []) := ⟨rfl, ok_new n, fun i hi s => by
  rw [List.length_replicate] at hi
  have h0 : cntH L (List.replicate n []) (i : Int) s = 0 := by
    by_cases h : 0 < cntH L (List.replicate n []) (i : Int) s
    · obtain ⟨j, _, h1⟩ := (sumF_pos _).1 h
      simp only [hitC, List.countP_pos_iff] at h1
      obtain ⟨u, hu, _⟩ := h1
      rw [show atK (List.replicate n []) j = [] by unfold atK; rw [List.getD_eq_getElem?_getD, List.getElem?_replicate]; split <;> rfl] at hu
      cases hu
    · omega
  rw [h0, atK_eq (by simpa using hi), List.getElem_replicate]; rfl⟩
theorem InvR.front (h : InvR L B R) (h0 : 0 ≤ k) (hk : k < (B.length : Int)) : minL (posL (atK R k.toNat)) = frontT L B k := by
  unfold frontT
  refine min_mem fun t => ?_
  rw [mem_pos (h.ok _ (by rw [h.len]; omega)), h.of _ (by omega), mem_all, show ((k.toNat : Nat) : Int) = k by omega]
  omega
theorem InvR.small (h : InvR L B R) (hs : Sm64 L) (hl : B.length ≤ 8) (hb : SmB B 1000) {i : Nat} (hi : i < B.length) : (atK R i).length ≤ 600000 := by
  have h1 : ∀ t ∈ (atK R i).map (·.1), t ∈ allPl L B (i : Int) := fun t ht => by
    obtain ⟨c, hc, rfl⟩ := List.mem_map.1 ht
    have h2 := (h.ok i (by rw [h.len]; exact hi)).mem.1 hc
    rw [mem_all]
    have h3 := h.of i hi c.1
    rw [h2.1] at h3
    have := h2.2
    omega
  have hnd : ((atK R i).map (·.1)).Nodup := by
    show List.Pairwise _ _
    rw [List.pairwise_map]; exact (h.ok i (by rw [h.len]; exact hi)).asc.nodup
  have h2 := nd_len hnd h1
  rw [List.length_map] at h2
  refine Nat.le_trans h2 ?_
  exact all_len3 hs hl hb
def leadC (C : List Ct) (l : List St) (n : Int) : List Ct := l.foldl (fun C s => addC C s n) C
theorem leadC_ok (h : BagOK C) (n : Int) : ∀ l, BagOK (leadC C l n) := by
  intro l
  unfold leadC
  induction l generalizing C with
  | nil => exact h
  | cons a r ih => exact ih (h.add a n)
theorem leadC_snoc (C : List Ct) (l : List St) (n : Int) (s : St) : leadC C (l ++ [s]) n = addC (leadC C l n) s n := by unfold leadC; rw [List.foldl_append]; rfl
theorem leadC_of {l : List St} {n : Int} (hC : BagOK C) (hn : l.Nodup) (hr : ∀ s ∈ l, s.rightB = true ∧ -1000000000 ≤ ofC C s + n ∧ ofC C s + n ≤ 1000000000) : ofC (leadC C l n) s = ofC C s + if s ∈ l then n else 0 := by
  unfold leadC
  induction l generalizing C with
  | nil => simp
  | cons a r ih =>
    obtain ⟨h1, h2⟩ := List.nodup_cons.1 hn
    have ha := hr a (by simp)
    have h0 : addE C a n = 0 := add_iff.2 ha
    have hof : ∀ u, ofC (addC C a n) u = if u = a then ofC C a + n else ofC C u := fun u => by
      rw [of_add hC.asc]; simp [h0]
    rw [List.foldl_cons, ih (hC.add a n) h2 (fun u hu => by
      rw [hof, if_neg (show ¬ u = a from fun e => h1 (by rw [← e]; exact hu))]
      exact hr u (by simp [hu])), hof]
    by_cases e : s = a
    · subst e; simp [h1]
    · simp [e]
def leadR (L : List (List (List St))) (R : Bags) (p : Po) (n : Int) : Nat → Bags
  | 0 => R
  | j + 1 => (leadR L R p n j).set j (leadC (atK (leadR L R p n j) j) (placesC L p (j : Int)) n)
theorem leadR_len (n : Int) : ∀ j, (leadR L R p n j).length = R.length
  | 0 => rfl
  | j + 1 => by rw [leadR, List.length_set, leadR_len n j]
theorem leadR_at (n : Int) : ∀ j i, i < R.length → j ≤ R.length → atK (leadR L R p n j) i = if i < j then leadC (atK R i) (placesC L p (i : Int)) n else atK R i
  | 0, _, _, _ => rfl
  | j + 1, i, hi, hj => by
    have ih := leadR_at n j i hi (by omega)
    have ihj := leadR_at n j j (by omega) (by omega)
    rw [if_neg (by omega)] at ihj
    rw [leadR, atK_set (by rw [leadR_len]; omega)]
    by_cases e : j = i
    · subst e
      rw [if_pos rfl, if_pos (by omega), ihj]
    · rw [if_neg e, ih]
      by_cases h1 : i < j
      · rw [if_pos h1, if_pos (by omega)]
      · rw [if_neg h1, if_neg (by omega)]
theorem InvR.lead {n : Int} (h : InvR L B R) (hr : rightC L p = true) (hl : L.length = B.length) (hB : OKs B) (hb : SmB B 1000) (hn : leadN (atK B p.n.toNat) p.t x = n) : InvR L (addTB L B p x) (leadR L R p n L.length) := by
  have h8 : B.length ≤ 8 := by have := (rightC_at hr).1.2; omega
  have hn1 : n = -1 ∨ n = 0 ∨ n = 1 := by
    rw [← hn]; unfold leadN
    split <;> split <;> simp
  have hat : ∀ i, i < B.length → atK (leadR L R p n L.length) i = leadC (atK R i) (placesC L p (i : Int)) n := fun i hi => by
    rw [leadR_at n _ i (by rw [h.len]; exact hi) (by rw [h.len]; omega), if_pos (by omega)]
  refine ⟨by rw [leadR_len, addT_len, h.len], fun i hi => ?_, fun i hi s => ?_⟩
  · rw [leadR_len, h.len] at hi
    rw [hat i hi]
    exact leadC_ok (h.ok i (by rw [h.len]; exact hi)) n _
  · rw [addT_len] at hi
    rw [hat i hi, leadC_of (h.ok i (by rw [h.len]; exact hi)) places_nodup (fun u hu => ⟨places_rightB hu, ?_⟩), h.of i hi, cnt_add hr hl hB, hn]
    have h1 := h.of i hi u
    have h2 := cntH_le (L := L) (k := (i : Int)) (s := u) hb
    have h3 : B.length * 1000 ≤ 8 * 1000 := Nat.mul_le_mul_right _ h8
    omega
theorem InvR.same (h : InvR L B R) (hr : rightC L p = true) (hl : L.length = B.length) (hB : OKs B) (hn : leadN (atK B p.n.toNat) p.t x = 0) : InvR L (addTB L B p x) R :=
  ⟨by rw [addT_len, h.len], h.ok, fun i hi s => by
    rw [addT_len] at hi
    rw [h.of i hi, cnt_add hr hl hB, hn]; simp⟩
end
end Go.Proofs.YtcnmmnhlhenifaaGreat
namespace Go.Proofs.YtcnmmnhlhenifaaGreat
open Go.RowKit
set_option maxRecDepth 100000
set_option linter.unusedSimpArgs false
set_option linter.unusedVariables false
def fpE (B : List Ent) : List Nat := B.flatMap Ent.fp
theorem mem_fpE {B : List Ent} {g : Nat} : g ∈ fpE B ↔ ∃ x ∈ B, g ∈ x.fp := by unfold fpE; rw [List.mem_flatMap]
structure PkV (B : List Ent) (w : World) : Prop where
  has : ∀ x ∈ B, x.at w
  base : ∀ x ∈ B, x.base = []
  nd : B.Pairwise (fun x y => ∀ g ∈ x.fp, ¬ g ∈ y.fp)
theorem Ent.loc {x : Ent} (hb : x.base = []) : Loc x.fp (fun w => x.at w) := fun w w' hk h => by
  refine ⟨?_, Ent.lt h⟩
  cases x with
  | blk g t cs => exact (blk_loc w w' hk h).1
  | row t m v n xs =>
    have h : w.ownsRow 0 t m v n xs := h
    refine ⟨h.1, ?_⟩
    rcases h.2 with h4 | ⟨g, cap, cur, h4, h5, h6, h7⟩
    · exact .inl h4
    · exact .inr ⟨g, cap, cur, h4, h5, (hk g (by simp [Ent.fp, h4, Value.ownBlock])).trans h6, h7⟩
  | arg m v n xs =>
    have h : RdV w m v n xs := h
    have hn : n = 0 := by
      by_cases h0 : n = 0
      · exact h0
      · rw [show (Ent.arg m v n xs).base = [gof v] from if_neg h0] at hb; cases hb
    obtain ⟨h0, A, c, rfl, h1, h2, h3⟩ := h
    exact ⟨h0, A, c, rfl, h1, h2, fun hn' => by omega⟩
  | got m v n xs =>
    have h : RdV w m v n xs := h
    obtain ⟨h0, A, c, rfl, h1, h2, h3⟩ := h
    refine ⟨h0, A, c, rfl, h1, h2, fun hn' => ?_⟩
    obtain ⟨g, off, rfl, h4, h5⟩ := h3 hn'
    have hg := hk g (by rw [show (Ent.got m (.slice (some ⟨g, off, none⟩) n c) n xs).fp = [g] from if_neg (by omega)]; simp)
    refine ⟨g, off, rfl, ?_, fun j u hj => by rw [World.cell?_of_block hg]; exact h5 j u hj⟩
    have h6 : w.heap[g]? = some w.heap[g] := Array.getElem?_eq_getElem h4
    rw [← hg] at h6
    exact (Array.getElem?_eq_some_iff.1 h6).1
  | own fp Φ => exact ⟨(h.2 w w' hk h.1).1, h.2⟩
  | ext fp Φ =>
    have hb : fp = [] := hb
    subst hb
    exact ⟨(h.2 w w' (fun g hg => by cases hg) h.1).1, h.2⟩
section
variable {R : List Nat} {w0 w w' : World} {B C X : List Ent}
theorem PkV.loc (B : List Ent) : Loc (fpE B) (PkV B) := fun w w' hk h =>
  ⟨⟨fun x hx => (Ent.loc (h.base x hx) w w' (fun g hg => hk g (mem_fpE.2 ⟨x, hx, hg⟩)) (h.has x hx)).1, h.base, h.nd⟩, fun g hg => by
    obtain ⟨x, hx, hg⟩ := mem_fpE.1 hg
    exact Ent.lt (h.has x hx) g hg⟩
theorem PkV.start (h : PkV B w) : Mm (fpE B) w w B := ⟨Out.refl _ _, h.has, fun x hx g hg => .inr (mem_fpE.2 ⟨x, hx, hg⟩), fun x hx g hg => (by rw [h.base x hx] at hg; cases hg), h.nd⟩
theorem Mm.pkv (M : Mm R w0 w B) (hb : ∀ x ∈ B, x.base = []) : PkV B w := ⟨M.has, hb, M.nd⟩
theorem Mm.pkTurns {v : Value} {Φ : World → Prop} {fp : List Nat} {Z : Value → Ent → Prop} (M : Mm R w0 w B) (hR : R = fp) (hb : ∀ x ∈ B, x.base = []) {Ψ : World → Prop} (hΨ : Ψ w) (hl : Loc (fpE B) Ψ) (hz : Z v (.own (fpE B) Ψ)) :
    TurnsE w0 (.own fp Φ) Z (.returned v) w :=
  ⟨v, .own (fpE B) Ψ, rfl, hR ▸ M.out, ⟨hΨ, hl⟩, fun g hg => by
    obtain ⟨x, hx, hg⟩ := mem_fpE.1 (show g ∈ fpE B from hg)
    rcases M.own x hx g hg with h | h
    · exact .inr h
    · exact .inl (hR ▸ h), rfl, hz⟩
theorem Mm.pkMakes {v : Value} {Z : Value → Ent → Prop} (M : Mm [] w0 w B) {Ψ : World → Prop} (hΨ : Ψ w) (hl : Loc (fpE B) Ψ) (hz : Z v (.own (fpE B) Ψ)) : MakesE w0 Z (.returned v) w :=
  ⟨v, .own (fpE B) Ψ, rfl, M.bel, ⟨hΨ, hl⟩, fun g hg => by
    obtain ⟨x, hx, hg⟩ := mem_fpE.1 (show g ∈ fpE B from hg)
    exact (M.own x hx g hg).elim id (fun z => by cases z), rfl, hz⟩
theorem PkV.get (h : PkV B w) {i : Nat} {x : Ent} (hi : B[i]? = some x) : x.at w := h.has x (List.mem_of_getElem? hi)
theorem PkV.pv (h : PkV B w) {i : Nat} {fp : List Nat} {Φ : World → Prop} (hi : B[i]? = some (.own fp Φ)) : Φ w := (show Φ w ∧ Loc fp Φ from h.get hi).1
theorem PkV.blk (h : PkV B w) {i g : Nat} {t : TypeId} {cs : Array Value} (hi : B[i]? = some (.blk g t cs)) : Blk w g t cs := h.get hi
theorem PkV.apart (h : PkV B w) {i j : Nat} {x y : Ent} (hi : B[i]? = some x) (hj : B[j]? = some y) (hne : i ≠ j) : ∀ g ∈ x.fp, ¬ g ∈ y.fp := by
  have hp := List.pairwise_iff_getElem.1 h.nd
  obtain ⟨hi', rfl⟩ := List.getElem?_eq_some_iff.1 hi
  obtain ⟨hj', rfl⟩ := List.getElem?_eq_some_iff.1 hj
  rcases Nat.lt_or_gt_of_ne hne with h1 | h1
  · exact hp i j hi' hj' h1
  · exact fun g hg hg' => hp j i hj' hi' h1 g hg' hg
theorem Mm.pick (M : Mm R w0 w B) (is : List Nat) (hn : is.Nodup) {X : List Ent} (h : is.map (fun i => B[i]?) = X.map some) : Mm R w0 w X := by
  have hl : is.length = X.length := by have := congrArg List.length h; simpa using this
  have hat : ∀ k (hk : k < X.length), B[is[k]'(by omega)]? = some X[k] := fun k hk => by
    have := congrArg (fun l => l[k]?) h
    simpa [List.getElem?_eq_getElem hk, List.getElem?_eq_getElem (show k < is.length by omega)] using this
  have hm : ∀ x ∈ X, x ∈ B := fun x hx => by
    obtain ⟨k, hk, rfl⟩ := List.mem_iff_getElem.1 hx
    exact List.mem_of_getElem? (hat k hk)
  refine ⟨M.out, fun x hx => M.has x (hm x hx), fun x hx => M.own x (hm x hx), fun x hx => M.far x (hm x hx), ?_⟩
  rw [List.pairwise_iff_getElem]
  intro a b ha hb hab
  refine M.apart (hat a ha) (hat b hb) fun e => ?_
  exact (List.pairwise_iff_getElem.1 hn) a b (by omega) (by omega) hab e
end
end Go.Proofs.YtcnmmnhlhenifaaGreat
namespace Go.Proofs.YtcnmmnhlhenifaaGreat
open Go.RowKit
set_option maxRecDepth 100000
set_option linter.unusedSimpArgs false
set_option linter.unusedVariables false
def bkP (K : List (Nat × Nat)) (i : Nat) : Nat := (K.getD i (0, 0)).1
def bkM (K : List (Nat × Nat)) (i : Nat) : Nat := (K.getD i (0, 0)).2
def pad (K : List (Nat × Nat)) (i : Nat) : Option Addr := K[i]?.map fun k => ⟨k.1, 0, none⟩
def arr8 (K : List (Nat × Nat)) : List Value := [.pointer (pad K 0), .pointer (pad K 1), .pointer (pad K 2), .pointer (pad K 3), .pointer (pad K 4), .pointer (pad K 5), .pointer (pad K 6), .pointer (pad K 7)]
def fpK (K : List (Nat × Nat)) : List Nat := K.flatMap fun k => [k.1, k.2]
section
variable {K : List (Nat × Nat)} {B : Bags} {i j p g : Nat} {w w' : World}
theorem bk_eq (h : i < K.length) : (bkP K i, bkM K i) = K[i] := by unfold bkP bkM; rw [List.getD_eq_getElem?_getD, List.getElem?_eq_getElem h]; rfl
theorem bkP_eq (h : i < K.length) : bkP K i = K[i].1 := by rw [← bk_eq h]
theorem pad_eq (h : i < K.length) : pad K i = some ⟨bkP K i, 0, none⟩ := by unfold pad; rw [List.getElem?_eq_getElem h, bkP_eq h]; rfl
theorem arr8_len : (arr8 K).length = 8 := rfl
theorem arr8_get (h8 : i < 8) : (arr8 K)[i]? = some (.pointer (pad K i)) := by
  match i, h8 with
  | 0, _ => rfl
  | 1, _ => rfl
  | 2, _ => rfl
  | 3, _ => rfl
  | 4, _ => rfl
  | 5, _ => rfl
  | 6, _ => rfl
  | 7, _ => rfl
theorem pad_get (pre post : List Value) {o : Nat} (h : i < K.length) (h8 : K.length ≤ 8) (ho : o = pre.length) : (List.toArray (pre ++ (arr8 K ++ post)))[o + i * 1]? = some (.pointer (some ⟨bkP K i, 0, none⟩)) := by
  subst ho
  rw [List.getElem?_toArray, List.getElem?_append_right (by omega), show pre.length + i * 1 - pre.length = i by omega, List.getElem?_append_left (by rw [arr8_len]; omega), arr8_get (by omega), pad_eq h]
theorem arr8_push (hl : K.length = i) (h8 : i < 8) : (arr8 K).set i (.pointer (some ⟨p, 0, none⟩)) = arr8 (K ++ [(p, g)]) := by
  apply List.ext_getElem?
  intro q
  rw [List.getElem?_set]
  by_cases e : i = q
  · subst e
    rw [if_pos rfl, if_pos (by rw [arr8_len]; exact h8), arr8_get h8, pad_eq (by simp; omega)]
    unfold bkP
    rw [List.getD_eq_getElem?_getD, List.getElem?_append_right (by omega), hl]; simp
  · rw [if_neg e]
    by_cases h : q < 8
    · rw [arr8_get h, arr8_get h]
      congr 2
      unfold pad
      congr 1
      by_cases h1 : q < K.length
      · rw [List.getElem?_append_left h1]
      · rw [List.getElem?_eq_none (by omega), List.getElem?_eq_none (by simp; omega)]
    · rw [List.getElem?_eq_none (by rw [arr8_len]; omega), List.getElem?_eq_none (by rw [arr8_len]; omega)]
theorem arr8_store (hl : K.length = i) (h8 : i < 8) : (List.toArray (arr8 K)).setIfInBounds (0 + i * 1) (.pointer (some ⟨p, 0, none⟩)) = List.toArray (arr8 (K ++ [(p, g)])) := by
  rw [List.setIfInBounds_toArray, show 0 + i * 1 = i by omega, arr8_push hl h8]
theorem mem_fpK : g ∈ fpK K ↔ ∃ i, i < K.length ∧ (g = bkP K i ∨ g = bkM K i) := by
  unfold fpK
  rw [List.mem_flatMap]
  constructor
  · rintro ⟨k, hk, hg⟩
    obtain ⟨i, hi, rfl⟩ := List.mem_iff_getElem.1 hk
    rw [← bk_eq hi] at hg
    exact ⟨i, hi, by simpa using hg⟩
  · rintro ⟨i, hi, hg⟩
    exact ⟨K[i], List.getElem_mem hi, by rw [← bk_eq hi]; simpa using hg⟩
structure BgsV (K : List (Nat × Nat)) (B : Bags) (w : World) : Prop where
  len : B.length = K.length
  all : ∀ i, i < K.length → BagV (bkP K i) (bkM K i) (atK B i) w
  nd : ∀ i j, i < K.length → j < K.length → i ≠ j → ∀ g ∈ [bkP K i, bkM K i], ¬ g ∈ [bkP K j, bkM K j]
theorem BgsV.loc (K : List (Nat × Nat)) (B : Bags) : Loc (fpK K) (BgsV K B) := fun w w' hk h => by
  refine ⟨⟨h.len, fun i hi => (BagV.loc _ _ _ w w' (fun g hg => hk g (mem_fpK.2 ⟨i, hi, by simpa using hg⟩)) (h.all i hi)).1, h.nd⟩, fun g hg => ?_⟩
  obtain ⟨i, hi, hg⟩ := mem_fpK.1 hg
  exact (BagV.loc _ _ _ w w (fun _ _ => rfl) (h.all i hi)).2 g (by simpa using hg)
theorem BgsV.ok (h : BgsV K B w) : OKs B := fun i hi => by
  have hi' : i < K.length := by rw [← h.len]; exact hi
  exact (h.all i hi').2.2
theorem BgsV.nil (w : World) : BgsV [] [] w := ⟨rfl, fun i hi => absurd hi (Nat.not_lt_zero i), fun i j hi => absurd hi (Nat.not_lt_zero i)⟩
theorem BgsV.turn (h : BgsV K B w) (hi : i < K.length) {e : Ending} {Zv : Value → Prop} {C : List Ct}
    (ht : TurnsE w (.own [bkP K i, bkM K i] (BagV (bkP K i) (bkM K i) (atK B i))) (fun u x' => Zv u ∧ x' = .own [bkP K i, bkM K i] (BagV (bkP K i) (bkM K i) C)) e w') :
    TurnsE w (.own (fpK K) (BgsV K B)) (fun u x' => Zv u ∧ x' = .own (fpK K) (BgsV K (B.set i C))) e w' := by
  obtain ⟨v, x', h1, h2, h3, h4, h5, h6, rfl⟩ := ht
  refine ⟨v, .own (fpK K) (BgsV K (B.set i C)), h1, h2.mono (fun g hg => mem_fpK.2 ⟨i, hi, by simpa [Ent.fp] using hg⟩), ⟨⟨by rw [List.length_set, h.len], fun j hj => ?_, h.nd⟩, BgsV.loc _ _⟩, fun g hg => .inl hg, rfl, h6, rfl⟩
  rw [atK_set (by rw [h.len]; exact hi)]
  split
  · rename_i e; subst e; exact h3.1
  · rename_i e
    have hb := h.all j hj
    have hlt := (BagV.loc _ _ _ w w (fun _ _ => rfl) hb).2
    exact (BagV.loc _ _ _ w w' (fun g hg => h2.block g (hlt g hg) (h.nd j i hj hi (fun z => e z.symm) g hg)) hb).1
theorem BgsV.push (h : BgsV K B w) (ha : BagV p g [] w) (hd : ∀ q ∈ [p, g], ¬ q ∈ fpK K) : BgsV (K ++ [(p, g)]) (B ++ [[]]) w := by
  have e1 : ∀ j, j < K.length → bkP (K ++ [(p, g)]) j = bkP K j ∧ bkM (K ++ [(p, g)]) j = bkM K j := fun j hj => by
    unfold bkP bkM
    simp only [List.getD_eq_getElem?_getD, List.getElem?_append_left hj]
    exact ⟨trivial, trivial⟩
  have e2 : bkP (K ++ [(p, g)]) K.length = p ∧ bkM (K ++ [(p, g)]) K.length = g := by
    unfold bkP bkM
    simp [List.getD_eq_getElem?_getD]
  have hl := h.len
  refine ⟨by simp [hl], fun j hj => ?_, fun a b ha hb hab q hq hq' => ?_⟩
  · rw [List.length_append, List.length_singleton] at hj
    by_cases hj' : j < K.length
    · rw [(e1 j hj').1, (e1 j hj').2, show atK (B ++ [[]]) j = atK B j by unfold atK; rw [List.getD_eq_getElem?_getD, List.getD_eq_getElem?_getD, List.getElem?_append_left (by omega)]]
      exact h.all j hj'
    · have : j = K.length := by omega
      subst this
      rw [e2.1, e2.2, show atK (B ++ [[]]) K.length = [] by unfold atK; rw [List.getD_eq_getElem?_getD, ← hl]; simp]
      exact ha
  · rw [List.length_append, List.length_singleton] at ha hb
    by_cases ha' : a < K.length
    · rw [(e1 a ha').1, (e1 a ha').2] at hq
      by_cases hb' : b < K.length
      · rw [(e1 b hb').1, (e1 b hb').2] at hq'
        exact h.nd a b ha' hb' hab q hq hq'
      · have : b = K.length := by omega
        subst this
        rw [e2.1, e2.2] at hq'
        exact hd q hq' (mem_fpK.2 ⟨a, ha', by simpa using hq⟩)
    · have : a = K.length := by omega
      subst this
      rw [e2.1, e2.2] at hq
      by_cases hb' : b < K.length
      · rw [(e1 b hb').1, (e1 b hb').2] at hq'
        exact hd q hq (mem_fpK.2 ⟨b, hb', by simpa using hq'⟩)
      · omega
end
theorem fpK_push {K : List (Nat × Nat)} {p g q : Nat} : q ∈ fpK (K ++ [(p, g)]) ↔ q ∈ fpK K ∨ q ∈ [p, g] := by unfold fpK; rw [List.flatMap_append, List.mem_append]; simp
theorem Mm.pushK {K : List (Nat × Nat)} {n p g : Nat} {R : List Nat} {w w0 : World} {C : List Ent} (M : Mm R w0 w (.own [p, g] (BagV p g []) :: .own (fpK K) (BgsV K (List.replicate n [])) :: C)) :
    Mm R w0 w (.own (fpK (K ++ [(p, g)])) (BgsV (K ++ [(p, g)]) (List.replicate (n + 1) [])) :: C) := by
  have hap := M.apart (i := 0) (j := 1) rfl rfl (by decide)
  refine Mm.recast (X := [.own [p, g] (BagV p g []), .own (fpK K) (BgsV K (List.replicate n []))]) (Y := [_]) M (fun y hy => ?_) (fun y hy q hq => ?_) (List.pairwise_singleton _ _) (fun y hy q hq => ?_)
  · rw [List.mem_singleton.1 hy]
    rw [List.replicate_succ']
    exact ⟨(M.pv (i := 1) rfl).push (M.pv (i := 0) rfl) hap, BgsV.loc _ _⟩
  · rw [List.mem_singleton.1 hy] at hq
    rcases fpK_push.1 (show q ∈ fpK (K ++ [(p, g)]) from hq) with h | h
    · exact ⟨.own (fpK K) (BgsV K (List.replicate n [])), by simp, h⟩
    · exact ⟨.own [p, g] (BagV p g []), by simp, h⟩
  · rw [List.mem_singleton.1 hy] at hq; cases hq
theorem Mm.sel {R : List Nat} {w0 w : World} {B : List Ent} (M : Mm R w0 w B) (is : List Nat) (hn : is.Nodup) {X : List Ent} (h : is.map (fun i => B[i]?) = X.map some) : Mm R w0 w X := by
  have hl : is.length = X.length := by have := congrArg List.length h; simpa using this
  have hat : ∀ k (hk : k < X.length), B[is[k]'(by omega)]? = some X[k] := fun k hk => by
    have := congrArg (fun l => l[k]?) h
    simpa [List.getElem?_eq_getElem hk, List.getElem?_eq_getElem (show k < is.length by omega)] using this
  have hm : ∀ x ∈ X, x ∈ B := fun x hx => by
    obtain ⟨k, hk, rfl⟩ := List.mem_iff_getElem.1 hx
    exact List.mem_of_getElem? (hat k hk)
  refine ⟨M.out, fun x hx => M.has x (hm x hx), fun x hx => M.own x (hm x hx), fun x hx => M.far x (hm x hx), ?_⟩
  rw [List.pairwise_iff_getElem]
  intro a b ha hb hab
  refine M.apart (hat a ha) (hat b hb) fun e => ?_
  exact (List.pairwise_iff_getElem.1 hn) a b (by omega) (by omega) hab e
end Go.Proofs.YtcnmmnhlhenifaaGreat
namespace Go.Proofs.YtcnmmnhlhenifaaGreat
open Go.RowKit
set_option maxRecDepth 100000
set_option linter.unusedSimpArgs false
set_option linter.unusedVariables false
abbrev Ad := Po × Int
def encA : Enc Ad := ⟨4, fun a => [.int .i64 a.1.n, .int .i64 a.1.t.e, .int .i64 a.1.t.r, .int .i64 a.2], (⟨0, St.zero⟩, 0), fun _ => rfl, fun a v h => by
  simp only [List.mem_cons, List.not_mem_nil, or_false] at h
  rcases h with rfl | rfl | rfl | rfl <;> rfl⟩
def cA (L : List Ad) : List Value := cE encA L
def atA (L : List Ad) (i : Nat) : Ad := atE encA L i
abbrev RdA (w : World) (v : Value) (L : List Ad) : Prop := RdV w 4 v L.length (cA L)
def encQ : Enc Po := ⟨3, fun p => [.int .i64 p.n, .int .i64 p.t.e, .int .i64 p.t.r], ⟨0, St.zero⟩, fun _ => rfl, fun a v h => by
  simp only [List.mem_cons, List.not_mem_nil, or_false] at h
  rcases h with rfl | rfl | rfl <;> rfl⟩
def cQ (L : List Po) : List Value := cE encQ L
def atQ (L : List Po) (i : Nat) : Po := atE encQ L i
section
variable {α : Type} {E : Enc α} {w : World} {v : Value} {n k : Nat} {L : List α}
end
theorem front_out {L : List (List (List St))} {B : Bags} {k : Int} (h : ¬ (0 ≤ k ∧ k < (L.length : Int))) : frontT L B k = [] := by
  have : allPl L B k = [] := by
    unfold allPl nodePl
    rw [List.flatMap_eq_nil_iff]
    intro i _
    rw [List.flatMap_eq_nil_iff]
    intro t _
    exact pl_no (.inr h)
  unfold frontT; rw [this]; rfl
theorem clo_len {n : Int} {E : List Ed} (h : (cloG n E).2 = 0) : ((cloG n E).1).length = n.toNat ∧ 1 ≤ n ∧ n ≤ 8 := by
  obtain ⟨⟨h1, h8, _⟩, hc, _⟩ := (clo_cases n E).resolve_left fun z => z.2 h
  rw [hc]; exact ⟨cloT_len _ _ _, h1, h8⟩
def exC (L : List (List (List St))) (B : Bags) (p : Po) (i j : Nat) : Prop := (∃ m, m < i ∧ ∃ t ∈ posL (atK B m), couldC L ⟨(m : Int), t⟩ p = true) ∨ ∃ t ∈ posL ((atK B i).take j), couldC L ⟨(i : Int), t⟩ p = true
section
variable {L : List (List (List St))} {B : Bags} {p : Po}
end
section
variable {L : List (List (List St))} {n : Nat} {p : Po} {x k : Int}
end
section
variable {n : Int} {E : List Ed} {B : Bags} {T U : List Po} {p q r : Po} {L : List (List (List St))}
theorem RepT.one {m : Nat} (hL : L.length = m) (hr : rightC L r = true) : RepT L (addTB L (List.replicate m []) r 1) [r] := by
  have h0 : RepT L (List.replicate m []) [] := RepT.start (by simp [hL]) (ok_new m) fun q _ => new_of
  exact h0.add hr (by simp)
theorem RepT.over {j : Int} (h : RepT L B (U.drop j.toNat)) (hj : ¬ j < (U.length : Int)) : passedT L B p = rightC L p ∧ ∀ k, (frontT L B k).length = 0 := by
  rw [List.drop_eq_nil_of_le (by omega)] at h
  exact ⟨passed_nil h.none, fun k => by rw [front_nil h.none]; rfl⟩
end
def rotG {α : Type} (l : List α) (k : Nat) : List α := l.drop k ++ l.take k
end Go.Proofs.YtcnmmnhlhenifaaGreat
