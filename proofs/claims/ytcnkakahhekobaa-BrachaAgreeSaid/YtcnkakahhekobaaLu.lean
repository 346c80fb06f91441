/- Opening of bytes, strings, frames and entries that came in. Any seat with layer 9 in it. -/
import Derived.Test.YtcnkakahhekobaaLc
import Derived.Test.YtcnkakahhekobaaUr
import Derived.SizedLaws
namespace Go.Proofs.Ytcnkakahhekobaa
open Go.ChangeShapes Go.WideShapes Go.ChangeAt Go.RowKit Go.Joins Go.Deep
set_option maxRecDepth 100000
set_option linter.unusedSimpArgs false
set_option linter.unusedVariables false

section
variable {P : Program} {t e : TypeId} {α : Type}
theorem opens_u8 (h : P.underlying t = some (.int .u8)) : Opens P t (fun b : UInt8 => [.int .u8 (u8 b)]) (fun _ => True) := by
  intro H enc W base sp held fuel cs x hx
  obtain ⟨z, e, _, w⟩ := DataW.trod_int h hx
  have hz := wf8 w
  refine ⟨byteU z, ?_, trivial⟩
  rw [e]
  show [Value.int .u8 z] = [Value.int .u8 (u8 (byteU z))]
  rw [u8_byte, show z % 256 = z by omega]
theorem opens_str (h : P.underlying t = some .string) : Opens P t (fun L : List UInt8 => [strV L]) (fun L => L.length ≤ maxLen) := by
  intro H enc W base sp held fuel cs x hx
  obtain ⟨s, e, _, hs⟩ := DataW.trod_string h hx
  exact ⟨s.data.toList, e, by simpa using hs⟩
theorem chunksU {f : α → List Value} {I : α → Prop} {m : Nat} (hm : ∀ a, (f a).length = m) : ∀ (n : Nat) (cs : List Value), cs.length = n * m → (∀ i, i < n → ∃ a, (cs.drop (i * m)).take m = f a ∧ I a) → ∃ L : List α, L.length = n ∧ cs = L.flatMap f ∧ ∀ a ∈ L, I a
  | 0, cs, hl, _ => ⟨[], rfl, by simpa using hl, fun a ha => by cases ha⟩
  | n + 1, cs, hl, h => by
    obtain ⟨a, ha, hI⟩ := h 0 (by omega)
    rw [Nat.zero_mul, List.drop_zero] at ha
    obtain ⟨L, h1, h2, h3⟩ := chunksU hm n (cs.drop m) (by rw [List.length_drop, hl, Nat.add_mul]; omega) fun i hi => by
      have := h (i + 1) (by omega)
      rwa [show (i + 1) * m = m + i * m by rw [Nat.add_mul]; omega, ← List.drop_drop] at this
    refine ⟨a :: L, by simp [h1], ?_, fun b hb => ?_⟩
    · rw [List.flatMap_cons, ← ha, ← h2, List.take_append_drop]
    · rcases List.mem_cons.1 hb with rfl | hb
      · exact hI
      · exact h3 b hb
/-- An array. -/
theorem opens_array {n m : Nat} {f : α → List Value} {I : α → Prop} (hm : ∀ a, (f a).length = m) (hua : P.underlying t = some (.array n e)) (hC : P.cellsOf e = m) (hCa : P.cellsOf t = n * m) (ho : Opens P e f I) : Opens P t (fun L : List α => L.flatMap f) (fun L => L.length = n ∧ ∀ a ∈ L, I a) := by
  intro H enc W base sp held fuel cs x hx
  obtain ⟨xs, q, _, _, hl, hlen, heach⟩ := DataW.trod_array hua hx
  obtain ⟨L, h1, h2, h3⟩ := chunksU (I := I) hm n cs (by rw [hl, hCa]) fun i hi => by
    have e0 := heach i hi
    rw [hC, List.getElem?_eq_getElem (by omega)] at e0
    obtain ⟨a, ha, hI⟩ := ho e0
    exact ⟨a, ha, hI⟩
  exact ⟨L, h2, h1, h3⟩
theorem flatU : ∀ L : List UInt8, L.flatMap (fun b => [Value.int .u8 (u8 b)]) = L.map fun b => .int .u8 (u8 b)
  | [] => rfl
  | b :: L => by rw [List.flatMap_cons, flatU L]; rfl
theorem opens_32 (hua : P.underlying t = some (.array 32 e)) (he : P.underlying e = some (.int .u8)) (hC : P.cellsOf e = 1) (hCa : P.cellsOf t = 32 * 1) : Opens P t l32 (fun _ => True) := by
  intro H enc W base sp held fuel cs x hx
  obtain ⟨L, hL, hn, _⟩ := opens_array (m := 1) (f := fun b : UInt8 => [Value.int .u8 (u8 b)]) (fun _ => rfl) hua hC hCa (opens_u8 he) hx
  refine ⟨⟨L, hn⟩, ?_, trivial⟩
  rw [l32_eq, cU_map, hL]
  show L.flatMap (fun b => [Value.int .u8 (u8 b)]) = L.map fun b => .int .u8 (u8 b)
  exact flatU _
/-- A struct's fields, one by one. -/
theorem field_at {fs : Array Field} (hu : P.underlying t = some (.struct fs)) {H : Type} {enc : TypeId × Value → H} {W : World} {base : Nat} {sp : Nat → Bool} {held : Bool} {fuel : Nat} {cs : List Value} {x : DataW H × List MemPlace} (hx : DataW.trod enc P W base sp held fuel t cs = some x) {i : Nat} {f : Field} (hf : fs[i]? = some f) {g : α → List Value} {I : α → Prop} (o m : Nat) (ho : Opens P f.type g I) (h1 : f.offset = o) (h2 : P.cellsOf f.type = m) :
    ∃ a, (cs.drop o).take m = g a ∧ I a := by
  obtain ⟨xs, n, _, _, _, hlen, hall⟩ := DataW.trod_struct hu hx
  have h3 := hall i f hf
  have hi : i < xs.length := by rw [hlen]; exact (Array.getElem?_eq_some_iff.1 hf).1
  rw [List.getElem?_eq_getElem hi, h1, h2] at h3
  exact ho h3
theorem cut_step (cs : List Value) (o m : Nat) {X : List Value} (h : (cs.drop o).take m = X) : cs.drop o = X ++ cs.drop (o + m) := by
  rw [← h, ← List.drop_drop, List.take_append_drop]
/-- The text of a struct that came in is no longer than what may come in. -/
theorem field_small {fs : Array Field} (hu : P.underlying t = some (.struct fs)) {H : Type} {enc : TypeId × Value → H} {W : World} {base : Nat} {sp : Nat → Bool} {held : Bool} {fuel : Nat} {cs : List Value} {d : DataW H} {ps : List MemPlace} (hx : DataW.trod enc P W base sp held fuel t cs = some (d, ps)) (hz : (d.weights P t).all (· ≤ reachBytes) = true)
    {i o : Nat} {f : Field} (hf : fs[i]? = some f) (hs : P.underlying f.type = some .string) (h1 : f.offset = o) (h2 : P.cellsOf f.type = 1) {L : List UInt8} (hL : (cs.drop o).take 1 = [strV L]) : L.length ≤ reachBytes := by
  obtain ⟨xs, n, _, he, _, hlen, hall⟩ := DataW.trod_struct hu hx
  have h3 := hall i f hf
  have hi : i < xs.length := by rw [hlen]; exact (Array.getElem?_eq_some_iff.1 hf).1
  rw [List.getElem?_eq_getElem hi, h1, h2, hL] at h3
  obtain ⟨s, e1, e2, _⟩ := DataW.trod_string hs h3
  have e3 : s = ⟨L.toArray⟩ := by
    simp only [strV, List.cons.injEq, Value.string.injEq, and_true] at e1
    exact e1.symm
  injection he with hd _
  subst hd
  have hg : (xs.map (·.1))[i]? = some (.lit (.string L)) := by
    rw [List.getElem?_map, List.getElem?_eq_getElem hi, e2, e3]; rfl
  have ht : (fs.toList.map (·.type))[i]? = some f.type := by
    rw [List.getElem?_map, Array.getElem?_toList, hf]; rfl
  have hw : L.length ∈ DataW.weightsEach P (fs.toList.map (·.type)) (xs.map (·.1)) := DataW.weights_mem_each ht hg _ (by simp [DataW.weights])
  have := List.all_eq_true.1 hz L.length (by unfold DataW.weights; rw [hu]; exact hw)
  simpa using this
end
theorem oi9 : Opens Try.prog 3 (fun n : Int => [.int .i64 n]) (fun n => -9223372036854775808 ≤ n ∧ n ≤ 9223372036854775807) := opens_int Try.underlying3
theorem opensFm : Opens Try.prog 41 cFm (fun _ => True) := by
  intro H enc W base sp held fuel cs x hx
  have hu := Try.underlying41
  obtain ⟨xs, n, _, _, hl, _, _⟩ := DataW.trod_struct hu hx
  rw [show Try.prog.cellsOf 41 = 38 by kernel_rfl] at hl
  obtain ⟨a0, h0, _⟩ := field_at hu hx (i := 0) rfl 0 1 oi9 rfl (by kernel_rfl)
  obtain ⟨a1, h1, _⟩ := field_at hu hx (i := 1) rfl 1 1 oi9 rfl (by kernel_rfl)
  obtain ⟨a2, h2, _⟩ := field_at hu hx (i := 2) rfl 2 1 oi9 rfl (by kernel_rfl)
  obtain ⟨a3, h3, _⟩ := field_at hu hx (i := 3) rfl 3 1 oi9 rfl (by kernel_rfl)
  obtain ⟨a4, h4, _⟩ := field_at hu hx (i := 4) rfl 4 1 oi9 rfl (by kernel_rfl)
  obtain ⟨a5, h5, _⟩ := field_at hu hx (i := 5) rfl 5 1 (opens_str Try.underlying9) rfl (by kernel_rfl)
  obtain ⟨a6, h6, _⟩ := field_at hu hx (i := 6) rfl 6 32 (opens_32 Try.underlying39 Try.underlying5 (by kernel_rfl) (by kernel_rfl)) rfl (by kernel_rfl)
  refine ⟨⟨a0, a1, a2, a3, a4, a5, a6⟩, ?_, trivial⟩
  have hc : cs = cs.drop 0 := List.drop_zero.symm
  rw [hc, cut_step cs 0 1 h0, cut_step cs 1 1 h1, cut_step cs 2 1 h2, cut_step cs 3 1 h3, cut_step cs 4 1 h4, cut_step cs 5 1 h5, cut_step cs 6 32 h6, List.drop_eq_nil_of_le (by omega), List.append_nil]
  rfl
section
variable {H : Type} {enc : TypeId × Value → H} {W : World}
theorem openFm {v : Value} {d : DataW H} {ps : List MemPlace} {base : Nat} (hval : Value.okWide Try.prog W .any base 41 v) (h : DataW.Trod enc Try.prog W 0 (fun _ => true) true 41 v d ps) :
    ∃ x : Fm, v = .agg (cFm x).toArray ∧ True := openV Try.underlying41 opensFm hval h
theorem smallFm {x : Fm} {d : DataW H} {ps : List MemPlace} (h : DataW.Trod enc Try.prog W 0 (fun _ => true) true 41 (.agg (cFm x).toArray) d ps) (hz : (d.weights Try.prog 41).all (· ≤ reachBytes) = true) : x.text.length ≤ reachBytes := by
  obtain ⟨fuel, hf⟩ := h
  exact field_small Try.underlying41 hf hz (i := 5) (o := 5) rfl Try.underlying9 rfl (by kernel_rfl) rfl
end
theorem rdFm : Try.prog.readableRec 41 = true ∧ 41 < Try.prog.types.size := ⟨by kernel_rfl, of_decide_eq_true (by kernel_rfl)⟩
section
variable {H : Type} {enc : TypeId × Value → H} {W : World}
theorem openUL {v : Value} {d : DataW H} {ps : List MemPlace} {base : Nat} (hval : Value.okWide Try.prog W .any base 63 v) (h : DataW.Trod enc Try.prog W 0 (fun _ => true) true 63 v d ps) :
    ∃ L : List UInt8, RdU W v L ∧ True := by
  obtain ⟨L, hl, _⟩ := openE encU Try.underlying63 (by kernel_rfl) (by decide) (opens_u8 Try.underlying5) hval h
  exact ⟨L, hl, trivial⟩
end
theorem rdUL : Try.prog.readableRec 63 = true ∧ 63 < Try.prog.types.size := ⟨by kernel_rfl, of_decide_eq_true (by kernel_rfl)⟩
section
variable {H : Type} {enc : TypeId × Value → H} {W : World}
theorem openStr {v : Value} {d : DataW H} {ps : List MemPlace} {base : Nat} (hval : Value.okWide Try.prog W .any base 9 v) (h : DataW.Trod enc Try.prog W 0 (fun _ => true) true 9 v d ps) :
    ∃ L : List UInt8, v = strV L ∧ True := by
  obtain ⟨s, rfl⟩ := okWide_string Try.underlying9 hval
  exact ⟨s.data.toList, rfl, trivial⟩
end
theorem rdStr : Try.prog.readableRec 9 = true ∧ 9 < Try.prog.types.size := ⟨by kernel_rfl, of_decide_eq_true (by kernel_rfl)⟩
end Go.Proofs.Ytcnkakahhekobaa
