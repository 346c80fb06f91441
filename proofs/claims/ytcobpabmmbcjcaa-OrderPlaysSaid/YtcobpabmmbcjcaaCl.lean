/- Opening of what is said, of two ints, of a bool that came in. Any seat with layer 14 in it. -/
import Derived.Test.YtcobpabmmbcjcaaJ2
import Derived.Test.YtcobpabmmbcjcaaCr
namespace Go.Proofs.Ytcobpabmmbcjcaa
open Go.ChangeShapes Go.WideShapes Go.ChangeAt Go.RowKit Go.Joins Go.Deep
set_option maxRecDepth 100000
set_option linter.unusedSimpArgs false
set_option linter.unusedVariables false
section
variable {H : Type} {enc : TypeId × Value → H} {W : World}
theorem openI2 {v : Value} {d : DataW H} {ps : List MemPlace} {base : Nat} (hval : Value.okWide Try.prog W .any base 44 v) (h : DataW.Trod enc Try.prog W 0 (fun _ => true) true 44 v d ps) :
    ∃ x y : Int, v = .agg #[.int .i64 x, .int .i64 y] ∧ (-9223372036854775808 ≤ x ∧ x ≤ 9223372036854775807) ∧ (-9223372036854775808 ≤ y ∧ y ≤ 9223372036854775807) := by
  have hua := Try.underlying44
  unfold Value.okWide at hval
  rw [hua] at hval
  obtain ⟨cs, rfl, hsz, _⟩ := hval
  obtain ⟨fuel, hf⟩ := h
  obtain ⟨L, hL, hn, hI⟩ := opens_array (m := 1) (fun _ => rfl) hua (by kernel_rfl) (by kernel_rfl) oi9 hf
  match L, hn with
  | [x, y], _ =>
    refine ⟨x, y, ?_, hI x (by simp), hI y (by simp)⟩
    have h2 : cs.toList = [.int .i64 x, .int .i64 y] := hL
    congr 1
    exact Array.ext' (by simpa using h2)
end
theorem rdI2 : Try.prog.readableRec 44 = true ∧ 44 < Try.prog.types.size := ⟨by kernel_rfl, of_decide_eq_true (by kernel_rfl)⟩
section
variable {H : Type} {enc : TypeId × Value → H} {W : World}
theorem openI3 {v : Value} {d : DataW H} {ps : List MemPlace} {base : Nat} (hval : Value.okWide Try.prog W .any base 22 v) (h : DataW.Trod enc Try.prog W 0 (fun _ => true) true 22 v d ps) :
    ∃ x y z : Int, v = .agg #[.int .i64 x, .int .i64 y, .int .i64 z] ∧ (-9223372036854775808 ≤ x ∧ x ≤ 9223372036854775807) ∧ (-9223372036854775808 ≤ y ∧ y ≤ 9223372036854775807) ∧ (-9223372036854775808 ≤ z ∧ z ≤ 9223372036854775807) := by
  have hua := Try.underlying22
  unfold Value.okWide at hval
  rw [hua] at hval
  obtain ⟨cs, rfl, hsz, _⟩ := hval
  obtain ⟨fuel, hf⟩ := h
  obtain ⟨L, hL, hn, hI⟩ := opens_array (m := 1) (fun _ => rfl) hua (by kernel_rfl) (by kernel_rfl) oi9 hf
  match L, hn with
  | [x, y, z], _ =>
    refine ⟨x, y, z, ?_, hI x (by simp), hI y (by simp), hI z (by simp)⟩
    have h2 : cs.toList = [.int .i64 x, .int .i64 y, .int .i64 z] := hL
    congr 1
    exact Array.ext' (by simpa using h2)
end
theorem rdI3 : Try.prog.readableRec 22 = true ∧ 22 < Try.prog.types.size := ⟨by kernel_rfl, of_decide_eq_true (by kernel_rfl)⟩
section
variable {H : Type} {enc : TypeId × Value → H} {W : World}
theorem openFL {v : Value} {d : DataW H} {ps : List MemPlace} {base : Nat} (hval : Value.okWide Try.prog W .any base 23 v) (h : DataW.Trod enc Try.prog W 0 (fun _ => true) true 23 v d ps) :
    ∃ L : List Fm, RdV W 38 v L.length (cF L) ∧ ∀ x ∈ L, x.seq ≤ 9223372036854775807 := by
  obtain ⟨L, hl, hq⟩ := openE encFm Try.underlying23 (by kernel_rfl) (by decide) opensFm hval h
  exact ⟨L, hl, hq⟩
end
theorem rdFL : Try.prog.readableRec 23 = true ∧ 23 < Try.prog.types.size := ⟨by kernel_rfl, of_decide_eq_true (by kernel_rfl)⟩
end Go.Proofs.Ytcobpabmmbcjcaa
