/- Opening of what is said, of two ints, of a bool that came in. Any seat with layer 14 in it. -/
import Derived.Test.YtcnkakahhekobaaLu
import Derived.Test.YtcnkakahhekobaaCr
namespace Go.Proofs.Ytcnkakahhekobaa
open Go.ChangeShapes Go.WideShapes Go.ChangeAt Go.RowKit Go.Joins Go.Deep
set_option maxRecDepth 100000
set_option linter.unusedSimpArgs false
set_option linter.unusedVariables false

theorem opensSy : Opens Try.prog 32 cSy (fun _ => True) := by
  intro H enc W base sp held fuel cs x hx
  have hu := Try.underlying32
  obtain ⟨xs, n, _, _, hl, _, _⟩ := DataW.trod_struct hu hx
  rw [show Try.prog.cellsOf 32 = 4 by kernel_rfl] at hl
  obtain ⟨a0, h0, _⟩ := field_at hu hx (i := 0) rfl 0 1 oi9 rfl (by kernel_rfl)
  obtain ⟨a1, h1, _⟩ := field_at hu hx (i := 1) rfl 1 1 oi9 rfl (by kernel_rfl)
  obtain ⟨a2, h2, _⟩ := field_at hu hx (i := 2) rfl 2 1 oi9 rfl (by kernel_rfl)
  obtain ⟨a3, h3, _⟩ := field_at hu hx (i := 3) rfl 3 1 (opens_str Try.underlying9) rfl (by kernel_rfl)
  refine ⟨⟨a0, a1, a2, a3⟩, ?_, trivial⟩
  have hc : cs = cs.drop 0 := List.drop_zero.symm
  rw [hc, cut_step cs 0 1 h0, cut_step cs 1 1 h1, cut_step cs 2 1 h2, cut_step cs 3 1 h3, List.drop_eq_nil_of_le (by omega), List.append_nil]
  rfl
section
variable {H : Type} {enc : TypeId × Value → H} {W : World}
theorem openYL {v : Value} {d : DataW H} {ps : List MemPlace} {base : Nat} (hval : Value.okWide Try.prog W .any base 22 v) (h : DataW.Trod enc Try.prog W 0 (fun _ => true) true 22 v d ps) :
    ∃ L : List Sy, RdV W 4 v L.length (cY L) ∧ True := by
  obtain ⟨L, hl, _⟩ := openE encSy Try.underlying22 (by kernel_rfl) (by decide) opensSy hval h
  exact ⟨L, hl, trivial⟩
end
theorem rdYL : Try.prog.readableRec 22 = true ∧ 22 < Try.prog.types.size := ⟨by kernel_rfl, of_decide_eq_true (by kernel_rfl)⟩
section
variable {H : Type} {enc : TypeId × Value → H} {W : World}
theorem openI2 {v : Value} {d : DataW H} {ps : List MemPlace} {base : Nat} (hval : Value.okWide Try.prog W .any base 46 v) (h : DataW.Trod enc Try.prog W 0 (fun _ => true) true 46 v d ps) :
    ∃ x y : Int, v = .agg #[.int .i64 x, .int .i64 y] ∧ (-9223372036854775808 ≤ x ∧ x ≤ 9223372036854775807) ∧ (-9223372036854775808 ≤ y ∧ y ≤ 9223372036854775807) := by
  have hua := Try.underlying46
  unfold Value.okWide at hval
  rw [hua] at hval
  obtain ⟨cs, rfl, hsz, _⟩ := hval
  obtain ⟨fuel, hf⟩ := h
  obtain ⟨L, hL, hn, hI⟩ := opens_array (m := 1) (fun _ => rfl) hua (by kernel_rfl) (by kernel_rfl) oi9 hf
  match L, hn with
  | [x, y], _ =>
    refine ⟨x, y, ?_, hI x (by simp), hI y (by simp)⟩
    have h2 : cs.toList = [.int .i64 x, .int .i64 y] := hL
    congr 1
    exact Array.ext' (by simpa using h2)
end
theorem rdI2 : Try.prog.readableRec 46 = true ∧ 46 < Try.prog.types.size := ⟨by kernel_rfl, of_decide_eq_true (by kernel_rfl)⟩
section
variable {H : Type} {enc : TypeId × Value → H} {W : World}
theorem openFL {v : Value} {d : DataW H} {ps : List MemPlace} {base : Nat} (hval : Value.okWide Try.prog W .any base 34 v) (h : DataW.Trod enc Try.prog W 0 (fun _ => true) true 34 v d ps) :
    ∃ L : List Fm, RdV W 38 v L.length (cF L) ∧ True := by
  obtain ⟨L, hl, _⟩ := openE encFm Try.underlying34 (by kernel_rfl) (by decide) opensFm hval h
  exact ⟨L, hl, trivial⟩
end
theorem rdFL : Try.prog.readableRec 34 = true ∧ 34 < Try.prog.types.size := ⟨by kernel_rfl, of_decide_eq_true (by kernel_rfl)⟩
theorem rdBo : Try.prog.readableRec 4 = true ∧ 4 < Try.prog.types.size := ⟨by kernel_rfl, of_decide_eq_true (by kernel_rfl)⟩
end Go.Proofs.Ytcnkakahhekobaa
