/- Stamps: contracts of package stamp and of the reference. Made by walks/stamp.py. -/
import Derived.Test.YtjelhljgeinodaaFc
import Derived.Test.YtjelhljgeinodaaSm
import Derived.Test.YtjelhljgeinodaaFg
namespace Go.Proofs.Ytjelhljgeinodaa
open Go.RowKit
set_option maxRecDepth 100000
set_option linter.unusedSimpArgs false
set_option linter.unusedVariables false

theorem eqS31 (a b : St) (w : World) : (Op.equalIn 10000 31 (.agg #[.int .i64 a.e, .int .i64 a.r]) (.agg #[.int .i64 b.e, .int .i64 b.r])).run Try.prog w = .ok (decide (a = b)) w := by
  have h : decide (a = b) = (decide (a.e = b.e) && decide (a.r = b.r)) := by
    rw [Bool.eq_iff_iff]; simp [St.eq_iff]
  rw [h]; simp [go_sem]; (repeat' split); (all_goals simp_all)

set_option maxHeartbeats 400000 in
theorem partR_any (n : Int) (w : World) :
    Calls Try.prog 44 #[.int .i64 n] w fun e w' => e = .returned (.bool (inB n)) ∧ Below w.heap.size w w' := by
  refine enterF Try.func44 rfl 9 Try.ntmps44 [.int .i64 n] rfl [(0, .int .i64 n)] rfl ?_; intro φ F; have M := Mm.start [] w; revert φ; refine srG ?_; refine asG ?_; refine nxG ?_; refine srG ?_; refine mvG ?_; refine leG ?_; refine mvG ?_; intro φ F; cases hs1 : (decide (0 ≤ n))
  · rw [hs1] at F; revert φ; refine skG ?_; refine skG ?_; refine pkF ?_; refine asG ?_; intro φ F; refine nx ?_; refine wp_ret ?_; refine rt_tmp F rfl rfl ?_; exact ⟨by unfold inB; simp_all; try omega, M.bel⟩
  · rw [hs1] at F; revert φ; refine mvG ?_; refine leG ?_; refine pkT ?_; refine asG ?_; intro φ F; refine nx ?_; refine wp_ret ?_; refine rt_tmp F rfl rfl ?_; exact ⟨by unfold inB; simp_all; try omega, M.bel⟩

set_option maxHeartbeats 400000 in
theorem rin_any (n : Int) (w : World) :
    Calls Try.prog 33 #[.int .i64 n] w fun e w' => e = .returned (.bool (inB n)) ∧ Below w.heap.size w w' := by
  refine enterF Try.func33 rfl 9 Try.ntmps33 [.int .i64 n] rfl [(0, .int .i64 n)] rfl ?_; intro φ F; have M := Mm.start [] w; revert φ; refine srG ?_; refine asG ?_; refine nxG ?_; refine srG ?_; refine mvG ?_; refine geG ?_; refine mvG ?_; intro φ F; cases hs1 : (decide (0 ≤ n))
  · rw [hs1] at F; revert φ; refine skG ?_; refine skG ?_; refine pkF ?_; refine asG ?_; intro φ F; refine nx ?_; refine wp_ret ?_; refine rt_tmp F rfl rfl ?_; exact ⟨by unfold inB; simp_all; try omega, M.bel⟩
  · rw [hs1] at F; revert φ; refine mvG ?_; refine leG ?_; refine pkT ?_; refine asG ?_; intro φ F; refine nx ?_; refine wp_ret ?_; refine rt_tmp F rfl rfl ?_; exact ⟨by unfold inB; simp_all; try omega, M.bel⟩

set_option maxHeartbeats 400000 in
theorem right_any (a : St) (w : World) :
    Calls Try.prog 37 #[.agg #[.int .i64 a.e, .int .i64 a.r]] w fun e w' => e = .returned (.bool a.rightB) ∧ Below w.heap.size w w' := by
  refine enterF Try.func37 rfl 11 Try.ntmps37 [.agg #[.int .i64 a.e, .int .i64 a.r]] rfl [(0, .agg #[.int .i64 a.e, .int .i64 a.r])] rfl ?_; intro φ F; have M := Mm.start [] w; refine wp_seq ?_; refine wp_region_lit ?_; refine sq_box F M (wt0 rfl) rfl (F.ev rfl) (cs := #[.int .i64 a.e, .int .i64 a.r]) rfl rfl rfl ?_; clear F M; intro φ ω g1 F M; revert φ; refine asG ?_; refine nxG ?_; refine srG ?_; refine faG fo31_0 ?_; refine lcG M one3 (r := 0) rfl ?_; intro φ F; refine sq_call F M (wt0 rfl) rfl en44 (evc (F.ev rfl) evn) (partR_any a.e _) rfl rfl ?_; clear F M; intro φ ω F M; revert φ; refine mvG ?_; intro φ F; cases hs1 : (inB a.e)
  · rw [hs1] at F; revert φ; refine skG ?_; refine skG ?_; refine skG ?_; refine pkF ?_; refine asG ?_; intro φ F; refine nx ?_; refine wp_ret ?_; refine rt_tmp F rfl rfl ?_; exact ⟨by unfold St.rightB; simp_all, M.bel⟩
  · rw [hs1] at F; revert φ; refine faG fo31_1 ?_; refine lcG M one3 (r := 0) rfl ?_; intro φ F; refine sq_call F M (wt1 F rfl rfl rfl rfl rfl) rfl en44 (evc (F.ev rfl) evn) (partR_any a.r _) rfl rfl ?_; clear F M; intro φ ω F M; revert φ; refine pkT ?_; refine asG ?_; intro φ F; refine nx ?_; refine wp_ret ?_; refine rt_tmp F rfl rfl ?_; exact ⟨by unfold St.rightB; simp_all, M.bel⟩

set_option maxHeartbeats 400000 in
theorem rright_any (a : St) (w : World) :
    Calls Try.prog 23 #[.agg #[.int .i64 a.e, .int .i64 a.r]] w fun e w' => e = .returned (.bool a.rightB) ∧ Below w.heap.size w w' := by
  refine enterF Try.func23 rfl 11 Try.ntmps23 [.agg #[.int .i64 a.e, .int .i64 a.r]] rfl [(0, .agg #[.int .i64 a.e, .int .i64 a.r])] rfl ?_; intro φ F; have M := Mm.start [] w; refine wp_seq ?_; refine wp_region_lit ?_; refine sq_box F M (wt0 rfl) rfl (F.ev rfl) (cs := #[.int .i64 a.e, .int .i64 a.r]) rfl rfl rfl ?_; clear F M; intro φ ω g1 F M; revert φ; refine asG ?_; refine nxG ?_; refine srG ?_; refine faG fo31_0 ?_; refine lcG M one3 (r := 0) rfl ?_; intro φ F; refine sq_call F M (wt0 rfl) rfl en33 (evc (F.ev rfl) evn) (rin_any a.e _) rfl rfl ?_; clear F M; intro φ ω F M; revert φ; refine mvG ?_; intro φ F; cases hs1 : (inB a.e)
  · rw [hs1] at F; revert φ; refine skG ?_; refine skG ?_; refine skG ?_; refine pkF ?_; refine asG ?_; intro φ F; refine nx ?_; refine wp_ret ?_; refine rt_tmp F rfl rfl ?_; exact ⟨by unfold St.rightB; simp_all, M.bel⟩
  · rw [hs1] at F; revert φ; refine faG fo31_1 ?_; refine lcG M one3 (r := 0) rfl ?_; intro φ F; refine sq_call F M (wt1 F rfl rfl rfl rfl rfl) rfl en33 (evc (F.ev rfl) evn) (rin_any a.r _) rfl rfl ?_; clear F M; intro φ ω F M; revert φ; refine pkT ?_; refine asG ?_; intro φ F; refine nx ?_; refine wp_ret ?_; refine rt_tmp F rfl rfl ?_; exact ⟨by unfold St.rightB; simp_all, M.bel⟩

theorem meet_eq (a b : St) : decide (a.meet b = a) = a.leB b := by
  rw [Bool.eq_iff_iff, St.le_iff]; simp [St.eq_iff, St.meet]; omega

end Go.Proofs.Ytjelhljgeinodaa
