/- Stamps: contracts of package stamp and of the reference. Made by walks/stamp.py. -/
import Derived.Test.YtoadlnnhlnhkjaaFc
import Derived.Test.YtoadlnnhlnhkjaaSm
import Derived.Test.YtoadlnnhlnhkjaaFg
namespace Go.Proofs.Ytoadlnnhlnhkjaa
open Go.RowKit
set_option maxRecDepth 100000
set_option linter.unusedSimpArgs false
set_option linter.unusedVariables false

theorem eqS28 (a b : St) (w : World) : (Op.equalIn 10000 28 (.agg #[.int .i64 a.e, .int .i64 a.r]) (.agg #[.int .i64 b.e, .int .i64 b.r])).run Try.prog w = .ok (decide (a = b)) w := by
  have h : decide (a = b) = (decide (a.e = b.e) && decide (a.r = b.r)) := by
    rw [Bool.eq_iff_iff]; simp [St.eq_iff]
  rw [h]; simp [go_sem]; (repeat' split); (all_goals simp_all)

theorem meet_eq (a b : St) : decide (a.meet b = a) = a.leB b := by
  rw [Bool.eq_iff_iff, St.le_iff]; simp [St.eq_iff, St.meet]; omega

set_option maxHeartbeats 400000 in
theorem cmp_any (a b : St) (w : World) :
    Calls Try.prog 24 #[.agg #[.int .i64 a.e, .int .i64 a.r], .agg #[.int .i64 b.e, .int .i64 b.r]] w fun e w' => e = .returned (.int .i64 (a.cmp b)) ∧ Below w.heap.size w w' := by
  refine enterF Try.func24 rfl 27 Try.ntmps24 [.agg #[.int .i64 a.e, .int .i64 a.r], .agg #[.int .i64 b.e, .int .i64 b.r]] rfl [(0, .agg #[.int .i64 a.e, .int .i64 a.r]), (1, .agg #[.int .i64 b.e, .int .i64 b.r])] rfl ?_; intro φ F; have M := Mm.start [] w; refine wp_seq ?_; refine wp_region_lit ?_; refine sq_box F M (wt0 rfl) rfl (F.ev rfl) (cs := #[.int .i64 a.e, .int .i64 a.r]) rfl rfl rfl ?_; clear F M; intro φ ω g1 F M; refine sq_box F M (wt0 rfl) rfl (F.ev rfl) (cs := #[.int .i64 b.e, .int .i64 b.r]) rfl rfl rfl ?_; clear F M; intro φ ω g2 F M; revert φ; refine asG ?_; intro φ F; refine nx ?_; refine wp_seq ?_; revert φ; refine srG ?_; refine rdG (fun _ F => ld_agg rfl (F.ev rfl) agg28 (M.rd (i := 1) rfl) rfl) ?_; refine rdG (fun _ F => ld_agg rfl (F.ev rfl) agg28 (M.rd (i := 0) rfl) rfl) ?_; refine puG (fun _ F => pu_eqlA rfl (F.ev rfl) (F.ev rfl) eqg28 (fun w => eqS28 a b w)) ?_; intro φ F; refine nx ?_; cases hs1 : (decide (a = b))
  · rw [hs1] at F; refine wp_cond_false (F.ev rfl) ?_; refine wp_skip ?_; refine nxq ?_; refine wp_seq ?_; revert φ; refine srG ?_; refine faG fo28_0 ?_; refine lcG M one3 (r := 1) rfl ?_; refine faG fo28_0 ?_; refine lcG M one3 (r := 0) rfl ?_; refine lsG ?_; refine mvG ?_; intro φ F; cases hs2 : (decide (a.e < b.e))
    · rw [hs2] at F; revert φ; refine faG fo28_0 ?_; refine lcG M one3 (r := 1) rfl ?_; refine faG fo28_0 ?_; refine lcG M one3 (r := 0) rfl ?_; refine eqG ?_; refine mvG ?_; intro φ F; cases hs3 : (decide (a.e = b.e))
      · rw [hs3] at F; revert φ; refine skG ?_; refine skG ?_; refine skG ?_; refine skG ?_; refine skG ?_; refine pkF ?_; refine pkF ?_; intro φ F; refine nx ?_; refine wp_cond_false (F.ev rfl) ?_; refine wp_skip ?_; refine nxq ?_; revert φ; refine srG ?_; refine asG ?_; intro φ F; refine nx ?_; refine wp_ret ?_; refine rt_tmp F rfl rfl ?_; exact ⟨by unfold St.cmp St.aheadB; simp_all; try omega, M.bel⟩
      · rw [hs3] at F; revert φ; refine faG fo28_1 ?_; refine lcG M one3 (r := 1) rfl ?_; refine faG fo28_1 ?_; refine lcG M one3 (r := 0) rfl ?_; refine lsG ?_; refine pkT ?_; refine pkF ?_; intro φ F; refine nx ?_; cases hs4 : (decide (a.r < b.r))
        · rw [hs4] at F; refine wp_cond_false (F.ev rfl) ?_; refine wp_skip ?_; refine nxq ?_; revert φ; refine srG ?_; refine asG ?_; intro φ F; refine nx ?_; refine wp_ret ?_; refine rt_tmp F rfl rfl ?_; exact ⟨by unfold St.cmp St.aheadB; simp_all; try omega, M.bel⟩
        · rw [hs4] at F; refine wp_cond_true (F.ev rfl) ?_; revert φ; refine srG ?_; refine asG ?_; intro φ F; refine nx ?_; refine wp_ret ?_; refine nxr ?_; refine rt_tmp F rfl rfl ?_; exact ⟨by unfold St.cmp St.aheadB; simp_all; try omega, M.bel⟩
    · rw [hs2] at F; revert φ; refine skG ?_; refine skG ?_; refine skG ?_; refine skG ?_; refine skG ?_; refine skG ?_; refine skG ?_; refine skG ?_; refine skG ?_; refine skG ?_; refine skG ?_; refine skG ?_; refine pkT ?_; intro φ F; refine nx ?_; refine wp_cond_true (F.ev rfl) ?_; revert φ; refine srG ?_; refine asG ?_; intro φ F; refine nx ?_; refine wp_ret ?_; refine nxr ?_; refine rt_tmp F rfl rfl ?_; exact ⟨by unfold St.cmp St.aheadB; simp_all; try omega, M.bel⟩
  · rw [hs1] at F; refine wp_cond_true (F.ev rfl) ?_; revert φ; refine srG ?_; refine asG ?_; intro φ F; refine nx ?_; refine wp_ret ?_; refine nxr ?_; refine rt_tmp F rfl rfl ?_; exact ⟨by unfold St.cmp St.aheadB; simp_all; try omega, M.bel⟩

end Go.Proofs.Ytoadlnnhlnhkjaa
