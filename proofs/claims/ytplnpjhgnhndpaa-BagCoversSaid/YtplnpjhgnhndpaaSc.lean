/- Stamps: contracts of package stamp and of the reference. Made by walks/stamp.py. -/
import Derived.Test.YtplnpjhgnhndpaaFc
import Derived.Test.YtplnpjhgnhndpaaSm
namespace Go.Proofs.Ytplnpjhgnhndpaa
open Go.RowKit

theorem eqS30 (a b : St) (w : World) : (Op.equalIn 10000 30 (.agg #[.int .i64 a.e, .int .i64 a.r]) (.agg #[.int .i64 b.e, .int .i64 b.r])).run Try.prog w = .ok (decide (a = b)) w := by
  have h : decide (a = b) = (decide (a.e = b.e) && decide (a.r = b.r)) := by
    rw [Bool.eq_iff_iff]; simp [St.eq_iff]
  rw [h]
  simp [go_sem]
  repeat' split
  all_goals simp_all

set_option maxHeartbeats 400000 in
theorem partR_any (n : Int) (w : World) :
    Calls Try.prog 33 #[.int .i64 n] w fun e w' => e = .returned (.bool (inB n)) ∧ Below w.heap.size w w' := by
  refine enterF Try.func33 rfl 9 Try.ntmps33 [.int .i64 n] rfl [(0, .int .i64 n)] rfl ?_
  intro φ F
  have M := Mm.start [] w
  refine wp_seq ?_
  -- region 0
  refine wp_region_lit ?_
  refine sq_pure F (wt0 rfl) (pu_assign rfl (evk)) rfl rfl ?_; clear F; intro φ F
  refine nx ?_
  refine wp_seq ?_
  -- region 1
  refine wp_region_lit ?_
  refine sq_pure F (wt0 rfl) (pu_move rfl (F.ev rfl)) rfl rfl ?_; clear F; intro φ F
  refine sq_pure F (wt0 rfl) (pu_leq rfl (evk) (F.ev rfl)) rfl rfl ?_; clear F; intro φ F
  refine sq_pure F (wt0 rfl) (pu_move rfl (F.ev rfl)) rfl rfl ?_; clear F; intro φ F
  cases hs1 : (decide (0 ≤ n))
  · rw [hs1] at F
    refine sq_skip F (wtn F rfl rfl rfl rfl rfl) rfl rfl ?_; clear F; intro φ F
    refine sq_skip F (wtn F rfl rfl rfl rfl rfl) rfl rfl ?_; clear F; intro φ F
    refine sq_pure F (wt0 rfl) (pu_pickf rfl (F.ev rfl) (evk)) rfl rfl ?_; clear F; intro φ F
    refine sq_pure F (wt0 rfl) (pu_assign rfl (F.ev rfl)) rfl rfl ?_; clear F; intro φ F
    refine nx ?_
    refine wp_ret ?_
    refine rt_tmp F rfl rfl ?_
    exact ⟨by unfold inB; simp_all; try omega, M.bel⟩
  · rw [hs1] at F
    refine sq_pure F (wt1 F rfl rfl rfl rfl rfl) (pu_move rfl (F.ev rfl)) rfl rfl ?_; clear F; intro φ F
    refine sq_pure F (wt1 F rfl rfl rfl rfl rfl) (pu_leq rfl (F.ev rfl) (evk)) rfl rfl ?_; clear F; intro φ F
    refine sq_pure F (wt0 rfl) (pu_pickt rfl (F.ev rfl) (F.ev rfl)) rfl rfl ?_; clear F; intro φ F
    refine sq_pure F (wt0 rfl) (pu_assign rfl (F.ev rfl)) rfl rfl ?_; clear F; intro φ F
    refine nx ?_
    refine wp_ret ?_
    refine rt_tmp F rfl rfl ?_
    exact ⟨by unfold inB; simp_all; try omega, M.bel⟩

set_option maxHeartbeats 400000 in
theorem rin_any (n : Int) (w : World) :
    Calls Try.prog 32 #[.int .i64 n] w fun e w' => e = .returned (.bool (inB n)) ∧ Below w.heap.size w w' := by
  refine enterF Try.func32 rfl 9 Try.ntmps32 [.int .i64 n] rfl [(0, .int .i64 n)] rfl ?_
  intro φ F
  have M := Mm.start [] w
  refine wp_seq ?_
  -- region 0
  refine wp_region_lit ?_
  refine sq_pure F (wt0 rfl) (pu_assign rfl (evk)) rfl rfl ?_; clear F; intro φ F
  refine nx ?_
  refine wp_seq ?_
  -- region 1
  refine wp_region_lit ?_
  refine sq_pure F (wt0 rfl) (pu_move rfl (F.ev rfl)) rfl rfl ?_; clear F; intro φ F
  refine sq_pure F (wt0 rfl) (pu_geq rfl (F.ev rfl) (evk)) rfl rfl ?_; clear F; intro φ F
  refine sq_pure F (wt0 rfl) (pu_move rfl (F.ev rfl)) rfl rfl ?_; clear F; intro φ F
  cases hs1 : (decide (0 ≤ n))
  · rw [hs1] at F
    refine sq_skip F (wtn F rfl rfl rfl rfl rfl) rfl rfl ?_; clear F; intro φ F
    refine sq_skip F (wtn F rfl rfl rfl rfl rfl) rfl rfl ?_; clear F; intro φ F
    refine sq_pure F (wt0 rfl) (pu_pickf rfl (F.ev rfl) (evk)) rfl rfl ?_; clear F; intro φ F
    refine sq_pure F (wt0 rfl) (pu_assign rfl (F.ev rfl)) rfl rfl ?_; clear F; intro φ F
    refine nx ?_
    refine wp_ret ?_
    refine rt_tmp F rfl rfl ?_
    exact ⟨by unfold inB; simp_all; try omega, M.bel⟩
  · rw [hs1] at F
    refine sq_pure F (wt1 F rfl rfl rfl rfl rfl) (pu_move rfl (F.ev rfl)) rfl rfl ?_; clear F; intro φ F
    refine sq_pure F (wt1 F rfl rfl rfl rfl rfl) (pu_leq rfl (F.ev rfl) (evk)) rfl rfl ?_; clear F; intro φ F
    refine sq_pure F (wt0 rfl) (pu_pickt rfl (F.ev rfl) (F.ev rfl)) rfl rfl ?_; clear F; intro φ F
    refine sq_pure F (wt0 rfl) (pu_assign rfl (F.ev rfl)) rfl rfl ?_; clear F; intro φ F
    refine nx ?_
    refine wp_ret ?_
    refine rt_tmp F rfl rfl ?_
    exact ⟨by unfold inB; simp_all; try omega, M.bel⟩

set_option maxHeartbeats 400000 in
theorem right_any (a : St) (w : World) :
    Calls Try.prog 27 #[.agg #[.int .i64 a.e, .int .i64 a.r]] w fun e w' => e = .returned (.bool a.rightB) ∧ Below w.heap.size w w' := by
  refine enterF Try.func27 rfl 11 Try.ntmps27 [.agg #[.int .i64 a.e, .int .i64 a.r]] rfl [(0, .agg #[.int .i64 a.e, .int .i64 a.r])] rfl ?_
  intro φ F
  have M := Mm.start [] w
  refine wp_seq ?_
  -- region 0
  refine wp_region_lit ?_
  refine sq_box F M (wt0 rfl) rfl (F.ev rfl) (cs := #[.int .i64 a.e, .int .i64 a.r]) rfl rfl rfl ?_; clear F M; intro φ ω g1 F M
  refine sq_pure F (wt0 rfl) (pu_assign rfl (evk)) rfl rfl ?_; clear F; intro φ F
  refine nx ?_
  refine wp_seq ?_
  -- region 1
  refine wp_region_lit ?_
  refine sq_pure F (wt0 rfl) (pu_field rfl (F.ev rfl) fo30_0) rfl rfl ?_; clear F; intro φ F
  refine sq_rd F (wt0 rfl) (ld_cell rfl (F.ev rfl) one3 (M.rd (i := 0) rfl) rfl) rfl rfl ?_; clear F; intro φ F
  refine sq_call F M (wt0 rfl) rfl en33 (evc (F.ev rfl) evn) (partR_any a.e _) rfl rfl ?_; clear F M; intro φ ω F M
  refine sq_pure F (wt0 rfl) (pu_move rfl (F.ev rfl)) rfl rfl ?_; clear F; intro φ F
  cases hs1 : (inB a.e)
  · rw [hs1] at F
    refine sq_skip F (wtn F rfl rfl rfl rfl rfl) rfl rfl ?_; clear F; intro φ F
    refine sq_skip F (wtn F rfl rfl rfl rfl rfl) rfl rfl ?_; clear F; intro φ F
    refine sq_skip F (wtn F rfl rfl rfl rfl rfl) rfl rfl ?_; clear F; intro φ F
    refine sq_pure F (wt0 rfl) (pu_pickf rfl (F.ev rfl) (evk)) rfl rfl ?_; clear F; intro φ F
    refine sq_pure F (wt0 rfl) (pu_assign rfl (F.ev rfl)) rfl rfl ?_; clear F; intro φ F
    refine nx ?_
    refine wp_ret ?_
    refine rt_tmp F rfl rfl ?_
    exact ⟨by unfold St.rightB; simp_all, M.bel⟩
  · rw [hs1] at F
    refine sq_pure F (wt1 F rfl rfl rfl rfl rfl) (pu_field rfl (F.ev rfl) fo30_1) rfl rfl ?_; clear F; intro φ F
    refine sq_rd F (wt1 F rfl rfl rfl rfl rfl) (ld_cell rfl (F.ev rfl) one3 (M.rd (i := 0) rfl) rfl) rfl rfl ?_; clear F; intro φ F
    refine sq_call F M (wt1 F rfl rfl rfl rfl rfl) rfl en33 (evc (F.ev rfl) evn) (partR_any a.r _) rfl rfl ?_; clear F M; intro φ ω F M
    refine sq_pure F (wt0 rfl) (pu_pickt rfl (F.ev rfl) (F.ev rfl)) rfl rfl ?_; clear F; intro φ F
    refine sq_pure F (wt0 rfl) (pu_assign rfl (F.ev rfl)) rfl rfl ?_; clear F; intro φ F
    refine nx ?_
    refine wp_ret ?_
    refine rt_tmp F rfl rfl ?_
    exact ⟨by unfold St.rightB; simp_all, M.bel⟩

set_option maxHeartbeats 400000 in
theorem rright_any (a : St) (w : World) :
    Calls Try.prog 26 #[.agg #[.int .i64 a.e, .int .i64 a.r]] w fun e w' => e = .returned (.bool a.rightB) ∧ Below w.heap.size w w' := by
  refine enterF Try.func26 rfl 11 Try.ntmps26 [.agg #[.int .i64 a.e, .int .i64 a.r]] rfl [(0, .agg #[.int .i64 a.e, .int .i64 a.r])] rfl ?_
  intro φ F
  have M := Mm.start [] w
  refine wp_seq ?_
  -- region 0
  refine wp_region_lit ?_
  refine sq_box F M (wt0 rfl) rfl (F.ev rfl) (cs := #[.int .i64 a.e, .int .i64 a.r]) rfl rfl rfl ?_; clear F M; intro φ ω g1 F M
  refine sq_pure F (wt0 rfl) (pu_assign rfl (evk)) rfl rfl ?_; clear F; intro φ F
  refine nx ?_
  refine wp_seq ?_
  -- region 1
  refine wp_region_lit ?_
  refine sq_pure F (wt0 rfl) (pu_field rfl (F.ev rfl) fo30_0) rfl rfl ?_; clear F; intro φ F
  refine sq_rd F (wt0 rfl) (ld_cell rfl (F.ev rfl) one3 (M.rd (i := 0) rfl) rfl) rfl rfl ?_; clear F; intro φ F
  refine sq_call F M (wt0 rfl) rfl en32 (evc (F.ev rfl) evn) (rin_any a.e _) rfl rfl ?_; clear F M; intro φ ω F M
  refine sq_pure F (wt0 rfl) (pu_move rfl (F.ev rfl)) rfl rfl ?_; clear F; intro φ F
  cases hs1 : (inB a.e)
  · rw [hs1] at F
    refine sq_skip F (wtn F rfl rfl rfl rfl rfl) rfl rfl ?_; clear F; intro φ F
    refine sq_skip F (wtn F rfl rfl rfl rfl rfl) rfl rfl ?_; clear F; intro φ F
    refine sq_skip F (wtn F rfl rfl rfl rfl rfl) rfl rfl ?_; clear F; intro φ F
    refine sq_pure F (wt0 rfl) (pu_pickf rfl (F.ev rfl) (evk)) rfl rfl ?_; clear F; intro φ F
    refine sq_pure F (wt0 rfl) (pu_assign rfl (F.ev rfl)) rfl rfl ?_; clear F; intro φ F
    refine nx ?_
    refine wp_ret ?_
    refine rt_tmp F rfl rfl ?_
    exact ⟨by unfold St.rightB; simp_all, M.bel⟩
  · rw [hs1] at F
    refine sq_pure F (wt1 F rfl rfl rfl rfl rfl) (pu_field rfl (F.ev rfl) fo30_1) rfl rfl ?_; clear F; intro φ F
    refine sq_rd F (wt1 F rfl rfl rfl rfl rfl) (ld_cell rfl (F.ev rfl) one3 (M.rd (i := 0) rfl) rfl) rfl rfl ?_; clear F; intro φ F
    refine sq_call F M (wt1 F rfl rfl rfl rfl rfl) rfl en32 (evc (F.ev rfl) evn) (rin_any a.r _) rfl rfl ?_; clear F M; intro φ ω F M
    refine sq_pure F (wt0 rfl) (pu_pickt rfl (F.ev rfl) (F.ev rfl)) rfl rfl ?_; clear F; intro φ F
    refine sq_pure F (wt0 rfl) (pu_assign rfl (F.ev rfl)) rfl rfl ?_; clear F; intro φ F
    refine nx ?_
    refine wp_ret ?_
    refine rt_tmp F rfl rfl ?_
    exact ⟨by unfold St.rightB; simp_all, M.bel⟩

set_option maxHeartbeats 400000 in
theorem meet_any (a b : St) (w : World) :
    Calls Try.prog 45 #[.agg #[.int .i64 a.e, .int .i64 a.r], .agg #[.int .i64 b.e, .int .i64 b.r]] w fun e w' => e = .returned (.agg #[.int .i64 ((a.meet b).e), .int .i64 ((a.meet b).r)]) ∧ Below w.heap.size w w' := by
  refine enterF Try.func45 rfl 16 Try.ntmps45 [.agg #[.int .i64 a.e, .int .i64 a.r], .agg #[.int .i64 b.e, .int .i64 b.r]] rfl [(0, .agg #[.int .i64 a.e, .int .i64 a.r]), (1, .agg #[.int .i64 b.e, .int .i64 b.r])] rfl ?_
  intro φ F
  have M := Mm.start [] w
  refine wp_seq ?_
  -- region 0
  refine wp_region_lit ?_
  refine sq_box F M (wt0 rfl) rfl (F.ev rfl) (cs := #[.int .i64 a.e, .int .i64 a.r]) rfl rfl rfl ?_; clear F M; intro φ ω g1 F M
  refine sq_box F M (wt0 rfl) rfl (F.ev rfl) (cs := #[.int .i64 b.e, .int .i64 b.r]) rfl rfl rfl ?_; clear F M; intro φ ω g2 F M
  refine sq_alloc F M (wt0 rfl) rfl z30 rfl rfl ?_; clear F M; intro φ ω g3 F M
  refine nx ?_
  refine wp_seq ?_
  -- region 1
  refine wp_region_lit ?_
  refine sq_pure F (wt0 rfl) (pu_field rfl (F.ev rfl) fo30_0) rfl rfl ?_; clear F; intro φ F
  refine sq_rd F (wt0 rfl) (ld_cell rfl (F.ev rfl) one3 (M.rd (i := 2) rfl) rfl) rfl rfl ?_; clear F; intro φ F
  refine sq_pure F (wt0 rfl) (pu_field rfl (F.ev rfl) fo30_0) rfl rfl ?_; clear F; intro φ F
  refine sq_rd F (wt0 rfl) (ld_cell rfl (F.ev rfl) one3 (M.rd (i := 1) rfl) rfl) rfl rfl ?_; clear F; intro φ F
  refine sq_pure F (wt0 rfl) (pu_min rfl (F.ev rfl) (F.ev rfl)) rfl rfl ?_; clear F; intro φ F
  refine sq_pure F (wt0 rfl) (pu_field rfl (F.ev rfl) fo30_1) rfl rfl ?_; clear F; intro φ F
  refine sq_rd F (wt0 rfl) (ld_cell rfl (F.ev rfl) one3 (M.rd (i := 2) rfl) rfl) rfl rfl ?_; clear F; intro φ F
  refine sq_pure F (wt0 rfl) (pu_field rfl (F.ev rfl) fo30_1) rfl rfl ?_; clear F; intro φ F
  refine sq_rd F (wt0 rfl) (ld_cell rfl (F.ev rfl) one3 (M.rd (i := 1) rfl) rfl) rfl rfl ?_; clear F; intro φ F
  refine sq_pure F (wt0 rfl) (pu_min rfl (F.ev rfl) (F.ev rfl)) rfl rfl ?_; clear F; intro φ F
  refine sq_pure F (wt0 rfl) (bu30_0_1 rfl (F.ev rfl) (F.ev rfl)) rfl rfl ?_; clear F; intro φ F
  refine sq_stA F M (wt0 rfl) rfl (F.ev rfl) (F.ev rfl) (i := 0) rfl agg30 rfl rfl rfl rfl ?_; clear M; intro ω M
  refine nx ?_
  refine wp_ret ?_
  refine rt_cell F M rfl rfl (i := 0) rfl agg30 rfl ?_
  exact ⟨rfl, M.bel⟩

theorem meet_eq (a b : St) : decide (a.meet b = a) = a.leB b := by
  rw [Bool.eq_iff_iff, St.le_iff]
  simp [St.eq_iff, St.meet]
  omega

set_option maxHeartbeats 400000 in
theorem le_any (a b : St) (w : World) :
    Calls Try.prog 38 #[.agg #[.int .i64 a.e, .int .i64 a.r], .agg #[.int .i64 b.e, .int .i64 b.r]] w fun e w' => e = .returned (.bool (a.leB b)) ∧ Below w.heap.size w w' := by
  refine enterF Try.func38 rfl 10 Try.ntmps38 [.agg #[.int .i64 a.e, .int .i64 a.r], .agg #[.int .i64 b.e, .int .i64 b.r]] rfl [(0, .agg #[.int .i64 a.e, .int .i64 a.r]), (1, .agg #[.int .i64 b.e, .int .i64 b.r])] rfl ?_
  intro φ F
  have M := Mm.start [] w
  refine wp_seq ?_
  -- region 0
  refine wp_region_lit ?_
  refine sq_box F M (wt0 rfl) rfl (F.ev rfl) (cs := #[.int .i64 a.e, .int .i64 a.r]) rfl rfl rfl ?_; clear F M; intro φ ω g1 F M
  refine sq_box F M (wt0 rfl) rfl (F.ev rfl) (cs := #[.int .i64 b.e, .int .i64 b.r]) rfl rfl rfl ?_; clear F M; intro φ ω g2 F M
  refine sq_pure F (wt0 rfl) (pu_assign rfl (evk)) rfl rfl ?_; clear F; intro φ F
  refine nx ?_
  refine wp_seq ?_
  -- region 1
  refine rg_quiet M mixedOK (by kernel_rfl) ?_
  refine qt_rd F (wt0 rfl) (ld_agg rfl (F.ev rfl) agg30 (M.rdB (i := 1) rfl) rfl) rfl rfl ?_; clear F; intro φ F
  refine qt_rd F (wt0 rfl) (ld_agg rfl (F.ev rfl) agg30 (M.rdB (i := 0) rfl) rfl) rfl rfl ?_; clear F; intro φ F
  refine qt_call F (wt0 rfl) rfl en45 (evc (F.ev rfl) (evc (F.ev rfl) evn)) (fun w' h => calls_below h (meet_any a b w')) rfl rfl ?_; clear F; intro φ F
  refine qt_rd F (wt0 rfl) (ld_agg rfl (F.ev rfl) agg30 (M.rdB (i := 1) rfl) rfl) rfl rfl ?_; clear F; intro φ F
  refine qt_pure F (wt0 rfl) (pu_eqlA rfl (F.ev rfl) (F.ev rfl) eqg30 (fun w => eqS30 (a.meet b) a w)) rfl rfl ?_; clear F; intro φ F
  refine qt_pure F (wt0 rfl) (pu_assign rfl (F.ev rfl)) rfl rfl ?_; clear F; intro φ F
  refine wpQuiet_nil ?_
  clear M; intro ω M
  refine nxq ?_
  refine wp_ret ?_
  refine rt_tmp F rfl rfl ?_
  exact ⟨by rw [meet_eq], M.bel⟩

set_option maxHeartbeats 400000 in
theorem rle_any (a b : St) (w : World) :
    Calls Try.prog 31 #[.agg #[.int .i64 a.e, .int .i64 a.r], .agg #[.int .i64 b.e, .int .i64 b.r]] w fun e w' => e = .returned (.bool (a.leB b)) ∧ Below w.heap.size w w' := by
  refine enterF Try.func31 rfl 17 Try.ntmps31 [.agg #[.int .i64 a.e, .int .i64 a.r], .agg #[.int .i64 b.e, .int .i64 b.r]] rfl [(0, .agg #[.int .i64 a.e, .int .i64 a.r]), (1, .agg #[.int .i64 b.e, .int .i64 b.r])] rfl ?_
  intro φ F
  have M := Mm.start [] w
  refine wp_seq ?_
  -- region 0
  refine wp_region_lit ?_
  refine sq_box F M (wt0 rfl) rfl (F.ev rfl) (cs := #[.int .i64 a.e, .int .i64 a.r]) rfl rfl rfl ?_; clear F M; intro φ ω g1 F M
  refine sq_box F M (wt0 rfl) rfl (F.ev rfl) (cs := #[.int .i64 b.e, .int .i64 b.r]) rfl rfl rfl ?_; clear F M; intro φ ω g2 F M
  refine sq_pure F (wt0 rfl) (pu_assign rfl (evk)) rfl rfl ?_; clear F; intro φ F
  refine nx ?_
  refine wp_seq ?_
  -- region 1
  refine wp_region_lit ?_
  refine sq_pure F (wt0 rfl) (pu_field rfl (F.ev rfl) fo30_0) rfl rfl ?_; clear F; intro φ F
  refine sq_rd F (wt0 rfl) (ld_cell rfl (F.ev rfl) one3 (M.rd (i := 1) rfl) rfl) rfl rfl ?_; clear F; intro φ F
  refine sq_pure F (wt0 rfl) (pu_field rfl (F.ev rfl) fo30_0) rfl rfl ?_; clear F; intro φ F
  refine sq_rd F (wt0 rfl) (ld_cell rfl (F.ev rfl) one3 (M.rd (i := 0) rfl) rfl) rfl rfl ?_; clear F; intro φ F
  refine sq_pure F (wt0 rfl) (pu_leq rfl (F.ev rfl) (F.ev rfl)) rfl rfl ?_; clear F; intro φ F
  refine sq_pure F (wt0 rfl) (pu_move rfl (F.ev rfl)) rfl rfl ?_; clear F; intro φ F
  cases hs1 : (decide (a.e ≤ b.e))
  · rw [hs1] at F
    refine sq_skip F (wtn F rfl rfl rfl rfl rfl) rfl rfl ?_; clear F; intro φ F
    refine sq_skip F (wtn F rfl rfl rfl rfl rfl) rfl rfl ?_; clear F; intro φ F
    refine sq_skip F (wtn F rfl rfl rfl rfl rfl) rfl rfl ?_; clear F; intro φ F
    refine sq_skip F (wtn F rfl rfl rfl rfl rfl) rfl rfl ?_; clear F; intro φ F
    refine sq_skip F (wtn F rfl rfl rfl rfl rfl) rfl rfl ?_; clear F; intro φ F
    refine sq_pure F (wt0 rfl) (pu_pickf rfl (F.ev rfl) (evk)) rfl rfl ?_; clear F; intro φ F
    refine sq_pure F (wt0 rfl) (pu_assign rfl (F.ev rfl)) rfl rfl ?_; clear F; intro φ F
    refine nx ?_
    refine wp_ret ?_
    refine rt_tmp F rfl rfl ?_
    exact ⟨by unfold St.leB; simp_all; try omega, M.bel⟩
  · rw [hs1] at F
    refine sq_pure F (wt1 F rfl rfl rfl rfl rfl) (pu_field rfl (F.ev rfl) fo30_1) rfl rfl ?_; clear F; intro φ F
    refine sq_rd F (wt1 F rfl rfl rfl rfl rfl) (ld_cell rfl (F.ev rfl) one3 (M.rd (i := 1) rfl) rfl) rfl rfl ?_; clear F; intro φ F
    refine sq_pure F (wt1 F rfl rfl rfl rfl rfl) (pu_field rfl (F.ev rfl) fo30_1) rfl rfl ?_; clear F; intro φ F
    refine sq_rd F (wt1 F rfl rfl rfl rfl rfl) (ld_cell rfl (F.ev rfl) one3 (M.rd (i := 0) rfl) rfl) rfl rfl ?_; clear F; intro φ F
    refine sq_pure F (wt1 F rfl rfl rfl rfl rfl) (pu_leq rfl (F.ev rfl) (F.ev rfl)) rfl rfl ?_; clear F; intro φ F
    refine sq_pure F (wt0 rfl) (pu_pickt rfl (F.ev rfl) (F.ev rfl)) rfl rfl ?_; clear F; intro φ F
    refine sq_pure F (wt0 rfl) (pu_assign rfl (F.ev rfl)) rfl rfl ?_; clear F; intro φ F
    refine nx ?_
    refine wp_ret ?_
    refine rt_tmp F rfl rfl ?_
    exact ⟨by unfold St.leB; simp_all; try omega, M.bel⟩

set_option maxHeartbeats 400000 in
theorem rahead_any (a b : St) (w : World) :
    Calls Try.prog 25 #[.agg #[.int .i64 a.e, .int .i64 a.r], .agg #[.int .i64 b.e, .int .i64 b.r]] w fun e w' => e = .returned (.bool (a.aheadB b)) ∧ Below w.heap.size w w' := by
  refine enterF Try.func25 rfl 24 Try.ntmps25 [.agg #[.int .i64 a.e, .int .i64 a.r], .agg #[.int .i64 b.e, .int .i64 b.r]] rfl [(0, .agg #[.int .i64 a.e, .int .i64 a.r]), (1, .agg #[.int .i64 b.e, .int .i64 b.r])] rfl ?_
  intro φ F
  have M := Mm.start [] w
  refine wp_seq ?_
  -- region 0
  refine wp_region_lit ?_
  refine sq_box F M (wt0 rfl) rfl (F.ev rfl) (cs := #[.int .i64 a.e, .int .i64 a.r]) rfl rfl rfl ?_; clear F M; intro φ ω g1 F M
  refine sq_box F M (wt0 rfl) rfl (F.ev rfl) (cs := #[.int .i64 b.e, .int .i64 b.r]) rfl rfl rfl ?_; clear F M; intro φ ω g2 F M
  refine sq_pure F (wt0 rfl) (pu_assign rfl (evk)) rfl rfl ?_; clear F; intro φ F
  refine nx ?_
  refine wp_seq ?_
  -- region 1
  refine wp_region_lit ?_
  refine sq_pure F (wt0 rfl) (pu_field rfl (F.ev rfl) fo30_0) rfl rfl ?_; clear F; intro φ F
  refine sq_rd F (wt0 rfl) (ld_cell rfl (F.ev rfl) one3 (M.rd (i := 1) rfl) rfl) rfl rfl ?_; clear F; intro φ F
  refine sq_pure F (wt0 rfl) (pu_field rfl (F.ev rfl) fo30_0) rfl rfl ?_; clear F; intro φ F
  refine sq_rd F (wt0 rfl) (ld_cell rfl (F.ev rfl) one3 (M.rd (i := 0) rfl) rfl) rfl rfl ?_; clear F; intro φ F
  refine sq_pure F (wt0 rfl) (pu_lss rfl (F.ev rfl) (F.ev rfl)) rfl rfl ?_; clear F; intro φ F
  refine sq_pure F (wt0 rfl) (pu_move rfl (F.ev rfl)) rfl rfl ?_; clear F; intro φ F
  cases hs1 : (decide (a.e < b.e))
  · rw [hs1] at F
    refine sq_pure F (wt1 F rfl rfl rfl rfl rfl) (pu_field rfl (F.ev rfl) fo30_0) rfl rfl ?_; clear F; intro φ F
    refine sq_rd F (wt1 F rfl rfl rfl rfl rfl) (ld_cell rfl (F.ev rfl) one3 (M.rd (i := 1) rfl) rfl) rfl rfl ?_; clear F; intro φ F
    refine sq_pure F (wt1 F rfl rfl rfl rfl rfl) (pu_field rfl (F.ev rfl) fo30_0) rfl rfl ?_; clear F; intro φ F
    refine sq_rd F (wt1 F rfl rfl rfl rfl rfl) (ld_cell rfl (F.ev rfl) one3 (M.rd (i := 0) rfl) rfl) rfl rfl ?_; clear F; intro φ F
    refine sq_pure F (wt1 F rfl rfl rfl rfl rfl) (pu_eqlI rfl (F.ev rfl) (F.ev rfl)) rfl rfl ?_; clear F; intro φ F
    refine sq_pure F (wt1 F rfl rfl rfl rfl rfl) (pu_move rfl (F.ev rfl)) rfl rfl ?_; clear F; intro φ F
    cases hs2 : (decide (a.e = b.e))
    · rw [hs2] at F
      refine sq_skip F (wtn F rfl rfl rfl rfl rfl) rfl rfl ?_; clear F; intro φ F
      refine sq_skip F (wtn F rfl rfl rfl rfl rfl) rfl rfl ?_; clear F; intro φ F
      refine sq_skip F (wtn F rfl rfl rfl rfl rfl) rfl rfl ?_; clear F; intro φ F
      refine sq_skip F (wtn F rfl rfl rfl rfl rfl) rfl rfl ?_; clear F; intro φ F
      refine sq_skip F (wtn F rfl rfl rfl rfl rfl) rfl rfl ?_; clear F; intro φ F
      refine sq_pure F (wt1 F rfl rfl rfl rfl rfl) (pu_pickf rfl (F.ev rfl) (evk)) rfl rfl ?_; clear F; intro φ F
      refine sq_pure F (wt0 rfl) (pu_pickf rfl (F.ev rfl) (F.ev rfl)) rfl rfl ?_; clear F; intro φ F
      refine sq_pure F (wt0 rfl) (pu_assign rfl (F.ev rfl)) rfl rfl ?_; clear F; intro φ F
      refine nx ?_
      refine wp_ret ?_
      refine rt_tmp F rfl rfl ?_
      exact ⟨by unfold St.aheadB; simp_all; try omega, M.bel⟩
    · rw [hs2] at F
      refine sq_pure F (wt1 F rfl rfl rfl rfl rfl) (pu_field rfl (F.ev rfl) fo30_1) rfl rfl ?_; clear F; intro φ F
      refine sq_rd F (wt1 F rfl rfl rfl rfl rfl) (ld_cell rfl (F.ev rfl) one3 (M.rd (i := 1) rfl) rfl) rfl rfl ?_; clear F; intro φ F
      refine sq_pure F (wt1 F rfl rfl rfl rfl rfl) (pu_field rfl (F.ev rfl) fo30_1) rfl rfl ?_; clear F; intro φ F
      refine sq_rd F (wt1 F rfl rfl rfl rfl rfl) (ld_cell rfl (F.ev rfl) one3 (M.rd (i := 0) rfl) rfl) rfl rfl ?_; clear F; intro φ F
      refine sq_pure F (wt1 F rfl rfl rfl rfl rfl) (pu_lss rfl (F.ev rfl) (F.ev rfl)) rfl rfl ?_; clear F; intro φ F
      refine sq_pure F (wt1 F rfl rfl rfl rfl rfl) (pu_pickt rfl (F.ev rfl) (F.ev rfl)) rfl rfl ?_; clear F; intro φ F
      refine sq_pure F (wt0 rfl) (pu_pickf rfl (F.ev rfl) (F.ev rfl)) rfl rfl ?_; clear F; intro φ F
      refine sq_pure F (wt0 rfl) (pu_assign rfl (F.ev rfl)) rfl rfl ?_; clear F; intro φ F
      refine nx ?_
      refine wp_ret ?_
      refine rt_tmp F rfl rfl ?_
      exact ⟨by unfold St.aheadB; simp_all; try omega, M.bel⟩
  · rw [hs1] at F
    refine sq_skip F (wtn F rfl rfl rfl rfl rfl) rfl rfl ?_; clear F; intro φ F
    refine sq_skip F (wtn F rfl rfl rfl rfl rfl) rfl rfl ?_; clear F; intro φ F
    refine sq_skip F (wtn F rfl rfl rfl rfl rfl) rfl rfl ?_; clear F; intro φ F
    refine sq_skip F (wtn F rfl rfl rfl rfl rfl) rfl rfl ?_; clear F; intro φ F
    refine sq_skip F (wtn F rfl rfl rfl rfl rfl) rfl rfl ?_; clear F; intro φ F
    refine sq_skip F (wtn F rfl rfl rfl rfl rfl) rfl rfl ?_; clear F; intro φ F
    refine sq_skip F (wtu F rfl rfl rfl rfl rfl) rfl rfl ?_; clear F; intro φ F
    refine sq_skip F (wtu F rfl rfl rfl rfl rfl) rfl rfl ?_; clear F; intro φ F
    refine sq_skip F (wtu F rfl rfl rfl rfl rfl) rfl rfl ?_; clear F; intro φ F
    refine sq_skip F (wtu F rfl rfl rfl rfl rfl) rfl rfl ?_; clear F; intro φ F
    refine sq_skip F (wtu F rfl rfl rfl rfl rfl) rfl rfl ?_; clear F; intro φ F
    refine sq_skip F (wtn F rfl rfl rfl rfl rfl) rfl rfl ?_; clear F; intro φ F
    refine sq_pure F (wt0 rfl) (pu_pickt rfl (F.ev rfl) (evk)) rfl rfl ?_; clear F; intro φ F
    refine sq_pure F (wt0 rfl) (pu_assign rfl (F.ev rfl)) rfl rfl ?_; clear F; intro φ F
    refine nx ?_
    refine wp_ret ?_
    refine rt_tmp F rfl rfl ?_
    exact ⟨by unfold St.aheadB; simp_all; try omega, M.bel⟩

set_option maxHeartbeats 400000 in
theorem cmp_any (a b : St) (w : World) :
    Calls Try.prog 36 #[.agg #[.int .i64 a.e, .int .i64 a.r], .agg #[.int .i64 b.e, .int .i64 b.r]] w fun e w' => e = .returned (.int .i64 (a.cmp b)) ∧ Below w.heap.size w w' := by
  refine enterF Try.func36 rfl 27 Try.ntmps36 [.agg #[.int .i64 a.e, .int .i64 a.r], .agg #[.int .i64 b.e, .int .i64 b.r]] rfl [(0, .agg #[.int .i64 a.e, .int .i64 a.r]), (1, .agg #[.int .i64 b.e, .int .i64 b.r])] rfl ?_
  intro φ F
  have M := Mm.start [] w
  refine wp_seq ?_
  -- region 0
  refine wp_region_lit ?_
  refine sq_box F M (wt0 rfl) rfl (F.ev rfl) (cs := #[.int .i64 a.e, .int .i64 a.r]) rfl rfl rfl ?_; clear F M; intro φ ω g1 F M
  refine sq_box F M (wt0 rfl) rfl (F.ev rfl) (cs := #[.int .i64 b.e, .int .i64 b.r]) rfl rfl rfl ?_; clear F M; intro φ ω g2 F M
  refine sq_pure F (wt0 rfl) (pu_assign rfl (evk)) rfl rfl ?_; clear F; intro φ F
  refine nx ?_
  refine wp_seq ?_
  refine wp_seq ?_
  -- region 1
  refine wp_region_lit ?_
  refine sq_rd F (wt0 rfl) (ld_agg rfl (F.ev rfl) agg30 (M.rd (i := 1) rfl) rfl) rfl rfl ?_; clear F; intro φ F
  refine sq_rd F (wt0 rfl) (ld_agg rfl (F.ev rfl) agg30 (M.rd (i := 0) rfl) rfl) rfl rfl ?_; clear F; intro φ F
  refine sq_pure F (wt0 rfl) (pu_eqlA rfl (F.ev rfl) (F.ev rfl) eqg30 (fun w => eqS30 a b w)) rfl rfl ?_; clear F; intro φ F
  refine nx ?_
  cases hs1 : (decide (a = b))
  · rw [hs1] at F
    refine wp_cond_false (F.ev rfl) ?_
    refine wp_skip ?_
    refine nxq ?_
    refine wp_seq ?_
    refine wp_seq ?_
    -- region 3
    refine wp_region_lit ?_
    refine sq_pure F (wt0 rfl) (pu_field rfl (F.ev rfl) fo30_0) rfl rfl ?_; clear F; intro φ F
    refine sq_rd F (wt0 rfl) (ld_cell rfl (F.ev rfl) one3 (M.rd (i := 1) rfl) rfl) rfl rfl ?_; clear F; intro φ F
    refine sq_pure F (wt0 rfl) (pu_field rfl (F.ev rfl) fo30_0) rfl rfl ?_; clear F; intro φ F
    refine sq_rd F (wt0 rfl) (ld_cell rfl (F.ev rfl) one3 (M.rd (i := 0) rfl) rfl) rfl rfl ?_; clear F; intro φ F
    refine sq_pure F (wt0 rfl) (pu_lss rfl (F.ev rfl) (F.ev rfl)) rfl rfl ?_; clear F; intro φ F
    refine sq_pure F (wt0 rfl) (pu_move rfl (F.ev rfl)) rfl rfl ?_; clear F; intro φ F
    cases hs2 : (decide (a.e < b.e))
    · rw [hs2] at F
      refine sq_pure F (wt1 F rfl rfl rfl rfl rfl) (pu_field rfl (F.ev rfl) fo30_0) rfl rfl ?_; clear F; intro φ F
      refine sq_rd F (wt1 F rfl rfl rfl rfl rfl) (ld_cell rfl (F.ev rfl) one3 (M.rd (i := 1) rfl) rfl) rfl rfl ?_; clear F; intro φ F
      refine sq_pure F (wt1 F rfl rfl rfl rfl rfl) (pu_field rfl (F.ev rfl) fo30_0) rfl rfl ?_; clear F; intro φ F
      refine sq_rd F (wt1 F rfl rfl rfl rfl rfl) (ld_cell rfl (F.ev rfl) one3 (M.rd (i := 0) rfl) rfl) rfl rfl ?_; clear F; intro φ F
      refine sq_pure F (wt1 F rfl rfl rfl rfl rfl) (pu_eqlI rfl (F.ev rfl) (F.ev rfl)) rfl rfl ?_; clear F; intro φ F
      refine sq_pure F (wt1 F rfl rfl rfl rfl rfl) (pu_move rfl (F.ev rfl)) rfl rfl ?_; clear F; intro φ F
      cases hs3 : (decide (a.e = b.e))
      · rw [hs3] at F
        refine sq_skip F (wtn F rfl rfl rfl rfl rfl) rfl rfl ?_; clear F; intro φ F
        refine sq_skip F (wtn F rfl rfl rfl rfl rfl) rfl rfl ?_; clear F; intro φ F
        refine sq_skip F (wtn F rfl rfl rfl rfl rfl) rfl rfl ?_; clear F; intro φ F
        refine sq_skip F (wtn F rfl rfl rfl rfl rfl) rfl rfl ?_; clear F; intro φ F
        refine sq_skip F (wtn F rfl rfl rfl rfl rfl) rfl rfl ?_; clear F; intro φ F
        refine sq_pure F (wt1 F rfl rfl rfl rfl rfl) (pu_pickf rfl (F.ev rfl) (evk)) rfl rfl ?_; clear F; intro φ F
        refine sq_pure F (wt0 rfl) (pu_pickf rfl (F.ev rfl) (F.ev rfl)) rfl rfl ?_; clear F; intro φ F
        refine nx ?_
        refine wp_cond_false (F.ev rfl) ?_
        refine wp_skip ?_
        refine nxq ?_
        refine wp_seq ?_
        -- region 5
        refine wp_region_lit ?_
        refine sq_pure F (wt0 rfl) (pu_assign rfl (evk)) rfl rfl ?_; clear F; intro φ F
        refine nx ?_
        refine wp_ret ?_
        refine rt_tmp F rfl rfl ?_
        exact ⟨by unfold St.cmp St.aheadB; simp_all; try omega, M.bel⟩
      · rw [hs3] at F
        refine sq_pure F (wt1 F rfl rfl rfl rfl rfl) (pu_field rfl (F.ev rfl) fo30_1) rfl rfl ?_; clear F; intro φ F
        refine sq_rd F (wt1 F rfl rfl rfl rfl rfl) (ld_cell rfl (F.ev rfl) one3 (M.rd (i := 1) rfl) rfl) rfl rfl ?_; clear F; intro φ F
        refine sq_pure F (wt1 F rfl rfl rfl rfl rfl) (pu_field rfl (F.ev rfl) fo30_1) rfl rfl ?_; clear F; intro φ F
        refine sq_rd F (wt1 F rfl rfl rfl rfl rfl) (ld_cell rfl (F.ev rfl) one3 (M.rd (i := 0) rfl) rfl) rfl rfl ?_; clear F; intro φ F
        refine sq_pure F (wt1 F rfl rfl rfl rfl rfl) (pu_lss rfl (F.ev rfl) (F.ev rfl)) rfl rfl ?_; clear F; intro φ F
        refine sq_pure F (wt1 F rfl rfl rfl rfl rfl) (pu_pickt rfl (F.ev rfl) (F.ev rfl)) rfl rfl ?_; clear F; intro φ F
        refine sq_pure F (wt0 rfl) (pu_pickf rfl (F.ev rfl) (F.ev rfl)) rfl rfl ?_; clear F; intro φ F
        refine nx ?_
        cases hs4 : (decide (a.r < b.r))
        · rw [hs4] at F
          refine wp_cond_false (F.ev rfl) ?_
          refine wp_skip ?_
          refine nxq ?_
          refine wp_seq ?_
          -- region 5
          refine wp_region_lit ?_
          refine sq_pure F (wt0 rfl) (pu_assign rfl (evk)) rfl rfl ?_; clear F; intro φ F
          refine nx ?_
          refine wp_ret ?_
          refine rt_tmp F rfl rfl ?_
          exact ⟨by unfold St.cmp St.aheadB; simp_all; try omega, M.bel⟩
        · rw [hs4] at F
          refine wp_cond_true (F.ev rfl) ?_
          refine wp_seq ?_
          -- region 4
          refine wp_region_lit ?_
          refine sq_pure F (wt0 rfl) (pu_assign rfl (evk)) rfl rfl ?_; clear F; intro φ F
          refine nx ?_
          refine wp_ret ?_
          refine nxr ?_
          refine rt_tmp F rfl rfl ?_
          exact ⟨by unfold St.cmp St.aheadB; simp_all; try omega, M.bel⟩
    · rw [hs2] at F
      refine sq_skip F (wtn F rfl rfl rfl rfl rfl) rfl rfl ?_; clear F; intro φ F
      refine sq_skip F (wtn F rfl rfl rfl rfl rfl) rfl rfl ?_; clear F; intro φ F
      refine sq_skip F (wtn F rfl rfl rfl rfl rfl) rfl rfl ?_; clear F; intro φ F
      refine sq_skip F (wtn F rfl rfl rfl rfl rfl) rfl rfl ?_; clear F; intro φ F
      refine sq_skip F (wtn F rfl rfl rfl rfl rfl) rfl rfl ?_; clear F; intro φ F
      refine sq_skip F (wtn F rfl rfl rfl rfl rfl) rfl rfl ?_; clear F; intro φ F
      refine sq_skip F (wtu F rfl rfl rfl rfl rfl) rfl rfl ?_; clear F; intro φ F
      refine sq_skip F (wtu F rfl rfl rfl rfl rfl) rfl rfl ?_; clear F; intro φ F
      refine sq_skip F (wtu F rfl rfl rfl rfl rfl) rfl rfl ?_; clear F; intro φ F
      refine sq_skip F (wtu F rfl rfl rfl rfl rfl) rfl rfl ?_; clear F; intro φ F
      refine sq_skip F (wtu F rfl rfl rfl rfl rfl) rfl rfl ?_; clear F; intro φ F
      refine sq_skip F (wtn F rfl rfl rfl rfl rfl) rfl rfl ?_; clear F; intro φ F
      refine sq_pure F (wt0 rfl) (pu_pickt rfl (F.ev rfl) (evk)) rfl rfl ?_; clear F; intro φ F
      refine nx ?_
      refine wp_cond_true (F.ev rfl) ?_
      refine wp_seq ?_
      -- region 4
      refine wp_region_lit ?_
      refine sq_pure F (wt0 rfl) (pu_assign rfl (evk)) rfl rfl ?_; clear F; intro φ F
      refine nx ?_
      refine wp_ret ?_
      refine nxr ?_
      refine rt_tmp F rfl rfl ?_
      exact ⟨by unfold St.cmp St.aheadB; simp_all; try omega, M.bel⟩
  · rw [hs1] at F
    refine wp_cond_true (F.ev rfl) ?_
    refine wp_seq ?_
    -- region 2
    refine wp_region_lit ?_
    refine sq_pure F (wt0 rfl) (pu_assign rfl (evk)) rfl rfl ?_; clear F; intro φ F
    refine nx ?_
    refine wp_ret ?_
    refine nxr ?_
    refine rt_tmp F rfl rfl ?_
    exact ⟨by unfold St.cmp St.aheadB; simp_all; try omega, M.bel⟩

end Go.Proofs.Ytplnpjhgnhndpaa
