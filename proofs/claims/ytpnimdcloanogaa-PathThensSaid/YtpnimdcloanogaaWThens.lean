/- Laws of layer 5. Made by walks/pathlaws.py. -/
import Derived.Test.YtpnimdcloanogaaPa
import Derived.Test.YtpnimdcloanogaaRk
namespace Go.Proofs.Ytpnimdcloanogaa
open Go.RowKit

set_option maxHeartbeats 4000000 in
theorem pathThens_walk (p q : St) (w : World) :
    Calls Try.prog 3 #[.agg #[.int .i64 p.e, .int .i64 p.r], .agg #[.int .i64 q.e, .int .i64 q.r]] w fun e w' => e = .returned (.bool true) ∧ Below w.heap.size w w' := by
  refine enterF Try.func3 rfl 75 Try.ntmps3 [.agg #[.int .i64 p.e, .int .i64 p.r], .agg #[.int .i64 q.e, .int .i64 q.r]] rfl [(0, .agg #[.int .i64 p.e, .int .i64 p.r]), (1, .agg #[.int .i64 q.e, .int .i64 q.r])] rfl ?_
  intro φ F
  have M := Mm.start [] w
  refine wp_seq ?_
  -- region 0
  refine wp_region_lit ?_
  refine sq_box F M (wt0 rfl) rfl (F.ev rfl) (cs := #[.int .i64 p.e, .int .i64 p.r]) rfl rfl rfl ?_; clear F M; intro φ ω g1 F M
  refine sq_box F M (wt0 rfl) rfl (F.ev rfl) (cs := #[.int .i64 q.e, .int .i64 q.r]) rfl rfl rfl ?_; clear F M; intro φ ω g2 F M
  refine sq_pure F (wt0 rfl) (pu_assign rfl (evk)) rfl rfl ?_; clear F; intro φ F
  refine nx ?_
  refine wp_seq ?_
  -- region 1
  refine wp_region_lit ?_
  refine sq_call F M (wt0 rfl) rfl en10 evn (awake_any _) rfl rfl ?_; clear F M; intro φ ω F M
  refine sq_pure F (wt0 rfl) (pu_assign rfl (F.ev rfl)) rfl rfl ?_; clear F; intro φ F
  refine nx ?_
  refine wp_seq ?_
  refine wp_seq ?_
  -- region 2
  refine wp_region_lit ?_
  refine sq_pure F (wt0 rfl) (pu_field rfl (F.ev rfl) fo23_0) rfl rfl ?_; clear F; intro φ F
  refine sq_rd F (wt0 rfl) (ld_cell rfl (F.ev rfl) one3 (M.rd (i := 1) rfl) rfl) rfl rfl ?_; clear F; intro φ F
  refine sq_pure F (wt0 rfl) (pu_gtr rfl (F.ev rfl) (evk)) rfl rfl ?_; clear F; intro φ F
  refine sq_pure F (wt0 rfl) (pu_move rfl (F.ev rfl)) rfl rfl ?_; clear F; intro φ F
  cases hs1 : (decide (4000000 < p.e))
  · rw [hs1] at F
    have hs1i := of_decide_eq_false hs1
    refine sq_pure F (wt1 F rfl rfl rfl rfl rfl) (pu_field rfl (F.ev rfl) fo23_0) rfl rfl ?_; clear F; intro φ F
    refine sq_rd F (wt1 F rfl rfl rfl rfl rfl) (ld_cell rfl (F.ev rfl) one3 (M.rd (i := 0) rfl) rfl) rfl rfl ?_; clear F; intro φ F
    refine sq_pure F (wt1 F rfl rfl rfl rfl rfl) (pu_gtr rfl (F.ev rfl) (evk)) rfl rfl ?_; clear F; intro φ F
    refine sq_pure F (wt0 rfl) (pu_pickf rfl (F.ev rfl) (F.ev rfl)) rfl rfl ?_; clear F; intro φ F
    refine sq_pure F (wt0 rfl) (pu_move rfl (F.ev rfl)) rfl rfl ?_; clear F; intro φ F
    cases hs2 : (decide (4000000 < q.e))
    · rw [hs2] at F
      have hs2i := of_decide_eq_false hs2
      refine sq_pure F (wt1 F rfl rfl rfl rfl rfl) (pu_field rfl (F.ev rfl) fo23_1) rfl rfl ?_; clear F; intro φ F
      refine sq_rd F (wt1 F rfl rfl rfl rfl rfl) (ld_cell rfl (F.ev rfl) one3 (M.rd (i := 1) rfl) rfl) rfl rfl ?_; clear F; intro φ F
      refine sq_pure F (wt1 F rfl rfl rfl rfl rfl) (pu_gtr rfl (F.ev rfl) (evk)) rfl rfl ?_; clear F; intro φ F
      refine sq_pure F (wt0 rfl) (pu_pickf rfl (F.ev rfl) (F.ev rfl)) rfl rfl ?_; clear F; intro φ F
      refine sq_pure F (wt0 rfl) (pu_move rfl (F.ev rfl)) rfl rfl ?_; clear F; intro φ F
      cases hs3 : (decide (4000000 < p.r))
      · rw [hs3] at F
        have hs3i := of_decide_eq_false hs3
        refine sq_pure F (wt1 F rfl rfl rfl rfl rfl) (pu_field rfl (F.ev rfl) fo23_1) rfl rfl ?_; clear F; intro φ F
        refine sq_rd F (wt1 F rfl rfl rfl rfl rfl) (ld_cell rfl (F.ev rfl) one3 (M.rd (i := 0) rfl) rfl) rfl rfl ?_; clear F; intro φ F
        refine sq_pure F (wt1 F rfl rfl rfl rfl rfl) (pu_gtr rfl (F.ev rfl) (evk)) rfl rfl ?_; clear F; intro φ F
        refine sq_pure F (wt0 rfl) (pu_pickf rfl (F.ev rfl) (F.ev rfl)) rfl rfl ?_; clear F; intro φ F
        refine nx ?_
        cases hs4 : (decide (4000000 < q.r))
        · rw [hs4] at F
          have hs4i := of_decide_eq_false hs4
          refine wp_cond_false (F.ev rfl) ?_
          refine wp_skip ?_
          refine nxq ?_
          refine wp_seq ?_
          -- region 4
          refine wp_region_lit ?_
          refine sq_rd F (wt0 rfl) (ld_agg rfl (F.ev rfl) agg23 (M.rd (i := 1) rfl) rfl) rfl rfl ?_; clear F; intro φ F
          refine sq_rd F (wt0 rfl) (ld_agg rfl (F.ev rfl) agg23 (M.rd (i := 0) rfl) rfl) rfl rfl ?_; clear F; intro φ F
          refine sq_call F M (wt0 rfl) rfl en12 (evc (F.ev rfl) (evc (F.ev rfl) evn)) (path_then_any p q _) rfl rfl ?_; clear F M; intro φ ω F M
          refine sq_pure F (wt0 rfl) (pu_move rfl (F.ev rfl)) rfl rfl ?_; clear F; intro φ F
          refine sq_pure F (wt0 rfl) (pu_extract rfl (F.ev rfl) rfl) rfl rfl ?_; clear F; intro φ F
          refine sq_pure F (wt0 rfl) (pu_extract rfl (F.ev rfl) rfl) rfl rfl ?_; clear F; intro φ F
          refine sq_alloc F M (wt0 rfl) rfl z23 rfl rfl ?_; clear F M; intro φ ω g3 F M
          refine sq_stA F M (wt0 rfl) rfl (F.ev rfl) (F.ev rfl) (i := 0) rfl agg23 rfl rfl rfl rfl ?_; clear M; intro ω M
          refine sq_pure F (wt0 rfl) (pu_assign rfl (F.ev rfl)) rfl rfl ?_; clear F; intro φ F
          refine nx ?_
          refine wp_seq ?_
          -- region 5
          refine wp_region_lit ?_
          refine sq_rd F (wt0 rfl) (ld_agg rfl (F.ev rfl) agg23 (M.rd (i := 2) rfl) rfl) rfl rfl ?_; clear F; intro φ F
          refine sq_rd F (wt0 rfl) (ld_agg rfl (F.ev rfl) agg23 (M.rd (i := 1) rfl) rfl) rfl rfl ?_; clear F; intro φ F
          refine sq_call F M (wt0 rfl) rfl en13 (evc (F.ev rfl) (evc (F.ev rfl) evn)) (pthen_any p q _) rfl rfl ?_; clear F M; intro φ ω F M
          refine sq_pure F (wt0 rfl) (pu_move rfl (F.ev rfl)) rfl rfl ?_; clear F; intro φ F
          refine sq_pure F (wt0 rfl) (pu_extract rfl (F.ev rfl) rfl) rfl rfl ?_; clear F; intro φ F
          refine sq_pure F (wt0 rfl) (pu_extract rfl (F.ev rfl) rfl) rfl rfl ?_; clear F; intro φ F
          refine sq_alloc F M (wt0 rfl) rfl z23 rfl rfl ?_; clear F M; intro φ ω g4 F M
          refine sq_stA F M (wt0 rfl) rfl (F.ev rfl) (F.ev rfl) (i := 0) rfl agg23 rfl rfl rfl rfl ?_; clear M; intro ω M
          refine sq_pure F (wt0 rfl) (pu_assign rfl (F.ev rfl)) rfl rfl ?_; clear F; intro φ F
          refine nx ?_
          refine wp_seq ?_
          -- region 6
          refine rg_quiet M mixedOK (by kernel_rfl) ?_
          refine qt_pure F (wt0 rfl) (pu_move rfl (F.ev rfl)) rfl rfl ?_; clear F; intro φ F
          refine qt_pure F (wt0 rfl) (pu_move rfl (F.ev rfl)) rfl rfl ?_; clear F; intro φ F
          refine qt_rd F (wt1 F rfl rfl rfl rfl rfl) (ld_agg rfl (F.ev rfl) agg23 (M.rdB (i := 1) rfl) rfl) rfl rfl ?_; clear F; intro φ F
          refine qt_rd F (wt1 F rfl rfl rfl rfl rfl) (ld_agg rfl (F.ev rfl) agg23 (M.rdB (i := 0) rfl) rfl) rfl rfl ?_; clear F; intro φ F
          refine qt_pure F (wt1 F rfl rfl rfl rfl rfl) (pu_eqlA rfl (F.ev rfl) (F.ev rfl) eqg23 (fun w => eqS23 (p.after q) (p.after q) w)) rfl rfl ?_; clear F; intro φ F
          rw [(show decide ((p.after q) = (p.after q)) = true by simp)] at F
          refine qt_pure F (wt0 rfl) (pu_pickt rfl (F.ev rfl) (F.ev rfl)) rfl rfl ?_; clear F; intro φ F
          refine qt_pure F (wt0 rfl) (pu_move rfl (F.ev rfl)) rfl rfl ?_; clear F; intro φ F
          refine qt_pure F (wt1 F rfl rfl rfl rfl rfl) (pu_move rfl (F.ev rfl)) rfl rfl ?_; clear F; intro φ F
          refine qt_pure F (wt1 F rfl rfl rfl rfl rfl) (pu_move rfl (F.ev rfl)) rfl rfl ?_; clear F; intro φ F
          cases hs5 : (p.afterB q)
          · rw [hs5] at F
            have hs5i := after_f hs5
            refine qt_pure F (wt1 F rfl rfl rfl rfl rfl) (pu_eqlB rfl (F.ev rfl) (F.ev rfl) Try.underlying4) rfl rfl ?_; clear F; intro φ F
            rw [show (false == false) = true from rfl] at F
            refine qt_pure F (wt0 rfl) (pu_pickt rfl (F.ev rfl) (F.ev rfl)) rfl rfl ?_; clear F; intro φ F
            refine qt_pure F (wt0 rfl) (pu_move rfl (F.ev rfl)) rfl rfl ?_; clear F; intro φ F
            refine qt_rd F (wt1 F rfl rfl rfl rfl rfl) (ld_agg rfl (F.ev rfl) agg23 (M.rdB (i := 3) rfl) rfl) rfl rfl ?_; clear F; intro φ F
            refine qt_call F (wt1 F rfl rfl rfl rfl rfl) rfl en11 (evc (F.ev rfl) evn) (fun w' h => calls_below h (path_right_any p w')) rfl rfl ?_; clear F; intro φ F
            refine qt_rd F (wt1 F rfl rfl rfl rfl rfl) (ld_agg rfl (F.ev rfl) agg23 (M.rdB (i := 3) rfl) rfl) rfl rfl ?_; clear F; intro φ F
            refine qt_call F (wt1 F rfl rfl rfl rfl rfl) rfl en14 (evc (F.ev rfl) evn) (fun w' h => calls_below h (pright_any p w')) rfl rfl ?_; clear F; intro φ F
            cases hs6 : p.rightB
            · rw [hs6] at F
              have hs6i := right_f hs6
              refine qt_pure F (wt1 F rfl rfl rfl rfl rfl) (pu_eqlB rfl (F.ev rfl) (F.ev rfl) Try.underlying4) rfl rfl ?_; clear F; intro φ F
              rw [show (false == false) = true from rfl] at F
              refine qt_pure F (wt0 rfl) (pu_pickt rfl (F.ev rfl) (F.ev rfl)) rfl rfl ?_; clear F; intro φ F
              refine qt_pure F (wt0 rfl) (pu_assign rfl (F.ev rfl)) rfl rfl ?_; clear F; intro φ F
              refine wpQuiet_nil ?_
              clear M; intro ω M
              refine nxq ?_
              refine wp_ret ?_
              refine rt_tmp F rfl rfl ?_
              exact ⟨rfl, M.bel⟩
            · rw [hs6] at F
              have hs6i := right_t hs6
              refine qt_pure F (wt1 F rfl rfl rfl rfl rfl) (pu_eqlB rfl (F.ev rfl) (F.ev rfl) Try.underlying4) rfl rfl ?_; clear F; intro φ F
              rw [show (true == true) = true from rfl] at F
              refine qt_pure F (wt0 rfl) (pu_pickt rfl (F.ev rfl) (F.ev rfl)) rfl rfl ?_; clear F; intro φ F
              refine qt_pure F (wt0 rfl) (pu_assign rfl (F.ev rfl)) rfl rfl ?_; clear F; intro φ F
              refine wpQuiet_nil ?_
              clear M; intro ω M
              refine nxq ?_
              refine wp_ret ?_
              refine rt_tmp F rfl rfl ?_
              exact ⟨rfl, M.bel⟩
          · rw [hs5] at F
            have hs5i := after_t hs5
            refine qt_pure F (wt1 F rfl rfl rfl rfl rfl) (pu_eqlB rfl (F.ev rfl) (F.ev rfl) Try.underlying4) rfl rfl ?_; clear F; intro φ F
            rw [show (true == true) = true from rfl] at F
            refine qt_pure F (wt0 rfl) (pu_pickt rfl (F.ev rfl) (F.ev rfl)) rfl rfl ?_; clear F; intro φ F
            refine qt_pure F (wt0 rfl) (pu_move rfl (F.ev rfl)) rfl rfl ?_; clear F; intro φ F
            refine qt_rd F (wt1 F rfl rfl rfl rfl rfl) (ld_agg rfl (F.ev rfl) agg23 (M.rdB (i := 3) rfl) rfl) rfl rfl ?_; clear F; intro φ F
            refine qt_call F (wt1 F rfl rfl rfl rfl rfl) rfl en11 (evc (F.ev rfl) evn) (fun w' h => calls_below h (path_right_any p w')) rfl rfl ?_; clear F; intro φ F
            refine qt_rd F (wt1 F rfl rfl rfl rfl rfl) (ld_agg rfl (F.ev rfl) agg23 (M.rdB (i := 3) rfl) rfl) rfl rfl ?_; clear F; intro φ F
            refine qt_call F (wt1 F rfl rfl rfl rfl rfl) rfl en14 (evc (F.ev rfl) evn) (fun w' h => calls_below h (pright_any p w')) rfl rfl ?_; clear F; intro φ F
            cases hs7 : p.rightB
            · rw [hs7] at F
              have hs7i := right_f hs7
              refine qt_pure F (wt1 F rfl rfl rfl rfl rfl) (pu_eqlB rfl (F.ev rfl) (F.ev rfl) Try.underlying4) rfl rfl ?_; clear F; intro φ F
              rw [show (false == false) = true from rfl] at F
              refine qt_pure F (wt0 rfl) (pu_pickt rfl (F.ev rfl) (F.ev rfl)) rfl rfl ?_; clear F; intro φ F
              refine qt_pure F (wt0 rfl) (pu_assign rfl (F.ev rfl)) rfl rfl ?_; clear F; intro φ F
              refine wpQuiet_nil ?_
              clear M; intro ω M
              refine nxq ?_
              refine wp_ret ?_
              refine rt_tmp F rfl rfl ?_
              exact ⟨rfl, M.bel⟩
            · rw [hs7] at F
              have hs7i := right_t hs7
              refine qt_pure F (wt1 F rfl rfl rfl rfl rfl) (pu_eqlB rfl (F.ev rfl) (F.ev rfl) Try.underlying4) rfl rfl ?_; clear F; intro φ F
              rw [show (true == true) = true from rfl] at F
              refine qt_pure F (wt0 rfl) (pu_pickt rfl (F.ev rfl) (F.ev rfl)) rfl rfl ?_; clear F; intro φ F
              refine qt_pure F (wt0 rfl) (pu_assign rfl (F.ev rfl)) rfl rfl ?_; clear F; intro φ F
              refine wpQuiet_nil ?_
              clear M; intro ω M
              refine nxq ?_
              refine wp_ret ?_
              refine rt_tmp F rfl rfl ?_
              exact ⟨rfl, M.bel⟩
        · rw [hs4] at F
          have hs4i := of_decide_eq_true hs4
          refine wp_cond_true (F.ev rfl) ?_
          refine wp_seq ?_
          -- region 3
          refine wp_region_lit ?_
          refine sq_pure F (wt0 rfl) (pu_move rfl (F.ev rfl)) rfl rfl ?_; clear F; intro φ F
          refine sq_pure F (wt0 rfl) (pu_move rfl (F.ev rfl)) rfl rfl ?_; clear F; intro φ F
          refine sq_pure F (wt1 F rfl rfl rfl rfl rfl) (pu_field rfl (F.ev rfl) fo23_0) rfl rfl ?_; clear F; intro φ F
          refine sq_rd F (wt1 F rfl rfl rfl rfl rfl) (ld_cell rfl (F.ev rfl) one3 (M.rd (i := 1) rfl) rfl) rfl rfl ?_; clear F; intro φ F
          refine sq_pure F (wt1 F rfl rfl rfl rfl rfl) (pu_field rfl (F.ev rfl) fo23_0) rfl rfl ?_; clear F; intro φ F
          refine sq_rd F (wt1 F rfl rfl rfl rfl rfl) (ld_cell rfl (F.ev rfl) one3 (M.rd (i := 0) rfl) rfl) rfl rfl ?_; clear F; intro φ F
          refine sq_pure F (wt1 F rfl rfl rfl rfl rfl) (pu_max rfl (F.ev rfl) (F.ev rfl)) rfl rfl ?_; clear F; intro φ F
          refine sq_pure F (wt1 F rfl rfl rfl rfl rfl) (pu_field rfl (F.ev rfl) fo23_1) rfl rfl ?_; clear F; intro φ F
          refine sq_rd F (wt1 F rfl rfl rfl rfl rfl) (ld_cell rfl (F.ev rfl) one3 (M.rd (i := 1) rfl) rfl) rfl rfl ?_; clear F; intro φ F
          refine sq_pure F (wt1 F rfl rfl rfl rfl rfl) (pu_field rfl (F.ev rfl) fo23_1) rfl rfl ?_; clear F; intro φ F
          refine sq_rd F (wt1 F rfl rfl rfl rfl rfl) (ld_cell rfl (F.ev rfl) one3 (M.rd (i := 0) rfl) rfl) rfl rfl ?_; clear F; intro φ F
          refine sq_pure F (wt1 F rfl rfl rfl rfl rfl) (pu_max rfl (F.ev rfl) (F.ev rfl)) rfl rfl ?_; clear F; intro φ F
          refine sq_pure F (wt1 F rfl rfl rfl rfl rfl) (bu23_0_1 rfl (F.ev rfl) (F.ev rfl)) rfl rfl ?_; clear F; intro φ F
          refine sq_call F M (wt1 F rfl rfl rfl rfl rfl) rfl en11 (evc (F.ev rfl) evn) (path_right_any (St.mk (max p.e q.e) (max p.r q.r)) _) rfl rfl ?_; clear F M; intro φ ω F M
          cases hs8 : ((St.mk (max p.e q.e) (max p.r q.r)).rightB)
          · rw [hs8] at F
            have hs8i := right_f hs8
            refine sq_pure F (wt1 F rfl rfl rfl rfl rfl) (pu_not rfl (F.ev rfl)) rfl rfl ?_; clear F; intro φ F
            rw [show (!false) = true from rfl] at F
            refine sq_pure F (wt0 rfl) (pu_pickt rfl (F.ev rfl) (F.ev rfl)) rfl rfl ?_; clear F; intro φ F
            refine sq_pure F (wt0 rfl) (pu_assign rfl (F.ev rfl)) rfl rfl ?_; clear F; intro φ F
            refine nx ?_
            refine wp_ret ?_
            refine nxr ?_
            refine rt_tmp F rfl rfl ?_
            exact ⟨rfl, M.bel⟩
          · rw [hs8] at F
            have hs8i := right_t hs8
            refine sq_pure F (wt1 F rfl rfl rfl rfl rfl) (pu_not rfl (F.ev rfl)) rfl rfl ?_; clear F; intro φ F
            rw [show (!true) = false from rfl] at F
            refine sq_pure F (wt0 rfl) (pu_pickt rfl (F.ev rfl) (F.ev rfl)) rfl rfl ?_; clear F; intro φ F
            refine sq_pure F (wt0 rfl) (pu_assign rfl (F.ev rfl)) rfl rfl ?_; clear F; intro φ F
            refine nx ?_
            refine wp_ret ?_
            refine nxr ?_
            refine rt_tmp F rfl rfl ?_
            exfalso; clear F M; first | omega | (simp only [St.zero] at *; omega) | (simp_all; done) | (simp_all; omega)
      · rw [hs3] at F
        have hs3i := of_decide_eq_true hs3
        refine sq_skip F (wtn F rfl rfl rfl rfl rfl) rfl rfl ?_; clear F; intro φ F
        refine sq_skip F (wtn F rfl rfl rfl rfl rfl) rfl rfl ?_; clear F; intro φ F
        refine sq_skip F (wtn F rfl rfl rfl rfl rfl) rfl rfl ?_; clear F; intro φ F
        refine sq_pure F (wt0 rfl) (pu_pickt rfl (F.ev rfl) (evk)) rfl rfl ?_; clear F; intro φ F
        refine nx ?_
        refine wp_cond_true (F.ev rfl) ?_
        refine wp_seq ?_
        -- region 3
        refine wp_region_lit ?_
        refine sq_pure F (wt0 rfl) (pu_move rfl (F.ev rfl)) rfl rfl ?_; clear F; intro φ F
        refine sq_pure F (wt0 rfl) (pu_move rfl (F.ev rfl)) rfl rfl ?_; clear F; intro φ F
        refine sq_pure F (wt1 F rfl rfl rfl rfl rfl) (pu_field rfl (F.ev rfl) fo23_0) rfl rfl ?_; clear F; intro φ F
        refine sq_rd F (wt1 F rfl rfl rfl rfl rfl) (ld_cell rfl (F.ev rfl) one3 (M.rd (i := 1) rfl) rfl) rfl rfl ?_; clear F; intro φ F
        refine sq_pure F (wt1 F rfl rfl rfl rfl rfl) (pu_field rfl (F.ev rfl) fo23_0) rfl rfl ?_; clear F; intro φ F
        refine sq_rd F (wt1 F rfl rfl rfl rfl rfl) (ld_cell rfl (F.ev rfl) one3 (M.rd (i := 0) rfl) rfl) rfl rfl ?_; clear F; intro φ F
        refine sq_pure F (wt1 F rfl rfl rfl rfl rfl) (pu_max rfl (F.ev rfl) (F.ev rfl)) rfl rfl ?_; clear F; intro φ F
        refine sq_pure F (wt1 F rfl rfl rfl rfl rfl) (pu_field rfl (F.ev rfl) fo23_1) rfl rfl ?_; clear F; intro φ F
        refine sq_rd F (wt1 F rfl rfl rfl rfl rfl) (ld_cell rfl (F.ev rfl) one3 (M.rd (i := 1) rfl) rfl) rfl rfl ?_; clear F; intro φ F
        refine sq_pure F (wt1 F rfl rfl rfl rfl rfl) (pu_field rfl (F.ev rfl) fo23_1) rfl rfl ?_; clear F; intro φ F
        refine sq_rd F (wt1 F rfl rfl rfl rfl rfl) (ld_cell rfl (F.ev rfl) one3 (M.rd (i := 0) rfl) rfl) rfl rfl ?_; clear F; intro φ F
        refine sq_pure F (wt1 F rfl rfl rfl rfl rfl) (pu_max rfl (F.ev rfl) (F.ev rfl)) rfl rfl ?_; clear F; intro φ F
        refine sq_pure F (wt1 F rfl rfl rfl rfl rfl) (bu23_0_1 rfl (F.ev rfl) (F.ev rfl)) rfl rfl ?_; clear F; intro φ F
        refine sq_call F M (wt1 F rfl rfl rfl rfl rfl) rfl en11 (evc (F.ev rfl) evn) (path_right_any (St.mk (max p.e q.e) (max p.r q.r)) _) rfl rfl ?_; clear F M; intro φ ω F M
        cases hs9 : ((St.mk (max p.e q.e) (max p.r q.r)).rightB)
        · rw [hs9] at F
          have hs9i := right_f hs9
          refine sq_pure F (wt1 F rfl rfl rfl rfl rfl) (pu_not rfl (F.ev rfl)) rfl rfl ?_; clear F; intro φ F
          rw [show (!false) = true from rfl] at F
          refine sq_pure F (wt0 rfl) (pu_pickt rfl (F.ev rfl) (F.ev rfl)) rfl rfl ?_; clear F; intro φ F
          refine sq_pure F (wt0 rfl) (pu_assign rfl (F.ev rfl)) rfl rfl ?_; clear F; intro φ F
          refine nx ?_
          refine wp_ret ?_
          refine nxr ?_
          refine rt_tmp F rfl rfl ?_
          exact ⟨rfl, M.bel⟩
        · rw [hs9] at F
          have hs9i := right_t hs9
          refine sq_pure F (wt1 F rfl rfl rfl rfl rfl) (pu_not rfl (F.ev rfl)) rfl rfl ?_; clear F; intro φ F
          rw [show (!true) = false from rfl] at F
          refine sq_pure F (wt0 rfl) (pu_pickt rfl (F.ev rfl) (F.ev rfl)) rfl rfl ?_; clear F; intro φ F
          refine sq_pure F (wt0 rfl) (pu_assign rfl (F.ev rfl)) rfl rfl ?_; clear F; intro φ F
          refine nx ?_
          refine wp_ret ?_
          refine nxr ?_
          refine rt_tmp F rfl rfl ?_
          exfalso; clear F M; first | omega | (simp only [St.zero] at *; omega) | (simp_all; done) | (simp_all; omega)
    · rw [hs2] at F
      have hs2i := of_decide_eq_true hs2
      refine sq_skip F (wtn F rfl rfl rfl rfl rfl) rfl rfl ?_; clear F; intro φ F
      refine sq_skip F (wtn F rfl rfl rfl rfl rfl) rfl rfl ?_; clear F; intro φ F
      refine sq_skip F (wtn F rfl rfl rfl rfl rfl) rfl rfl ?_; clear F; intro φ F
      refine sq_pure F (wt0 rfl) (pu_pickt rfl (F.ev rfl) (evk)) rfl rfl ?_; clear F; intro φ F
      refine sq_pure F (wt0 rfl) (pu_move rfl (F.ev rfl)) rfl rfl ?_; clear F; intro φ F
      refine sq_skip F (wtn F rfl rfl rfl rfl rfl) rfl rfl ?_; clear F; intro φ F
      refine sq_skip F (wtn F rfl rfl rfl rfl rfl) rfl rfl ?_; clear F; intro φ F
      refine sq_skip F (wtn F rfl rfl rfl rfl rfl) rfl rfl ?_; clear F; intro φ F
      refine sq_pure F (wt0 rfl) (pu_pickt rfl (F.ev rfl) (evk)) rfl rfl ?_; clear F; intro φ F
      refine nx ?_
      refine wp_cond_true (F.ev rfl) ?_
      refine wp_seq ?_
      -- region 3
      refine wp_region_lit ?_
      refine sq_pure F (wt0 rfl) (pu_move rfl (F.ev rfl)) rfl rfl ?_; clear F; intro φ F
      refine sq_pure F (wt0 rfl) (pu_move rfl (F.ev rfl)) rfl rfl ?_; clear F; intro φ F
      refine sq_pure F (wt1 F rfl rfl rfl rfl rfl) (pu_field rfl (F.ev rfl) fo23_0) rfl rfl ?_; clear F; intro φ F
      refine sq_rd F (wt1 F rfl rfl rfl rfl rfl) (ld_cell rfl (F.ev rfl) one3 (M.rd (i := 1) rfl) rfl) rfl rfl ?_; clear F; intro φ F
      refine sq_pure F (wt1 F rfl rfl rfl rfl rfl) (pu_field rfl (F.ev rfl) fo23_0) rfl rfl ?_; clear F; intro φ F
      refine sq_rd F (wt1 F rfl rfl rfl rfl rfl) (ld_cell rfl (F.ev rfl) one3 (M.rd (i := 0) rfl) rfl) rfl rfl ?_; clear F; intro φ F
      refine sq_pure F (wt1 F rfl rfl rfl rfl rfl) (pu_max rfl (F.ev rfl) (F.ev rfl)) rfl rfl ?_; clear F; intro φ F
      refine sq_pure F (wt1 F rfl rfl rfl rfl rfl) (pu_field rfl (F.ev rfl) fo23_1) rfl rfl ?_; clear F; intro φ F
      refine sq_rd F (wt1 F rfl rfl rfl rfl rfl) (ld_cell rfl (F.ev rfl) one3 (M.rd (i := 1) rfl) rfl) rfl rfl ?_; clear F; intro φ F
      refine sq_pure F (wt1 F rfl rfl rfl rfl rfl) (pu_field rfl (F.ev rfl) fo23_1) rfl rfl ?_; clear F; intro φ F
      refine sq_rd F (wt1 F rfl rfl rfl rfl rfl) (ld_cell rfl (F.ev rfl) one3 (M.rd (i := 0) rfl) rfl) rfl rfl ?_; clear F; intro φ F
      refine sq_pure F (wt1 F rfl rfl rfl rfl rfl) (pu_max rfl (F.ev rfl) (F.ev rfl)) rfl rfl ?_; clear F; intro φ F
      refine sq_pure F (wt1 F rfl rfl rfl rfl rfl) (bu23_0_1 rfl (F.ev rfl) (F.ev rfl)) rfl rfl ?_; clear F; intro φ F
      refine sq_call F M (wt1 F rfl rfl rfl rfl rfl) rfl en11 (evc (F.ev rfl) evn) (path_right_any (St.mk (max p.e q.e) (max p.r q.r)) _) rfl rfl ?_; clear F M; intro φ ω F M
      cases hs10 : ((St.mk (max p.e q.e) (max p.r q.r)).rightB)
      · rw [hs10] at F
        have hs10i := right_f hs10
        refine sq_pure F (wt1 F rfl rfl rfl rfl rfl) (pu_not rfl (F.ev rfl)) rfl rfl ?_; clear F; intro φ F
        rw [show (!false) = true from rfl] at F
        refine sq_pure F (wt0 rfl) (pu_pickt rfl (F.ev rfl) (F.ev rfl)) rfl rfl ?_; clear F; intro φ F
        refine sq_pure F (wt0 rfl) (pu_assign rfl (F.ev rfl)) rfl rfl ?_; clear F; intro φ F
        refine nx ?_
        refine wp_ret ?_
        refine nxr ?_
        refine rt_tmp F rfl rfl ?_
        exact ⟨rfl, M.bel⟩
      · rw [hs10] at F
        have hs10i := right_t hs10
        refine sq_pure F (wt1 F rfl rfl rfl rfl rfl) (pu_not rfl (F.ev rfl)) rfl rfl ?_; clear F; intro φ F
        rw [show (!true) = false from rfl] at F
        refine sq_pure F (wt0 rfl) (pu_pickt rfl (F.ev rfl) (F.ev rfl)) rfl rfl ?_; clear F; intro φ F
        refine sq_pure F (wt0 rfl) (pu_assign rfl (F.ev rfl)) rfl rfl ?_; clear F; intro φ F
        refine nx ?_
        refine wp_ret ?_
        refine nxr ?_
        refine rt_tmp F rfl rfl ?_
        exfalso; clear F M; first | omega | (simp only [St.zero] at *; omega) | (simp_all; done) | (simp_all; omega)
  · rw [hs1] at F
    have hs1i := of_decide_eq_true hs1
    refine sq_skip F (wtn F rfl rfl rfl rfl rfl) rfl rfl ?_; clear F; intro φ F
    refine sq_skip F (wtn F rfl rfl rfl rfl rfl) rfl rfl ?_; clear F; intro φ F
    refine sq_skip F (wtn F rfl rfl rfl rfl rfl) rfl rfl ?_; clear F; intro φ F
    refine sq_pure F (wt0 rfl) (pu_pickt rfl (F.ev rfl) (evk)) rfl rfl ?_; clear F; intro φ F
    refine sq_pure F (wt0 rfl) (pu_move rfl (F.ev rfl)) rfl rfl ?_; clear F; intro φ F
    refine sq_skip F (wtn F rfl rfl rfl rfl rfl) rfl rfl ?_; clear F; intro φ F
    refine sq_skip F (wtn F rfl rfl rfl rfl rfl) rfl rfl ?_; clear F; intro φ F
    refine sq_skip F (wtn F rfl rfl rfl rfl rfl) rfl rfl ?_; clear F; intro φ F
    refine sq_pure F (wt0 rfl) (pu_pickt rfl (F.ev rfl) (evk)) rfl rfl ?_; clear F; intro φ F
    refine sq_pure F (wt0 rfl) (pu_move rfl (F.ev rfl)) rfl rfl ?_; clear F; intro φ F
    refine sq_skip F (wtn F rfl rfl rfl rfl rfl) rfl rfl ?_; clear F; intro φ F
    refine sq_skip F (wtn F rfl rfl rfl rfl rfl) rfl rfl ?_; clear F; intro φ F
    refine sq_skip F (wtn F rfl rfl rfl rfl rfl) rfl rfl ?_; clear F; intro φ F
    refine sq_pure F (wt0 rfl) (pu_pickt rfl (F.ev rfl) (evk)) rfl rfl ?_; clear F; intro φ F
    refine nx ?_
    refine wp_cond_true (F.ev rfl) ?_
    refine wp_seq ?_
    -- region 3
    refine wp_region_lit ?_
    refine sq_pure F (wt0 rfl) (pu_move rfl (F.ev rfl)) rfl rfl ?_; clear F; intro φ F
    refine sq_pure F (wt0 rfl) (pu_move rfl (F.ev rfl)) rfl rfl ?_; clear F; intro φ F
    refine sq_pure F (wt1 F rfl rfl rfl rfl rfl) (pu_field rfl (F.ev rfl) fo23_0) rfl rfl ?_; clear F; intro φ F
    refine sq_rd F (wt1 F rfl rfl rfl rfl rfl) (ld_cell rfl (F.ev rfl) one3 (M.rd (i := 1) rfl) rfl) rfl rfl ?_; clear F; intro φ F
    refine sq_pure F (wt1 F rfl rfl rfl rfl rfl) (pu_field rfl (F.ev rfl) fo23_0) rfl rfl ?_; clear F; intro φ F
    refine sq_rd F (wt1 F rfl rfl rfl rfl rfl) (ld_cell rfl (F.ev rfl) one3 (M.rd (i := 0) rfl) rfl) rfl rfl ?_; clear F; intro φ F
    refine sq_pure F (wt1 F rfl rfl rfl rfl rfl) (pu_max rfl (F.ev rfl) (F.ev rfl)) rfl rfl ?_; clear F; intro φ F
    refine sq_pure F (wt1 F rfl rfl rfl rfl rfl) (pu_field rfl (F.ev rfl) fo23_1) rfl rfl ?_; clear F; intro φ F
    refine sq_rd F (wt1 F rfl rfl rfl rfl rfl) (ld_cell rfl (F.ev rfl) one3 (M.rd (i := 1) rfl) rfl) rfl rfl ?_; clear F; intro φ F
    refine sq_pure F (wt1 F rfl rfl rfl rfl rfl) (pu_field rfl (F.ev rfl) fo23_1) rfl rfl ?_; clear F; intro φ F
    refine sq_rd F (wt1 F rfl rfl rfl rfl rfl) (ld_cell rfl (F.ev rfl) one3 (M.rd (i := 0) rfl) rfl) rfl rfl ?_; clear F; intro φ F
    refine sq_pure F (wt1 F rfl rfl rfl rfl rfl) (pu_max rfl (F.ev rfl) (F.ev rfl)) rfl rfl ?_; clear F; intro φ F
    refine sq_pure F (wt1 F rfl rfl rfl rfl rfl) (bu23_0_1 rfl (F.ev rfl) (F.ev rfl)) rfl rfl ?_; clear F; intro φ F
    refine sq_call F M (wt1 F rfl rfl rfl rfl rfl) rfl en11 (evc (F.ev rfl) evn) (path_right_any (St.mk (max p.e q.e) (max p.r q.r)) _) rfl rfl ?_; clear F M; intro φ ω F M
    cases hs11 : ((St.mk (max p.e q.e) (max p.r q.r)).rightB)
    · rw [hs11] at F
      have hs11i := right_f hs11
      refine sq_pure F (wt1 F rfl rfl rfl rfl rfl) (pu_not rfl (F.ev rfl)) rfl rfl ?_; clear F; intro φ F
      rw [show (!false) = true from rfl] at F
      refine sq_pure F (wt0 rfl) (pu_pickt rfl (F.ev rfl) (F.ev rfl)) rfl rfl ?_; clear F; intro φ F
      refine sq_pure F (wt0 rfl) (pu_assign rfl (F.ev rfl)) rfl rfl ?_; clear F; intro φ F
      refine nx ?_
      refine wp_ret ?_
      refine nxr ?_
      refine rt_tmp F rfl rfl ?_
      exact ⟨rfl, M.bel⟩
    · rw [hs11] at F
      have hs11i := right_t hs11
      refine sq_pure F (wt1 F rfl rfl rfl rfl rfl) (pu_not rfl (F.ev rfl)) rfl rfl ?_; clear F; intro φ F
      rw [show (!true) = false from rfl] at F
      refine sq_pure F (wt0 rfl) (pu_pickt rfl (F.ev rfl) (F.ev rfl)) rfl rfl ?_; clear F; intro φ F
      refine sq_pure F (wt0 rfl) (pu_assign rfl (F.ev rfl)) rfl rfl ?_; clear F; intro φ F
      refine nx ?_
      refine wp_ret ?_
      refine nxr ?_
      refine rt_tmp F rfl rfl ?_
      exfalso; clear F M; first | omega | (simp only [St.zero] at *; omega) | (simp_all; done) | (simp_all; omega)

end Go.Proofs.Ytpnimdcloanogaa
