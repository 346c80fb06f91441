/- Laws of layer 5. Made by walks/pathlaws.py. -/
import Derived.Test.YtpnimdcloanogaaPa
import Derived.Test.YtpnimdcloanogaaRk
namespace Go.Proofs.Ytpnimdcloanogaa
open Go.RowKit

set_option maxHeartbeats 4000000 in
theorem pathOrder_walk (p q r : St) (w : World) :
    Calls Try.prog 5 #[.agg #[.int .i64 p.e, .int .i64 p.r], .agg #[.int .i64 q.e, .int .i64 q.r], .agg #[.int .i64 r.e, .int .i64 r.r]] w fun e w' => e = .returned (.bool true) ∧ Below w.heap.size w w' := by
  refine enterF Try.func5 rfl 100 Try.ntmps5 [.agg #[.int .i64 p.e, .int .i64 p.r], .agg #[.int .i64 q.e, .int .i64 q.r], .agg #[.int .i64 r.e, .int .i64 r.r]] rfl [(0, .agg #[.int .i64 p.e, .int .i64 p.r]), (1, .agg #[.int .i64 q.e, .int .i64 q.r]), (2, .agg #[.int .i64 r.e, .int .i64 r.r])] rfl ?_
  intro φ F
  have M := Mm.start [] w
  refine wp_seq ?_
  -- region 0
  refine wp_region_lit ?_
  refine sq_box F M (wt0 rfl) rfl (F.ev rfl) (cs := #[.int .i64 p.e, .int .i64 p.r]) rfl rfl rfl ?_; clear F M; intro φ ω g1 F M
  refine sq_box F M (wt0 rfl) rfl (F.ev rfl) (cs := #[.int .i64 q.e, .int .i64 q.r]) rfl rfl rfl ?_; clear F M; intro φ ω g2 F M
  refine sq_box F M (wt0 rfl) rfl (F.ev rfl) (cs := #[.int .i64 r.e, .int .i64 r.r]) rfl rfl rfl ?_; clear F M; intro φ ω g3 F M
  refine sq_pure F (wt0 rfl) (pu_assign rfl (evk)) rfl rfl ?_; clear F; intro φ F
  refine nx ?_
  refine wp_seq ?_
  -- region 1
  refine wp_region_lit ?_
  refine sq_call F M (wt0 rfl) rfl en10 evn (awake_any _) rfl rfl ?_; clear F M; intro φ ω F M
  refine sq_pure F (wt0 rfl) (pu_assign rfl (F.ev rfl)) rfl rfl ?_; clear F; intro φ F
  refine nx ?_
  refine wp_seq ?_
  -- region 2
  refine wp_region_lit ?_
  refine sq_rd F (wt0 rfl) (ld_agg rfl (F.ev rfl) agg23 (M.rd (i := 2) rfl) rfl) rfl rfl ?_; clear F; intro φ F
  refine sq_rd F (wt0 rfl) (ld_agg rfl (F.ev rfl) agg23 (M.rd (i := 1) rfl) rfl) rfl rfl ?_; clear F; intro φ F
  refine sq_call F M (wt0 rfl) rfl en12 (evc (F.ev rfl) (evc (F.ev rfl) evn)) (path_then_any p q _) rfl rfl ?_; clear F M; intro φ ω F M
  refine sq_pure F (wt0 rfl) (pu_move rfl (F.ev rfl)) rfl rfl ?_; clear F; intro φ F
  refine sq_pure F (wt0 rfl) (pu_extract rfl (F.ev rfl) rfl) rfl rfl ?_; clear F; intro φ F
  refine sq_pure F (wt0 rfl) (pu_extract rfl (F.ev rfl) rfl) rfl rfl ?_; clear F; intro φ F
  refine sq_alloc F M (wt0 rfl) rfl z23 rfl rfl ?_; clear F M; intro φ ω g4 F M
  refine sq_stA F M (wt0 rfl) rfl (F.ev rfl) (F.ev rfl) (i := 0) rfl agg23 rfl rfl rfl rfl ?_; clear M; intro ω M
  refine sq_pure F (wt0 rfl) (pu_assign rfl (F.ev rfl)) rfl rfl ?_; clear F; intro φ F
  refine nx ?_
  refine wp_seq ?_
  -- region 3
  refine wp_region_lit ?_
  refine sq_rd F (wt0 rfl) (ld_agg rfl (F.ev rfl) agg23 (M.rd (i := 2) rfl) rfl) rfl rfl ?_; clear F; intro φ F
  refine sq_rd F (wt0 rfl) (ld_agg rfl (F.ev rfl) agg23 (M.rd (i := 1) rfl) rfl) rfl rfl ?_; clear F; intro φ F
  refine sq_call F M (wt0 rfl) rfl en12 (evc (F.ev rfl) (evc (F.ev rfl) evn)) (path_then_any q r _) rfl rfl ?_; clear F M; intro φ ω F M
  refine sq_pure F (wt0 rfl) (pu_move rfl (F.ev rfl)) rfl rfl ?_; clear F; intro φ F
  refine sq_pure F (wt0 rfl) (pu_extract rfl (F.ev rfl) rfl) rfl rfl ?_; clear F; intro φ F
  refine sq_pure F (wt0 rfl) (pu_extract rfl (F.ev rfl) rfl) rfl rfl ?_; clear F; intro φ F
  refine sq_alloc F M (wt0 rfl) rfl z23 rfl rfl ?_; clear F M; intro φ ω g5 F M
  refine sq_stA F M (wt0 rfl) rfl (F.ev rfl) (F.ev rfl) (i := 0) rfl agg23 rfl rfl rfl rfl ?_; clear M; intro ω M
  refine sq_pure F (wt0 rfl) (pu_assign rfl (F.ev rfl)) rfl rfl ?_; clear F; intro φ F
  refine nx ?_
  refine wp_seq ?_
  -- region 4
  refine wp_region_lit ?_
  refine sq_rd F (wt0 rfl) (ld_agg rfl (F.ev rfl) agg23 (M.rd (i := 1) rfl) rfl) rfl rfl ?_; clear F; intro φ F
  refine sq_rd F (wt0 rfl) (ld_agg rfl (F.ev rfl) agg23 (M.rd (i := 2) rfl) rfl) rfl rfl ?_; clear F; intro φ F
  refine sq_call F M (wt0 rfl) rfl en12 (evc (F.ev rfl) (evc (F.ev rfl) evn)) (path_then_any (p.after q) r _) rfl rfl ?_; clear F M; intro φ ω F M
  refine sq_pure F (wt0 rfl) (pu_move rfl (F.ev rfl)) rfl rfl ?_; clear F; intro φ F
  refine sq_pure F (wt0 rfl) (pu_extract rfl (F.ev rfl) rfl) rfl rfl ?_; clear F; intro φ F
  refine sq_pure F (wt0 rfl) (pu_extract rfl (F.ev rfl) rfl) rfl rfl ?_; clear F; intro φ F
  refine sq_alloc F M (wt0 rfl) rfl z23 rfl rfl ?_; clear F M; intro φ ω g6 F M
  refine sq_stA F M (wt0 rfl) rfl (F.ev rfl) (F.ev rfl) (i := 0) rfl agg23 rfl rfl rfl rfl ?_; clear M; intro ω M
  refine sq_pure F (wt0 rfl) (pu_assign rfl (F.ev rfl)) rfl rfl ?_; clear F; intro φ F
  refine nx ?_
  refine wp_seq ?_
  -- region 5
  refine wp_region_lit ?_
  refine sq_rd F (wt0 rfl) (ld_agg rfl (F.ev rfl) agg23 (M.rd (i := 5) rfl) rfl) rfl rfl ?_; clear F; intro φ F
  refine sq_rd F (wt0 rfl) (ld_agg rfl (F.ev rfl) agg23 (M.rd (i := 1) rfl) rfl) rfl rfl ?_; clear F; intro φ F
  refine sq_call F M (wt0 rfl) rfl en12 (evc (F.ev rfl) (evc (F.ev rfl) evn)) (path_then_any p (q.after r) _) rfl rfl ?_; clear F M; intro φ ω F M
  refine sq_pure F (wt0 rfl) (pu_move rfl (F.ev rfl)) rfl rfl ?_; clear F; intro φ F
  refine sq_pure F (wt0 rfl) (pu_extract rfl (F.ev rfl) rfl) rfl rfl ?_; clear F; intro φ F
  refine sq_pure F (wt0 rfl) (pu_extract rfl (F.ev rfl) rfl) rfl rfl ?_; clear F; intro φ F
  refine sq_alloc F M (wt0 rfl) rfl z23 rfl rfl ?_; clear F M; intro φ ω g7 F M
  refine sq_stA F M (wt0 rfl) rfl (F.ev rfl) (F.ev rfl) (i := 0) rfl agg23 rfl rfl rfl rfl ?_; clear M; intro ω M
  refine sq_pure F (wt0 rfl) (pu_assign rfl (F.ev rfl)) rfl rfl ?_; clear F; intro φ F
  refine nx ?_
  refine wp_seq ?_
  -- region 6
  refine wp_region_lit ?_
  refine sq_rd F (wt0 rfl) (ld_agg rfl (F.ev rfl) agg23 (M.rd (i := 6) rfl) rfl) rfl rfl ?_; clear F; intro φ F
  refine sq_pure F (wt0 rfl) (bu23_ rfl) rfl rfl ?_; clear F; intro φ F
  refine sq_call F M (wt0 rfl) rfl en12 (evc (F.ev rfl) (evc (F.ev rfl) evn)) (path_then_any p (St.mk 0 0) _) rfl rfl ?_; clear F M; intro φ ω F M
  refine sq_pure F (wt0 rfl) (pu_move rfl (F.ev rfl)) rfl rfl ?_; clear F; intro φ F
  refine sq_pure F (wt0 rfl) (pu_extract rfl (F.ev rfl) rfl) rfl rfl ?_; clear F; intro φ F
  refine sq_pure F (wt0 rfl) (pu_extract rfl (F.ev rfl) rfl) rfl rfl ?_; clear F; intro φ F
  refine sq_alloc F M (wt0 rfl) rfl z23 rfl rfl ?_; clear F M; intro φ ω g8 F M
  refine sq_stA F M (wt0 rfl) rfl (F.ev rfl) (F.ev rfl) (i := 0) rfl agg23 rfl rfl rfl rfl ?_; clear M; intro ω M
  refine sq_pure F (wt0 rfl) (pu_assign rfl (F.ev rfl)) rfl rfl ?_; clear F; intro φ F
  refine nx ?_
  refine wp_seq ?_
  -- region 7
  refine wp_region_lit ?_
  refine sq_rd F (wt0 rfl) (ld_agg rfl (F.ev rfl) agg23 (M.rd (i := 6) rfl) rfl) rfl rfl ?_; clear F; intro φ F
  refine sq_rd F (wt0 rfl) (ld_agg rfl (F.ev rfl) agg23 (M.rd (i := 7) rfl) rfl) rfl rfl ?_; clear F; intro φ F
  refine sq_call F M (wt0 rfl) rfl en12 (evc (F.ev rfl) (evc (F.ev rfl) evn)) (path_then_any q p _) rfl rfl ?_; clear F M; intro φ ω F M
  refine sq_pure F (wt0 rfl) (pu_move rfl (F.ev rfl)) rfl rfl ?_; clear F; intro φ F
  refine sq_pure F (wt0 rfl) (pu_extract rfl (F.ev rfl) rfl) rfl rfl ?_; clear F; intro φ F
  refine sq_pure F (wt0 rfl) (pu_extract rfl (F.ev rfl) rfl) rfl rfl ?_; clear F; intro φ F
  refine sq_alloc F M (wt0 rfl) rfl z23 rfl rfl ?_; clear F M; intro φ ω g9 F M
  refine sq_stA F M (wt0 rfl) rfl (F.ev rfl) (F.ev rfl) (i := 0) rfl agg23 rfl rfl rfl rfl ?_; clear M; intro ω M
  refine sq_pure F (wt0 rfl) (pu_assign rfl (F.ev rfl)) rfl rfl ?_; clear F; intro φ F
  refine nx ?_
  refine wp_seq ?_
  refine wp_seq ?_
  -- region 8
  refine wp_region_lit ?_
  refine sq_pure F (wt0 rfl) (pu_move rfl (F.ev rfl)) rfl rfl ?_; clear F; intro φ F
  refine sq_pure F (wt0 rfl) (pu_move rfl (F.ev rfl)) rfl rfl ?_; clear F; intro φ F
  cases hs1 : (p.afterB q)
  · rw [hs1] at F
    have hs1i := after_f hs1
    refine sq_skip F (wtn F rfl rfl rfl rfl rfl) rfl rfl ?_; clear F; intro φ F
    refine sq_pure F (wt0 rfl) (pu_pickf rfl (F.ev rfl) (evk)) rfl rfl ?_; clear F; intro φ F
    refine sq_pure F (wt0 rfl) (pu_move rfl (F.ev rfl)) rfl rfl ?_; clear F; intro φ F
    refine sq_skip F (wtn F rfl rfl rfl rfl rfl) rfl rfl ?_; clear F; intro φ F
    refine sq_skip F (wtn F rfl rfl rfl rfl rfl) rfl rfl ?_; clear F; intro φ F
    refine sq_skip F (wtn F rfl rfl rfl rfl rfl) rfl rfl ?_; clear F; intro φ F
    refine sq_skip F (wtn F rfl rfl rfl rfl rfl) rfl rfl ?_; clear F; intro φ F
    refine sq_skip F (wtu F rfl rfl rfl rfl rfl) rfl rfl ?_; clear F; intro φ F
    refine sq_skip F (wtu F rfl rfl rfl rfl rfl) rfl rfl ?_; clear F; intro φ F
    refine sq_skip F (wtu F rfl rfl rfl rfl rfl) rfl rfl ?_; clear F; intro φ F
    refine sq_skip F (wtu F rfl rfl rfl rfl rfl) rfl rfl ?_; clear F; intro φ F
    refine sq_skip F (wtu F rfl rfl rfl rfl rfl) rfl rfl ?_; clear F; intro φ F
    refine sq_skip F (wtu F rfl rfl rfl rfl rfl) rfl rfl ?_; clear F; intro φ F
    refine sq_skip F (wtn F rfl rfl rfl rfl rfl) rfl rfl ?_; clear F; intro φ F
    refine sq_pure F (wt0 rfl) (pu_pickf rfl (F.ev rfl) (evk)) rfl rfl ?_; clear F; intro φ F
    refine nx ?_
    refine wp_cond_false (F.ev rfl) ?_
    refine wp_skip ?_
    refine nxq ?_
    refine wp_seq ?_
    -- region 10
    refine wp_region_lit ?_
    refine sq_pure F (wt0 rfl) (pu_move rfl (F.ev rfl)) rfl rfl ?_; clear F; intro φ F
    refine sq_pure F (wt0 rfl) (pu_move rfl (F.ev rfl)) rfl rfl ?_; clear F; intro φ F
    refine sq_pure F (wt1 F rfl rfl rfl rfl rfl) (pu_move rfl (F.ev rfl)) rfl rfl ?_; clear F; intro φ F
    refine sq_rd F (wt1 F rfl rfl rfl rfl rfl) (ld_agg rfl (F.ev rfl) agg23 (M.rd (i := 8) rfl) rfl) rfl rfl ?_; clear F; intro φ F
    refine sq_call F M (wt1 F rfl rfl rfl rfl rfl) rfl en11 (evc (F.ev rfl) evn) (path_right_any p _) rfl rfl ?_; clear F M; intro φ ω F M
    cases hs2 : (p.afterB (St.mk 0 0))
    · rw [hs2] at F
      have hs2i := after_f hs2
      cases hs3 : p.rightB
      · rw [hs3] at F
        have hs3i := right_f hs3
        refine sq_pure F (wt1 F rfl rfl rfl rfl rfl) (pu_eqlB rfl (F.ev rfl) (F.ev rfl) Try.underlying4) rfl rfl ?_; clear F; intro φ F
        rw [show (false == false) = true from rfl] at F
        refine sq_pure F (wt0 rfl) (pu_pickt rfl (F.ev rfl) (F.ev rfl)) rfl rfl ?_; clear F; intro φ F
        refine sq_pure F (wt0 rfl) (pu_move rfl (F.ev rfl)) rfl rfl ?_; clear F; intro φ F
        refine sq_pure F (wt1 F rfl rfl rfl rfl rfl) (pu_move rfl (F.ev rfl)) rfl rfl ?_; clear F; intro φ F
        refine sq_pure F (wt1 F rfl rfl rfl rfl rfl) (pu_not rfl (F.ev rfl)) rfl rfl ?_; clear F; intro φ F
        rw [show (!false) = true from rfl] at F
        refine sq_pure F (wt1 F rfl rfl rfl rfl rfl) (pu_move rfl (F.ev rfl)) rfl rfl ?_; clear F; intro φ F
        refine sq_skip F (wtn F rfl rfl rfl rfl rfl) rfl rfl ?_; clear F; intro φ F
        refine sq_skip F (wtn F rfl rfl rfl rfl rfl) rfl rfl ?_; clear F; intro φ F
        refine sq_skip F (wtn F rfl rfl rfl rfl rfl) rfl rfl ?_; clear F; intro φ F
        refine sq_pure F (wt1 F rfl rfl rfl rfl rfl) (pu_pickt rfl (F.ev rfl) (evk)) rfl rfl ?_; clear F; intro φ F
        refine sq_pure F (wt0 rfl) (pu_pickt rfl (F.ev rfl) (F.ev rfl)) rfl rfl ?_; clear F; intro φ F
        refine sq_pure F (wt0 rfl) (pu_move rfl (F.ev rfl)) rfl rfl ?_; clear F; intro φ F
        refine sq_rd F (wt1 F rfl rfl rfl rfl rfl) (ld_agg rfl (F.ev rfl) agg23 (M.rd (i := 0) rfl) rfl) rfl rfl ?_; clear F; intro φ F
        refine sq_rd F (wt1 F rfl rfl rfl rfl rfl) (ld_agg rfl (F.ev rfl) agg23 (M.rd (i := 5) rfl) rfl) rfl rfl ?_; clear F; intro φ F
        refine sq_pure F (wt1 F rfl rfl rfl rfl rfl) (pu_eqlA rfl (F.ev rfl) (F.ev rfl) eqg23 (fun w => eqS23 (q.after p) (p.after q) w)) rfl rfl ?_; clear F; intro φ F
        rw [(decide_eq_true (after_comm p q).1 : decide ((q.after p) = (p.after q)) = true)] at F
        refine sq_pure F (wt0 rfl) (pu_pickt rfl (F.ev rfl) (F.ev rfl)) rfl rfl ?_; clear F; intro φ F
        refine sq_pure F (wt0 rfl) (pu_move rfl (F.ev rfl)) rfl rfl ?_; clear F; intro φ F
        refine sq_pure F (wt1 F rfl rfl rfl rfl rfl) (pu_move rfl (F.ev rfl)) rfl rfl ?_; clear F; intro φ F
        refine sq_pure F (wt1 F rfl rfl rfl rfl rfl) (pu_move rfl (F.ev rfl)) rfl rfl ?_; clear F; intro φ F
        cases hs4 : (q.afterB p)
        · rw [hs4] at F
          have hs4i := after_f hs4
          refine sq_pure F (wt1 F rfl rfl rfl rfl rfl) (pu_eqlB rfl (F.ev rfl) (F.ev rfl) Try.underlying4) rfl rfl ?_; clear F; intro φ F
          rw [show (false == false) = true from rfl] at F
          refine sq_pure F (wt0 rfl) (pu_pickt rfl (F.ev rfl) (F.ev rfl)) rfl rfl ?_; clear F; intro φ F
          refine sq_pure F (wt0 rfl) (pu_assign rfl (F.ev rfl)) rfl rfl ?_; clear F; intro φ F
          refine nx ?_
          refine wp_ret ?_
          refine rt_tmp F rfl rfl ?_
          exact ⟨rfl, M.bel⟩
        · rw [hs4] at F
          have hs4i := after_t hs4
          refine sq_pure F (wt1 F rfl rfl rfl rfl rfl) (pu_eqlB rfl (F.ev rfl) (F.ev rfl) Try.underlying4) rfl rfl ?_; clear F; intro φ F
          rw [show (true == false) = false from rfl] at F
          refine sq_pure F (wt0 rfl) (pu_pickt rfl (F.ev rfl) (F.ev rfl)) rfl rfl ?_; clear F; intro φ F
          refine sq_pure F (wt0 rfl) (pu_assign rfl (F.ev rfl)) rfl rfl ?_; clear F; intro φ F
          refine nx ?_
          refine wp_ret ?_
          refine rt_tmp F rfl rfl ?_
          exfalso; clear F M; first | omega | (simp only [St.zero] at *; omega) | (simp_all; done) | (simp_all; omega)
      · rw [hs3] at F
        have hs3i := right_t hs3
        refine sq_pure F (wt1 F rfl rfl rfl rfl rfl) (pu_eqlB rfl (F.ev rfl) (F.ev rfl) Try.underlying4) rfl rfl ?_; clear F; intro φ F
        rw [show (false == true) = false from rfl] at F
        refine sq_pure F (wt0 rfl) (pu_pickt rfl (F.ev rfl) (F.ev rfl)) rfl rfl ?_; clear F; intro φ F
        refine sq_pure F (wt0 rfl) (pu_move rfl (F.ev rfl)) rfl rfl ?_; clear F; intro φ F
        refine sq_skip F (wtn F rfl rfl rfl rfl rfl) rfl rfl ?_; clear F; intro φ F
        refine sq_skip F (wtn F rfl rfl rfl rfl rfl) rfl rfl ?_; clear F; intro φ F
        refine sq_skip F (wtn F rfl rfl rfl rfl rfl) rfl rfl ?_; clear F; intro φ F
        refine sq_skip F (wtu F rfl rfl rfl rfl rfl) rfl rfl ?_; clear F; intro φ F
        refine sq_skip F (wtu F rfl rfl rfl rfl rfl) rfl rfl ?_; clear F; intro φ F
        refine sq_skip F (wtu F rfl rfl rfl rfl rfl) rfl rfl ?_; clear F; intro φ F
        refine sq_skip F (wtn F rfl rfl rfl rfl rfl) rfl rfl ?_; clear F; intro φ F
        refine sq_pure F (wt0 rfl) (pu_pickf rfl (F.ev rfl) (evk)) rfl rfl ?_; clear F; intro φ F
        refine sq_pure F (wt0 rfl) (pu_move rfl (F.ev rfl)) rfl rfl ?_; clear F; intro φ F
        refine sq_skip F (wtn F rfl rfl rfl rfl rfl) rfl rfl ?_; clear F; intro φ F
        refine sq_skip F (wtn F rfl rfl rfl rfl rfl) rfl rfl ?_; clear F; intro φ F
        refine sq_skip F (wtn F rfl rfl rfl rfl rfl) rfl rfl ?_; clear F; intro φ F
        refine sq_pure F (wt0 rfl) (pu_pickf rfl (F.ev rfl) (evk)) rfl rfl ?_; clear F; intro φ F
        refine sq_pure F (wt0 rfl) (pu_move rfl (F.ev rfl)) rfl rfl ?_; clear F; intro φ F
        refine sq_skip F (wtn F rfl rfl rfl rfl rfl) rfl rfl ?_; clear F; intro φ F
        refine sq_skip F (wtn F rfl rfl rfl rfl rfl) rfl rfl ?_; clear F; intro φ F
        refine sq_skip F (wtn F rfl rfl rfl rfl rfl) rfl rfl ?_; clear F; intro φ F
        refine sq_pure F (wt0 rfl) (pu_pickf rfl (F.ev rfl) (evk)) rfl rfl ?_; clear F; intro φ F
        refine sq_pure F (wt0 rfl) (pu_assign rfl (F.ev rfl)) rfl rfl ?_; clear F; intro φ F
        refine nx ?_
        refine wp_ret ?_
        refine rt_tmp F rfl rfl ?_
        exfalso; clear F M; first | omega | (simp only [St.zero] at *; omega) | (simp_all; done) | (simp_all; omega)
    · rw [hs2] at F
      have hs2i := after_t hs2
      cases hs5 : p.rightB
      · rw [hs5] at F
        have hs5i := right_f hs5
        refine sq_pure F (wt1 F rfl rfl rfl rfl rfl) (pu_eqlB rfl (F.ev rfl) (F.ev rfl) Try.underlying4) rfl rfl ?_; clear F; intro φ F
        rw [show (true == false) = false from rfl] at F
        refine sq_pure F (wt0 rfl) (pu_pickt rfl (F.ev rfl) (F.ev rfl)) rfl rfl ?_; clear F; intro φ F
        refine sq_pure F (wt0 rfl) (pu_move rfl (F.ev rfl)) rfl rfl ?_; clear F; intro φ F
        refine sq_skip F (wtn F rfl rfl rfl rfl rfl) rfl rfl ?_; clear F; intro φ F
        refine sq_skip F (wtn F rfl rfl rfl rfl rfl) rfl rfl ?_; clear F; intro φ F
        refine sq_skip F (wtn F rfl rfl rfl rfl rfl) rfl rfl ?_; clear F; intro φ F
        refine sq_skip F (wtu F rfl rfl rfl rfl rfl) rfl rfl ?_; clear F; intro φ F
        refine sq_skip F (wtu F rfl rfl rfl rfl rfl) rfl rfl ?_; clear F; intro φ F
        refine sq_skip F (wtu F rfl rfl rfl rfl rfl) rfl rfl ?_; clear F; intro φ F
        refine sq_skip F (wtn F rfl rfl rfl rfl rfl) rfl rfl ?_; clear F; intro φ F
        refine sq_pure F (wt0 rfl) (pu_pickf rfl (F.ev rfl) (evk)) rfl rfl ?_; clear F; intro φ F
        refine sq_pure F (wt0 rfl) (pu_move rfl (F.ev rfl)) rfl rfl ?_; clear F; intro φ F
        refine sq_skip F (wtn F rfl rfl rfl rfl rfl) rfl rfl ?_; clear F; intro φ F
        refine sq_skip F (wtn F rfl rfl rfl rfl rfl) rfl rfl ?_; clear F; intro φ F
        refine sq_skip F (wtn F rfl rfl rfl rfl rfl) rfl rfl ?_; clear F; intro φ F
        refine sq_pure F (wt0 rfl) (pu_pickf rfl (F.ev rfl) (evk)) rfl rfl ?_; clear F; intro φ F
        refine sq_pure F (wt0 rfl) (pu_move rfl (F.ev rfl)) rfl rfl ?_; clear F; intro φ F
        refine sq_skip F (wtn F rfl rfl rfl rfl rfl) rfl rfl ?_; clear F; intro φ F
        refine sq_skip F (wtn F rfl rfl rfl rfl rfl) rfl rfl ?_; clear F; intro φ F
        refine sq_skip F (wtn F rfl rfl rfl rfl rfl) rfl rfl ?_; clear F; intro φ F
        refine sq_pure F (wt0 rfl) (pu_pickf rfl (F.ev rfl) (evk)) rfl rfl ?_; clear F; intro φ F
        refine sq_pure F (wt0 rfl) (pu_assign rfl (F.ev rfl)) rfl rfl ?_; clear F; intro φ F
        refine nx ?_
        refine wp_ret ?_
        refine rt_tmp F rfl rfl ?_
        exfalso; clear F M; first | omega | (simp only [St.zero] at *; omega) | (simp_all; done) | (simp_all; omega)
      · rw [hs5] at F
        have hs5i := right_t hs5
        refine sq_pure F (wt1 F rfl rfl rfl rfl rfl) (pu_eqlB rfl (F.ev rfl) (F.ev rfl) Try.underlying4) rfl rfl ?_; clear F; intro φ F
        rw [show (true == true) = true from rfl] at F
        refine sq_pure F (wt0 rfl) (pu_pickt rfl (F.ev rfl) (F.ev rfl)) rfl rfl ?_; clear F; intro φ F
        refine sq_pure F (wt0 rfl) (pu_move rfl (F.ev rfl)) rfl rfl ?_; clear F; intro φ F
        refine sq_pure F (wt1 F rfl rfl rfl rfl rfl) (pu_move rfl (F.ev rfl)) rfl rfl ?_; clear F; intro φ F
        refine sq_pure F (wt1 F rfl rfl rfl rfl rfl) (pu_not rfl (F.ev rfl)) rfl rfl ?_; clear F; intro φ F
        rw [show (!true) = false from rfl] at F
        refine sq_pure F (wt1 F rfl rfl rfl rfl rfl) (pu_move rfl (F.ev rfl)) rfl rfl ?_; clear F; intro φ F
        refine sq_rd F (wt1 F rfl rfl rfl rfl rfl) (ld_agg rfl (F.ev rfl) agg23 (M.rd (i := 1) rfl) rfl) rfl rfl ?_; clear F; intro φ F
        refine sq_rd F (wt1 F rfl rfl rfl rfl rfl) (ld_agg rfl (F.ev rfl) agg23 (M.rd (i := 8) rfl) rfl) rfl rfl ?_; clear F; intro φ F
        refine sq_pure F (wt1 F rfl rfl rfl rfl rfl) (pu_eqlA rfl (F.ev rfl) (F.ev rfl) eqg23 (fun w => eqS23 (p.after (St.mk 0 0)) p w)) rfl rfl ?_; clear F; intro φ F
        refine sq_pure F (wt1 F rfl rfl rfl rfl rfl) (pu_pickf rfl (F.ev rfl) (F.ev rfl)) rfl rfl ?_; clear F; intro φ F
        refine sq_pure F (wt0 rfl) (pu_pickt rfl (F.ev rfl) (F.ev rfl)) rfl rfl ?_; clear F; intro φ F
        refine sq_pure F (wt0 rfl) (pu_move rfl (F.ev rfl)) rfl rfl ?_; clear F; intro φ F
        cases hs6 : (decide ((p.after (St.mk 0 0)) = p))
        · rw [hs6] at F
          have hs6i := eq_f hs6
          refine sq_skip F (wtn F rfl rfl rfl rfl rfl) rfl rfl ?_; clear F; intro φ F
          refine sq_skip F (wtn F rfl rfl rfl rfl rfl) rfl rfl ?_; clear F; intro φ F
          refine sq_skip F (wtn F rfl rfl rfl rfl rfl) rfl rfl ?_; clear F; intro φ F
          refine sq_pure F (wt0 rfl) (pu_pickf rfl (F.ev rfl) (evk)) rfl rfl ?_; clear F; intro φ F
          refine sq_pure F (wt0 rfl) (pu_move rfl (F.ev rfl)) rfl rfl ?_; clear F; intro φ F
          refine sq_skip F (wtn F rfl rfl rfl rfl rfl) rfl rfl ?_; clear F; intro φ F
          refine sq_skip F (wtn F rfl rfl rfl rfl rfl) rfl rfl ?_; clear F; intro φ F
          refine sq_skip F (wtn F rfl rfl rfl rfl rfl) rfl rfl ?_; clear F; intro φ F
          refine sq_pure F (wt0 rfl) (pu_pickf rfl (F.ev rfl) (evk)) rfl rfl ?_; clear F; intro φ F
          refine sq_pure F (wt0 rfl) (pu_assign rfl (F.ev rfl)) rfl rfl ?_; clear F; intro φ F
          refine nx ?_
          refine wp_ret ?_
          refine rt_tmp F rfl rfl ?_
          exfalso; clear F M; first | omega | (simp only [St.zero] at *; omega) | (simp_all; done) | (simp_all; omega)
        · rw [hs6] at F
          have hs6i := eq_t hs6
          refine sq_rd F (wt1 F rfl rfl rfl rfl rfl) (ld_agg rfl (F.ev rfl) agg23 (M.rd (i := 0) rfl) rfl) rfl rfl ?_; clear F; intro φ F
          refine sq_rd F (wt1 F rfl rfl rfl rfl rfl) (ld_agg rfl (F.ev rfl) agg23 (M.rd (i := 5) rfl) rfl) rfl rfl ?_; clear F; intro φ F
          refine sq_pure F (wt1 F rfl rfl rfl rfl rfl) (pu_eqlA rfl (F.ev rfl) (F.ev rfl) eqg23 (fun w => eqS23 (q.after p) (p.after q) w)) rfl rfl ?_; clear F; intro φ F
          rw [(decide_eq_true (after_comm p q).1 : decide ((q.after p) = (p.after q)) = true)] at F
          refine sq_pure F (wt0 rfl) (pu_pickt rfl (F.ev rfl) (F.ev rfl)) rfl rfl ?_; clear F; intro φ F
          refine sq_pure F (wt0 rfl) (pu_move rfl (F.ev rfl)) rfl rfl ?_; clear F; intro φ F
          refine sq_pure F (wt1 F rfl rfl rfl rfl rfl) (pu_move rfl (F.ev rfl)) rfl rfl ?_; clear F; intro φ F
          refine sq_pure F (wt1 F rfl rfl rfl rfl rfl) (pu_move rfl (F.ev rfl)) rfl rfl ?_; clear F; intro φ F
          cases hs7 : (q.afterB p)
          · rw [hs7] at F
            have hs7i := after_f hs7
            refine sq_pure F (wt1 F rfl rfl rfl rfl rfl) (pu_eqlB rfl (F.ev rfl) (F.ev rfl) Try.underlying4) rfl rfl ?_; clear F; intro φ F
            rw [show (false == false) = true from rfl] at F
            refine sq_pure F (wt0 rfl) (pu_pickt rfl (F.ev rfl) (F.ev rfl)) rfl rfl ?_; clear F; intro φ F
            refine sq_pure F (wt0 rfl) (pu_assign rfl (F.ev rfl)) rfl rfl ?_; clear F; intro φ F
            refine nx ?_
            refine wp_ret ?_
            refine rt_tmp F rfl rfl ?_
            exact ⟨rfl, M.bel⟩
          · rw [hs7] at F
            have hs7i := after_t hs7
            refine sq_pure F (wt1 F rfl rfl rfl rfl rfl) (pu_eqlB rfl (F.ev rfl) (F.ev rfl) Try.underlying4) rfl rfl ?_; clear F; intro φ F
            rw [show (true == false) = false from rfl] at F
            refine sq_pure F (wt0 rfl) (pu_pickt rfl (F.ev rfl) (F.ev rfl)) rfl rfl ?_; clear F; intro φ F
            refine sq_pure F (wt0 rfl) (pu_assign rfl (F.ev rfl)) rfl rfl ?_; clear F; intro φ F
            refine nx ?_
            refine wp_ret ?_
            refine rt_tmp F rfl rfl ?_
            exfalso; clear F M; first | omega | (simp only [St.zero] at *; omega) | (simp_all; done) | (simp_all; omega)
  · rw [hs1] at F
    have hs1i := after_t hs1
    refine sq_pure F (wt1 F rfl rfl rfl rfl rfl) (pu_move rfl (F.ev rfl)) rfl rfl ?_; clear F; intro φ F
    refine sq_pure F (wt0 rfl) (pu_pickt rfl (F.ev rfl) (F.ev rfl)) rfl rfl ?_; clear F; intro φ F
    refine sq_pure F (wt0 rfl) (pu_move rfl (F.ev rfl)) rfl rfl ?_; clear F; intro φ F
    cases hs8 : (q.afterB r)
    · rw [hs8] at F
      have hs8i := after_f hs8
      refine sq_skip F (wtn F rfl rfl rfl rfl rfl) rfl rfl ?_; clear F; intro φ F
      refine sq_skip F (wtn F rfl rfl rfl rfl rfl) rfl rfl ?_; clear F; intro φ F
      refine sq_skip F (wtn F rfl rfl rfl rfl rfl) rfl rfl ?_; clear F; intro φ F
      refine sq_skip F (wtn F rfl rfl rfl rfl rfl) rfl rfl ?_; clear F; intro φ F
      refine sq_skip F (wtu F rfl rfl rfl rfl rfl) rfl rfl ?_; clear F; intro φ F
      refine sq_skip F (wtu F rfl rfl rfl rfl rfl) rfl rfl ?_; clear F; intro φ F
      refine sq_skip F (wtu F rfl rfl rfl rfl rfl) rfl rfl ?_; clear F; intro φ F
      refine sq_skip F (wtu F rfl rfl rfl rfl rfl) rfl rfl ?_; clear F; intro φ F
      refine sq_skip F (wtu F rfl rfl rfl rfl rfl) rfl rfl ?_; clear F; intro φ F
      refine sq_skip F (wtu F rfl rfl rfl rfl rfl) rfl rfl ?_; clear F; intro φ F
      refine sq_skip F (wtn F rfl rfl rfl rfl rfl) rfl rfl ?_; clear F; intro φ F
      refine sq_pure F (wt0 rfl) (pu_pickf rfl (F.ev rfl) (evk)) rfl rfl ?_; clear F; intro φ F
      refine nx ?_
      refine wp_cond_false (F.ev rfl) ?_
      refine wp_skip ?_
      refine nxq ?_
      refine wp_seq ?_
      -- region 10
      refine wp_region_lit ?_
      refine sq_pure F (wt0 rfl) (pu_move rfl (F.ev rfl)) rfl rfl ?_; clear F; intro φ F
      refine sq_pure F (wt0 rfl) (pu_move rfl (F.ev rfl)) rfl rfl ?_; clear F; intro φ F
      refine sq_pure F (wt1 F rfl rfl rfl rfl rfl) (pu_move rfl (F.ev rfl)) rfl rfl ?_; clear F; intro φ F
      refine sq_rd F (wt1 F rfl rfl rfl rfl rfl) (ld_agg rfl (F.ev rfl) agg23 (M.rd (i := 8) rfl) rfl) rfl rfl ?_; clear F; intro φ F
      refine sq_call F M (wt1 F rfl rfl rfl rfl rfl) rfl en11 (evc (F.ev rfl) evn) (path_right_any p _) rfl rfl ?_; clear F M; intro φ ω F M
      cases hs9 : (p.afterB (St.mk 0 0))
      · rw [hs9] at F
        have hs9i := after_f hs9
        cases hs10 : p.rightB
        · rw [hs10] at F
          have hs10i := right_f hs10
          refine sq_pure F (wt1 F rfl rfl rfl rfl rfl) (pu_eqlB rfl (F.ev rfl) (F.ev rfl) Try.underlying4) rfl rfl ?_; clear F; intro φ F
          rw [show (false == false) = true from rfl] at F
          refine sq_pure F (wt0 rfl) (pu_pickt rfl (F.ev rfl) (F.ev rfl)) rfl rfl ?_; clear F; intro φ F
          refine sq_pure F (wt0 rfl) (pu_move rfl (F.ev rfl)) rfl rfl ?_; clear F; intro φ F
          refine sq_pure F (wt1 F rfl rfl rfl rfl rfl) (pu_move rfl (F.ev rfl)) rfl rfl ?_; clear F; intro φ F
          refine sq_pure F (wt1 F rfl rfl rfl rfl rfl) (pu_not rfl (F.ev rfl)) rfl rfl ?_; clear F; intro φ F
          rw [show (!false) = true from rfl] at F
          refine sq_pure F (wt1 F rfl rfl rfl rfl rfl) (pu_move rfl (F.ev rfl)) rfl rfl ?_; clear F; intro φ F
          refine sq_skip F (wtn F rfl rfl rfl rfl rfl) rfl rfl ?_; clear F; intro φ F
          refine sq_skip F (wtn F rfl rfl rfl rfl rfl) rfl rfl ?_; clear F; intro φ F
          refine sq_skip F (wtn F rfl rfl rfl rfl rfl) rfl rfl ?_; clear F; intro φ F
          refine sq_pure F (wt1 F rfl rfl rfl rfl rfl) (pu_pickt rfl (F.ev rfl) (evk)) rfl rfl ?_; clear F; intro φ F
          refine sq_pure F (wt0 rfl) (pu_pickt rfl (F.ev rfl) (F.ev rfl)) rfl rfl ?_; clear F; intro φ F
          refine sq_pure F (wt0 rfl) (pu_move rfl (F.ev rfl)) rfl rfl ?_; clear F; intro φ F
          refine sq_rd F (wt1 F rfl rfl rfl rfl rfl) (ld_agg rfl (F.ev rfl) agg23 (M.rd (i := 0) rfl) rfl) rfl rfl ?_; clear F; intro φ F
          refine sq_rd F (wt1 F rfl rfl rfl rfl rfl) (ld_agg rfl (F.ev rfl) agg23 (M.rd (i := 5) rfl) rfl) rfl rfl ?_; clear F; intro φ F
          refine sq_pure F (wt1 F rfl rfl rfl rfl rfl) (pu_eqlA rfl (F.ev rfl) (F.ev rfl) eqg23 (fun w => eqS23 (q.after p) (p.after q) w)) rfl rfl ?_; clear F; intro φ F
          rw [(decide_eq_true (after_comm p q).1 : decide ((q.after p) = (p.after q)) = true)] at F
          refine sq_pure F (wt0 rfl) (pu_pickt rfl (F.ev rfl) (F.ev rfl)) rfl rfl ?_; clear F; intro φ F
          refine sq_pure F (wt0 rfl) (pu_move rfl (F.ev rfl)) rfl rfl ?_; clear F; intro φ F
          refine sq_pure F (wt1 F rfl rfl rfl rfl rfl) (pu_move rfl (F.ev rfl)) rfl rfl ?_; clear F; intro φ F
          refine sq_pure F (wt1 F rfl rfl rfl rfl rfl) (pu_move rfl (F.ev rfl)) rfl rfl ?_; clear F; intro φ F
          cases hs11 : (q.afterB p)
          · rw [hs11] at F
            have hs11i := after_f hs11
            refine sq_pure F (wt1 F rfl rfl rfl rfl rfl) (pu_eqlB rfl (F.ev rfl) (F.ev rfl) Try.underlying4) rfl rfl ?_; clear F; intro φ F
            rw [show (false == true) = false from rfl] at F
            refine sq_pure F (wt0 rfl) (pu_pickt rfl (F.ev rfl) (F.ev rfl)) rfl rfl ?_; clear F; intro φ F
            refine sq_pure F (wt0 rfl) (pu_assign rfl (F.ev rfl)) rfl rfl ?_; clear F; intro φ F
            refine nx ?_
            refine wp_ret ?_
            refine rt_tmp F rfl rfl ?_
            exfalso; clear F M; first | omega | (simp only [St.zero] at *; omega) | (simp_all; done) | (simp_all; omega)
          · rw [hs11] at F
            have hs11i := after_t hs11
            refine sq_pure F (wt1 F rfl rfl rfl rfl rfl) (pu_eqlB rfl (F.ev rfl) (F.ev rfl) Try.underlying4) rfl rfl ?_; clear F; intro φ F
            rw [show (true == true) = true from rfl] at F
            refine sq_pure F (wt0 rfl) (pu_pickt rfl (F.ev rfl) (F.ev rfl)) rfl rfl ?_; clear F; intro φ F
            refine sq_pure F (wt0 rfl) (pu_assign rfl (F.ev rfl)) rfl rfl ?_; clear F; intro φ F
            refine nx ?_
            refine wp_ret ?_
            refine rt_tmp F rfl rfl ?_
            exact ⟨rfl, M.bel⟩
        · rw [hs10] at F
          have hs10i := right_t hs10
          refine sq_pure F (wt1 F rfl rfl rfl rfl rfl) (pu_eqlB rfl (F.ev rfl) (F.ev rfl) Try.underlying4) rfl rfl ?_; clear F; intro φ F
          rw [show (false == true) = false from rfl] at F
          refine sq_pure F (wt0 rfl) (pu_pickt rfl (F.ev rfl) (F.ev rfl)) rfl rfl ?_; clear F; intro φ F
          refine sq_pure F (wt0 rfl) (pu_move rfl (F.ev rfl)) rfl rfl ?_; clear F; intro φ F
          refine sq_skip F (wtn F rfl rfl rfl rfl rfl) rfl rfl ?_; clear F; intro φ F
          refine sq_skip F (wtn F rfl rfl rfl rfl rfl) rfl rfl ?_; clear F; intro φ F
          refine sq_skip F (wtn F rfl rfl rfl rfl rfl) rfl rfl ?_; clear F; intro φ F
          refine sq_skip F (wtu F rfl rfl rfl rfl rfl) rfl rfl ?_; clear F; intro φ F
          refine sq_skip F (wtu F rfl rfl rfl rfl rfl) rfl rfl ?_; clear F; intro φ F
          refine sq_skip F (wtu F rfl rfl rfl rfl rfl) rfl rfl ?_; clear F; intro φ F
          refine sq_skip F (wtn F rfl rfl rfl rfl rfl) rfl rfl ?_; clear F; intro φ F
          refine sq_pure F (wt0 rfl) (pu_pickf rfl (F.ev rfl) (evk)) rfl rfl ?_; clear F; intro φ F
          refine sq_pure F (wt0 rfl) (pu_move rfl (F.ev rfl)) rfl rfl ?_; clear F; intro φ F
          refine sq_skip F (wtn F rfl rfl rfl rfl rfl) rfl rfl ?_; clear F; intro φ F
          refine sq_skip F (wtn F rfl rfl rfl rfl rfl) rfl rfl ?_; clear F; intro φ F
          refine sq_skip F (wtn F rfl rfl rfl rfl rfl) rfl rfl ?_; clear F; intro φ F
          refine sq_pure F (wt0 rfl) (pu_pickf rfl (F.ev rfl) (evk)) rfl rfl ?_; clear F; intro φ F
          refine sq_pure F (wt0 rfl) (pu_move rfl (F.ev rfl)) rfl rfl ?_; clear F; intro φ F
          refine sq_skip F (wtn F rfl rfl rfl rfl rfl) rfl rfl ?_; clear F; intro φ F
          refine sq_skip F (wtn F rfl rfl rfl rfl rfl) rfl rfl ?_; clear F; intro φ F
          refine sq_skip F (wtn F rfl rfl rfl rfl rfl) rfl rfl ?_; clear F; intro φ F
          refine sq_pure F (wt0 rfl) (pu_pickf rfl (F.ev rfl) (evk)) rfl rfl ?_; clear F; intro φ F
          refine sq_pure F (wt0 rfl) (pu_assign rfl (F.ev rfl)) rfl rfl ?_; clear F; intro φ F
          refine nx ?_
          refine wp_ret ?_
          refine rt_tmp F rfl rfl ?_
          exfalso; clear F M; first | omega | (simp only [St.zero] at *; omega) | (simp_all; done) | (simp_all; omega)
      · rw [hs9] at F
        have hs9i := after_t hs9
        cases hs12 : p.rightB
        · rw [hs12] at F
          have hs12i := right_f hs12
          refine sq_pure F (wt1 F rfl rfl rfl rfl rfl) (pu_eqlB rfl (F.ev rfl) (F.ev rfl) Try.underlying4) rfl rfl ?_; clear F; intro φ F
          rw [show (true == false) = false from rfl] at F
          refine sq_pure F (wt0 rfl) (pu_pickt rfl (F.ev rfl) (F.ev rfl)) rfl rfl ?_; clear F; intro φ F
          refine sq_pure F (wt0 rfl) (pu_move rfl (F.ev rfl)) rfl rfl ?_; clear F; intro φ F
          refine sq_skip F (wtn F rfl rfl rfl rfl rfl) rfl rfl ?_; clear F; intro φ F
          refine sq_skip F (wtn F rfl rfl rfl rfl rfl) rfl rfl ?_; clear F; intro φ F
          refine sq_skip F (wtn F rfl rfl rfl rfl rfl) rfl rfl ?_; clear F; intro φ F
          refine sq_skip F (wtu F rfl rfl rfl rfl rfl) rfl rfl ?_; clear F; intro φ F
          refine sq_skip F (wtu F rfl rfl rfl rfl rfl) rfl rfl ?_; clear F; intro φ F
          refine sq_skip F (wtu F rfl rfl rfl rfl rfl) rfl rfl ?_; clear F; intro φ F
          refine sq_skip F (wtn F rfl rfl rfl rfl rfl) rfl rfl ?_; clear F; intro φ F
          refine sq_pure F (wt0 rfl) (pu_pickf rfl (F.ev rfl) (evk)) rfl rfl ?_; clear F; intro φ F
          refine sq_pure F (wt0 rfl) (pu_move rfl (F.ev rfl)) rfl rfl ?_; clear F; intro φ F
          refine sq_skip F (wtn F rfl rfl rfl rfl rfl) rfl rfl ?_; clear F; intro φ F
          refine sq_skip F (wtn F rfl rfl rfl rfl rfl) rfl rfl ?_; clear F; intro φ F
          refine sq_skip F (wtn F rfl rfl rfl rfl rfl) rfl rfl ?_; clear F; intro φ F
          refine sq_pure F (wt0 rfl) (pu_pickf rfl (F.ev rfl) (evk)) rfl rfl ?_; clear F; intro φ F
          refine sq_pure F (wt0 rfl) (pu_move rfl (F.ev rfl)) rfl rfl ?_; clear F; intro φ F
          refine sq_skip F (wtn F rfl rfl rfl rfl rfl) rfl rfl ?_; clear F; intro φ F
          refine sq_skip F (wtn F rfl rfl rfl rfl rfl) rfl rfl ?_; clear F; intro φ F
          refine sq_skip F (wtn F rfl rfl rfl rfl rfl) rfl rfl ?_; clear F; intro φ F
          refine sq_pure F (wt0 rfl) (pu_pickf rfl (F.ev rfl) (evk)) rfl rfl ?_; clear F; intro φ F
          refine sq_pure F (wt0 rfl) (pu_assign rfl (F.ev rfl)) rfl rfl ?_; clear F; intro φ F
          refine nx ?_
          refine wp_ret ?_
          refine rt_tmp F rfl rfl ?_
          exfalso; clear F M; first | omega | (simp only [St.zero] at *; omega) | (simp_all; done) | (simp_all; omega)
        · rw [hs12] at F
          have hs12i := right_t hs12
          refine sq_pure F (wt1 F rfl rfl rfl rfl rfl) (pu_eqlB rfl (F.ev rfl) (F.ev rfl) Try.underlying4) rfl rfl ?_; clear F; intro φ F
          rw [show (true == true) = true from rfl] at F
          refine sq_pure F (wt0 rfl) (pu_pickt rfl (F.ev rfl) (F.ev rfl)) rfl rfl ?_; clear F; intro φ F
          refine sq_pure F (wt0 rfl) (pu_move rfl (F.ev rfl)) rfl rfl ?_; clear F; intro φ F
          refine sq_pure F (wt1 F rfl rfl rfl rfl rfl) (pu_move rfl (F.ev rfl)) rfl rfl ?_; clear F; intro φ F
          refine sq_pure F (wt1 F rfl rfl rfl rfl rfl) (pu_not rfl (F.ev rfl)) rfl rfl ?_; clear F; intro φ F
          rw [show (!true) = false from rfl] at F
          refine sq_pure F (wt1 F rfl rfl rfl rfl rfl) (pu_move rfl (F.ev rfl)) rfl rfl ?_; clear F; intro φ F
          refine sq_rd F (wt1 F rfl rfl rfl rfl rfl) (ld_agg rfl (F.ev rfl) agg23 (M.rd (i := 1) rfl) rfl) rfl rfl ?_; clear F; intro φ F
          refine sq_rd F (wt1 F rfl rfl rfl rfl rfl) (ld_agg rfl (F.ev rfl) agg23 (M.rd (i := 8) rfl) rfl) rfl rfl ?_; clear F; intro φ F
          refine sq_pure F (wt1 F rfl rfl rfl rfl rfl) (pu_eqlA rfl (F.ev rfl) (F.ev rfl) eqg23 (fun w => eqS23 (p.after (St.mk 0 0)) p w)) rfl rfl ?_; clear F; intro φ F
          refine sq_pure F (wt1 F rfl rfl rfl rfl rfl) (pu_pickf rfl (F.ev rfl) (F.ev rfl)) rfl rfl ?_; clear F; intro φ F
          refine sq_pure F (wt0 rfl) (pu_pickt rfl (F.ev rfl) (F.ev rfl)) rfl rfl ?_; clear F; intro φ F
          refine sq_pure F (wt0 rfl) (pu_move rfl (F.ev rfl)) rfl rfl ?_; clear F; intro φ F
          cases hs13 : (decide ((p.after (St.mk 0 0)) = p))
          · rw [hs13] at F
            have hs13i := eq_f hs13
            refine sq_skip F (wtn F rfl rfl rfl rfl rfl) rfl rfl ?_; clear F; intro φ F
            refine sq_skip F (wtn F rfl rfl rfl rfl rfl) rfl rfl ?_; clear F; intro φ F
            refine sq_skip F (wtn F rfl rfl rfl rfl rfl) rfl rfl ?_; clear F; intro φ F
            refine sq_pure F (wt0 rfl) (pu_pickf rfl (F.ev rfl) (evk)) rfl rfl ?_; clear F; intro φ F
            refine sq_pure F (wt0 rfl) (pu_move rfl (F.ev rfl)) rfl rfl ?_; clear F; intro φ F
            refine sq_skip F (wtn F rfl rfl rfl rfl rfl) rfl rfl ?_; clear F; intro φ F
            refine sq_skip F (wtn F rfl rfl rfl rfl rfl) rfl rfl ?_; clear F; intro φ F
            refine sq_skip F (wtn F rfl rfl rfl rfl rfl) rfl rfl ?_; clear F; intro φ F
            refine sq_pure F (wt0 rfl) (pu_pickf rfl (F.ev rfl) (evk)) rfl rfl ?_; clear F; intro φ F
            refine sq_pure F (wt0 rfl) (pu_assign rfl (F.ev rfl)) rfl rfl ?_; clear F; intro φ F
            refine nx ?_
            refine wp_ret ?_
            refine rt_tmp F rfl rfl ?_
            exfalso; clear F M; first | omega | (simp only [St.zero] at *; omega) | (simp_all; done) | (simp_all; omega)
          · rw [hs13] at F
            have hs13i := eq_t hs13
            refine sq_rd F (wt1 F rfl rfl rfl rfl rfl) (ld_agg rfl (F.ev rfl) agg23 (M.rd (i := 0) rfl) rfl) rfl rfl ?_; clear F; intro φ F
            refine sq_rd F (wt1 F rfl rfl rfl rfl rfl) (ld_agg rfl (F.ev rfl) agg23 (M.rd (i := 5) rfl) rfl) rfl rfl ?_; clear F; intro φ F
            refine sq_pure F (wt1 F rfl rfl rfl rfl rfl) (pu_eqlA rfl (F.ev rfl) (F.ev rfl) eqg23 (fun w => eqS23 (q.after p) (p.after q) w)) rfl rfl ?_; clear F; intro φ F
            rw [(decide_eq_true (after_comm p q).1 : decide ((q.after p) = (p.after q)) = true)] at F
            refine sq_pure F (wt0 rfl) (pu_pickt rfl (F.ev rfl) (F.ev rfl)) rfl rfl ?_; clear F; intro φ F
            refine sq_pure F (wt0 rfl) (pu_move rfl (F.ev rfl)) rfl rfl ?_; clear F; intro φ F
            refine sq_pure F (wt1 F rfl rfl rfl rfl rfl) (pu_move rfl (F.ev rfl)) rfl rfl ?_; clear F; intro φ F
            refine sq_pure F (wt1 F rfl rfl rfl rfl rfl) (pu_move rfl (F.ev rfl)) rfl rfl ?_; clear F; intro φ F
            cases hs14 : (q.afterB p)
            · rw [hs14] at F
              have hs14i := after_f hs14
              refine sq_pure F (wt1 F rfl rfl rfl rfl rfl) (pu_eqlB rfl (F.ev rfl) (F.ev rfl) Try.underlying4) rfl rfl ?_; clear F; intro φ F
              rw [show (false == true) = false from rfl] at F
              refine sq_pure F (wt0 rfl) (pu_pickt rfl (F.ev rfl) (F.ev rfl)) rfl rfl ?_; clear F; intro φ F
              refine sq_pure F (wt0 rfl) (pu_assign rfl (F.ev rfl)) rfl rfl ?_; clear F; intro φ F
              refine nx ?_
              refine wp_ret ?_
              refine rt_tmp F rfl rfl ?_
              exfalso; clear F M; first | omega | (simp only [St.zero] at *; omega) | (simp_all; done) | (simp_all; omega)
            · rw [hs14] at F
              have hs14i := after_t hs14
              refine sq_pure F (wt1 F rfl rfl rfl rfl rfl) (pu_eqlB rfl (F.ev rfl) (F.ev rfl) Try.underlying4) rfl rfl ?_; clear F; intro φ F
              rw [show (true == true) = true from rfl] at F
              refine sq_pure F (wt0 rfl) (pu_pickt rfl (F.ev rfl) (F.ev rfl)) rfl rfl ?_; clear F; intro φ F
              refine sq_pure F (wt0 rfl) (pu_assign rfl (F.ev rfl)) rfl rfl ?_; clear F; intro φ F
              refine nx ?_
              refine wp_ret ?_
              refine rt_tmp F rfl rfl ?_
              exact ⟨rfl, M.bel⟩
    · rw [hs8] at F
      have hs8i := after_t hs8
      refine sq_pure F (wt1 F rfl rfl rfl rfl rfl) (pu_move rfl (F.ev rfl)) rfl rfl ?_; clear F; intro φ F
      refine sq_pure F (wt1 F rfl rfl rfl rfl rfl) (pu_move rfl (F.ev rfl)) rfl rfl ?_; clear F; intro φ F
      cases hs15 : ((p.after q).afterB r)
      · rw [hs15] at F
        have hs15i := after_f hs15
        cases hs16 : (p.afterB (q.after r))
        · rw [hs16] at F
          have hs16i := after_f hs16
          refine sq_pure F (wt1 F rfl rfl rfl rfl rfl) (pu_neqB rfl (F.ev rfl) (F.ev rfl) Try.underlying4) rfl rfl ?_; clear F; intro φ F
          rw [show (false != false) = false from rfl] at F
          refine sq_pure F (wt1 F rfl rfl rfl rfl rfl) (pu_move rfl (F.ev rfl)) rfl rfl ?_; clear F; intro φ F
          refine sq_pure F (wt1 F rfl rfl rfl rfl rfl) (pu_move rfl (F.ev rfl)) rfl rfl ?_; clear F; intro φ F
          refine sq_pure F (wt1 F rfl rfl rfl rfl rfl) (pu_move rfl (F.ev rfl)) rfl rfl ?_; clear F; intro φ F
          refine sq_skip F (wtn F rfl rfl rfl rfl rfl) rfl rfl ?_; clear F; intro φ F
          refine sq_skip F (wtn F rfl rfl rfl rfl rfl) rfl rfl ?_; clear F; intro φ F
          refine sq_skip F (wtn F rfl rfl rfl rfl rfl) rfl rfl ?_; clear F; intro φ F
          refine sq_pure F (wt1 F rfl rfl rfl rfl rfl) (pu_pickf rfl (F.ev rfl) (evk)) rfl rfl ?_; clear F; intro φ F
          refine sq_pure F (wt1 F rfl rfl rfl rfl rfl) (pu_pickf rfl (F.ev rfl) (F.ev rfl)) rfl rfl ?_; clear F; intro φ F
          refine sq_pure F (wt0 rfl) (pu_pickt rfl (F.ev rfl) (F.ev rfl)) rfl rfl ?_; clear F; intro φ F
          refine nx ?_
          refine wp_cond_false (F.ev rfl) ?_
          refine wp_skip ?_
          refine nxq ?_
          refine wp_seq ?_
          -- region 10
          refine wp_region_lit ?_
          refine sq_pure F (wt0 rfl) (pu_move rfl (F.ev rfl)) rfl rfl ?_; clear F; intro φ F
          refine sq_pure F (wt0 rfl) (pu_move rfl (F.ev rfl)) rfl rfl ?_; clear F; intro φ F
          refine sq_pure F (wt1 F rfl rfl rfl rfl rfl) (pu_move rfl (F.ev rfl)) rfl rfl ?_; clear F; intro φ F
          refine sq_rd F (wt1 F rfl rfl rfl rfl rfl) (ld_agg rfl (F.ev rfl) agg23 (M.rd (i := 8) rfl) rfl) rfl rfl ?_; clear F; intro φ F
          refine sq_call F M (wt1 F rfl rfl rfl rfl rfl) rfl en11 (evc (F.ev rfl) evn) (path_right_any p _) rfl rfl ?_; clear F M; intro φ ω F M
          cases hs17 : (p.afterB (St.mk 0 0))
          · rw [hs17] at F
            have hs17i := after_f hs17
            cases hs18 : p.rightB
            · rw [hs18] at F
              have hs18i := right_f hs18
              refine sq_pure F (wt1 F rfl rfl rfl rfl rfl) (pu_eqlB rfl (F.ev rfl) (F.ev rfl) Try.underlying4) rfl rfl ?_; clear F; intro φ F
              rw [show (false == false) = true from rfl] at F
              refine sq_pure F (wt0 rfl) (pu_pickt rfl (F.ev rfl) (F.ev rfl)) rfl rfl ?_; clear F; intro φ F
              refine sq_pure F (wt0 rfl) (pu_move rfl (F.ev rfl)) rfl rfl ?_; clear F; intro φ F
              refine sq_pure F (wt1 F rfl rfl rfl rfl rfl) (pu_move rfl (F.ev rfl)) rfl rfl ?_; clear F; intro φ F
              refine sq_pure F (wt1 F rfl rfl rfl rfl rfl) (pu_not rfl (F.ev rfl)) rfl rfl ?_; clear F; intro φ F
              rw [show (!false) = true from rfl] at F
              refine sq_pure F (wt1 F rfl rfl rfl rfl rfl) (pu_move rfl (F.ev rfl)) rfl rfl ?_; clear F; intro φ F
              refine sq_skip F (wtn F rfl rfl rfl rfl rfl) rfl rfl ?_; clear F; intro φ F
              refine sq_skip F (wtn F rfl rfl rfl rfl rfl) rfl rfl ?_; clear F; intro φ F
              refine sq_skip F (wtn F rfl rfl rfl rfl rfl) rfl rfl ?_; clear F; intro φ F
              refine sq_pure F (wt1 F rfl rfl rfl rfl rfl) (pu_pickt rfl (F.ev rfl) (evk)) rfl rfl ?_; clear F; intro φ F
              refine sq_pure F (wt0 rfl) (pu_pickt rfl (F.ev rfl) (F.ev rfl)) rfl rfl ?_; clear F; intro φ F
              refine sq_pure F (wt0 rfl) (pu_move rfl (F.ev rfl)) rfl rfl ?_; clear F; intro φ F
              refine sq_rd F (wt1 F rfl rfl rfl rfl rfl) (ld_agg rfl (F.ev rfl) agg23 (M.rd (i := 0) rfl) rfl) rfl rfl ?_; clear F; intro φ F
              refine sq_rd F (wt1 F rfl rfl rfl rfl rfl) (ld_agg rfl (F.ev rfl) agg23 (M.rd (i := 5) rfl) rfl) rfl rfl ?_; clear F; intro φ F
              refine sq_pure F (wt1 F rfl rfl rfl rfl rfl) (pu_eqlA rfl (F.ev rfl) (F.ev rfl) eqg23 (fun w => eqS23 (q.after p) (p.after q) w)) rfl rfl ?_; clear F; intro φ F
              rw [(decide_eq_true (after_comm p q).1 : decide ((q.after p) = (p.after q)) = true)] at F
              refine sq_pure F (wt0 rfl) (pu_pickt rfl (F.ev rfl) (F.ev rfl)) rfl rfl ?_; clear F; intro φ F
              refine sq_pure F (wt0 rfl) (pu_move rfl (F.ev rfl)) rfl rfl ?_; clear F; intro φ F
              refine sq_pure F (wt1 F rfl rfl rfl rfl rfl) (pu_move rfl (F.ev rfl)) rfl rfl ?_; clear F; intro φ F
              refine sq_pure F (wt1 F rfl rfl rfl rfl rfl) (pu_move rfl (F.ev rfl)) rfl rfl ?_; clear F; intro φ F
              cases hs19 : (q.afterB p)
              · rw [hs19] at F
                have hs19i := after_f hs19
                refine sq_pure F (wt1 F rfl rfl rfl rfl rfl) (pu_eqlB rfl (F.ev rfl) (F.ev rfl) Try.underlying4) rfl rfl ?_; clear F; intro φ F
                rw [show (false == true) = false from rfl] at F
                refine sq_pure F (wt0 rfl) (pu_pickt rfl (F.ev rfl) (F.ev rfl)) rfl rfl ?_; clear F; intro φ F
                refine sq_pure F (wt0 rfl) (pu_assign rfl (F.ev rfl)) rfl rfl ?_; clear F; intro φ F
                refine nx ?_
                refine wp_ret ?_
                refine rt_tmp F rfl rfl ?_
                exfalso; clear F M; first | omega | (simp only [St.zero] at *; omega) | (simp_all; done) | (simp_all; omega)
              · rw [hs19] at F
                have hs19i := after_t hs19
                refine sq_pure F (wt1 F rfl rfl rfl rfl rfl) (pu_eqlB rfl (F.ev rfl) (F.ev rfl) Try.underlying4) rfl rfl ?_; clear F; intro φ F
                rw [show (true == true) = true from rfl] at F
                refine sq_pure F (wt0 rfl) (pu_pickt rfl (F.ev rfl) (F.ev rfl)) rfl rfl ?_; clear F; intro φ F
                refine sq_pure F (wt0 rfl) (pu_assign rfl (F.ev rfl)) rfl rfl ?_; clear F; intro φ F
                refine nx ?_
                refine wp_ret ?_
                refine rt_tmp F rfl rfl ?_
                exact ⟨rfl, M.bel⟩
            · rw [hs18] at F
              have hs18i := right_t hs18
              refine sq_pure F (wt1 F rfl rfl rfl rfl rfl) (pu_eqlB rfl (F.ev rfl) (F.ev rfl) Try.underlying4) rfl rfl ?_; clear F; intro φ F
              rw [show (false == true) = false from rfl] at F
              refine sq_pure F (wt0 rfl) (pu_pickt rfl (F.ev rfl) (F.ev rfl)) rfl rfl ?_; clear F; intro φ F
              refine sq_pure F (wt0 rfl) (pu_move rfl (F.ev rfl)) rfl rfl ?_; clear F; intro φ F
              refine sq_skip F (wtn F rfl rfl rfl rfl rfl) rfl rfl ?_; clear F; intro φ F
              refine sq_skip F (wtn F rfl rfl rfl rfl rfl) rfl rfl ?_; clear F; intro φ F
              refine sq_skip F (wtn F rfl rfl rfl rfl rfl) rfl rfl ?_; clear F; intro φ F
              refine sq_skip F (wtu F rfl rfl rfl rfl rfl) rfl rfl ?_; clear F; intro φ F
              refine sq_skip F (wtu F rfl rfl rfl rfl rfl) rfl rfl ?_; clear F; intro φ F
              refine sq_skip F (wtu F rfl rfl rfl rfl rfl) rfl rfl ?_; clear F; intro φ F
              refine sq_skip F (wtn F rfl rfl rfl rfl rfl) rfl rfl ?_; clear F; intro φ F
              refine sq_pure F (wt0 rfl) (pu_pickf rfl (F.ev rfl) (evk)) rfl rfl ?_; clear F; intro φ F
              refine sq_pure F (wt0 rfl) (pu_move rfl (F.ev rfl)) rfl rfl ?_; clear F; intro φ F
              refine sq_skip F (wtn F rfl rfl rfl rfl rfl) rfl rfl ?_; clear F; intro φ F
              refine sq_skip F (wtn F rfl rfl rfl rfl rfl) rfl rfl ?_; clear F; intro φ F
              refine sq_skip F (wtn F rfl rfl rfl rfl rfl) rfl rfl ?_; clear F; intro φ F
              refine sq_pure F (wt0 rfl) (pu_pickf rfl (F.ev rfl) (evk)) rfl rfl ?_; clear F; intro φ F
              refine sq_pure F (wt0 rfl) (pu_move rfl (F.ev rfl)) rfl rfl ?_; clear F; intro φ F
              refine sq_skip F (wtn F rfl rfl rfl rfl rfl) rfl rfl ?_; clear F; intro φ F
              refine sq_skip F (wtn F rfl rfl rfl rfl rfl) rfl rfl ?_; clear F; intro φ F
              refine sq_skip F (wtn F rfl rfl rfl rfl rfl) rfl rfl ?_; clear F; intro φ F
              refine sq_pure F (wt0 rfl) (pu_pickf rfl (F.ev rfl) (evk)) rfl rfl ?_; clear F; intro φ F
              refine sq_pure F (wt0 rfl) (pu_assign rfl (F.ev rfl)) rfl rfl ?_; clear F; intro φ F
              refine nx ?_
              refine wp_ret ?_
              refine rt_tmp F rfl rfl ?_
              exfalso; clear F M; first | omega | (simp only [St.zero] at *; omega) | (simp_all; done) | (simp_all; omega)
          · rw [hs17] at F
            have hs17i := after_t hs17
            cases hs20 : p.rightB
            · rw [hs20] at F
              have hs20i := right_f hs20
              refine sq_pure F (wt1 F rfl rfl rfl rfl rfl) (pu_eqlB rfl (F.ev rfl) (F.ev rfl) Try.underlying4) rfl rfl ?_; clear F; intro φ F
              rw [show (true == false) = false from rfl] at F
              refine sq_pure F (wt0 rfl) (pu_pickt rfl (F.ev rfl) (F.ev rfl)) rfl rfl ?_; clear F; intro φ F
              refine sq_pure F (wt0 rfl) (pu_move rfl (F.ev rfl)) rfl rfl ?_; clear F; intro φ F
              refine sq_skip F (wtn F rfl rfl rfl rfl rfl) rfl rfl ?_; clear F; intro φ F
              refine sq_skip F (wtn F rfl rfl rfl rfl rfl) rfl rfl ?_; clear F; intro φ F
              refine sq_skip F (wtn F rfl rfl rfl rfl rfl) rfl rfl ?_; clear F; intro φ F
              refine sq_skip F (wtu F rfl rfl rfl rfl rfl) rfl rfl ?_; clear F; intro φ F
              refine sq_skip F (wtu F rfl rfl rfl rfl rfl) rfl rfl ?_; clear F; intro φ F
              refine sq_skip F (wtu F rfl rfl rfl rfl rfl) rfl rfl ?_; clear F; intro φ F
              refine sq_skip F (wtn F rfl rfl rfl rfl rfl) rfl rfl ?_; clear F; intro φ F
              refine sq_pure F (wt0 rfl) (pu_pickf rfl (F.ev rfl) (evk)) rfl rfl ?_; clear F; intro φ F
              refine sq_pure F (wt0 rfl) (pu_move rfl (F.ev rfl)) rfl rfl ?_; clear F; intro φ F
              refine sq_skip F (wtn F rfl rfl rfl rfl rfl) rfl rfl ?_; clear F; intro φ F
              refine sq_skip F (wtn F rfl rfl rfl rfl rfl) rfl rfl ?_; clear F; intro φ F
              refine sq_skip F (wtn F rfl rfl rfl rfl rfl) rfl rfl ?_; clear F; intro φ F
              refine sq_pure F (wt0 rfl) (pu_pickf rfl (F.ev rfl) (evk)) rfl rfl ?_; clear F; intro φ F
              refine sq_pure F (wt0 rfl) (pu_move rfl (F.ev rfl)) rfl rfl ?_; clear F; intro φ F
              refine sq_skip F (wtn F rfl rfl rfl rfl rfl) rfl rfl ?_; clear F; intro φ F
              refine sq_skip F (wtn F rfl rfl rfl rfl rfl) rfl rfl ?_; clear F; intro φ F
              refine sq_skip F (wtn F rfl rfl rfl rfl rfl) rfl rfl ?_; clear F; intro φ F
              refine sq_pure F (wt0 rfl) (pu_pickf rfl (F.ev rfl) (evk)) rfl rfl ?_; clear F; intro φ F
              refine sq_pure F (wt0 rfl) (pu_assign rfl (F.ev rfl)) rfl rfl ?_; clear F; intro φ F
              refine nx ?_
              refine wp_ret ?_
              refine rt_tmp F rfl rfl ?_
              exfalso; clear F M; first | omega | (simp only [St.zero] at *; omega) | (simp_all; done) | (simp_all; omega)
            · rw [hs20] at F
              have hs20i := right_t hs20
              refine sq_pure F (wt1 F rfl rfl rfl rfl rfl) (pu_eqlB rfl (F.ev rfl) (F.ev rfl) Try.underlying4) rfl rfl ?_; clear F; intro φ F
              rw [show (true == true) = true from rfl] at F
              refine sq_pure F (wt0 rfl) (pu_pickt rfl (F.ev rfl) (F.ev rfl)) rfl rfl ?_; clear F; intro φ F
              refine sq_pure F (wt0 rfl) (pu_move rfl (F.ev rfl)) rfl rfl ?_; clear F; intro φ F
              refine sq_pure F (wt1 F rfl rfl rfl rfl rfl) (pu_move rfl (F.ev rfl)) rfl rfl ?_; clear F; intro φ F
              refine sq_pure F (wt1 F rfl rfl rfl rfl rfl) (pu_not rfl (F.ev rfl)) rfl rfl ?_; clear F; intro φ F
              rw [show (!true) = false from rfl] at F
              refine sq_pure F (wt1 F rfl rfl rfl rfl rfl) (pu_move rfl (F.ev rfl)) rfl rfl ?_; clear F; intro φ F
              refine sq_rd F (wt1 F rfl rfl rfl rfl rfl) (ld_agg rfl (F.ev rfl) agg23 (M.rd (i := 1) rfl) rfl) rfl rfl ?_; clear F; intro φ F
              refine sq_rd F (wt1 F rfl rfl rfl rfl rfl) (ld_agg rfl (F.ev rfl) agg23 (M.rd (i := 8) rfl) rfl) rfl rfl ?_; clear F; intro φ F
              refine sq_pure F (wt1 F rfl rfl rfl rfl rfl) (pu_eqlA rfl (F.ev rfl) (F.ev rfl) eqg23 (fun w => eqS23 (p.after (St.mk 0 0)) p w)) rfl rfl ?_; clear F; intro φ F
              refine sq_pure F (wt1 F rfl rfl rfl rfl rfl) (pu_pickf rfl (F.ev rfl) (F.ev rfl)) rfl rfl ?_; clear F; intro φ F
              refine sq_pure F (wt0 rfl) (pu_pickt rfl (F.ev rfl) (F.ev rfl)) rfl rfl ?_; clear F; intro φ F
              refine sq_pure F (wt0 rfl) (pu_move rfl (F.ev rfl)) rfl rfl ?_; clear F; intro φ F
              cases hs21 : (decide ((p.after (St.mk 0 0)) = p))
              · rw [hs21] at F
                have hs21i := eq_f hs21
                refine sq_skip F (wtn F rfl rfl rfl rfl rfl) rfl rfl ?_; clear F; intro φ F
                refine sq_skip F (wtn F rfl rfl rfl rfl rfl) rfl rfl ?_; clear F; intro φ F
                refine sq_skip F (wtn F rfl rfl rfl rfl rfl) rfl rfl ?_; clear F; intro φ F
                refine sq_pure F (wt0 rfl) (pu_pickf rfl (F.ev rfl) (evk)) rfl rfl ?_; clear F; intro φ F
                refine sq_pure F (wt0 rfl) (pu_move rfl (F.ev rfl)) rfl rfl ?_; clear F; intro φ F
                refine sq_skip F (wtn F rfl rfl rfl rfl rfl) rfl rfl ?_; clear F; intro φ F
                refine sq_skip F (wtn F rfl rfl rfl rfl rfl) rfl rfl ?_; clear F; intro φ F
                refine sq_skip F (wtn F rfl rfl rfl rfl rfl) rfl rfl ?_; clear F; intro φ F
                refine sq_pure F (wt0 rfl) (pu_pickf rfl (F.ev rfl) (evk)) rfl rfl ?_; clear F; intro φ F
                refine sq_pure F (wt0 rfl) (pu_assign rfl (F.ev rfl)) rfl rfl ?_; clear F; intro φ F
                refine nx ?_
                refine wp_ret ?_
                refine rt_tmp F rfl rfl ?_
                exfalso; clear F M; first | omega | (simp only [St.zero] at *; omega) | (simp_all; done) | (simp_all; omega)
              · rw [hs21] at F
                have hs21i := eq_t hs21
                refine sq_rd F (wt1 F rfl rfl rfl rfl rfl) (ld_agg rfl (F.ev rfl) agg23 (M.rd (i := 0) rfl) rfl) rfl rfl ?_; clear F; intro φ F
                refine sq_rd F (wt1 F rfl rfl rfl rfl rfl) (ld_agg rfl (F.ev rfl) agg23 (M.rd (i := 5) rfl) rfl) rfl rfl ?_; clear F; intro φ F
                refine sq_pure F (wt1 F rfl rfl rfl rfl rfl) (pu_eqlA rfl (F.ev rfl) (F.ev rfl) eqg23 (fun w => eqS23 (q.after p) (p.after q) w)) rfl rfl ?_; clear F; intro φ F
                rw [(decide_eq_true (after_comm p q).1 : decide ((q.after p) = (p.after q)) = true)] at F
                refine sq_pure F (wt0 rfl) (pu_pickt rfl (F.ev rfl) (F.ev rfl)) rfl rfl ?_; clear F; intro φ F
                refine sq_pure F (wt0 rfl) (pu_move rfl (F.ev rfl)) rfl rfl ?_; clear F; intro φ F
                refine sq_pure F (wt1 F rfl rfl rfl rfl rfl) (pu_move rfl (F.ev rfl)) rfl rfl ?_; clear F; intro φ F
                refine sq_pure F (wt1 F rfl rfl rfl rfl rfl) (pu_move rfl (F.ev rfl)) rfl rfl ?_; clear F; intro φ F
                cases hs22 : (q.afterB p)
                · rw [hs22] at F
                  have hs22i := after_f hs22
                  refine sq_pure F (wt1 F rfl rfl rfl rfl rfl) (pu_eqlB rfl (F.ev rfl) (F.ev rfl) Try.underlying4) rfl rfl ?_; clear F; intro φ F
                  rw [show (false == true) = false from rfl] at F
                  refine sq_pure F (wt0 rfl) (pu_pickt rfl (F.ev rfl) (F.ev rfl)) rfl rfl ?_; clear F; intro φ F
                  refine sq_pure F (wt0 rfl) (pu_assign rfl (F.ev rfl)) rfl rfl ?_; clear F; intro φ F
                  refine nx ?_
                  refine wp_ret ?_
                  refine rt_tmp F rfl rfl ?_
                  exfalso; clear F M; first | omega | (simp only [St.zero] at *; omega) | (simp_all; done) | (simp_all; omega)
                · rw [hs22] at F
                  have hs22i := after_t hs22
                  refine sq_pure F (wt1 F rfl rfl rfl rfl rfl) (pu_eqlB rfl (F.ev rfl) (F.ev rfl) Try.underlying4) rfl rfl ?_; clear F; intro φ F
                  rw [show (true == true) = true from rfl] at F
                  refine sq_pure F (wt0 rfl) (pu_pickt rfl (F.ev rfl) (F.ev rfl)) rfl rfl ?_; clear F; intro φ F
                  refine sq_pure F (wt0 rfl) (pu_assign rfl (F.ev rfl)) rfl rfl ?_; clear F; intro φ F
                  refine nx ?_
                  refine wp_ret ?_
                  refine rt_tmp F rfl rfl ?_
                  exact ⟨rfl, M.bel⟩
        · rw [hs16] at F
          have hs16i := after_t hs16
          refine sq_pure F (wt1 F rfl rfl rfl rfl rfl) (pu_neqB rfl (F.ev rfl) (F.ev rfl) Try.underlying4) rfl rfl ?_; clear F; intro φ F
          rw [show (false != true) = true from rfl] at F
          refine sq_pure F (wt1 F rfl rfl rfl rfl rfl) (pu_move rfl (F.ev rfl)) rfl rfl ?_; clear F; intro φ F
          refine sq_skip F (wtn F rfl rfl rfl rfl rfl) rfl rfl ?_; clear F; intro φ F
          refine sq_skip F (wtn F rfl rfl rfl rfl rfl) rfl rfl ?_; clear F; intro φ F
          refine sq_skip F (wtu F rfl rfl rfl rfl rfl) rfl rfl ?_; clear F; intro φ F
          refine sq_skip F (wtu F rfl rfl rfl rfl rfl) rfl rfl ?_; clear F; intro φ F
          refine sq_skip F (wtu F rfl rfl rfl rfl rfl) rfl rfl ?_; clear F; intro φ F
          refine sq_skip F (wtn F rfl rfl rfl rfl rfl) rfl rfl ?_; clear F; intro φ F
          refine sq_pure F (wt1 F rfl rfl rfl rfl rfl) (pu_pickt rfl (F.ev rfl) (evk)) rfl rfl ?_; clear F; intro φ F
          refine sq_pure F (wt0 rfl) (pu_pickt rfl (F.ev rfl) (F.ev rfl)) rfl rfl ?_; clear F; intro φ F
          refine nx ?_
          refine wp_cond_true (F.ev rfl) ?_
          refine wp_seq ?_
          -- region 9
          refine wp_region_lit ?_
          refine sq_pure F (wt0 rfl) (pu_assign rfl (evk)) rfl rfl ?_; clear F; intro φ F
          refine nx ?_
          refine wp_ret ?_
          refine nxr ?_
          refine rt_tmp F rfl rfl ?_
          exfalso; clear F M; first | omega | (simp only [St.zero] at *; omega) | (simp_all; done) | (simp_all; omega)
      · rw [hs15] at F
        have hs15i := after_t hs15
        cases hs23 : (p.afterB (q.after r))
        · rw [hs23] at F
          have hs23i := after_f hs23
          refine sq_pure F (wt1 F rfl rfl rfl rfl rfl) (pu_neqB rfl (F.ev rfl) (F.ev rfl) Try.underlying4) rfl rfl ?_; clear F; intro φ F
          rw [show (true != false) = true from rfl] at F
          refine sq_pure F (wt1 F rfl rfl rfl rfl rfl) (pu_move rfl (F.ev rfl)) rfl rfl ?_; clear F; intro φ F
          refine sq_skip F (wtn F rfl rfl rfl rfl rfl) rfl rfl ?_; clear F; intro φ F
          refine sq_skip F (wtn F rfl rfl rfl rfl rfl) rfl rfl ?_; clear F; intro φ F
          refine sq_skip F (wtu F rfl rfl rfl rfl rfl) rfl rfl ?_; clear F; intro φ F
          refine sq_skip F (wtu F rfl rfl rfl rfl rfl) rfl rfl ?_; clear F; intro φ F
          refine sq_skip F (wtu F rfl rfl rfl rfl rfl) rfl rfl ?_; clear F; intro φ F
          refine sq_skip F (wtn F rfl rfl rfl rfl rfl) rfl rfl ?_; clear F; intro φ F
          refine sq_pure F (wt1 F rfl rfl rfl rfl rfl) (pu_pickt rfl (F.ev rfl) (evk)) rfl rfl ?_; clear F; intro φ F
          refine sq_pure F (wt0 rfl) (pu_pickt rfl (F.ev rfl) (F.ev rfl)) rfl rfl ?_; clear F; intro φ F
          refine nx ?_
          refine wp_cond_true (F.ev rfl) ?_
          refine wp_seq ?_
          -- region 9
          refine wp_region_lit ?_
          refine sq_pure F (wt0 rfl) (pu_assign rfl (evk)) rfl rfl ?_; clear F; intro φ F
          refine nx ?_
          refine wp_ret ?_
          refine nxr ?_
          refine rt_tmp F rfl rfl ?_
          exfalso; clear F M; first | omega | (simp only [St.zero] at *; omega) | (simp_all; done) | (simp_all; omega)
        · rw [hs23] at F
          have hs23i := after_t hs23
          refine sq_pure F (wt1 F rfl rfl rfl rfl rfl) (pu_neqB rfl (F.ev rfl) (F.ev rfl) Try.underlying4) rfl rfl ?_; clear F; intro φ F
          rw [show (true != true) = false from rfl] at F
          refine sq_pure F (wt1 F rfl rfl rfl rfl rfl) (pu_move rfl (F.ev rfl)) rfl rfl ?_; clear F; intro φ F
          refine sq_pure F (wt1 F rfl rfl rfl rfl rfl) (pu_move rfl (F.ev rfl)) rfl rfl ?_; clear F; intro φ F
          refine sq_pure F (wt1 F rfl rfl rfl rfl rfl) (pu_move rfl (F.ev rfl)) rfl rfl ?_; clear F; intro φ F
          refine sq_rd F (wt1 F rfl rfl rfl rfl rfl) (ld_agg rfl (F.ev rfl) agg23 (M.rd (i := 3) rfl) rfl) rfl rfl ?_; clear F; intro φ F
          refine sq_rd F (wt1 F rfl rfl rfl rfl rfl) (ld_agg rfl (F.ev rfl) agg23 (M.rd (i := 2) rfl) rfl) rfl rfl ?_; clear F; intro φ F
          cases hs24 : (decide (((p.after q).after r) = (p.after (q.after r))))
          · skip
            have hs24i := eq_f hs24
            refine sq_pure F (wt1 F rfl rfl rfl rfl rfl) (pu_neqA rfl (F.ev rfl) (F.ev rfl) eqg23 (fun w => eqS23 ((p.after q).after r) (p.after (q.after r)) w)) rfl rfl ?_; clear F; intro φ F
            rw [hs24, show (!false) = true from rfl] at F
            refine sq_pure F (wt1 F rfl rfl rfl rfl rfl) (pu_pickt rfl (F.ev rfl) (F.ev rfl)) rfl rfl ?_; clear F; intro φ F
            refine sq_pure F (wt1 F rfl rfl rfl rfl rfl) (pu_pickf rfl (F.ev rfl) (F.ev rfl)) rfl rfl ?_; clear F; intro φ F
            refine sq_pure F (wt0 rfl) (pu_pickt rfl (F.ev rfl) (F.ev rfl)) rfl rfl ?_; clear F; intro φ F
            refine nx ?_
            refine wp_cond_true (F.ev rfl) ?_
            refine wp_seq ?_
            -- region 9
            refine wp_region_lit ?_
            refine sq_pure F (wt0 rfl) (pu_assign rfl (evk)) rfl rfl ?_; clear F; intro φ F
            refine nx ?_
            refine wp_ret ?_
            refine nxr ?_
            refine rt_tmp F rfl rfl ?_
            exfalso; clear F M; first | omega | (simp only [St.zero] at *; omega) | (simp_all; done) | (simp_all; omega)
          · skip
            have hs24i := eq_t hs24
            refine sq_pure F (wt1 F rfl rfl rfl rfl rfl) (pu_neqA rfl (F.ev rfl) (F.ev rfl) eqg23 (fun w => eqS23 ((p.after q).after r) (p.after (q.after r)) w)) rfl rfl ?_; clear F; intro φ F
            rw [hs24, show (!true) = false from rfl] at F
            refine sq_pure F (wt1 F rfl rfl rfl rfl rfl) (pu_pickt rfl (F.ev rfl) (F.ev rfl)) rfl rfl ?_; clear F; intro φ F
            refine sq_pure F (wt1 F rfl rfl rfl rfl rfl) (pu_pickf rfl (F.ev rfl) (F.ev rfl)) rfl rfl ?_; clear F; intro φ F
            refine sq_pure F (wt0 rfl) (pu_pickt rfl (F.ev rfl) (F.ev rfl)) rfl rfl ?_; clear F; intro φ F
            refine nx ?_
            refine wp_cond_false (F.ev rfl) ?_
            refine wp_skip ?_
            refine nxq ?_
            refine wp_seq ?_
            -- region 10
            refine wp_region_lit ?_
            refine sq_pure F (wt0 rfl) (pu_move rfl (F.ev rfl)) rfl rfl ?_; clear F; intro φ F
            refine sq_pure F (wt0 rfl) (pu_move rfl (F.ev rfl)) rfl rfl ?_; clear F; intro φ F
            refine sq_pure F (wt1 F rfl rfl rfl rfl rfl) (pu_move rfl (F.ev rfl)) rfl rfl ?_; clear F; intro φ F
            refine sq_rd F (wt1 F rfl rfl rfl rfl rfl) (ld_agg rfl (F.ev rfl) agg23 (M.rd (i := 8) rfl) rfl) rfl rfl ?_; clear F; intro φ F
            refine sq_call F M (wt1 F rfl rfl rfl rfl rfl) rfl en11 (evc (F.ev rfl) evn) (path_right_any p _) rfl rfl ?_; clear F M; intro φ ω F M
            cases hs25 : (p.afterB (St.mk 0 0))
            · rw [hs25] at F
              have hs25i := after_f hs25
              cases hs26 : p.rightB
              · rw [hs26] at F
                have hs26i := right_f hs26
                refine sq_pure F (wt1 F rfl rfl rfl rfl rfl) (pu_eqlB rfl (F.ev rfl) (F.ev rfl) Try.underlying4) rfl rfl ?_; clear F; intro φ F
                rw [show (false == false) = true from rfl] at F
                refine sq_pure F (wt0 rfl) (pu_pickt rfl (F.ev rfl) (F.ev rfl)) rfl rfl ?_; clear F; intro φ F
                refine sq_pure F (wt0 rfl) (pu_move rfl (F.ev rfl)) rfl rfl ?_; clear F; intro φ F
                refine sq_pure F (wt1 F rfl rfl rfl rfl rfl) (pu_move rfl (F.ev rfl)) rfl rfl ?_; clear F; intro φ F
                refine sq_pure F (wt1 F rfl rfl rfl rfl rfl) (pu_not rfl (F.ev rfl)) rfl rfl ?_; clear F; intro φ F
                rw [show (!false) = true from rfl] at F
                refine sq_pure F (wt1 F rfl rfl rfl rfl rfl) (pu_move rfl (F.ev rfl)) rfl rfl ?_; clear F; intro φ F
                refine sq_skip F (wtn F rfl rfl rfl rfl rfl) rfl rfl ?_; clear F; intro φ F
                refine sq_skip F (wtn F rfl rfl rfl rfl rfl) rfl rfl ?_; clear F; intro φ F
                refine sq_skip F (wtn F rfl rfl rfl rfl rfl) rfl rfl ?_; clear F; intro φ F
                refine sq_pure F (wt1 F rfl rfl rfl rfl rfl) (pu_pickt rfl (F.ev rfl) (evk)) rfl rfl ?_; clear F; intro φ F
                refine sq_pure F (wt0 rfl) (pu_pickt rfl (F.ev rfl) (F.ev rfl)) rfl rfl ?_; clear F; intro φ F
                refine sq_pure F (wt0 rfl) (pu_move rfl (F.ev rfl)) rfl rfl ?_; clear F; intro φ F
                refine sq_rd F (wt1 F rfl rfl rfl rfl rfl) (ld_agg rfl (F.ev rfl) agg23 (M.rd (i := 0) rfl) rfl) rfl rfl ?_; clear F; intro φ F
                refine sq_rd F (wt1 F rfl rfl rfl rfl rfl) (ld_agg rfl (F.ev rfl) agg23 (M.rd (i := 5) rfl) rfl) rfl rfl ?_; clear F; intro φ F
                refine sq_pure F (wt1 F rfl rfl rfl rfl rfl) (pu_eqlA rfl (F.ev rfl) (F.ev rfl) eqg23 (fun w => eqS23 (q.after p) (p.after q) w)) rfl rfl ?_; clear F; intro φ F
                rw [(decide_eq_true (after_comm p q).1 : decide ((q.after p) = (p.after q)) = true)] at F
                refine sq_pure F (wt0 rfl) (pu_pickt rfl (F.ev rfl) (F.ev rfl)) rfl rfl ?_; clear F; intro φ F
                refine sq_pure F (wt0 rfl) (pu_move rfl (F.ev rfl)) rfl rfl ?_; clear F; intro φ F
                refine sq_pure F (wt1 F rfl rfl rfl rfl rfl) (pu_move rfl (F.ev rfl)) rfl rfl ?_; clear F; intro φ F
                refine sq_pure F (wt1 F rfl rfl rfl rfl rfl) (pu_move rfl (F.ev rfl)) rfl rfl ?_; clear F; intro φ F
                cases hs27 : (q.afterB p)
                · rw [hs27] at F
                  have hs27i := after_f hs27
                  refine sq_pure F (wt1 F rfl rfl rfl rfl rfl) (pu_eqlB rfl (F.ev rfl) (F.ev rfl) Try.underlying4) rfl rfl ?_; clear F; intro φ F
                  rw [show (false == true) = false from rfl] at F
                  refine sq_pure F (wt0 rfl) (pu_pickt rfl (F.ev rfl) (F.ev rfl)) rfl rfl ?_; clear F; intro φ F
                  refine sq_pure F (wt0 rfl) (pu_assign rfl (F.ev rfl)) rfl rfl ?_; clear F; intro φ F
                  refine nx ?_
                  refine wp_ret ?_
                  refine rt_tmp F rfl rfl ?_
                  exfalso; clear F M; first | omega | (simp only [St.zero] at *; omega) | (simp_all; done) | (simp_all; omega)
                · rw [hs27] at F
                  have hs27i := after_t hs27
                  refine sq_pure F (wt1 F rfl rfl rfl rfl rfl) (pu_eqlB rfl (F.ev rfl) (F.ev rfl) Try.underlying4) rfl rfl ?_; clear F; intro φ F
                  rw [show (true == true) = true from rfl] at F
                  refine sq_pure F (wt0 rfl) (pu_pickt rfl (F.ev rfl) (F.ev rfl)) rfl rfl ?_; clear F; intro φ F
                  refine sq_pure F (wt0 rfl) (pu_assign rfl (F.ev rfl)) rfl rfl ?_; clear F; intro φ F
                  refine nx ?_
                  refine wp_ret ?_
                  refine rt_tmp F rfl rfl ?_
                  exact ⟨rfl, M.bel⟩
              · rw [hs26] at F
                have hs26i := right_t hs26
                refine sq_pure F (wt1 F rfl rfl rfl rfl rfl) (pu_eqlB rfl (F.ev rfl) (F.ev rfl) Try.underlying4) rfl rfl ?_; clear F; intro φ F
                rw [show (false == true) = false from rfl] at F
                refine sq_pure F (wt0 rfl) (pu_pickt rfl (F.ev rfl) (F.ev rfl)) rfl rfl ?_; clear F; intro φ F
                refine sq_pure F (wt0 rfl) (pu_move rfl (F.ev rfl)) rfl rfl ?_; clear F; intro φ F
                refine sq_skip F (wtn F rfl rfl rfl rfl rfl) rfl rfl ?_; clear F; intro φ F
                refine sq_skip F (wtn F rfl rfl rfl rfl rfl) rfl rfl ?_; clear F; intro φ F
                refine sq_skip F (wtn F rfl rfl rfl rfl rfl) rfl rfl ?_; clear F; intro φ F
                refine sq_skip F (wtu F rfl rfl rfl rfl rfl) rfl rfl ?_; clear F; intro φ F
                refine sq_skip F (wtu F rfl rfl rfl rfl rfl) rfl rfl ?_; clear F; intro φ F
                refine sq_skip F (wtu F rfl rfl rfl rfl rfl) rfl rfl ?_; clear F; intro φ F
                refine sq_skip F (wtn F rfl rfl rfl rfl rfl) rfl rfl ?_; clear F; intro φ F
                refine sq_pure F (wt0 rfl) (pu_pickf rfl (F.ev rfl) (evk)) rfl rfl ?_; clear F; intro φ F
                refine sq_pure F (wt0 rfl) (pu_move rfl (F.ev rfl)) rfl rfl ?_; clear F; intro φ F
                refine sq_skip F (wtn F rfl rfl rfl rfl rfl) rfl rfl ?_; clear F; intro φ F
                refine sq_skip F (wtn F rfl rfl rfl rfl rfl) rfl rfl ?_; clear F; intro φ F
                refine sq_skip F (wtn F rfl rfl rfl rfl rfl) rfl rfl ?_; clear F; intro φ F
                refine sq_pure F (wt0 rfl) (pu_pickf rfl (F.ev rfl) (evk)) rfl rfl ?_; clear F; intro φ F
                refine sq_pure F (wt0 rfl) (pu_move rfl (F.ev rfl)) rfl rfl ?_; clear F; intro φ F
                refine sq_skip F (wtn F rfl rfl rfl rfl rfl) rfl rfl ?_; clear F; intro φ F
                refine sq_skip F (wtn F rfl rfl rfl rfl rfl) rfl rfl ?_; clear F; intro φ F
                refine sq_skip F (wtn F rfl rfl rfl rfl rfl) rfl rfl ?_; clear F; intro φ F
                refine sq_pure F (wt0 rfl) (pu_pickf rfl (F.ev rfl) (evk)) rfl rfl ?_; clear F; intro φ F
                refine sq_pure F (wt0 rfl) (pu_assign rfl (F.ev rfl)) rfl rfl ?_; clear F; intro φ F
                refine nx ?_
                refine wp_ret ?_
                refine rt_tmp F rfl rfl ?_
                exfalso; clear F M; first | omega | (simp only [St.zero] at *; omega) | (simp_all; done) | (simp_all; omega)
            · rw [hs25] at F
              have hs25i := after_t hs25
              cases hs28 : p.rightB
              · rw [hs28] at F
                have hs28i := right_f hs28
                refine sq_pure F (wt1 F rfl rfl rfl rfl rfl) (pu_eqlB rfl (F.ev rfl) (F.ev rfl) Try.underlying4) rfl rfl ?_; clear F; intro φ F
                rw [show (true == false) = false from rfl] at F
                refine sq_pure F (wt0 rfl) (pu_pickt rfl (F.ev rfl) (F.ev rfl)) rfl rfl ?_; clear F; intro φ F
                refine sq_pure F (wt0 rfl) (pu_move rfl (F.ev rfl)) rfl rfl ?_; clear F; intro φ F
                refine sq_skip F (wtn F rfl rfl rfl rfl rfl) rfl rfl ?_; clear F; intro φ F
                refine sq_skip F (wtn F rfl rfl rfl rfl rfl) rfl rfl ?_; clear F; intro φ F
                refine sq_skip F (wtn F rfl rfl rfl rfl rfl) rfl rfl ?_; clear F; intro φ F
                refine sq_skip F (wtu F rfl rfl rfl rfl rfl) rfl rfl ?_; clear F; intro φ F
                refine sq_skip F (wtu F rfl rfl rfl rfl rfl) rfl rfl ?_; clear F; intro φ F
                refine sq_skip F (wtu F rfl rfl rfl rfl rfl) rfl rfl ?_; clear F; intro φ F
                refine sq_skip F (wtn F rfl rfl rfl rfl rfl) rfl rfl ?_; clear F; intro φ F
                refine sq_pure F (wt0 rfl) (pu_pickf rfl (F.ev rfl) (evk)) rfl rfl ?_; clear F; intro φ F
                refine sq_pure F (wt0 rfl) (pu_move rfl (F.ev rfl)) rfl rfl ?_; clear F; intro φ F
                refine sq_skip F (wtn F rfl rfl rfl rfl rfl) rfl rfl ?_; clear F; intro φ F
                refine sq_skip F (wtn F rfl rfl rfl rfl rfl) rfl rfl ?_; clear F; intro φ F
                refine sq_skip F (wtn F rfl rfl rfl rfl rfl) rfl rfl ?_; clear F; intro φ F
                refine sq_pure F (wt0 rfl) (pu_pickf rfl (F.ev rfl) (evk)) rfl rfl ?_; clear F; intro φ F
                refine sq_pure F (wt0 rfl) (pu_move rfl (F.ev rfl)) rfl rfl ?_; clear F; intro φ F
                refine sq_skip F (wtn F rfl rfl rfl rfl rfl) rfl rfl ?_; clear F; intro φ F
                refine sq_skip F (wtn F rfl rfl rfl rfl rfl) rfl rfl ?_; clear F; intro φ F
                refine sq_skip F (wtn F rfl rfl rfl rfl rfl) rfl rfl ?_; clear F; intro φ F
                refine sq_pure F (wt0 rfl) (pu_pickf rfl (F.ev rfl) (evk)) rfl rfl ?_; clear F; intro φ F
                refine sq_pure F (wt0 rfl) (pu_assign rfl (F.ev rfl)) rfl rfl ?_; clear F; intro φ F
                refine nx ?_
                refine wp_ret ?_
                refine rt_tmp F rfl rfl ?_
                exfalso; clear F M; first | omega | (simp only [St.zero] at *; omega) | (simp_all; done) | (simp_all; omega)
              · rw [hs28] at F
                have hs28i := right_t hs28
                refine sq_pure F (wt1 F rfl rfl rfl rfl rfl) (pu_eqlB rfl (F.ev rfl) (F.ev rfl) Try.underlying4) rfl rfl ?_; clear F; intro φ F
                rw [show (true == true) = true from rfl] at F
                refine sq_pure F (wt0 rfl) (pu_pickt rfl (F.ev rfl) (F.ev rfl)) rfl rfl ?_; clear F; intro φ F
                refine sq_pure F (wt0 rfl) (pu_move rfl (F.ev rfl)) rfl rfl ?_; clear F; intro φ F
                refine sq_pure F (wt1 F rfl rfl rfl rfl rfl) (pu_move rfl (F.ev rfl)) rfl rfl ?_; clear F; intro φ F
                refine sq_pure F (wt1 F rfl rfl rfl rfl rfl) (pu_not rfl (F.ev rfl)) rfl rfl ?_; clear F; intro φ F
                rw [show (!true) = false from rfl] at F
                refine sq_pure F (wt1 F rfl rfl rfl rfl rfl) (pu_move rfl (F.ev rfl)) rfl rfl ?_; clear F; intro φ F
                refine sq_rd F (wt1 F rfl rfl rfl rfl rfl) (ld_agg rfl (F.ev rfl) agg23 (M.rd (i := 1) rfl) rfl) rfl rfl ?_; clear F; intro φ F
                refine sq_rd F (wt1 F rfl rfl rfl rfl rfl) (ld_agg rfl (F.ev rfl) agg23 (M.rd (i := 8) rfl) rfl) rfl rfl ?_; clear F; intro φ F
                refine sq_pure F (wt1 F rfl rfl rfl rfl rfl) (pu_eqlA rfl (F.ev rfl) (F.ev rfl) eqg23 (fun w => eqS23 (p.after (St.mk 0 0)) p w)) rfl rfl ?_; clear F; intro φ F
                refine sq_pure F (wt1 F rfl rfl rfl rfl rfl) (pu_pickf rfl (F.ev rfl) (F.ev rfl)) rfl rfl ?_; clear F; intro φ F
                refine sq_pure F (wt0 rfl) (pu_pickt rfl (F.ev rfl) (F.ev rfl)) rfl rfl ?_; clear F; intro φ F
                refine sq_pure F (wt0 rfl) (pu_move rfl (F.ev rfl)) rfl rfl ?_; clear F; intro φ F
                cases hs29 : (decide ((p.after (St.mk 0 0)) = p))
                · rw [hs29] at F
                  have hs29i := eq_f hs29
                  refine sq_skip F (wtn F rfl rfl rfl rfl rfl) rfl rfl ?_; clear F; intro φ F
                  refine sq_skip F (wtn F rfl rfl rfl rfl rfl) rfl rfl ?_; clear F; intro φ F
                  refine sq_skip F (wtn F rfl rfl rfl rfl rfl) rfl rfl ?_; clear F; intro φ F
                  refine sq_pure F (wt0 rfl) (pu_pickf rfl (F.ev rfl) (evk)) rfl rfl ?_; clear F; intro φ F
                  refine sq_pure F (wt0 rfl) (pu_move rfl (F.ev rfl)) rfl rfl ?_; clear F; intro φ F
                  refine sq_skip F (wtn F rfl rfl rfl rfl rfl) rfl rfl ?_; clear F; intro φ F
                  refine sq_skip F (wtn F rfl rfl rfl rfl rfl) rfl rfl ?_; clear F; intro φ F
                  refine sq_skip F (wtn F rfl rfl rfl rfl rfl) rfl rfl ?_; clear F; intro φ F
                  refine sq_pure F (wt0 rfl) (pu_pickf rfl (F.ev rfl) (evk)) rfl rfl ?_; clear F; intro φ F
                  refine sq_pure F (wt0 rfl) (pu_assign rfl (F.ev rfl)) rfl rfl ?_; clear F; intro φ F
                  refine nx ?_
                  refine wp_ret ?_
                  refine rt_tmp F rfl rfl ?_
                  exfalso; clear F M; first | omega | (simp only [St.zero] at *; omega) | (simp_all; done) | (simp_all; omega)
                · rw [hs29] at F
                  have hs29i := eq_t hs29
                  refine sq_rd F (wt1 F rfl rfl rfl rfl rfl) (ld_agg rfl (F.ev rfl) agg23 (M.rd (i := 0) rfl) rfl) rfl rfl ?_; clear F; intro φ F
                  refine sq_rd F (wt1 F rfl rfl rfl rfl rfl) (ld_agg rfl (F.ev rfl) agg23 (M.rd (i := 5) rfl) rfl) rfl rfl ?_; clear F; intro φ F
                  refine sq_pure F (wt1 F rfl rfl rfl rfl rfl) (pu_eqlA rfl (F.ev rfl) (F.ev rfl) eqg23 (fun w => eqS23 (q.after p) (p.after q) w)) rfl rfl ?_; clear F; intro φ F
                  rw [(decide_eq_true (after_comm p q).1 : decide ((q.after p) = (p.after q)) = true)] at F
                  refine sq_pure F (wt0 rfl) (pu_pickt rfl (F.ev rfl) (F.ev rfl)) rfl rfl ?_; clear F; intro φ F
                  refine sq_pure F (wt0 rfl) (pu_move rfl (F.ev rfl)) rfl rfl ?_; clear F; intro φ F
                  refine sq_pure F (wt1 F rfl rfl rfl rfl rfl) (pu_move rfl (F.ev rfl)) rfl rfl ?_; clear F; intro φ F
                  refine sq_pure F (wt1 F rfl rfl rfl rfl rfl) (pu_move rfl (F.ev rfl)) rfl rfl ?_; clear F; intro φ F
                  cases hs30 : (q.afterB p)
                  · rw [hs30] at F
                    have hs30i := after_f hs30
                    refine sq_pure F (wt1 F rfl rfl rfl rfl rfl) (pu_eqlB rfl (F.ev rfl) (F.ev rfl) Try.underlying4) rfl rfl ?_; clear F; intro φ F
                    rw [show (false == true) = false from rfl] at F
                    refine sq_pure F (wt0 rfl) (pu_pickt rfl (F.ev rfl) (F.ev rfl)) rfl rfl ?_; clear F; intro φ F
                    refine sq_pure F (wt0 rfl) (pu_assign rfl (F.ev rfl)) rfl rfl ?_; clear F; intro φ F
                    refine nx ?_
                    refine wp_ret ?_
                    refine rt_tmp F rfl rfl ?_
                    exfalso; clear F M; first | omega | (simp only [St.zero] at *; omega) | (simp_all; done) | (simp_all; omega)
                  · rw [hs30] at F
                    have hs30i := after_t hs30
                    refine sq_pure F (wt1 F rfl rfl rfl rfl rfl) (pu_eqlB rfl (F.ev rfl) (F.ev rfl) Try.underlying4) rfl rfl ?_; clear F; intro φ F
                    rw [show (true == true) = true from rfl] at F
                    refine sq_pure F (wt0 rfl) (pu_pickt rfl (F.ev rfl) (F.ev rfl)) rfl rfl ?_; clear F; intro φ F
                    refine sq_pure F (wt0 rfl) (pu_assign rfl (F.ev rfl)) rfl rfl ?_; clear F; intro φ F
                    refine nx ?_
                    refine wp_ret ?_
                    refine rt_tmp F rfl rfl ?_
                    exact ⟨rfl, M.bel⟩

end Go.Proofs.Ytpnimdcloanogaa
