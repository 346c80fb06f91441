/- The walk of StampMeets. Made by walks/stamp.py. -/
import Derived.Test.YtolhinemfncejaaSl
namespace Go.Proofs.Ytolhinemfncejaa
open Go.RowKit

set_option maxHeartbeats 4000000 in
theorem stampMeets_walk (a b c : St) (w : World) :
    Calls Try.prog 6 #[.agg #[.int .i64 a.e, .int .i64 a.r], .agg #[.int .i64 b.e, .int .i64 b.r], .agg #[.int .i64 c.e, .int .i64 c.r]] w fun e w' => e = .returned (.bool true) ∧ Below w.heap.size w w' := by
  have j0 := join_spec a b
  have j1 := join_spec b a
  have j2 := meet_spec a b
  refine enterF Try.func6 rfl 77 Try.ntmps6 [.agg #[.int .i64 a.e, .int .i64 a.r], .agg #[.int .i64 b.e, .int .i64 b.r], .agg #[.int .i64 c.e, .int .i64 c.r]] rfl [(0, .agg #[.int .i64 a.e, .int .i64 a.r]), (1, .agg #[.int .i64 b.e, .int .i64 b.r]), (2, .agg #[.int .i64 c.e, .int .i64 c.r])] rfl ?_
  intro φ F
  have M := Mm.start w
  refine wp_seq ?_
  -- region 0
  refine wp_region_lit ?_
  refine sq_box F M (wt0 rfl) rfl (F.ev rfl) (cs := #[.int .i64 a.e, .int .i64 a.r]) rfl rfl rfl ?_; clear F M; intro φ ω g1 F M
  refine sq_box F M (wt0 rfl) rfl (F.ev rfl) (cs := #[.int .i64 b.e, .int .i64 b.r]) rfl rfl rfl ?_; clear F M; intro φ ω g2 F M
  refine sq_box F M (wt0 rfl) rfl (F.ev rfl) (cs := #[.int .i64 c.e, .int .i64 c.r]) rfl rfl rfl ?_; clear F M; intro φ ω g3 F M
  refine sq_pure F (wt0 rfl) (pu_assign rfl (evk)) rfl rfl ?_; clear F; intro φ F
  refine nx ?_
  refine wp_seq ?_
  -- region 1
  refine wp_region_lit ?_
  refine sq_call F M (wt0 rfl) rfl en11 evn (awake_any _) rfl rfl ?_; clear F M; intro φ ω F M
  refine sq_pure F (wt0 rfl) (pu_assign rfl (F.ev rfl)) rfl rfl ?_; clear F; intro φ F
  refine nx ?_
  refine wp_seq ?_
  -- region 2
  refine wp_region_lit ?_
  refine sq_rd F (wt0 rfl) (ld_agg rfl (F.ev rfl) agg23 (M.rd (i := 2) rfl) rfl) rfl rfl ?_; clear F; intro φ F
  refine sq_rd F (wt0 rfl) (ld_agg rfl (F.ev rfl) agg23 (M.rd (i := 1) rfl) rfl) rfl rfl ?_; clear F; intro φ F
  refine sq_call F M (wt0 rfl) rfl en18 (evc (F.ev rfl) (evc (F.ev rfl) evn)) (join_any a b _) rfl rfl ?_; clear F M; intro φ ω F M
  refine sq_alloc F M (wt0 rfl) rfl z23 rfl rfl ?_; clear F M; intro φ ω g4 F M
  refine sq_stA F M (wt0 rfl) rfl (F.ev rfl) (F.ev rfl) (i := 0) rfl agg23 rfl rfl rfl rfl ?_; clear M; intro ω M
  refine nx ?_
  refine wp_seq ?_
  -- region 3
  refine wp_region_lit ?_
  refine sq_rd F (wt0 rfl) (ld_agg rfl (F.ev rfl) agg23 (M.rd (i := 3) rfl) rfl) rfl rfl ?_; clear F; intro φ F
  refine sq_rd F (wt0 rfl) (ld_agg rfl (F.ev rfl) agg23 (M.rd (i := 2) rfl) rfl) rfl rfl ?_; clear F; intro φ F
  refine sq_call F M (wt0 rfl) rfl en19 (evc (F.ev rfl) (evc (F.ev rfl) evn)) (meet_any a b _) rfl rfl ?_; clear F M; intro φ ω F M
  refine sq_alloc F M (wt0 rfl) rfl z23 rfl rfl ?_; clear F M; intro φ ω g5 F M
  refine sq_stA F M (wt0 rfl) rfl (F.ev rfl) (F.ev rfl) (i := 0) rfl agg23 rfl rfl rfl rfl ?_; clear M; intro ω M
  refine nx ?_
  refine wp_seq ?_
  -- region 4
  refine wp_region_lit ?_
  refine sq_rd F (wt0 rfl) (ld_agg rfl (F.ev rfl) agg23 (M.rd (i := 4) rfl) rfl) rfl rfl ?_; clear F; intro φ F
  refine sq_rd F (wt0 rfl) (ld_agg rfl (F.ev rfl) agg23 (M.rd (i := 2) rfl) rfl) rfl rfl ?_; clear F; intro φ F
  refine sq_call F M (wt0 rfl) rfl en15 (evc (F.ev rfl) (evc (F.ev rfl) evn)) (le_any a c _) rfl rfl ?_; clear F M; intro φ ω F M
  refine sq_pure F (wt0 rfl) (pu_move rfl (F.ev rfl)) rfl rfl ?_; clear F; intro φ F
  cases hs1 : (a.leB c)
  · rw [hs1] at F
    have hs1i := le_f hs1; (try dsimp only at hs1i)
    refine sq_skip F (wtn F rfl rfl rfl rfl rfl) rfl rfl ?_; clear F; intro φ F
    refine sq_skip F (wtn F rfl rfl rfl rfl rfl) rfl rfl ?_; clear F; intro φ F
    refine sq_skip F (wtn F rfl rfl rfl rfl rfl) rfl rfl ?_; clear F; intro φ F
    refine sq_pure F (wt0 rfl) (pu_pickf rfl (F.ev rfl) (evk)) rfl rfl ?_; clear F; intro φ F
    refine sq_pure F (wt0 rfl) (pu_assign rfl (F.ev rfl)) rfl rfl ?_; clear F; intro φ F
    refine nx ?_
    refine wp_seq ?_
    -- region 5
    refine wp_region_lit ?_
    refine sq_rd F (wt0 rfl) (ld_agg rfl (F.ev rfl) agg23 (M.rd (i := 2) rfl) rfl) rfl rfl ?_; clear F; intro φ F
    refine sq_rd F (wt0 rfl) (ld_agg rfl (F.ev rfl) agg23 (M.rd (i := 4) rfl) rfl) rfl rfl ?_; clear F; intro φ F
    refine sq_call F M (wt0 rfl) rfl en15 (evc (F.ev rfl) (evc (F.ev rfl) evn)) (le_any c a _) rfl rfl ?_; clear F M; intro φ ω F M
    refine sq_pure F (wt0 rfl) (pu_move rfl (F.ev rfl)) rfl rfl ?_; clear F; intro φ F
    cases hs2 : (c.leB a)
    · rw [hs2] at F
      have hs2i := le_f hs2; (try dsimp only at hs2i)
      refine sq_skip F (wtn F rfl rfl rfl rfl rfl) rfl rfl ?_; clear F; intro φ F
      refine sq_skip F (wtn F rfl rfl rfl rfl rfl) rfl rfl ?_; clear F; intro φ F
      refine sq_skip F (wtn F rfl rfl rfl rfl rfl) rfl rfl ?_; clear F; intro φ F
      refine sq_pure F (wt0 rfl) (pu_pickf rfl (F.ev rfl) (evk)) rfl rfl ?_; clear F; intro φ F
      refine sq_pure F (wt0 rfl) (pu_assign rfl (F.ev rfl)) rfl rfl ?_; clear F; intro φ F
      refine nx ?_
      refine wp_seq ?_
      -- region 6
      refine rg_quiet M mixedOK (by kernel_rfl) ?_
      refine qt_pure F (wt0 rfl) (pu_move rfl (F.ev rfl)) rfl rfl ?_; clear F; intro φ F
      refine qt_pure F (wt0 rfl) (pu_move rfl (F.ev rfl)) rfl rfl ?_; clear F; intro φ F
      refine qt_rd F (wt1 F rfl rfl rfl rfl rfl) (ld_agg rfl (F.ev rfl) agg23 (M.rdB (i := 4) rfl) rfl) rfl rfl ?_; clear F; intro φ F
      refine qt_rd F (wt1 F rfl rfl rfl rfl rfl) (ld_agg rfl (F.ev rfl) agg23 (M.rdB (i := 1) rfl) rfl) rfl rfl ?_; clear F; intro φ F
      refine qt_call F (wt1 F rfl rfl rfl rfl rfl) rfl en15 (evc (F.ev rfl) (evc (F.ev rfl) evn)) (fun w' h => calls_below h (le_any a (a.join b) w')) rfl rfl ?_; clear F; intro φ F
      refine qt_pure F (wt0 rfl) (pu_pickt rfl (F.ev rfl) (F.ev rfl)) rfl rfl ?_; clear F; intro φ F
      refine qt_pure F (wt0 rfl) (pu_move rfl (F.ev rfl)) rfl rfl ?_; clear F; intro φ F
      cases hs3 : (a.leB (a.join b))
      · rw [hs3] at F
        have hs3i := le_f hs3; (try dsimp only at hs3i)
        refine qt_skip F (wtn F rfl rfl rfl rfl rfl) rfl rfl ?_; clear F; intro φ F
        refine qt_skip F (wtn F rfl rfl rfl rfl rfl) rfl rfl ?_; clear F; intro φ F
        refine qt_skip F (wtn F rfl rfl rfl rfl rfl) rfl rfl ?_; clear F; intro φ F
        refine qt_pure F (wt0 rfl) (pu_pickf rfl (F.ev rfl) (evk)) rfl rfl ?_; clear F; intro φ F
        refine qt_pure F (wt0 rfl) (pu_move rfl (F.ev rfl)) rfl rfl ?_; clear F; intro φ F
        refine qt_skip F (wtn F rfl rfl rfl rfl rfl) rfl rfl ?_; clear F; intro φ F
        refine qt_skip F (wtn F rfl rfl rfl rfl rfl) rfl rfl ?_; clear F; intro φ F
        refine qt_skip F (wtn F rfl rfl rfl rfl rfl) rfl rfl ?_; clear F; intro φ F
        refine qt_pure F (wt0 rfl) (pu_pickf rfl (F.ev rfl) (evk)) rfl rfl ?_; clear F; intro φ F
        refine qt_pure F (wt0 rfl) (pu_move rfl (F.ev rfl)) rfl rfl ?_; clear F; intro φ F
        refine qt_skip F (wtn F rfl rfl rfl rfl rfl) rfl rfl ?_; clear F; intro φ F
        refine qt_skip F (wtn F rfl rfl rfl rfl rfl) rfl rfl ?_; clear F; intro φ F
        refine qt_skip F (wtn F rfl rfl rfl rfl rfl) rfl rfl ?_; clear F; intro φ F
        refine qt_pure F (wt0 rfl) (pu_pickf rfl (F.ev rfl) (evk)) rfl rfl ?_; clear F; intro φ F
        refine qt_pure F (wt0 rfl) (pu_move rfl (F.ev rfl)) rfl rfl ?_; clear F; intro φ F
        refine qt_skip F (wtn F rfl rfl rfl rfl rfl) rfl rfl ?_; clear F; intro φ F
        refine qt_skip F (wtn F rfl rfl rfl rfl rfl) rfl rfl ?_; clear F; intro φ F
        refine qt_skip F (wtn F rfl rfl rfl rfl rfl) rfl rfl ?_; clear F; intro φ F
        refine qt_skip F (wtn F rfl rfl rfl rfl rfl) rfl rfl ?_; clear F; intro φ F
        refine qt_skip F (wtn F rfl rfl rfl rfl rfl) rfl rfl ?_; clear F; intro φ F
        refine qt_pure F (wt0 rfl) (pu_pickf rfl (F.ev rfl) (evk)) rfl rfl ?_; clear F; intro φ F
        refine qt_pure F (wt0 rfl) (pu_move rfl (F.ev rfl)) rfl rfl ?_; clear F; intro φ F
        refine qt_skip F (wtn F rfl rfl rfl rfl rfl) rfl rfl ?_; clear F; intro φ F
        refine qt_skip F (wtn F rfl rfl rfl rfl rfl) rfl rfl ?_; clear F; intro φ F
        refine qt_skip F (wtn F rfl rfl rfl rfl rfl) rfl rfl ?_; clear F; intro φ F
        refine qt_skip F (wtn F rfl rfl rfl rfl rfl) rfl rfl ?_; clear F; intro φ F
        refine qt_skip F (wtn F rfl rfl rfl rfl rfl) rfl rfl ?_; clear F; intro φ F
        refine qt_pure F (wt0 rfl) (pu_pickf rfl (F.ev rfl) (evk)) rfl rfl ?_; clear F; intro φ F
        refine qt_pure F (wt0 rfl) (pu_move rfl (F.ev rfl)) rfl rfl ?_; clear F; intro φ F
        refine qt_skip F (wtn F rfl rfl rfl rfl rfl) rfl rfl ?_; clear F; intro φ F
        refine qt_skip F (wtn F rfl rfl rfl rfl rfl) rfl rfl ?_; clear F; intro φ F
        refine qt_skip F (wtn F rfl rfl rfl rfl rfl) rfl rfl ?_; clear F; intro φ F
        refine qt_skip F (wtn F rfl rfl rfl rfl rfl) rfl rfl ?_; clear F; intro φ F
        refine qt_skip F (wtn F rfl rfl rfl rfl rfl) rfl rfl ?_; clear F; intro φ F
        refine qt_pure F (wt0 rfl) (pu_pickf rfl (F.ev rfl) (evk)) rfl rfl ?_; clear F; intro φ F
        refine qt_pure F (wt0 rfl) (pu_assign rfl (F.ev rfl)) rfl rfl ?_; clear F; intro φ F
        refine wpQuiet_nil ?_
        clear M; intro ω M
        refine nxq ?_
        refine wp_ret ?_
        refine rt_tmp F rfl rfl ?_
        exfalso; clear F M; omega
      · rw [hs3] at F
        have hs3i := le_t hs3; (try dsimp only at hs3i)
        refine qt_rd F (wt1 F rfl rfl rfl rfl rfl) (ld_agg rfl (F.ev rfl) agg23 (M.rdB (i := 3) rfl) rfl) rfl rfl ?_; clear F; intro φ F
        refine qt_rd F (wt1 F rfl rfl rfl rfl rfl) (ld_agg rfl (F.ev rfl) agg23 (M.rdB (i := 1) rfl) rfl) rfl rfl ?_; clear F; intro φ F
        refine qt_call F (wt1 F rfl rfl rfl rfl rfl) rfl en15 (evc (F.ev rfl) (evc (F.ev rfl) evn)) (fun w' h => calls_below h (le_any b (a.join b) w')) rfl rfl ?_; clear F; intro φ F
        refine qt_pure F (wt0 rfl) (pu_pickt rfl (F.ev rfl) (F.ev rfl)) rfl rfl ?_; clear F; intro φ F
        refine qt_pure F (wt0 rfl) (pu_move rfl (F.ev rfl)) rfl rfl ?_; clear F; intro φ F
        cases hs4 : (b.leB (a.join b))
        · rw [hs4] at F
          have hs4i := le_f hs4; (try dsimp only at hs4i)
          refine qt_skip F (wtn F rfl rfl rfl rfl rfl) rfl rfl ?_; clear F; intro φ F
          refine qt_skip F (wtn F rfl rfl rfl rfl rfl) rfl rfl ?_; clear F; intro φ F
          refine qt_skip F (wtn F rfl rfl rfl rfl rfl) rfl rfl ?_; clear F; intro φ F
          refine qt_pure F (wt0 rfl) (pu_pickf rfl (F.ev rfl) (evk)) rfl rfl ?_; clear F; intro φ F
          refine qt_pure F (wt0 rfl) (pu_move rfl (F.ev rfl)) rfl rfl ?_; clear F; intro φ F
          refine qt_skip F (wtn F rfl rfl rfl rfl rfl) rfl rfl ?_; clear F; intro φ F
          refine qt_skip F (wtn F rfl rfl rfl rfl rfl) rfl rfl ?_; clear F; intro φ F
          refine qt_skip F (wtn F rfl rfl rfl rfl rfl) rfl rfl ?_; clear F; intro φ F
          refine qt_pure F (wt0 rfl) (pu_pickf rfl (F.ev rfl) (evk)) rfl rfl ?_; clear F; intro φ F
          refine qt_pure F (wt0 rfl) (pu_move rfl (F.ev rfl)) rfl rfl ?_; clear F; intro φ F
          refine qt_skip F (wtn F rfl rfl rfl rfl rfl) rfl rfl ?_; clear F; intro φ F
          refine qt_skip F (wtn F rfl rfl rfl rfl rfl) rfl rfl ?_; clear F; intro φ F
          refine qt_skip F (wtn F rfl rfl rfl rfl rfl) rfl rfl ?_; clear F; intro φ F
          refine qt_skip F (wtn F rfl rfl rfl rfl rfl) rfl rfl ?_; clear F; intro φ F
          refine qt_skip F (wtn F rfl rfl rfl rfl rfl) rfl rfl ?_; clear F; intro φ F
          refine qt_pure F (wt0 rfl) (pu_pickf rfl (F.ev rfl) (evk)) rfl rfl ?_; clear F; intro φ F
          refine qt_pure F (wt0 rfl) (pu_move rfl (F.ev rfl)) rfl rfl ?_; clear F; intro φ F
          refine qt_skip F (wtn F rfl rfl rfl rfl rfl) rfl rfl ?_; clear F; intro φ F
          refine qt_skip F (wtn F rfl rfl rfl rfl rfl) rfl rfl ?_; clear F; intro φ F
          refine qt_skip F (wtn F rfl rfl rfl rfl rfl) rfl rfl ?_; clear F; intro φ F
          refine qt_skip F (wtn F rfl rfl rfl rfl rfl) rfl rfl ?_; clear F; intro φ F
          refine qt_skip F (wtn F rfl rfl rfl rfl rfl) rfl rfl ?_; clear F; intro φ F
          refine qt_pure F (wt0 rfl) (pu_pickf rfl (F.ev rfl) (evk)) rfl rfl ?_; clear F; intro φ F
          refine qt_pure F (wt0 rfl) (pu_move rfl (F.ev rfl)) rfl rfl ?_; clear F; intro φ F
          refine qt_skip F (wtn F rfl rfl rfl rfl rfl) rfl rfl ?_; clear F; intro φ F
          refine qt_skip F (wtn F rfl rfl rfl rfl rfl) rfl rfl ?_; clear F; intro φ F
          refine qt_skip F (wtn F rfl rfl rfl rfl rfl) rfl rfl ?_; clear F; intro φ F
          refine qt_skip F (wtn F rfl rfl rfl rfl rfl) rfl rfl ?_; clear F; intro φ F
          refine qt_skip F (wtn F rfl rfl rfl rfl rfl) rfl rfl ?_; clear F; intro φ F
          refine qt_pure F (wt0 rfl) (pu_pickf rfl (F.ev rfl) (evk)) rfl rfl ?_; clear F; intro φ F
          refine qt_pure F (wt0 rfl) (pu_assign rfl (F.ev rfl)) rfl rfl ?_; clear F; intro φ F
          refine wpQuiet_nil ?_
          clear M; intro ω M
          refine nxq ?_
          refine wp_ret ?_
          refine rt_tmp F rfl rfl ?_
          exfalso; clear F M; omega
        · rw [hs4] at F
          have hs4i := le_t hs4; (try dsimp only at hs4i)
          refine qt_rd F (wt1 F rfl rfl rfl rfl rfl) (ld_agg rfl (F.ev rfl) agg23 (M.rdB (i := 0) rfl) rfl) rfl rfl ?_; clear F; intro φ F
          refine qt_rd F (wt1 F rfl rfl rfl rfl rfl) (ld_agg rfl (F.ev rfl) agg23 (M.rdB (i := 4) rfl) rfl) rfl rfl ?_; clear F; intro φ F
          refine qt_call F (wt1 F rfl rfl rfl rfl rfl) rfl en15 (evc (F.ev rfl) (evc (F.ev rfl) evn)) (fun w' h => calls_below h (le_any (a.meet b) a w')) rfl rfl ?_; clear F; intro φ F
          refine qt_pure F (wt0 rfl) (pu_pickt rfl (F.ev rfl) (F.ev rfl)) rfl rfl ?_; clear F; intro φ F
          refine qt_pure F (wt0 rfl) (pu_move rfl (F.ev rfl)) rfl rfl ?_; clear F; intro φ F
          cases hs5 : ((a.meet b).leB a)
          · rw [hs5] at F
            have hs5i := le_f hs5; (try dsimp only at hs5i)
            refine qt_skip F (wtn F rfl rfl rfl rfl rfl) rfl rfl ?_; clear F; intro φ F
            refine qt_skip F (wtn F rfl rfl rfl rfl rfl) rfl rfl ?_; clear F; intro φ F
            refine qt_skip F (wtn F rfl rfl rfl rfl rfl) rfl rfl ?_; clear F; intro φ F
            refine qt_pure F (wt0 rfl) (pu_pickf rfl (F.ev rfl) (evk)) rfl rfl ?_; clear F; intro φ F
            refine qt_pure F (wt0 rfl) (pu_move rfl (F.ev rfl)) rfl rfl ?_; clear F; intro φ F
            refine qt_skip F (wtn F rfl rfl rfl rfl rfl) rfl rfl ?_; clear F; intro φ F
            refine qt_skip F (wtn F rfl rfl rfl rfl rfl) rfl rfl ?_; clear F; intro φ F
            refine qt_skip F (wtn F rfl rfl rfl rfl rfl) rfl rfl ?_; clear F; intro φ F
            refine qt_skip F (wtn F rfl rfl rfl rfl rfl) rfl rfl ?_; clear F; intro φ F
            refine qt_skip F (wtn F rfl rfl rfl rfl rfl) rfl rfl ?_; clear F; intro φ F
            refine qt_pure F (wt0 rfl) (pu_pickf rfl (F.ev rfl) (evk)) rfl rfl ?_; clear F; intro φ F
            refine qt_pure F (wt0 rfl) (pu_move rfl (F.ev rfl)) rfl rfl ?_; clear F; intro φ F
            refine qt_skip F (wtn F rfl rfl rfl rfl rfl) rfl rfl ?_; clear F; intro φ F
            refine qt_skip F (wtn F rfl rfl rfl rfl rfl) rfl rfl ?_; clear F; intro φ F
            refine qt_skip F (wtn F rfl rfl rfl rfl rfl) rfl rfl ?_; clear F; intro φ F
            refine qt_skip F (wtn F rfl rfl rfl rfl rfl) rfl rfl ?_; clear F; intro φ F
            refine qt_skip F (wtn F rfl rfl rfl rfl rfl) rfl rfl ?_; clear F; intro φ F
            refine qt_pure F (wt0 rfl) (pu_pickf rfl (F.ev rfl) (evk)) rfl rfl ?_; clear F; intro φ F
            refine qt_pure F (wt0 rfl) (pu_move rfl (F.ev rfl)) rfl rfl ?_; clear F; intro φ F
            refine qt_skip F (wtn F rfl rfl rfl rfl rfl) rfl rfl ?_; clear F; intro φ F
            refine qt_skip F (wtn F rfl rfl rfl rfl rfl) rfl rfl ?_; clear F; intro φ F
            refine qt_skip F (wtn F rfl rfl rfl rfl rfl) rfl rfl ?_; clear F; intro φ F
            refine qt_skip F (wtn F rfl rfl rfl rfl rfl) rfl rfl ?_; clear F; intro φ F
            refine qt_skip F (wtn F rfl rfl rfl rfl rfl) rfl rfl ?_; clear F; intro φ F
            refine qt_pure F (wt0 rfl) (pu_pickf rfl (F.ev rfl) (evk)) rfl rfl ?_; clear F; intro φ F
            refine qt_pure F (wt0 rfl) (pu_assign rfl (F.ev rfl)) rfl rfl ?_; clear F; intro φ F
            refine wpQuiet_nil ?_
            clear M; intro ω M
            refine nxq ?_
            refine wp_ret ?_
            refine rt_tmp F rfl rfl ?_
            exfalso; clear F M; omega
          · rw [hs5] at F
            have hs5i := le_t hs5; (try dsimp only at hs5i)
            refine qt_rd F (wt1 F rfl rfl rfl rfl rfl) (ld_agg rfl (F.ev rfl) agg23 (M.rdB (i := 0) rfl) rfl) rfl rfl ?_; clear F; intro φ F
            refine qt_rd F (wt1 F rfl rfl rfl rfl rfl) (ld_agg rfl (F.ev rfl) agg23 (M.rdB (i := 3) rfl) rfl) rfl rfl ?_; clear F; intro φ F
            refine qt_call F (wt1 F rfl rfl rfl rfl rfl) rfl en15 (evc (F.ev rfl) (evc (F.ev rfl) evn)) (fun w' h => calls_below h (le_any (a.meet b) b w')) rfl rfl ?_; clear F; intro φ F
            refine qt_pure F (wt0 rfl) (pu_pickt rfl (F.ev rfl) (F.ev rfl)) rfl rfl ?_; clear F; intro φ F
            refine qt_pure F (wt0 rfl) (pu_move rfl (F.ev rfl)) rfl rfl ?_; clear F; intro φ F
            cases hs6 : ((a.meet b).leB b)
            · rw [hs6] at F
              have hs6i := le_f hs6; (try dsimp only at hs6i)
              refine qt_skip F (wtn F rfl rfl rfl rfl rfl) rfl rfl ?_; clear F; intro φ F
              refine qt_skip F (wtn F rfl rfl rfl rfl rfl) rfl rfl ?_; clear F; intro φ F
              refine qt_skip F (wtn F rfl rfl rfl rfl rfl) rfl rfl ?_; clear F; intro φ F
              refine qt_skip F (wtn F rfl rfl rfl rfl rfl) rfl rfl ?_; clear F; intro φ F
              refine qt_skip F (wtn F rfl rfl rfl rfl rfl) rfl rfl ?_; clear F; intro φ F
              refine qt_pure F (wt0 rfl) (pu_pickf rfl (F.ev rfl) (evk)) rfl rfl ?_; clear F; intro φ F
              refine qt_pure F (wt0 rfl) (pu_move rfl (F.ev rfl)) rfl rfl ?_; clear F; intro φ F
              refine qt_skip F (wtn F rfl rfl rfl rfl rfl) rfl rfl ?_; clear F; intro φ F
              refine qt_skip F (wtn F rfl rfl rfl rfl rfl) rfl rfl ?_; clear F; intro φ F
              refine qt_skip F (wtn F rfl rfl rfl rfl rfl) rfl rfl ?_; clear F; intro φ F
              refine qt_skip F (wtn F rfl rfl rfl rfl rfl) rfl rfl ?_; clear F; intro φ F
              refine qt_skip F (wtn F rfl rfl rfl rfl rfl) rfl rfl ?_; clear F; intro φ F
              refine qt_pure F (wt0 rfl) (pu_pickf rfl (F.ev rfl) (evk)) rfl rfl ?_; clear F; intro φ F
              refine qt_pure F (wt0 rfl) (pu_move rfl (F.ev rfl)) rfl rfl ?_; clear F; intro φ F
              refine qt_skip F (wtn F rfl rfl rfl rfl rfl) rfl rfl ?_; clear F; intro φ F
              refine qt_skip F (wtn F rfl rfl rfl rfl rfl) rfl rfl ?_; clear F; intro φ F
              refine qt_skip F (wtn F rfl rfl rfl rfl rfl) rfl rfl ?_; clear F; intro φ F
              refine qt_skip F (wtn F rfl rfl rfl rfl rfl) rfl rfl ?_; clear F; intro φ F
              refine qt_skip F (wtn F rfl rfl rfl rfl rfl) rfl rfl ?_; clear F; intro φ F
              refine qt_pure F (wt0 rfl) (pu_pickf rfl (F.ev rfl) (evk)) rfl rfl ?_; clear F; intro φ F
              refine qt_pure F (wt0 rfl) (pu_assign rfl (F.ev rfl)) rfl rfl ?_; clear F; intro φ F
              refine wpQuiet_nil ?_
              clear M; intro ω M
              refine nxq ?_
              refine wp_ret ?_
              refine rt_tmp F rfl rfl ?_
              exfalso; clear F M; omega
            · rw [hs6] at F
              have hs6i := le_t hs6; (try dsimp only at hs6i)
              refine qt_rd F (wt1 F rfl rfl rfl rfl rfl) (ld_agg rfl (F.ev rfl) agg23 (M.rdB (i := 1) rfl) rfl) rfl rfl ?_; clear F; intro φ F
              refine qt_rd F (wt1 F rfl rfl rfl rfl rfl) (ld_agg rfl (F.ev rfl) agg23 (M.rdB (i := 2) rfl) rfl) rfl rfl ?_; clear F; intro φ F
              refine qt_call F (wt1 F rfl rfl rfl rfl rfl) rfl en15 (evc (F.ev rfl) (evc (F.ev rfl) evn)) (fun w' h => calls_below h (le_any (a.join b) c w')) rfl rfl ?_; clear F; intro φ F
              refine qt_pure F (wt1 F rfl rfl rfl rfl rfl) (pu_move rfl (F.ev rfl)) rfl rfl ?_; clear F; intro φ F
              cases hs7 : ((a.join b).leB c)
              · rw [hs7] at F
                have hs7i := le_f hs7; (try dsimp only at hs7i)
                refine qt_pure F (wt1 F rfl rfl rfl rfl rfl) (pu_eqlB rfl (F.ev rfl) (F.ev rfl) Try.underlying4) rfl rfl ?_; clear F; intro φ F
                rw [show (false == false) = true from rfl] at F
                refine qt_pure F (wt0 rfl) (pu_pickt rfl (F.ev rfl) (F.ev rfl)) rfl rfl ?_; clear F; intro φ F
                refine qt_pure F (wt0 rfl) (pu_move rfl (F.ev rfl)) rfl rfl ?_; clear F; intro φ F
                refine qt_rd F (wt1 F rfl rfl rfl rfl rfl) (ld_agg rfl (F.ev rfl) agg23 (M.rdB (i := 2) rfl) rfl) rfl rfl ?_; clear F; intro φ F
                refine qt_rd F (wt1 F rfl rfl rfl rfl rfl) (ld_agg rfl (F.ev rfl) agg23 (M.rdB (i := 0) rfl) rfl) rfl rfl ?_; clear F; intro φ F
                refine qt_call F (wt1 F rfl rfl rfl rfl rfl) rfl en15 (evc (F.ev rfl) (evc (F.ev rfl) evn)) (fun w' h => calls_below h (le_any c (a.meet b) w')) rfl rfl ?_; clear F; intro φ F
                refine qt_pure F (wt1 F rfl rfl rfl rfl rfl) (pu_move rfl (F.ev rfl)) rfl rfl ?_; clear F; intro φ F
                cases hs8 : (c.leB (a.meet b))
                · rw [hs8] at F
                  have hs8i := le_f hs8; (try dsimp only at hs8i)
                  refine qt_pure F (wt1 F rfl rfl rfl rfl rfl) (pu_eqlB rfl (F.ev rfl) (F.ev rfl) Try.underlying4) rfl rfl ?_; clear F; intro φ F
                  rw [show (false == false) = true from rfl] at F
                  refine qt_pure F (wt0 rfl) (pu_pickt rfl (F.ev rfl) (F.ev rfl)) rfl rfl ?_; clear F; intro φ F
                  refine qt_pure F (wt0 rfl) (pu_move rfl (F.ev rfl)) rfl rfl ?_; clear F; intro φ F
                  refine qt_rd F (wt1 F rfl rfl rfl rfl rfl) (ld_agg rfl (F.ev rfl) agg23 (M.rdB (i := 3) rfl) rfl) rfl rfl ?_; clear F; intro φ F
                  refine qt_rd F (wt1 F rfl rfl rfl rfl rfl) (ld_agg rfl (F.ev rfl) agg23 (M.rdB (i := 4) rfl) rfl) rfl rfl ?_; clear F; intro φ F
                  refine qt_call F (wt1 F rfl rfl rfl rfl rfl) rfl en18 (evc (F.ev rfl) (evc (F.ev rfl) evn)) (fun w' h => calls_below h (join_any b a w')) rfl rfl ?_; clear F; intro φ F
                  refine qt_rd F (wt1 F rfl rfl rfl rfl rfl) (ld_agg rfl (F.ev rfl) agg23 (M.rdB (i := 1) rfl) rfl) rfl rfl ?_; clear F; intro φ F
                  refine qt_pure F (wt1 F rfl rfl rfl rfl rfl) (pu_eqlA rfl (F.ev rfl) (F.ev rfl) eqg23 (fun w => eqS23 (b.join a) (a.join b) w)) rfl rfl ?_; clear F; intro φ F
                  refine qt_pure F (wt0 rfl) (pu_pickt rfl (F.ev rfl) (F.ev rfl)) rfl rfl ?_; clear F; intro φ F
                  refine qt_pure F (wt0 rfl) (pu_assign rfl (F.ev rfl)) rfl rfl ?_; clear F; intro φ F
                  refine wpQuiet_nil ?_
                  clear M; intro ω M
                  refine nxq ?_
                  cases hs9 : (decide ((b.join a) = (a.join b)))
                  · rw [hs9] at F
                    have hs9i := eq_f hs9; (try dsimp only at hs9i)
                    refine wp_ret ?_
                    refine rt_tmp F rfl rfl ?_
                    exfalso; clear F M; omega
                  · rw [hs9] at F
                    have hs9i := eq_t hs9; (try dsimp only at hs9i)
                    refine wp_ret ?_
                    refine rt_tmp F rfl rfl ?_
                    exact ⟨rfl, M.bel⟩
                · rw [hs8] at F
                  have hs8i := le_t hs8; (try dsimp only at hs8i)
                  refine qt_pure F (wt1 F rfl rfl rfl rfl rfl) (pu_eqlB rfl (F.ev rfl) (F.ev rfl) Try.underlying4) rfl rfl ?_; clear F; intro φ F
                  rw [show (true == false) = false from rfl] at F
                  refine qt_pure F (wt0 rfl) (pu_pickt rfl (F.ev rfl) (F.ev rfl)) rfl rfl ?_; clear F; intro φ F
                  refine qt_pure F (wt0 rfl) (pu_move rfl (F.ev rfl)) rfl rfl ?_; clear F; intro φ F
                  refine qt_skip F (wtn F rfl rfl rfl rfl rfl) rfl rfl ?_; clear F; intro φ F
                  refine qt_skip F (wtn F rfl rfl rfl rfl rfl) rfl rfl ?_; clear F; intro φ F
                  refine qt_skip F (wtn F rfl rfl rfl rfl rfl) rfl rfl ?_; clear F; intro φ F
                  refine qt_skip F (wtn F rfl rfl rfl rfl rfl) rfl rfl ?_; clear F; intro φ F
                  refine qt_skip F (wtn F rfl rfl rfl rfl rfl) rfl rfl ?_; clear F; intro φ F
                  refine qt_pure F (wt0 rfl) (pu_pickf rfl (F.ev rfl) (evk)) rfl rfl ?_; clear F; intro φ F
                  refine qt_pure F (wt0 rfl) (pu_assign rfl (F.ev rfl)) rfl rfl ?_; clear F; intro φ F
                  refine wpQuiet_nil ?_
                  clear M; intro ω M
                  refine nxq ?_
                  refine wp_ret ?_
                  refine rt_tmp F rfl rfl ?_
                  exfalso; clear F M; omega
              · rw [hs7] at F
                have hs7i := le_t hs7; (try dsimp only at hs7i)
                refine qt_pure F (wt1 F rfl rfl rfl rfl rfl) (pu_eqlB rfl (F.ev rfl) (F.ev rfl) Try.underlying4) rfl rfl ?_; clear F; intro φ F
                rw [show (true == false) = false from rfl] at F
                refine qt_pure F (wt0 rfl) (pu_pickt rfl (F.ev rfl) (F.ev rfl)) rfl rfl ?_; clear F; intro φ F
                refine qt_pure F (wt0 rfl) (pu_move rfl (F.ev rfl)) rfl rfl ?_; clear F; intro φ F
                refine qt_skip F (wtn F rfl rfl rfl rfl rfl) rfl rfl ?_; clear F; intro φ F
                refine qt_skip F (wtn F rfl rfl rfl rfl rfl) rfl rfl ?_; clear F; intro φ F
                refine qt_skip F (wtn F rfl rfl rfl rfl rfl) rfl rfl ?_; clear F; intro φ F
                refine qt_skip F (wtn F rfl rfl rfl rfl rfl) rfl rfl ?_; clear F; intro φ F
                refine qt_skip F (wtn F rfl rfl rfl rfl rfl) rfl rfl ?_; clear F; intro φ F
                refine qt_pure F (wt0 rfl) (pu_pickf rfl (F.ev rfl) (evk)) rfl rfl ?_; clear F; intro φ F
                refine qt_pure F (wt0 rfl) (pu_move rfl (F.ev rfl)) rfl rfl ?_; clear F; intro φ F
                refine qt_skip F (wtn F rfl rfl rfl rfl rfl) rfl rfl ?_; clear F; intro φ F
                refine qt_skip F (wtn F rfl rfl rfl rfl rfl) rfl rfl ?_; clear F; intro φ F
                refine qt_skip F (wtn F rfl rfl rfl rfl rfl) rfl rfl ?_; clear F; intro φ F
                refine qt_skip F (wtn F rfl rfl rfl rfl rfl) rfl rfl ?_; clear F; intro φ F
                refine qt_skip F (wtn F rfl rfl rfl rfl rfl) rfl rfl ?_; clear F; intro φ F
                refine qt_pure F (wt0 rfl) (pu_pickf rfl (F.ev rfl) (evk)) rfl rfl ?_; clear F; intro φ F
                refine qt_pure F (wt0 rfl) (pu_assign rfl (F.ev rfl)) rfl rfl ?_; clear F; intro φ F
                refine wpQuiet_nil ?_
                clear M; intro ω M
                refine nxq ?_
                refine wp_ret ?_
                refine rt_tmp F rfl rfl ?_
                exfalso; clear F M; omega
    · rw [hs2] at F
      have hs2i := le_t hs2; (try dsimp only at hs2i)
      refine sq_rd F (wt1 F rfl rfl rfl rfl rfl) (ld_agg rfl (F.ev rfl) agg23 (M.rd (i := 2) rfl) rfl) rfl rfl ?_; clear F; intro φ F
      refine sq_rd F (wt1 F rfl rfl rfl rfl rfl) (ld_agg rfl (F.ev rfl) agg23 (M.rd (i := 3) rfl) rfl) rfl rfl ?_; clear F; intro φ F
      refine sq_call F M (wt1 F rfl rfl rfl rfl rfl) rfl en15 (evc (F.ev rfl) (evc (F.ev rfl) evn)) (le_any c b _) rfl rfl ?_; clear F M; intro φ ω F M
      refine sq_pure F (wt0 rfl) (pu_pickt rfl (F.ev rfl) (F.ev rfl)) rfl rfl ?_; clear F; intro φ F
      refine sq_pure F (wt0 rfl) (pu_assign rfl (F.ev rfl)) rfl rfl ?_; clear F; intro φ F
      refine nx ?_
      refine wp_seq ?_
      -- region 6
      refine rg_quiet M mixedOK (by kernel_rfl) ?_
      refine qt_pure F (wt0 rfl) (pu_move rfl (F.ev rfl)) rfl rfl ?_; clear F; intro φ F
      refine qt_pure F (wt0 rfl) (pu_move rfl (F.ev rfl)) rfl rfl ?_; clear F; intro φ F
      refine qt_rd F (wt1 F rfl rfl rfl rfl rfl) (ld_agg rfl (F.ev rfl) agg23 (M.rdB (i := 4) rfl) rfl) rfl rfl ?_; clear F; intro φ F
      refine qt_rd F (wt1 F rfl rfl rfl rfl rfl) (ld_agg rfl (F.ev rfl) agg23 (M.rdB (i := 1) rfl) rfl) rfl rfl ?_; clear F; intro φ F
      refine qt_call F (wt1 F rfl rfl rfl rfl rfl) rfl en15 (evc (F.ev rfl) (evc (F.ev rfl) evn)) (fun w' h => calls_below h (le_any a (a.join b) w')) rfl rfl ?_; clear F; intro φ F
      refine qt_pure F (wt0 rfl) (pu_pickt rfl (F.ev rfl) (F.ev rfl)) rfl rfl ?_; clear F; intro φ F
      refine qt_pure F (wt0 rfl) (pu_move rfl (F.ev rfl)) rfl rfl ?_; clear F; intro φ F
      cases hs10 : (a.leB (a.join b))
      · rw [hs10] at F
        have hs10i := le_f hs10; (try dsimp only at hs10i)
        refine qt_skip F (wtn F rfl rfl rfl rfl rfl) rfl rfl ?_; clear F; intro φ F
        refine qt_skip F (wtn F rfl rfl rfl rfl rfl) rfl rfl ?_; clear F; intro φ F
        refine qt_skip F (wtn F rfl rfl rfl rfl rfl) rfl rfl ?_; clear F; intro φ F
        refine qt_pure F (wt0 rfl) (pu_pickf rfl (F.ev rfl) (evk)) rfl rfl ?_; clear F; intro φ F
        refine qt_pure F (wt0 rfl) (pu_move rfl (F.ev rfl)) rfl rfl ?_; clear F; intro φ F
        refine qt_skip F (wtn F rfl rfl rfl rfl rfl) rfl rfl ?_; clear F; intro φ F
        refine qt_skip F (wtn F rfl rfl rfl rfl rfl) rfl rfl ?_; clear F; intro φ F
        refine qt_skip F (wtn F rfl rfl rfl rfl rfl) rfl rfl ?_; clear F; intro φ F
        refine qt_pure F (wt0 rfl) (pu_pickf rfl (F.ev rfl) (evk)) rfl rfl ?_; clear F; intro φ F
        refine qt_pure F (wt0 rfl) (pu_move rfl (F.ev rfl)) rfl rfl ?_; clear F; intro φ F
        refine qt_skip F (wtn F rfl rfl rfl rfl rfl) rfl rfl ?_; clear F; intro φ F
        refine qt_skip F (wtn F rfl rfl rfl rfl rfl) rfl rfl ?_; clear F; intro φ F
        refine qt_skip F (wtn F rfl rfl rfl rfl rfl) rfl rfl ?_; clear F; intro φ F
        refine qt_pure F (wt0 rfl) (pu_pickf rfl (F.ev rfl) (evk)) rfl rfl ?_; clear F; intro φ F
        refine qt_pure F (wt0 rfl) (pu_move rfl (F.ev rfl)) rfl rfl ?_; clear F; intro φ F
        refine qt_skip F (wtn F rfl rfl rfl rfl rfl) rfl rfl ?_; clear F; intro φ F
        refine qt_skip F (wtn F rfl rfl rfl rfl rfl) rfl rfl ?_; clear F; intro φ F
        refine qt_skip F (wtn F rfl rfl rfl rfl rfl) rfl rfl ?_; clear F; intro φ F
        refine qt_skip F (wtn F rfl rfl rfl rfl rfl) rfl rfl ?_; clear F; intro φ F
        refine qt_skip F (wtn F rfl rfl rfl rfl rfl) rfl rfl ?_; clear F; intro φ F
        refine qt_pure F (wt0 rfl) (pu_pickf rfl (F.ev rfl) (evk)) rfl rfl ?_; clear F; intro φ F
        refine qt_pure F (wt0 rfl) (pu_move rfl (F.ev rfl)) rfl rfl ?_; clear F; intro φ F
        refine qt_skip F (wtn F rfl rfl rfl rfl rfl) rfl rfl ?_; clear F; intro φ F
        refine qt_skip F (wtn F rfl rfl rfl rfl rfl) rfl rfl ?_; clear F; intro φ F
        refine qt_skip F (wtn F rfl rfl rfl rfl rfl) rfl rfl ?_; clear F; intro φ F
        refine qt_skip F (wtn F rfl rfl rfl rfl rfl) rfl rfl ?_; clear F; intro φ F
        refine qt_skip F (wtn F rfl rfl rfl rfl rfl) rfl rfl ?_; clear F; intro φ F
        refine qt_pure F (wt0 rfl) (pu_pickf rfl (F.ev rfl) (evk)) rfl rfl ?_; clear F; intro φ F
        refine qt_pure F (wt0 rfl) (pu_move rfl (F.ev rfl)) rfl rfl ?_; clear F; intro φ F
        refine qt_skip F (wtn F rfl rfl rfl rfl rfl) rfl rfl ?_; clear F; intro φ F
        refine qt_skip F (wtn F rfl rfl rfl rfl rfl) rfl rfl ?_; clear F; intro φ F
        refine qt_skip F (wtn F rfl rfl rfl rfl rfl) rfl rfl ?_; clear F; intro φ F
        refine qt_skip F (wtn F rfl rfl rfl rfl rfl) rfl rfl ?_; clear F; intro φ F
        refine qt_skip F (wtn F rfl rfl rfl rfl rfl) rfl rfl ?_; clear F; intro φ F
        refine qt_pure F (wt0 rfl) (pu_pickf rfl (F.ev rfl) (evk)) rfl rfl ?_; clear F; intro φ F
        refine qt_pure F (wt0 rfl) (pu_assign rfl (F.ev rfl)) rfl rfl ?_; clear F; intro φ F
        refine wpQuiet_nil ?_
        clear M; intro ω M
        refine nxq ?_
        refine wp_ret ?_
        refine rt_tmp F rfl rfl ?_
        exfalso; clear F M; omega
      · rw [hs10] at F
        have hs10i := le_t hs10; (try dsimp only at hs10i)
        refine qt_rd F (wt1 F rfl rfl rfl rfl rfl) (ld_agg rfl (F.ev rfl) agg23 (M.rdB (i := 3) rfl) rfl) rfl rfl ?_; clear F; intro φ F
        refine qt_rd F (wt1 F rfl rfl rfl rfl rfl) (ld_agg rfl (F.ev rfl) agg23 (M.rdB (i := 1) rfl) rfl) rfl rfl ?_; clear F; intro φ F
        refine qt_call F (wt1 F rfl rfl rfl rfl rfl) rfl en15 (evc (F.ev rfl) (evc (F.ev rfl) evn)) (fun w' h => calls_below h (le_any b (a.join b) w')) rfl rfl ?_; clear F; intro φ F
        refine qt_pure F (wt0 rfl) (pu_pickt rfl (F.ev rfl) (F.ev rfl)) rfl rfl ?_; clear F; intro φ F
        refine qt_pure F (wt0 rfl) (pu_move rfl (F.ev rfl)) rfl rfl ?_; clear F; intro φ F
        cases hs11 : (b.leB (a.join b))
        · rw [hs11] at F
          have hs11i := le_f hs11; (try dsimp only at hs11i)
          refine qt_skip F (wtn F rfl rfl rfl rfl rfl) rfl rfl ?_; clear F; intro φ F
          refine qt_skip F (wtn F rfl rfl rfl rfl rfl) rfl rfl ?_; clear F; intro φ F
          refine qt_skip F (wtn F rfl rfl rfl rfl rfl) rfl rfl ?_; clear F; intro φ F
          refine qt_pure F (wt0 rfl) (pu_pickf rfl (F.ev rfl) (evk)) rfl rfl ?_; clear F; intro φ F
          refine qt_pure F (wt0 rfl) (pu_move rfl (F.ev rfl)) rfl rfl ?_; clear F; intro φ F
          refine qt_skip F (wtn F rfl rfl rfl rfl rfl) rfl rfl ?_; clear F; intro φ F
          refine qt_skip F (wtn F rfl rfl rfl rfl rfl) rfl rfl ?_; clear F; intro φ F
          refine qt_skip F (wtn F rfl rfl rfl rfl rfl) rfl rfl ?_; clear F; intro φ F
          refine qt_pure F (wt0 rfl) (pu_pickf rfl (F.ev rfl) (evk)) rfl rfl ?_; clear F; intro φ F
          refine qt_pure F (wt0 rfl) (pu_move rfl (F.ev rfl)) rfl rfl ?_; clear F; intro φ F
          refine qt_skip F (wtn F rfl rfl rfl rfl rfl) rfl rfl ?_; clear F; intro φ F
          refine qt_skip F (wtn F rfl rfl rfl rfl rfl) rfl rfl ?_; clear F; intro φ F
          refine qt_skip F (wtn F rfl rfl rfl rfl rfl) rfl rfl ?_; clear F; intro φ F
          refine qt_skip F (wtn F rfl rfl rfl rfl rfl) rfl rfl ?_; clear F; intro φ F
          refine qt_skip F (wtn F rfl rfl rfl rfl rfl) rfl rfl ?_; clear F; intro φ F
          refine qt_pure F (wt0 rfl) (pu_pickf rfl (F.ev rfl) (evk)) rfl rfl ?_; clear F; intro φ F
          refine qt_pure F (wt0 rfl) (pu_move rfl (F.ev rfl)) rfl rfl ?_; clear F; intro φ F
          refine qt_skip F (wtn F rfl rfl rfl rfl rfl) rfl rfl ?_; clear F; intro φ F
          refine qt_skip F (wtn F rfl rfl rfl rfl rfl) rfl rfl ?_; clear F; intro φ F
          refine qt_skip F (wtn F rfl rfl rfl rfl rfl) rfl rfl ?_; clear F; intro φ F
          refine qt_skip F (wtn F rfl rfl rfl rfl rfl) rfl rfl ?_; clear F; intro φ F
          refine qt_skip F (wtn F rfl rfl rfl rfl rfl) rfl rfl ?_; clear F; intro φ F
          refine qt_pure F (wt0 rfl) (pu_pickf rfl (F.ev rfl) (evk)) rfl rfl ?_; clear F; intro φ F
          refine qt_pure F (wt0 rfl) (pu_move rfl (F.ev rfl)) rfl rfl ?_; clear F; intro φ F
          refine qt_skip F (wtn F rfl rfl rfl rfl rfl) rfl rfl ?_; clear F; intro φ F
          refine qt_skip F (wtn F rfl rfl rfl rfl rfl) rfl rfl ?_; clear F; intro φ F
          refine qt_skip F (wtn F rfl rfl rfl rfl rfl) rfl rfl ?_; clear F; intro φ F
          refine qt_skip F (wtn F rfl rfl rfl rfl rfl) rfl rfl ?_; clear F; intro φ F
          refine qt_skip F (wtn F rfl rfl rfl rfl rfl) rfl rfl ?_; clear F; intro φ F
          refine qt_pure F (wt0 rfl) (pu_pickf rfl (F.ev rfl) (evk)) rfl rfl ?_; clear F; intro φ F
          refine qt_pure F (wt0 rfl) (pu_assign rfl (F.ev rfl)) rfl rfl ?_; clear F; intro φ F
          refine wpQuiet_nil ?_
          clear M; intro ω M
          refine nxq ?_
          refine wp_ret ?_
          refine rt_tmp F rfl rfl ?_
          exfalso; clear F M; omega
        · rw [hs11] at F
          have hs11i := le_t hs11; (try dsimp only at hs11i)
          refine qt_rd F (wt1 F rfl rfl rfl rfl rfl) (ld_agg rfl (F.ev rfl) agg23 (M.rdB (i := 0) rfl) rfl) rfl rfl ?_; clear F; intro φ F
          refine qt_rd F (wt1 F rfl rfl rfl rfl rfl) (ld_agg rfl (F.ev rfl) agg23 (M.rdB (i := 4) rfl) rfl) rfl rfl ?_; clear F; intro φ F
          refine qt_call F (wt1 F rfl rfl rfl rfl rfl) rfl en15 (evc (F.ev rfl) (evc (F.ev rfl) evn)) (fun w' h => calls_below h (le_any (a.meet b) a w')) rfl rfl ?_; clear F; intro φ F
          refine qt_pure F (wt0 rfl) (pu_pickt rfl (F.ev rfl) (F.ev rfl)) rfl rfl ?_; clear F; intro φ F
          refine qt_pure F (wt0 rfl) (pu_move rfl (F.ev rfl)) rfl rfl ?_; clear F; intro φ F
          cases hs12 : ((a.meet b).leB a)
          · rw [hs12] at F
            have hs12i := le_f hs12; (try dsimp only at hs12i)
            refine qt_skip F (wtn F rfl rfl rfl rfl rfl) rfl rfl ?_; clear F; intro φ F
            refine qt_skip F (wtn F rfl rfl rfl rfl rfl) rfl rfl ?_; clear F; intro φ F
            refine qt_skip F (wtn F rfl rfl rfl rfl rfl) rfl rfl ?_; clear F; intro φ F
            refine qt_pure F (wt0 rfl) (pu_pickf rfl (F.ev rfl) (evk)) rfl rfl ?_; clear F; intro φ F
            refine qt_pure F (wt0 rfl) (pu_move rfl (F.ev rfl)) rfl rfl ?_; clear F; intro φ F
            refine qt_skip F (wtn F rfl rfl rfl rfl rfl) rfl rfl ?_; clear F; intro φ F
            refine qt_skip F (wtn F rfl rfl rfl rfl rfl) rfl rfl ?_; clear F; intro φ F
            refine qt_skip F (wtn F rfl rfl rfl rfl rfl) rfl rfl ?_; clear F; intro φ F
            refine qt_skip F (wtn F rfl rfl rfl rfl rfl) rfl rfl ?_; clear F; intro φ F
            refine qt_skip F (wtn F rfl rfl rfl rfl rfl) rfl rfl ?_; clear F; intro φ F
            refine qt_pure F (wt0 rfl) (pu_pickf rfl (F.ev rfl) (evk)) rfl rfl ?_; clear F; intro φ F
            refine qt_pure F (wt0 rfl) (pu_move rfl (F.ev rfl)) rfl rfl ?_; clear F; intro φ F
            refine qt_skip F (wtn F rfl rfl rfl rfl rfl) rfl rfl ?_; clear F; intro φ F
            refine qt_skip F (wtn F rfl rfl rfl rfl rfl) rfl rfl ?_; clear F; intro φ F
            refine qt_skip F (wtn F rfl rfl rfl rfl rfl) rfl rfl ?_; clear F; intro φ F
            refine qt_skip F (wtn F rfl rfl rfl rfl rfl) rfl rfl ?_; clear F; intro φ F
            refine qt_skip F (wtn F rfl rfl rfl rfl rfl) rfl rfl ?_; clear F; intro φ F
            refine qt_pure F (wt0 rfl) (pu_pickf rfl (F.ev rfl) (evk)) rfl rfl ?_; clear F; intro φ F
            refine qt_pure F (wt0 rfl) (pu_move rfl (F.ev rfl)) rfl rfl ?_; clear F; intro φ F
            refine qt_skip F (wtn F rfl rfl rfl rfl rfl) rfl rfl ?_; clear F; intro φ F
            refine qt_skip F (wtn F rfl rfl rfl rfl rfl) rfl rfl ?_; clear F; intro φ F
            refine qt_skip F (wtn F rfl rfl rfl rfl rfl) rfl rfl ?_; clear F; intro φ F
            refine qt_skip F (wtn F rfl rfl rfl rfl rfl) rfl rfl ?_; clear F; intro φ F
            refine qt_skip F (wtn F rfl rfl rfl rfl rfl) rfl rfl ?_; clear F; intro φ F
            refine qt_pure F (wt0 rfl) (pu_pickf rfl (F.ev rfl) (evk)) rfl rfl ?_; clear F; intro φ F
            refine qt_pure F (wt0 rfl) (pu_assign rfl (F.ev rfl)) rfl rfl ?_; clear F; intro φ F
            refine wpQuiet_nil ?_
            clear M; intro ω M
            refine nxq ?_
            refine wp_ret ?_
            refine rt_tmp F rfl rfl ?_
            exfalso; clear F M; omega
          · rw [hs12] at F
            have hs12i := le_t hs12; (try dsimp only at hs12i)
            refine qt_rd F (wt1 F rfl rfl rfl rfl rfl) (ld_agg rfl (F.ev rfl) agg23 (M.rdB (i := 0) rfl) rfl) rfl rfl ?_; clear F; intro φ F
            refine qt_rd F (wt1 F rfl rfl rfl rfl rfl) (ld_agg rfl (F.ev rfl) agg23 (M.rdB (i := 3) rfl) rfl) rfl rfl ?_; clear F; intro φ F
            refine qt_call F (wt1 F rfl rfl rfl rfl rfl) rfl en15 (evc (F.ev rfl) (evc (F.ev rfl) evn)) (fun w' h => calls_below h (le_any (a.meet b) b w')) rfl rfl ?_; clear F; intro φ F
            refine qt_pure F (wt0 rfl) (pu_pickt rfl (F.ev rfl) (F.ev rfl)) rfl rfl ?_; clear F; intro φ F
            refine qt_pure F (wt0 rfl) (pu_move rfl (F.ev rfl)) rfl rfl ?_; clear F; intro φ F
            cases hs13 : ((a.meet b).leB b)
            · rw [hs13] at F
              have hs13i := le_f hs13; (try dsimp only at hs13i)
              refine qt_skip F (wtn F rfl rfl rfl rfl rfl) rfl rfl ?_; clear F; intro φ F
              refine qt_skip F (wtn F rfl rfl rfl rfl rfl) rfl rfl ?_; clear F; intro φ F
              refine qt_skip F (wtn F rfl rfl rfl rfl rfl) rfl rfl ?_; clear F; intro φ F
              refine qt_skip F (wtn F rfl rfl rfl rfl rfl) rfl rfl ?_; clear F; intro φ F
              refine qt_skip F (wtn F rfl rfl rfl rfl rfl) rfl rfl ?_; clear F; intro φ F
              refine qt_pure F (wt0 rfl) (pu_pickf rfl (F.ev rfl) (evk)) rfl rfl ?_; clear F; intro φ F
              refine qt_pure F (wt0 rfl) (pu_move rfl (F.ev rfl)) rfl rfl ?_; clear F; intro φ F
              refine qt_skip F (wtn F rfl rfl rfl rfl rfl) rfl rfl ?_; clear F; intro φ F
              refine qt_skip F (wtn F rfl rfl rfl rfl rfl) rfl rfl ?_; clear F; intro φ F
              refine qt_skip F (wtn F rfl rfl rfl rfl rfl) rfl rfl ?_; clear F; intro φ F
              refine qt_skip F (wtn F rfl rfl rfl rfl rfl) rfl rfl ?_; clear F; intro φ F
              refine qt_skip F (wtn F rfl rfl rfl rfl rfl) rfl rfl ?_; clear F; intro φ F
              refine qt_pure F (wt0 rfl) (pu_pickf rfl (F.ev rfl) (evk)) rfl rfl ?_; clear F; intro φ F
              refine qt_pure F (wt0 rfl) (pu_move rfl (F.ev rfl)) rfl rfl ?_; clear F; intro φ F
              refine qt_skip F (wtn F rfl rfl rfl rfl rfl) rfl rfl ?_; clear F; intro φ F
              refine qt_skip F (wtn F rfl rfl rfl rfl rfl) rfl rfl ?_; clear F; intro φ F
              refine qt_skip F (wtn F rfl rfl rfl rfl rfl) rfl rfl ?_; clear F; intro φ F
              refine qt_skip F (wtn F rfl rfl rfl rfl rfl) rfl rfl ?_; clear F; intro φ F
              refine qt_skip F (wtn F rfl rfl rfl rfl rfl) rfl rfl ?_; clear F; intro φ F
              refine qt_pure F (wt0 rfl) (pu_pickf rfl (F.ev rfl) (evk)) rfl rfl ?_; clear F; intro φ F
              refine qt_pure F (wt0 rfl) (pu_assign rfl (F.ev rfl)) rfl rfl ?_; clear F; intro φ F
              refine wpQuiet_nil ?_
              clear M; intro ω M
              refine nxq ?_
              refine wp_ret ?_
              refine rt_tmp F rfl rfl ?_
              exfalso; clear F M; omega
            · rw [hs13] at F
              have hs13i := le_t hs13; (try dsimp only at hs13i)
              refine qt_rd F (wt1 F rfl rfl rfl rfl rfl) (ld_agg rfl (F.ev rfl) agg23 (M.rdB (i := 1) rfl) rfl) rfl rfl ?_; clear F; intro φ F
              refine qt_rd F (wt1 F rfl rfl rfl rfl rfl) (ld_agg rfl (F.ev rfl) agg23 (M.rdB (i := 2) rfl) rfl) rfl rfl ?_; clear F; intro φ F
              refine qt_call F (wt1 F rfl rfl rfl rfl rfl) rfl en15 (evc (F.ev rfl) (evc (F.ev rfl) evn)) (fun w' h => calls_below h (le_any (a.join b) c w')) rfl rfl ?_; clear F; intro φ F
              refine qt_pure F (wt1 F rfl rfl rfl rfl rfl) (pu_move rfl (F.ev rfl)) rfl rfl ?_; clear F; intro φ F
              cases hs14 : ((a.join b).leB c)
              · rw [hs14] at F
                have hs14i := le_f hs14; (try dsimp only at hs14i)
                refine qt_pure F (wt1 F rfl rfl rfl rfl rfl) (pu_eqlB rfl (F.ev rfl) (F.ev rfl) Try.underlying4) rfl rfl ?_; clear F; intro φ F
                rw [show (false == false) = true from rfl] at F
                refine qt_pure F (wt0 rfl) (pu_pickt rfl (F.ev rfl) (F.ev rfl)) rfl rfl ?_; clear F; intro φ F
                refine qt_pure F (wt0 rfl) (pu_move rfl (F.ev rfl)) rfl rfl ?_; clear F; intro φ F
                refine qt_rd F (wt1 F rfl rfl rfl rfl rfl) (ld_agg rfl (F.ev rfl) agg23 (M.rdB (i := 2) rfl) rfl) rfl rfl ?_; clear F; intro φ F
                refine qt_rd F (wt1 F rfl rfl rfl rfl rfl) (ld_agg rfl (F.ev rfl) agg23 (M.rdB (i := 0) rfl) rfl) rfl rfl ?_; clear F; intro φ F
                refine qt_call F (wt1 F rfl rfl rfl rfl rfl) rfl en15 (evc (F.ev rfl) (evc (F.ev rfl) evn)) (fun w' h => calls_below h (le_any c (a.meet b) w')) rfl rfl ?_; clear F; intro φ F
                refine qt_pure F (wt1 F rfl rfl rfl rfl rfl) (pu_move rfl (F.ev rfl)) rfl rfl ?_; clear F; intro φ F
                cases hs15 : (c.leB (a.meet b))
                · rw [hs15] at F
                  have hs15i := le_f hs15; (try dsimp only at hs15i)
                  cases hs16 : (c.leB b)
                  · rw [hs16] at F
                    have hs16i := le_f hs16; (try dsimp only at hs16i)
                    refine qt_pure F (wt1 F rfl rfl rfl rfl rfl) (pu_eqlB rfl (F.ev rfl) (F.ev rfl) Try.underlying4) rfl rfl ?_; clear F; intro φ F
                    rw [show (false == false) = true from rfl] at F
                    refine qt_pure F (wt0 rfl) (pu_pickt rfl (F.ev rfl) (F.ev rfl)) rfl rfl ?_; clear F; intro φ F
                    refine qt_pure F (wt0 rfl) (pu_move rfl (F.ev rfl)) rfl rfl ?_; clear F; intro φ F
                    refine qt_rd F (wt1 F rfl rfl rfl rfl rfl) (ld_agg rfl (F.ev rfl) agg23 (M.rdB (i := 3) rfl) rfl) rfl rfl ?_; clear F; intro φ F
                    refine qt_rd F (wt1 F rfl rfl rfl rfl rfl) (ld_agg rfl (F.ev rfl) agg23 (M.rdB (i := 4) rfl) rfl) rfl rfl ?_; clear F; intro φ F
                    refine qt_call F (wt1 F rfl rfl rfl rfl rfl) rfl en18 (evc (F.ev rfl) (evc (F.ev rfl) evn)) (fun w' h => calls_below h (join_any b a w')) rfl rfl ?_; clear F; intro φ F
                    refine qt_rd F (wt1 F rfl rfl rfl rfl rfl) (ld_agg rfl (F.ev rfl) agg23 (M.rdB (i := 1) rfl) rfl) rfl rfl ?_; clear F; intro φ F
                    refine qt_pure F (wt1 F rfl rfl rfl rfl rfl) (pu_eqlA rfl (F.ev rfl) (F.ev rfl) eqg23 (fun w => eqS23 (b.join a) (a.join b) w)) rfl rfl ?_; clear F; intro φ F
                    refine qt_pure F (wt0 rfl) (pu_pickt rfl (F.ev rfl) (F.ev rfl)) rfl rfl ?_; clear F; intro φ F
                    refine qt_pure F (wt0 rfl) (pu_assign rfl (F.ev rfl)) rfl rfl ?_; clear F; intro φ F
                    refine wpQuiet_nil ?_
                    clear M; intro ω M
                    refine nxq ?_
                    cases hs17 : (decide ((b.join a) = (a.join b)))
                    · rw [hs17] at F
                      have hs17i := eq_f hs17; (try dsimp only at hs17i)
                      refine wp_ret ?_
                      refine rt_tmp F rfl rfl ?_
                      exfalso; clear F M; omega
                    · rw [hs17] at F
                      have hs17i := eq_t hs17; (try dsimp only at hs17i)
                      refine wp_ret ?_
                      refine rt_tmp F rfl rfl ?_
                      exact ⟨rfl, M.bel⟩
                  · rw [hs16] at F
                    have hs16i := le_t hs16; (try dsimp only at hs16i)
                    refine qt_pure F (wt1 F rfl rfl rfl rfl rfl) (pu_eqlB rfl (F.ev rfl) (F.ev rfl) Try.underlying4) rfl rfl ?_; clear F; intro φ F
                    rw [show (false == true) = false from rfl] at F
                    refine qt_pure F (wt0 rfl) (pu_pickt rfl (F.ev rfl) (F.ev rfl)) rfl rfl ?_; clear F; intro φ F
                    refine qt_pure F (wt0 rfl) (pu_move rfl (F.ev rfl)) rfl rfl ?_; clear F; intro φ F
                    refine qt_skip F (wtn F rfl rfl rfl rfl rfl) rfl rfl ?_; clear F; intro φ F
                    refine qt_skip F (wtn F rfl rfl rfl rfl rfl) rfl rfl ?_; clear F; intro φ F
                    refine qt_skip F (wtn F rfl rfl rfl rfl rfl) rfl rfl ?_; clear F; intro φ F
                    refine qt_skip F (wtn F rfl rfl rfl rfl rfl) rfl rfl ?_; clear F; intro φ F
                    refine qt_skip F (wtn F rfl rfl rfl rfl rfl) rfl rfl ?_; clear F; intro φ F
                    refine qt_pure F (wt0 rfl) (pu_pickf rfl (F.ev rfl) (evk)) rfl rfl ?_; clear F; intro φ F
                    refine qt_pure F (wt0 rfl) (pu_assign rfl (F.ev rfl)) rfl rfl ?_; clear F; intro φ F
                    refine wpQuiet_nil ?_
                    clear M; intro ω M
                    refine nxq ?_
                    refine wp_ret ?_
                    refine rt_tmp F rfl rfl ?_
                    exfalso; clear F M; omega
                · rw [hs15] at F
                  have hs15i := le_t hs15; (try dsimp only at hs15i)
                  cases hs18 : (c.leB b)
                  · rw [hs18] at F
                    have hs18i := le_f hs18; (try dsimp only at hs18i)
                    refine qt_pure F (wt1 F rfl rfl rfl rfl rfl) (pu_eqlB rfl (F.ev rfl) (F.ev rfl) Try.underlying4) rfl rfl ?_; clear F; intro φ F
                    rw [show (true == false) = false from rfl] at F
                    refine qt_pure F (wt0 rfl) (pu_pickt rfl (F.ev rfl) (F.ev rfl)) rfl rfl ?_; clear F; intro φ F
                    refine qt_pure F (wt0 rfl) (pu_move rfl (F.ev rfl)) rfl rfl ?_; clear F; intro φ F
                    refine qt_skip F (wtn F rfl rfl rfl rfl rfl) rfl rfl ?_; clear F; intro φ F
                    refine qt_skip F (wtn F rfl rfl rfl rfl rfl) rfl rfl ?_; clear F; intro φ F
                    refine qt_skip F (wtn F rfl rfl rfl rfl rfl) rfl rfl ?_; clear F; intro φ F
                    refine qt_skip F (wtn F rfl rfl rfl rfl rfl) rfl rfl ?_; clear F; intro φ F
                    refine qt_skip F (wtn F rfl rfl rfl rfl rfl) rfl rfl ?_; clear F; intro φ F
                    refine qt_pure F (wt0 rfl) (pu_pickf rfl (F.ev rfl) (evk)) rfl rfl ?_; clear F; intro φ F
                    refine qt_pure F (wt0 rfl) (pu_assign rfl (F.ev rfl)) rfl rfl ?_; clear F; intro φ F
                    refine wpQuiet_nil ?_
                    clear M; intro ω M
                    refine nxq ?_
                    refine wp_ret ?_
                    refine rt_tmp F rfl rfl ?_
                    exfalso; clear F M; omega
                  · rw [hs18] at F
                    have hs18i := le_t hs18; (try dsimp only at hs18i)
                    refine qt_pure F (wt1 F rfl rfl rfl rfl rfl) (pu_eqlB rfl (F.ev rfl) (F.ev rfl) Try.underlying4) rfl rfl ?_; clear F; intro φ F
                    rw [show (true == true) = true from rfl] at F
                    refine qt_pure F (wt0 rfl) (pu_pickt rfl (F.ev rfl) (F.ev rfl)) rfl rfl ?_; clear F; intro φ F
                    refine qt_pure F (wt0 rfl) (pu_move rfl (F.ev rfl)) rfl rfl ?_; clear F; intro φ F
                    refine qt_rd F (wt1 F rfl rfl rfl rfl rfl) (ld_agg rfl (F.ev rfl) agg23 (M.rdB (i := 3) rfl) rfl) rfl rfl ?_; clear F; intro φ F
                    refine qt_rd F (wt1 F rfl rfl rfl rfl rfl) (ld_agg rfl (F.ev rfl) agg23 (M.rdB (i := 4) rfl) rfl) rfl rfl ?_; clear F; intro φ F
                    refine qt_call F (wt1 F rfl rfl rfl rfl rfl) rfl en18 (evc (F.ev rfl) (evc (F.ev rfl) evn)) (fun w' h => calls_below h (join_any b a w')) rfl rfl ?_; clear F; intro φ F
                    refine qt_rd F (wt1 F rfl rfl rfl rfl rfl) (ld_agg rfl (F.ev rfl) agg23 (M.rdB (i := 1) rfl) rfl) rfl rfl ?_; clear F; intro φ F
                    refine qt_pure F (wt1 F rfl rfl rfl rfl rfl) (pu_eqlA rfl (F.ev rfl) (F.ev rfl) eqg23 (fun w => eqS23 (b.join a) (a.join b) w)) rfl rfl ?_; clear F; intro φ F
                    refine qt_pure F (wt0 rfl) (pu_pickt rfl (F.ev rfl) (F.ev rfl)) rfl rfl ?_; clear F; intro φ F
                    refine qt_pure F (wt0 rfl) (pu_assign rfl (F.ev rfl)) rfl rfl ?_; clear F; intro φ F
                    refine wpQuiet_nil ?_
                    clear M; intro ω M
                    refine nxq ?_
                    cases hs19 : (decide ((b.join a) = (a.join b)))
                    · rw [hs19] at F
                      have hs19i := eq_f hs19; (try dsimp only at hs19i)
                      refine wp_ret ?_
                      refine rt_tmp F rfl rfl ?_
                      exfalso; clear F M; omega
                    · rw [hs19] at F
                      have hs19i := eq_t hs19; (try dsimp only at hs19i)
                      refine wp_ret ?_
                      refine rt_tmp F rfl rfl ?_
                      exact ⟨rfl, M.bel⟩
              · rw [hs14] at F
                have hs14i := le_t hs14; (try dsimp only at hs14i)
                refine qt_pure F (wt1 F rfl rfl rfl rfl rfl) (pu_eqlB rfl (F.ev rfl) (F.ev rfl) Try.underlying4) rfl rfl ?_; clear F; intro φ F
                rw [show (true == false) = false from rfl] at F
                refine qt_pure F (wt0 rfl) (pu_pickt rfl (F.ev rfl) (F.ev rfl)) rfl rfl ?_; clear F; intro φ F
                refine qt_pure F (wt0 rfl) (pu_move rfl (F.ev rfl)) rfl rfl ?_; clear F; intro φ F
                refine qt_skip F (wtn F rfl rfl rfl rfl rfl) rfl rfl ?_; clear F; intro φ F
                refine qt_skip F (wtn F rfl rfl rfl rfl rfl) rfl rfl ?_; clear F; intro φ F
                refine qt_skip F (wtn F rfl rfl rfl rfl rfl) rfl rfl ?_; clear F; intro φ F
                refine qt_skip F (wtn F rfl rfl rfl rfl rfl) rfl rfl ?_; clear F; intro φ F
                refine qt_skip F (wtn F rfl rfl rfl rfl rfl) rfl rfl ?_; clear F; intro φ F
                refine qt_pure F (wt0 rfl) (pu_pickf rfl (F.ev rfl) (evk)) rfl rfl ?_; clear F; intro φ F
                refine qt_pure F (wt0 rfl) (pu_move rfl (F.ev rfl)) rfl rfl ?_; clear F; intro φ F
                refine qt_skip F (wtn F rfl rfl rfl rfl rfl) rfl rfl ?_; clear F; intro φ F
                refine qt_skip F (wtn F rfl rfl rfl rfl rfl) rfl rfl ?_; clear F; intro φ F
                refine qt_skip F (wtn F rfl rfl rfl rfl rfl) rfl rfl ?_; clear F; intro φ F
                refine qt_skip F (wtn F rfl rfl rfl rfl rfl) rfl rfl ?_; clear F; intro φ F
                refine qt_skip F (wtn F rfl rfl rfl rfl rfl) rfl rfl ?_; clear F; intro φ F
                refine qt_pure F (wt0 rfl) (pu_pickf rfl (F.ev rfl) (evk)) rfl rfl ?_; clear F; intro φ F
                refine qt_pure F (wt0 rfl) (pu_assign rfl (F.ev rfl)) rfl rfl ?_; clear F; intro φ F
                refine wpQuiet_nil ?_
                clear M; intro ω M
                refine nxq ?_
                refine wp_ret ?_
                refine rt_tmp F rfl rfl ?_
                exfalso; clear F M; omega
  · rw [hs1] at F
    have hs1i := le_t hs1; (try dsimp only at hs1i)
    refine sq_rd F (wt1 F rfl rfl rfl rfl rfl) (ld_agg rfl (F.ev rfl) agg23 (M.rd (i := 3) rfl) rfl) rfl rfl ?_; clear F; intro φ F
    refine sq_rd F (wt1 F rfl rfl rfl rfl rfl) (ld_agg rfl (F.ev rfl) agg23 (M.rd (i := 2) rfl) rfl) rfl rfl ?_; clear F; intro φ F
    refine sq_call F M (wt1 F rfl rfl rfl rfl rfl) rfl en15 (evc (F.ev rfl) (evc (F.ev rfl) evn)) (le_any b c _) rfl rfl ?_; clear F M; intro φ ω F M
    refine sq_pure F (wt0 rfl) (pu_pickt rfl (F.ev rfl) (F.ev rfl)) rfl rfl ?_; clear F; intro φ F
    refine sq_pure F (wt0 rfl) (pu_assign rfl (F.ev rfl)) rfl rfl ?_; clear F; intro φ F
    refine nx ?_
    refine wp_seq ?_
    -- region 5
    refine wp_region_lit ?_
    refine sq_rd F (wt0 rfl) (ld_agg rfl (F.ev rfl) agg23 (M.rd (i := 2) rfl) rfl) rfl rfl ?_; clear F; intro φ F
    refine sq_rd F (wt0 rfl) (ld_agg rfl (F.ev rfl) agg23 (M.rd (i := 4) rfl) rfl) rfl rfl ?_; clear F; intro φ F
    refine sq_call F M (wt0 rfl) rfl en15 (evc (F.ev rfl) (evc (F.ev rfl) evn)) (le_any c a _) rfl rfl ?_; clear F M; intro φ ω F M
    refine sq_pure F (wt0 rfl) (pu_move rfl (F.ev rfl)) rfl rfl ?_; clear F; intro φ F
    cases hs20 : (c.leB a)
    · rw [hs20] at F
      have hs20i := le_f hs20; (try dsimp only at hs20i)
      refine sq_skip F (wtn F rfl rfl rfl rfl rfl) rfl rfl ?_; clear F; intro φ F
      refine sq_skip F (wtn F rfl rfl rfl rfl rfl) rfl rfl ?_; clear F; intro φ F
      refine sq_skip F (wtn F rfl rfl rfl rfl rfl) rfl rfl ?_; clear F; intro φ F
      refine sq_pure F (wt0 rfl) (pu_pickf rfl (F.ev rfl) (evk)) rfl rfl ?_; clear F; intro φ F
      refine sq_pure F (wt0 rfl) (pu_assign rfl (F.ev rfl)) rfl rfl ?_; clear F; intro φ F
      refine nx ?_
      refine wp_seq ?_
      -- region 6
      refine rg_quiet M mixedOK (by kernel_rfl) ?_
      refine qt_pure F (wt0 rfl) (pu_move rfl (F.ev rfl)) rfl rfl ?_; clear F; intro φ F
      refine qt_pure F (wt0 rfl) (pu_move rfl (F.ev rfl)) rfl rfl ?_; clear F; intro φ F
      refine qt_rd F (wt1 F rfl rfl rfl rfl rfl) (ld_agg rfl (F.ev rfl) agg23 (M.rdB (i := 4) rfl) rfl) rfl rfl ?_; clear F; intro φ F
      refine qt_rd F (wt1 F rfl rfl rfl rfl rfl) (ld_agg rfl (F.ev rfl) agg23 (M.rdB (i := 1) rfl) rfl) rfl rfl ?_; clear F; intro φ F
      refine qt_call F (wt1 F rfl rfl rfl rfl rfl) rfl en15 (evc (F.ev rfl) (evc (F.ev rfl) evn)) (fun w' h => calls_below h (le_any a (a.join b) w')) rfl rfl ?_; clear F; intro φ F
      refine qt_pure F (wt0 rfl) (pu_pickt rfl (F.ev rfl) (F.ev rfl)) rfl rfl ?_; clear F; intro φ F
      refine qt_pure F (wt0 rfl) (pu_move rfl (F.ev rfl)) rfl rfl ?_; clear F; intro φ F
      cases hs21 : (a.leB (a.join b))
      · rw [hs21] at F
        have hs21i := le_f hs21; (try dsimp only at hs21i)
        refine qt_skip F (wtn F rfl rfl rfl rfl rfl) rfl rfl ?_; clear F; intro φ F
        refine qt_skip F (wtn F rfl rfl rfl rfl rfl) rfl rfl ?_; clear F; intro φ F
        refine qt_skip F (wtn F rfl rfl rfl rfl rfl) rfl rfl ?_; clear F; intro φ F
        refine qt_pure F (wt0 rfl) (pu_pickf rfl (F.ev rfl) (evk)) rfl rfl ?_; clear F; intro φ F
        refine qt_pure F (wt0 rfl) (pu_move rfl (F.ev rfl)) rfl rfl ?_; clear F; intro φ F
        refine qt_skip F (wtn F rfl rfl rfl rfl rfl) rfl rfl ?_; clear F; intro φ F
        refine qt_skip F (wtn F rfl rfl rfl rfl rfl) rfl rfl ?_; clear F; intro φ F
        refine qt_skip F (wtn F rfl rfl rfl rfl rfl) rfl rfl ?_; clear F; intro φ F
        refine qt_pure F (wt0 rfl) (pu_pickf rfl (F.ev rfl) (evk)) rfl rfl ?_; clear F; intro φ F
        refine qt_pure F (wt0 rfl) (pu_move rfl (F.ev rfl)) rfl rfl ?_; clear F; intro φ F
        refine qt_skip F (wtn F rfl rfl rfl rfl rfl) rfl rfl ?_; clear F; intro φ F
        refine qt_skip F (wtn F rfl rfl rfl rfl rfl) rfl rfl ?_; clear F; intro φ F
        refine qt_skip F (wtn F rfl rfl rfl rfl rfl) rfl rfl ?_; clear F; intro φ F
        refine qt_pure F (wt0 rfl) (pu_pickf rfl (F.ev rfl) (evk)) rfl rfl ?_; clear F; intro φ F
        refine qt_pure F (wt0 rfl) (pu_move rfl (F.ev rfl)) rfl rfl ?_; clear F; intro φ F
        refine qt_skip F (wtn F rfl rfl rfl rfl rfl) rfl rfl ?_; clear F; intro φ F
        refine qt_skip F (wtn F rfl rfl rfl rfl rfl) rfl rfl ?_; clear F; intro φ F
        refine qt_skip F (wtn F rfl rfl rfl rfl rfl) rfl rfl ?_; clear F; intro φ F
        refine qt_skip F (wtn F rfl rfl rfl rfl rfl) rfl rfl ?_; clear F; intro φ F
        refine qt_skip F (wtn F rfl rfl rfl rfl rfl) rfl rfl ?_; clear F; intro φ F
        refine qt_pure F (wt0 rfl) (pu_pickf rfl (F.ev rfl) (evk)) rfl rfl ?_; clear F; intro φ F
        refine qt_pure F (wt0 rfl) (pu_move rfl (F.ev rfl)) rfl rfl ?_; clear F; intro φ F
        refine qt_skip F (wtn F rfl rfl rfl rfl rfl) rfl rfl ?_; clear F; intro φ F
        refine qt_skip F (wtn F rfl rfl rfl rfl rfl) rfl rfl ?_; clear F; intro φ F
        refine qt_skip F (wtn F rfl rfl rfl rfl rfl) rfl rfl ?_; clear F; intro φ F
        refine qt_skip F (wtn F rfl rfl rfl rfl rfl) rfl rfl ?_; clear F; intro φ F
        refine qt_skip F (wtn F rfl rfl rfl rfl rfl) rfl rfl ?_; clear F; intro φ F
        refine qt_pure F (wt0 rfl) (pu_pickf rfl (F.ev rfl) (evk)) rfl rfl ?_; clear F; intro φ F
        refine qt_pure F (wt0 rfl) (pu_move rfl (F.ev rfl)) rfl rfl ?_; clear F; intro φ F
        refine qt_skip F (wtn F rfl rfl rfl rfl rfl) rfl rfl ?_; clear F; intro φ F
        refine qt_skip F (wtn F rfl rfl rfl rfl rfl) rfl rfl ?_; clear F; intro φ F
        refine qt_skip F (wtn F rfl rfl rfl rfl rfl) rfl rfl ?_; clear F; intro φ F
        refine qt_skip F (wtn F rfl rfl rfl rfl rfl) rfl rfl ?_; clear F; intro φ F
        refine qt_skip F (wtn F rfl rfl rfl rfl rfl) rfl rfl ?_; clear F; intro φ F
        refine qt_pure F (wt0 rfl) (pu_pickf rfl (F.ev rfl) (evk)) rfl rfl ?_; clear F; intro φ F
        refine qt_pure F (wt0 rfl) (pu_assign rfl (F.ev rfl)) rfl rfl ?_; clear F; intro φ F
        refine wpQuiet_nil ?_
        clear M; intro ω M
        refine nxq ?_
        refine wp_ret ?_
        refine rt_tmp F rfl rfl ?_
        exfalso; clear F M; omega
      · rw [hs21] at F
        have hs21i := le_t hs21; (try dsimp only at hs21i)
        refine qt_rd F (wt1 F rfl rfl rfl rfl rfl) (ld_agg rfl (F.ev rfl) agg23 (M.rdB (i := 3) rfl) rfl) rfl rfl ?_; clear F; intro φ F
        refine qt_rd F (wt1 F rfl rfl rfl rfl rfl) (ld_agg rfl (F.ev rfl) agg23 (M.rdB (i := 1) rfl) rfl) rfl rfl ?_; clear F; intro φ F
        refine qt_call F (wt1 F rfl rfl rfl rfl rfl) rfl en15 (evc (F.ev rfl) (evc (F.ev rfl) evn)) (fun w' h => calls_below h (le_any b (a.join b) w')) rfl rfl ?_; clear F; intro φ F
        refine qt_pure F (wt0 rfl) (pu_pickt rfl (F.ev rfl) (F.ev rfl)) rfl rfl ?_; clear F; intro φ F
        refine qt_pure F (wt0 rfl) (pu_move rfl (F.ev rfl)) rfl rfl ?_; clear F; intro φ F
        cases hs22 : (b.leB (a.join b))
        · rw [hs22] at F
          have hs22i := le_f hs22; (try dsimp only at hs22i)
          refine qt_skip F (wtn F rfl rfl rfl rfl rfl) rfl rfl ?_; clear F; intro φ F
          refine qt_skip F (wtn F rfl rfl rfl rfl rfl) rfl rfl ?_; clear F; intro φ F
          refine qt_skip F (wtn F rfl rfl rfl rfl rfl) rfl rfl ?_; clear F; intro φ F
          refine qt_pure F (wt0 rfl) (pu_pickf rfl (F.ev rfl) (evk)) rfl rfl ?_; clear F; intro φ F
          refine qt_pure F (wt0 rfl) (pu_move rfl (F.ev rfl)) rfl rfl ?_; clear F; intro φ F
          refine qt_skip F (wtn F rfl rfl rfl rfl rfl) rfl rfl ?_; clear F; intro φ F
          refine qt_skip F (wtn F rfl rfl rfl rfl rfl) rfl rfl ?_; clear F; intro φ F
          refine qt_skip F (wtn F rfl rfl rfl rfl rfl) rfl rfl ?_; clear F; intro φ F
          refine qt_pure F (wt0 rfl) (pu_pickf rfl (F.ev rfl) (evk)) rfl rfl ?_; clear F; intro φ F
          refine qt_pure F (wt0 rfl) (pu_move rfl (F.ev rfl)) rfl rfl ?_; clear F; intro φ F
          refine qt_skip F (wtn F rfl rfl rfl rfl rfl) rfl rfl ?_; clear F; intro φ F
          refine qt_skip F (wtn F rfl rfl rfl rfl rfl) rfl rfl ?_; clear F; intro φ F
          refine qt_skip F (wtn F rfl rfl rfl rfl rfl) rfl rfl ?_; clear F; intro φ F
          refine qt_skip F (wtn F rfl rfl rfl rfl rfl) rfl rfl ?_; clear F; intro φ F
          refine qt_skip F (wtn F rfl rfl rfl rfl rfl) rfl rfl ?_; clear F; intro φ F
          refine qt_pure F (wt0 rfl) (pu_pickf rfl (F.ev rfl) (evk)) rfl rfl ?_; clear F; intro φ F
          refine qt_pure F (wt0 rfl) (pu_move rfl (F.ev rfl)) rfl rfl ?_; clear F; intro φ F
          refine qt_skip F (wtn F rfl rfl rfl rfl rfl) rfl rfl ?_; clear F; intro φ F
          refine qt_skip F (wtn F rfl rfl rfl rfl rfl) rfl rfl ?_; clear F; intro φ F
          refine qt_skip F (wtn F rfl rfl rfl rfl rfl) rfl rfl ?_; clear F; intro φ F
          refine qt_skip F (wtn F rfl rfl rfl rfl rfl) rfl rfl ?_; clear F; intro φ F
          refine qt_skip F (wtn F rfl rfl rfl rfl rfl) rfl rfl ?_; clear F; intro φ F
          refine qt_pure F (wt0 rfl) (pu_pickf rfl (F.ev rfl) (evk)) rfl rfl ?_; clear F; intro φ F
          refine qt_pure F (wt0 rfl) (pu_move rfl (F.ev rfl)) rfl rfl ?_; clear F; intro φ F
          refine qt_skip F (wtn F rfl rfl rfl rfl rfl) rfl rfl ?_; clear F; intro φ F
          refine qt_skip F (wtn F rfl rfl rfl rfl rfl) rfl rfl ?_; clear F; intro φ F
          refine qt_skip F (wtn F rfl rfl rfl rfl rfl) rfl rfl ?_; clear F; intro φ F
          refine qt_skip F (wtn F rfl rfl rfl rfl rfl) rfl rfl ?_; clear F; intro φ F
          refine qt_skip F (wtn F rfl rfl rfl rfl rfl) rfl rfl ?_; clear F; intro φ F
          refine qt_pure F (wt0 rfl) (pu_pickf rfl (F.ev rfl) (evk)) rfl rfl ?_; clear F; intro φ F
          refine qt_pure F (wt0 rfl) (pu_assign rfl (F.ev rfl)) rfl rfl ?_; clear F; intro φ F
          refine wpQuiet_nil ?_
          clear M; intro ω M
          refine nxq ?_
          refine wp_ret ?_
          refine rt_tmp F rfl rfl ?_
          exfalso; clear F M; omega
        · rw [hs22] at F
          have hs22i := le_t hs22; (try dsimp only at hs22i)
          refine qt_rd F (wt1 F rfl rfl rfl rfl rfl) (ld_agg rfl (F.ev rfl) agg23 (M.rdB (i := 0) rfl) rfl) rfl rfl ?_; clear F; intro φ F
          refine qt_rd F (wt1 F rfl rfl rfl rfl rfl) (ld_agg rfl (F.ev rfl) agg23 (M.rdB (i := 4) rfl) rfl) rfl rfl ?_; clear F; intro φ F
          refine qt_call F (wt1 F rfl rfl rfl rfl rfl) rfl en15 (evc (F.ev rfl) (evc (F.ev rfl) evn)) (fun w' h => calls_below h (le_any (a.meet b) a w')) rfl rfl ?_; clear F; intro φ F
          refine qt_pure F (wt0 rfl) (pu_pickt rfl (F.ev rfl) (F.ev rfl)) rfl rfl ?_; clear F; intro φ F
          refine qt_pure F (wt0 rfl) (pu_move rfl (F.ev rfl)) rfl rfl ?_; clear F; intro φ F
          cases hs23 : ((a.meet b).leB a)
          · rw [hs23] at F
            have hs23i := le_f hs23; (try dsimp only at hs23i)
            refine qt_skip F (wtn F rfl rfl rfl rfl rfl) rfl rfl ?_; clear F; intro φ F
            refine qt_skip F (wtn F rfl rfl rfl rfl rfl) rfl rfl ?_; clear F; intro φ F
            refine qt_skip F (wtn F rfl rfl rfl rfl rfl) rfl rfl ?_; clear F; intro φ F
            refine qt_pure F (wt0 rfl) (pu_pickf rfl (F.ev rfl) (evk)) rfl rfl ?_; clear F; intro φ F
            refine qt_pure F (wt0 rfl) (pu_move rfl (F.ev rfl)) rfl rfl ?_; clear F; intro φ F
            refine qt_skip F (wtn F rfl rfl rfl rfl rfl) rfl rfl ?_; clear F; intro φ F
            refine qt_skip F (wtn F rfl rfl rfl rfl rfl) rfl rfl ?_; clear F; intro φ F
            refine qt_skip F (wtn F rfl rfl rfl rfl rfl) rfl rfl ?_; clear F; intro φ F
            refine qt_skip F (wtn F rfl rfl rfl rfl rfl) rfl rfl ?_; clear F; intro φ F
            refine qt_skip F (wtn F rfl rfl rfl rfl rfl) rfl rfl ?_; clear F; intro φ F
            refine qt_pure F (wt0 rfl) (pu_pickf rfl (F.ev rfl) (evk)) rfl rfl ?_; clear F; intro φ F
            refine qt_pure F (wt0 rfl) (pu_move rfl (F.ev rfl)) rfl rfl ?_; clear F; intro φ F
            refine qt_skip F (wtn F rfl rfl rfl rfl rfl) rfl rfl ?_; clear F; intro φ F
            refine qt_skip F (wtn F rfl rfl rfl rfl rfl) rfl rfl ?_; clear F; intro φ F
            refine qt_skip F (wtn F rfl rfl rfl rfl rfl) rfl rfl ?_; clear F; intro φ F
            refine qt_skip F (wtn F rfl rfl rfl rfl rfl) rfl rfl ?_; clear F; intro φ F
            refine qt_skip F (wtn F rfl rfl rfl rfl rfl) rfl rfl ?_; clear F; intro φ F
            refine qt_pure F (wt0 rfl) (pu_pickf rfl (F.ev rfl) (evk)) rfl rfl ?_; clear F; intro φ F
            refine qt_pure F (wt0 rfl) (pu_move rfl (F.ev rfl)) rfl rfl ?_; clear F; intro φ F
            refine qt_skip F (wtn F rfl rfl rfl rfl rfl) rfl rfl ?_; clear F; intro φ F
            refine qt_skip F (wtn F rfl rfl rfl rfl rfl) rfl rfl ?_; clear F; intro φ F
            refine qt_skip F (wtn F rfl rfl rfl rfl rfl) rfl rfl ?_; clear F; intro φ F
            refine qt_skip F (wtn F rfl rfl rfl rfl rfl) rfl rfl ?_; clear F; intro φ F
            refine qt_skip F (wtn F rfl rfl rfl rfl rfl) rfl rfl ?_; clear F; intro φ F
            refine qt_pure F (wt0 rfl) (pu_pickf rfl (F.ev rfl) (evk)) rfl rfl ?_; clear F; intro φ F
            refine qt_pure F (wt0 rfl) (pu_assign rfl (F.ev rfl)) rfl rfl ?_; clear F; intro φ F
            refine wpQuiet_nil ?_
            clear M; intro ω M
            refine nxq ?_
            refine wp_ret ?_
            refine rt_tmp F rfl rfl ?_
            exfalso; clear F M; omega
          · rw [hs23] at F
            have hs23i := le_t hs23; (try dsimp only at hs23i)
            refine qt_rd F (wt1 F rfl rfl rfl rfl rfl) (ld_agg rfl (F.ev rfl) agg23 (M.rdB (i := 0) rfl) rfl) rfl rfl ?_; clear F; intro φ F
            refine qt_rd F (wt1 F rfl rfl rfl rfl rfl) (ld_agg rfl (F.ev rfl) agg23 (M.rdB (i := 3) rfl) rfl) rfl rfl ?_; clear F; intro φ F
            refine qt_call F (wt1 F rfl rfl rfl rfl rfl) rfl en15 (evc (F.ev rfl) (evc (F.ev rfl) evn)) (fun w' h => calls_below h (le_any (a.meet b) b w')) rfl rfl ?_; clear F; intro φ F
            refine qt_pure F (wt0 rfl) (pu_pickt rfl (F.ev rfl) (F.ev rfl)) rfl rfl ?_; clear F; intro φ F
            refine qt_pure F (wt0 rfl) (pu_move rfl (F.ev rfl)) rfl rfl ?_; clear F; intro φ F
            cases hs24 : ((a.meet b).leB b)
            · rw [hs24] at F
              have hs24i := le_f hs24; (try dsimp only at hs24i)
              refine qt_skip F (wtn F rfl rfl rfl rfl rfl) rfl rfl ?_; clear F; intro φ F
              refine qt_skip F (wtn F rfl rfl rfl rfl rfl) rfl rfl ?_; clear F; intro φ F
              refine qt_skip F (wtn F rfl rfl rfl rfl rfl) rfl rfl ?_; clear F; intro φ F
              refine qt_skip F (wtn F rfl rfl rfl rfl rfl) rfl rfl ?_; clear F; intro φ F
              refine qt_skip F (wtn F rfl rfl rfl rfl rfl) rfl rfl ?_; clear F; intro φ F
              refine qt_pure F (wt0 rfl) (pu_pickf rfl (F.ev rfl) (evk)) rfl rfl ?_; clear F; intro φ F
              refine qt_pure F (wt0 rfl) (pu_move rfl (F.ev rfl)) rfl rfl ?_; clear F; intro φ F
              refine qt_skip F (wtn F rfl rfl rfl rfl rfl) rfl rfl ?_; clear F; intro φ F
              refine qt_skip F (wtn F rfl rfl rfl rfl rfl) rfl rfl ?_; clear F; intro φ F
              refine qt_skip F (wtn F rfl rfl rfl rfl rfl) rfl rfl ?_; clear F; intro φ F
              refine qt_skip F (wtn F rfl rfl rfl rfl rfl) rfl rfl ?_; clear F; intro φ F
              refine qt_skip F (wtn F rfl rfl rfl rfl rfl) rfl rfl ?_; clear F; intro φ F
              refine qt_pure F (wt0 rfl) (pu_pickf rfl (F.ev rfl) (evk)) rfl rfl ?_; clear F; intro φ F
              refine qt_pure F (wt0 rfl) (pu_move rfl (F.ev rfl)) rfl rfl ?_; clear F; intro φ F
              refine qt_skip F (wtn F rfl rfl rfl rfl rfl) rfl rfl ?_; clear F; intro φ F
              refine qt_skip F (wtn F rfl rfl rfl rfl rfl) rfl rfl ?_; clear F; intro φ F
              refine qt_skip F (wtn F rfl rfl rfl rfl rfl) rfl rfl ?_; clear F; intro φ F
              refine qt_skip F (wtn F rfl rfl rfl rfl rfl) rfl rfl ?_; clear F; intro φ F
              refine qt_skip F (wtn F rfl rfl rfl rfl rfl) rfl rfl ?_; clear F; intro φ F
              refine qt_pure F (wt0 rfl) (pu_pickf rfl (F.ev rfl) (evk)) rfl rfl ?_; clear F; intro φ F
              refine qt_pure F (wt0 rfl) (pu_assign rfl (F.ev rfl)) rfl rfl ?_; clear F; intro φ F
              refine wpQuiet_nil ?_
              clear M; intro ω M
              refine nxq ?_
              refine wp_ret ?_
              refine rt_tmp F rfl rfl ?_
              exfalso; clear F M; omega
            · rw [hs24] at F
              have hs24i := le_t hs24; (try dsimp only at hs24i)
              refine qt_rd F (wt1 F rfl rfl rfl rfl rfl) (ld_agg rfl (F.ev rfl) agg23 (M.rdB (i := 1) rfl) rfl) rfl rfl ?_; clear F; intro φ F
              refine qt_rd F (wt1 F rfl rfl rfl rfl rfl) (ld_agg rfl (F.ev rfl) agg23 (M.rdB (i := 2) rfl) rfl) rfl rfl ?_; clear F; intro φ F
              refine qt_call F (wt1 F rfl rfl rfl rfl rfl) rfl en15 (evc (F.ev rfl) (evc (F.ev rfl) evn)) (fun w' h => calls_below h (le_any (a.join b) c w')) rfl rfl ?_; clear F; intro φ F
              refine qt_pure F (wt1 F rfl rfl rfl rfl rfl) (pu_move rfl (F.ev rfl)) rfl rfl ?_; clear F; intro φ F
              cases hs25 : ((a.join b).leB c)
              · rw [hs25] at F
                have hs25i := le_f hs25; (try dsimp only at hs25i)
                cases hs26 : (b.leB c)
                · rw [hs26] at F
                  have hs26i := le_f hs26; (try dsimp only at hs26i)
                  refine qt_pure F (wt1 F rfl rfl rfl rfl rfl) (pu_eqlB rfl (F.ev rfl) (F.ev rfl) Try.underlying4) rfl rfl ?_; clear F; intro φ F
                  rw [show (false == false) = true from rfl] at F
                  refine qt_pure F (wt0 rfl) (pu_pickt rfl (F.ev rfl) (F.ev rfl)) rfl rfl ?_; clear F; intro φ F
                  refine qt_pure F (wt0 rfl) (pu_move rfl (F.ev rfl)) rfl rfl ?_; clear F; intro φ F
                  refine qt_rd F (wt1 F rfl rfl rfl rfl rfl) (ld_agg rfl (F.ev rfl) agg23 (M.rdB (i := 2) rfl) rfl) rfl rfl ?_; clear F; intro φ F
                  refine qt_rd F (wt1 F rfl rfl rfl rfl rfl) (ld_agg rfl (F.ev rfl) agg23 (M.rdB (i := 0) rfl) rfl) rfl rfl ?_; clear F; intro φ F
                  refine qt_call F (wt1 F rfl rfl rfl rfl rfl) rfl en15 (evc (F.ev rfl) (evc (F.ev rfl) evn)) (fun w' h => calls_below h (le_any c (a.meet b) w')) rfl rfl ?_; clear F; intro φ F
                  refine qt_pure F (wt1 F rfl rfl rfl rfl rfl) (pu_move rfl (F.ev rfl)) rfl rfl ?_; clear F; intro φ F
                  cases hs27 : (c.leB (a.meet b))
                  · rw [hs27] at F
                    have hs27i := le_f hs27; (try dsimp only at hs27i)
                    refine qt_pure F (wt1 F rfl rfl rfl rfl rfl) (pu_eqlB rfl (F.ev rfl) (F.ev rfl) Try.underlying4) rfl rfl ?_; clear F; intro φ F
                    rw [show (false == false) = true from rfl] at F
                    refine qt_pure F (wt0 rfl) (pu_pickt rfl (F.ev rfl) (F.ev rfl)) rfl rfl ?_; clear F; intro φ F
                    refine qt_pure F (wt0 rfl) (pu_move rfl (F.ev rfl)) rfl rfl ?_; clear F; intro φ F
                    refine qt_rd F (wt1 F rfl rfl rfl rfl rfl) (ld_agg rfl (F.ev rfl) agg23 (M.rdB (i := 3) rfl) rfl) rfl rfl ?_; clear F; intro φ F
                    refine qt_rd F (wt1 F rfl rfl rfl rfl rfl) (ld_agg rfl (F.ev rfl) agg23 (M.rdB (i := 4) rfl) rfl) rfl rfl ?_; clear F; intro φ F
                    refine qt_call F (wt1 F rfl rfl rfl rfl rfl) rfl en18 (evc (F.ev rfl) (evc (F.ev rfl) evn)) (fun w' h => calls_below h (join_any b a w')) rfl rfl ?_; clear F; intro φ F
                    refine qt_rd F (wt1 F rfl rfl rfl rfl rfl) (ld_agg rfl (F.ev rfl) agg23 (M.rdB (i := 1) rfl) rfl) rfl rfl ?_; clear F; intro φ F
                    refine qt_pure F (wt1 F rfl rfl rfl rfl rfl) (pu_eqlA rfl (F.ev rfl) (F.ev rfl) eqg23 (fun w => eqS23 (b.join a) (a.join b) w)) rfl rfl ?_; clear F; intro φ F
                    refine qt_pure F (wt0 rfl) (pu_pickt rfl (F.ev rfl) (F.ev rfl)) rfl rfl ?_; clear F; intro φ F
                    refine qt_pure F (wt0 rfl) (pu_assign rfl (F.ev rfl)) rfl rfl ?_; clear F; intro φ F
                    refine wpQuiet_nil ?_
                    clear M; intro ω M
                    refine nxq ?_
                    cases hs28 : (decide ((b.join a) = (a.join b)))
                    · rw [hs28] at F
                      have hs28i := eq_f hs28; (try dsimp only at hs28i)
                      refine wp_ret ?_
                      refine rt_tmp F rfl rfl ?_
                      exfalso; clear F M; omega
                    · rw [hs28] at F
                      have hs28i := eq_t hs28; (try dsimp only at hs28i)
                      refine wp_ret ?_
                      refine rt_tmp F rfl rfl ?_
                      exact ⟨rfl, M.bel⟩
                  · rw [hs27] at F
                    have hs27i := le_t hs27; (try dsimp only at hs27i)
                    refine qt_pure F (wt1 F rfl rfl rfl rfl rfl) (pu_eqlB rfl (F.ev rfl) (F.ev rfl) Try.underlying4) rfl rfl ?_; clear F; intro φ F
                    rw [show (true == false) = false from rfl] at F
                    refine qt_pure F (wt0 rfl) (pu_pickt rfl (F.ev rfl) (F.ev rfl)) rfl rfl ?_; clear F; intro φ F
                    refine qt_pure F (wt0 rfl) (pu_move rfl (F.ev rfl)) rfl rfl ?_; clear F; intro φ F
                    refine qt_skip F (wtn F rfl rfl rfl rfl rfl) rfl rfl ?_; clear F; intro φ F
                    refine qt_skip F (wtn F rfl rfl rfl rfl rfl) rfl rfl ?_; clear F; intro φ F
                    refine qt_skip F (wtn F rfl rfl rfl rfl rfl) rfl rfl ?_; clear F; intro φ F
                    refine qt_skip F (wtn F rfl rfl rfl rfl rfl) rfl rfl ?_; clear F; intro φ F
                    refine qt_skip F (wtn F rfl rfl rfl rfl rfl) rfl rfl ?_; clear F; intro φ F
                    refine qt_pure F (wt0 rfl) (pu_pickf rfl (F.ev rfl) (evk)) rfl rfl ?_; clear F; intro φ F
                    refine qt_pure F (wt0 rfl) (pu_assign rfl (F.ev rfl)) rfl rfl ?_; clear F; intro φ F
                    refine wpQuiet_nil ?_
                    clear M; intro ω M
                    refine nxq ?_
                    refine wp_ret ?_
                    refine rt_tmp F rfl rfl ?_
                    exfalso; clear F M; omega
                · rw [hs26] at F
                  have hs26i := le_t hs26; (try dsimp only at hs26i)
                  refine qt_pure F (wt1 F rfl rfl rfl rfl rfl) (pu_eqlB rfl (F.ev rfl) (F.ev rfl) Try.underlying4) rfl rfl ?_; clear F; intro φ F
                  rw [show (false == true) = false from rfl] at F
                  refine qt_pure F (wt0 rfl) (pu_pickt rfl (F.ev rfl) (F.ev rfl)) rfl rfl ?_; clear F; intro φ F
                  refine qt_pure F (wt0 rfl) (pu_move rfl (F.ev rfl)) rfl rfl ?_; clear F; intro φ F
                  refine qt_skip F (wtn F rfl rfl rfl rfl rfl) rfl rfl ?_; clear F; intro φ F
                  refine qt_skip F (wtn F rfl rfl rfl rfl rfl) rfl rfl ?_; clear F; intro φ F
                  refine qt_skip F (wtn F rfl rfl rfl rfl rfl) rfl rfl ?_; clear F; intro φ F
                  refine qt_skip F (wtn F rfl rfl rfl rfl rfl) rfl rfl ?_; clear F; intro φ F
                  refine qt_skip F (wtn F rfl rfl rfl rfl rfl) rfl rfl ?_; clear F; intro φ F
                  refine qt_pure F (wt0 rfl) (pu_pickf rfl (F.ev rfl) (evk)) rfl rfl ?_; clear F; intro φ F
                  refine qt_pure F (wt0 rfl) (pu_move rfl (F.ev rfl)) rfl rfl ?_; clear F; intro φ F
                  refine qt_skip F (wtn F rfl rfl rfl rfl rfl) rfl rfl ?_; clear F; intro φ F
                  refine qt_skip F (wtn F rfl rfl rfl rfl rfl) rfl rfl ?_; clear F; intro φ F
                  refine qt_skip F (wtn F rfl rfl rfl rfl rfl) rfl rfl ?_; clear F; intro φ F
                  refine qt_skip F (wtn F rfl rfl rfl rfl rfl) rfl rfl ?_; clear F; intro φ F
                  refine qt_skip F (wtn F rfl rfl rfl rfl rfl) rfl rfl ?_; clear F; intro φ F
                  refine qt_pure F (wt0 rfl) (pu_pickf rfl (F.ev rfl) (evk)) rfl rfl ?_; clear F; intro φ F
                  refine qt_pure F (wt0 rfl) (pu_assign rfl (F.ev rfl)) rfl rfl ?_; clear F; intro φ F
                  refine wpQuiet_nil ?_
                  clear M; intro ω M
                  refine nxq ?_
                  refine wp_ret ?_
                  refine rt_tmp F rfl rfl ?_
                  exfalso; clear F M; omega
              · rw [hs25] at F
                have hs25i := le_t hs25; (try dsimp only at hs25i)
                cases hs29 : (b.leB c)
                · rw [hs29] at F
                  have hs29i := le_f hs29; (try dsimp only at hs29i)
                  refine qt_pure F (wt1 F rfl rfl rfl rfl rfl) (pu_eqlB rfl (F.ev rfl) (F.ev rfl) Try.underlying4) rfl rfl ?_; clear F; intro φ F
                  rw [show (true == false) = false from rfl] at F
                  refine qt_pure F (wt0 rfl) (pu_pickt rfl (F.ev rfl) (F.ev rfl)) rfl rfl ?_; clear F; intro φ F
                  refine qt_pure F (wt0 rfl) (pu_move rfl (F.ev rfl)) rfl rfl ?_; clear F; intro φ F
                  refine qt_skip F (wtn F rfl rfl rfl rfl rfl) rfl rfl ?_; clear F; intro φ F
                  refine qt_skip F (wtn F rfl rfl rfl rfl rfl) rfl rfl ?_; clear F; intro φ F
                  refine qt_skip F (wtn F rfl rfl rfl rfl rfl) rfl rfl ?_; clear F; intro φ F
                  refine qt_skip F (wtn F rfl rfl rfl rfl rfl) rfl rfl ?_; clear F; intro φ F
                  refine qt_skip F (wtn F rfl rfl rfl rfl rfl) rfl rfl ?_; clear F; intro φ F
                  refine qt_pure F (wt0 rfl) (pu_pickf rfl (F.ev rfl) (evk)) rfl rfl ?_; clear F; intro φ F
                  refine qt_pure F (wt0 rfl) (pu_move rfl (F.ev rfl)) rfl rfl ?_; clear F; intro φ F
                  refine qt_skip F (wtn F rfl rfl rfl rfl rfl) rfl rfl ?_; clear F; intro φ F
                  refine qt_skip F (wtn F rfl rfl rfl rfl rfl) rfl rfl ?_; clear F; intro φ F
                  refine qt_skip F (wtn F rfl rfl rfl rfl rfl) rfl rfl ?_; clear F; intro φ F
                  refine qt_skip F (wtn F rfl rfl rfl rfl rfl) rfl rfl ?_; clear F; intro φ F
                  refine qt_skip F (wtn F rfl rfl rfl rfl rfl) rfl rfl ?_; clear F; intro φ F
                  refine qt_pure F (wt0 rfl) (pu_pickf rfl (F.ev rfl) (evk)) rfl rfl ?_; clear F; intro φ F
                  refine qt_pure F (wt0 rfl) (pu_assign rfl (F.ev rfl)) rfl rfl ?_; clear F; intro φ F
                  refine wpQuiet_nil ?_
                  clear M; intro ω M
                  refine nxq ?_
                  refine wp_ret ?_
                  refine rt_tmp F rfl rfl ?_
                  exfalso; clear F M; omega
                · rw [hs29] at F
                  have hs29i := le_t hs29; (try dsimp only at hs29i)
                  refine qt_pure F (wt1 F rfl rfl rfl rfl rfl) (pu_eqlB rfl (F.ev rfl) (F.ev rfl) Try.underlying4) rfl rfl ?_; clear F; intro φ F
                  rw [show (true == true) = true from rfl] at F
                  refine qt_pure F (wt0 rfl) (pu_pickt rfl (F.ev rfl) (F.ev rfl)) rfl rfl ?_; clear F; intro φ F
                  refine qt_pure F (wt0 rfl) (pu_move rfl (F.ev rfl)) rfl rfl ?_; clear F; intro φ F
                  refine qt_rd F (wt1 F rfl rfl rfl rfl rfl) (ld_agg rfl (F.ev rfl) agg23 (M.rdB (i := 2) rfl) rfl) rfl rfl ?_; clear F; intro φ F
                  refine qt_rd F (wt1 F rfl rfl rfl rfl rfl) (ld_agg rfl (F.ev rfl) agg23 (M.rdB (i := 0) rfl) rfl) rfl rfl ?_; clear F; intro φ F
                  refine qt_call F (wt1 F rfl rfl rfl rfl rfl) rfl en15 (evc (F.ev rfl) (evc (F.ev rfl) evn)) (fun w' h => calls_below h (le_any c (a.meet b) w')) rfl rfl ?_; clear F; intro φ F
                  refine qt_pure F (wt1 F rfl rfl rfl rfl rfl) (pu_move rfl (F.ev rfl)) rfl rfl ?_; clear F; intro φ F
                  cases hs30 : (c.leB (a.meet b))
                  · rw [hs30] at F
                    have hs30i := le_f hs30; (try dsimp only at hs30i)
                    refine qt_pure F (wt1 F rfl rfl rfl rfl rfl) (pu_eqlB rfl (F.ev rfl) (F.ev rfl) Try.underlying4) rfl rfl ?_; clear F; intro φ F
                    rw [show (false == false) = true from rfl] at F
                    refine qt_pure F (wt0 rfl) (pu_pickt rfl (F.ev rfl) (F.ev rfl)) rfl rfl ?_; clear F; intro φ F
                    refine qt_pure F (wt0 rfl) (pu_move rfl (F.ev rfl)) rfl rfl ?_; clear F; intro φ F
                    refine qt_rd F (wt1 F rfl rfl rfl rfl rfl) (ld_agg rfl (F.ev rfl) agg23 (M.rdB (i := 3) rfl) rfl) rfl rfl ?_; clear F; intro φ F
                    refine qt_rd F (wt1 F rfl rfl rfl rfl rfl) (ld_agg rfl (F.ev rfl) agg23 (M.rdB (i := 4) rfl) rfl) rfl rfl ?_; clear F; intro φ F
                    refine qt_call F (wt1 F rfl rfl rfl rfl rfl) rfl en18 (evc (F.ev rfl) (evc (F.ev rfl) evn)) (fun w' h => calls_below h (join_any b a w')) rfl rfl ?_; clear F; intro φ F
                    refine qt_rd F (wt1 F rfl rfl rfl rfl rfl) (ld_agg rfl (F.ev rfl) agg23 (M.rdB (i := 1) rfl) rfl) rfl rfl ?_; clear F; intro φ F
                    refine qt_pure F (wt1 F rfl rfl rfl rfl rfl) (pu_eqlA rfl (F.ev rfl) (F.ev rfl) eqg23 (fun w => eqS23 (b.join a) (a.join b) w)) rfl rfl ?_; clear F; intro φ F
                    refine qt_pure F (wt0 rfl) (pu_pickt rfl (F.ev rfl) (F.ev rfl)) rfl rfl ?_; clear F; intro φ F
                    refine qt_pure F (wt0 rfl) (pu_assign rfl (F.ev rfl)) rfl rfl ?_; clear F; intro φ F
                    refine wpQuiet_nil ?_
                    clear M; intro ω M
                    refine nxq ?_
                    cases hs31 : (decide ((b.join a) = (a.join b)))
                    · rw [hs31] at F
                      have hs31i := eq_f hs31; (try dsimp only at hs31i)
                      refine wp_ret ?_
                      refine rt_tmp F rfl rfl ?_
                      exfalso; clear F M; omega
                    · rw [hs31] at F
                      have hs31i := eq_t hs31; (try dsimp only at hs31i)
                      refine wp_ret ?_
                      refine rt_tmp F rfl rfl ?_
                      exact ⟨rfl, M.bel⟩
                  · rw [hs30] at F
                    have hs30i := le_t hs30; (try dsimp only at hs30i)
                    refine qt_pure F (wt1 F rfl rfl rfl rfl rfl) (pu_eqlB rfl (F.ev rfl) (F.ev rfl) Try.underlying4) rfl rfl ?_; clear F; intro φ F
                    rw [show (true == false) = false from rfl] at F
                    refine qt_pure F (wt0 rfl) (pu_pickt rfl (F.ev rfl) (F.ev rfl)) rfl rfl ?_; clear F; intro φ F
                    refine qt_pure F (wt0 rfl) (pu_move rfl (F.ev rfl)) rfl rfl ?_; clear F; intro φ F
                    refine qt_skip F (wtn F rfl rfl rfl rfl rfl) rfl rfl ?_; clear F; intro φ F
                    refine qt_skip F (wtn F rfl rfl rfl rfl rfl) rfl rfl ?_; clear F; intro φ F
                    refine qt_skip F (wtn F rfl rfl rfl rfl rfl) rfl rfl ?_; clear F; intro φ F
                    refine qt_skip F (wtn F rfl rfl rfl rfl rfl) rfl rfl ?_; clear F; intro φ F
                    refine qt_skip F (wtn F rfl rfl rfl rfl rfl) rfl rfl ?_; clear F; intro φ F
                    refine qt_pure F (wt0 rfl) (pu_pickf rfl (F.ev rfl) (evk)) rfl rfl ?_; clear F; intro φ F
                    refine qt_pure F (wt0 rfl) (pu_assign rfl (F.ev rfl)) rfl rfl ?_; clear F; intro φ F
                    refine wpQuiet_nil ?_
                    clear M; intro ω M
                    refine nxq ?_
                    refine wp_ret ?_
                    refine rt_tmp F rfl rfl ?_
                    exfalso; clear F M; omega
    · rw [hs20] at F
      have hs20i := le_t hs20; (try dsimp only at hs20i)
      refine sq_rd F (wt1 F rfl rfl rfl rfl rfl) (ld_agg rfl (F.ev rfl) agg23 (M.rd (i := 2) rfl) rfl) rfl rfl ?_; clear F; intro φ F
      refine sq_rd F (wt1 F rfl rfl rfl rfl rfl) (ld_agg rfl (F.ev rfl) agg23 (M.rd (i := 3) rfl) rfl) rfl rfl ?_; clear F; intro φ F
      refine sq_call F M (wt1 F rfl rfl rfl rfl rfl) rfl en15 (evc (F.ev rfl) (evc (F.ev rfl) evn)) (le_any c b _) rfl rfl ?_; clear F M; intro φ ω F M
      refine sq_pure F (wt0 rfl) (pu_pickt rfl (F.ev rfl) (F.ev rfl)) rfl rfl ?_; clear F; intro φ F
      refine sq_pure F (wt0 rfl) (pu_assign rfl (F.ev rfl)) rfl rfl ?_; clear F; intro φ F
      refine nx ?_
      refine wp_seq ?_
      -- region 6
      refine rg_quiet M mixedOK (by kernel_rfl) ?_
      refine qt_pure F (wt0 rfl) (pu_move rfl (F.ev rfl)) rfl rfl ?_; clear F; intro φ F
      refine qt_pure F (wt0 rfl) (pu_move rfl (F.ev rfl)) rfl rfl ?_; clear F; intro φ F
      refine qt_rd F (wt1 F rfl rfl rfl rfl rfl) (ld_agg rfl (F.ev rfl) agg23 (M.rdB (i := 4) rfl) rfl) rfl rfl ?_; clear F; intro φ F
      refine qt_rd F (wt1 F rfl rfl rfl rfl rfl) (ld_agg rfl (F.ev rfl) agg23 (M.rdB (i := 1) rfl) rfl) rfl rfl ?_; clear F; intro φ F
      refine qt_call F (wt1 F rfl rfl rfl rfl rfl) rfl en15 (evc (F.ev rfl) (evc (F.ev rfl) evn)) (fun w' h => calls_below h (le_any a (a.join b) w')) rfl rfl ?_; clear F; intro φ F
      refine qt_pure F (wt0 rfl) (pu_pickt rfl (F.ev rfl) (F.ev rfl)) rfl rfl ?_; clear F; intro φ F
      refine qt_pure F (wt0 rfl) (pu_move rfl (F.ev rfl)) rfl rfl ?_; clear F; intro φ F
      cases hs32 : (a.leB (a.join b))
      · rw [hs32] at F
        have hs32i := le_f hs32; (try dsimp only at hs32i)
        refine qt_skip F (wtn F rfl rfl rfl rfl rfl) rfl rfl ?_; clear F; intro φ F
        refine qt_skip F (wtn F rfl rfl rfl rfl rfl) rfl rfl ?_; clear F; intro φ F
        refine qt_skip F (wtn F rfl rfl rfl rfl rfl) rfl rfl ?_; clear F; intro φ F
        refine qt_pure F (wt0 rfl) (pu_pickf rfl (F.ev rfl) (evk)) rfl rfl ?_; clear F; intro φ F
        refine qt_pure F (wt0 rfl) (pu_move rfl (F.ev rfl)) rfl rfl ?_; clear F; intro φ F
        refine qt_skip F (wtn F rfl rfl rfl rfl rfl) rfl rfl ?_; clear F; intro φ F
        refine qt_skip F (wtn F rfl rfl rfl rfl rfl) rfl rfl ?_; clear F; intro φ F
        refine qt_skip F (wtn F rfl rfl rfl rfl rfl) rfl rfl ?_; clear F; intro φ F
        refine qt_pure F (wt0 rfl) (pu_pickf rfl (F.ev rfl) (evk)) rfl rfl ?_; clear F; intro φ F
        refine qt_pure F (wt0 rfl) (pu_move rfl (F.ev rfl)) rfl rfl ?_; clear F; intro φ F
        refine qt_skip F (wtn F rfl rfl rfl rfl rfl) rfl rfl ?_; clear F; intro φ F
        refine qt_skip F (wtn F rfl rfl rfl rfl rfl) rfl rfl ?_; clear F; intro φ F
        refine qt_skip F (wtn F rfl rfl rfl rfl rfl) rfl rfl ?_; clear F; intro φ F
        refine qt_pure F (wt0 rfl) (pu_pickf rfl (F.ev rfl) (evk)) rfl rfl ?_; clear F; intro φ F
        refine qt_pure F (wt0 rfl) (pu_move rfl (F.ev rfl)) rfl rfl ?_; clear F; intro φ F
        refine qt_skip F (wtn F rfl rfl rfl rfl rfl) rfl rfl ?_; clear F; intro φ F
        refine qt_skip F (wtn F rfl rfl rfl rfl rfl) rfl rfl ?_; clear F; intro φ F
        refine qt_skip F (wtn F rfl rfl rfl rfl rfl) rfl rfl ?_; clear F; intro φ F
        refine qt_skip F (wtn F rfl rfl rfl rfl rfl) rfl rfl ?_; clear F; intro φ F
        refine qt_skip F (wtn F rfl rfl rfl rfl rfl) rfl rfl ?_; clear F; intro φ F
        refine qt_pure F (wt0 rfl) (pu_pickf rfl (F.ev rfl) (evk)) rfl rfl ?_; clear F; intro φ F
        refine qt_pure F (wt0 rfl) (pu_move rfl (F.ev rfl)) rfl rfl ?_; clear F; intro φ F
        refine qt_skip F (wtn F rfl rfl rfl rfl rfl) rfl rfl ?_; clear F; intro φ F
        refine qt_skip F (wtn F rfl rfl rfl rfl rfl) rfl rfl ?_; clear F; intro φ F
        refine qt_skip F (wtn F rfl rfl rfl rfl rfl) rfl rfl ?_; clear F; intro φ F
        refine qt_skip F (wtn F rfl rfl rfl rfl rfl) rfl rfl ?_; clear F; intro φ F
        refine qt_skip F (wtn F rfl rfl rfl rfl rfl) rfl rfl ?_; clear F; intro φ F
        refine qt_pure F (wt0 rfl) (pu_pickf rfl (F.ev rfl) (evk)) rfl rfl ?_; clear F; intro φ F
        refine qt_pure F (wt0 rfl) (pu_move rfl (F.ev rfl)) rfl rfl ?_; clear F; intro φ F
        refine qt_skip F (wtn F rfl rfl rfl rfl rfl) rfl rfl ?_; clear F; intro φ F
        refine qt_skip F (wtn F rfl rfl rfl rfl rfl) rfl rfl ?_; clear F; intro φ F
        refine qt_skip F (wtn F rfl rfl rfl rfl rfl) rfl rfl ?_; clear F; intro φ F
        refine qt_skip F (wtn F rfl rfl rfl rfl rfl) rfl rfl ?_; clear F; intro φ F
        refine qt_skip F (wtn F rfl rfl rfl rfl rfl) rfl rfl ?_; clear F; intro φ F
        refine qt_pure F (wt0 rfl) (pu_pickf rfl (F.ev rfl) (evk)) rfl rfl ?_; clear F; intro φ F
        refine qt_pure F (wt0 rfl) (pu_assign rfl (F.ev rfl)) rfl rfl ?_; clear F; intro φ F
        refine wpQuiet_nil ?_
        clear M; intro ω M
        refine nxq ?_
        refine wp_ret ?_
        refine rt_tmp F rfl rfl ?_
        exfalso; clear F M; omega
      · rw [hs32] at F
        have hs32i := le_t hs32; (try dsimp only at hs32i)
        refine qt_rd F (wt1 F rfl rfl rfl rfl rfl) (ld_agg rfl (F.ev rfl) agg23 (M.rdB (i := 3) rfl) rfl) rfl rfl ?_; clear F; intro φ F
        refine qt_rd F (wt1 F rfl rfl rfl rfl rfl) (ld_agg rfl (F.ev rfl) agg23 (M.rdB (i := 1) rfl) rfl) rfl rfl ?_; clear F; intro φ F
        refine qt_call F (wt1 F rfl rfl rfl rfl rfl) rfl en15 (evc (F.ev rfl) (evc (F.ev rfl) evn)) (fun w' h => calls_below h (le_any b (a.join b) w')) rfl rfl ?_; clear F; intro φ F
        refine qt_pure F (wt0 rfl) (pu_pickt rfl (F.ev rfl) (F.ev rfl)) rfl rfl ?_; clear F; intro φ F
        refine qt_pure F (wt0 rfl) (pu_move rfl (F.ev rfl)) rfl rfl ?_; clear F; intro φ F
        cases hs33 : (b.leB (a.join b))
        · rw [hs33] at F
          have hs33i := le_f hs33; (try dsimp only at hs33i)
          refine qt_skip F (wtn F rfl rfl rfl rfl rfl) rfl rfl ?_; clear F; intro φ F
          refine qt_skip F (wtn F rfl rfl rfl rfl rfl) rfl rfl ?_; clear F; intro φ F
          refine qt_skip F (wtn F rfl rfl rfl rfl rfl) rfl rfl ?_; clear F; intro φ F
          refine qt_pure F (wt0 rfl) (pu_pickf rfl (F.ev rfl) (evk)) rfl rfl ?_; clear F; intro φ F
          refine qt_pure F (wt0 rfl) (pu_move rfl (F.ev rfl)) rfl rfl ?_; clear F; intro φ F
          refine qt_skip F (wtn F rfl rfl rfl rfl rfl) rfl rfl ?_; clear F; intro φ F
          refine qt_skip F (wtn F rfl rfl rfl rfl rfl) rfl rfl ?_; clear F; intro φ F
          refine qt_skip F (wtn F rfl rfl rfl rfl rfl) rfl rfl ?_; clear F; intro φ F
          refine qt_pure F (wt0 rfl) (pu_pickf rfl (F.ev rfl) (evk)) rfl rfl ?_; clear F; intro φ F
          refine qt_pure F (wt0 rfl) (pu_move rfl (F.ev rfl)) rfl rfl ?_; clear F; intro φ F
          refine qt_skip F (wtn F rfl rfl rfl rfl rfl) rfl rfl ?_; clear F; intro φ F
          refine qt_skip F (wtn F rfl rfl rfl rfl rfl) rfl rfl ?_; clear F; intro φ F
          refine qt_skip F (wtn F rfl rfl rfl rfl rfl) rfl rfl ?_; clear F; intro φ F
          refine qt_skip F (wtn F rfl rfl rfl rfl rfl) rfl rfl ?_; clear F; intro φ F
          refine qt_skip F (wtn F rfl rfl rfl rfl rfl) rfl rfl ?_; clear F; intro φ F
          refine qt_pure F (wt0 rfl) (pu_pickf rfl (F.ev rfl) (evk)) rfl rfl ?_; clear F; intro φ F
          refine qt_pure F (wt0 rfl) (pu_move rfl (F.ev rfl)) rfl rfl ?_; clear F; intro φ F
          refine qt_skip F (wtn F rfl rfl rfl rfl rfl) rfl rfl ?_; clear F; intro φ F
          refine qt_skip F (wtn F rfl rfl rfl rfl rfl) rfl rfl ?_; clear F; intro φ F
          refine qt_skip F (wtn F rfl rfl rfl rfl rfl) rfl rfl ?_; clear F; intro φ F
          refine qt_skip F (wtn F rfl rfl rfl rfl rfl) rfl rfl ?_; clear F; intro φ F
          refine qt_skip F (wtn F rfl rfl rfl rfl rfl) rfl rfl ?_; clear F; intro φ F
          refine qt_pure F (wt0 rfl) (pu_pickf rfl (F.ev rfl) (evk)) rfl rfl ?_; clear F; intro φ F
          refine qt_pure F (wt0 rfl) (pu_move rfl (F.ev rfl)) rfl rfl ?_; clear F; intro φ F
          refine qt_skip F (wtn F rfl rfl rfl rfl rfl) rfl rfl ?_; clear F; intro φ F
          refine qt_skip F (wtn F rfl rfl rfl rfl rfl) rfl rfl ?_; clear F; intro φ F
          refine qt_skip F (wtn F rfl rfl rfl rfl rfl) rfl rfl ?_; clear F; intro φ F
          refine qt_skip F (wtn F rfl rfl rfl rfl rfl) rfl rfl ?_; clear F; intro φ F
          refine qt_skip F (wtn F rfl rfl rfl rfl rfl) rfl rfl ?_; clear F; intro φ F
          refine qt_pure F (wt0 rfl) (pu_pickf rfl (F.ev rfl) (evk)) rfl rfl ?_; clear F; intro φ F
          refine qt_pure F (wt0 rfl) (pu_assign rfl (F.ev rfl)) rfl rfl ?_; clear F; intro φ F
          refine wpQuiet_nil ?_
          clear M; intro ω M
          refine nxq ?_
          refine wp_ret ?_
          refine rt_tmp F rfl rfl ?_
          exfalso; clear F M; omega
        · rw [hs33] at F
          have hs33i := le_t hs33; (try dsimp only at hs33i)
          refine qt_rd F (wt1 F rfl rfl rfl rfl rfl) (ld_agg rfl (F.ev rfl) agg23 (M.rdB (i := 0) rfl) rfl) rfl rfl ?_; clear F; intro φ F
          refine qt_rd F (wt1 F rfl rfl rfl rfl rfl) (ld_agg rfl (F.ev rfl) agg23 (M.rdB (i := 4) rfl) rfl) rfl rfl ?_; clear F; intro φ F
          refine qt_call F (wt1 F rfl rfl rfl rfl rfl) rfl en15 (evc (F.ev rfl) (evc (F.ev rfl) evn)) (fun w' h => calls_below h (le_any (a.meet b) a w')) rfl rfl ?_; clear F; intro φ F
          refine qt_pure F (wt0 rfl) (pu_pickt rfl (F.ev rfl) (F.ev rfl)) rfl rfl ?_; clear F; intro φ F
          refine qt_pure F (wt0 rfl) (pu_move rfl (F.ev rfl)) rfl rfl ?_; clear F; intro φ F
          cases hs34 : ((a.meet b).leB a)
          · rw [hs34] at F
            have hs34i := le_f hs34; (try dsimp only at hs34i)
            refine qt_skip F (wtn F rfl rfl rfl rfl rfl) rfl rfl ?_; clear F; intro φ F
            refine qt_skip F (wtn F rfl rfl rfl rfl rfl) rfl rfl ?_; clear F; intro φ F
            refine qt_skip F (wtn F rfl rfl rfl rfl rfl) rfl rfl ?_; clear F; intro φ F
            refine qt_pure F (wt0 rfl) (pu_pickf rfl (F.ev rfl) (evk)) rfl rfl ?_; clear F; intro φ F
            refine qt_pure F (wt0 rfl) (pu_move rfl (F.ev rfl)) rfl rfl ?_; clear F; intro φ F
            refine qt_skip F (wtn F rfl rfl rfl rfl rfl) rfl rfl ?_; clear F; intro φ F
            refine qt_skip F (wtn F rfl rfl rfl rfl rfl) rfl rfl ?_; clear F; intro φ F
            refine qt_skip F (wtn F rfl rfl rfl rfl rfl) rfl rfl ?_; clear F; intro φ F
            refine qt_skip F (wtn F rfl rfl rfl rfl rfl) rfl rfl ?_; clear F; intro φ F
            refine qt_skip F (wtn F rfl rfl rfl rfl rfl) rfl rfl ?_; clear F; intro φ F
            refine qt_pure F (wt0 rfl) (pu_pickf rfl (F.ev rfl) (evk)) rfl rfl ?_; clear F; intro φ F
            refine qt_pure F (wt0 rfl) (pu_move rfl (F.ev rfl)) rfl rfl ?_; clear F; intro φ F
            refine qt_skip F (wtn F rfl rfl rfl rfl rfl) rfl rfl ?_; clear F; intro φ F
            refine qt_skip F (wtn F rfl rfl rfl rfl rfl) rfl rfl ?_; clear F; intro φ F
            refine qt_skip F (wtn F rfl rfl rfl rfl rfl) rfl rfl ?_; clear F; intro φ F
            refine qt_skip F (wtn F rfl rfl rfl rfl rfl) rfl rfl ?_; clear F; intro φ F
            refine qt_skip F (wtn F rfl rfl rfl rfl rfl) rfl rfl ?_; clear F; intro φ F
            refine qt_pure F (wt0 rfl) (pu_pickf rfl (F.ev rfl) (evk)) rfl rfl ?_; clear F; intro φ F
            refine qt_pure F (wt0 rfl) (pu_move rfl (F.ev rfl)) rfl rfl ?_; clear F; intro φ F
            refine qt_skip F (wtn F rfl rfl rfl rfl rfl) rfl rfl ?_; clear F; intro φ F
            refine qt_skip F (wtn F rfl rfl rfl rfl rfl) rfl rfl ?_; clear F; intro φ F
            refine qt_skip F (wtn F rfl rfl rfl rfl rfl) rfl rfl ?_; clear F; intro φ F
            refine qt_skip F (wtn F rfl rfl rfl rfl rfl) rfl rfl ?_; clear F; intro φ F
            refine qt_skip F (wtn F rfl rfl rfl rfl rfl) rfl rfl ?_; clear F; intro φ F
            refine qt_pure F (wt0 rfl) (pu_pickf rfl (F.ev rfl) (evk)) rfl rfl ?_; clear F; intro φ F
            refine qt_pure F (wt0 rfl) (pu_assign rfl (F.ev rfl)) rfl rfl ?_; clear F; intro φ F
            refine wpQuiet_nil ?_
            clear M; intro ω M
            refine nxq ?_
            refine wp_ret ?_
            refine rt_tmp F rfl rfl ?_
            exfalso; clear F M; omega
          · rw [hs34] at F
            have hs34i := le_t hs34; (try dsimp only at hs34i)
            refine qt_rd F (wt1 F rfl rfl rfl rfl rfl) (ld_agg rfl (F.ev rfl) agg23 (M.rdB (i := 0) rfl) rfl) rfl rfl ?_; clear F; intro φ F
            refine qt_rd F (wt1 F rfl rfl rfl rfl rfl) (ld_agg rfl (F.ev rfl) agg23 (M.rdB (i := 3) rfl) rfl) rfl rfl ?_; clear F; intro φ F
            refine qt_call F (wt1 F rfl rfl rfl rfl rfl) rfl en15 (evc (F.ev rfl) (evc (F.ev rfl) evn)) (fun w' h => calls_below h (le_any (a.meet b) b w')) rfl rfl ?_; clear F; intro φ F
            refine qt_pure F (wt0 rfl) (pu_pickt rfl (F.ev rfl) (F.ev rfl)) rfl rfl ?_; clear F; intro φ F
            refine qt_pure F (wt0 rfl) (pu_move rfl (F.ev rfl)) rfl rfl ?_; clear F; intro φ F
            cases hs35 : ((a.meet b).leB b)
            · rw [hs35] at F
              have hs35i := le_f hs35; (try dsimp only at hs35i)
              refine qt_skip F (wtn F rfl rfl rfl rfl rfl) rfl rfl ?_; clear F; intro φ F
              refine qt_skip F (wtn F rfl rfl rfl rfl rfl) rfl rfl ?_; clear F; intro φ F
              refine qt_skip F (wtn F rfl rfl rfl rfl rfl) rfl rfl ?_; clear F; intro φ F
              refine qt_skip F (wtn F rfl rfl rfl rfl rfl) rfl rfl ?_; clear F; intro φ F
              refine qt_skip F (wtn F rfl rfl rfl rfl rfl) rfl rfl ?_; clear F; intro φ F
              refine qt_pure F (wt0 rfl) (pu_pickf rfl (F.ev rfl) (evk)) rfl rfl ?_; clear F; intro φ F
              refine qt_pure F (wt0 rfl) (pu_move rfl (F.ev rfl)) rfl rfl ?_; clear F; intro φ F
              refine qt_skip F (wtn F rfl rfl rfl rfl rfl) rfl rfl ?_; clear F; intro φ F
              refine qt_skip F (wtn F rfl rfl rfl rfl rfl) rfl rfl ?_; clear F; intro φ F
              refine qt_skip F (wtn F rfl rfl rfl rfl rfl) rfl rfl ?_; clear F; intro φ F
              refine qt_skip F (wtn F rfl rfl rfl rfl rfl) rfl rfl ?_; clear F; intro φ F
              refine qt_skip F (wtn F rfl rfl rfl rfl rfl) rfl rfl ?_; clear F; intro φ F
              refine qt_pure F (wt0 rfl) (pu_pickf rfl (F.ev rfl) (evk)) rfl rfl ?_; clear F; intro φ F
              refine qt_pure F (wt0 rfl) (pu_move rfl (F.ev rfl)) rfl rfl ?_; clear F; intro φ F
              refine qt_skip F (wtn F rfl rfl rfl rfl rfl) rfl rfl ?_; clear F; intro φ F
              refine qt_skip F (wtn F rfl rfl rfl rfl rfl) rfl rfl ?_; clear F; intro φ F
              refine qt_skip F (wtn F rfl rfl rfl rfl rfl) rfl rfl ?_; clear F; intro φ F
              refine qt_skip F (wtn F rfl rfl rfl rfl rfl) rfl rfl ?_; clear F; intro φ F
              refine qt_skip F (wtn F rfl rfl rfl rfl rfl) rfl rfl ?_; clear F; intro φ F
              refine qt_pure F (wt0 rfl) (pu_pickf rfl (F.ev rfl) (evk)) rfl rfl ?_; clear F; intro φ F
              refine qt_pure F (wt0 rfl) (pu_assign rfl (F.ev rfl)) rfl rfl ?_; clear F; intro φ F
              refine wpQuiet_nil ?_
              clear M; intro ω M
              refine nxq ?_
              refine wp_ret ?_
              refine rt_tmp F rfl rfl ?_
              exfalso; clear F M; omega
            · rw [hs35] at F
              have hs35i := le_t hs35; (try dsimp only at hs35i)
              refine qt_rd F (wt1 F rfl rfl rfl rfl rfl) (ld_agg rfl (F.ev rfl) agg23 (M.rdB (i := 1) rfl) rfl) rfl rfl ?_; clear F; intro φ F
              refine qt_rd F (wt1 F rfl rfl rfl rfl rfl) (ld_agg rfl (F.ev rfl) agg23 (M.rdB (i := 2) rfl) rfl) rfl rfl ?_; clear F; intro φ F
              refine qt_call F (wt1 F rfl rfl rfl rfl rfl) rfl en15 (evc (F.ev rfl) (evc (F.ev rfl) evn)) (fun w' h => calls_below h (le_any (a.join b) c w')) rfl rfl ?_; clear F; intro φ F
              refine qt_pure F (wt1 F rfl rfl rfl rfl rfl) (pu_move rfl (F.ev rfl)) rfl rfl ?_; clear F; intro φ F
              cases hs36 : ((a.join b).leB c)
              · rw [hs36] at F
                have hs36i := le_f hs36; (try dsimp only at hs36i)
                cases hs37 : (b.leB c)
                · rw [hs37] at F
                  have hs37i := le_f hs37; (try dsimp only at hs37i)
                  refine qt_pure F (wt1 F rfl rfl rfl rfl rfl) (pu_eqlB rfl (F.ev rfl) (F.ev rfl) Try.underlying4) rfl rfl ?_; clear F; intro φ F
                  rw [show (false == false) = true from rfl] at F
                  refine qt_pure F (wt0 rfl) (pu_pickt rfl (F.ev rfl) (F.ev rfl)) rfl rfl ?_; clear F; intro φ F
                  refine qt_pure F (wt0 rfl) (pu_move rfl (F.ev rfl)) rfl rfl ?_; clear F; intro φ F
                  refine qt_rd F (wt1 F rfl rfl rfl rfl rfl) (ld_agg rfl (F.ev rfl) agg23 (M.rdB (i := 2) rfl) rfl) rfl rfl ?_; clear F; intro φ F
                  refine qt_rd F (wt1 F rfl rfl rfl rfl rfl) (ld_agg rfl (F.ev rfl) agg23 (M.rdB (i := 0) rfl) rfl) rfl rfl ?_; clear F; intro φ F
                  refine qt_call F (wt1 F rfl rfl rfl rfl rfl) rfl en15 (evc (F.ev rfl) (evc (F.ev rfl) evn)) (fun w' h => calls_below h (le_any c (a.meet b) w')) rfl rfl ?_; clear F; intro φ F
                  refine qt_pure F (wt1 F rfl rfl rfl rfl rfl) (pu_move rfl (F.ev rfl)) rfl rfl ?_; clear F; intro φ F
                  cases hs38 : (c.leB (a.meet b))
                  · rw [hs38] at F
                    have hs38i := le_f hs38; (try dsimp only at hs38i)
                    cases hs39 : (c.leB b)
                    · rw [hs39] at F
                      have hs39i := le_f hs39; (try dsimp only at hs39i)
                      refine qt_pure F (wt1 F rfl rfl rfl rfl rfl) (pu_eqlB rfl (F.ev rfl) (F.ev rfl) Try.underlying4) rfl rfl ?_; clear F; intro φ F
                      rw [show (false == false) = true from rfl] at F
                      refine qt_pure F (wt0 rfl) (pu_pickt rfl (F.ev rfl) (F.ev rfl)) rfl rfl ?_; clear F; intro φ F
                      refine qt_pure F (wt0 rfl) (pu_move rfl (F.ev rfl)) rfl rfl ?_; clear F; intro φ F
                      refine qt_rd F (wt1 F rfl rfl rfl rfl rfl) (ld_agg rfl (F.ev rfl) agg23 (M.rdB (i := 3) rfl) rfl) rfl rfl ?_; clear F; intro φ F
                      refine qt_rd F (wt1 F rfl rfl rfl rfl rfl) (ld_agg rfl (F.ev rfl) agg23 (M.rdB (i := 4) rfl) rfl) rfl rfl ?_; clear F; intro φ F
                      refine qt_call F (wt1 F rfl rfl rfl rfl rfl) rfl en18 (evc (F.ev rfl) (evc (F.ev rfl) evn)) (fun w' h => calls_below h (join_any b a w')) rfl rfl ?_; clear F; intro φ F
                      refine qt_rd F (wt1 F rfl rfl rfl rfl rfl) (ld_agg rfl (F.ev rfl) agg23 (M.rdB (i := 1) rfl) rfl) rfl rfl ?_; clear F; intro φ F
                      refine qt_pure F (wt1 F rfl rfl rfl rfl rfl) (pu_eqlA rfl (F.ev rfl) (F.ev rfl) eqg23 (fun w => eqS23 (b.join a) (a.join b) w)) rfl rfl ?_; clear F; intro φ F
                      refine qt_pure F (wt0 rfl) (pu_pickt rfl (F.ev rfl) (F.ev rfl)) rfl rfl ?_; clear F; intro φ F
                      refine qt_pure F (wt0 rfl) (pu_assign rfl (F.ev rfl)) rfl rfl ?_; clear F; intro φ F
                      refine wpQuiet_nil ?_
                      clear M; intro ω M
                      refine nxq ?_
                      cases hs40 : (decide ((b.join a) = (a.join b)))
                      · rw [hs40] at F
                        have hs40i := eq_f hs40; (try dsimp only at hs40i)
                        refine wp_ret ?_
                        refine rt_tmp F rfl rfl ?_
                        exfalso; clear F M; omega
                      · rw [hs40] at F
                        have hs40i := eq_t hs40; (try dsimp only at hs40i)
                        refine wp_ret ?_
                        refine rt_tmp F rfl rfl ?_
                        exact ⟨rfl, M.bel⟩
                    · rw [hs39] at F
                      have hs39i := le_t hs39; (try dsimp only at hs39i)
                      refine qt_pure F (wt1 F rfl rfl rfl rfl rfl) (pu_eqlB rfl (F.ev rfl) (F.ev rfl) Try.underlying4) rfl rfl ?_; clear F; intro φ F
                      rw [show (false == true) = false from rfl] at F
                      refine qt_pure F (wt0 rfl) (pu_pickt rfl (F.ev rfl) (F.ev rfl)) rfl rfl ?_; clear F; intro φ F
                      refine qt_pure F (wt0 rfl) (pu_move rfl (F.ev rfl)) rfl rfl ?_; clear F; intro φ F
                      refine qt_skip F (wtn F rfl rfl rfl rfl rfl) rfl rfl ?_; clear F; intro φ F
                      refine qt_skip F (wtn F rfl rfl rfl rfl rfl) rfl rfl ?_; clear F; intro φ F
                      refine qt_skip F (wtn F rfl rfl rfl rfl rfl) rfl rfl ?_; clear F; intro φ F
                      refine qt_skip F (wtn F rfl rfl rfl rfl rfl) rfl rfl ?_; clear F; intro φ F
                      refine qt_skip F (wtn F rfl rfl rfl rfl rfl) rfl rfl ?_; clear F; intro φ F
                      refine qt_pure F (wt0 rfl) (pu_pickf rfl (F.ev rfl) (evk)) rfl rfl ?_; clear F; intro φ F
                      refine qt_pure F (wt0 rfl) (pu_assign rfl (F.ev rfl)) rfl rfl ?_; clear F; intro φ F
                      refine wpQuiet_nil ?_
                      clear M; intro ω M
                      refine nxq ?_
                      refine wp_ret ?_
                      refine rt_tmp F rfl rfl ?_
                      exfalso; clear F M; omega
                  · rw [hs38] at F
                    have hs38i := le_t hs38; (try dsimp only at hs38i)
                    cases hs41 : (c.leB b)
                    · rw [hs41] at F
                      have hs41i := le_f hs41; (try dsimp only at hs41i)
                      refine qt_pure F (wt1 F rfl rfl rfl rfl rfl) (pu_eqlB rfl (F.ev rfl) (F.ev rfl) Try.underlying4) rfl rfl ?_; clear F; intro φ F
                      rw [show (true == false) = false from rfl] at F
                      refine qt_pure F (wt0 rfl) (pu_pickt rfl (F.ev rfl) (F.ev rfl)) rfl rfl ?_; clear F; intro φ F
                      refine qt_pure F (wt0 rfl) (pu_move rfl (F.ev rfl)) rfl rfl ?_; clear F; intro φ F
                      refine qt_skip F (wtn F rfl rfl rfl rfl rfl) rfl rfl ?_; clear F; intro φ F
                      refine qt_skip F (wtn F rfl rfl rfl rfl rfl) rfl rfl ?_; clear F; intro φ F
                      refine qt_skip F (wtn F rfl rfl rfl rfl rfl) rfl rfl ?_; clear F; intro φ F
                      refine qt_skip F (wtn F rfl rfl rfl rfl rfl) rfl rfl ?_; clear F; intro φ F
                      refine qt_skip F (wtn F rfl rfl rfl rfl rfl) rfl rfl ?_; clear F; intro φ F
                      refine qt_pure F (wt0 rfl) (pu_pickf rfl (F.ev rfl) (evk)) rfl rfl ?_; clear F; intro φ F
                      refine qt_pure F (wt0 rfl) (pu_assign rfl (F.ev rfl)) rfl rfl ?_; clear F; intro φ F
                      refine wpQuiet_nil ?_
                      clear M; intro ω M
                      refine nxq ?_
                      refine wp_ret ?_
                      refine rt_tmp F rfl rfl ?_
                      exfalso; clear F M; omega
                    · rw [hs41] at F
                      have hs41i := le_t hs41; (try dsimp only at hs41i)
                      refine qt_pure F (wt1 F rfl rfl rfl rfl rfl) (pu_eqlB rfl (F.ev rfl) (F.ev rfl) Try.underlying4) rfl rfl ?_; clear F; intro φ F
                      rw [show (true == true) = true from rfl] at F
                      refine qt_pure F (wt0 rfl) (pu_pickt rfl (F.ev rfl) (F.ev rfl)) rfl rfl ?_; clear F; intro φ F
                      refine qt_pure F (wt0 rfl) (pu_move rfl (F.ev rfl)) rfl rfl ?_; clear F; intro φ F
                      refine qt_rd F (wt1 F rfl rfl rfl rfl rfl) (ld_agg rfl (F.ev rfl) agg23 (M.rdB (i := 3) rfl) rfl) rfl rfl ?_; clear F; intro φ F
                      refine qt_rd F (wt1 F rfl rfl rfl rfl rfl) (ld_agg rfl (F.ev rfl) agg23 (M.rdB (i := 4) rfl) rfl) rfl rfl ?_; clear F; intro φ F
                      refine qt_call F (wt1 F rfl rfl rfl rfl rfl) rfl en18 (evc (F.ev rfl) (evc (F.ev rfl) evn)) (fun w' h => calls_below h (join_any b a w')) rfl rfl ?_; clear F; intro φ F
                      refine qt_rd F (wt1 F rfl rfl rfl rfl rfl) (ld_agg rfl (F.ev rfl) agg23 (M.rdB (i := 1) rfl) rfl) rfl rfl ?_; clear F; intro φ F
                      refine qt_pure F (wt1 F rfl rfl rfl rfl rfl) (pu_eqlA rfl (F.ev rfl) (F.ev rfl) eqg23 (fun w => eqS23 (b.join a) (a.join b) w)) rfl rfl ?_; clear F; intro φ F
                      refine qt_pure F (wt0 rfl) (pu_pickt rfl (F.ev rfl) (F.ev rfl)) rfl rfl ?_; clear F; intro φ F
                      refine qt_pure F (wt0 rfl) (pu_assign rfl (F.ev rfl)) rfl rfl ?_; clear F; intro φ F
                      refine wpQuiet_nil ?_
                      clear M; intro ω M
                      refine nxq ?_
                      cases hs42 : (decide ((b.join a) = (a.join b)))
                      · rw [hs42] at F
                        have hs42i := eq_f hs42; (try dsimp only at hs42i)
                        refine wp_ret ?_
                        refine rt_tmp F rfl rfl ?_
                        exfalso; clear F M; omega
                      · rw [hs42] at F
                        have hs42i := eq_t hs42; (try dsimp only at hs42i)
                        refine wp_ret ?_
                        refine rt_tmp F rfl rfl ?_
                        exact ⟨rfl, M.bel⟩
                · rw [hs37] at F
                  have hs37i := le_t hs37; (try dsimp only at hs37i)
                  refine qt_pure F (wt1 F rfl rfl rfl rfl rfl) (pu_eqlB rfl (F.ev rfl) (F.ev rfl) Try.underlying4) rfl rfl ?_; clear F; intro φ F
                  rw [show (false == true) = false from rfl] at F
                  refine qt_pure F (wt0 rfl) (pu_pickt rfl (F.ev rfl) (F.ev rfl)) rfl rfl ?_; clear F; intro φ F
                  refine qt_pure F (wt0 rfl) (pu_move rfl (F.ev rfl)) rfl rfl ?_; clear F; intro φ F
                  refine qt_skip F (wtn F rfl rfl rfl rfl rfl) rfl rfl ?_; clear F; intro φ F
                  refine qt_skip F (wtn F rfl rfl rfl rfl rfl) rfl rfl ?_; clear F; intro φ F
                  refine qt_skip F (wtn F rfl rfl rfl rfl rfl) rfl rfl ?_; clear F; intro φ F
                  refine qt_skip F (wtn F rfl rfl rfl rfl rfl) rfl rfl ?_; clear F; intro φ F
                  refine qt_skip F (wtn F rfl rfl rfl rfl rfl) rfl rfl ?_; clear F; intro φ F
                  refine qt_pure F (wt0 rfl) (pu_pickf rfl (F.ev rfl) (evk)) rfl rfl ?_; clear F; intro φ F
                  refine qt_pure F (wt0 rfl) (pu_move rfl (F.ev rfl)) rfl rfl ?_; clear F; intro φ F
                  refine qt_skip F (wtn F rfl rfl rfl rfl rfl) rfl rfl ?_; clear F; intro φ F
                  refine qt_skip F (wtn F rfl rfl rfl rfl rfl) rfl rfl ?_; clear F; intro φ F
                  refine qt_skip F (wtn F rfl rfl rfl rfl rfl) rfl rfl ?_; clear F; intro φ F
                  refine qt_skip F (wtn F rfl rfl rfl rfl rfl) rfl rfl ?_; clear F; intro φ F
                  refine qt_skip F (wtn F rfl rfl rfl rfl rfl) rfl rfl ?_; clear F; intro φ F
                  refine qt_pure F (wt0 rfl) (pu_pickf rfl (F.ev rfl) (evk)) rfl rfl ?_; clear F; intro φ F
                  refine qt_pure F (wt0 rfl) (pu_assign rfl (F.ev rfl)) rfl rfl ?_; clear F; intro φ F
                  refine wpQuiet_nil ?_
                  clear M; intro ω M
                  refine nxq ?_
                  refine wp_ret ?_
                  refine rt_tmp F rfl rfl ?_
                  exfalso; clear F M; omega
              · rw [hs36] at F
                have hs36i := le_t hs36; (try dsimp only at hs36i)
                cases hs43 : (b.leB c)
                · rw [hs43] at F
                  have hs43i := le_f hs43; (try dsimp only at hs43i)
                  refine qt_pure F (wt1 F rfl rfl rfl rfl rfl) (pu_eqlB rfl (F.ev rfl) (F.ev rfl) Try.underlying4) rfl rfl ?_; clear F; intro φ F
                  rw [show (true == false) = false from rfl] at F
                  refine qt_pure F (wt0 rfl) (pu_pickt rfl (F.ev rfl) (F.ev rfl)) rfl rfl ?_; clear F; intro φ F
                  refine qt_pure F (wt0 rfl) (pu_move rfl (F.ev rfl)) rfl rfl ?_; clear F; intro φ F
                  refine qt_skip F (wtn F rfl rfl rfl rfl rfl) rfl rfl ?_; clear F; intro φ F
                  refine qt_skip F (wtn F rfl rfl rfl rfl rfl) rfl rfl ?_; clear F; intro φ F
                  refine qt_skip F (wtn F rfl rfl rfl rfl rfl) rfl rfl ?_; clear F; intro φ F
                  refine qt_skip F (wtn F rfl rfl rfl rfl rfl) rfl rfl ?_; clear F; intro φ F
                  refine qt_skip F (wtn F rfl rfl rfl rfl rfl) rfl rfl ?_; clear F; intro φ F
                  refine qt_pure F (wt0 rfl) (pu_pickf rfl (F.ev rfl) (evk)) rfl rfl ?_; clear F; intro φ F
                  refine qt_pure F (wt0 rfl) (pu_move rfl (F.ev rfl)) rfl rfl ?_; clear F; intro φ F
                  refine qt_skip F (wtn F rfl rfl rfl rfl rfl) rfl rfl ?_; clear F; intro φ F
                  refine qt_skip F (wtn F rfl rfl rfl rfl rfl) rfl rfl ?_; clear F; intro φ F
                  refine qt_skip F (wtn F rfl rfl rfl rfl rfl) rfl rfl ?_; clear F; intro φ F
                  refine qt_skip F (wtn F rfl rfl rfl rfl rfl) rfl rfl ?_; clear F; intro φ F
                  refine qt_skip F (wtn F rfl rfl rfl rfl rfl) rfl rfl ?_; clear F; intro φ F
                  refine qt_pure F (wt0 rfl) (pu_pickf rfl (F.ev rfl) (evk)) rfl rfl ?_; clear F; intro φ F
                  refine qt_pure F (wt0 rfl) (pu_assign rfl (F.ev rfl)) rfl rfl ?_; clear F; intro φ F
                  refine wpQuiet_nil ?_
                  clear M; intro ω M
                  refine nxq ?_
                  refine wp_ret ?_
                  refine rt_tmp F rfl rfl ?_
                  exfalso; clear F M; omega
                · rw [hs43] at F
                  have hs43i := le_t hs43; (try dsimp only at hs43i)
                  refine qt_pure F (wt1 F rfl rfl rfl rfl rfl) (pu_eqlB rfl (F.ev rfl) (F.ev rfl) Try.underlying4) rfl rfl ?_; clear F; intro φ F
                  rw [show (true == true) = true from rfl] at F
                  refine qt_pure F (wt0 rfl) (pu_pickt rfl (F.ev rfl) (F.ev rfl)) rfl rfl ?_; clear F; intro φ F
                  refine qt_pure F (wt0 rfl) (pu_move rfl (F.ev rfl)) rfl rfl ?_; clear F; intro φ F
                  refine qt_rd F (wt1 F rfl rfl rfl rfl rfl) (ld_agg rfl (F.ev rfl) agg23 (M.rdB (i := 2) rfl) rfl) rfl rfl ?_; clear F; intro φ F
                  refine qt_rd F (wt1 F rfl rfl rfl rfl rfl) (ld_agg rfl (F.ev rfl) agg23 (M.rdB (i := 0) rfl) rfl) rfl rfl ?_; clear F; intro φ F
                  refine qt_call F (wt1 F rfl rfl rfl rfl rfl) rfl en15 (evc (F.ev rfl) (evc (F.ev rfl) evn)) (fun w' h => calls_below h (le_any c (a.meet b) w')) rfl rfl ?_; clear F; intro φ F
                  refine qt_pure F (wt1 F rfl rfl rfl rfl rfl) (pu_move rfl (F.ev rfl)) rfl rfl ?_; clear F; intro φ F
                  cases hs44 : (c.leB (a.meet b))
                  · rw [hs44] at F
                    have hs44i := le_f hs44; (try dsimp only at hs44i)
                    cases hs45 : (c.leB b)
                    · rw [hs45] at F
                      have hs45i := le_f hs45; (try dsimp only at hs45i)
                      refine qt_pure F (wt1 F rfl rfl rfl rfl rfl) (pu_eqlB rfl (F.ev rfl) (F.ev rfl) Try.underlying4) rfl rfl ?_; clear F; intro φ F
                      rw [show (false == false) = true from rfl] at F
                      refine qt_pure F (wt0 rfl) (pu_pickt rfl (F.ev rfl) (F.ev rfl)) rfl rfl ?_; clear F; intro φ F
                      refine qt_pure F (wt0 rfl) (pu_move rfl (F.ev rfl)) rfl rfl ?_; clear F; intro φ F
                      refine qt_rd F (wt1 F rfl rfl rfl rfl rfl) (ld_agg rfl (F.ev rfl) agg23 (M.rdB (i := 3) rfl) rfl) rfl rfl ?_; clear F; intro φ F
                      refine qt_rd F (wt1 F rfl rfl rfl rfl rfl) (ld_agg rfl (F.ev rfl) agg23 (M.rdB (i := 4) rfl) rfl) rfl rfl ?_; clear F; intro φ F
                      refine qt_call F (wt1 F rfl rfl rfl rfl rfl) rfl en18 (evc (F.ev rfl) (evc (F.ev rfl) evn)) (fun w' h => calls_below h (join_any b a w')) rfl rfl ?_; clear F; intro φ F
                      refine qt_rd F (wt1 F rfl rfl rfl rfl rfl) (ld_agg rfl (F.ev rfl) agg23 (M.rdB (i := 1) rfl) rfl) rfl rfl ?_; clear F; intro φ F
                      refine qt_pure F (wt1 F rfl rfl rfl rfl rfl) (pu_eqlA rfl (F.ev rfl) (F.ev rfl) eqg23 (fun w => eqS23 (b.join a) (a.join b) w)) rfl rfl ?_; clear F; intro φ F
                      refine qt_pure F (wt0 rfl) (pu_pickt rfl (F.ev rfl) (F.ev rfl)) rfl rfl ?_; clear F; intro φ F
                      refine qt_pure F (wt0 rfl) (pu_assign rfl (F.ev rfl)) rfl rfl ?_; clear F; intro φ F
                      refine wpQuiet_nil ?_
                      clear M; intro ω M
                      refine nxq ?_
                      cases hs46 : (decide ((b.join a) = (a.join b)))
                      · rw [hs46] at F
                        have hs46i := eq_f hs46; (try dsimp only at hs46i)
                        refine wp_ret ?_
                        refine rt_tmp F rfl rfl ?_
                        exfalso; clear F M; omega
                      · rw [hs46] at F
                        have hs46i := eq_t hs46; (try dsimp only at hs46i)
                        refine wp_ret ?_
                        refine rt_tmp F rfl rfl ?_
                        exact ⟨rfl, M.bel⟩
                    · rw [hs45] at F
                      have hs45i := le_t hs45; (try dsimp only at hs45i)
                      refine qt_pure F (wt1 F rfl rfl rfl rfl rfl) (pu_eqlB rfl (F.ev rfl) (F.ev rfl) Try.underlying4) rfl rfl ?_; clear F; intro φ F
                      rw [show (false == true) = false from rfl] at F
                      refine qt_pure F (wt0 rfl) (pu_pickt rfl (F.ev rfl) (F.ev rfl)) rfl rfl ?_; clear F; intro φ F
                      refine qt_pure F (wt0 rfl) (pu_move rfl (F.ev rfl)) rfl rfl ?_; clear F; intro φ F
                      refine qt_skip F (wtn F rfl rfl rfl rfl rfl) rfl rfl ?_; clear F; intro φ F
                      refine qt_skip F (wtn F rfl rfl rfl rfl rfl) rfl rfl ?_; clear F; intro φ F
                      refine qt_skip F (wtn F rfl rfl rfl rfl rfl) rfl rfl ?_; clear F; intro φ F
                      refine qt_skip F (wtn F rfl rfl rfl rfl rfl) rfl rfl ?_; clear F; intro φ F
                      refine qt_skip F (wtn F rfl rfl rfl rfl rfl) rfl rfl ?_; clear F; intro φ F
                      refine qt_pure F (wt0 rfl) (pu_pickf rfl (F.ev rfl) (evk)) rfl rfl ?_; clear F; intro φ F
                      refine qt_pure F (wt0 rfl) (pu_assign rfl (F.ev rfl)) rfl rfl ?_; clear F; intro φ F
                      refine wpQuiet_nil ?_
                      clear M; intro ω M
                      refine nxq ?_
                      refine wp_ret ?_
                      refine rt_tmp F rfl rfl ?_
                      exfalso; clear F M; omega
                  · rw [hs44] at F
                    have hs44i := le_t hs44; (try dsimp only at hs44i)
                    cases hs47 : (c.leB b)
                    · rw [hs47] at F
                      have hs47i := le_f hs47; (try dsimp only at hs47i)
                      refine qt_pure F (wt1 F rfl rfl rfl rfl rfl) (pu_eqlB rfl (F.ev rfl) (F.ev rfl) Try.underlying4) rfl rfl ?_; clear F; intro φ F
                      rw [show (true == false) = false from rfl] at F
                      refine qt_pure F (wt0 rfl) (pu_pickt rfl (F.ev rfl) (F.ev rfl)) rfl rfl ?_; clear F; intro φ F
                      refine qt_pure F (wt0 rfl) (pu_move rfl (F.ev rfl)) rfl rfl ?_; clear F; intro φ F
                      refine qt_skip F (wtn F rfl rfl rfl rfl rfl) rfl rfl ?_; clear F; intro φ F
                      refine qt_skip F (wtn F rfl rfl rfl rfl rfl) rfl rfl ?_; clear F; intro φ F
                      refine qt_skip F (wtn F rfl rfl rfl rfl rfl) rfl rfl ?_; clear F; intro φ F
                      refine qt_skip F (wtn F rfl rfl rfl rfl rfl) rfl rfl ?_; clear F; intro φ F
                      refine qt_skip F (wtn F rfl rfl rfl rfl rfl) rfl rfl ?_; clear F; intro φ F
                      refine qt_pure F (wt0 rfl) (pu_pickf rfl (F.ev rfl) (evk)) rfl rfl ?_; clear F; intro φ F
                      refine qt_pure F (wt0 rfl) (pu_assign rfl (F.ev rfl)) rfl rfl ?_; clear F; intro φ F
                      refine wpQuiet_nil ?_
                      clear M; intro ω M
                      refine nxq ?_
                      refine wp_ret ?_
                      refine rt_tmp F rfl rfl ?_
                      exfalso; clear F M; omega
                    · rw [hs47] at F
                      have hs47i := le_t hs47; (try dsimp only at hs47i)
                      refine qt_pure F (wt1 F rfl rfl rfl rfl rfl) (pu_eqlB rfl (F.ev rfl) (F.ev rfl) Try.underlying4) rfl rfl ?_; clear F; intro φ F
                      rw [show (true == true) = true from rfl] at F
                      refine qt_pure F (wt0 rfl) (pu_pickt rfl (F.ev rfl) (F.ev rfl)) rfl rfl ?_; clear F; intro φ F
                      refine qt_pure F (wt0 rfl) (pu_move rfl (F.ev rfl)) rfl rfl ?_; clear F; intro φ F
                      refine qt_rd F (wt1 F rfl rfl rfl rfl rfl) (ld_agg rfl (F.ev rfl) agg23 (M.rdB (i := 3) rfl) rfl) rfl rfl ?_; clear F; intro φ F
                      refine qt_rd F (wt1 F rfl rfl rfl rfl rfl) (ld_agg rfl (F.ev rfl) agg23 (M.rdB (i := 4) rfl) rfl) rfl rfl ?_; clear F; intro φ F
                      refine qt_call F (wt1 F rfl rfl rfl rfl rfl) rfl en18 (evc (F.ev rfl) (evc (F.ev rfl) evn)) (fun w' h => calls_below h (join_any b a w')) rfl rfl ?_; clear F; intro φ F
                      refine qt_rd F (wt1 F rfl rfl rfl rfl rfl) (ld_agg rfl (F.ev rfl) agg23 (M.rdB (i := 1) rfl) rfl) rfl rfl ?_; clear F; intro φ F
                      refine qt_pure F (wt1 F rfl rfl rfl rfl rfl) (pu_eqlA rfl (F.ev rfl) (F.ev rfl) eqg23 (fun w => eqS23 (b.join a) (a.join b) w)) rfl rfl ?_; clear F; intro φ F
                      refine qt_pure F (wt0 rfl) (pu_pickt rfl (F.ev rfl) (F.ev rfl)) rfl rfl ?_; clear F; intro φ F
                      refine qt_pure F (wt0 rfl) (pu_assign rfl (F.ev rfl)) rfl rfl ?_; clear F; intro φ F
                      refine wpQuiet_nil ?_
                      clear M; intro ω M
                      refine nxq ?_
                      cases hs48 : (decide ((b.join a) = (a.join b)))
                      · rw [hs48] at F
                        have hs48i := eq_f hs48; (try dsimp only at hs48i)
                        refine wp_ret ?_
                        refine rt_tmp F rfl rfl ?_
                        exfalso; clear F M; omega
                      · rw [hs48] at F
                        have hs48i := eq_t hs48; (try dsimp only at hs48i)
                        refine wp_ret ?_
                        refine rt_tmp F rfl rfl ?_
                        exact ⟨rfl, M.bel⟩

end Go.Proofs.Ytolhinemfncejaa
