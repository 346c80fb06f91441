/- The walk of StampTells. Made by walks/stamp.py. -/
import Derived.Test.YtolhinemfncejaaSl
namespace Go.Proofs.Ytolhinemfncejaa
open Go.RowKit

set_option maxHeartbeats 4000000 in
theorem stampTells_walk (a b : St) (w : World) :
    Calls Try.prog 3 #[.agg #[.int .i64 a.e, .int .i64 a.r], .agg #[.int .i64 b.e, .int .i64 b.r]] w fun e w' => e = .returned (.bool true) ∧ Below w.heap.size w w' := by
  have q1 := cmp_spec a b
  have j0 := join_spec a b
  have j1 := join_spec b a
  have j2 := meet_spec a b
  refine enterF Try.func3 rfl 76 Try.ntmps3 [.agg #[.int .i64 a.e, .int .i64 a.r], .agg #[.int .i64 b.e, .int .i64 b.r]] rfl [(0, .agg #[.int .i64 a.e, .int .i64 a.r]), (1, .agg #[.int .i64 b.e, .int .i64 b.r])] rfl ?_
  intro φ F
  have M := Mm.start w
  refine wp_seq ?_
  -- region 0
  refine wp_region_lit ?_
  refine sq_box F M (wt0 rfl) rfl (F.ev rfl) (cs := #[.int .i64 a.e, .int .i64 a.r]) rfl rfl rfl ?_; clear F M; intro φ ω g1 F M
  refine sq_box F M (wt0 rfl) rfl (F.ev rfl) (cs := #[.int .i64 b.e, .int .i64 b.r]) rfl rfl rfl ?_; clear F M; intro φ ω g2 F M
  refine sq_pure F (wt0 rfl) (pu_assign rfl (evk)) rfl rfl ?_; clear F; intro φ F
  refine nx ?_
  refine wp_seq ?_
  -- region 1
  refine wp_region_lit ?_
  refine sq_call F M (wt0 rfl) rfl en11 evn (awake_any _) rfl rfl ?_; clear F M; intro φ ω F M
  refine sq_pure F (wt0 rfl) (pu_assign rfl (F.ev rfl)) rfl rfl ?_; clear F; intro φ F
  refine nx ?_
  refine wp_seq ?_
  -- region 2
  refine wp_region_lit ?_
  refine sq_pure F (wt0 rfl) (pu_assign rfl (evk)) rfl rfl ?_; clear F; intro φ F
  refine nx ?_
  refine wp_seq ?_
  refine wp_seq ?_
  -- region 3
  refine wp_region_lit ?_
  refine sq_rd F (wt0 rfl) (ld_agg rfl (F.ev rfl) agg23 (M.rd (i := 1) rfl) rfl) rfl rfl ?_; clear F; intro φ F
  refine sq_rd F (wt0 rfl) (ld_agg rfl (F.ev rfl) agg23 (M.rd (i := 0) rfl) rfl) rfl rfl ?_; clear F; intro φ F
  refine sq_call F M (wt0 rfl) rfl en12 (evc (F.ev rfl) (evc (F.ev rfl) evn)) (rahead_any a b _) rfl rfl ?_; clear F M; intro φ ω F M
  refine nx ?_
  cases hs1 : (a.aheadB b)
  · rw [hs1] at F
    have hs1i := ahead_f hs1; (try dsimp only at hs1i)
    refine wp_cond_false (F.ev rfl) ?_
    refine wp_skip ?_
    refine nxq ?_
    refine wp_seq ?_
    refine wp_seq ?_
    -- region 5
    refine wp_region_lit ?_
    refine sq_rd F (wt0 rfl) (ld_agg rfl (F.ev rfl) agg23 (M.rd (i := 0) rfl) rfl) rfl rfl ?_; clear F; intro φ F
    refine sq_rd F (wt0 rfl) (ld_agg rfl (F.ev rfl) agg23 (M.rd (i := 1) rfl) rfl) rfl rfl ?_; clear F; intro φ F
    refine sq_call F M (wt0 rfl) rfl en12 (evc (F.ev rfl) (evc (F.ev rfl) evn)) (rahead_any b a _) rfl rfl ?_; clear F M; intro φ ω F M
    refine nx ?_
    cases hs2 : (b.aheadB a)
    · rw [hs2] at F
      have hs2i := ahead_f hs2; (try dsimp only at hs2i)
      refine wp_cond_false (F.ev rfl) ?_
      refine wp_skip ?_
      refine nxq ?_
      refine wp_seq ?_
      -- region 7
      refine wp_region_lit ?_
      refine sq_pure F (wt0 rfl) (pu_field rfl (F.ev rfl) fo23_0) rfl rfl ?_; clear F; intro φ F
      refine sq_rd F (wt0 rfl) (ld_cell rfl (F.ev rfl) one3 (M.rd (i := 1) rfl) rfl) rfl rfl ?_; clear F; intro φ F
      refine sq_pure F (wt0 rfl) (pu_field rfl (F.ev rfl) fo23_0) rfl rfl ?_; clear F; intro φ F
      refine sq_rd F (wt0 rfl) (ld_cell rfl (F.ev rfl) one3 (M.rd (i := 0) rfl) rfl) rfl rfl ?_; clear F; intro φ F
      refine sq_pure F (wt0 rfl) (pu_max rfl (F.ev rfl) (F.ev rfl)) rfl rfl ?_; clear F; intro φ F
      refine sq_pure F (wt0 rfl) (pu_field rfl (F.ev rfl) fo23_1) rfl rfl ?_; clear F; intro φ F
      refine sq_rd F (wt0 rfl) (ld_cell rfl (F.ev rfl) one3 (M.rd (i := 1) rfl) rfl) rfl rfl ?_; clear F; intro φ F
      refine sq_pure F (wt0 rfl) (pu_field rfl (F.ev rfl) fo23_1) rfl rfl ?_; clear F; intro φ F
      refine sq_rd F (wt0 rfl) (ld_cell rfl (F.ev rfl) one3 (M.rd (i := 0) rfl) rfl) rfl rfl ?_; clear F; intro φ F
      refine sq_pure F (wt0 rfl) (pu_max rfl (F.ev rfl) (F.ev rfl)) rfl rfl ?_; clear F; intro φ F
      refine sq_pure F (wt0 rfl) (bu23_2 rfl (F.ev rfl) (F.ev rfl)) rfl rfl ?_; clear F; intro φ F
      refine sq_alloc F M (wt0 rfl) rfl z23 rfl rfl ?_; clear F M; intro φ ω g3 F M
      refine sq_stA F M (wt0 rfl) rfl (F.ev rfl) (F.ev rfl) (i := 0) rfl agg23 rfl rfl rfl rfl ?_; clear M; intro ω M
      refine nx ?_
      refine wp_seq ?_
      -- region 8
      refine wp_region_lit ?_
      refine sq_pure F (wt0 rfl) (pu_field rfl (F.ev rfl) fo23_0) rfl rfl ?_; clear F; intro φ F
      refine sq_rd F (wt0 rfl) (ld_cell rfl (F.ev rfl) one3 (M.rd (i := 2) rfl) rfl) rfl rfl ?_; clear F; intro φ F
      refine sq_pure F (wt0 rfl) (pu_field rfl (F.ev rfl) fo23_0) rfl rfl ?_; clear F; intro φ F
      refine sq_rd F (wt0 rfl) (ld_cell rfl (F.ev rfl) one3 (M.rd (i := 1) rfl) rfl) rfl rfl ?_; clear F; intro φ F
      refine sq_pure F (wt0 rfl) (pu_min rfl (F.ev rfl) (F.ev rfl)) rfl rfl ?_; clear F; intro φ F
      refine sq_pure F (wt0 rfl) (pu_field rfl (F.ev rfl) fo23_1) rfl rfl ?_; clear F; intro φ F
      refine sq_rd F (wt0 rfl) (ld_cell rfl (F.ev rfl) one3 (M.rd (i := 2) rfl) rfl) rfl rfl ?_; clear F; intro φ F
      refine sq_pure F (wt0 rfl) (pu_field rfl (F.ev rfl) fo23_1) rfl rfl ?_; clear F; intro φ F
      refine sq_rd F (wt0 rfl) (ld_cell rfl (F.ev rfl) one3 (M.rd (i := 1) rfl) rfl) rfl rfl ?_; clear F; intro φ F
      refine sq_pure F (wt0 rfl) (pu_min rfl (F.ev rfl) (F.ev rfl)) rfl rfl ?_; clear F; intro φ F
      refine sq_pure F (wt0 rfl) (bu23_2 rfl (F.ev rfl) (F.ev rfl)) rfl rfl ?_; clear F; intro φ F
      refine sq_alloc F M (wt0 rfl) rfl z23 rfl rfl ?_; clear F M; intro φ ω g4 F M
      refine sq_stA F M (wt0 rfl) rfl (F.ev rfl) (F.ev rfl) (i := 0) rfl agg23 rfl rfl rfl rfl ?_; clear M; intro ω M
      refine nx ?_
      refine wp_seq ?_
      -- region 9
      refine rg_quiet M mixedOK (by kernel_rfl) ?_
      refine qt_pure F (wt0 rfl) (pu_move rfl (F.ev rfl)) rfl rfl ?_; clear F; intro φ F
      refine qt_pure F (wt0 rfl) (pu_move rfl (F.ev rfl)) rfl rfl ?_; clear F; intro φ F
      refine qt_rd F (wt1 F rfl rfl rfl rfl rfl) (ld_agg rfl (F.ev rfl) agg23 (M.rdB (i := 3) rfl) rfl) rfl rfl ?_; clear F; intro φ F
      refine qt_call F (wt1 F rfl rfl rfl rfl rfl) rfl en13 (evc (F.ev rfl) evn) (fun w' h => calls_below h (right_any a w')) rfl rfl ?_; clear F; intro φ F
      refine qt_rd F (wt1 F rfl rfl rfl rfl rfl) (ld_agg rfl (F.ev rfl) agg23 (M.rdB (i := 3) rfl) rfl) rfl rfl ?_; clear F; intro φ F
      refine qt_call F (wt1 F rfl rfl rfl rfl rfl) rfl en14 (evc (F.ev rfl) evn) (fun w' h => calls_below h (rright_any a w')) rfl rfl ?_; clear F; intro φ F
      cases hs3 : a.rightB
      · rw [hs3] at F
        have hs3i := right_f hs3; (try dsimp only at hs3i)
        refine qt_pure F (wt1 F rfl rfl rfl rfl rfl) (pu_eqlB rfl (F.ev rfl) (F.ev rfl) Try.underlying4) rfl rfl ?_; clear F; intro φ F
        rw [show (false == false) = true from rfl] at F
        refine qt_pure F (wt0 rfl) (pu_pickt rfl (F.ev rfl) (F.ev rfl)) rfl rfl ?_; clear F; intro φ F
        refine qt_pure F (wt0 rfl) (pu_move rfl (F.ev rfl)) rfl rfl ?_; clear F; intro φ F
        refine qt_rd F (wt1 F rfl rfl rfl rfl rfl) (ld_agg rfl (F.ev rfl) agg23 (M.rdB (i := 3) rfl) rfl) rfl rfl ?_; clear F; intro φ F
        refine qt_rd F (wt1 F rfl rfl rfl rfl rfl) (ld_agg rfl (F.ev rfl) agg23 (M.rdB (i := 2) rfl) rfl) rfl rfl ?_; clear F; intro φ F
        refine qt_call F (wt1 F rfl rfl rfl rfl rfl) rfl en15 (evc (F.ev rfl) (evc (F.ev rfl) evn)) (fun w' h => calls_below h (le_any a b w')) rfl rfl ?_; clear F; intro φ F
        refine qt_rd F (wt1 F rfl rfl rfl rfl rfl) (ld_agg rfl (F.ev rfl) agg23 (M.rdB (i := 3) rfl) rfl) rfl rfl ?_; clear F; intro φ F
        refine qt_rd F (wt1 F rfl rfl rfl rfl rfl) (ld_agg rfl (F.ev rfl) agg23 (M.rdB (i := 2) rfl) rfl) rfl rfl ?_; clear F; intro φ F
        refine qt_call F (wt1 F rfl rfl rfl rfl rfl) rfl en16 (evc (F.ev rfl) (evc (F.ev rfl) evn)) (fun w' h => calls_below h (rle_any a b w')) rfl rfl ?_; clear F; intro φ F
        cases hs4 : (a.leB b)
        · rw [hs4] at F
          have hs4i := le_f hs4; (try dsimp only at hs4i)
          refine qt_pure F (wt1 F rfl rfl rfl rfl rfl) (pu_eqlB rfl (F.ev rfl) (F.ev rfl) Try.underlying4) rfl rfl ?_; clear F; intro φ F
          rw [show (false == false) = true from rfl] at F
          refine qt_pure F (wt0 rfl) (pu_pickt rfl (F.ev rfl) (F.ev rfl)) rfl rfl ?_; clear F; intro φ F
          refine qt_pure F (wt0 rfl) (pu_move rfl (F.ev rfl)) rfl rfl ?_; clear F; intro φ F
          refine qt_rd F (wt1 F rfl rfl rfl rfl rfl) (ld_agg rfl (F.ev rfl) agg23 (M.rdB (i := 3) rfl) rfl) rfl rfl ?_; clear F; intro φ F
          refine qt_rd F (wt1 F rfl rfl rfl rfl rfl) (ld_agg rfl (F.ev rfl) agg23 (M.rdB (i := 2) rfl) rfl) rfl rfl ?_; clear F; intro φ F
          refine qt_call F (wt1 F rfl rfl rfl rfl rfl) rfl en17 (evc (F.ev rfl) (evc (F.ev rfl) evn)) (fun w' h => calls_below h (cmp_any a b w')) rfl rfl ?_; clear F; intro φ F
          refine qt_pure F (wt1 F rfl rfl rfl rfl rfl) (pu_move rfl (F.ev rfl)) rfl rfl ?_; clear F; intro φ F
          refine qt_pure F (wt1 F rfl rfl rfl rfl rfl) (pu_eqlI rfl (F.ev rfl) (F.ev rfl)) rfl rfl ?_; clear F; intro φ F
          refine qt_pure F (wt0 rfl) (pu_pickt rfl (F.ev rfl) (F.ev rfl)) rfl rfl ?_; clear F; intro φ F
          refine qt_pure F (wt0 rfl) (pu_move rfl (F.ev rfl)) rfl rfl ?_; clear F; intro φ F
          cases hs5 : (decide (a.cmp b = 0))
          · rw [hs5] at F
            have hs5i := of_decide_eq_false hs5; (try dsimp only at hs5i)
            refine qt_skip F (wtn F rfl rfl rfl rfl rfl) rfl rfl ?_; clear F; intro φ F
            refine qt_skip F (wtn F rfl rfl rfl rfl rfl) rfl rfl ?_; clear F; intro φ F
            refine qt_skip F (wtn F rfl rfl rfl rfl rfl) rfl rfl ?_; clear F; intro φ F
            refine qt_skip F (wtn F rfl rfl rfl rfl rfl) rfl rfl ?_; clear F; intro φ F
            refine qt_skip F (wtn F rfl rfl rfl rfl rfl) rfl rfl ?_; clear F; intro φ F
            refine qt_pure F (wt0 rfl) (pu_pickf rfl (F.ev rfl) (evk)) rfl rfl ?_; clear F; intro φ F
            refine qt_pure F (wt0 rfl) (pu_move rfl (F.ev rfl)) rfl rfl ?_; clear F; intro φ F
            refine qt_skip F (wtn F rfl rfl rfl rfl rfl) rfl rfl ?_; clear F; intro φ F
            refine qt_skip F (wtn F rfl rfl rfl rfl rfl) rfl rfl ?_; clear F; intro φ F
            refine qt_skip F (wtn F rfl rfl rfl rfl rfl) rfl rfl ?_; clear F; intro φ F
            refine qt_skip F (wtn F rfl rfl rfl rfl rfl) rfl rfl ?_; clear F; intro φ F
            refine qt_skip F (wtn F rfl rfl rfl rfl rfl) rfl rfl ?_; clear F; intro φ F
            refine qt_pure F (wt0 rfl) (pu_pickf rfl (F.ev rfl) (evk)) rfl rfl ?_; clear F; intro φ F
            refine qt_pure F (wt0 rfl) (pu_assign rfl (F.ev rfl)) rfl rfl ?_; clear F; intro φ F
            refine wpQuiet_nil ?_
            clear M; intro ω M
            refine nxq ?_
            refine wp_ret ?_
            refine rt_tmp F rfl rfl ?_
            exfalso; clear F M; omega
          · rw [hs5] at F
            have hs5i := of_decide_eq_true hs5; (try dsimp only at hs5i)
            refine qt_rd F (wt1 F rfl rfl rfl rfl rfl) (ld_agg rfl (F.ev rfl) agg23 (M.rdB (i := 3) rfl) rfl) rfl rfl ?_; clear F; intro φ F
            refine qt_rd F (wt1 F rfl rfl rfl rfl rfl) (ld_agg rfl (F.ev rfl) agg23 (M.rdB (i := 2) rfl) rfl) rfl rfl ?_; clear F; intro φ F
            refine qt_call F (wt1 F rfl rfl rfl rfl rfl) rfl en18 (evc (F.ev rfl) (evc (F.ev rfl) evn)) (fun w' h => calls_below h (join_any a b w')) rfl rfl ?_; clear F; intro φ F
            refine qt_rd F (wt1 F rfl rfl rfl rfl rfl) (ld_agg rfl (F.ev rfl) agg23 (M.rdB (i := 1) rfl) rfl) rfl rfl ?_; clear F; intro φ F
            refine qt_pure F (wt1 F rfl rfl rfl rfl rfl) (pu_eqlA rfl (F.ev rfl) (F.ev rfl) eqg23 (fun w => eqS23 (a.join b) (St.mk (max a.e b.e) (max a.r b.r)) w)) rfl rfl ?_; clear F; intro φ F
            refine qt_pure F (wt0 rfl) (pu_pickt rfl (F.ev rfl) (F.ev rfl)) rfl rfl ?_; clear F; intro φ F
            refine qt_pure F (wt0 rfl) (pu_move rfl (F.ev rfl)) rfl rfl ?_; clear F; intro φ F
            cases hs6 : (decide ((a.join b) = (St.mk (max a.e b.e) (max a.r b.r))))
            · rw [hs6] at F
              have hs6i := eq_f hs6; (try dsimp only at hs6i)
              refine qt_skip F (wtn F rfl rfl rfl rfl rfl) rfl rfl ?_; clear F; intro φ F
              refine qt_skip F (wtn F rfl rfl rfl rfl rfl) rfl rfl ?_; clear F; intro φ F
              refine qt_skip F (wtn F rfl rfl rfl rfl rfl) rfl rfl ?_; clear F; intro φ F
              refine qt_skip F (wtn F rfl rfl rfl rfl rfl) rfl rfl ?_; clear F; intro φ F
              refine qt_skip F (wtn F rfl rfl rfl rfl rfl) rfl rfl ?_; clear F; intro φ F
              refine qt_pure F (wt0 rfl) (pu_pickf rfl (F.ev rfl) (evk)) rfl rfl ?_; clear F; intro φ F
              refine qt_pure F (wt0 rfl) (pu_assign rfl (F.ev rfl)) rfl rfl ?_; clear F; intro φ F
              refine wpQuiet_nil ?_
              clear M; intro ω M
              refine nxq ?_
              refine wp_ret ?_
              refine rt_tmp F rfl rfl ?_
              exfalso; clear F M; omega
            · rw [hs6] at F
              have hs6i := eq_t hs6; (try dsimp only at hs6i)
              refine qt_rd F (wt1 F rfl rfl rfl rfl rfl) (ld_agg rfl (F.ev rfl) agg23 (M.rdB (i := 3) rfl) rfl) rfl rfl ?_; clear F; intro φ F
              refine qt_rd F (wt1 F rfl rfl rfl rfl rfl) (ld_agg rfl (F.ev rfl) agg23 (M.rdB (i := 2) rfl) rfl) rfl rfl ?_; clear F; intro φ F
              refine qt_call F (wt1 F rfl rfl rfl rfl rfl) rfl en19 (evc (F.ev rfl) (evc (F.ev rfl) evn)) (fun w' h => calls_below h (meet_any a b w')) rfl rfl ?_; clear F; intro φ F
              refine qt_rd F (wt1 F rfl rfl rfl rfl rfl) (ld_agg rfl (F.ev rfl) agg23 (M.rdB (i := 0) rfl) rfl) rfl rfl ?_; clear F; intro φ F
              refine qt_pure F (wt1 F rfl rfl rfl rfl rfl) (pu_eqlA rfl (F.ev rfl) (F.ev rfl) eqg23 (fun w => eqS23 (a.meet b) (St.mk (min a.e b.e) (min a.r b.r)) w)) rfl rfl ?_; clear F; intro φ F
              refine qt_pure F (wt0 rfl) (pu_pickt rfl (F.ev rfl) (F.ev rfl)) rfl rfl ?_; clear F; intro φ F
              refine qt_pure F (wt0 rfl) (pu_assign rfl (F.ev rfl)) rfl rfl ?_; clear F; intro φ F
              refine wpQuiet_nil ?_
              clear M; intro ω M
              refine nxq ?_
              cases hs7 : (decide ((a.meet b) = (St.mk (min a.e b.e) (min a.r b.r))))
              · rw [hs7] at F
                have hs7i := eq_f hs7; (try dsimp only at hs7i)
                refine wp_ret ?_
                refine rt_tmp F rfl rfl ?_
                exfalso; clear F M; omega
              · rw [hs7] at F
                have hs7i := eq_t hs7; (try dsimp only at hs7i)
                refine wp_ret ?_
                refine rt_tmp F rfl rfl ?_
                exact ⟨rfl, M.bel⟩
        · rw [hs4] at F
          have hs4i := le_t hs4; (try dsimp only at hs4i)
          refine qt_pure F (wt1 F rfl rfl rfl rfl rfl) (pu_eqlB rfl (F.ev rfl) (F.ev rfl) Try.underlying4) rfl rfl ?_; clear F; intro φ F
          rw [show (true == true) = true from rfl] at F
          refine qt_pure F (wt0 rfl) (pu_pickt rfl (F.ev rfl) (F.ev rfl)) rfl rfl ?_; clear F; intro φ F
          refine qt_pure F (wt0 rfl) (pu_move rfl (F.ev rfl)) rfl rfl ?_; clear F; intro φ F
          refine qt_rd F (wt1 F rfl rfl rfl rfl rfl) (ld_agg rfl (F.ev rfl) agg23 (M.rdB (i := 3) rfl) rfl) rfl rfl ?_; clear F; intro φ F
          refine qt_rd F (wt1 F rfl rfl rfl rfl rfl) (ld_agg rfl (F.ev rfl) agg23 (M.rdB (i := 2) rfl) rfl) rfl rfl ?_; clear F; intro φ F
          refine qt_call F (wt1 F rfl rfl rfl rfl rfl) rfl en17 (evc (F.ev rfl) (evc (F.ev rfl) evn)) (fun w' h => calls_below h (cmp_any a b w')) rfl rfl ?_; clear F; intro φ F
          refine qt_pure F (wt1 F rfl rfl rfl rfl rfl) (pu_move rfl (F.ev rfl)) rfl rfl ?_; clear F; intro φ F
          refine qt_pure F (wt1 F rfl rfl rfl rfl rfl) (pu_eqlI rfl (F.ev rfl) (F.ev rfl)) rfl rfl ?_; clear F; intro φ F
          refine qt_pure F (wt0 rfl) (pu_pickt rfl (F.ev rfl) (F.ev rfl)) rfl rfl ?_; clear F; intro φ F
          refine qt_pure F (wt0 rfl) (pu_move rfl (F.ev rfl)) rfl rfl ?_; clear F; intro φ F
          cases hs8 : (decide (a.cmp b = 0))
          · rw [hs8] at F
            have hs8i := of_decide_eq_false hs8; (try dsimp only at hs8i)
            refine qt_skip F (wtn F rfl rfl rfl rfl rfl) rfl rfl ?_; clear F; intro φ F
            refine qt_skip F (wtn F rfl rfl rfl rfl rfl) rfl rfl ?_; clear F; intro φ F
            refine qt_skip F (wtn F rfl rfl rfl rfl rfl) rfl rfl ?_; clear F; intro φ F
            refine qt_skip F (wtn F rfl rfl rfl rfl rfl) rfl rfl ?_; clear F; intro φ F
            refine qt_skip F (wtn F rfl rfl rfl rfl rfl) rfl rfl ?_; clear F; intro φ F
            refine qt_pure F (wt0 rfl) (pu_pickf rfl (F.ev rfl) (evk)) rfl rfl ?_; clear F; intro φ F
            refine qt_pure F (wt0 rfl) (pu_move rfl (F.ev rfl)) rfl rfl ?_; clear F; intro φ F
            refine qt_skip F (wtn F rfl rfl rfl rfl rfl) rfl rfl ?_; clear F; intro φ F
            refine qt_skip F (wtn F rfl rfl rfl rfl rfl) rfl rfl ?_; clear F; intro φ F
            refine qt_skip F (wtn F rfl rfl rfl rfl rfl) rfl rfl ?_; clear F; intro φ F
            refine qt_skip F (wtn F rfl rfl rfl rfl rfl) rfl rfl ?_; clear F; intro φ F
            refine qt_skip F (wtn F rfl rfl rfl rfl rfl) rfl rfl ?_; clear F; intro φ F
            refine qt_pure F (wt0 rfl) (pu_pickf rfl (F.ev rfl) (evk)) rfl rfl ?_; clear F; intro φ F
            refine qt_pure F (wt0 rfl) (pu_assign rfl (F.ev rfl)) rfl rfl ?_; clear F; intro φ F
            refine wpQuiet_nil ?_
            clear M; intro ω M
            refine nxq ?_
            refine wp_ret ?_
            refine rt_tmp F rfl rfl ?_
            exfalso; clear F M; omega
          · rw [hs8] at F
            have hs8i := of_decide_eq_true hs8; (try dsimp only at hs8i)
            refine qt_rd F (wt1 F rfl rfl rfl rfl rfl) (ld_agg rfl (F.ev rfl) agg23 (M.rdB (i := 3) rfl) rfl) rfl rfl ?_; clear F; intro φ F
            refine qt_rd F (wt1 F rfl rfl rfl rfl rfl) (ld_agg rfl (F.ev rfl) agg23 (M.rdB (i := 2) rfl) rfl) rfl rfl ?_; clear F; intro φ F
            refine qt_call F (wt1 F rfl rfl rfl rfl rfl) rfl en18 (evc (F.ev rfl) (evc (F.ev rfl) evn)) (fun w' h => calls_below h (join_any a b w')) rfl rfl ?_; clear F; intro φ F
            refine qt_rd F (wt1 F rfl rfl rfl rfl rfl) (ld_agg rfl (F.ev rfl) agg23 (M.rdB (i := 1) rfl) rfl) rfl rfl ?_; clear F; intro φ F
            refine qt_pure F (wt1 F rfl rfl rfl rfl rfl) (pu_eqlA rfl (F.ev rfl) (F.ev rfl) eqg23 (fun w => eqS23 (a.join b) (St.mk (max a.e b.e) (max a.r b.r)) w)) rfl rfl ?_; clear F; intro φ F
            refine qt_pure F (wt0 rfl) (pu_pickt rfl (F.ev rfl) (F.ev rfl)) rfl rfl ?_; clear F; intro φ F
            refine qt_pure F (wt0 rfl) (pu_move rfl (F.ev rfl)) rfl rfl ?_; clear F; intro φ F
            cases hs9 : (decide ((a.join b) = (St.mk (max a.e b.e) (max a.r b.r))))
            · rw [hs9] at F
              have hs9i := eq_f hs9; (try dsimp only at hs9i)
              refine qt_skip F (wtn F rfl rfl rfl rfl rfl) rfl rfl ?_; clear F; intro φ F
              refine qt_skip F (wtn F rfl rfl rfl rfl rfl) rfl rfl ?_; clear F; intro φ F
              refine qt_skip F (wtn F rfl rfl rfl rfl rfl) rfl rfl ?_; clear F; intro φ F
              refine qt_skip F (wtn F rfl rfl rfl rfl rfl) rfl rfl ?_; clear F; intro φ F
              refine qt_skip F (wtn F rfl rfl rfl rfl rfl) rfl rfl ?_; clear F; intro φ F
              refine qt_pure F (wt0 rfl) (pu_pickf rfl (F.ev rfl) (evk)) rfl rfl ?_; clear F; intro φ F
              refine qt_pure F (wt0 rfl) (pu_assign rfl (F.ev rfl)) rfl rfl ?_; clear F; intro φ F
              refine wpQuiet_nil ?_
              clear M; intro ω M
              refine nxq ?_
              refine wp_ret ?_
              refine rt_tmp F rfl rfl ?_
              exfalso; clear F M; omega
            · rw [hs9] at F
              have hs9i := eq_t hs9; (try dsimp only at hs9i)
              refine qt_rd F (wt1 F rfl rfl rfl rfl rfl) (ld_agg rfl (F.ev rfl) agg23 (M.rdB (i := 3) rfl) rfl) rfl rfl ?_; clear F; intro φ F
              refine qt_rd F (wt1 F rfl rfl rfl rfl rfl) (ld_agg rfl (F.ev rfl) agg23 (M.rdB (i := 2) rfl) rfl) rfl rfl ?_; clear F; intro φ F
              refine qt_call F (wt1 F rfl rfl rfl rfl rfl) rfl en19 (evc (F.ev rfl) (evc (F.ev rfl) evn)) (fun w' h => calls_below h (meet_any a b w')) rfl rfl ?_; clear F; intro φ F
              refine qt_rd F (wt1 F rfl rfl rfl rfl rfl) (ld_agg rfl (F.ev rfl) agg23 (M.rdB (i := 0) rfl) rfl) rfl rfl ?_; clear F; intro φ F
              refine qt_pure F (wt1 F rfl rfl rfl rfl rfl) (pu_eqlA rfl (F.ev rfl) (F.ev rfl) eqg23 (fun w => eqS23 (a.meet b) (St.mk (min a.e b.e) (min a.r b.r)) w)) rfl rfl ?_; clear F; intro φ F
              refine qt_pure F (wt0 rfl) (pu_pickt rfl (F.ev rfl) (F.ev rfl)) rfl rfl ?_; clear F; intro φ F
              refine qt_pure F (wt0 rfl) (pu_assign rfl (F.ev rfl)) rfl rfl ?_; clear F; intro φ F
              refine wpQuiet_nil ?_
              clear M; intro ω M
              refine nxq ?_
              cases hs10 : (decide ((a.meet b) = (St.mk (min a.e b.e) (min a.r b.r))))
              · rw [hs10] at F
                have hs10i := eq_f hs10; (try dsimp only at hs10i)
                refine wp_ret ?_
                refine rt_tmp F rfl rfl ?_
                exfalso; clear F M; omega
              · rw [hs10] at F
                have hs10i := eq_t hs10; (try dsimp only at hs10i)
                refine wp_ret ?_
                refine rt_tmp F rfl rfl ?_
                exact ⟨rfl, M.bel⟩
      · rw [hs3] at F
        have hs3i := right_t hs3; (try dsimp only at hs3i)
        refine qt_pure F (wt1 F rfl rfl rfl rfl rfl) (pu_eqlB rfl (F.ev rfl) (F.ev rfl) Try.underlying4) rfl rfl ?_; clear F; intro φ F
        rw [show (true == true) = true from rfl] at F
        refine qt_pure F (wt0 rfl) (pu_pickt rfl (F.ev rfl) (F.ev rfl)) rfl rfl ?_; clear F; intro φ F
        refine qt_pure F (wt0 rfl) (pu_move rfl (F.ev rfl)) rfl rfl ?_; clear F; intro φ F
        refine qt_rd F (wt1 F rfl rfl rfl rfl rfl) (ld_agg rfl (F.ev rfl) agg23 (M.rdB (i := 3) rfl) rfl) rfl rfl ?_; clear F; intro φ F
        refine qt_rd F (wt1 F rfl rfl rfl rfl rfl) (ld_agg rfl (F.ev rfl) agg23 (M.rdB (i := 2) rfl) rfl) rfl rfl ?_; clear F; intro φ F
        refine qt_call F (wt1 F rfl rfl rfl rfl rfl) rfl en15 (evc (F.ev rfl) (evc (F.ev rfl) evn)) (fun w' h => calls_below h (le_any a b w')) rfl rfl ?_; clear F; intro φ F
        refine qt_rd F (wt1 F rfl rfl rfl rfl rfl) (ld_agg rfl (F.ev rfl) agg23 (M.rdB (i := 3) rfl) rfl) rfl rfl ?_; clear F; intro φ F
        refine qt_rd F (wt1 F rfl rfl rfl rfl rfl) (ld_agg rfl (F.ev rfl) agg23 (M.rdB (i := 2) rfl) rfl) rfl rfl ?_; clear F; intro φ F
        refine qt_call F (wt1 F rfl rfl rfl rfl rfl) rfl en16 (evc (F.ev rfl) (evc (F.ev rfl) evn)) (fun w' h => calls_below h (rle_any a b w')) rfl rfl ?_; clear F; intro φ F
        cases hs11 : (a.leB b)
        · rw [hs11] at F
          have hs11i := le_f hs11; (try dsimp only at hs11i)
          refine qt_pure F (wt1 F rfl rfl rfl rfl rfl) (pu_eqlB rfl (F.ev rfl) (F.ev rfl) Try.underlying4) rfl rfl ?_; clear F; intro φ F
          rw [show (false == false) = true from rfl] at F
          refine qt_pure F (wt0 rfl) (pu_pickt rfl (F.ev rfl) (F.ev rfl)) rfl rfl ?_; clear F; intro φ F
          refine qt_pure F (wt0 rfl) (pu_move rfl (F.ev rfl)) rfl rfl ?_; clear F; intro φ F
          refine qt_rd F (wt1 F rfl rfl rfl rfl rfl) (ld_agg rfl (F.ev rfl) agg23 (M.rdB (i := 3) rfl) rfl) rfl rfl ?_; clear F; intro φ F
          refine qt_rd F (wt1 F rfl rfl rfl rfl rfl) (ld_agg rfl (F.ev rfl) agg23 (M.rdB (i := 2) rfl) rfl) rfl rfl ?_; clear F; intro φ F
          refine qt_call F (wt1 F rfl rfl rfl rfl rfl) rfl en17 (evc (F.ev rfl) (evc (F.ev rfl) evn)) (fun w' h => calls_below h (cmp_any a b w')) rfl rfl ?_; clear F; intro φ F
          refine qt_pure F (wt1 F rfl rfl rfl rfl rfl) (pu_move rfl (F.ev rfl)) rfl rfl ?_; clear F; intro φ F
          refine qt_pure F (wt1 F rfl rfl rfl rfl rfl) (pu_eqlI rfl (F.ev rfl) (F.ev rfl)) rfl rfl ?_; clear F; intro φ F
          refine qt_pure F (wt0 rfl) (pu_pickt rfl (F.ev rfl) (F.ev rfl)) rfl rfl ?_; clear F; intro φ F
          refine qt_pure F (wt0 rfl) (pu_move rfl (F.ev rfl)) rfl rfl ?_; clear F; intro φ F
          cases hs12 : (decide (a.cmp b = 0))
          · rw [hs12] at F
            have hs12i := of_decide_eq_false hs12; (try dsimp only at hs12i)
            refine qt_skip F (wtn F rfl rfl rfl rfl rfl) rfl rfl ?_; clear F; intro φ F
            refine qt_skip F (wtn F rfl rfl rfl rfl rfl) rfl rfl ?_; clear F; intro φ F
            refine qt_skip F (wtn F rfl rfl rfl rfl rfl) rfl rfl ?_; clear F; intro φ F
            refine qt_skip F (wtn F rfl rfl rfl rfl rfl) rfl rfl ?_; clear F; intro φ F
            refine qt_skip F (wtn F rfl rfl rfl rfl rfl) rfl rfl ?_; clear F; intro φ F
            refine qt_pure F (wt0 rfl) (pu_pickf rfl (F.ev rfl) (evk)) rfl rfl ?_; clear F; intro φ F
            refine qt_pure F (wt0 rfl) (pu_move rfl (F.ev rfl)) rfl rfl ?_; clear F; intro φ F
            refine qt_skip F (wtn F rfl rfl rfl rfl rfl) rfl rfl ?_; clear F; intro φ F
            refine qt_skip F (wtn F rfl rfl rfl rfl rfl) rfl rfl ?_; clear F; intro φ F
            refine qt_skip F (wtn F rfl rfl rfl rfl rfl) rfl rfl ?_; clear F; intro φ F
            refine qt_skip F (wtn F rfl rfl rfl rfl rfl) rfl rfl ?_; clear F; intro φ F
            refine qt_skip F (wtn F rfl rfl rfl rfl rfl) rfl rfl ?_; clear F; intro φ F
            refine qt_pure F (wt0 rfl) (pu_pickf rfl (F.ev rfl) (evk)) rfl rfl ?_; clear F; intro φ F
            refine qt_pure F (wt0 rfl) (pu_assign rfl (F.ev rfl)) rfl rfl ?_; clear F; intro φ F
            refine wpQuiet_nil ?_
            clear M; intro ω M
            refine nxq ?_
            refine wp_ret ?_
            refine rt_tmp F rfl rfl ?_
            exfalso; clear F M; omega
          · rw [hs12] at F
            have hs12i := of_decide_eq_true hs12; (try dsimp only at hs12i)
            refine qt_rd F (wt1 F rfl rfl rfl rfl rfl) (ld_agg rfl (F.ev rfl) agg23 (M.rdB (i := 3) rfl) rfl) rfl rfl ?_; clear F; intro φ F
            refine qt_rd F (wt1 F rfl rfl rfl rfl rfl) (ld_agg rfl (F.ev rfl) agg23 (M.rdB (i := 2) rfl) rfl) rfl rfl ?_; clear F; intro φ F
            refine qt_call F (wt1 F rfl rfl rfl rfl rfl) rfl en18 (evc (F.ev rfl) (evc (F.ev rfl) evn)) (fun w' h => calls_below h (join_any a b w')) rfl rfl ?_; clear F; intro φ F
            refine qt_rd F (wt1 F rfl rfl rfl rfl rfl) (ld_agg rfl (F.ev rfl) agg23 (M.rdB (i := 1) rfl) rfl) rfl rfl ?_; clear F; intro φ F
            refine qt_pure F (wt1 F rfl rfl rfl rfl rfl) (pu_eqlA rfl (F.ev rfl) (F.ev rfl) eqg23 (fun w => eqS23 (a.join b) (St.mk (max a.e b.e) (max a.r b.r)) w)) rfl rfl ?_; clear F; intro φ F
            refine qt_pure F (wt0 rfl) (pu_pickt rfl (F.ev rfl) (F.ev rfl)) rfl rfl ?_; clear F; intro φ F
            refine qt_pure F (wt0 rfl) (pu_move rfl (F.ev rfl)) rfl rfl ?_; clear F; intro φ F
            cases hs13 : (decide ((a.join b) = (St.mk (max a.e b.e) (max a.r b.r))))
            · rw [hs13] at F
              have hs13i := eq_f hs13; (try dsimp only at hs13i)
              refine qt_skip F (wtn F rfl rfl rfl rfl rfl) rfl rfl ?_; clear F; intro φ F
              refine qt_skip F (wtn F rfl rfl rfl rfl rfl) rfl rfl ?_; clear F; intro φ F
              refine qt_skip F (wtn F rfl rfl rfl rfl rfl) rfl rfl ?_; clear F; intro φ F
              refine qt_skip F (wtn F rfl rfl rfl rfl rfl) rfl rfl ?_; clear F; intro φ F
              refine qt_skip F (wtn F rfl rfl rfl rfl rfl) rfl rfl ?_; clear F; intro φ F
              refine qt_pure F (wt0 rfl) (pu_pickf rfl (F.ev rfl) (evk)) rfl rfl ?_; clear F; intro φ F
              refine qt_pure F (wt0 rfl) (pu_assign rfl (F.ev rfl)) rfl rfl ?_; clear F; intro φ F
              refine wpQuiet_nil ?_
              clear M; intro ω M
              refine nxq ?_
              refine wp_ret ?_
              refine rt_tmp F rfl rfl ?_
              exfalso; clear F M; omega
            · rw [hs13] at F
              have hs13i := eq_t hs13; (try dsimp only at hs13i)
              refine qt_rd F (wt1 F rfl rfl rfl rfl rfl) (ld_agg rfl (F.ev rfl) agg23 (M.rdB (i := 3) rfl) rfl) rfl rfl ?_; clear F; intro φ F
              refine qt_rd F (wt1 F rfl rfl rfl rfl rfl) (ld_agg rfl (F.ev rfl) agg23 (M.rdB (i := 2) rfl) rfl) rfl rfl ?_; clear F; intro φ F
              refine qt_call F (wt1 F rfl rfl rfl rfl rfl) rfl en19 (evc (F.ev rfl) (evc (F.ev rfl) evn)) (fun w' h => calls_below h (meet_any a b w')) rfl rfl ?_; clear F; intro φ F
              refine qt_rd F (wt1 F rfl rfl rfl rfl rfl) (ld_agg rfl (F.ev rfl) agg23 (M.rdB (i := 0) rfl) rfl) rfl rfl ?_; clear F; intro φ F
              refine qt_pure F (wt1 F rfl rfl rfl rfl rfl) (pu_eqlA rfl (F.ev rfl) (F.ev rfl) eqg23 (fun w => eqS23 (a.meet b) (St.mk (min a.e b.e) (min a.r b.r)) w)) rfl rfl ?_; clear F; intro φ F
              refine qt_pure F (wt0 rfl) (pu_pickt rfl (F.ev rfl) (F.ev rfl)) rfl rfl ?_; clear F; intro φ F
              refine qt_pure F (wt0 rfl) (pu_assign rfl (F.ev rfl)) rfl rfl ?_; clear F; intro φ F
              refine wpQuiet_nil ?_
              clear M; intro ω M
              refine nxq ?_
              cases hs14 : (decide ((a.meet b) = (St.mk (min a.e b.e) (min a.r b.r))))
              · rw [hs14] at F
                have hs14i := eq_f hs14; (try dsimp only at hs14i)
                refine wp_ret ?_
                refine rt_tmp F rfl rfl ?_
                exfalso; clear F M; omega
              · rw [hs14] at F
                have hs14i := eq_t hs14; (try dsimp only at hs14i)
                refine wp_ret ?_
                refine rt_tmp F rfl rfl ?_
                exact ⟨rfl, M.bel⟩
        · rw [hs11] at F
          have hs11i := le_t hs11; (try dsimp only at hs11i)
          refine qt_pure F (wt1 F rfl rfl rfl rfl rfl) (pu_eqlB rfl (F.ev rfl) (F.ev rfl) Try.underlying4) rfl rfl ?_; clear F; intro φ F
          rw [show (true == true) = true from rfl] at F
          refine qt_pure F (wt0 rfl) (pu_pickt rfl (F.ev rfl) (F.ev rfl)) rfl rfl ?_; clear F; intro φ F
          refine qt_pure F (wt0 rfl) (pu_move rfl (F.ev rfl)) rfl rfl ?_; clear F; intro φ F
          refine qt_rd F (wt1 F rfl rfl rfl rfl rfl) (ld_agg rfl (F.ev rfl) agg23 (M.rdB (i := 3) rfl) rfl) rfl rfl ?_; clear F; intro φ F
          refine qt_rd F (wt1 F rfl rfl rfl rfl rfl) (ld_agg rfl (F.ev rfl) agg23 (M.rdB (i := 2) rfl) rfl) rfl rfl ?_; clear F; intro φ F
          refine qt_call F (wt1 F rfl rfl rfl rfl rfl) rfl en17 (evc (F.ev rfl) (evc (F.ev rfl) evn)) (fun w' h => calls_below h (cmp_any a b w')) rfl rfl ?_; clear F; intro φ F
          refine qt_pure F (wt1 F rfl rfl rfl rfl rfl) (pu_move rfl (F.ev rfl)) rfl rfl ?_; clear F; intro φ F
          refine qt_pure F (wt1 F rfl rfl rfl rfl rfl) (pu_eqlI rfl (F.ev rfl) (F.ev rfl)) rfl rfl ?_; clear F; intro φ F
          refine qt_pure F (wt0 rfl) (pu_pickt rfl (F.ev rfl) (F.ev rfl)) rfl rfl ?_; clear F; intro φ F
          refine qt_pure F (wt0 rfl) (pu_move rfl (F.ev rfl)) rfl rfl ?_; clear F; intro φ F
          cases hs15 : (decide (a.cmp b = 0))
          · rw [hs15] at F
            have hs15i := of_decide_eq_false hs15; (try dsimp only at hs15i)
            refine qt_skip F (wtn F rfl rfl rfl rfl rfl) rfl rfl ?_; clear F; intro φ F
            refine qt_skip F (wtn F rfl rfl rfl rfl rfl) rfl rfl ?_; clear F; intro φ F
            refine qt_skip F (wtn F rfl rfl rfl rfl rfl) rfl rfl ?_; clear F; intro φ F
            refine qt_skip F (wtn F rfl rfl rfl rfl rfl) rfl rfl ?_; clear F; intro φ F
            refine qt_skip F (wtn F rfl rfl rfl rfl rfl) rfl rfl ?_; clear F; intro φ F
            refine qt_pure F (wt0 rfl) (pu_pickf rfl (F.ev rfl) (evk)) rfl rfl ?_; clear F; intro φ F
            refine qt_pure F (wt0 rfl) (pu_move rfl (F.ev rfl)) rfl rfl ?_; clear F; intro φ F
            refine qt_skip F (wtn F rfl rfl rfl rfl rfl) rfl rfl ?_; clear F; intro φ F
            refine qt_skip F (wtn F rfl rfl rfl rfl rfl) rfl rfl ?_; clear F; intro φ F
            refine qt_skip F (wtn F rfl rfl rfl rfl rfl) rfl rfl ?_; clear F; intro φ F
            refine qt_skip F (wtn F rfl rfl rfl rfl rfl) rfl rfl ?_; clear F; intro φ F
            refine qt_skip F (wtn F rfl rfl rfl rfl rfl) rfl rfl ?_; clear F; intro φ F
            refine qt_pure F (wt0 rfl) (pu_pickf rfl (F.ev rfl) (evk)) rfl rfl ?_; clear F; intro φ F
            refine qt_pure F (wt0 rfl) (pu_assign rfl (F.ev rfl)) rfl rfl ?_; clear F; intro φ F
            refine wpQuiet_nil ?_
            clear M; intro ω M
            refine nxq ?_
            refine wp_ret ?_
            refine rt_tmp F rfl rfl ?_
            exfalso; clear F M; omega
          · rw [hs15] at F
            have hs15i := of_decide_eq_true hs15; (try dsimp only at hs15i)
            refine qt_rd F (wt1 F rfl rfl rfl rfl rfl) (ld_agg rfl (F.ev rfl) agg23 (M.rdB (i := 3) rfl) rfl) rfl rfl ?_; clear F; intro φ F
            refine qt_rd F (wt1 F rfl rfl rfl rfl rfl) (ld_agg rfl (F.ev rfl) agg23 (M.rdB (i := 2) rfl) rfl) rfl rfl ?_; clear F; intro φ F
            refine qt_call F (wt1 F rfl rfl rfl rfl rfl) rfl en18 (evc (F.ev rfl) (evc (F.ev rfl) evn)) (fun w' h => calls_below h (join_any a b w')) rfl rfl ?_; clear F; intro φ F
            refine qt_rd F (wt1 F rfl rfl rfl rfl rfl) (ld_agg rfl (F.ev rfl) agg23 (M.rdB (i := 1) rfl) rfl) rfl rfl ?_; clear F; intro φ F
            refine qt_pure F (wt1 F rfl rfl rfl rfl rfl) (pu_eqlA rfl (F.ev rfl) (F.ev rfl) eqg23 (fun w => eqS23 (a.join b) (St.mk (max a.e b.e) (max a.r b.r)) w)) rfl rfl ?_; clear F; intro φ F
            refine qt_pure F (wt0 rfl) (pu_pickt rfl (F.ev rfl) (F.ev rfl)) rfl rfl ?_; clear F; intro φ F
            refine qt_pure F (wt0 rfl) (pu_move rfl (F.ev rfl)) rfl rfl ?_; clear F; intro φ F
            cases hs16 : (decide ((a.join b) = (St.mk (max a.e b.e) (max a.r b.r))))
            · rw [hs16] at F
              have hs16i := eq_f hs16; (try dsimp only at hs16i)
              refine qt_skip F (wtn F rfl rfl rfl rfl rfl) rfl rfl ?_; clear F; intro φ F
              refine qt_skip F (wtn F rfl rfl rfl rfl rfl) rfl rfl ?_; clear F; intro φ F
              refine qt_skip F (wtn F rfl rfl rfl rfl rfl) rfl rfl ?_; clear F; intro φ F
              refine qt_skip F (wtn F rfl rfl rfl rfl rfl) rfl rfl ?_; clear F; intro φ F
              refine qt_skip F (wtn F rfl rfl rfl rfl rfl) rfl rfl ?_; clear F; intro φ F
              refine qt_pure F (wt0 rfl) (pu_pickf rfl (F.ev rfl) (evk)) rfl rfl ?_; clear F; intro φ F
              refine qt_pure F (wt0 rfl) (pu_assign rfl (F.ev rfl)) rfl rfl ?_; clear F; intro φ F
              refine wpQuiet_nil ?_
              clear M; intro ω M
              refine nxq ?_
              refine wp_ret ?_
              refine rt_tmp F rfl rfl ?_
              exfalso; clear F M; omega
            · rw [hs16] at F
              have hs16i := eq_t hs16; (try dsimp only at hs16i)
              refine qt_rd F (wt1 F rfl rfl rfl rfl rfl) (ld_agg rfl (F.ev rfl) agg23 (M.rdB (i := 3) rfl) rfl) rfl rfl ?_; clear F; intro φ F
              refine qt_rd F (wt1 F rfl rfl rfl rfl rfl) (ld_agg rfl (F.ev rfl) agg23 (M.rdB (i := 2) rfl) rfl) rfl rfl ?_; clear F; intro φ F
              refine qt_call F (wt1 F rfl rfl rfl rfl rfl) rfl en19 (evc (F.ev rfl) (evc (F.ev rfl) evn)) (fun w' h => calls_below h (meet_any a b w')) rfl rfl ?_; clear F; intro φ F
              refine qt_rd F (wt1 F rfl rfl rfl rfl rfl) (ld_agg rfl (F.ev rfl) agg23 (M.rdB (i := 0) rfl) rfl) rfl rfl ?_; clear F; intro φ F
              refine qt_pure F (wt1 F rfl rfl rfl rfl rfl) (pu_eqlA rfl (F.ev rfl) (F.ev rfl) eqg23 (fun w => eqS23 (a.meet b) (St.mk (min a.e b.e) (min a.r b.r)) w)) rfl rfl ?_; clear F; intro φ F
              refine qt_pure F (wt0 rfl) (pu_pickt rfl (F.ev rfl) (F.ev rfl)) rfl rfl ?_; clear F; intro φ F
              refine qt_pure F (wt0 rfl) (pu_assign rfl (F.ev rfl)) rfl rfl ?_; clear F; intro φ F
              refine wpQuiet_nil ?_
              clear M; intro ω M
              refine nxq ?_
              cases hs17 : (decide ((a.meet b) = (St.mk (min a.e b.e) (min a.r b.r))))
              · rw [hs17] at F
                have hs17i := eq_f hs17; (try dsimp only at hs17i)
                refine wp_ret ?_
                refine rt_tmp F rfl rfl ?_
                exfalso; clear F M; omega
              · rw [hs17] at F
                have hs17i := eq_t hs17; (try dsimp only at hs17i)
                refine wp_ret ?_
                refine rt_tmp F rfl rfl ?_
                exact ⟨rfl, M.bel⟩
    · rw [hs2] at F
      have hs2i := ahead_t hs2; (try dsimp only at hs2i)
      refine wp_cond_true (F.ev rfl) ?_
      -- region 6
      refine wp_region_lit ?_
      refine sq_pure F (wt0 rfl) (pu_assign rfl (evk)) rfl rfl ?_; clear F; intro φ F
      refine nx ?_
      refine wp_seq ?_
      -- region 7
      refine wp_region_lit ?_
      refine sq_pure F (wt0 rfl) (pu_field rfl (F.ev rfl) fo23_0) rfl rfl ?_; clear F; intro φ F
      refine sq_rd F (wt0 rfl) (ld_cell rfl (F.ev rfl) one3 (M.rd (i := 1) rfl) rfl) rfl rfl ?_; clear F; intro φ F
      refine sq_pure F (wt0 rfl) (pu_field rfl (F.ev rfl) fo23_0) rfl rfl ?_; clear F; intro φ F
      refine sq_rd F (wt0 rfl) (ld_cell rfl (F.ev rfl) one3 (M.rd (i := 0) rfl) rfl) rfl rfl ?_; clear F; intro φ F
      refine sq_pure F (wt0 rfl) (pu_max rfl (F.ev rfl) (F.ev rfl)) rfl rfl ?_; clear F; intro φ F
      refine sq_pure F (wt0 rfl) (pu_field rfl (F.ev rfl) fo23_1) rfl rfl ?_; clear F; intro φ F
      refine sq_rd F (wt0 rfl) (ld_cell rfl (F.ev rfl) one3 (M.rd (i := 1) rfl) rfl) rfl rfl ?_; clear F; intro φ F
      refine sq_pure F (wt0 rfl) (pu_field rfl (F.ev rfl) fo23_1) rfl rfl ?_; clear F; intro φ F
      refine sq_rd F (wt0 rfl) (ld_cell rfl (F.ev rfl) one3 (M.rd (i := 0) rfl) rfl) rfl rfl ?_; clear F; intro φ F
      refine sq_pure F (wt0 rfl) (pu_max rfl (F.ev rfl) (F.ev rfl)) rfl rfl ?_; clear F; intro φ F
      refine sq_pure F (wt0 rfl) (bu23_2 rfl (F.ev rfl) (F.ev rfl)) rfl rfl ?_; clear F; intro φ F
      refine sq_alloc F M (wt0 rfl) rfl z23 rfl rfl ?_; clear F M; intro φ ω g5 F M
      refine sq_stA F M (wt0 rfl) rfl (F.ev rfl) (F.ev rfl) (i := 0) rfl agg23 rfl rfl rfl rfl ?_; clear M; intro ω M
      refine nx ?_
      refine wp_seq ?_
      -- region 8
      refine wp_region_lit ?_
      refine sq_pure F (wt0 rfl) (pu_field rfl (F.ev rfl) fo23_0) rfl rfl ?_; clear F; intro φ F
      refine sq_rd F (wt0 rfl) (ld_cell rfl (F.ev rfl) one3 (M.rd (i := 2) rfl) rfl) rfl rfl ?_; clear F; intro φ F
      refine sq_pure F (wt0 rfl) (pu_field rfl (F.ev rfl) fo23_0) rfl rfl ?_; clear F; intro φ F
      refine sq_rd F (wt0 rfl) (ld_cell rfl (F.ev rfl) one3 (M.rd (i := 1) rfl) rfl) rfl rfl ?_; clear F; intro φ F
      refine sq_pure F (wt0 rfl) (pu_min rfl (F.ev rfl) (F.ev rfl)) rfl rfl ?_; clear F; intro φ F
      refine sq_pure F (wt0 rfl) (pu_field rfl (F.ev rfl) fo23_1) rfl rfl ?_; clear F; intro φ F
      refine sq_rd F (wt0 rfl) (ld_cell rfl (F.ev rfl) one3 (M.rd (i := 2) rfl) rfl) rfl rfl ?_; clear F; intro φ F
      refine sq_pure F (wt0 rfl) (pu_field rfl (F.ev rfl) fo23_1) rfl rfl ?_; clear F; intro φ F
      refine sq_rd F (wt0 rfl) (ld_cell rfl (F.ev rfl) one3 (M.rd (i := 1) rfl) rfl) rfl rfl ?_; clear F; intro φ F
      refine sq_pure F (wt0 rfl) (pu_min rfl (F.ev rfl) (F.ev rfl)) rfl rfl ?_; clear F; intro φ F
      refine sq_pure F (wt0 rfl) (bu23_2 rfl (F.ev rfl) (F.ev rfl)) rfl rfl ?_; clear F; intro φ F
      refine sq_alloc F M (wt0 rfl) rfl z23 rfl rfl ?_; clear F M; intro φ ω g6 F M
      refine sq_stA F M (wt0 rfl) rfl (F.ev rfl) (F.ev rfl) (i := 0) rfl agg23 rfl rfl rfl rfl ?_; clear M; intro ω M
      refine nx ?_
      refine wp_seq ?_
      -- region 9
      refine rg_quiet M mixedOK (by kernel_rfl) ?_
      refine qt_pure F (wt0 rfl) (pu_move rfl (F.ev rfl)) rfl rfl ?_; clear F; intro φ F
      refine qt_pure F (wt0 rfl) (pu_move rfl (F.ev rfl)) rfl rfl ?_; clear F; intro φ F
      refine qt_rd F (wt1 F rfl rfl rfl rfl rfl) (ld_agg rfl (F.ev rfl) agg23 (M.rdB (i := 3) rfl) rfl) rfl rfl ?_; clear F; intro φ F
      refine qt_call F (wt1 F rfl rfl rfl rfl rfl) rfl en13 (evc (F.ev rfl) evn) (fun w' h => calls_below h (right_any a w')) rfl rfl ?_; clear F; intro φ F
      refine qt_rd F (wt1 F rfl rfl rfl rfl rfl) (ld_agg rfl (F.ev rfl) agg23 (M.rdB (i := 3) rfl) rfl) rfl rfl ?_; clear F; intro φ F
      refine qt_call F (wt1 F rfl rfl rfl rfl rfl) rfl en14 (evc (F.ev rfl) evn) (fun w' h => calls_below h (rright_any a w')) rfl rfl ?_; clear F; intro φ F
      cases hs18 : a.rightB
      · rw [hs18] at F
        have hs18i := right_f hs18; (try dsimp only at hs18i)
        refine qt_pure F (wt1 F rfl rfl rfl rfl rfl) (pu_eqlB rfl (F.ev rfl) (F.ev rfl) Try.underlying4) rfl rfl ?_; clear F; intro φ F
        rw [show (false == false) = true from rfl] at F
        refine qt_pure F (wt0 rfl) (pu_pickt rfl (F.ev rfl) (F.ev rfl)) rfl rfl ?_; clear F; intro φ F
        refine qt_pure F (wt0 rfl) (pu_move rfl (F.ev rfl)) rfl rfl ?_; clear F; intro φ F
        refine qt_rd F (wt1 F rfl rfl rfl rfl rfl) (ld_agg rfl (F.ev rfl) agg23 (M.rdB (i := 3) rfl) rfl) rfl rfl ?_; clear F; intro φ F
        refine qt_rd F (wt1 F rfl rfl rfl rfl rfl) (ld_agg rfl (F.ev rfl) agg23 (M.rdB (i := 2) rfl) rfl) rfl rfl ?_; clear F; intro φ F
        refine qt_call F (wt1 F rfl rfl rfl rfl rfl) rfl en15 (evc (F.ev rfl) (evc (F.ev rfl) evn)) (fun w' h => calls_below h (le_any a b w')) rfl rfl ?_; clear F; intro φ F
        refine qt_rd F (wt1 F rfl rfl rfl rfl rfl) (ld_agg rfl (F.ev rfl) agg23 (M.rdB (i := 3) rfl) rfl) rfl rfl ?_; clear F; intro φ F
        refine qt_rd F (wt1 F rfl rfl rfl rfl rfl) (ld_agg rfl (F.ev rfl) agg23 (M.rdB (i := 2) rfl) rfl) rfl rfl ?_; clear F; intro φ F
        refine qt_call F (wt1 F rfl rfl rfl rfl rfl) rfl en16 (evc (F.ev rfl) (evc (F.ev rfl) evn)) (fun w' h => calls_below h (rle_any a b w')) rfl rfl ?_; clear F; intro φ F
        cases hs19 : (a.leB b)
        · rw [hs19] at F
          have hs19i := le_f hs19; (try dsimp only at hs19i)
          refine qt_pure F (wt1 F rfl rfl rfl rfl rfl) (pu_eqlB rfl (F.ev rfl) (F.ev rfl) Try.underlying4) rfl rfl ?_; clear F; intro φ F
          rw [show (false == false) = true from rfl] at F
          refine qt_pure F (wt0 rfl) (pu_pickt rfl (F.ev rfl) (F.ev rfl)) rfl rfl ?_; clear F; intro φ F
          refine qt_pure F (wt0 rfl) (pu_move rfl (F.ev rfl)) rfl rfl ?_; clear F; intro φ F
          refine qt_rd F (wt1 F rfl rfl rfl rfl rfl) (ld_agg rfl (F.ev rfl) agg23 (M.rdB (i := 3) rfl) rfl) rfl rfl ?_; clear F; intro φ F
          refine qt_rd F (wt1 F rfl rfl rfl rfl rfl) (ld_agg rfl (F.ev rfl) agg23 (M.rdB (i := 2) rfl) rfl) rfl rfl ?_; clear F; intro φ F
          refine qt_call F (wt1 F rfl rfl rfl rfl rfl) rfl en17 (evc (F.ev rfl) (evc (F.ev rfl) evn)) (fun w' h => calls_below h (cmp_any a b w')) rfl rfl ?_; clear F; intro φ F
          refine qt_pure F (wt1 F rfl rfl rfl rfl rfl) (pu_move rfl (F.ev rfl)) rfl rfl ?_; clear F; intro φ F
          refine qt_pure F (wt1 F rfl rfl rfl rfl rfl) (pu_eqlI rfl (F.ev rfl) (F.ev rfl)) rfl rfl ?_; clear F; intro φ F
          refine qt_pure F (wt0 rfl) (pu_pickt rfl (F.ev rfl) (F.ev rfl)) rfl rfl ?_; clear F; intro φ F
          refine qt_pure F (wt0 rfl) (pu_move rfl (F.ev rfl)) rfl rfl ?_; clear F; intro φ F
          cases hs20 : (decide (a.cmp b = 1))
          · rw [hs20] at F
            have hs20i := of_decide_eq_false hs20; (try dsimp only at hs20i)
            refine qt_skip F (wtn F rfl rfl rfl rfl rfl) rfl rfl ?_; clear F; intro φ F
            refine qt_skip F (wtn F rfl rfl rfl rfl rfl) rfl rfl ?_; clear F; intro φ F
            refine qt_skip F (wtn F rfl rfl rfl rfl rfl) rfl rfl ?_; clear F; intro φ F
            refine qt_skip F (wtn F rfl rfl rfl rfl rfl) rfl rfl ?_; clear F; intro φ F
            refine qt_skip F (wtn F rfl rfl rfl rfl rfl) rfl rfl ?_; clear F; intro φ F
            refine qt_pure F (wt0 rfl) (pu_pickf rfl (F.ev rfl) (evk)) rfl rfl ?_; clear F; intro φ F
            refine qt_pure F (wt0 rfl) (pu_move rfl (F.ev rfl)) rfl rfl ?_; clear F; intro φ F
            refine qt_skip F (wtn F rfl rfl rfl rfl rfl) rfl rfl ?_; clear F; intro φ F
            refine qt_skip F (wtn F rfl rfl rfl rfl rfl) rfl rfl ?_; clear F; intro φ F
            refine qt_skip F (wtn F rfl rfl rfl rfl rfl) rfl rfl ?_; clear F; intro φ F
            refine qt_skip F (wtn F rfl rfl rfl rfl rfl) rfl rfl ?_; clear F; intro φ F
            refine qt_skip F (wtn F rfl rfl rfl rfl rfl) rfl rfl ?_; clear F; intro φ F
            refine qt_pure F (wt0 rfl) (pu_pickf rfl (F.ev rfl) (evk)) rfl rfl ?_; clear F; intro φ F
            refine qt_pure F (wt0 rfl) (pu_assign rfl (F.ev rfl)) rfl rfl ?_; clear F; intro φ F
            refine wpQuiet_nil ?_
            clear M; intro ω M
            refine nxq ?_
            refine wp_ret ?_
            refine rt_tmp F rfl rfl ?_
            exfalso; clear F M; omega
          · rw [hs20] at F
            have hs20i := of_decide_eq_true hs20; (try dsimp only at hs20i)
            refine qt_rd F (wt1 F rfl rfl rfl rfl rfl) (ld_agg rfl (F.ev rfl) agg23 (M.rdB (i := 3) rfl) rfl) rfl rfl ?_; clear F; intro φ F
            refine qt_rd F (wt1 F rfl rfl rfl rfl rfl) (ld_agg rfl (F.ev rfl) agg23 (M.rdB (i := 2) rfl) rfl) rfl rfl ?_; clear F; intro φ F
            refine qt_call F (wt1 F rfl rfl rfl rfl rfl) rfl en18 (evc (F.ev rfl) (evc (F.ev rfl) evn)) (fun w' h => calls_below h (join_any a b w')) rfl rfl ?_; clear F; intro φ F
            refine qt_rd F (wt1 F rfl rfl rfl rfl rfl) (ld_agg rfl (F.ev rfl) agg23 (M.rdB (i := 1) rfl) rfl) rfl rfl ?_; clear F; intro φ F
            refine qt_pure F (wt1 F rfl rfl rfl rfl rfl) (pu_eqlA rfl (F.ev rfl) (F.ev rfl) eqg23 (fun w => eqS23 (a.join b) (St.mk (max a.e b.e) (max a.r b.r)) w)) rfl rfl ?_; clear F; intro φ F
            refine qt_pure F (wt0 rfl) (pu_pickt rfl (F.ev rfl) (F.ev rfl)) rfl rfl ?_; clear F; intro φ F
            refine qt_pure F (wt0 rfl) (pu_move rfl (F.ev rfl)) rfl rfl ?_; clear F; intro φ F
            cases hs21 : (decide ((a.join b) = (St.mk (max a.e b.e) (max a.r b.r))))
            · rw [hs21] at F
              have hs21i := eq_f hs21; (try dsimp only at hs21i)
              refine qt_skip F (wtn F rfl rfl rfl rfl rfl) rfl rfl ?_; clear F; intro φ F
              refine qt_skip F (wtn F rfl rfl rfl rfl rfl) rfl rfl ?_; clear F; intro φ F
              refine qt_skip F (wtn F rfl rfl rfl rfl rfl) rfl rfl ?_; clear F; intro φ F
              refine qt_skip F (wtn F rfl rfl rfl rfl rfl) rfl rfl ?_; clear F; intro φ F
              refine qt_skip F (wtn F rfl rfl rfl rfl rfl) rfl rfl ?_; clear F; intro φ F
              refine qt_pure F (wt0 rfl) (pu_pickf rfl (F.ev rfl) (evk)) rfl rfl ?_; clear F; intro φ F
              refine qt_pure F (wt0 rfl) (pu_assign rfl (F.ev rfl)) rfl rfl ?_; clear F; intro φ F
              refine wpQuiet_nil ?_
              clear M; intro ω M
              refine nxq ?_
              refine wp_ret ?_
              refine rt_tmp F rfl rfl ?_
              exfalso; clear F M; omega
            · rw [hs21] at F
              have hs21i := eq_t hs21; (try dsimp only at hs21i)
              refine qt_rd F (wt1 F rfl rfl rfl rfl rfl) (ld_agg rfl (F.ev rfl) agg23 (M.rdB (i := 3) rfl) rfl) rfl rfl ?_; clear F; intro φ F
              refine qt_rd F (wt1 F rfl rfl rfl rfl rfl) (ld_agg rfl (F.ev rfl) agg23 (M.rdB (i := 2) rfl) rfl) rfl rfl ?_; clear F; intro φ F
              refine qt_call F (wt1 F rfl rfl rfl rfl rfl) rfl en19 (evc (F.ev rfl) (evc (F.ev rfl) evn)) (fun w' h => calls_below h (meet_any a b w')) rfl rfl ?_; clear F; intro φ F
              refine qt_rd F (wt1 F rfl rfl rfl rfl rfl) (ld_agg rfl (F.ev rfl) agg23 (M.rdB (i := 0) rfl) rfl) rfl rfl ?_; clear F; intro φ F
              refine qt_pure F (wt1 F rfl rfl rfl rfl rfl) (pu_eqlA rfl (F.ev rfl) (F.ev rfl) eqg23 (fun w => eqS23 (a.meet b) (St.mk (min a.e b.e) (min a.r b.r)) w)) rfl rfl ?_; clear F; intro φ F
              refine qt_pure F (wt0 rfl) (pu_pickt rfl (F.ev rfl) (F.ev rfl)) rfl rfl ?_; clear F; intro φ F
              refine qt_pure F (wt0 rfl) (pu_assign rfl (F.ev rfl)) rfl rfl ?_; clear F; intro φ F
              refine wpQuiet_nil ?_
              clear M; intro ω M
              refine nxq ?_
              cases hs22 : (decide ((a.meet b) = (St.mk (min a.e b.e) (min a.r b.r))))
              · rw [hs22] at F
                have hs22i := eq_f hs22; (try dsimp only at hs22i)
                refine wp_ret ?_
                refine rt_tmp F rfl rfl ?_
                exfalso; clear F M; omega
              · rw [hs22] at F
                have hs22i := eq_t hs22; (try dsimp only at hs22i)
                refine wp_ret ?_
                refine rt_tmp F rfl rfl ?_
                exact ⟨rfl, M.bel⟩
        · rw [hs19] at F
          have hs19i := le_t hs19; (try dsimp only at hs19i)
          refine qt_pure F (wt1 F rfl rfl rfl rfl rfl) (pu_eqlB rfl (F.ev rfl) (F.ev rfl) Try.underlying4) rfl rfl ?_; clear F; intro φ F
          rw [show (true == true) = true from rfl] at F
          refine qt_pure F (wt0 rfl) (pu_pickt rfl (F.ev rfl) (F.ev rfl)) rfl rfl ?_; clear F; intro φ F
          refine qt_pure F (wt0 rfl) (pu_move rfl (F.ev rfl)) rfl rfl ?_; clear F; intro φ F
          refine qt_rd F (wt1 F rfl rfl rfl rfl rfl) (ld_agg rfl (F.ev rfl) agg23 (M.rdB (i := 3) rfl) rfl) rfl rfl ?_; clear F; intro φ F
          refine qt_rd F (wt1 F rfl rfl rfl rfl rfl) (ld_agg rfl (F.ev rfl) agg23 (M.rdB (i := 2) rfl) rfl) rfl rfl ?_; clear F; intro φ F
          refine qt_call F (wt1 F rfl rfl rfl rfl rfl) rfl en17 (evc (F.ev rfl) (evc (F.ev rfl) evn)) (fun w' h => calls_below h (cmp_any a b w')) rfl rfl ?_; clear F; intro φ F
          refine qt_pure F (wt1 F rfl rfl rfl rfl rfl) (pu_move rfl (F.ev rfl)) rfl rfl ?_; clear F; intro φ F
          refine qt_pure F (wt1 F rfl rfl rfl rfl rfl) (pu_eqlI rfl (F.ev rfl) (F.ev rfl)) rfl rfl ?_; clear F; intro φ F
          refine qt_pure F (wt0 rfl) (pu_pickt rfl (F.ev rfl) (F.ev rfl)) rfl rfl ?_; clear F; intro φ F
          refine qt_pure F (wt0 rfl) (pu_move rfl (F.ev rfl)) rfl rfl ?_; clear F; intro φ F
          cases hs23 : (decide (a.cmp b = 1))
          · rw [hs23] at F
            have hs23i := of_decide_eq_false hs23; (try dsimp only at hs23i)
            refine qt_skip F (wtn F rfl rfl rfl rfl rfl) rfl rfl ?_; clear F; intro φ F
            refine qt_skip F (wtn F rfl rfl rfl rfl rfl) rfl rfl ?_; clear F; intro φ F
            refine qt_skip F (wtn F rfl rfl rfl rfl rfl) rfl rfl ?_; clear F; intro φ F
            refine qt_skip F (wtn F rfl rfl rfl rfl rfl) rfl rfl ?_; clear F; intro φ F
            refine qt_skip F (wtn F rfl rfl rfl rfl rfl) rfl rfl ?_; clear F; intro φ F
            refine qt_pure F (wt0 rfl) (pu_pickf rfl (F.ev rfl) (evk)) rfl rfl ?_; clear F; intro φ F
            refine qt_pure F (wt0 rfl) (pu_move rfl (F.ev rfl)) rfl rfl ?_; clear F; intro φ F
            refine qt_skip F (wtn F rfl rfl rfl rfl rfl) rfl rfl ?_; clear F; intro φ F
            refine qt_skip F (wtn F rfl rfl rfl rfl rfl) rfl rfl ?_; clear F; intro φ F
            refine qt_skip F (wtn F rfl rfl rfl rfl rfl) rfl rfl ?_; clear F; intro φ F
            refine qt_skip F (wtn F rfl rfl rfl rfl rfl) rfl rfl ?_; clear F; intro φ F
            refine qt_skip F (wtn F rfl rfl rfl rfl rfl) rfl rfl ?_; clear F; intro φ F
            refine qt_pure F (wt0 rfl) (pu_pickf rfl (F.ev rfl) (evk)) rfl rfl ?_; clear F; intro φ F
            refine qt_pure F (wt0 rfl) (pu_assign rfl (F.ev rfl)) rfl rfl ?_; clear F; intro φ F
            refine wpQuiet_nil ?_
            clear M; intro ω M
            refine nxq ?_
            refine wp_ret ?_
            refine rt_tmp F rfl rfl ?_
            exfalso; clear F M; omega
          · rw [hs23] at F
            have hs23i := of_decide_eq_true hs23; (try dsimp only at hs23i)
            refine qt_rd F (wt1 F rfl rfl rfl rfl rfl) (ld_agg rfl (F.ev rfl) agg23 (M.rdB (i := 3) rfl) rfl) rfl rfl ?_; clear F; intro φ F
            refine qt_rd F (wt1 F rfl rfl rfl rfl rfl) (ld_agg rfl (F.ev rfl) agg23 (M.rdB (i := 2) rfl) rfl) rfl rfl ?_; clear F; intro φ F
            refine qt_call F (wt1 F rfl rfl rfl rfl rfl) rfl en18 (evc (F.ev rfl) (evc (F.ev rfl) evn)) (fun w' h => calls_below h (join_any a b w')) rfl rfl ?_; clear F; intro φ F
            refine qt_rd F (wt1 F rfl rfl rfl rfl rfl) (ld_agg rfl (F.ev rfl) agg23 (M.rdB (i := 1) rfl) rfl) rfl rfl ?_; clear F; intro φ F
            refine qt_pure F (wt1 F rfl rfl rfl rfl rfl) (pu_eqlA rfl (F.ev rfl) (F.ev rfl) eqg23 (fun w => eqS23 (a.join b) (St.mk (max a.e b.e) (max a.r b.r)) w)) rfl rfl ?_; clear F; intro φ F
            refine qt_pure F (wt0 rfl) (pu_pickt rfl (F.ev rfl) (F.ev rfl)) rfl rfl ?_; clear F; intro φ F
            refine qt_pure F (wt0 rfl) (pu_move rfl (F.ev rfl)) rfl rfl ?_; clear F; intro φ F
            cases hs24 : (decide ((a.join b) = (St.mk (max a.e b.e) (max a.r b.r))))
            · rw [hs24] at F
              have hs24i := eq_f hs24; (try dsimp only at hs24i)
              refine qt_skip F (wtn F rfl rfl rfl rfl rfl) rfl rfl ?_; clear F; intro φ F
              refine qt_skip F (wtn F rfl rfl rfl rfl rfl) rfl rfl ?_; clear F; intro φ F
              refine qt_skip F (wtn F rfl rfl rfl rfl rfl) rfl rfl ?_; clear F; intro φ F
              refine qt_skip F (wtn F rfl rfl rfl rfl rfl) rfl rfl ?_; clear F; intro φ F
              refine qt_skip F (wtn F rfl rfl rfl rfl rfl) rfl rfl ?_; clear F; intro φ F
              refine qt_pure F (wt0 rfl) (pu_pickf rfl (F.ev rfl) (evk)) rfl rfl ?_; clear F; intro φ F
              refine qt_pure F (wt0 rfl) (pu_assign rfl (F.ev rfl)) rfl rfl ?_; clear F; intro φ F
              refine wpQuiet_nil ?_
              clear M; intro ω M
              refine nxq ?_
              refine wp_ret ?_
              refine rt_tmp F rfl rfl ?_
              exfalso; clear F M; omega
            · rw [hs24] at F
              have hs24i := eq_t hs24; (try dsimp only at hs24i)
              refine qt_rd F (wt1 F rfl rfl rfl rfl rfl) (ld_agg rfl (F.ev rfl) agg23 (M.rdB (i := 3) rfl) rfl) rfl rfl ?_; clear F; intro φ F
              refine qt_rd F (wt1 F rfl rfl rfl rfl rfl) (ld_agg rfl (F.ev rfl) agg23 (M.rdB (i := 2) rfl) rfl) rfl rfl ?_; clear F; intro φ F
              refine qt_call F (wt1 F rfl rfl rfl rfl rfl) rfl en19 (evc (F.ev rfl) (evc (F.ev rfl) evn)) (fun w' h => calls_below h (meet_any a b w')) rfl rfl ?_; clear F; intro φ F
              refine qt_rd F (wt1 F rfl rfl rfl rfl rfl) (ld_agg rfl (F.ev rfl) agg23 (M.rdB (i := 0) rfl) rfl) rfl rfl ?_; clear F; intro φ F
              refine qt_pure F (wt1 F rfl rfl rfl rfl rfl) (pu_eqlA rfl (F.ev rfl) (F.ev rfl) eqg23 (fun w => eqS23 (a.meet b) (St.mk (min a.e b.e) (min a.r b.r)) w)) rfl rfl ?_; clear F; intro φ F
              refine qt_pure F (wt0 rfl) (pu_pickt rfl (F.ev rfl) (F.ev rfl)) rfl rfl ?_; clear F; intro φ F
              refine qt_pure F (wt0 rfl) (pu_assign rfl (F.ev rfl)) rfl rfl ?_; clear F; intro φ F
              refine wpQuiet_nil ?_
              clear M; intro ω M
              refine nxq ?_
              cases hs25 : (decide ((a.meet b) = (St.mk (min a.e b.e) (min a.r b.r))))
              · rw [hs25] at F
                have hs25i := eq_f hs25; (try dsimp only at hs25i)
                refine wp_ret ?_
                refine rt_tmp F rfl rfl ?_
                exfalso; clear F M; omega
              · rw [hs25] at F
                have hs25i := eq_t hs25; (try dsimp only at hs25i)
                refine wp_ret ?_
                refine rt_tmp F rfl rfl ?_
                exact ⟨rfl, M.bel⟩
      · rw [hs18] at F
        have hs18i := right_t hs18; (try dsimp only at hs18i)
        refine qt_pure F (wt1 F rfl rfl rfl rfl rfl) (pu_eqlB rfl (F.ev rfl) (F.ev rfl) Try.underlying4) rfl rfl ?_; clear F; intro φ F
        rw [show (true == true) = true from rfl] at F
        refine qt_pure F (wt0 rfl) (pu_pickt rfl (F.ev rfl) (F.ev rfl)) rfl rfl ?_; clear F; intro φ F
        refine qt_pure F (wt0 rfl) (pu_move rfl (F.ev rfl)) rfl rfl ?_; clear F; intro φ F
        refine qt_rd F (wt1 F rfl rfl rfl rfl rfl) (ld_agg rfl (F.ev rfl) agg23 (M.rdB (i := 3) rfl) rfl) rfl rfl ?_; clear F; intro φ F
        refine qt_rd F (wt1 F rfl rfl rfl rfl rfl) (ld_agg rfl (F.ev rfl) agg23 (M.rdB (i := 2) rfl) rfl) rfl rfl ?_; clear F; intro φ F
        refine qt_call F (wt1 F rfl rfl rfl rfl rfl) rfl en15 (evc (F.ev rfl) (evc (F.ev rfl) evn)) (fun w' h => calls_below h (le_any a b w')) rfl rfl ?_; clear F; intro φ F
        refine qt_rd F (wt1 F rfl rfl rfl rfl rfl) (ld_agg rfl (F.ev rfl) agg23 (M.rdB (i := 3) rfl) rfl) rfl rfl ?_; clear F; intro φ F
        refine qt_rd F (wt1 F rfl rfl rfl rfl rfl) (ld_agg rfl (F.ev rfl) agg23 (M.rdB (i := 2) rfl) rfl) rfl rfl ?_; clear F; intro φ F
        refine qt_call F (wt1 F rfl rfl rfl rfl rfl) rfl en16 (evc (F.ev rfl) (evc (F.ev rfl) evn)) (fun w' h => calls_below h (rle_any a b w')) rfl rfl ?_; clear F; intro φ F
        cases hs26 : (a.leB b)
        · rw [hs26] at F
          have hs26i := le_f hs26; (try dsimp only at hs26i)
          refine qt_pure F (wt1 F rfl rfl rfl rfl rfl) (pu_eqlB rfl (F.ev rfl) (F.ev rfl) Try.underlying4) rfl rfl ?_; clear F; intro φ F
          rw [show (false == false) = true from rfl] at F
          refine qt_pure F (wt0 rfl) (pu_pickt rfl (F.ev rfl) (F.ev rfl)) rfl rfl ?_; clear F; intro φ F
          refine qt_pure F (wt0 rfl) (pu_move rfl (F.ev rfl)) rfl rfl ?_; clear F; intro φ F
          refine qt_rd F (wt1 F rfl rfl rfl rfl rfl) (ld_agg rfl (F.ev rfl) agg23 (M.rdB (i := 3) rfl) rfl) rfl rfl ?_; clear F; intro φ F
          refine qt_rd F (wt1 F rfl rfl rfl rfl rfl) (ld_agg rfl (F.ev rfl) agg23 (M.rdB (i := 2) rfl) rfl) rfl rfl ?_; clear F; intro φ F
          refine qt_call F (wt1 F rfl rfl rfl rfl rfl) rfl en17 (evc (F.ev rfl) (evc (F.ev rfl) evn)) (fun w' h => calls_below h (cmp_any a b w')) rfl rfl ?_; clear F; intro φ F
          refine qt_pure F (wt1 F rfl rfl rfl rfl rfl) (pu_move rfl (F.ev rfl)) rfl rfl ?_; clear F; intro φ F
          refine qt_pure F (wt1 F rfl rfl rfl rfl rfl) (pu_eqlI rfl (F.ev rfl) (F.ev rfl)) rfl rfl ?_; clear F; intro φ F
          refine qt_pure F (wt0 rfl) (pu_pickt rfl (F.ev rfl) (F.ev rfl)) rfl rfl ?_; clear F; intro φ F
          refine qt_pure F (wt0 rfl) (pu_move rfl (F.ev rfl)) rfl rfl ?_; clear F; intro φ F
          cases hs27 : (decide (a.cmp b = 1))
          · rw [hs27] at F
            have hs27i := of_decide_eq_false hs27; (try dsimp only at hs27i)
            refine qt_skip F (wtn F rfl rfl rfl rfl rfl) rfl rfl ?_; clear F; intro φ F
            refine qt_skip F (wtn F rfl rfl rfl rfl rfl) rfl rfl ?_; clear F; intro φ F
            refine qt_skip F (wtn F rfl rfl rfl rfl rfl) rfl rfl ?_; clear F; intro φ F
            refine qt_skip F (wtn F rfl rfl rfl rfl rfl) rfl rfl ?_; clear F; intro φ F
            refine qt_skip F (wtn F rfl rfl rfl rfl rfl) rfl rfl ?_; clear F; intro φ F
            refine qt_pure F (wt0 rfl) (pu_pickf rfl (F.ev rfl) (evk)) rfl rfl ?_; clear F; intro φ F
            refine qt_pure F (wt0 rfl) (pu_move rfl (F.ev rfl)) rfl rfl ?_; clear F; intro φ F
            refine qt_skip F (wtn F rfl rfl rfl rfl rfl) rfl rfl ?_; clear F; intro φ F
            refine qt_skip F (wtn F rfl rfl rfl rfl rfl) rfl rfl ?_; clear F; intro φ F
            refine qt_skip F (wtn F rfl rfl rfl rfl rfl) rfl rfl ?_; clear F; intro φ F
            refine qt_skip F (wtn F rfl rfl rfl rfl rfl) rfl rfl ?_; clear F; intro φ F
            refine qt_skip F (wtn F rfl rfl rfl rfl rfl) rfl rfl ?_; clear F; intro φ F
            refine qt_pure F (wt0 rfl) (pu_pickf rfl (F.ev rfl) (evk)) rfl rfl ?_; clear F; intro φ F
            refine qt_pure F (wt0 rfl) (pu_assign rfl (F.ev rfl)) rfl rfl ?_; clear F; intro φ F
            refine wpQuiet_nil ?_
            clear M; intro ω M
            refine nxq ?_
            refine wp_ret ?_
            refine rt_tmp F rfl rfl ?_
            exfalso; clear F M; omega
          · rw [hs27] at F
            have hs27i := of_decide_eq_true hs27; (try dsimp only at hs27i)
            refine qt_rd F (wt1 F rfl rfl rfl rfl rfl) (ld_agg rfl (F.ev rfl) agg23 (M.rdB (i := 3) rfl) rfl) rfl rfl ?_; clear F; intro φ F
            refine qt_rd F (wt1 F rfl rfl rfl rfl rfl) (ld_agg rfl (F.ev rfl) agg23 (M.rdB (i := 2) rfl) rfl) rfl rfl ?_; clear F; intro φ F
            refine qt_call F (wt1 F rfl rfl rfl rfl rfl) rfl en18 (evc (F.ev rfl) (evc (F.ev rfl) evn)) (fun w' h => calls_below h (join_any a b w')) rfl rfl ?_; clear F; intro φ F
            refine qt_rd F (wt1 F rfl rfl rfl rfl rfl) (ld_agg rfl (F.ev rfl) agg23 (M.rdB (i := 1) rfl) rfl) rfl rfl ?_; clear F; intro φ F
            refine qt_pure F (wt1 F rfl rfl rfl rfl rfl) (pu_eqlA rfl (F.ev rfl) (F.ev rfl) eqg23 (fun w => eqS23 (a.join b) (St.mk (max a.e b.e) (max a.r b.r)) w)) rfl rfl ?_; clear F; intro φ F
            refine qt_pure F (wt0 rfl) (pu_pickt rfl (F.ev rfl) (F.ev rfl)) rfl rfl ?_; clear F; intro φ F
            refine qt_pure F (wt0 rfl) (pu_move rfl (F.ev rfl)) rfl rfl ?_; clear F; intro φ F
            cases hs28 : (decide ((a.join b) = (St.mk (max a.e b.e) (max a.r b.r))))
            · rw [hs28] at F
              have hs28i := eq_f hs28; (try dsimp only at hs28i)
              refine qt_skip F (wtn F rfl rfl rfl rfl rfl) rfl rfl ?_; clear F; intro φ F
              refine qt_skip F (wtn F rfl rfl rfl rfl rfl) rfl rfl ?_; clear F; intro φ F
              refine qt_skip F (wtn F rfl rfl rfl rfl rfl) rfl rfl ?_; clear F; intro φ F
              refine qt_skip F (wtn F rfl rfl rfl rfl rfl) rfl rfl ?_; clear F; intro φ F
              refine qt_skip F (wtn F rfl rfl rfl rfl rfl) rfl rfl ?_; clear F; intro φ F
              refine qt_pure F (wt0 rfl) (pu_pickf rfl (F.ev rfl) (evk)) rfl rfl ?_; clear F; intro φ F
              refine qt_pure F (wt0 rfl) (pu_assign rfl (F.ev rfl)) rfl rfl ?_; clear F; intro φ F
              refine wpQuiet_nil ?_
              clear M; intro ω M
              refine nxq ?_
              refine wp_ret ?_
              refine rt_tmp F rfl rfl ?_
              exfalso; clear F M; omega
            · rw [hs28] at F
              have hs28i := eq_t hs28; (try dsimp only at hs28i)
              refine qt_rd F (wt1 F rfl rfl rfl rfl rfl) (ld_agg rfl (F.ev rfl) agg23 (M.rdB (i := 3) rfl) rfl) rfl rfl ?_; clear F; intro φ F
              refine qt_rd F (wt1 F rfl rfl rfl rfl rfl) (ld_agg rfl (F.ev rfl) agg23 (M.rdB (i := 2) rfl) rfl) rfl rfl ?_; clear F; intro φ F
              refine qt_call F (wt1 F rfl rfl rfl rfl rfl) rfl en19 (evc (F.ev rfl) (evc (F.ev rfl) evn)) (fun w' h => calls_below h (meet_any a b w')) rfl rfl ?_; clear F; intro φ F
              refine qt_rd F (wt1 F rfl rfl rfl rfl rfl) (ld_agg rfl (F.ev rfl) agg23 (M.rdB (i := 0) rfl) rfl) rfl rfl ?_; clear F; intro φ F
              refine qt_pure F (wt1 F rfl rfl rfl rfl rfl) (pu_eqlA rfl (F.ev rfl) (F.ev rfl) eqg23 (fun w => eqS23 (a.meet b) (St.mk (min a.e b.e) (min a.r b.r)) w)) rfl rfl ?_; clear F; intro φ F
              refine qt_pure F (wt0 rfl) (pu_pickt rfl (F.ev rfl) (F.ev rfl)) rfl rfl ?_; clear F; intro φ F
              refine qt_pure F (wt0 rfl) (pu_assign rfl (F.ev rfl)) rfl rfl ?_; clear F; intro φ F
              refine wpQuiet_nil ?_
              clear M; intro ω M
              refine nxq ?_
              cases hs29 : (decide ((a.meet b) = (St.mk (min a.e b.e) (min a.r b.r))))
              · rw [hs29] at F
                have hs29i := eq_f hs29; (try dsimp only at hs29i)
                refine wp_ret ?_
                refine rt_tmp F rfl rfl ?_
                exfalso; clear F M; omega
              · rw [hs29] at F
                have hs29i := eq_t hs29; (try dsimp only at hs29i)
                refine wp_ret ?_
                refine rt_tmp F rfl rfl ?_
                exact ⟨rfl, M.bel⟩
        · rw [hs26] at F
          have hs26i := le_t hs26; (try dsimp only at hs26i)
          refine qt_pure F (wt1 F rfl rfl rfl rfl rfl) (pu_eqlB rfl (F.ev rfl) (F.ev rfl) Try.underlying4) rfl rfl ?_; clear F; intro φ F
          rw [show (true == true) = true from rfl] at F
          refine qt_pure F (wt0 rfl) (pu_pickt rfl (F.ev rfl) (F.ev rfl)) rfl rfl ?_; clear F; intro φ F
          refine qt_pure F (wt0 rfl) (pu_move rfl (F.ev rfl)) rfl rfl ?_; clear F; intro φ F
          refine qt_rd F (wt1 F rfl rfl rfl rfl rfl) (ld_agg rfl (F.ev rfl) agg23 (M.rdB (i := 3) rfl) rfl) rfl rfl ?_; clear F; intro φ F
          refine qt_rd F (wt1 F rfl rfl rfl rfl rfl) (ld_agg rfl (F.ev rfl) agg23 (M.rdB (i := 2) rfl) rfl) rfl rfl ?_; clear F; intro φ F
          refine qt_call F (wt1 F rfl rfl rfl rfl rfl) rfl en17 (evc (F.ev rfl) (evc (F.ev rfl) evn)) (fun w' h => calls_below h (cmp_any a b w')) rfl rfl ?_; clear F; intro φ F
          refine qt_pure F (wt1 F rfl rfl rfl rfl rfl) (pu_move rfl (F.ev rfl)) rfl rfl ?_; clear F; intro φ F
          refine qt_pure F (wt1 F rfl rfl rfl rfl rfl) (pu_eqlI rfl (F.ev rfl) (F.ev rfl)) rfl rfl ?_; clear F; intro φ F
          refine qt_pure F (wt0 rfl) (pu_pickt rfl (F.ev rfl) (F.ev rfl)) rfl rfl ?_; clear F; intro φ F
          refine qt_pure F (wt0 rfl) (pu_move rfl (F.ev rfl)) rfl rfl ?_; clear F; intro φ F
          cases hs30 : (decide (a.cmp b = 1))
          · rw [hs30] at F
            have hs30i := of_decide_eq_false hs30; (try dsimp only at hs30i)
            refine qt_skip F (wtn F rfl rfl rfl rfl rfl) rfl rfl ?_; clear F; intro φ F
            refine qt_skip F (wtn F rfl rfl rfl rfl rfl) rfl rfl ?_; clear F; intro φ F
            refine qt_skip F (wtn F rfl rfl rfl rfl rfl) rfl rfl ?_; clear F; intro φ F
            refine qt_skip F (wtn F rfl rfl rfl rfl rfl) rfl rfl ?_; clear F; intro φ F
            refine qt_skip F (wtn F rfl rfl rfl rfl rfl) rfl rfl ?_; clear F; intro φ F
            refine qt_pure F (wt0 rfl) (pu_pickf rfl (F.ev rfl) (evk)) rfl rfl ?_; clear F; intro φ F
            refine qt_pure F (wt0 rfl) (pu_move rfl (F.ev rfl)) rfl rfl ?_; clear F; intro φ F
            refine qt_skip F (wtn F rfl rfl rfl rfl rfl) rfl rfl ?_; clear F; intro φ F
            refine qt_skip F (wtn F rfl rfl rfl rfl rfl) rfl rfl ?_; clear F; intro φ F
            refine qt_skip F (wtn F rfl rfl rfl rfl rfl) rfl rfl ?_; clear F; intro φ F
            refine qt_skip F (wtn F rfl rfl rfl rfl rfl) rfl rfl ?_; clear F; intro φ F
            refine qt_skip F (wtn F rfl rfl rfl rfl rfl) rfl rfl ?_; clear F; intro φ F
            refine qt_pure F (wt0 rfl) (pu_pickf rfl (F.ev rfl) (evk)) rfl rfl ?_; clear F; intro φ F
            refine qt_pure F (wt0 rfl) (pu_assign rfl (F.ev rfl)) rfl rfl ?_; clear F; intro φ F
            refine wpQuiet_nil ?_
            clear M; intro ω M
            refine nxq ?_
            refine wp_ret ?_
            refine rt_tmp F rfl rfl ?_
            exfalso; clear F M; omega
          · rw [hs30] at F
            have hs30i := of_decide_eq_true hs30; (try dsimp only at hs30i)
            refine qt_rd F (wt1 F rfl rfl rfl rfl rfl) (ld_agg rfl (F.ev rfl) agg23 (M.rdB (i := 3) rfl) rfl) rfl rfl ?_; clear F; intro φ F
            refine qt_rd F (wt1 F rfl rfl rfl rfl rfl) (ld_agg rfl (F.ev rfl) agg23 (M.rdB (i := 2) rfl) rfl) rfl rfl ?_; clear F; intro φ F
            refine qt_call F (wt1 F rfl rfl rfl rfl rfl) rfl en18 (evc (F.ev rfl) (evc (F.ev rfl) evn)) (fun w' h => calls_below h (join_any a b w')) rfl rfl ?_; clear F; intro φ F
            refine qt_rd F (wt1 F rfl rfl rfl rfl rfl) (ld_agg rfl (F.ev rfl) agg23 (M.rdB (i := 1) rfl) rfl) rfl rfl ?_; clear F; intro φ F
            refine qt_pure F (wt1 F rfl rfl rfl rfl rfl) (pu_eqlA rfl (F.ev rfl) (F.ev rfl) eqg23 (fun w => eqS23 (a.join b) (St.mk (max a.e b.e) (max a.r b.r)) w)) rfl rfl ?_; clear F; intro φ F
            refine qt_pure F (wt0 rfl) (pu_pickt rfl (F.ev rfl) (F.ev rfl)) rfl rfl ?_; clear F; intro φ F
            refine qt_pure F (wt0 rfl) (pu_move rfl (F.ev rfl)) rfl rfl ?_; clear F; intro φ F
            cases hs31 : (decide ((a.join b) = (St.mk (max a.e b.e) (max a.r b.r))))
            · rw [hs31] at F
              have hs31i := eq_f hs31; (try dsimp only at hs31i)
              refine qt_skip F (wtn F rfl rfl rfl rfl rfl) rfl rfl ?_; clear F; intro φ F
              refine qt_skip F (wtn F rfl rfl rfl rfl rfl) rfl rfl ?_; clear F; intro φ F
              refine qt_skip F (wtn F rfl rfl rfl rfl rfl) rfl rfl ?_; clear F; intro φ F
              refine qt_skip F (wtn F rfl rfl rfl rfl rfl) rfl rfl ?_; clear F; intro φ F
              refine qt_skip F (wtn F rfl rfl rfl rfl rfl) rfl rfl ?_; clear F; intro φ F
              refine qt_pure F (wt0 rfl) (pu_pickf rfl (F.ev rfl) (evk)) rfl rfl ?_; clear F; intro φ F
              refine qt_pure F (wt0 rfl) (pu_assign rfl (F.ev rfl)) rfl rfl ?_; clear F; intro φ F
              refine wpQuiet_nil ?_
              clear M; intro ω M
              refine nxq ?_
              refine wp_ret ?_
              refine rt_tmp F rfl rfl ?_
              exfalso; clear F M; omega
            · rw [hs31] at F
              have hs31i := eq_t hs31; (try dsimp only at hs31i)
              refine qt_rd F (wt1 F rfl rfl rfl rfl rfl) (ld_agg rfl (F.ev rfl) agg23 (M.rdB (i := 3) rfl) rfl) rfl rfl ?_; clear F; intro φ F
              refine qt_rd F (wt1 F rfl rfl rfl rfl rfl) (ld_agg rfl (F.ev rfl) agg23 (M.rdB (i := 2) rfl) rfl) rfl rfl ?_; clear F; intro φ F
              refine qt_call F (wt1 F rfl rfl rfl rfl rfl) rfl en19 (evc (F.ev rfl) (evc (F.ev rfl) evn)) (fun w' h => calls_below h (meet_any a b w')) rfl rfl ?_; clear F; intro φ F
              refine qt_rd F (wt1 F rfl rfl rfl rfl rfl) (ld_agg rfl (F.ev rfl) agg23 (M.rdB (i := 0) rfl) rfl) rfl rfl ?_; clear F; intro φ F
              refine qt_pure F (wt1 F rfl rfl rfl rfl rfl) (pu_eqlA rfl (F.ev rfl) (F.ev rfl) eqg23 (fun w => eqS23 (a.meet b) (St.mk (min a.e b.e) (min a.r b.r)) w)) rfl rfl ?_; clear F; intro φ F
              refine qt_pure F (wt0 rfl) (pu_pickt rfl (F.ev rfl) (F.ev rfl)) rfl rfl ?_; clear F; intro φ F
              refine qt_pure F (wt0 rfl) (pu_assign rfl (F.ev rfl)) rfl rfl ?_; clear F; intro φ F
              refine wpQuiet_nil ?_
              clear M; intro ω M
              refine nxq ?_
              cases hs32 : (decide ((a.meet b) = (St.mk (min a.e b.e) (min a.r b.r))))
              · rw [hs32] at F
                have hs32i := eq_f hs32; (try dsimp only at hs32i)
                refine wp_ret ?_
                refine rt_tmp F rfl rfl ?_
                exfalso; clear F M; omega
              · rw [hs32] at F
                have hs32i := eq_t hs32; (try dsimp only at hs32i)
                refine wp_ret ?_
                refine rt_tmp F rfl rfl ?_
                exact ⟨rfl, M.bel⟩
  · rw [hs1] at F
    have hs1i := ahead_t hs1; (try dsimp only at hs1i)
    refine wp_cond_true (F.ev rfl) ?_
    -- region 4
    refine wp_region_lit ?_
    refine sq_pure F (wt0 rfl) (pu_assign rfl (evk)) rfl rfl ?_; clear F; intro φ F
    refine nx ?_
    refine wp_seq ?_
    refine wp_seq ?_
    -- region 5
    refine wp_region_lit ?_
    refine sq_rd F (wt0 rfl) (ld_agg rfl (F.ev rfl) agg23 (M.rd (i := 0) rfl) rfl) rfl rfl ?_; clear F; intro φ F
    refine sq_rd F (wt0 rfl) (ld_agg rfl (F.ev rfl) agg23 (M.rd (i := 1) rfl) rfl) rfl rfl ?_; clear F; intro φ F
    refine sq_call F M (wt0 rfl) rfl en12 (evc (F.ev rfl) (evc (F.ev rfl) evn)) (rahead_any b a _) rfl rfl ?_; clear F M; intro φ ω F M
    refine nx ?_
    cases hs33 : (b.aheadB a)
    · rw [hs33] at F
      have hs33i := ahead_f hs33; (try dsimp only at hs33i)
      refine wp_cond_false (F.ev rfl) ?_
      refine wp_skip ?_
      refine nxq ?_
      refine wp_seq ?_
      -- region 7
      refine wp_region_lit ?_
      refine sq_pure F (wt0 rfl) (pu_field rfl (F.ev rfl) fo23_0) rfl rfl ?_; clear F; intro φ F
      refine sq_rd F (wt0 rfl) (ld_cell rfl (F.ev rfl) one3 (M.rd (i := 1) rfl) rfl) rfl rfl ?_; clear F; intro φ F
      refine sq_pure F (wt0 rfl) (pu_field rfl (F.ev rfl) fo23_0) rfl rfl ?_; clear F; intro φ F
      refine sq_rd F (wt0 rfl) (ld_cell rfl (F.ev rfl) one3 (M.rd (i := 0) rfl) rfl) rfl rfl ?_; clear F; intro φ F
      refine sq_pure F (wt0 rfl) (pu_max rfl (F.ev rfl) (F.ev rfl)) rfl rfl ?_; clear F; intro φ F
      refine sq_pure F (wt0 rfl) (pu_field rfl (F.ev rfl) fo23_1) rfl rfl ?_; clear F; intro φ F
      refine sq_rd F (wt0 rfl) (ld_cell rfl (F.ev rfl) one3 (M.rd (i := 1) rfl) rfl) rfl rfl ?_; clear F; intro φ F
      refine sq_pure F (wt0 rfl) (pu_field rfl (F.ev rfl) fo23_1) rfl rfl ?_; clear F; intro φ F
      refine sq_rd F (wt0 rfl) (ld_cell rfl (F.ev rfl) one3 (M.rd (i := 0) rfl) rfl) rfl rfl ?_; clear F; intro φ F
      refine sq_pure F (wt0 rfl) (pu_max rfl (F.ev rfl) (F.ev rfl)) rfl rfl ?_; clear F; intro φ F
      refine sq_pure F (wt0 rfl) (bu23_2 rfl (F.ev rfl) (F.ev rfl)) rfl rfl ?_; clear F; intro φ F
      refine sq_alloc F M (wt0 rfl) rfl z23 rfl rfl ?_; clear F M; intro φ ω g7 F M
      refine sq_stA F M (wt0 rfl) rfl (F.ev rfl) (F.ev rfl) (i := 0) rfl agg23 rfl rfl rfl rfl ?_; clear M; intro ω M
      refine nx ?_
      refine wp_seq ?_
      -- region 8
      refine wp_region_lit ?_
      refine sq_pure F (wt0 rfl) (pu_field rfl (F.ev rfl) fo23_0) rfl rfl ?_; clear F; intro φ F
      refine sq_rd F (wt0 rfl) (ld_cell rfl (F.ev rfl) one3 (M.rd (i := 2) rfl) rfl) rfl rfl ?_; clear F; intro φ F
      refine sq_pure F (wt0 rfl) (pu_field rfl (F.ev rfl) fo23_0) rfl rfl ?_; clear F; intro φ F
      refine sq_rd F (wt0 rfl) (ld_cell rfl (F.ev rfl) one3 (M.rd (i := 1) rfl) rfl) rfl rfl ?_; clear F; intro φ F
      refine sq_pure F (wt0 rfl) (pu_min rfl (F.ev rfl) (F.ev rfl)) rfl rfl ?_; clear F; intro φ F
      refine sq_pure F (wt0 rfl) (pu_field rfl (F.ev rfl) fo23_1) rfl rfl ?_; clear F; intro φ F
      refine sq_rd F (wt0 rfl) (ld_cell rfl (F.ev rfl) one3 (M.rd (i := 2) rfl) rfl) rfl rfl ?_; clear F; intro φ F
      refine sq_pure F (wt0 rfl) (pu_field rfl (F.ev rfl) fo23_1) rfl rfl ?_; clear F; intro φ F
      refine sq_rd F (wt0 rfl) (ld_cell rfl (F.ev rfl) one3 (M.rd (i := 1) rfl) rfl) rfl rfl ?_; clear F; intro φ F
      refine sq_pure F (wt0 rfl) (pu_min rfl (F.ev rfl) (F.ev rfl)) rfl rfl ?_; clear F; intro φ F
      refine sq_pure F (wt0 rfl) (bu23_2 rfl (F.ev rfl) (F.ev rfl)) rfl rfl ?_; clear F; intro φ F
      refine sq_alloc F M (wt0 rfl) rfl z23 rfl rfl ?_; clear F M; intro φ ω g8 F M
      refine sq_stA F M (wt0 rfl) rfl (F.ev rfl) (F.ev rfl) (i := 0) rfl agg23 rfl rfl rfl rfl ?_; clear M; intro ω M
      refine nx ?_
      refine wp_seq ?_
      -- region 9
      refine rg_quiet M mixedOK (by kernel_rfl) ?_
      refine qt_pure F (wt0 rfl) (pu_move rfl (F.ev rfl)) rfl rfl ?_; clear F; intro φ F
      refine qt_pure F (wt0 rfl) (pu_move rfl (F.ev rfl)) rfl rfl ?_; clear F; intro φ F
      refine qt_rd F (wt1 F rfl rfl rfl rfl rfl) (ld_agg rfl (F.ev rfl) agg23 (M.rdB (i := 3) rfl) rfl) rfl rfl ?_; clear F; intro φ F
      refine qt_call F (wt1 F rfl rfl rfl rfl rfl) rfl en13 (evc (F.ev rfl) evn) (fun w' h => calls_below h (right_any a w')) rfl rfl ?_; clear F; intro φ F
      refine qt_rd F (wt1 F rfl rfl rfl rfl rfl) (ld_agg rfl (F.ev rfl) agg23 (M.rdB (i := 3) rfl) rfl) rfl rfl ?_; clear F; intro φ F
      refine qt_call F (wt1 F rfl rfl rfl rfl rfl) rfl en14 (evc (F.ev rfl) evn) (fun w' h => calls_below h (rright_any a w')) rfl rfl ?_; clear F; intro φ F
      cases hs34 : a.rightB
      · rw [hs34] at F
        have hs34i := right_f hs34; (try dsimp only at hs34i)
        refine qt_pure F (wt1 F rfl rfl rfl rfl rfl) (pu_eqlB rfl (F.ev rfl) (F.ev rfl) Try.underlying4) rfl rfl ?_; clear F; intro φ F
        rw [show (false == false) = true from rfl] at F
        refine qt_pure F (wt0 rfl) (pu_pickt rfl (F.ev rfl) (F.ev rfl)) rfl rfl ?_; clear F; intro φ F
        refine qt_pure F (wt0 rfl) (pu_move rfl (F.ev rfl)) rfl rfl ?_; clear F; intro φ F
        refine qt_rd F (wt1 F rfl rfl rfl rfl rfl) (ld_agg rfl (F.ev rfl) agg23 (M.rdB (i := 3) rfl) rfl) rfl rfl ?_; clear F; intro φ F
        refine qt_rd F (wt1 F rfl rfl rfl rfl rfl) (ld_agg rfl (F.ev rfl) agg23 (M.rdB (i := 2) rfl) rfl) rfl rfl ?_; clear F; intro φ F
        refine qt_call F (wt1 F rfl rfl rfl rfl rfl) rfl en15 (evc (F.ev rfl) (evc (F.ev rfl) evn)) (fun w' h => calls_below h (le_any a b w')) rfl rfl ?_; clear F; intro φ F
        refine qt_rd F (wt1 F rfl rfl rfl rfl rfl) (ld_agg rfl (F.ev rfl) agg23 (M.rdB (i := 3) rfl) rfl) rfl rfl ?_; clear F; intro φ F
        refine qt_rd F (wt1 F rfl rfl rfl rfl rfl) (ld_agg rfl (F.ev rfl) agg23 (M.rdB (i := 2) rfl) rfl) rfl rfl ?_; clear F; intro φ F
        refine qt_call F (wt1 F rfl rfl rfl rfl rfl) rfl en16 (evc (F.ev rfl) (evc (F.ev rfl) evn)) (fun w' h => calls_below h (rle_any a b w')) rfl rfl ?_; clear F; intro φ F
        cases hs35 : (a.leB b)
        · rw [hs35] at F
          have hs35i := le_f hs35; (try dsimp only at hs35i)
          refine qt_pure F (wt1 F rfl rfl rfl rfl rfl) (pu_eqlB rfl (F.ev rfl) (F.ev rfl) Try.underlying4) rfl rfl ?_; clear F; intro φ F
          rw [show (false == false) = true from rfl] at F
          refine qt_pure F (wt0 rfl) (pu_pickt rfl (F.ev rfl) (F.ev rfl)) rfl rfl ?_; clear F; intro φ F
          refine qt_pure F (wt0 rfl) (pu_move rfl (F.ev rfl)) rfl rfl ?_; clear F; intro φ F
          refine qt_rd F (wt1 F rfl rfl rfl rfl rfl) (ld_agg rfl (F.ev rfl) agg23 (M.rdB (i := 3) rfl) rfl) rfl rfl ?_; clear F; intro φ F
          refine qt_rd F (wt1 F rfl rfl rfl rfl rfl) (ld_agg rfl (F.ev rfl) agg23 (M.rdB (i := 2) rfl) rfl) rfl rfl ?_; clear F; intro φ F
          refine qt_call F (wt1 F rfl rfl rfl rfl rfl) rfl en17 (evc (F.ev rfl) (evc (F.ev rfl) evn)) (fun w' h => calls_below h (cmp_any a b w')) rfl rfl ?_; clear F; intro φ F
          refine qt_pure F (wt1 F rfl rfl rfl rfl rfl) (pu_move rfl (F.ev rfl)) rfl rfl ?_; clear F; intro φ F
          refine qt_pure F (wt1 F rfl rfl rfl rfl rfl) (pu_eqlI rfl (F.ev rfl) (F.ev rfl)) rfl rfl ?_; clear F; intro φ F
          refine qt_pure F (wt0 rfl) (pu_pickt rfl (F.ev rfl) (F.ev rfl)) rfl rfl ?_; clear F; intro φ F
          refine qt_pure F (wt0 rfl) (pu_move rfl (F.ev rfl)) rfl rfl ?_; clear F; intro φ F
          cases hs36 : (decide (a.cmp b = -1))
          · rw [hs36] at F
            have hs36i := of_decide_eq_false hs36; (try dsimp only at hs36i)
            refine qt_skip F (wtn F rfl rfl rfl rfl rfl) rfl rfl ?_; clear F; intro φ F
            refine qt_skip F (wtn F rfl rfl rfl rfl rfl) rfl rfl ?_; clear F; intro φ F
            refine qt_skip F (wtn F rfl rfl rfl rfl rfl) rfl rfl ?_; clear F; intro φ F
            refine qt_skip F (wtn F rfl rfl rfl rfl rfl) rfl rfl ?_; clear F; intro φ F
            refine qt_skip F (wtn F rfl rfl rfl rfl rfl) rfl rfl ?_; clear F; intro φ F
            refine qt_pure F (wt0 rfl) (pu_pickf rfl (F.ev rfl) (evk)) rfl rfl ?_; clear F; intro φ F
            refine qt_pure F (wt0 rfl) (pu_move rfl (F.ev rfl)) rfl rfl ?_; clear F; intro φ F
            refine qt_skip F (wtn F rfl rfl rfl rfl rfl) rfl rfl ?_; clear F; intro φ F
            refine qt_skip F (wtn F rfl rfl rfl rfl rfl) rfl rfl ?_; clear F; intro φ F
            refine qt_skip F (wtn F rfl rfl rfl rfl rfl) rfl rfl ?_; clear F; intro φ F
            refine qt_skip F (wtn F rfl rfl rfl rfl rfl) rfl rfl ?_; clear F; intro φ F
            refine qt_skip F (wtn F rfl rfl rfl rfl rfl) rfl rfl ?_; clear F; intro φ F
            refine qt_pure F (wt0 rfl) (pu_pickf rfl (F.ev rfl) (evk)) rfl rfl ?_; clear F; intro φ F
            refine qt_pure F (wt0 rfl) (pu_assign rfl (F.ev rfl)) rfl rfl ?_; clear F; intro φ F
            refine wpQuiet_nil ?_
            clear M; intro ω M
            refine nxq ?_
            refine wp_ret ?_
            refine rt_tmp F rfl rfl ?_
            exfalso; clear F M; omega
          · rw [hs36] at F
            have hs36i := of_decide_eq_true hs36; (try dsimp only at hs36i)
            refine qt_rd F (wt1 F rfl rfl rfl rfl rfl) (ld_agg rfl (F.ev rfl) agg23 (M.rdB (i := 3) rfl) rfl) rfl rfl ?_; clear F; intro φ F
            refine qt_rd F (wt1 F rfl rfl rfl rfl rfl) (ld_agg rfl (F.ev rfl) agg23 (M.rdB (i := 2) rfl) rfl) rfl rfl ?_; clear F; intro φ F
            refine qt_call F (wt1 F rfl rfl rfl rfl rfl) rfl en18 (evc (F.ev rfl) (evc (F.ev rfl) evn)) (fun w' h => calls_below h (join_any a b w')) rfl rfl ?_; clear F; intro φ F
            refine qt_rd F (wt1 F rfl rfl rfl rfl rfl) (ld_agg rfl (F.ev rfl) agg23 (M.rdB (i := 1) rfl) rfl) rfl rfl ?_; clear F; intro φ F
            refine qt_pure F (wt1 F rfl rfl rfl rfl rfl) (pu_eqlA rfl (F.ev rfl) (F.ev rfl) eqg23 (fun w => eqS23 (a.join b) (St.mk (max a.e b.e) (max a.r b.r)) w)) rfl rfl ?_; clear F; intro φ F
            refine qt_pure F (wt0 rfl) (pu_pickt rfl (F.ev rfl) (F.ev rfl)) rfl rfl ?_; clear F; intro φ F
            refine qt_pure F (wt0 rfl) (pu_move rfl (F.ev rfl)) rfl rfl ?_; clear F; intro φ F
            cases hs37 : (decide ((a.join b) = (St.mk (max a.e b.e) (max a.r b.r))))
            · rw [hs37] at F
              have hs37i := eq_f hs37; (try dsimp only at hs37i)
              refine qt_skip F (wtn F rfl rfl rfl rfl rfl) rfl rfl ?_; clear F; intro φ F
              refine qt_skip F (wtn F rfl rfl rfl rfl rfl) rfl rfl ?_; clear F; intro φ F
              refine qt_skip F (wtn F rfl rfl rfl rfl rfl) rfl rfl ?_; clear F; intro φ F
              refine qt_skip F (wtn F rfl rfl rfl rfl rfl) rfl rfl ?_; clear F; intro φ F
              refine qt_skip F (wtn F rfl rfl rfl rfl rfl) rfl rfl ?_; clear F; intro φ F
              refine qt_pure F (wt0 rfl) (pu_pickf rfl (F.ev rfl) (evk)) rfl rfl ?_; clear F; intro φ F
              refine qt_pure F (wt0 rfl) (pu_assign rfl (F.ev rfl)) rfl rfl ?_; clear F; intro φ F
              refine wpQuiet_nil ?_
              clear M; intro ω M
              refine nxq ?_
              refine wp_ret ?_
              refine rt_tmp F rfl rfl ?_
              exfalso; clear F M; omega
            · rw [hs37] at F
              have hs37i := eq_t hs37; (try dsimp only at hs37i)
              refine qt_rd F (wt1 F rfl rfl rfl rfl rfl) (ld_agg rfl (F.ev rfl) agg23 (M.rdB (i := 3) rfl) rfl) rfl rfl ?_; clear F; intro φ F
              refine qt_rd F (wt1 F rfl rfl rfl rfl rfl) (ld_agg rfl (F.ev rfl) agg23 (M.rdB (i := 2) rfl) rfl) rfl rfl ?_; clear F; intro φ F
              refine qt_call F (wt1 F rfl rfl rfl rfl rfl) rfl en19 (evc (F.ev rfl) (evc (F.ev rfl) evn)) (fun w' h => calls_below h (meet_any a b w')) rfl rfl ?_; clear F; intro φ F
              refine qt_rd F (wt1 F rfl rfl rfl rfl rfl) (ld_agg rfl (F.ev rfl) agg23 (M.rdB (i := 0) rfl) rfl) rfl rfl ?_; clear F; intro φ F
              refine qt_pure F (wt1 F rfl rfl rfl rfl rfl) (pu_eqlA rfl (F.ev rfl) (F.ev rfl) eqg23 (fun w => eqS23 (a.meet b) (St.mk (min a.e b.e) (min a.r b.r)) w)) rfl rfl ?_; clear F; intro φ F
              refine qt_pure F (wt0 rfl) (pu_pickt rfl (F.ev rfl) (F.ev rfl)) rfl rfl ?_; clear F; intro φ F
              refine qt_pure F (wt0 rfl) (pu_assign rfl (F.ev rfl)) rfl rfl ?_; clear F; intro φ F
              refine wpQuiet_nil ?_
              clear M; intro ω M
              refine nxq ?_
              cases hs38 : (decide ((a.meet b) = (St.mk (min a.e b.e) (min a.r b.r))))
              · rw [hs38] at F
                have hs38i := eq_f hs38; (try dsimp only at hs38i)
                refine wp_ret ?_
                refine rt_tmp F rfl rfl ?_
                exfalso; clear F M; omega
              · rw [hs38] at F
                have hs38i := eq_t hs38; (try dsimp only at hs38i)
                refine wp_ret ?_
                refine rt_tmp F rfl rfl ?_
                exact ⟨rfl, M.bel⟩
        · rw [hs35] at F
          have hs35i := le_t hs35; (try dsimp only at hs35i)
          refine qt_pure F (wt1 F rfl rfl rfl rfl rfl) (pu_eqlB rfl (F.ev rfl) (F.ev rfl) Try.underlying4) rfl rfl ?_; clear F; intro φ F
          rw [show (true == true) = true from rfl] at F
          refine qt_pure F (wt0 rfl) (pu_pickt rfl (F.ev rfl) (F.ev rfl)) rfl rfl ?_; clear F; intro φ F
          refine qt_pure F (wt0 rfl) (pu_move rfl (F.ev rfl)) rfl rfl ?_; clear F; intro φ F
          refine qt_rd F (wt1 F rfl rfl rfl rfl rfl) (ld_agg rfl (F.ev rfl) agg23 (M.rdB (i := 3) rfl) rfl) rfl rfl ?_; clear F; intro φ F
          refine qt_rd F (wt1 F rfl rfl rfl rfl rfl) (ld_agg rfl (F.ev rfl) agg23 (M.rdB (i := 2) rfl) rfl) rfl rfl ?_; clear F; intro φ F
          refine qt_call F (wt1 F rfl rfl rfl rfl rfl) rfl en17 (evc (F.ev rfl) (evc (F.ev rfl) evn)) (fun w' h => calls_below h (cmp_any a b w')) rfl rfl ?_; clear F; intro φ F
          refine qt_pure F (wt1 F rfl rfl rfl rfl rfl) (pu_move rfl (F.ev rfl)) rfl rfl ?_; clear F; intro φ F
          refine qt_pure F (wt1 F rfl rfl rfl rfl rfl) (pu_eqlI rfl (F.ev rfl) (F.ev rfl)) rfl rfl ?_; clear F; intro φ F
          refine qt_pure F (wt0 rfl) (pu_pickt rfl (F.ev rfl) (F.ev rfl)) rfl rfl ?_; clear F; intro φ F
          refine qt_pure F (wt0 rfl) (pu_move rfl (F.ev rfl)) rfl rfl ?_; clear F; intro φ F
          cases hs39 : (decide (a.cmp b = -1))
          · rw [hs39] at F
            have hs39i := of_decide_eq_false hs39; (try dsimp only at hs39i)
            refine qt_skip F (wtn F rfl rfl rfl rfl rfl) rfl rfl ?_; clear F; intro φ F
            refine qt_skip F (wtn F rfl rfl rfl rfl rfl) rfl rfl ?_; clear F; intro φ F
            refine qt_skip F (wtn F rfl rfl rfl rfl rfl) rfl rfl ?_; clear F; intro φ F
            refine qt_skip F (wtn F rfl rfl rfl rfl rfl) rfl rfl ?_; clear F; intro φ F
            refine qt_skip F (wtn F rfl rfl rfl rfl rfl) rfl rfl ?_; clear F; intro φ F
            refine qt_pure F (wt0 rfl) (pu_pickf rfl (F.ev rfl) (evk)) rfl rfl ?_; clear F; intro φ F
            refine qt_pure F (wt0 rfl) (pu_move rfl (F.ev rfl)) rfl rfl ?_; clear F; intro φ F
            refine qt_skip F (wtn F rfl rfl rfl rfl rfl) rfl rfl ?_; clear F; intro φ F
            refine qt_skip F (wtn F rfl rfl rfl rfl rfl) rfl rfl ?_; clear F; intro φ F
            refine qt_skip F (wtn F rfl rfl rfl rfl rfl) rfl rfl ?_; clear F; intro φ F
            refine qt_skip F (wtn F rfl rfl rfl rfl rfl) rfl rfl ?_; clear F; intro φ F
            refine qt_skip F (wtn F rfl rfl rfl rfl rfl) rfl rfl ?_; clear F; intro φ F
            refine qt_pure F (wt0 rfl) (pu_pickf rfl (F.ev rfl) (evk)) rfl rfl ?_; clear F; intro φ F
            refine qt_pure F (wt0 rfl) (pu_assign rfl (F.ev rfl)) rfl rfl ?_; clear F; intro φ F
            refine wpQuiet_nil ?_
            clear M; intro ω M
            refine nxq ?_
            refine wp_ret ?_
            refine rt_tmp F rfl rfl ?_
            exfalso; clear F M; omega
          · rw [hs39] at F
            have hs39i := of_decide_eq_true hs39; (try dsimp only at hs39i)
            refine qt_rd F (wt1 F rfl rfl rfl rfl rfl) (ld_agg rfl (F.ev rfl) agg23 (M.rdB (i := 3) rfl) rfl) rfl rfl ?_; clear F; intro φ F
            refine qt_rd F (wt1 F rfl rfl rfl rfl rfl) (ld_agg rfl (F.ev rfl) agg23 (M.rdB (i := 2) rfl) rfl) rfl rfl ?_; clear F; intro φ F
            refine qt_call F (wt1 F rfl rfl rfl rfl rfl) rfl en18 (evc (F.ev rfl) (evc (F.ev rfl) evn)) (fun w' h => calls_below h (join_any a b w')) rfl rfl ?_; clear F; intro φ F
            refine qt_rd F (wt1 F rfl rfl rfl rfl rfl) (ld_agg rfl (F.ev rfl) agg23 (M.rdB (i := 1) rfl) rfl) rfl rfl ?_; clear F; intro φ F
            refine qt_pure F (wt1 F rfl rfl rfl rfl rfl) (pu_eqlA rfl (F.ev rfl) (F.ev rfl) eqg23 (fun w => eqS23 (a.join b) (St.mk (max a.e b.e) (max a.r b.r)) w)) rfl rfl ?_; clear F; intro φ F
            refine qt_pure F (wt0 rfl) (pu_pickt rfl (F.ev rfl) (F.ev rfl)) rfl rfl ?_; clear F; intro φ F
            refine qt_pure F (wt0 rfl) (pu_move rfl (F.ev rfl)) rfl rfl ?_; clear F; intro φ F
            cases hs40 : (decide ((a.join b) = (St.mk (max a.e b.e) (max a.r b.r))))
            · rw [hs40] at F
              have hs40i := eq_f hs40; (try dsimp only at hs40i)
              refine qt_skip F (wtn F rfl rfl rfl rfl rfl) rfl rfl ?_; clear F; intro φ F
              refine qt_skip F (wtn F rfl rfl rfl rfl rfl) rfl rfl ?_; clear F; intro φ F
              refine qt_skip F (wtn F rfl rfl rfl rfl rfl) rfl rfl ?_; clear F; intro φ F
              refine qt_skip F (wtn F rfl rfl rfl rfl rfl) rfl rfl ?_; clear F; intro φ F
              refine qt_skip F (wtn F rfl rfl rfl rfl rfl) rfl rfl ?_; clear F; intro φ F
              refine qt_pure F (wt0 rfl) (pu_pickf rfl (F.ev rfl) (evk)) rfl rfl ?_; clear F; intro φ F
              refine qt_pure F (wt0 rfl) (pu_assign rfl (F.ev rfl)) rfl rfl ?_; clear F; intro φ F
              refine wpQuiet_nil ?_
              clear M; intro ω M
              refine nxq ?_
              refine wp_ret ?_
              refine rt_tmp F rfl rfl ?_
              exfalso; clear F M; omega
            · rw [hs40] at F
              have hs40i := eq_t hs40; (try dsimp only at hs40i)
              refine qt_rd F (wt1 F rfl rfl rfl rfl rfl) (ld_agg rfl (F.ev rfl) agg23 (M.rdB (i := 3) rfl) rfl) rfl rfl ?_; clear F; intro φ F
              refine qt_rd F (wt1 F rfl rfl rfl rfl rfl) (ld_agg rfl (F.ev rfl) agg23 (M.rdB (i := 2) rfl) rfl) rfl rfl ?_; clear F; intro φ F
              refine qt_call F (wt1 F rfl rfl rfl rfl rfl) rfl en19 (evc (F.ev rfl) (evc (F.ev rfl) evn)) (fun w' h => calls_below h (meet_any a b w')) rfl rfl ?_; clear F; intro φ F
              refine qt_rd F (wt1 F rfl rfl rfl rfl rfl) (ld_agg rfl (F.ev rfl) agg23 (M.rdB (i := 0) rfl) rfl) rfl rfl ?_; clear F; intro φ F
              refine qt_pure F (wt1 F rfl rfl rfl rfl rfl) (pu_eqlA rfl (F.ev rfl) (F.ev rfl) eqg23 (fun w => eqS23 (a.meet b) (St.mk (min a.e b.e) (min a.r b.r)) w)) rfl rfl ?_; clear F; intro φ F
              refine qt_pure F (wt0 rfl) (pu_pickt rfl (F.ev rfl) (F.ev rfl)) rfl rfl ?_; clear F; intro φ F
              refine qt_pure F (wt0 rfl) (pu_assign rfl (F.ev rfl)) rfl rfl ?_; clear F; intro φ F
              refine wpQuiet_nil ?_
              clear M; intro ω M
              refine nxq ?_
              cases hs41 : (decide ((a.meet b) = (St.mk (min a.e b.e) (min a.r b.r))))
              · rw [hs41] at F
                have hs41i := eq_f hs41; (try dsimp only at hs41i)
                refine wp_ret ?_
                refine rt_tmp F rfl rfl ?_
                exfalso; clear F M; omega
              · rw [hs41] at F
                have hs41i := eq_t hs41; (try dsimp only at hs41i)
                refine wp_ret ?_
                refine rt_tmp F rfl rfl ?_
                exact ⟨rfl, M.bel⟩
      · rw [hs34] at F
        have hs34i := right_t hs34; (try dsimp only at hs34i)
        refine qt_pure F (wt1 F rfl rfl rfl rfl rfl) (pu_eqlB rfl (F.ev rfl) (F.ev rfl) Try.underlying4) rfl rfl ?_; clear F; intro φ F
        rw [show (true == true) = true from rfl] at F
        refine qt_pure F (wt0 rfl) (pu_pickt rfl (F.ev rfl) (F.ev rfl)) rfl rfl ?_; clear F; intro φ F
        refine qt_pure F (wt0 rfl) (pu_move rfl (F.ev rfl)) rfl rfl ?_; clear F; intro φ F
        refine qt_rd F (wt1 F rfl rfl rfl rfl rfl) (ld_agg rfl (F.ev rfl) agg23 (M.rdB (i := 3) rfl) rfl) rfl rfl ?_; clear F; intro φ F
        refine qt_rd F (wt1 F rfl rfl rfl rfl rfl) (ld_agg rfl (F.ev rfl) agg23 (M.rdB (i := 2) rfl) rfl) rfl rfl ?_; clear F; intro φ F
        refine qt_call F (wt1 F rfl rfl rfl rfl rfl) rfl en15 (evc (F.ev rfl) (evc (F.ev rfl) evn)) (fun w' h => calls_below h (le_any a b w')) rfl rfl ?_; clear F; intro φ F
        refine qt_rd F (wt1 F rfl rfl rfl rfl rfl) (ld_agg rfl (F.ev rfl) agg23 (M.rdB (i := 3) rfl) rfl) rfl rfl ?_; clear F; intro φ F
        refine qt_rd F (wt1 F rfl rfl rfl rfl rfl) (ld_agg rfl (F.ev rfl) agg23 (M.rdB (i := 2) rfl) rfl) rfl rfl ?_; clear F; intro φ F
        refine qt_call F (wt1 F rfl rfl rfl rfl rfl) rfl en16 (evc (F.ev rfl) (evc (F.ev rfl) evn)) (fun w' h => calls_below h (rle_any a b w')) rfl rfl ?_; clear F; intro φ F
        cases hs42 : (a.leB b)
        · rw [hs42] at F
          have hs42i := le_f hs42; (try dsimp only at hs42i)
          refine qt_pure F (wt1 F rfl rfl rfl rfl rfl) (pu_eqlB rfl (F.ev rfl) (F.ev rfl) Try.underlying4) rfl rfl ?_; clear F; intro φ F
          rw [show (false == false) = true from rfl] at F
          refine qt_pure F (wt0 rfl) (pu_pickt rfl (F.ev rfl) (F.ev rfl)) rfl rfl ?_; clear F; intro φ F
          refine qt_pure F (wt0 rfl) (pu_move rfl (F.ev rfl)) rfl rfl ?_; clear F; intro φ F
          refine qt_rd F (wt1 F rfl rfl rfl rfl rfl) (ld_agg rfl (F.ev rfl) agg23 (M.rdB (i := 3) rfl) rfl) rfl rfl ?_; clear F; intro φ F
          refine qt_rd F (wt1 F rfl rfl rfl rfl rfl) (ld_agg rfl (F.ev rfl) agg23 (M.rdB (i := 2) rfl) rfl) rfl rfl ?_; clear F; intro φ F
          refine qt_call F (wt1 F rfl rfl rfl rfl rfl) rfl en17 (evc (F.ev rfl) (evc (F.ev rfl) evn)) (fun w' h => calls_below h (cmp_any a b w')) rfl rfl ?_; clear F; intro φ F
          refine qt_pure F (wt1 F rfl rfl rfl rfl rfl) (pu_move rfl (F.ev rfl)) rfl rfl ?_; clear F; intro φ F
          refine qt_pure F (wt1 F rfl rfl rfl rfl rfl) (pu_eqlI rfl (F.ev rfl) (F.ev rfl)) rfl rfl ?_; clear F; intro φ F
          refine qt_pure F (wt0 rfl) (pu_pickt rfl (F.ev rfl) (F.ev rfl)) rfl rfl ?_; clear F; intro φ F
          refine qt_pure F (wt0 rfl) (pu_move rfl (F.ev rfl)) rfl rfl ?_; clear F; intro φ F
          cases hs43 : (decide (a.cmp b = -1))
          · rw [hs43] at F
            have hs43i := of_decide_eq_false hs43; (try dsimp only at hs43i)
            refine qt_skip F (wtn F rfl rfl rfl rfl rfl) rfl rfl ?_; clear F; intro φ F
            refine qt_skip F (wtn F rfl rfl rfl rfl rfl) rfl rfl ?_; clear F; intro φ F
            refine qt_skip F (wtn F rfl rfl rfl rfl rfl) rfl rfl ?_; clear F; intro φ F
            refine qt_skip F (wtn F rfl rfl rfl rfl rfl) rfl rfl ?_; clear F; intro φ F
            refine qt_skip F (wtn F rfl rfl rfl rfl rfl) rfl rfl ?_; clear F; intro φ F
            refine qt_pure F (wt0 rfl) (pu_pickf rfl (F.ev rfl) (evk)) rfl rfl ?_; clear F; intro φ F
            refine qt_pure F (wt0 rfl) (pu_move rfl (F.ev rfl)) rfl rfl ?_; clear F; intro φ F
            refine qt_skip F (wtn F rfl rfl rfl rfl rfl) rfl rfl ?_; clear F; intro φ F
            refine qt_skip F (wtn F rfl rfl rfl rfl rfl) rfl rfl ?_; clear F; intro φ F
            refine qt_skip F (wtn F rfl rfl rfl rfl rfl) rfl rfl ?_; clear F; intro φ F
            refine qt_skip F (wtn F rfl rfl rfl rfl rfl) rfl rfl ?_; clear F; intro φ F
            refine qt_skip F (wtn F rfl rfl rfl rfl rfl) rfl rfl ?_; clear F; intro φ F
            refine qt_pure F (wt0 rfl) (pu_pickf rfl (F.ev rfl) (evk)) rfl rfl ?_; clear F; intro φ F
            refine qt_pure F (wt0 rfl) (pu_assign rfl (F.ev rfl)) rfl rfl ?_; clear F; intro φ F
            refine wpQuiet_nil ?_
            clear M; intro ω M
            refine nxq ?_
            refine wp_ret ?_
            refine rt_tmp F rfl rfl ?_
            exfalso; clear F M; omega
          · rw [hs43] at F
            have hs43i := of_decide_eq_true hs43; (try dsimp only at hs43i)
            refine qt_rd F (wt1 F rfl rfl rfl rfl rfl) (ld_agg rfl (F.ev rfl) agg23 (M.rdB (i := 3) rfl) rfl) rfl rfl ?_; clear F; intro φ F
            refine qt_rd F (wt1 F rfl rfl rfl rfl rfl) (ld_agg rfl (F.ev rfl) agg23 (M.rdB (i := 2) rfl) rfl) rfl rfl ?_; clear F; intro φ F
            refine qt_call F (wt1 F rfl rfl rfl rfl rfl) rfl en18 (evc (F.ev rfl) (evc (F.ev rfl) evn)) (fun w' h => calls_below h (join_any a b w')) rfl rfl ?_; clear F; intro φ F
            refine qt_rd F (wt1 F rfl rfl rfl rfl rfl) (ld_agg rfl (F.ev rfl) agg23 (M.rdB (i := 1) rfl) rfl) rfl rfl ?_; clear F; intro φ F
            refine qt_pure F (wt1 F rfl rfl rfl rfl rfl) (pu_eqlA rfl (F.ev rfl) (F.ev rfl) eqg23 (fun w => eqS23 (a.join b) (St.mk (max a.e b.e) (max a.r b.r)) w)) rfl rfl ?_; clear F; intro φ F
            refine qt_pure F (wt0 rfl) (pu_pickt rfl (F.ev rfl) (F.ev rfl)) rfl rfl ?_; clear F; intro φ F
            refine qt_pure F (wt0 rfl) (pu_move rfl (F.ev rfl)) rfl rfl ?_; clear F; intro φ F
            cases hs44 : (decide ((a.join b) = (St.mk (max a.e b.e) (max a.r b.r))))
            · rw [hs44] at F
              have hs44i := eq_f hs44; (try dsimp only at hs44i)
              refine qt_skip F (wtn F rfl rfl rfl rfl rfl) rfl rfl ?_; clear F; intro φ F
              refine qt_skip F (wtn F rfl rfl rfl rfl rfl) rfl rfl ?_; clear F; intro φ F
              refine qt_skip F (wtn F rfl rfl rfl rfl rfl) rfl rfl ?_; clear F; intro φ F
              refine qt_skip F (wtn F rfl rfl rfl rfl rfl) rfl rfl ?_; clear F; intro φ F
              refine qt_skip F (wtn F rfl rfl rfl rfl rfl) rfl rfl ?_; clear F; intro φ F
              refine qt_pure F (wt0 rfl) (pu_pickf rfl (F.ev rfl) (evk)) rfl rfl ?_; clear F; intro φ F
              refine qt_pure F (wt0 rfl) (pu_assign rfl (F.ev rfl)) rfl rfl ?_; clear F; intro φ F
              refine wpQuiet_nil ?_
              clear M; intro ω M
              refine nxq ?_
              refine wp_ret ?_
              refine rt_tmp F rfl rfl ?_
              exfalso; clear F M; omega
            · rw [hs44] at F
              have hs44i := eq_t hs44; (try dsimp only at hs44i)
              refine qt_rd F (wt1 F rfl rfl rfl rfl rfl) (ld_agg rfl (F.ev rfl) agg23 (M.rdB (i := 3) rfl) rfl) rfl rfl ?_; clear F; intro φ F
              refine qt_rd F (wt1 F rfl rfl rfl rfl rfl) (ld_agg rfl (F.ev rfl) agg23 (M.rdB (i := 2) rfl) rfl) rfl rfl ?_; clear F; intro φ F
              refine qt_call F (wt1 F rfl rfl rfl rfl rfl) rfl en19 (evc (F.ev rfl) (evc (F.ev rfl) evn)) (fun w' h => calls_below h (meet_any a b w')) rfl rfl ?_; clear F; intro φ F
              refine qt_rd F (wt1 F rfl rfl rfl rfl rfl) (ld_agg rfl (F.ev rfl) agg23 (M.rdB (i := 0) rfl) rfl) rfl rfl ?_; clear F; intro φ F
              refine qt_pure F (wt1 F rfl rfl rfl rfl rfl) (pu_eqlA rfl (F.ev rfl) (F.ev rfl) eqg23 (fun w => eqS23 (a.meet b) (St.mk (min a.e b.e) (min a.r b.r)) w)) rfl rfl ?_; clear F; intro φ F
              refine qt_pure F (wt0 rfl) (pu_pickt rfl (F.ev rfl) (F.ev rfl)) rfl rfl ?_; clear F; intro φ F
              refine qt_pure F (wt0 rfl) (pu_assign rfl (F.ev rfl)) rfl rfl ?_; clear F; intro φ F
              refine wpQuiet_nil ?_
              clear M; intro ω M
              refine nxq ?_
              cases hs45 : (decide ((a.meet b) = (St.mk (min a.e b.e) (min a.r b.r))))
              · rw [hs45] at F
                have hs45i := eq_f hs45; (try dsimp only at hs45i)
                refine wp_ret ?_
                refine rt_tmp F rfl rfl ?_
                exfalso; clear F M; omega
              · rw [hs45] at F
                have hs45i := eq_t hs45; (try dsimp only at hs45i)
                refine wp_ret ?_
                refine rt_tmp F rfl rfl ?_
                exact ⟨rfl, M.bel⟩
        · rw [hs42] at F
          have hs42i := le_t hs42; (try dsimp only at hs42i)
          refine qt_pure F (wt1 F rfl rfl rfl rfl rfl) (pu_eqlB rfl (F.ev rfl) (F.ev rfl) Try.underlying4) rfl rfl ?_; clear F; intro φ F
          rw [show (true == true) = true from rfl] at F
          refine qt_pure F (wt0 rfl) (pu_pickt rfl (F.ev rfl) (F.ev rfl)) rfl rfl ?_; clear F; intro φ F
          refine qt_pure F (wt0 rfl) (pu_move rfl (F.ev rfl)) rfl rfl ?_; clear F; intro φ F
          refine qt_rd F (wt1 F rfl rfl rfl rfl rfl) (ld_agg rfl (F.ev rfl) agg23 (M.rdB (i := 3) rfl) rfl) rfl rfl ?_; clear F; intro φ F
          refine qt_rd F (wt1 F rfl rfl rfl rfl rfl) (ld_agg rfl (F.ev rfl) agg23 (M.rdB (i := 2) rfl) rfl) rfl rfl ?_; clear F; intro φ F
          refine qt_call F (wt1 F rfl rfl rfl rfl rfl) rfl en17 (evc (F.ev rfl) (evc (F.ev rfl) evn)) (fun w' h => calls_below h (cmp_any a b w')) rfl rfl ?_; clear F; intro φ F
          refine qt_pure F (wt1 F rfl rfl rfl rfl rfl) (pu_move rfl (F.ev rfl)) rfl rfl ?_; clear F; intro φ F
          refine qt_pure F (wt1 F rfl rfl rfl rfl rfl) (pu_eqlI rfl (F.ev rfl) (F.ev rfl)) rfl rfl ?_; clear F; intro φ F
          refine qt_pure F (wt0 rfl) (pu_pickt rfl (F.ev rfl) (F.ev rfl)) rfl rfl ?_; clear F; intro φ F
          refine qt_pure F (wt0 rfl) (pu_move rfl (F.ev rfl)) rfl rfl ?_; clear F; intro φ F
          cases hs46 : (decide (a.cmp b = -1))
          · rw [hs46] at F
            have hs46i := of_decide_eq_false hs46; (try dsimp only at hs46i)
            refine qt_skip F (wtn F rfl rfl rfl rfl rfl) rfl rfl ?_; clear F; intro φ F
            refine qt_skip F (wtn F rfl rfl rfl rfl rfl) rfl rfl ?_; clear F; intro φ F
            refine qt_skip F (wtn F rfl rfl rfl rfl rfl) rfl rfl ?_; clear F; intro φ F
            refine qt_skip F (wtn F rfl rfl rfl rfl rfl) rfl rfl ?_; clear F; intro φ F
            refine qt_skip F (wtn F rfl rfl rfl rfl rfl) rfl rfl ?_; clear F; intro φ F
            refine qt_pure F (wt0 rfl) (pu_pickf rfl (F.ev rfl) (evk)) rfl rfl ?_; clear F; intro φ F
            refine qt_pure F (wt0 rfl) (pu_move rfl (F.ev rfl)) rfl rfl ?_; clear F; intro φ F
            refine qt_skip F (wtn F rfl rfl rfl rfl rfl) rfl rfl ?_; clear F; intro φ F
            refine qt_skip F (wtn F rfl rfl rfl rfl rfl) rfl rfl ?_; clear F; intro φ F
            refine qt_skip F (wtn F rfl rfl rfl rfl rfl) rfl rfl ?_; clear F; intro φ F
            refine qt_skip F (wtn F rfl rfl rfl rfl rfl) rfl rfl ?_; clear F; intro φ F
            refine qt_skip F (wtn F rfl rfl rfl rfl rfl) rfl rfl ?_; clear F; intro φ F
            refine qt_pure F (wt0 rfl) (pu_pickf rfl (F.ev rfl) (evk)) rfl rfl ?_; clear F; intro φ F
            refine qt_pure F (wt0 rfl) (pu_assign rfl (F.ev rfl)) rfl rfl ?_; clear F; intro φ F
            refine wpQuiet_nil ?_
            clear M; intro ω M
            refine nxq ?_
            refine wp_ret ?_
            refine rt_tmp F rfl rfl ?_
            exfalso; clear F M; omega
          · rw [hs46] at F
            have hs46i := of_decide_eq_true hs46; (try dsimp only at hs46i)
            refine qt_rd F (wt1 F rfl rfl rfl rfl rfl) (ld_agg rfl (F.ev rfl) agg23 (M.rdB (i := 3) rfl) rfl) rfl rfl ?_; clear F; intro φ F
            refine qt_rd F (wt1 F rfl rfl rfl rfl rfl) (ld_agg rfl (F.ev rfl) agg23 (M.rdB (i := 2) rfl) rfl) rfl rfl ?_; clear F; intro φ F
            refine qt_call F (wt1 F rfl rfl rfl rfl rfl) rfl en18 (evc (F.ev rfl) (evc (F.ev rfl) evn)) (fun w' h => calls_below h (join_any a b w')) rfl rfl ?_; clear F; intro φ F
            refine qt_rd F (wt1 F rfl rfl rfl rfl rfl) (ld_agg rfl (F.ev rfl) agg23 (M.rdB (i := 1) rfl) rfl) rfl rfl ?_; clear F; intro φ F
            refine qt_pure F (wt1 F rfl rfl rfl rfl rfl) (pu_eqlA rfl (F.ev rfl) (F.ev rfl) eqg23 (fun w => eqS23 (a.join b) (St.mk (max a.e b.e) (max a.r b.r)) w)) rfl rfl ?_; clear F; intro φ F
            refine qt_pure F (wt0 rfl) (pu_pickt rfl (F.ev rfl) (F.ev rfl)) rfl rfl ?_; clear F; intro φ F
            refine qt_pure F (wt0 rfl) (pu_move rfl (F.ev rfl)) rfl rfl ?_; clear F; intro φ F
            cases hs47 : (decide ((a.join b) = (St.mk (max a.e b.e) (max a.r b.r))))
            · rw [hs47] at F
              have hs47i := eq_f hs47; (try dsimp only at hs47i)
              refine qt_skip F (wtn F rfl rfl rfl rfl rfl) rfl rfl ?_; clear F; intro φ F
              refine qt_skip F (wtn F rfl rfl rfl rfl rfl) rfl rfl ?_; clear F; intro φ F
              refine qt_skip F (wtn F rfl rfl rfl rfl rfl) rfl rfl ?_; clear F; intro φ F
              refine qt_skip F (wtn F rfl rfl rfl rfl rfl) rfl rfl ?_; clear F; intro φ F
              refine qt_skip F (wtn F rfl rfl rfl rfl rfl) rfl rfl ?_; clear F; intro φ F
              refine qt_pure F (wt0 rfl) (pu_pickf rfl (F.ev rfl) (evk)) rfl rfl ?_; clear F; intro φ F
              refine qt_pure F (wt0 rfl) (pu_assign rfl (F.ev rfl)) rfl rfl ?_; clear F; intro φ F
              refine wpQuiet_nil ?_
              clear M; intro ω M
              refine nxq ?_
              refine wp_ret ?_
              refine rt_tmp F rfl rfl ?_
              exfalso; clear F M; omega
            · rw [hs47] at F
              have hs47i := eq_t hs47; (try dsimp only at hs47i)
              refine qt_rd F (wt1 F rfl rfl rfl rfl rfl) (ld_agg rfl (F.ev rfl) agg23 (M.rdB (i := 3) rfl) rfl) rfl rfl ?_; clear F; intro φ F
              refine qt_rd F (wt1 F rfl rfl rfl rfl rfl) (ld_agg rfl (F.ev rfl) agg23 (M.rdB (i := 2) rfl) rfl) rfl rfl ?_; clear F; intro φ F
              refine qt_call F (wt1 F rfl rfl rfl rfl rfl) rfl en19 (evc (F.ev rfl) (evc (F.ev rfl) evn)) (fun w' h => calls_below h (meet_any a b w')) rfl rfl ?_; clear F; intro φ F
              refine qt_rd F (wt1 F rfl rfl rfl rfl rfl) (ld_agg rfl (F.ev rfl) agg23 (M.rdB (i := 0) rfl) rfl) rfl rfl ?_; clear F; intro φ F
              refine qt_pure F (wt1 F rfl rfl rfl rfl rfl) (pu_eqlA rfl (F.ev rfl) (F.ev rfl) eqg23 (fun w => eqS23 (a.meet b) (St.mk (min a.e b.e) (min a.r b.r)) w)) rfl rfl ?_; clear F; intro φ F
              refine qt_pure F (wt0 rfl) (pu_pickt rfl (F.ev rfl) (F.ev rfl)) rfl rfl ?_; clear F; intro φ F
              refine qt_pure F (wt0 rfl) (pu_assign rfl (F.ev rfl)) rfl rfl ?_; clear F; intro φ F
              refine wpQuiet_nil ?_
              clear M; intro ω M
              refine nxq ?_
              cases hs48 : (decide ((a.meet b) = (St.mk (min a.e b.e) (min a.r b.r))))
              · rw [hs48] at F
                have hs48i := eq_f hs48; (try dsimp only at hs48i)
                refine wp_ret ?_
                refine rt_tmp F rfl rfl ?_
                exfalso; clear F M; omega
              · rw [hs48] at F
                have hs48i := eq_t hs48; (try dsimp only at hs48i)
                refine wp_ret ?_
                refine rt_tmp F rfl rfl ?_
                exact ⟨rfl, M.bel⟩
    · rw [hs33] at F
      have hs33i := ahead_t hs33; (try dsimp only at hs33i)
      refine wp_cond_true (F.ev rfl) ?_
      -- region 6
      refine wp_region_lit ?_
      refine sq_pure F (wt0 rfl) (pu_assign rfl (evk)) rfl rfl ?_; clear F; intro φ F
      refine nx ?_
      refine wp_seq ?_
      -- region 7
      refine wp_region_lit ?_
      refine sq_pure F (wt0 rfl) (pu_field rfl (F.ev rfl) fo23_0) rfl rfl ?_; clear F; intro φ F
      refine sq_rd F (wt0 rfl) (ld_cell rfl (F.ev rfl) one3 (M.rd (i := 1) rfl) rfl) rfl rfl ?_; clear F; intro φ F
      refine sq_pure F (wt0 rfl) (pu_field rfl (F.ev rfl) fo23_0) rfl rfl ?_; clear F; intro φ F
      refine sq_rd F (wt0 rfl) (ld_cell rfl (F.ev rfl) one3 (M.rd (i := 0) rfl) rfl) rfl rfl ?_; clear F; intro φ F
      refine sq_pure F (wt0 rfl) (pu_max rfl (F.ev rfl) (F.ev rfl)) rfl rfl ?_; clear F; intro φ F
      refine sq_pure F (wt0 rfl) (pu_field rfl (F.ev rfl) fo23_1) rfl rfl ?_; clear F; intro φ F
      refine sq_rd F (wt0 rfl) (ld_cell rfl (F.ev rfl) one3 (M.rd (i := 1) rfl) rfl) rfl rfl ?_; clear F; intro φ F
      refine sq_pure F (wt0 rfl) (pu_field rfl (F.ev rfl) fo23_1) rfl rfl ?_; clear F; intro φ F
      refine sq_rd F (wt0 rfl) (ld_cell rfl (F.ev rfl) one3 (M.rd (i := 0) rfl) rfl) rfl rfl ?_; clear F; intro φ F
      refine sq_pure F (wt0 rfl) (pu_max rfl (F.ev rfl) (F.ev rfl)) rfl rfl ?_; clear F; intro φ F
      refine sq_pure F (wt0 rfl) (bu23_2 rfl (F.ev rfl) (F.ev rfl)) rfl rfl ?_; clear F; intro φ F
      refine sq_alloc F M (wt0 rfl) rfl z23 rfl rfl ?_; clear F M; intro φ ω g9 F M
      refine sq_stA F M (wt0 rfl) rfl (F.ev rfl) (F.ev rfl) (i := 0) rfl agg23 rfl rfl rfl rfl ?_; clear M; intro ω M
      refine nx ?_
      refine wp_seq ?_
      -- region 8
      refine wp_region_lit ?_
      refine sq_pure F (wt0 rfl) (pu_field rfl (F.ev rfl) fo23_0) rfl rfl ?_; clear F; intro φ F
      refine sq_rd F (wt0 rfl) (ld_cell rfl (F.ev rfl) one3 (M.rd (i := 2) rfl) rfl) rfl rfl ?_; clear F; intro φ F
      refine sq_pure F (wt0 rfl) (pu_field rfl (F.ev rfl) fo23_0) rfl rfl ?_; clear F; intro φ F
      refine sq_rd F (wt0 rfl) (ld_cell rfl (F.ev rfl) one3 (M.rd (i := 1) rfl) rfl) rfl rfl ?_; clear F; intro φ F
      refine sq_pure F (wt0 rfl) (pu_min rfl (F.ev rfl) (F.ev rfl)) rfl rfl ?_; clear F; intro φ F
      refine sq_pure F (wt0 rfl) (pu_field rfl (F.ev rfl) fo23_1) rfl rfl ?_; clear F; intro φ F
      refine sq_rd F (wt0 rfl) (ld_cell rfl (F.ev rfl) one3 (M.rd (i := 2) rfl) rfl) rfl rfl ?_; clear F; intro φ F
      refine sq_pure F (wt0 rfl) (pu_field rfl (F.ev rfl) fo23_1) rfl rfl ?_; clear F; intro φ F
      refine sq_rd F (wt0 rfl) (ld_cell rfl (F.ev rfl) one3 (M.rd (i := 1) rfl) rfl) rfl rfl ?_; clear F; intro φ F
      refine sq_pure F (wt0 rfl) (pu_min rfl (F.ev rfl) (F.ev rfl)) rfl rfl ?_; clear F; intro φ F
      refine sq_pure F (wt0 rfl) (bu23_2 rfl (F.ev rfl) (F.ev rfl)) rfl rfl ?_; clear F; intro φ F
      refine sq_alloc F M (wt0 rfl) rfl z23 rfl rfl ?_; clear F M; intro φ ω g10 F M
      refine sq_stA F M (wt0 rfl) rfl (F.ev rfl) (F.ev rfl) (i := 0) rfl agg23 rfl rfl rfl rfl ?_; clear M; intro ω M
      refine nx ?_
      refine wp_seq ?_
      -- region 9
      refine rg_quiet M mixedOK (by kernel_rfl) ?_
      refine qt_pure F (wt0 rfl) (pu_move rfl (F.ev rfl)) rfl rfl ?_; clear F; intro φ F
      refine qt_pure F (wt0 rfl) (pu_move rfl (F.ev rfl)) rfl rfl ?_; clear F; intro φ F
      refine qt_rd F (wt1 F rfl rfl rfl rfl rfl) (ld_agg rfl (F.ev rfl) agg23 (M.rdB (i := 3) rfl) rfl) rfl rfl ?_; clear F; intro φ F
      refine qt_call F (wt1 F rfl rfl rfl rfl rfl) rfl en13 (evc (F.ev rfl) evn) (fun w' h => calls_below h (right_any a w')) rfl rfl ?_; clear F; intro φ F
      refine qt_rd F (wt1 F rfl rfl rfl rfl rfl) (ld_agg rfl (F.ev rfl) agg23 (M.rdB (i := 3) rfl) rfl) rfl rfl ?_; clear F; intro φ F
      refine qt_call F (wt1 F rfl rfl rfl rfl rfl) rfl en14 (evc (F.ev rfl) evn) (fun w' h => calls_below h (rright_any a w')) rfl rfl ?_; clear F; intro φ F
      cases hs49 : a.rightB
      · rw [hs49] at F
        have hs49i := right_f hs49; (try dsimp only at hs49i)
        refine qt_pure F (wt1 F rfl rfl rfl rfl rfl) (pu_eqlB rfl (F.ev rfl) (F.ev rfl) Try.underlying4) rfl rfl ?_; clear F; intro φ F
        rw [show (false == false) = true from rfl] at F
        refine qt_pure F (wt0 rfl) (pu_pickt rfl (F.ev rfl) (F.ev rfl)) rfl rfl ?_; clear F; intro φ F
        refine qt_pure F (wt0 rfl) (pu_move rfl (F.ev rfl)) rfl rfl ?_; clear F; intro φ F
        refine qt_rd F (wt1 F rfl rfl rfl rfl rfl) (ld_agg rfl (F.ev rfl) agg23 (M.rdB (i := 3) rfl) rfl) rfl rfl ?_; clear F; intro φ F
        refine qt_rd F (wt1 F rfl rfl rfl rfl rfl) (ld_agg rfl (F.ev rfl) agg23 (M.rdB (i := 2) rfl) rfl) rfl rfl ?_; clear F; intro φ F
        refine qt_call F (wt1 F rfl rfl rfl rfl rfl) rfl en15 (evc (F.ev rfl) (evc (F.ev rfl) evn)) (fun w' h => calls_below h (le_any a b w')) rfl rfl ?_; clear F; intro φ F
        refine qt_rd F (wt1 F rfl rfl rfl rfl rfl) (ld_agg rfl (F.ev rfl) agg23 (M.rdB (i := 3) rfl) rfl) rfl rfl ?_; clear F; intro φ F
        refine qt_rd F (wt1 F rfl rfl rfl rfl rfl) (ld_agg rfl (F.ev rfl) agg23 (M.rdB (i := 2) rfl) rfl) rfl rfl ?_; clear F; intro φ F
        refine qt_call F (wt1 F rfl rfl rfl rfl rfl) rfl en16 (evc (F.ev rfl) (evc (F.ev rfl) evn)) (fun w' h => calls_below h (rle_any a b w')) rfl rfl ?_; clear F; intro φ F
        cases hs50 : (a.leB b)
        · rw [hs50] at F
          have hs50i := le_f hs50; (try dsimp only at hs50i)
          refine qt_pure F (wt1 F rfl rfl rfl rfl rfl) (pu_eqlB rfl (F.ev rfl) (F.ev rfl) Try.underlying4) rfl rfl ?_; clear F; intro φ F
          rw [show (false == false) = true from rfl] at F
          refine qt_pure F (wt0 rfl) (pu_pickt rfl (F.ev rfl) (F.ev rfl)) rfl rfl ?_; clear F; intro φ F
          refine qt_pure F (wt0 rfl) (pu_move rfl (F.ev rfl)) rfl rfl ?_; clear F; intro φ F
          refine qt_rd F (wt1 F rfl rfl rfl rfl rfl) (ld_agg rfl (F.ev rfl) agg23 (M.rdB (i := 3) rfl) rfl) rfl rfl ?_; clear F; intro φ F
          refine qt_rd F (wt1 F rfl rfl rfl rfl rfl) (ld_agg rfl (F.ev rfl) agg23 (M.rdB (i := 2) rfl) rfl) rfl rfl ?_; clear F; intro φ F
          refine qt_call F (wt1 F rfl rfl rfl rfl rfl) rfl en17 (evc (F.ev rfl) (evc (F.ev rfl) evn)) (fun w' h => calls_below h (cmp_any a b w')) rfl rfl ?_; clear F; intro φ F
          refine qt_pure F (wt1 F rfl rfl rfl rfl rfl) (pu_move rfl (F.ev rfl)) rfl rfl ?_; clear F; intro φ F
          refine qt_pure F (wt1 F rfl rfl rfl rfl rfl) (pu_eqlI rfl (F.ev rfl) (F.ev rfl)) rfl rfl ?_; clear F; intro φ F
          refine qt_pure F (wt0 rfl) (pu_pickt rfl (F.ev rfl) (F.ev rfl)) rfl rfl ?_; clear F; intro φ F
          refine qt_pure F (wt0 rfl) (pu_move rfl (F.ev rfl)) rfl rfl ?_; clear F; intro φ F
          cases hs51 : (decide (a.cmp b = 1))
          · rw [hs51] at F
            have hs51i := of_decide_eq_false hs51; (try dsimp only at hs51i)
            refine qt_skip F (wtn F rfl rfl rfl rfl rfl) rfl rfl ?_; clear F; intro φ F
            refine qt_skip F (wtn F rfl rfl rfl rfl rfl) rfl rfl ?_; clear F; intro φ F
            refine qt_skip F (wtn F rfl rfl rfl rfl rfl) rfl rfl ?_; clear F; intro φ F
            refine qt_skip F (wtn F rfl rfl rfl rfl rfl) rfl rfl ?_; clear F; intro φ F
            refine qt_skip F (wtn F rfl rfl rfl rfl rfl) rfl rfl ?_; clear F; intro φ F
            refine qt_pure F (wt0 rfl) (pu_pickf rfl (F.ev rfl) (evk)) rfl rfl ?_; clear F; intro φ F
            refine qt_pure F (wt0 rfl) (pu_move rfl (F.ev rfl)) rfl rfl ?_; clear F; intro φ F
            refine qt_skip F (wtn F rfl rfl rfl rfl rfl) rfl rfl ?_; clear F; intro φ F
            refine qt_skip F (wtn F rfl rfl rfl rfl rfl) rfl rfl ?_; clear F; intro φ F
            refine qt_skip F (wtn F rfl rfl rfl rfl rfl) rfl rfl ?_; clear F; intro φ F
            refine qt_skip F (wtn F rfl rfl rfl rfl rfl) rfl rfl ?_; clear F; intro φ F
            refine qt_skip F (wtn F rfl rfl rfl rfl rfl) rfl rfl ?_; clear F; intro φ F
            refine qt_pure F (wt0 rfl) (pu_pickf rfl (F.ev rfl) (evk)) rfl rfl ?_; clear F; intro φ F
            refine qt_pure F (wt0 rfl) (pu_assign rfl (F.ev rfl)) rfl rfl ?_; clear F; intro φ F
            refine wpQuiet_nil ?_
            clear M; intro ω M
            refine nxq ?_
            refine wp_ret ?_
            refine rt_tmp F rfl rfl ?_
            exfalso; clear F M; omega
          · rw [hs51] at F
            have hs51i := of_decide_eq_true hs51; (try dsimp only at hs51i)
            refine qt_rd F (wt1 F rfl rfl rfl rfl rfl) (ld_agg rfl (F.ev rfl) agg23 (M.rdB (i := 3) rfl) rfl) rfl rfl ?_; clear F; intro φ F
            refine qt_rd F (wt1 F rfl rfl rfl rfl rfl) (ld_agg rfl (F.ev rfl) agg23 (M.rdB (i := 2) rfl) rfl) rfl rfl ?_; clear F; intro φ F
            refine qt_call F (wt1 F rfl rfl rfl rfl rfl) rfl en18 (evc (F.ev rfl) (evc (F.ev rfl) evn)) (fun w' h => calls_below h (join_any a b w')) rfl rfl ?_; clear F; intro φ F
            refine qt_rd F (wt1 F rfl rfl rfl rfl rfl) (ld_agg rfl (F.ev rfl) agg23 (M.rdB (i := 1) rfl) rfl) rfl rfl ?_; clear F; intro φ F
            refine qt_pure F (wt1 F rfl rfl rfl rfl rfl) (pu_eqlA rfl (F.ev rfl) (F.ev rfl) eqg23 (fun w => eqS23 (a.join b) (St.mk (max a.e b.e) (max a.r b.r)) w)) rfl rfl ?_; clear F; intro φ F
            refine qt_pure F (wt0 rfl) (pu_pickt rfl (F.ev rfl) (F.ev rfl)) rfl rfl ?_; clear F; intro φ F
            refine qt_pure F (wt0 rfl) (pu_move rfl (F.ev rfl)) rfl rfl ?_; clear F; intro φ F
            cases hs52 : (decide ((a.join b) = (St.mk (max a.e b.e) (max a.r b.r))))
            · rw [hs52] at F
              have hs52i := eq_f hs52; (try dsimp only at hs52i)
              refine qt_skip F (wtn F rfl rfl rfl rfl rfl) rfl rfl ?_; clear F; intro φ F
              refine qt_skip F (wtn F rfl rfl rfl rfl rfl) rfl rfl ?_; clear F; intro φ F
              refine qt_skip F (wtn F rfl rfl rfl rfl rfl) rfl rfl ?_; clear F; intro φ F
              refine qt_skip F (wtn F rfl rfl rfl rfl rfl) rfl rfl ?_; clear F; intro φ F
              refine qt_skip F (wtn F rfl rfl rfl rfl rfl) rfl rfl ?_; clear F; intro φ F
              refine qt_pure F (wt0 rfl) (pu_pickf rfl (F.ev rfl) (evk)) rfl rfl ?_; clear F; intro φ F
              refine qt_pure F (wt0 rfl) (pu_assign rfl (F.ev rfl)) rfl rfl ?_; clear F; intro φ F
              refine wpQuiet_nil ?_
              clear M; intro ω M
              refine nxq ?_
              refine wp_ret ?_
              refine rt_tmp F rfl rfl ?_
              exfalso; clear F M; omega
            · rw [hs52] at F
              have hs52i := eq_t hs52; (try dsimp only at hs52i)
              refine qt_rd F (wt1 F rfl rfl rfl rfl rfl) (ld_agg rfl (F.ev rfl) agg23 (M.rdB (i := 3) rfl) rfl) rfl rfl ?_; clear F; intro φ F
              refine qt_rd F (wt1 F rfl rfl rfl rfl rfl) (ld_agg rfl (F.ev rfl) agg23 (M.rdB (i := 2) rfl) rfl) rfl rfl ?_; clear F; intro φ F
              refine qt_call F (wt1 F rfl rfl rfl rfl rfl) rfl en19 (evc (F.ev rfl) (evc (F.ev rfl) evn)) (fun w' h => calls_below h (meet_any a b w')) rfl rfl ?_; clear F; intro φ F
              refine qt_rd F (wt1 F rfl rfl rfl rfl rfl) (ld_agg rfl (F.ev rfl) agg23 (M.rdB (i := 0) rfl) rfl) rfl rfl ?_; clear F; intro φ F
              refine qt_pure F (wt1 F rfl rfl rfl rfl rfl) (pu_eqlA rfl (F.ev rfl) (F.ev rfl) eqg23 (fun w => eqS23 (a.meet b) (St.mk (min a.e b.e) (min a.r b.r)) w)) rfl rfl ?_; clear F; intro φ F
              refine qt_pure F (wt0 rfl) (pu_pickt rfl (F.ev rfl) (F.ev rfl)) rfl rfl ?_; clear F; intro φ F
              refine qt_pure F (wt0 rfl) (pu_assign rfl (F.ev rfl)) rfl rfl ?_; clear F; intro φ F
              refine wpQuiet_nil ?_
              clear M; intro ω M
              refine nxq ?_
              cases hs53 : (decide ((a.meet b) = (St.mk (min a.e b.e) (min a.r b.r))))
              · rw [hs53] at F
                have hs53i := eq_f hs53; (try dsimp only at hs53i)
                refine wp_ret ?_
                refine rt_tmp F rfl rfl ?_
                exfalso; clear F M; omega
              · rw [hs53] at F
                have hs53i := eq_t hs53; (try dsimp only at hs53i)
                refine wp_ret ?_
                refine rt_tmp F rfl rfl ?_
                exact ⟨rfl, M.bel⟩
        · rw [hs50] at F
          have hs50i := le_t hs50; (try dsimp only at hs50i)
          refine qt_pure F (wt1 F rfl rfl rfl rfl rfl) (pu_eqlB rfl (F.ev rfl) (F.ev rfl) Try.underlying4) rfl rfl ?_; clear F; intro φ F
          rw [show (true == true) = true from rfl] at F
          refine qt_pure F (wt0 rfl) (pu_pickt rfl (F.ev rfl) (F.ev rfl)) rfl rfl ?_; clear F; intro φ F
          refine qt_pure F (wt0 rfl) (pu_move rfl (F.ev rfl)) rfl rfl ?_; clear F; intro φ F
          refine qt_rd F (wt1 F rfl rfl rfl rfl rfl) (ld_agg rfl (F.ev rfl) agg23 (M.rdB (i := 3) rfl) rfl) rfl rfl ?_; clear F; intro φ F
          refine qt_rd F (wt1 F rfl rfl rfl rfl rfl) (ld_agg rfl (F.ev rfl) agg23 (M.rdB (i := 2) rfl) rfl) rfl rfl ?_; clear F; intro φ F
          refine qt_call F (wt1 F rfl rfl rfl rfl rfl) rfl en17 (evc (F.ev rfl) (evc (F.ev rfl) evn)) (fun w' h => calls_below h (cmp_any a b w')) rfl rfl ?_; clear F; intro φ F
          refine qt_pure F (wt1 F rfl rfl rfl rfl rfl) (pu_move rfl (F.ev rfl)) rfl rfl ?_; clear F; intro φ F
          refine qt_pure F (wt1 F rfl rfl rfl rfl rfl) (pu_eqlI rfl (F.ev rfl) (F.ev rfl)) rfl rfl ?_; clear F; intro φ F
          refine qt_pure F (wt0 rfl) (pu_pickt rfl (F.ev rfl) (F.ev rfl)) rfl rfl ?_; clear F; intro φ F
          refine qt_pure F (wt0 rfl) (pu_move rfl (F.ev rfl)) rfl rfl ?_; clear F; intro φ F
          cases hs54 : (decide (a.cmp b = 1))
          · rw [hs54] at F
            have hs54i := of_decide_eq_false hs54; (try dsimp only at hs54i)
            refine qt_skip F (wtn F rfl rfl rfl rfl rfl) rfl rfl ?_; clear F; intro φ F
            refine qt_skip F (wtn F rfl rfl rfl rfl rfl) rfl rfl ?_; clear F; intro φ F
            refine qt_skip F (wtn F rfl rfl rfl rfl rfl) rfl rfl ?_; clear F; intro φ F
            refine qt_skip F (wtn F rfl rfl rfl rfl rfl) rfl rfl ?_; clear F; intro φ F
            refine qt_skip F (wtn F rfl rfl rfl rfl rfl) rfl rfl ?_; clear F; intro φ F
            refine qt_pure F (wt0 rfl) (pu_pickf rfl (F.ev rfl) (evk)) rfl rfl ?_; clear F; intro φ F
            refine qt_pure F (wt0 rfl) (pu_move rfl (F.ev rfl)) rfl rfl ?_; clear F; intro φ F
            refine qt_skip F (wtn F rfl rfl rfl rfl rfl) rfl rfl ?_; clear F; intro φ F
            refine qt_skip F (wtn F rfl rfl rfl rfl rfl) rfl rfl ?_; clear F; intro φ F
            refine qt_skip F (wtn F rfl rfl rfl rfl rfl) rfl rfl ?_; clear F; intro φ F
            refine qt_skip F (wtn F rfl rfl rfl rfl rfl) rfl rfl ?_; clear F; intro φ F
            refine qt_skip F (wtn F rfl rfl rfl rfl rfl) rfl rfl ?_; clear F; intro φ F
            refine qt_pure F (wt0 rfl) (pu_pickf rfl (F.ev rfl) (evk)) rfl rfl ?_; clear F; intro φ F
            refine qt_pure F (wt0 rfl) (pu_assign rfl (F.ev rfl)) rfl rfl ?_; clear F; intro φ F
            refine wpQuiet_nil ?_
            clear M; intro ω M
            refine nxq ?_
            refine wp_ret ?_
            refine rt_tmp F rfl rfl ?_
            exfalso; clear F M; omega
          · rw [hs54] at F
            have hs54i := of_decide_eq_true hs54; (try dsimp only at hs54i)
            refine qt_rd F (wt1 F rfl rfl rfl rfl rfl) (ld_agg rfl (F.ev rfl) agg23 (M.rdB (i := 3) rfl) rfl) rfl rfl ?_; clear F; intro φ F
            refine qt_rd F (wt1 F rfl rfl rfl rfl rfl) (ld_agg rfl (F.ev rfl) agg23 (M.rdB (i := 2) rfl) rfl) rfl rfl ?_; clear F; intro φ F
            refine qt_call F (wt1 F rfl rfl rfl rfl rfl) rfl en18 (evc (F.ev rfl) (evc (F.ev rfl) evn)) (fun w' h => calls_below h (join_any a b w')) rfl rfl ?_; clear F; intro φ F
            refine qt_rd F (wt1 F rfl rfl rfl rfl rfl) (ld_agg rfl (F.ev rfl) agg23 (M.rdB (i := 1) rfl) rfl) rfl rfl ?_; clear F; intro φ F
            refine qt_pure F (wt1 F rfl rfl rfl rfl rfl) (pu_eqlA rfl (F.ev rfl) (F.ev rfl) eqg23 (fun w => eqS23 (a.join b) (St.mk (max a.e b.e) (max a.r b.r)) w)) rfl rfl ?_; clear F; intro φ F
            refine qt_pure F (wt0 rfl) (pu_pickt rfl (F.ev rfl) (F.ev rfl)) rfl rfl ?_; clear F; intro φ F
            refine qt_pure F (wt0 rfl) (pu_move rfl (F.ev rfl)) rfl rfl ?_; clear F; intro φ F
            cases hs55 : (decide ((a.join b) = (St.mk (max a.e b.e) (max a.r b.r))))
            · rw [hs55] at F
              have hs55i := eq_f hs55; (try dsimp only at hs55i)
              refine qt_skip F (wtn F rfl rfl rfl rfl rfl) rfl rfl ?_; clear F; intro φ F
              refine qt_skip F (wtn F rfl rfl rfl rfl rfl) rfl rfl ?_; clear F; intro φ F
              refine qt_skip F (wtn F rfl rfl rfl rfl rfl) rfl rfl ?_; clear F; intro φ F
              refine qt_skip F (wtn F rfl rfl rfl rfl rfl) rfl rfl ?_; clear F; intro φ F
              refine qt_skip F (wtn F rfl rfl rfl rfl rfl) rfl rfl ?_; clear F; intro φ F
              refine qt_pure F (wt0 rfl) (pu_pickf rfl (F.ev rfl) (evk)) rfl rfl ?_; clear F; intro φ F
              refine qt_pure F (wt0 rfl) (pu_assign rfl (F.ev rfl)) rfl rfl ?_; clear F; intro φ F
              refine wpQuiet_nil ?_
              clear M; intro ω M
              refine nxq ?_
              refine wp_ret ?_
              refine rt_tmp F rfl rfl ?_
              exfalso; clear F M; omega
            · rw [hs55] at F
              have hs55i := eq_t hs55; (try dsimp only at hs55i)
              refine qt_rd F (wt1 F rfl rfl rfl rfl rfl) (ld_agg rfl (F.ev rfl) agg23 (M.rdB (i := 3) rfl) rfl) rfl rfl ?_; clear F; intro φ F
              refine qt_rd F (wt1 F rfl rfl rfl rfl rfl) (ld_agg rfl (F.ev rfl) agg23 (M.rdB (i := 2) rfl) rfl) rfl rfl ?_; clear F; intro φ F
              refine qt_call F (wt1 F rfl rfl rfl rfl rfl) rfl en19 (evc (F.ev rfl) (evc (F.ev rfl) evn)) (fun w' h => calls_below h (meet_any a b w')) rfl rfl ?_; clear F; intro φ F
              refine qt_rd F (wt1 F rfl rfl rfl rfl rfl) (ld_agg rfl (F.ev rfl) agg23 (M.rdB (i := 0) rfl) rfl) rfl rfl ?_; clear F; intro φ F
              refine qt_pure F (wt1 F rfl rfl rfl rfl rfl) (pu_eqlA rfl (F.ev rfl) (F.ev rfl) eqg23 (fun w => eqS23 (a.meet b) (St.mk (min a.e b.e) (min a.r b.r)) w)) rfl rfl ?_; clear F; intro φ F
              refine qt_pure F (wt0 rfl) (pu_pickt rfl (F.ev rfl) (F.ev rfl)) rfl rfl ?_; clear F; intro φ F
              refine qt_pure F (wt0 rfl) (pu_assign rfl (F.ev rfl)) rfl rfl ?_; clear F; intro φ F
              refine wpQuiet_nil ?_
              clear M; intro ω M
              refine nxq ?_
              cases hs56 : (decide ((a.meet b) = (St.mk (min a.e b.e) (min a.r b.r))))
              · rw [hs56] at F
                have hs56i := eq_f hs56; (try dsimp only at hs56i)
                refine wp_ret ?_
                refine rt_tmp F rfl rfl ?_
                exfalso; clear F M; omega
              · rw [hs56] at F
                have hs56i := eq_t hs56; (try dsimp only at hs56i)
                refine wp_ret ?_
                refine rt_tmp F rfl rfl ?_
                exact ⟨rfl, M.bel⟩
      · rw [hs49] at F
        have hs49i := right_t hs49; (try dsimp only at hs49i)
        refine qt_pure F (wt1 F rfl rfl rfl rfl rfl) (pu_eqlB rfl (F.ev rfl) (F.ev rfl) Try.underlying4) rfl rfl ?_; clear F; intro φ F
        rw [show (true == true) = true from rfl] at F
        refine qt_pure F (wt0 rfl) (pu_pickt rfl (F.ev rfl) (F.ev rfl)) rfl rfl ?_; clear F; intro φ F
        refine qt_pure F (wt0 rfl) (pu_move rfl (F.ev rfl)) rfl rfl ?_; clear F; intro φ F
        refine qt_rd F (wt1 F rfl rfl rfl rfl rfl) (ld_agg rfl (F.ev rfl) agg23 (M.rdB (i := 3) rfl) rfl) rfl rfl ?_; clear F; intro φ F
        refine qt_rd F (wt1 F rfl rfl rfl rfl rfl) (ld_agg rfl (F.ev rfl) agg23 (M.rdB (i := 2) rfl) rfl) rfl rfl ?_; clear F; intro φ F
        refine qt_call F (wt1 F rfl rfl rfl rfl rfl) rfl en15 (evc (F.ev rfl) (evc (F.ev rfl) evn)) (fun w' h => calls_below h (le_any a b w')) rfl rfl ?_; clear F; intro φ F
        refine qt_rd F (wt1 F rfl rfl rfl rfl rfl) (ld_agg rfl (F.ev rfl) agg23 (M.rdB (i := 3) rfl) rfl) rfl rfl ?_; clear F; intro φ F
        refine qt_rd F (wt1 F rfl rfl rfl rfl rfl) (ld_agg rfl (F.ev rfl) agg23 (M.rdB (i := 2) rfl) rfl) rfl rfl ?_; clear F; intro φ F
        refine qt_call F (wt1 F rfl rfl rfl rfl rfl) rfl en16 (evc (F.ev rfl) (evc (F.ev rfl) evn)) (fun w' h => calls_below h (rle_any a b w')) rfl rfl ?_; clear F; intro φ F
        cases hs57 : (a.leB b)
        · rw [hs57] at F
          have hs57i := le_f hs57; (try dsimp only at hs57i)
          refine qt_pure F (wt1 F rfl rfl rfl rfl rfl) (pu_eqlB rfl (F.ev rfl) (F.ev rfl) Try.underlying4) rfl rfl ?_; clear F; intro φ F
          rw [show (false == false) = true from rfl] at F
          refine qt_pure F (wt0 rfl) (pu_pickt rfl (F.ev rfl) (F.ev rfl)) rfl rfl ?_; clear F; intro φ F
          refine qt_pure F (wt0 rfl) (pu_move rfl (F.ev rfl)) rfl rfl ?_; clear F; intro φ F
          refine qt_rd F (wt1 F rfl rfl rfl rfl rfl) (ld_agg rfl (F.ev rfl) agg23 (M.rdB (i := 3) rfl) rfl) rfl rfl ?_; clear F; intro φ F
          refine qt_rd F (wt1 F rfl rfl rfl rfl rfl) (ld_agg rfl (F.ev rfl) agg23 (M.rdB (i := 2) rfl) rfl) rfl rfl ?_; clear F; intro φ F
          refine qt_call F (wt1 F rfl rfl rfl rfl rfl) rfl en17 (evc (F.ev rfl) (evc (F.ev rfl) evn)) (fun w' h => calls_below h (cmp_any a b w')) rfl rfl ?_; clear F; intro φ F
          refine qt_pure F (wt1 F rfl rfl rfl rfl rfl) (pu_move rfl (F.ev rfl)) rfl rfl ?_; clear F; intro φ F
          refine qt_pure F (wt1 F rfl rfl rfl rfl rfl) (pu_eqlI rfl (F.ev rfl) (F.ev rfl)) rfl rfl ?_; clear F; intro φ F
          refine qt_pure F (wt0 rfl) (pu_pickt rfl (F.ev rfl) (F.ev rfl)) rfl rfl ?_; clear F; intro φ F
          refine qt_pure F (wt0 rfl) (pu_move rfl (F.ev rfl)) rfl rfl ?_; clear F; intro φ F
          cases hs58 : (decide (a.cmp b = 1))
          · rw [hs58] at F
            have hs58i := of_decide_eq_false hs58; (try dsimp only at hs58i)
            refine qt_skip F (wtn F rfl rfl rfl rfl rfl) rfl rfl ?_; clear F; intro φ F
            refine qt_skip F (wtn F rfl rfl rfl rfl rfl) rfl rfl ?_; clear F; intro φ F
            refine qt_skip F (wtn F rfl rfl rfl rfl rfl) rfl rfl ?_; clear F; intro φ F
            refine qt_skip F (wtn F rfl rfl rfl rfl rfl) rfl rfl ?_; clear F; intro φ F
            refine qt_skip F (wtn F rfl rfl rfl rfl rfl) rfl rfl ?_; clear F; intro φ F
            refine qt_pure F (wt0 rfl) (pu_pickf rfl (F.ev rfl) (evk)) rfl rfl ?_; clear F; intro φ F
            refine qt_pure F (wt0 rfl) (pu_move rfl (F.ev rfl)) rfl rfl ?_; clear F; intro φ F
            refine qt_skip F (wtn F rfl rfl rfl rfl rfl) rfl rfl ?_; clear F; intro φ F
            refine qt_skip F (wtn F rfl rfl rfl rfl rfl) rfl rfl ?_; clear F; intro φ F
            refine qt_skip F (wtn F rfl rfl rfl rfl rfl) rfl rfl ?_; clear F; intro φ F
            refine qt_skip F (wtn F rfl rfl rfl rfl rfl) rfl rfl ?_; clear F; intro φ F
            refine qt_skip F (wtn F rfl rfl rfl rfl rfl) rfl rfl ?_; clear F; intro φ F
            refine qt_pure F (wt0 rfl) (pu_pickf rfl (F.ev rfl) (evk)) rfl rfl ?_; clear F; intro φ F
            refine qt_pure F (wt0 rfl) (pu_assign rfl (F.ev rfl)) rfl rfl ?_; clear F; intro φ F
            refine wpQuiet_nil ?_
            clear M; intro ω M
            refine nxq ?_
            refine wp_ret ?_
            refine rt_tmp F rfl rfl ?_
            exfalso; clear F M; omega
          · rw [hs58] at F
            have hs58i := of_decide_eq_true hs58; (try dsimp only at hs58i)
            refine qt_rd F (wt1 F rfl rfl rfl rfl rfl) (ld_agg rfl (F.ev rfl) agg23 (M.rdB (i := 3) rfl) rfl) rfl rfl ?_; clear F; intro φ F
            refine qt_rd F (wt1 F rfl rfl rfl rfl rfl) (ld_agg rfl (F.ev rfl) agg23 (M.rdB (i := 2) rfl) rfl) rfl rfl ?_; clear F; intro φ F
            refine qt_call F (wt1 F rfl rfl rfl rfl rfl) rfl en18 (evc (F.ev rfl) (evc (F.ev rfl) evn)) (fun w' h => calls_below h (join_any a b w')) rfl rfl ?_; clear F; intro φ F
            refine qt_rd F (wt1 F rfl rfl rfl rfl rfl) (ld_agg rfl (F.ev rfl) agg23 (M.rdB (i := 1) rfl) rfl) rfl rfl ?_; clear F; intro φ F
            refine qt_pure F (wt1 F rfl rfl rfl rfl rfl) (pu_eqlA rfl (F.ev rfl) (F.ev rfl) eqg23 (fun w => eqS23 (a.join b) (St.mk (max a.e b.e) (max a.r b.r)) w)) rfl rfl ?_; clear F; intro φ F
            refine qt_pure F (wt0 rfl) (pu_pickt rfl (F.ev rfl) (F.ev rfl)) rfl rfl ?_; clear F; intro φ F
            refine qt_pure F (wt0 rfl) (pu_move rfl (F.ev rfl)) rfl rfl ?_; clear F; intro φ F
            cases hs59 : (decide ((a.join b) = (St.mk (max a.e b.e) (max a.r b.r))))
            · rw [hs59] at F
              have hs59i := eq_f hs59; (try dsimp only at hs59i)
              refine qt_skip F (wtn F rfl rfl rfl rfl rfl) rfl rfl ?_; clear F; intro φ F
              refine qt_skip F (wtn F rfl rfl rfl rfl rfl) rfl rfl ?_; clear F; intro φ F
              refine qt_skip F (wtn F rfl rfl rfl rfl rfl) rfl rfl ?_; clear F; intro φ F
              refine qt_skip F (wtn F rfl rfl rfl rfl rfl) rfl rfl ?_; clear F; intro φ F
              refine qt_skip F (wtn F rfl rfl rfl rfl rfl) rfl rfl ?_; clear F; intro φ F
              refine qt_pure F (wt0 rfl) (pu_pickf rfl (F.ev rfl) (evk)) rfl rfl ?_; clear F; intro φ F
              refine qt_pure F (wt0 rfl) (pu_assign rfl (F.ev rfl)) rfl rfl ?_; clear F; intro φ F
              refine wpQuiet_nil ?_
              clear M; intro ω M
              refine nxq ?_
              refine wp_ret ?_
              refine rt_tmp F rfl rfl ?_
              exfalso; clear F M; omega
            · rw [hs59] at F
              have hs59i := eq_t hs59; (try dsimp only at hs59i)
              refine qt_rd F (wt1 F rfl rfl rfl rfl rfl) (ld_agg rfl (F.ev rfl) agg23 (M.rdB (i := 3) rfl) rfl) rfl rfl ?_; clear F; intro φ F
              refine qt_rd F (wt1 F rfl rfl rfl rfl rfl) (ld_agg rfl (F.ev rfl) agg23 (M.rdB (i := 2) rfl) rfl) rfl rfl ?_; clear F; intro φ F
              refine qt_call F (wt1 F rfl rfl rfl rfl rfl) rfl en19 (evc (F.ev rfl) (evc (F.ev rfl) evn)) (fun w' h => calls_below h (meet_any a b w')) rfl rfl ?_; clear F; intro φ F
              refine qt_rd F (wt1 F rfl rfl rfl rfl rfl) (ld_agg rfl (F.ev rfl) agg23 (M.rdB (i := 0) rfl) rfl) rfl rfl ?_; clear F; intro φ F
              refine qt_pure F (wt1 F rfl rfl rfl rfl rfl) (pu_eqlA rfl (F.ev rfl) (F.ev rfl) eqg23 (fun w => eqS23 (a.meet b) (St.mk (min a.e b.e) (min a.r b.r)) w)) rfl rfl ?_; clear F; intro φ F
              refine qt_pure F (wt0 rfl) (pu_pickt rfl (F.ev rfl) (F.ev rfl)) rfl rfl ?_; clear F; intro φ F
              refine qt_pure F (wt0 rfl) (pu_assign rfl (F.ev rfl)) rfl rfl ?_; clear F; intro φ F
              refine wpQuiet_nil ?_
              clear M; intro ω M
              refine nxq ?_
              cases hs60 : (decide ((a.meet b) = (St.mk (min a.e b.e) (min a.r b.r))))
              · rw [hs60] at F
                have hs60i := eq_f hs60; (try dsimp only at hs60i)
                refine wp_ret ?_
                refine rt_tmp F rfl rfl ?_
                exfalso; clear F M; omega
              · rw [hs60] at F
                have hs60i := eq_t hs60; (try dsimp only at hs60i)
                refine wp_ret ?_
                refine rt_tmp F rfl rfl ?_
                exact ⟨rfl, M.bel⟩
        · rw [hs57] at F
          have hs57i := le_t hs57; (try dsimp only at hs57i)
          refine qt_pure F (wt1 F rfl rfl rfl rfl rfl) (pu_eqlB rfl (F.ev rfl) (F.ev rfl) Try.underlying4) rfl rfl ?_; clear F; intro φ F
          rw [show (true == true) = true from rfl] at F
          refine qt_pure F (wt0 rfl) (pu_pickt rfl (F.ev rfl) (F.ev rfl)) rfl rfl ?_; clear F; intro φ F
          refine qt_pure F (wt0 rfl) (pu_move rfl (F.ev rfl)) rfl rfl ?_; clear F; intro φ F
          refine qt_rd F (wt1 F rfl rfl rfl rfl rfl) (ld_agg rfl (F.ev rfl) agg23 (M.rdB (i := 3) rfl) rfl) rfl rfl ?_; clear F; intro φ F
          refine qt_rd F (wt1 F rfl rfl rfl rfl rfl) (ld_agg rfl (F.ev rfl) agg23 (M.rdB (i := 2) rfl) rfl) rfl rfl ?_; clear F; intro φ F
          refine qt_call F (wt1 F rfl rfl rfl rfl rfl) rfl en17 (evc (F.ev rfl) (evc (F.ev rfl) evn)) (fun w' h => calls_below h (cmp_any a b w')) rfl rfl ?_; clear F; intro φ F
          refine qt_pure F (wt1 F rfl rfl rfl rfl rfl) (pu_move rfl (F.ev rfl)) rfl rfl ?_; clear F; intro φ F
          refine qt_pure F (wt1 F rfl rfl rfl rfl rfl) (pu_eqlI rfl (F.ev rfl) (F.ev rfl)) rfl rfl ?_; clear F; intro φ F
          refine qt_pure F (wt0 rfl) (pu_pickt rfl (F.ev rfl) (F.ev rfl)) rfl rfl ?_; clear F; intro φ F
          refine qt_pure F (wt0 rfl) (pu_move rfl (F.ev rfl)) rfl rfl ?_; clear F; intro φ F
          cases hs61 : (decide (a.cmp b = 1))
          · rw [hs61] at F
            have hs61i := of_decide_eq_false hs61; (try dsimp only at hs61i)
            refine qt_skip F (wtn F rfl rfl rfl rfl rfl) rfl rfl ?_; clear F; intro φ F
            refine qt_skip F (wtn F rfl rfl rfl rfl rfl) rfl rfl ?_; clear F; intro φ F
            refine qt_skip F (wtn F rfl rfl rfl rfl rfl) rfl rfl ?_; clear F; intro φ F
            refine qt_skip F (wtn F rfl rfl rfl rfl rfl) rfl rfl ?_; clear F; intro φ F
            refine qt_skip F (wtn F rfl rfl rfl rfl rfl) rfl rfl ?_; clear F; intro φ F
            refine qt_pure F (wt0 rfl) (pu_pickf rfl (F.ev rfl) (evk)) rfl rfl ?_; clear F; intro φ F
            refine qt_pure F (wt0 rfl) (pu_move rfl (F.ev rfl)) rfl rfl ?_; clear F; intro φ F
            refine qt_skip F (wtn F rfl rfl rfl rfl rfl) rfl rfl ?_; clear F; intro φ F
            refine qt_skip F (wtn F rfl rfl rfl rfl rfl) rfl rfl ?_; clear F; intro φ F
            refine qt_skip F (wtn F rfl rfl rfl rfl rfl) rfl rfl ?_; clear F; intro φ F
            refine qt_skip F (wtn F rfl rfl rfl rfl rfl) rfl rfl ?_; clear F; intro φ F
            refine qt_skip F (wtn F rfl rfl rfl rfl rfl) rfl rfl ?_; clear F; intro φ F
            refine qt_pure F (wt0 rfl) (pu_pickf rfl (F.ev rfl) (evk)) rfl rfl ?_; clear F; intro φ F
            refine qt_pure F (wt0 rfl) (pu_assign rfl (F.ev rfl)) rfl rfl ?_; clear F; intro φ F
            refine wpQuiet_nil ?_
            clear M; intro ω M
            refine nxq ?_
            refine wp_ret ?_
            refine rt_tmp F rfl rfl ?_
            exfalso; clear F M; omega
          · rw [hs61] at F
            have hs61i := of_decide_eq_true hs61; (try dsimp only at hs61i)
            refine qt_rd F (wt1 F rfl rfl rfl rfl rfl) (ld_agg rfl (F.ev rfl) agg23 (M.rdB (i := 3) rfl) rfl) rfl rfl ?_; clear F; intro φ F
            refine qt_rd F (wt1 F rfl rfl rfl rfl rfl) (ld_agg rfl (F.ev rfl) agg23 (M.rdB (i := 2) rfl) rfl) rfl rfl ?_; clear F; intro φ F
            refine qt_call F (wt1 F rfl rfl rfl rfl rfl) rfl en18 (evc (F.ev rfl) (evc (F.ev rfl) evn)) (fun w' h => calls_below h (join_any a b w')) rfl rfl ?_; clear F; intro φ F
            refine qt_rd F (wt1 F rfl rfl rfl rfl rfl) (ld_agg rfl (F.ev rfl) agg23 (M.rdB (i := 1) rfl) rfl) rfl rfl ?_; clear F; intro φ F
            refine qt_pure F (wt1 F rfl rfl rfl rfl rfl) (pu_eqlA rfl (F.ev rfl) (F.ev rfl) eqg23 (fun w => eqS23 (a.join b) (St.mk (max a.e b.e) (max a.r b.r)) w)) rfl rfl ?_; clear F; intro φ F
            refine qt_pure F (wt0 rfl) (pu_pickt rfl (F.ev rfl) (F.ev rfl)) rfl rfl ?_; clear F; intro φ F
            refine qt_pure F (wt0 rfl) (pu_move rfl (F.ev rfl)) rfl rfl ?_; clear F; intro φ F
            cases hs62 : (decide ((a.join b) = (St.mk (max a.e b.e) (max a.r b.r))))
            · rw [hs62] at F
              have hs62i := eq_f hs62; (try dsimp only at hs62i)
              refine qt_skip F (wtn F rfl rfl rfl rfl rfl) rfl rfl ?_; clear F; intro φ F
              refine qt_skip F (wtn F rfl rfl rfl rfl rfl) rfl rfl ?_; clear F; intro φ F
              refine qt_skip F (wtn F rfl rfl rfl rfl rfl) rfl rfl ?_; clear F; intro φ F
              refine qt_skip F (wtn F rfl rfl rfl rfl rfl) rfl rfl ?_; clear F; intro φ F
              refine qt_skip F (wtn F rfl rfl rfl rfl rfl) rfl rfl ?_; clear F; intro φ F
              refine qt_pure F (wt0 rfl) (pu_pickf rfl (F.ev rfl) (evk)) rfl rfl ?_; clear F; intro φ F
              refine qt_pure F (wt0 rfl) (pu_assign rfl (F.ev rfl)) rfl rfl ?_; clear F; intro φ F
              refine wpQuiet_nil ?_
              clear M; intro ω M
              refine nxq ?_
              refine wp_ret ?_
              refine rt_tmp F rfl rfl ?_
              exfalso; clear F M; omega
            · rw [hs62] at F
              have hs62i := eq_t hs62; (try dsimp only at hs62i)
              refine qt_rd F (wt1 F rfl rfl rfl rfl rfl) (ld_agg rfl (F.ev rfl) agg23 (M.rdB (i := 3) rfl) rfl) rfl rfl ?_; clear F; intro φ F
              refine qt_rd F (wt1 F rfl rfl rfl rfl rfl) (ld_agg rfl (F.ev rfl) agg23 (M.rdB (i := 2) rfl) rfl) rfl rfl ?_; clear F; intro φ F
              refine qt_call F (wt1 F rfl rfl rfl rfl rfl) rfl en19 (evc (F.ev rfl) (evc (F.ev rfl) evn)) (fun w' h => calls_below h (meet_any a b w')) rfl rfl ?_; clear F; intro φ F
              refine qt_rd F (wt1 F rfl rfl rfl rfl rfl) (ld_agg rfl (F.ev rfl) agg23 (M.rdB (i := 0) rfl) rfl) rfl rfl ?_; clear F; intro φ F
              refine qt_pure F (wt1 F rfl rfl rfl rfl rfl) (pu_eqlA rfl (F.ev rfl) (F.ev rfl) eqg23 (fun w => eqS23 (a.meet b) (St.mk (min a.e b.e) (min a.r b.r)) w)) rfl rfl ?_; clear F; intro φ F
              refine qt_pure F (wt0 rfl) (pu_pickt rfl (F.ev rfl) (F.ev rfl)) rfl rfl ?_; clear F; intro φ F
              refine qt_pure F (wt0 rfl) (pu_assign rfl (F.ev rfl)) rfl rfl ?_; clear F; intro φ F
              refine wpQuiet_nil ?_
              clear M; intro ω M
              refine nxq ?_
              cases hs63 : (decide ((a.meet b) = (St.mk (min a.e b.e) (min a.r b.r))))
              · rw [hs63] at F
                have hs63i := eq_f hs63; (try dsimp only at hs63i)
                refine wp_ret ?_
                refine rt_tmp F rfl rfl ?_
                exfalso; clear F M; omega
              · rw [hs63] at F
                have hs63i := eq_t hs63; (try dsimp only at hs63i)
                refine wp_ret ?_
                refine rt_tmp F rfl rfl ?_
                exact ⟨rfl, M.bel⟩

end Go.Proofs.Ytolhinemfncejaa
