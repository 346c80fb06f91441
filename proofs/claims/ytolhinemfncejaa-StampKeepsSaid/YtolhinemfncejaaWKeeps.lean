/- The walk of StampKeeps. Made by walks/stamp.py. -/
import Derived.Test.YtolhinemfncejaaSl
namespace Go.Proofs.Ytolhinemfncejaa
open Go.RowKit

set_option maxHeartbeats 4000000 in
theorem stampKeeps_walk (a b p q : St) (w : World) :
    Calls Try.prog 7 #[.agg #[.int .i64 a.e, .int .i64 a.r], .agg #[.int .i64 b.e, .int .i64 b.r], .agg #[.int .i64 p.e, .int .i64 p.r, .int .i64 q.e, .int .i64 q.r]] w fun e w' => e = .returned (.bool true) ∧ Below w.heap.size w w' := by
  refine enterF Try.func7 rfl 101 Try.ntmps7 [.agg #[.int .i64 a.e, .int .i64 a.r], .agg #[.int .i64 b.e, .int .i64 b.r], .agg #[.int .i64 p.e, .int .i64 p.r, .int .i64 q.e, .int .i64 q.r]] rfl [(0, .agg #[.int .i64 a.e, .int .i64 a.r]), (1, .agg #[.int .i64 b.e, .int .i64 b.r]), (2, .agg #[.int .i64 p.e, .int .i64 p.r, .int .i64 q.e, .int .i64 q.r])] rfl ?_
  intro φ F
  have M := Mm.start w
  refine wp_seq ?_
  -- region 0
  refine wp_region_lit ?_
  refine sq_box F M (wt0 rfl) rfl (F.ev rfl) (cs := #[.int .i64 a.e, .int .i64 a.r]) rfl rfl rfl ?_; clear F M; intro φ ω g1 F M
  refine sq_box F M (wt0 rfl) rfl (F.ev rfl) (cs := #[.int .i64 b.e, .int .i64 b.r]) rfl rfl rfl ?_; clear F M; intro φ ω g2 F M
  refine sq_box F M (wt0 rfl) rfl (F.ev rfl) (cs := #[.int .i64 p.e, .int .i64 p.r, .int .i64 q.e, .int .i64 q.r]) rfl rfl rfl ?_; clear F M; intro φ ω g3 F M
  refine sq_pure F (wt0 rfl) (pu_assign rfl (evk)) rfl rfl ?_; clear F; intro φ F
  refine nx ?_
  refine wp_seq ?_
  -- region 1
  refine wp_region_lit ?_
  refine sq_call F M (wt0 rfl) rfl en11 evn (awake_any _) rfl rfl ?_; clear F M; intro φ ω F M
  refine sq_pure F (wt0 rfl) (pu_assign rfl (F.ev rfl)) rfl rfl ?_; clear F; intro φ F
  refine nx ?_
  refine wp_seq ?_
  -- region 2
  refine wp_region_lit ?_
  refine sq_rd F (wt0 rfl) (ld_agg rfl (F.ev rfl) agg23 (M.rd (i := 2) rfl) rfl) rfl rfl ?_; clear F; intro φ F
  refine sq_pure F (wt0 rfl) (ix34_0 rfl (F.ev rfl) (evk)) rfl rfl ?_; clear F; intro φ F
  refine sq_rd F (wt0 rfl) (ld_sub rfl (F.ev rfl) agg29 (M.rd (i := 0) rfl) rfl rfl) rfl rfl ?_; clear F; intro φ F
  refine sq_call F M (wt0 rfl) rfl en20 (evc (F.ev rfl) (evc (F.ev rfl) evn)) (after_any a p _) rfl rfl ?_; clear F M; intro φ ω F M
  refine sq_pure F (wt0 rfl) (pu_move rfl (F.ev rfl)) rfl rfl ?_; clear F; intro φ F
  refine sq_pure F (wt0 rfl) (pu_extract rfl (F.ev rfl) rfl) rfl rfl ?_; clear F; intro φ F
  refine sq_pure F (wt0 rfl) (pu_extract rfl (F.ev rfl) rfl) rfl rfl ?_; clear F; intro φ F
  refine sq_alloc F M (wt0 rfl) rfl z23 rfl rfl ?_; clear F M; intro φ ω g4 F M
  refine sq_stA F M (wt0 rfl) rfl (F.ev rfl) (F.ev rfl) (i := 0) rfl agg23 rfl rfl rfl rfl ?_; clear M; intro ω M
  refine sq_pure F (wt0 rfl) (pu_assign rfl (F.ev rfl)) rfl rfl ?_; clear F; intro φ F
  refine nx ?_
  refine wp_seq ?_
  -- region 3
  refine wp_region_lit ?_
  refine sq_rd F (wt0 rfl) (ld_agg rfl (F.ev rfl) agg23 (M.rd (i := 2) rfl) rfl) rfl rfl ?_; clear F; intro φ F
  refine sq_pure F (wt0 rfl) (ix34_0 rfl (F.ev rfl) (evk)) rfl rfl ?_; clear F; intro φ F
  refine sq_rd F (wt0 rfl) (ld_sub rfl (F.ev rfl) agg29 (M.rd (i := 1) rfl) rfl rfl) rfl rfl ?_; clear F; intro φ F
  refine sq_call F M (wt0 rfl) rfl en20 (evc (F.ev rfl) (evc (F.ev rfl) evn)) (after_any b p _) rfl rfl ?_; clear F M; intro φ ω F M
  refine sq_pure F (wt0 rfl) (pu_move rfl (F.ev rfl)) rfl rfl ?_; clear F; intro φ F
  refine sq_pure F (wt0 rfl) (pu_extract rfl (F.ev rfl) rfl) rfl rfl ?_; clear F; intro φ F
  refine sq_pure F (wt0 rfl) (pu_extract rfl (F.ev rfl) rfl) rfl rfl ?_; clear F; intro φ F
  refine sq_alloc F M (wt0 rfl) rfl z23 rfl rfl ?_; clear F M; intro φ ω g5 F M
  refine sq_stA F M (wt0 rfl) rfl (F.ev rfl) (F.ev rfl) (i := 0) rfl agg23 rfl rfl rfl rfl ?_; clear M; intro ω M
  refine sq_pure F (wt0 rfl) (pu_assign rfl (F.ev rfl)) rfl rfl ?_; clear F; intro φ F
  refine nx ?_
  refine wp_seq ?_
  refine wp_seq ?_
  -- region 4
  refine wp_region_lit ?_
  refine sq_pure F (wt0 rfl) (pu_move rfl (F.ev rfl)) rfl rfl ?_; clear F; intro φ F
  refine sq_pure F (wt0 rfl) (pu_move rfl (F.ev rfl)) rfl rfl ?_; clear F; intro φ F
  cases hs1 : (a.afterB p)
  · rw [hs1] at F
    have hs1i := after_f hs1; (try dsimp only at hs1i)
    refine sq_skip F (wtn F rfl rfl rfl rfl rfl) rfl rfl ?_; clear F; intro φ F
    refine sq_skip F (wtn F rfl rfl rfl rfl rfl) rfl rfl ?_; clear F; intro φ F
    refine sq_skip F (wtn F rfl rfl rfl rfl rfl) rfl rfl ?_; clear F; intro φ F
    refine sq_skip F (wtn F rfl rfl rfl rfl rfl) rfl rfl ?_; clear F; intro φ F
    refine sq_skip F (wtn F rfl rfl rfl rfl rfl) rfl rfl ?_; clear F; intro φ F
    refine sq_skip F (wtu F rfl rfl rfl rfl rfl) rfl rfl ?_; clear F; intro φ F
    refine sq_skip F (wtu F rfl rfl rfl rfl rfl) rfl rfl ?_; clear F; intro φ F
    refine sq_skip F (wtu F rfl rfl rfl rfl rfl) rfl rfl ?_; clear F; intro φ F
    refine sq_skip F (wtn F rfl rfl rfl rfl rfl) rfl rfl ?_; clear F; intro φ F
    refine sq_pure F (wt0 rfl) (pu_pickf rfl (F.ev rfl) (evk)) rfl rfl ?_; clear F; intro φ F
    refine nx ?_
    refine wp_cond_false (F.ev rfl) ?_
    refine wp_skip ?_
    refine nxq ?_
    refine wp_seq ?_
    refine wp_seq ?_
    -- region 6
    refine wp_region_lit ?_
    refine sq_pure F (wt0 rfl) (pu_move rfl (F.ev rfl)) rfl rfl ?_; clear F; intro φ F
    refine sq_pure F (wt0 rfl) (pu_move rfl (F.ev rfl)) rfl rfl ?_; clear F; intro φ F
    refine sq_skip F (wtn F rfl rfl rfl rfl rfl) rfl rfl ?_; clear F; intro φ F
    refine sq_pure F (wt0 rfl) (pu_pickf rfl (F.ev rfl) (evk)) rfl rfl ?_; clear F; intro φ F
    refine sq_pure F (wt0 rfl) (pu_move rfl (F.ev rfl)) rfl rfl ?_; clear F; intro φ F
    refine sq_skip F (wtn F rfl rfl rfl rfl rfl) rfl rfl ?_; clear F; intro φ F
    refine sq_skip F (wtn F rfl rfl rfl rfl rfl) rfl rfl ?_; clear F; intro φ F
    refine sq_skip F (wtn F rfl rfl rfl rfl rfl) rfl rfl ?_; clear F; intro φ F
    refine sq_pure F (wt0 rfl) (pu_pickf rfl (F.ev rfl) (evk)) rfl rfl ?_; clear F; intro φ F
    refine sq_pure F (wt0 rfl) (pu_move rfl (F.ev rfl)) rfl rfl ?_; clear F; intro φ F
    refine sq_skip F (wtn F rfl rfl rfl rfl rfl) rfl rfl ?_; clear F; intro φ F
    refine sq_skip F (wtn F rfl rfl rfl rfl rfl) rfl rfl ?_; clear F; intro φ F
    refine sq_skip F (wtn F rfl rfl rfl rfl rfl) rfl rfl ?_; clear F; intro φ F
    refine sq_skip F (wtn F rfl rfl rfl rfl rfl) rfl rfl ?_; clear F; intro φ F
    refine sq_pure F (wt0 rfl) (pu_pickf rfl (F.ev rfl) (evk)) rfl rfl ?_; clear F; intro φ F
    refine nx ?_
    refine wp_cond_false (F.ev rfl) ?_
    refine wp_skip ?_
    refine nxq ?_
    refine wp_seq ?_
    -- region 8
    refine wp_region_lit ?_
    refine sq_rd F (wt0 rfl) (ld_agg rfl (F.ev rfl) agg23 (M.rd (i := 1) rfl) rfl) rfl rfl ?_; clear F; intro φ F
    refine sq_pure F (wt0 rfl) (ix34_1 rfl (F.ev rfl) (evk)) rfl rfl ?_; clear F; intro φ F
    refine sq_rd F (wt0 rfl) (ld_sub rfl (F.ev rfl) agg29 (M.rd (i := 2) rfl) rfl rfl) rfl rfl ?_; clear F; intro φ F
    refine sq_call F M (wt0 rfl) rfl en20 (evc (F.ev rfl) (evc (F.ev rfl) evn)) (after_any (a.after p) q _) rfl rfl ?_; clear F M; intro φ ω F M
    refine sq_pure F (wt0 rfl) (pu_move rfl (F.ev rfl)) rfl rfl ?_; clear F; intro φ F
    refine sq_pure F (wt0 rfl) (pu_extract rfl (F.ev rfl) rfl) rfl rfl ?_; clear F; intro φ F
    refine sq_pure F (wt0 rfl) (pu_extract rfl (F.ev rfl) rfl) rfl rfl ?_; clear F; intro φ F
    refine sq_alloc F M (wt0 rfl) rfl z23 rfl rfl ?_; clear F M; intro φ ω g6 F M
    refine sq_stA F M (wt0 rfl) rfl (F.ev rfl) (F.ev rfl) (i := 0) rfl agg23 rfl rfl rfl rfl ?_; clear M; intro ω M
    refine sq_pure F (wt0 rfl) (pu_assign rfl (F.ev rfl)) rfl rfl ?_; clear F; intro φ F
    refine nx ?_
    refine wp_seq ?_
    refine wp_seq ?_
    -- region 9
    refine wp_region_lit ?_
    refine sq_pure F (wt0 rfl) (pu_move rfl (F.ev rfl)) rfl rfl ?_; clear F; intro φ F
    refine sq_pure F (wt0 rfl) (pu_not rfl (F.ev rfl)) rfl rfl ?_; clear F; intro φ F
    rw [show (!false) = true from rfl] at F
    refine sq_pure F (wt0 rfl) (pu_move rfl (F.ev rfl)) rfl rfl ?_; clear F; intro φ F
    refine sq_skip F (wtn F rfl rfl rfl rfl rfl) rfl rfl ?_; clear F; intro φ F
    refine sq_skip F (wtn F rfl rfl rfl rfl rfl) rfl rfl ?_; clear F; intro φ F
    refine sq_pure F (wt0 rfl) (pu_pickt rfl (F.ev rfl) (evk)) rfl rfl ?_; clear F; intro φ F
    refine nx ?_
    refine wp_cond_true (F.ev rfl) ?_
    refine wp_seq ?_
    -- region 10
    refine wp_region_lit ?_
    refine sq_pure F (wt0 rfl) (pu_move rfl (F.ev rfl)) rfl rfl ?_; clear F; intro φ F
    refine sq_pure F (wt0 rfl) (pu_assign rfl (F.ev rfl)) rfl rfl ?_; clear F; intro φ F
    refine nx ?_
    refine wp_ret ?_
    refine nxr ?_
    refine rt_tmp F rfl rfl ?_
    exact ⟨rfl, M.bel⟩
  · rw [hs1] at F
    have hs1i := after_t hs1; (try dsimp only at hs1i)
    refine sq_rd F (wt1 F rfl rfl rfl rfl rfl) (ld_agg rfl (F.ev rfl) agg23 (M.rd (i := 4) rfl) rfl) rfl rfl ?_; clear F; intro φ F
    refine sq_rd F (wt1 F rfl rfl rfl rfl rfl) (ld_agg rfl (F.ev rfl) agg23 (M.rd (i := 1) rfl) rfl) rfl rfl ?_; clear F; intro φ F
    refine sq_call F M (wt1 F rfl rfl rfl rfl rfl) rfl en15 (evc (F.ev rfl) (evc (F.ev rfl) evn)) (le_any a (a.after p) _) rfl rfl ?_; clear F M; intro φ ω F M
    cases hs2 : (a.leB (a.after p))
    · rw [hs2] at F
      have hs2i := le_f hs2; (try dsimp only at hs2i)
      refine sq_pure F (wt1 F rfl rfl rfl rfl rfl) (pu_not rfl (F.ev rfl)) rfl rfl ?_; clear F; intro φ F
      rw [show (!false) = true from rfl] at F
      refine sq_pure F (wt1 F rfl rfl rfl rfl rfl) (pu_move rfl (F.ev rfl)) rfl rfl ?_; clear F; intro φ F
      refine sq_skip F (wtn F rfl rfl rfl rfl rfl) rfl rfl ?_; clear F; intro φ F
      refine sq_skip F (wtn F rfl rfl rfl rfl rfl) rfl rfl ?_; clear F; intro φ F
      refine sq_skip F (wtn F rfl rfl rfl rfl rfl) rfl rfl ?_; clear F; intro φ F
      refine sq_pure F (wt1 F rfl rfl rfl rfl rfl) (pu_pickt rfl (F.ev rfl) (evk)) rfl rfl ?_; clear F; intro φ F
      refine sq_pure F (wt0 rfl) (pu_pickt rfl (F.ev rfl) (F.ev rfl)) rfl rfl ?_; clear F; intro φ F
      refine nx ?_
      refine wp_cond_true (F.ev rfl) ?_
      refine wp_seq ?_
      -- region 5
      refine wp_region_lit ?_
      refine sq_pure F (wt0 rfl) (pu_assign rfl (evk)) rfl rfl ?_; clear F; intro φ F
      refine nx ?_
      refine wp_ret ?_
      refine nxr ?_
      refine rt_tmp F rfl rfl ?_
      exfalso; clear F M; omega
    · rw [hs2] at F
      have hs2i := le_t hs2; (try dsimp only at hs2i)
      refine sq_pure F (wt1 F rfl rfl rfl rfl rfl) (pu_not rfl (F.ev rfl)) rfl rfl ?_; clear F; intro φ F
      rw [show (!true) = false from rfl] at F
      refine sq_pure F (wt1 F rfl rfl rfl rfl rfl) (pu_move rfl (F.ev rfl)) rfl rfl ?_; clear F; intro φ F
      refine sq_rd F (wt1 F rfl rfl rfl rfl rfl) (ld_agg rfl (F.ev rfl) agg23 (M.rd (i := 1) rfl) rfl) rfl rfl ?_; clear F; intro φ F
      refine sq_call F M (wt1 F rfl rfl rfl rfl rfl) rfl en13 (evc (F.ev rfl) evn) (right_any (a.after p) _) rfl rfl ?_; clear F M; intro φ ω F M
      cases hs3 : ((a.after p).rightB)
      · rw [hs3] at F
        have hs3i := right_f hs3; (try dsimp only at hs3i)
        refine sq_pure F (wt1 F rfl rfl rfl rfl rfl) (pu_not rfl (F.ev rfl)) rfl rfl ?_; clear F; intro φ F
        rw [show (!false) = true from rfl] at F
        refine sq_pure F (wt1 F rfl rfl rfl rfl rfl) (pu_pickf rfl (F.ev rfl) (F.ev rfl)) rfl rfl ?_; clear F; intro φ F
        refine sq_pure F (wt0 rfl) (pu_pickt rfl (F.ev rfl) (F.ev rfl)) rfl rfl ?_; clear F; intro φ F
        refine nx ?_
        refine wp_cond_true (F.ev rfl) ?_
        refine wp_seq ?_
        -- region 5
        refine wp_region_lit ?_
        refine sq_pure F (wt0 rfl) (pu_assign rfl (evk)) rfl rfl ?_; clear F; intro φ F
        refine nx ?_
        refine wp_ret ?_
        refine nxr ?_
        refine rt_tmp F rfl rfl ?_
        exfalso; clear F M; omega
      · rw [hs3] at F
        have hs3i := right_t hs3; (try dsimp only at hs3i)
        refine sq_pure F (wt1 F rfl rfl rfl rfl rfl) (pu_not rfl (F.ev rfl)) rfl rfl ?_; clear F; intro φ F
        rw [show (!true) = false from rfl] at F
        refine sq_pure F (wt1 F rfl rfl rfl rfl rfl) (pu_pickf rfl (F.ev rfl) (F.ev rfl)) rfl rfl ?_; clear F; intro φ F
        refine sq_pure F (wt0 rfl) (pu_pickt rfl (F.ev rfl) (F.ev rfl)) rfl rfl ?_; clear F; intro φ F
        refine nx ?_
        refine wp_cond_false (F.ev rfl) ?_
        refine wp_skip ?_
        refine nxq ?_
        refine wp_seq ?_
        refine wp_seq ?_
        -- region 6
        refine wp_region_lit ?_
        refine sq_pure F (wt0 rfl) (pu_move rfl (F.ev rfl)) rfl rfl ?_; clear F; intro φ F
        refine sq_pure F (wt0 rfl) (pu_move rfl (F.ev rfl)) rfl rfl ?_; clear F; intro φ F
        refine sq_pure F (wt1 F rfl rfl rfl rfl rfl) (pu_move rfl (F.ev rfl)) rfl rfl ?_; clear F; intro φ F
        refine sq_pure F (wt0 rfl) (pu_pickt rfl (F.ev rfl) (F.ev rfl)) rfl rfl ?_; clear F; intro φ F
        refine sq_pure F (wt0 rfl) (pu_move rfl (F.ev rfl)) rfl rfl ?_; clear F; intro φ F
        cases hs4 : (b.afterB p)
        · rw [hs4] at F
          have hs4i := after_f hs4; (try dsimp only at hs4i)
          refine sq_skip F (wtn F rfl rfl rfl rfl rfl) rfl rfl ?_; clear F; intro φ F
          refine sq_skip F (wtn F rfl rfl rfl rfl rfl) rfl rfl ?_; clear F; intro φ F
          refine sq_skip F (wtn F rfl rfl rfl rfl rfl) rfl rfl ?_; clear F; intro φ F
          refine sq_pure F (wt0 rfl) (pu_pickf rfl (F.ev rfl) (evk)) rfl rfl ?_; clear F; intro φ F
          refine sq_pure F (wt0 rfl) (pu_move rfl (F.ev rfl)) rfl rfl ?_; clear F; intro φ F
          refine sq_skip F (wtn F rfl rfl rfl rfl rfl) rfl rfl ?_; clear F; intro φ F
          refine sq_skip F (wtn F rfl rfl rfl rfl rfl) rfl rfl ?_; clear F; intro φ F
          refine sq_skip F (wtn F rfl rfl rfl rfl rfl) rfl rfl ?_; clear F; intro φ F
          refine sq_skip F (wtn F rfl rfl rfl rfl rfl) rfl rfl ?_; clear F; intro φ F
          refine sq_pure F (wt0 rfl) (pu_pickf rfl (F.ev rfl) (evk)) rfl rfl ?_; clear F; intro φ F
          refine nx ?_
          refine wp_cond_false (F.ev rfl) ?_
          refine wp_skip ?_
          refine nxq ?_
          refine wp_seq ?_
          -- region 8
          refine wp_region_lit ?_
          refine sq_rd F (wt0 rfl) (ld_agg rfl (F.ev rfl) agg23 (M.rd (i := 1) rfl) rfl) rfl rfl ?_; clear F; intro φ F
          refine sq_pure F (wt0 rfl) (ix34_1 rfl (F.ev rfl) (evk)) rfl rfl ?_; clear F; intro φ F
          refine sq_rd F (wt0 rfl) (ld_sub rfl (F.ev rfl) agg29 (M.rd (i := 2) rfl) rfl rfl) rfl rfl ?_; clear F; intro φ F
          refine sq_call F M (wt0 rfl) rfl en20 (evc (F.ev rfl) (evc (F.ev rfl) evn)) (after_any (a.after p) q _) rfl rfl ?_; clear F M; intro φ ω F M
          refine sq_pure F (wt0 rfl) (pu_move rfl (F.ev rfl)) rfl rfl ?_; clear F; intro φ F
          refine sq_pure F (wt0 rfl) (pu_extract rfl (F.ev rfl) rfl) rfl rfl ?_; clear F; intro φ F
          refine sq_pure F (wt0 rfl) (pu_extract rfl (F.ev rfl) rfl) rfl rfl ?_; clear F; intro φ F
          refine sq_alloc F M (wt0 rfl) rfl z23 rfl rfl ?_; clear F M; intro φ ω g7 F M
          refine sq_stA F M (wt0 rfl) rfl (F.ev rfl) (F.ev rfl) (i := 0) rfl agg23 rfl rfl rfl rfl ?_; clear M; intro ω M
          refine sq_pure F (wt0 rfl) (pu_assign rfl (F.ev rfl)) rfl rfl ?_; clear F; intro φ F
          refine nx ?_
          refine wp_seq ?_
          refine wp_seq ?_
          -- region 9
          refine wp_region_lit ?_
          refine sq_pure F (wt0 rfl) (pu_move rfl (F.ev rfl)) rfl rfl ?_; clear F; intro φ F
          refine sq_pure F (wt0 rfl) (pu_not rfl (F.ev rfl)) rfl rfl ?_; clear F; intro φ F
          rw [show (!true) = false from rfl] at F
          refine sq_pure F (wt0 rfl) (pu_move rfl (F.ev rfl)) rfl rfl ?_; clear F; intro φ F
          refine sq_pure F (wt1 F rfl rfl rfl rfl rfl) (pu_move rfl (F.ev rfl)) rfl rfl ?_; clear F; intro φ F
          cases hs5 : ((a.after p).afterB q)
          · rw [hs5] at F
            have hs5i := after_f hs5; (try dsimp only at hs5i)
            refine sq_pure F (wt1 F rfl rfl rfl rfl rfl) (pu_not rfl (F.ev rfl)) rfl rfl ?_; clear F; intro φ F
            rw [show (!false) = true from rfl] at F
            refine sq_pure F (wt0 rfl) (pu_pickf rfl (F.ev rfl) (F.ev rfl)) rfl rfl ?_; clear F; intro φ F
            refine nx ?_
            refine wp_cond_true (F.ev rfl) ?_
            refine wp_seq ?_
            -- region 10
            refine wp_region_lit ?_
            refine sq_pure F (wt0 rfl) (pu_move rfl (F.ev rfl)) rfl rfl ?_; clear F; intro φ F
            refine sq_pure F (wt0 rfl) (pu_assign rfl (F.ev rfl)) rfl rfl ?_; clear F; intro φ F
            refine nx ?_
            refine wp_ret ?_
            refine nxr ?_
            refine rt_tmp F rfl rfl ?_
            exact ⟨rfl, M.bel⟩
          · rw [hs5] at F
            have hs5i := after_t hs5; (try dsimp only at hs5i)
            refine sq_pure F (wt1 F rfl rfl rfl rfl rfl) (pu_not rfl (F.ev rfl)) rfl rfl ?_; clear F; intro φ F
            rw [show (!true) = false from rfl] at F
            refine sq_pure F (wt0 rfl) (pu_pickf rfl (F.ev rfl) (F.ev rfl)) rfl rfl ?_; clear F; intro φ F
            refine nx ?_
            refine wp_cond_false (F.ev rfl) ?_
            refine wp_skip ?_
            refine nxq ?_
            refine wp_seq ?_
            -- region 11
            refine wp_region_lit ?_
            refine sq_rd F (wt0 rfl) (ld_agg rfl (F.ev rfl) agg23 (M.rd (i := 5) rfl) rfl) rfl rfl ?_; clear F; intro φ F
            refine sq_pure F (wt0 rfl) (ix34_0 rfl (F.ev rfl) (evk)) rfl rfl ?_; clear F; intro φ F
            refine sq_pure F (wt0 rfl) (pu_field rfl (F.ev rfl) fo29_0) rfl rfl ?_; clear F; intro φ F
            refine sq_rd F (wt0 rfl) (ld_cell rfl (F.ev rfl) one3 (M.rd (i := 3) rfl) rfl) rfl rfl ?_; clear F; intro φ F
            refine sq_pure F (wt0 rfl) (ix34_1 rfl (F.ev rfl) (evk)) rfl rfl ?_; clear F; intro φ F
            refine sq_pure F (wt0 rfl) (pu_field rfl (F.ev rfl) fo29_0) rfl rfl ?_; clear F; intro φ F
            refine sq_rd F (wt0 rfl) (ld_cell rfl (F.ev rfl) one3 (M.rd (i := 3) rfl) rfl) rfl rfl ?_; clear F; intro φ F
            refine sq_pure F (wt0 rfl) (pu_add rfl (F.ev rfl) (F.ev rfl) (by omega) (by omega)) rfl rfl ?_; clear F; intro φ F
            refine sq_pure F (wt0 rfl) (ix34_0 rfl (F.ev rfl) (evk)) rfl rfl ?_; clear F; intro φ F
            refine sq_pure F (wt0 rfl) (pu_field rfl (F.ev rfl) fo29_1) rfl rfl ?_; clear F; intro φ F
            refine sq_rd F (wt0 rfl) (ld_cell rfl (F.ev rfl) one3 (M.rd (i := 3) rfl) rfl) rfl rfl ?_; clear F; intro φ F
            refine sq_pure F (wt0 rfl) (ix34_1 rfl (F.ev rfl) (evk)) rfl rfl ?_; clear F; intro φ F
            refine sq_pure F (wt0 rfl) (pu_field rfl (F.ev rfl) fo29_1) rfl rfl ?_; clear F; intro φ F
            refine sq_rd F (wt0 rfl) (ld_cell rfl (F.ev rfl) one3 (M.rd (i := 3) rfl) rfl) rfl rfl ?_; clear F; intro φ F
            refine sq_pure F (wt0 rfl) (pu_add rfl (F.ev rfl) (F.ev rfl) (by omega) (by omega)) rfl rfl ?_; clear F; intro φ F
            refine sq_pure F (wt0 rfl) (bu29_2 rfl (F.ev rfl) (F.ev rfl)) rfl rfl ?_; clear F; intro φ F
            refine sq_call F M (wt0 rfl) rfl en20 (evc (F.ev rfl) (evc (F.ev rfl) evn)) (after_any a (St.mk (p.e + q.e) (p.r + q.r)) _) rfl rfl ?_; clear F M; intro φ ω F M
            refine sq_pure F (wt0 rfl) (pu_move rfl (F.ev rfl)) rfl rfl ?_; clear F; intro φ F
            refine sq_pure F (wt0 rfl) (pu_extract rfl (F.ev rfl) rfl) rfl rfl ?_; clear F; intro φ F
            refine sq_pure F (wt0 rfl) (pu_extract rfl (F.ev rfl) rfl) rfl rfl ?_; clear F; intro φ F
            refine sq_alloc F M (wt0 rfl) rfl z23 rfl rfl ?_; clear F M; intro φ ω g8 F M
            refine sq_stA F M (wt0 rfl) rfl (F.ev rfl) (F.ev rfl) (i := 0) rfl agg23 rfl rfl rfl rfl ?_; clear M; intro ω M
            refine sq_pure F (wt0 rfl) (pu_assign rfl (F.ev rfl)) rfl rfl ?_; clear F; intro φ F
            refine nx ?_
            refine wp_seq ?_
            -- region 12
            refine wp_region_lit ?_
            refine sq_pure F (wt0 rfl) (pu_move rfl (F.ev rfl)) rfl rfl ?_; clear F; intro φ F
            refine sq_pure F (wt0 rfl) (pu_move rfl (F.ev rfl)) rfl rfl ?_; clear F; intro φ F
            refine sq_pure F (wt1 F rfl rfl rfl rfl rfl) (pu_move rfl (F.ev rfl)) rfl rfl ?_; clear F; intro φ F
            refine sq_pure F (wt0 rfl) (pu_pickt rfl (F.ev rfl) (F.ev rfl)) rfl rfl ?_; clear F; intro φ F
            refine sq_pure F (wt0 rfl) (pu_move rfl (F.ev rfl)) rfl rfl ?_; clear F; intro φ F
            cases hs6 : (a.afterB (St.mk (p.e + q.e) (p.r + q.r)))
            · rw [hs6] at F
              have hs6i := after_f hs6; (try dsimp only at hs6i)
              refine sq_skip F (wtn F rfl rfl rfl rfl rfl) rfl rfl ?_; clear F; intro φ F
              refine sq_skip F (wtn F rfl rfl rfl rfl rfl) rfl rfl ?_; clear F; intro φ F
              refine sq_skip F (wtn F rfl rfl rfl rfl rfl) rfl rfl ?_; clear F; intro φ F
              refine sq_pure F (wt0 rfl) (pu_pickf rfl (F.ev rfl) (evk)) rfl rfl ?_; clear F; intro φ F
              refine sq_pure F (wt0 rfl) (pu_assign rfl (F.ev rfl)) rfl rfl ?_; clear F; intro φ F
              refine nx ?_
              refine wp_ret ?_
              refine rt_tmp F rfl rfl ?_
              exfalso; clear F M; omega
            · rw [hs6] at F
              have hs6i := after_t hs6; (try dsimp only at hs6i)
              refine sq_rd F (wt1 F rfl rfl rfl rfl rfl) (ld_agg rfl (F.ev rfl) agg23 (M.rd (i := 0) rfl) rfl) rfl rfl ?_; clear F; intro φ F
              refine sq_rd F (wt1 F rfl rfl rfl rfl rfl) (ld_agg rfl (F.ev rfl) agg23 (M.rd (i := 1) rfl) rfl) rfl rfl ?_; clear F; intro φ F
              refine sq_pure F (wt1 F rfl rfl rfl rfl rfl) (pu_eqlA rfl (F.ev rfl) (F.ev rfl) eqg23 (fun w => eqS23 (a.after (St.mk (p.e + q.e) (p.r + q.r))) ((a.after p).after q) w)) rfl rfl ?_; clear F; intro φ F
              refine sq_pure F (wt0 rfl) (pu_pickt rfl (F.ev rfl) (F.ev rfl)) rfl rfl ?_; clear F; intro φ F
              refine sq_pure F (wt0 rfl) (pu_assign rfl (F.ev rfl)) rfl rfl ?_; clear F; intro φ F
              refine nx ?_
              cases hs7 : (decide ((a.after (St.mk (p.e + q.e) (p.r + q.r))) = ((a.after p).after q)))
              · rw [hs7] at F
                have hs7i := eq_f hs7; (try dsimp only at hs7i)
                refine wp_ret ?_
                refine rt_tmp F rfl rfl ?_
                exfalso; clear F M; omega
              · rw [hs7] at F
                have hs7i := eq_t hs7; (try dsimp only at hs7i)
                refine wp_ret ?_
                refine rt_tmp F rfl rfl ?_
                exact ⟨rfl, M.bel⟩
        · rw [hs4] at F
          have hs4i := after_t hs4; (try dsimp only at hs4i)
          refine sq_rd F (wt1 F rfl rfl rfl rfl rfl) (ld_agg rfl (F.ev rfl) agg23 (M.rd (i := 4) rfl) rfl) rfl rfl ?_; clear F; intro φ F
          refine sq_rd F (wt1 F rfl rfl rfl rfl rfl) (ld_agg rfl (F.ev rfl) agg23 (M.rd (i := 3) rfl) rfl) rfl rfl ?_; clear F; intro φ F
          refine sq_call F M (wt1 F rfl rfl rfl rfl rfl) rfl en15 (evc (F.ev rfl) (evc (F.ev rfl) evn)) (le_any a b _) rfl rfl ?_; clear F M; intro φ ω F M
          refine sq_pure F (wt0 rfl) (pu_pickt rfl (F.ev rfl) (F.ev rfl)) rfl rfl ?_; clear F; intro φ F
          refine sq_pure F (wt0 rfl) (pu_move rfl (F.ev rfl)) rfl rfl ?_; clear F; intro φ F
          cases hs8 : (a.leB b)
          · rw [hs8] at F
            have hs8i := le_f hs8; (try dsimp only at hs8i)
            refine sq_skip F (wtn F rfl rfl rfl rfl rfl) rfl rfl ?_; clear F; intro φ F
            refine sq_skip F (wtn F rfl rfl rfl rfl rfl) rfl rfl ?_; clear F; intro φ F
            refine sq_skip F (wtn F rfl rfl rfl rfl rfl) rfl rfl ?_; clear F; intro φ F
            refine sq_skip F (wtn F rfl rfl rfl rfl rfl) rfl rfl ?_; clear F; intro φ F
            refine sq_pure F (wt0 rfl) (pu_pickf rfl (F.ev rfl) (evk)) rfl rfl ?_; clear F; intro φ F
            refine nx ?_
            refine wp_cond_false (F.ev rfl) ?_
            refine wp_skip ?_
            refine nxq ?_
            refine wp_seq ?_
            -- region 8
            refine wp_region_lit ?_
            refine sq_rd F (wt0 rfl) (ld_agg rfl (F.ev rfl) agg23 (M.rd (i := 1) rfl) rfl) rfl rfl ?_; clear F; intro φ F
            refine sq_pure F (wt0 rfl) (ix34_1 rfl (F.ev rfl) (evk)) rfl rfl ?_; clear F; intro φ F
            refine sq_rd F (wt0 rfl) (ld_sub rfl (F.ev rfl) agg29 (M.rd (i := 2) rfl) rfl rfl) rfl rfl ?_; clear F; intro φ F
            refine sq_call F M (wt0 rfl) rfl en20 (evc (F.ev rfl) (evc (F.ev rfl) evn)) (after_any (a.after p) q _) rfl rfl ?_; clear F M; intro φ ω F M
            refine sq_pure F (wt0 rfl) (pu_move rfl (F.ev rfl)) rfl rfl ?_; clear F; intro φ F
            refine sq_pure F (wt0 rfl) (pu_extract rfl (F.ev rfl) rfl) rfl rfl ?_; clear F; intro φ F
            refine sq_pure F (wt0 rfl) (pu_extract rfl (F.ev rfl) rfl) rfl rfl ?_; clear F; intro φ F
            refine sq_alloc F M (wt0 rfl) rfl z23 rfl rfl ?_; clear F M; intro φ ω g9 F M
            refine sq_stA F M (wt0 rfl) rfl (F.ev rfl) (F.ev rfl) (i := 0) rfl agg23 rfl rfl rfl rfl ?_; clear M; intro ω M
            refine sq_pure F (wt0 rfl) (pu_assign rfl (F.ev rfl)) rfl rfl ?_; clear F; intro φ F
            refine nx ?_
            refine wp_seq ?_
            refine wp_seq ?_
            -- region 9
            refine wp_region_lit ?_
            refine sq_pure F (wt0 rfl) (pu_move rfl (F.ev rfl)) rfl rfl ?_; clear F; intro φ F
            refine sq_pure F (wt0 rfl) (pu_not rfl (F.ev rfl)) rfl rfl ?_; clear F; intro φ F
            rw [show (!true) = false from rfl] at F
            refine sq_pure F (wt0 rfl) (pu_move rfl (F.ev rfl)) rfl rfl ?_; clear F; intro φ F
            refine sq_pure F (wt1 F rfl rfl rfl rfl rfl) (pu_move rfl (F.ev rfl)) rfl rfl ?_; clear F; intro φ F
            cases hs9 : ((a.after p).afterB q)
            · rw [hs9] at F
              have hs9i := after_f hs9; (try dsimp only at hs9i)
              refine sq_pure F (wt1 F rfl rfl rfl rfl rfl) (pu_not rfl (F.ev rfl)) rfl rfl ?_; clear F; intro φ F
              rw [show (!false) = true from rfl] at F
              refine sq_pure F (wt0 rfl) (pu_pickf rfl (F.ev rfl) (F.ev rfl)) rfl rfl ?_; clear F; intro φ F
              refine nx ?_
              refine wp_cond_true (F.ev rfl) ?_
              refine wp_seq ?_
              -- region 10
              refine wp_region_lit ?_
              refine sq_pure F (wt0 rfl) (pu_move rfl (F.ev rfl)) rfl rfl ?_; clear F; intro φ F
              refine sq_pure F (wt0 rfl) (pu_assign rfl (F.ev rfl)) rfl rfl ?_; clear F; intro φ F
              refine nx ?_
              refine wp_ret ?_
              refine nxr ?_
              refine rt_tmp F rfl rfl ?_
              exact ⟨rfl, M.bel⟩
            · rw [hs9] at F
              have hs9i := after_t hs9; (try dsimp only at hs9i)
              refine sq_pure F (wt1 F rfl rfl rfl rfl rfl) (pu_not rfl (F.ev rfl)) rfl rfl ?_; clear F; intro φ F
              rw [show (!true) = false from rfl] at F
              refine sq_pure F (wt0 rfl) (pu_pickf rfl (F.ev rfl) (F.ev rfl)) rfl rfl ?_; clear F; intro φ F
              refine nx ?_
              refine wp_cond_false (F.ev rfl) ?_
              refine wp_skip ?_
              refine nxq ?_
              refine wp_seq ?_
              -- region 11
              refine wp_region_lit ?_
              refine sq_rd F (wt0 rfl) (ld_agg rfl (F.ev rfl) agg23 (M.rd (i := 5) rfl) rfl) rfl rfl ?_; clear F; intro φ F
              refine sq_pure F (wt0 rfl) (ix34_0 rfl (F.ev rfl) (evk)) rfl rfl ?_; clear F; intro φ F
              refine sq_pure F (wt0 rfl) (pu_field rfl (F.ev rfl) fo29_0) rfl rfl ?_; clear F; intro φ F
              refine sq_rd F (wt0 rfl) (ld_cell rfl (F.ev rfl) one3 (M.rd (i := 3) rfl) rfl) rfl rfl ?_; clear F; intro φ F
              refine sq_pure F (wt0 rfl) (ix34_1 rfl (F.ev rfl) (evk)) rfl rfl ?_; clear F; intro φ F
              refine sq_pure F (wt0 rfl) (pu_field rfl (F.ev rfl) fo29_0) rfl rfl ?_; clear F; intro φ F
              refine sq_rd F (wt0 rfl) (ld_cell rfl (F.ev rfl) one3 (M.rd (i := 3) rfl) rfl) rfl rfl ?_; clear F; intro φ F
              refine sq_pure F (wt0 rfl) (pu_add rfl (F.ev rfl) (F.ev rfl) (by omega) (by omega)) rfl rfl ?_; clear F; intro φ F
              refine sq_pure F (wt0 rfl) (ix34_0 rfl (F.ev rfl) (evk)) rfl rfl ?_; clear F; intro φ F
              refine sq_pure F (wt0 rfl) (pu_field rfl (F.ev rfl) fo29_1) rfl rfl ?_; clear F; intro φ F
              refine sq_rd F (wt0 rfl) (ld_cell rfl (F.ev rfl) one3 (M.rd (i := 3) rfl) rfl) rfl rfl ?_; clear F; intro φ F
              refine sq_pure F (wt0 rfl) (ix34_1 rfl (F.ev rfl) (evk)) rfl rfl ?_; clear F; intro φ F
              refine sq_pure F (wt0 rfl) (pu_field rfl (F.ev rfl) fo29_1) rfl rfl ?_; clear F; intro φ F
              refine sq_rd F (wt0 rfl) (ld_cell rfl (F.ev rfl) one3 (M.rd (i := 3) rfl) rfl) rfl rfl ?_; clear F; intro φ F
              refine sq_pure F (wt0 rfl) (pu_add rfl (F.ev rfl) (F.ev rfl) (by omega) (by omega)) rfl rfl ?_; clear F; intro φ F
              refine sq_pure F (wt0 rfl) (bu29_2 rfl (F.ev rfl) (F.ev rfl)) rfl rfl ?_; clear F; intro φ F
              refine sq_call F M (wt0 rfl) rfl en20 (evc (F.ev rfl) (evc (F.ev rfl) evn)) (after_any a (St.mk (p.e + q.e) (p.r + q.r)) _) rfl rfl ?_; clear F M; intro φ ω F M
              refine sq_pure F (wt0 rfl) (pu_move rfl (F.ev rfl)) rfl rfl ?_; clear F; intro φ F
              refine sq_pure F (wt0 rfl) (pu_extract rfl (F.ev rfl) rfl) rfl rfl ?_; clear F; intro φ F
              refine sq_pure F (wt0 rfl) (pu_extract rfl (F.ev rfl) rfl) rfl rfl ?_; clear F; intro φ F
              refine sq_alloc F M (wt0 rfl) rfl z23 rfl rfl ?_; clear F M; intro φ ω g10 F M
              refine sq_stA F M (wt0 rfl) rfl (F.ev rfl) (F.ev rfl) (i := 0) rfl agg23 rfl rfl rfl rfl ?_; clear M; intro ω M
              refine sq_pure F (wt0 rfl) (pu_assign rfl (F.ev rfl)) rfl rfl ?_; clear F; intro φ F
              refine nx ?_
              refine wp_seq ?_
              -- region 12
              refine wp_region_lit ?_
              refine sq_pure F (wt0 rfl) (pu_move rfl (F.ev rfl)) rfl rfl ?_; clear F; intro φ F
              refine sq_pure F (wt0 rfl) (pu_move rfl (F.ev rfl)) rfl rfl ?_; clear F; intro φ F
              refine sq_pure F (wt1 F rfl rfl rfl rfl rfl) (pu_move rfl (F.ev rfl)) rfl rfl ?_; clear F; intro φ F
              refine sq_pure F (wt0 rfl) (pu_pickt rfl (F.ev rfl) (F.ev rfl)) rfl rfl ?_; clear F; intro φ F
              refine sq_pure F (wt0 rfl) (pu_move rfl (F.ev rfl)) rfl rfl ?_; clear F; intro φ F
              cases hs10 : (a.afterB (St.mk (p.e + q.e) (p.r + q.r)))
              · rw [hs10] at F
                have hs10i := after_f hs10; (try dsimp only at hs10i)
                refine sq_skip F (wtn F rfl rfl rfl rfl rfl) rfl rfl ?_; clear F; intro φ F
                refine sq_skip F (wtn F rfl rfl rfl rfl rfl) rfl rfl ?_; clear F; intro φ F
                refine sq_skip F (wtn F rfl rfl rfl rfl rfl) rfl rfl ?_; clear F; intro φ F
                refine sq_pure F (wt0 rfl) (pu_pickf rfl (F.ev rfl) (evk)) rfl rfl ?_; clear F; intro φ F
                refine sq_pure F (wt0 rfl) (pu_assign rfl (F.ev rfl)) rfl rfl ?_; clear F; intro φ F
                refine nx ?_
                refine wp_ret ?_
                refine rt_tmp F rfl rfl ?_
                exfalso; clear F M; omega
              · rw [hs10] at F
                have hs10i := after_t hs10; (try dsimp only at hs10i)
                refine sq_rd F (wt1 F rfl rfl rfl rfl rfl) (ld_agg rfl (F.ev rfl) agg23 (M.rd (i := 0) rfl) rfl) rfl rfl ?_; clear F; intro φ F
                refine sq_rd F (wt1 F rfl rfl rfl rfl rfl) (ld_agg rfl (F.ev rfl) agg23 (M.rd (i := 1) rfl) rfl) rfl rfl ?_; clear F; intro φ F
                refine sq_pure F (wt1 F rfl rfl rfl rfl rfl) (pu_eqlA rfl (F.ev rfl) (F.ev rfl) eqg23 (fun w => eqS23 (a.after (St.mk (p.e + q.e) (p.r + q.r))) ((a.after p).after q) w)) rfl rfl ?_; clear F; intro φ F
                refine sq_pure F (wt0 rfl) (pu_pickt rfl (F.ev rfl) (F.ev rfl)) rfl rfl ?_; clear F; intro φ F
                refine sq_pure F (wt0 rfl) (pu_assign rfl (F.ev rfl)) rfl rfl ?_; clear F; intro φ F
                refine nx ?_
                cases hs11 : (decide ((a.after (St.mk (p.e + q.e) (p.r + q.r))) = ((a.after p).after q)))
                · rw [hs11] at F
                  have hs11i := eq_f hs11; (try dsimp only at hs11i)
                  refine wp_ret ?_
                  refine rt_tmp F rfl rfl ?_
                  exfalso; clear F M; omega
                · rw [hs11] at F
                  have hs11i := eq_t hs11; (try dsimp only at hs11i)
                  refine wp_ret ?_
                  refine rt_tmp F rfl rfl ?_
                  exact ⟨rfl, M.bel⟩
          · rw [hs8] at F
            have hs8i := le_t hs8; (try dsimp only at hs8i)
            refine sq_rd F (wt1 F rfl rfl rfl rfl rfl) (ld_agg rfl (F.ev rfl) agg23 (M.rd (i := 1) rfl) rfl) rfl rfl ?_; clear F; intro φ F
            refine sq_rd F (wt1 F rfl rfl rfl rfl rfl) (ld_agg rfl (F.ev rfl) agg23 (M.rd (i := 0) rfl) rfl) rfl rfl ?_; clear F; intro φ F
            refine sq_call F M (wt1 F rfl rfl rfl rfl rfl) rfl en15 (evc (F.ev rfl) (evc (F.ev rfl) evn)) (le_any (a.after p) (b.after p) _) rfl rfl ?_; clear F M; intro φ ω F M
            cases hs12 : ((a.after p).leB (b.after p))
            · rw [hs12] at F
              have hs12i := le_f hs12; (try dsimp only at hs12i)
              refine sq_pure F (wt1 F rfl rfl rfl rfl rfl) (pu_not rfl (F.ev rfl)) rfl rfl ?_; clear F; intro φ F
              rw [show (!false) = true from rfl] at F
              refine sq_pure F (wt0 rfl) (pu_pickt rfl (F.ev rfl) (F.ev rfl)) rfl rfl ?_; clear F; intro φ F
              refine nx ?_
              refine wp_cond_true (F.ev rfl) ?_
              refine wp_seq ?_
              -- region 7
              refine wp_region_lit ?_
              refine sq_pure F (wt0 rfl) (pu_assign rfl (evk)) rfl rfl ?_; clear F; intro φ F
              refine nx ?_
              refine wp_ret ?_
              refine nxr ?_
              refine rt_tmp F rfl rfl ?_
              exfalso; clear F M; omega
            · rw [hs12] at F
              have hs12i := le_t hs12; (try dsimp only at hs12i)
              refine sq_pure F (wt1 F rfl rfl rfl rfl rfl) (pu_not rfl (F.ev rfl)) rfl rfl ?_; clear F; intro φ F
              rw [show (!true) = false from rfl] at F
              refine sq_pure F (wt0 rfl) (pu_pickt rfl (F.ev rfl) (F.ev rfl)) rfl rfl ?_; clear F; intro φ F
              refine nx ?_
              refine wp_cond_false (F.ev rfl) ?_
              refine wp_skip ?_
              refine nxq ?_
              refine wp_seq ?_
              -- region 8
              refine wp_region_lit ?_
              refine sq_rd F (wt0 rfl) (ld_agg rfl (F.ev rfl) agg23 (M.rd (i := 1) rfl) rfl) rfl rfl ?_; clear F; intro φ F
              refine sq_pure F (wt0 rfl) (ix34_1 rfl (F.ev rfl) (evk)) rfl rfl ?_; clear F; intro φ F
              refine sq_rd F (wt0 rfl) (ld_sub rfl (F.ev rfl) agg29 (M.rd (i := 2) rfl) rfl rfl) rfl rfl ?_; clear F; intro φ F
              refine sq_call F M (wt0 rfl) rfl en20 (evc (F.ev rfl) (evc (F.ev rfl) evn)) (after_any (a.after p) q _) rfl rfl ?_; clear F M; intro φ ω F M
              refine sq_pure F (wt0 rfl) (pu_move rfl (F.ev rfl)) rfl rfl ?_; clear F; intro φ F
              refine sq_pure F (wt0 rfl) (pu_extract rfl (F.ev rfl) rfl) rfl rfl ?_; clear F; intro φ F
              refine sq_pure F (wt0 rfl) (pu_extract rfl (F.ev rfl) rfl) rfl rfl ?_; clear F; intro φ F
              refine sq_alloc F M (wt0 rfl) rfl z23 rfl rfl ?_; clear F M; intro φ ω g11 F M
              refine sq_stA F M (wt0 rfl) rfl (F.ev rfl) (F.ev rfl) (i := 0) rfl agg23 rfl rfl rfl rfl ?_; clear M; intro ω M
              refine sq_pure F (wt0 rfl) (pu_assign rfl (F.ev rfl)) rfl rfl ?_; clear F; intro φ F
              refine nx ?_
              refine wp_seq ?_
              refine wp_seq ?_
              -- region 9
              refine wp_region_lit ?_
              refine sq_pure F (wt0 rfl) (pu_move rfl (F.ev rfl)) rfl rfl ?_; clear F; intro φ F
              refine sq_pure F (wt0 rfl) (pu_not rfl (F.ev rfl)) rfl rfl ?_; clear F; intro φ F
              rw [show (!true) = false from rfl] at F
              refine sq_pure F (wt0 rfl) (pu_move rfl (F.ev rfl)) rfl rfl ?_; clear F; intro φ F
              refine sq_pure F (wt1 F rfl rfl rfl rfl rfl) (pu_move rfl (F.ev rfl)) rfl rfl ?_; clear F; intro φ F
              cases hs13 : ((a.after p).afterB q)
              · rw [hs13] at F
                have hs13i := after_f hs13; (try dsimp only at hs13i)
                refine sq_pure F (wt1 F rfl rfl rfl rfl rfl) (pu_not rfl (F.ev rfl)) rfl rfl ?_; clear F; intro φ F
                rw [show (!false) = true from rfl] at F
                refine sq_pure F (wt0 rfl) (pu_pickf rfl (F.ev rfl) (F.ev rfl)) rfl rfl ?_; clear F; intro φ F
                refine nx ?_
                refine wp_cond_true (F.ev rfl) ?_
                refine wp_seq ?_
                -- region 10
                refine wp_region_lit ?_
                refine sq_pure F (wt0 rfl) (pu_move rfl (F.ev rfl)) rfl rfl ?_; clear F; intro φ F
                refine sq_pure F (wt0 rfl) (pu_assign rfl (F.ev rfl)) rfl rfl ?_; clear F; intro φ F
                refine nx ?_
                refine wp_ret ?_
                refine nxr ?_
                refine rt_tmp F rfl rfl ?_
                exact ⟨rfl, M.bel⟩
              · rw [hs13] at F
                have hs13i := after_t hs13; (try dsimp only at hs13i)
                refine sq_pure F (wt1 F rfl rfl rfl rfl rfl) (pu_not rfl (F.ev rfl)) rfl rfl ?_; clear F; intro φ F
                rw [show (!true) = false from rfl] at F
                refine sq_pure F (wt0 rfl) (pu_pickf rfl (F.ev rfl) (F.ev rfl)) rfl rfl ?_; clear F; intro φ F
                refine nx ?_
                refine wp_cond_false (F.ev rfl) ?_
                refine wp_skip ?_
                refine nxq ?_
                refine wp_seq ?_
                -- region 11
                refine wp_region_lit ?_
                refine sq_rd F (wt0 rfl) (ld_agg rfl (F.ev rfl) agg23 (M.rd (i := 5) rfl) rfl) rfl rfl ?_; clear F; intro φ F
                refine sq_pure F (wt0 rfl) (ix34_0 rfl (F.ev rfl) (evk)) rfl rfl ?_; clear F; intro φ F
                refine sq_pure F (wt0 rfl) (pu_field rfl (F.ev rfl) fo29_0) rfl rfl ?_; clear F; intro φ F
                refine sq_rd F (wt0 rfl) (ld_cell rfl (F.ev rfl) one3 (M.rd (i := 3) rfl) rfl) rfl rfl ?_; clear F; intro φ F
                refine sq_pure F (wt0 rfl) (ix34_1 rfl (F.ev rfl) (evk)) rfl rfl ?_; clear F; intro φ F
                refine sq_pure F (wt0 rfl) (pu_field rfl (F.ev rfl) fo29_0) rfl rfl ?_; clear F; intro φ F
                refine sq_rd F (wt0 rfl) (ld_cell rfl (F.ev rfl) one3 (M.rd (i := 3) rfl) rfl) rfl rfl ?_; clear F; intro φ F
                refine sq_pure F (wt0 rfl) (pu_add rfl (F.ev rfl) (F.ev rfl) (by omega) (by omega)) rfl rfl ?_; clear F; intro φ F
                refine sq_pure F (wt0 rfl) (ix34_0 rfl (F.ev rfl) (evk)) rfl rfl ?_; clear F; intro φ F
                refine sq_pure F (wt0 rfl) (pu_field rfl (F.ev rfl) fo29_1) rfl rfl ?_; clear F; intro φ F
                refine sq_rd F (wt0 rfl) (ld_cell rfl (F.ev rfl) one3 (M.rd (i := 3) rfl) rfl) rfl rfl ?_; clear F; intro φ F
                refine sq_pure F (wt0 rfl) (ix34_1 rfl (F.ev rfl) (evk)) rfl rfl ?_; clear F; intro φ F
                refine sq_pure F (wt0 rfl) (pu_field rfl (F.ev rfl) fo29_1) rfl rfl ?_; clear F; intro φ F
                refine sq_rd F (wt0 rfl) (ld_cell rfl (F.ev rfl) one3 (M.rd (i := 3) rfl) rfl) rfl rfl ?_; clear F; intro φ F
                refine sq_pure F (wt0 rfl) (pu_add rfl (F.ev rfl) (F.ev rfl) (by omega) (by omega)) rfl rfl ?_; clear F; intro φ F
                refine sq_pure F (wt0 rfl) (bu29_2 rfl (F.ev rfl) (F.ev rfl)) rfl rfl ?_; clear F; intro φ F
                refine sq_call F M (wt0 rfl) rfl en20 (evc (F.ev rfl) (evc (F.ev rfl) evn)) (after_any a (St.mk (p.e + q.e) (p.r + q.r)) _) rfl rfl ?_; clear F M; intro φ ω F M
                refine sq_pure F (wt0 rfl) (pu_move rfl (F.ev rfl)) rfl rfl ?_; clear F; intro φ F
                refine sq_pure F (wt0 rfl) (pu_extract rfl (F.ev rfl) rfl) rfl rfl ?_; clear F; intro φ F
                refine sq_pure F (wt0 rfl) (pu_extract rfl (F.ev rfl) rfl) rfl rfl ?_; clear F; intro φ F
                refine sq_alloc F M (wt0 rfl) rfl z23 rfl rfl ?_; clear F M; intro φ ω g12 F M
                refine sq_stA F M (wt0 rfl) rfl (F.ev rfl) (F.ev rfl) (i := 0) rfl agg23 rfl rfl rfl rfl ?_; clear M; intro ω M
                refine sq_pure F (wt0 rfl) (pu_assign rfl (F.ev rfl)) rfl rfl ?_; clear F; intro φ F
                refine nx ?_
                refine wp_seq ?_
                -- region 12
                refine wp_region_lit ?_
                refine sq_pure F (wt0 rfl) (pu_move rfl (F.ev rfl)) rfl rfl ?_; clear F; intro φ F
                refine sq_pure F (wt0 rfl) (pu_move rfl (F.ev rfl)) rfl rfl ?_; clear F; intro φ F
                refine sq_pure F (wt1 F rfl rfl rfl rfl rfl) (pu_move rfl (F.ev rfl)) rfl rfl ?_; clear F; intro φ F
                refine sq_pure F (wt0 rfl) (pu_pickt rfl (F.ev rfl) (F.ev rfl)) rfl rfl ?_; clear F; intro φ F
                refine sq_pure F (wt0 rfl) (pu_move rfl (F.ev rfl)) rfl rfl ?_; clear F; intro φ F
                cases hs14 : (a.afterB (St.mk (p.e + q.e) (p.r + q.r)))
                · rw [hs14] at F
                  have hs14i := after_f hs14; (try dsimp only at hs14i)
                  refine sq_skip F (wtn F rfl rfl rfl rfl rfl) rfl rfl ?_; clear F; intro φ F
                  refine sq_skip F (wtn F rfl rfl rfl rfl rfl) rfl rfl ?_; clear F; intro φ F
                  refine sq_skip F (wtn F rfl rfl rfl rfl rfl) rfl rfl ?_; clear F; intro φ F
                  refine sq_pure F (wt0 rfl) (pu_pickf rfl (F.ev rfl) (evk)) rfl rfl ?_; clear F; intro φ F
                  refine sq_pure F (wt0 rfl) (pu_assign rfl (F.ev rfl)) rfl rfl ?_; clear F; intro φ F
                  refine nx ?_
                  refine wp_ret ?_
                  refine rt_tmp F rfl rfl ?_
                  exfalso; clear F M; omega
                · rw [hs14] at F
                  have hs14i := after_t hs14; (try dsimp only at hs14i)
                  refine sq_rd F (wt1 F rfl rfl rfl rfl rfl) (ld_agg rfl (F.ev rfl) agg23 (M.rd (i := 0) rfl) rfl) rfl rfl ?_; clear F; intro φ F
                  refine sq_rd F (wt1 F rfl rfl rfl rfl rfl) (ld_agg rfl (F.ev rfl) agg23 (M.rd (i := 1) rfl) rfl) rfl rfl ?_; clear F; intro φ F
                  refine sq_pure F (wt1 F rfl rfl rfl rfl rfl) (pu_eqlA rfl (F.ev rfl) (F.ev rfl) eqg23 (fun w => eqS23 (a.after (St.mk (p.e + q.e) (p.r + q.r))) ((a.after p).after q) w)) rfl rfl ?_; clear F; intro φ F
                  refine sq_pure F (wt0 rfl) (pu_pickt rfl (F.ev rfl) (F.ev rfl)) rfl rfl ?_; clear F; intro φ F
                  refine sq_pure F (wt0 rfl) (pu_assign rfl (F.ev rfl)) rfl rfl ?_; clear F; intro φ F
                  refine nx ?_
                  cases hs15 : (decide ((a.after (St.mk (p.e + q.e) (p.r + q.r))) = ((a.after p).after q)))
                  · rw [hs15] at F
                    have hs15i := eq_f hs15; (try dsimp only at hs15i)
                    refine wp_ret ?_
                    refine rt_tmp F rfl rfl ?_
                    exfalso; clear F M; omega
                  · rw [hs15] at F
                    have hs15i := eq_t hs15; (try dsimp only at hs15i)
                    refine wp_ret ?_
                    refine rt_tmp F rfl rfl ?_
                    exact ⟨rfl, M.bel⟩

end Go.Proofs.Ytolhinemfncejaa
