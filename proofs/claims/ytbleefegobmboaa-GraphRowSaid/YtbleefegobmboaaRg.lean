/- The reference of layer 6: what may be, nodes in a row. Made by walks/ref06.py. -/
import Derived.Test.YtbleefegobmboaaRp
import Derived.Test.YtbleefegobmboaaGp
namespace Go.Proofs.Ytbleefegobmboaa
open Go.RowKit
set_option maxRecDepth 100000
set_option linter.unusedSimpArgs false
set_option linter.unusedVariables false

set_option maxHeartbeats 2000000 in
theorem fits_any (n : Int) (ev : Value) (x : Ed) (w : World) :
    Calls Try.prog 27 #[.agg #[.int .i64 n, ev], .agg #[.int .i64 x.f, .int .i64 x.t, .int .i64 x.p.e, .int .i64 x.p.r]] w (fun e w' => e = .returned ((.bool (fitsB n x))) ∧ Below w.heap.size w w') := by
  refine enterF Try.func27 rfl 32 Try.ntmps27 [.agg #[.int .i64 n, ev], .agg #[.int .i64 x.f, .int .i64 x.t, .int .i64 x.p.e, .int .i64 x.p.r]] rfl [(0, .agg #[.int .i64 n, ev]), (1, .agg #[.int .i64 x.f, .int .i64 x.t, .int .i64 x.p.e, .int .i64 x.p.r])] rfl ?_
  intro φ F
  have M := Mm.start [] w
  refine wp_seq ?_
  -- region 0
  refine wp_region_lit ?_
  refine sq_box F M (wt0 rfl) rfl (F.ev rfl) (cs := #[.int .i64 n, ev]) rfl rfl rfl ?_; clear F M; intro φ ω g1 F M
  refine sq_box F M (wt0 rfl) rfl (F.ev rfl) (cs := #[.int .i64 x.f, .int .i64 x.t, .int .i64 x.p.e, .int .i64 x.p.r]) rfl rfl rfl ?_; clear F M; intro φ ω g2 F M
  refine sq_pure F (wt0 rfl) (pu_assign rfl (evk)) rfl rfl ?_; clear F; intro φ F
  refine nx ?_
  refine wp_seq ?_
  -- region 1
  refine wp_region_lit ?_
  refine sq_pure F (wt0 rfl) (pu_field rfl (F.ev rfl) fo40_0) rfl rfl ?_; clear F; intro φ F
  refine sq_rd F (wt0 rfl) (ld_cell rfl (F.ev rfl) one3 (M.rd (i := 0) rfl) rfl) rfl rfl ?_; clear F; intro φ F
  refine sq_pure F (wt0 rfl) (pu_geq rfl (F.ev rfl) (evk)) rfl rfl ?_; clear F; intro φ F
  refine sq_pure F (wt0 rfl) (pu_move rfl (F.ev rfl)) rfl rfl ?_; clear F; intro φ F
  cases hs1 : (decide (0 ≤ x.f))
  · rw [hs1] at F
    have hs1i := of_decide_eq_false hs1
    refine sq_skip F (wtn F rfl rfl rfl rfl rfl) rfl rfl ?_; clear F; intro φ F
    refine sq_skip F (wtn F rfl rfl rfl rfl rfl) rfl rfl ?_; clear F; intro φ F
    refine sq_skip F (wtn F rfl rfl rfl rfl rfl) rfl rfl ?_; clear F; intro φ F
    refine sq_skip F (wtn F rfl rfl rfl rfl rfl) rfl rfl ?_; clear F; intro φ F
    refine sq_skip F (wtn F rfl rfl rfl rfl rfl) rfl rfl ?_; clear F; intro φ F
    refine sq_pure F (wt0 rfl) (pu_pickf rfl (F.ev rfl) (evk)) rfl rfl ?_; clear F; intro φ F
    refine sq_pure F (wt0 rfl) (pu_move rfl (F.ev rfl)) rfl rfl ?_; clear F; intro φ F
    refine sq_skip F (wtn F rfl rfl rfl rfl rfl) rfl rfl ?_; clear F; intro φ F
    refine sq_skip F (wtn F rfl rfl rfl rfl rfl) rfl rfl ?_; clear F; intro φ F
    refine sq_skip F (wtn F rfl rfl rfl rfl rfl) rfl rfl ?_; clear F; intro φ F
    refine sq_pure F (wt0 rfl) (pu_pickf rfl (F.ev rfl) (evk)) rfl rfl ?_; clear F; intro φ F
    refine sq_pure F (wt0 rfl) (pu_move rfl (F.ev rfl)) rfl rfl ?_; clear F; intro φ F
    refine sq_skip F (wtn F rfl rfl rfl rfl rfl) rfl rfl ?_; clear F; intro φ F
    refine sq_skip F (wtn F rfl rfl rfl rfl rfl) rfl rfl ?_; clear F; intro φ F
    refine sq_skip F (wtn F rfl rfl rfl rfl rfl) rfl rfl ?_; clear F; intro φ F
    refine sq_skip F (wtn F rfl rfl rfl rfl rfl) rfl rfl ?_; clear F; intro φ F
    refine sq_skip F (wtn F rfl rfl rfl rfl rfl) rfl rfl ?_; clear F; intro φ F
    refine sq_pure F (wt0 rfl) (pu_pickf rfl (F.ev rfl) (evk)) rfl rfl ?_; clear F; intro φ F
    refine sq_pure F (wt0 rfl) (pu_move rfl (F.ev rfl)) rfl rfl ?_; clear F; intro φ F
    refine sq_skip F (wtn F rfl rfl rfl rfl rfl) rfl rfl ?_; clear F; intro φ F
    refine sq_skip F (wtn F rfl rfl rfl rfl rfl) rfl rfl ?_; clear F; intro φ F
    refine sq_skip F (wtn F rfl rfl rfl rfl rfl) rfl rfl ?_; clear F; intro φ F
    refine sq_pure F (wt0 rfl) (pu_pickf rfl (F.ev rfl) (evk)) rfl rfl ?_; clear F; intro φ F
    refine sq_pure F (wt0 rfl) (pu_assign rfl (F.ev rfl)) rfl rfl ?_; clear F; intro φ F
    refine nx ?_
    refine wp_ret ?_
    refine rt_tmp F rfl rfl ?_
    refine ⟨?_, M.bel⟩
    rw [fits_no (by omega)]
  · rw [hs1] at F
    have hs1i := of_decide_eq_true hs1
    refine sq_pure F (wt1 F rfl rfl rfl rfl rfl) (pu_field rfl (F.ev rfl) fo40_0) rfl rfl ?_; clear F; intro φ F
    refine sq_rd F (wt1 F rfl rfl rfl rfl rfl) (ld_cell rfl (F.ev rfl) one3 (M.rd (i := 0) rfl) rfl) rfl rfl ?_; clear F; intro φ F
    refine sq_pure F (wt1 F rfl rfl rfl rfl rfl) (pu_field rfl (F.ev rfl) fo24_0) rfl rfl ?_; clear F; intro φ F
    refine sq_rd F (wt1 F rfl rfl rfl rfl rfl) (ld_cell rfl (F.ev rfl) one3 (M.rd (i := 1) rfl) rfl) rfl rfl ?_; clear F; intro φ F
    refine sq_pure F (wt1 F rfl rfl rfl rfl rfl) (pu_lss rfl (F.ev rfl) (F.ev rfl)) rfl rfl ?_; clear F; intro φ F
    refine sq_pure F (wt0 rfl) (pu_pickt rfl (F.ev rfl) (F.ev rfl)) rfl rfl ?_; clear F; intro φ F
    refine sq_pure F (wt0 rfl) (pu_move rfl (F.ev rfl)) rfl rfl ?_; clear F; intro φ F
    cases hs2 : (decide (x.f < n))
    · rw [hs2] at F
      have hs2i := of_decide_eq_false hs2
      refine sq_skip F (wtn F rfl rfl rfl rfl rfl) rfl rfl ?_; clear F; intro φ F
      refine sq_skip F (wtn F rfl rfl rfl rfl rfl) rfl rfl ?_; clear F; intro φ F
      refine sq_skip F (wtn F rfl rfl rfl rfl rfl) rfl rfl ?_; clear F; intro φ F
      refine sq_pure F (wt0 rfl) (pu_pickf rfl (F.ev rfl) (evk)) rfl rfl ?_; clear F; intro φ F
      refine sq_pure F (wt0 rfl) (pu_move rfl (F.ev rfl)) rfl rfl ?_; clear F; intro φ F
      refine sq_skip F (wtn F rfl rfl rfl rfl rfl) rfl rfl ?_; clear F; intro φ F
      refine sq_skip F (wtn F rfl rfl rfl rfl rfl) rfl rfl ?_; clear F; intro φ F
      refine sq_skip F (wtn F rfl rfl rfl rfl rfl) rfl rfl ?_; clear F; intro φ F
      refine sq_skip F (wtn F rfl rfl rfl rfl rfl) rfl rfl ?_; clear F; intro φ F
      refine sq_skip F (wtn F rfl rfl rfl rfl rfl) rfl rfl ?_; clear F; intro φ F
      refine sq_pure F (wt0 rfl) (pu_pickf rfl (F.ev rfl) (evk)) rfl rfl ?_; clear F; intro φ F
      refine sq_pure F (wt0 rfl) (pu_move rfl (F.ev rfl)) rfl rfl ?_; clear F; intro φ F
      refine sq_skip F (wtn F rfl rfl rfl rfl rfl) rfl rfl ?_; clear F; intro φ F
      refine sq_skip F (wtn F rfl rfl rfl rfl rfl) rfl rfl ?_; clear F; intro φ F
      refine sq_skip F (wtn F rfl rfl rfl rfl rfl) rfl rfl ?_; clear F; intro φ F
      refine sq_pure F (wt0 rfl) (pu_pickf rfl (F.ev rfl) (evk)) rfl rfl ?_; clear F; intro φ F
      refine sq_pure F (wt0 rfl) (pu_assign rfl (F.ev rfl)) rfl rfl ?_; clear F; intro φ F
      refine nx ?_
      refine wp_ret ?_
      refine rt_tmp F rfl rfl ?_
      refine ⟨?_, M.bel⟩
      rw [fits_no (by omega)]
    · rw [hs2] at F
      have hs2i := of_decide_eq_true hs2
      refine sq_pure F (wt1 F rfl rfl rfl rfl rfl) (pu_field rfl (F.ev rfl) fo40_1) rfl rfl ?_; clear F; intro φ F
      refine sq_rd F (wt1 F rfl rfl rfl rfl rfl) (ld_cell rfl (F.ev rfl) one3 (M.rd (i := 0) rfl) rfl) rfl rfl ?_; clear F; intro φ F
      refine sq_pure F (wt1 F rfl rfl rfl rfl rfl) (pu_geq rfl (F.ev rfl) (evk)) rfl rfl ?_; clear F; intro φ F
      refine sq_pure F (wt0 rfl) (pu_pickt rfl (F.ev rfl) (F.ev rfl)) rfl rfl ?_; clear F; intro φ F
      refine sq_pure F (wt0 rfl) (pu_move rfl (F.ev rfl)) rfl rfl ?_; clear F; intro φ F
      cases hs3 : (decide (0 ≤ x.t))
      · rw [hs3] at F
        have hs3i := of_decide_eq_false hs3
        refine sq_skip F (wtn F rfl rfl rfl rfl rfl) rfl rfl ?_; clear F; intro φ F
        refine sq_skip F (wtn F rfl rfl rfl rfl rfl) rfl rfl ?_; clear F; intro φ F
        refine sq_skip F (wtn F rfl rfl rfl rfl rfl) rfl rfl ?_; clear F; intro φ F
        refine sq_skip F (wtn F rfl rfl rfl rfl rfl) rfl rfl ?_; clear F; intro φ F
        refine sq_skip F (wtn F rfl rfl rfl rfl rfl) rfl rfl ?_; clear F; intro φ F
        refine sq_pure F (wt0 rfl) (pu_pickf rfl (F.ev rfl) (evk)) rfl rfl ?_; clear F; intro φ F
        refine sq_pure F (wt0 rfl) (pu_move rfl (F.ev rfl)) rfl rfl ?_; clear F; intro φ F
        refine sq_skip F (wtn F rfl rfl rfl rfl rfl) rfl rfl ?_; clear F; intro φ F
        refine sq_skip F (wtn F rfl rfl rfl rfl rfl) rfl rfl ?_; clear F; intro φ F
        refine sq_skip F (wtn F rfl rfl rfl rfl rfl) rfl rfl ?_; clear F; intro φ F
        refine sq_pure F (wt0 rfl) (pu_pickf rfl (F.ev rfl) (evk)) rfl rfl ?_; clear F; intro φ F
        refine sq_pure F (wt0 rfl) (pu_assign rfl (F.ev rfl)) rfl rfl ?_; clear F; intro φ F
        refine nx ?_
        refine wp_ret ?_
        refine rt_tmp F rfl rfl ?_
        refine ⟨?_, M.bel⟩
        rw [fits_no (by omega)]
      · rw [hs3] at F
        have hs3i := of_decide_eq_true hs3
        refine sq_pure F (wt1 F rfl rfl rfl rfl rfl) (pu_field rfl (F.ev rfl) fo40_1) rfl rfl ?_; clear F; intro φ F
        refine sq_rd F (wt1 F rfl rfl rfl rfl rfl) (ld_cell rfl (F.ev rfl) one3 (M.rd (i := 0) rfl) rfl) rfl rfl ?_; clear F; intro φ F
        refine sq_pure F (wt1 F rfl rfl rfl rfl rfl) (pu_field rfl (F.ev rfl) fo24_0) rfl rfl ?_; clear F; intro φ F
        refine sq_rd F (wt1 F rfl rfl rfl rfl rfl) (ld_cell rfl (F.ev rfl) one3 (M.rd (i := 1) rfl) rfl) rfl rfl ?_; clear F; intro φ F
        refine sq_pure F (wt1 F rfl rfl rfl rfl rfl) (pu_lss rfl (F.ev rfl) (F.ev rfl)) rfl rfl ?_; clear F; intro φ F
        refine sq_pure F (wt0 rfl) (pu_pickt rfl (F.ev rfl) (F.ev rfl)) rfl rfl ?_; clear F; intro φ F
        refine sq_pure F (wt0 rfl) (pu_move rfl (F.ev rfl)) rfl rfl ?_; clear F; intro φ F
        cases hs4 : (decide (x.t < n))
        · rw [hs4] at F
          have hs4i := of_decide_eq_false hs4
          refine sq_skip F (wtn F rfl rfl rfl rfl rfl) rfl rfl ?_; clear F; intro φ F
          refine sq_skip F (wtn F rfl rfl rfl rfl rfl) rfl rfl ?_; clear F; intro φ F
          refine sq_skip F (wtn F rfl rfl rfl rfl rfl) rfl rfl ?_; clear F; intro φ F
          refine sq_pure F (wt0 rfl) (pu_pickf rfl (F.ev rfl) (evk)) rfl rfl ?_; clear F; intro φ F
          refine sq_pure F (wt0 rfl) (pu_assign rfl (F.ev rfl)) rfl rfl ?_; clear F; intro φ F
          refine nx ?_
          refine wp_ret ?_
          refine rt_tmp F rfl rfl ?_
          refine ⟨?_, M.bel⟩
          rw [fits_no (by omega)]
        · rw [hs4] at F
          have hs4i := of_decide_eq_true hs4
          refine sq_pure F (wt1 F rfl rfl rfl rfl rfl) (pu_field rfl (F.ev rfl) fo40_2) rfl rfl ?_; clear F; intro φ F
          refine sq_rd F (wt1 F rfl rfl rfl rfl rfl) (ld_sub rfl (F.ev rfl) agg38 (M.rd (i := 0) rfl) rfl rfl) rfl rfl ?_; clear F; intro φ F
          refine sq_call F M (wt1 F rfl rfl rfl rfl rfl) rfl en32 (evc (F.ev rfl) evn) (pright_any x.p _) rfl rfl ?_; clear F M; intro φ ω F M
          refine sq_pure F (wt0 rfl) (pu_pickt rfl (F.ev rfl) (F.ev rfl)) rfl rfl ?_; clear F; intro φ F
          refine sq_pure F (wt0 rfl) (pu_assign rfl (F.ev rfl)) rfl rfl ?_; clear F; intro φ F
          refine nx ?_
          refine wp_ret ?_
          refine rt_tmp F rfl rfl ?_
          refine ⟨?_, M.bel⟩
          rw [fits_yes (by omega)]

set_option maxHeartbeats 2000000 in
theorem gcov_any (L : List St) (t : St) (v : Value) (w : World) (hr : RdS w v L) (hlen : L.length ≤ 20000000) :
    Calls Try.prog 20 #[v, .agg #[.int .i64 t.e, .int .i64 t.r]] w (fun e w' => e = .returned ((.bool (covB L t))) ∧ Below w.heap.size w w') := by
  refine enterF Try.func20 rfl 30 Try.ntmps20 [v, .agg #[.int .i64 t.e, .int .i64 t.r]] rfl [(0, v), (1, .agg #[.int .i64 t.e, .int .i64 t.r])] rfl ?_
  intro φ F
  have M := Mm.start [] w
  replace M := M.addArg (hr) (fun h_ => by first | (simp; done) | assumption | exact d3 h_ | (simp_all; done))
  refine wp_seq ?_
  -- region 0
  refine wp_region_lit ?_
  refine sq_box F M (wt0 rfl) rfl (F.ev rfl) (cs := #[.int .i64 t.e, .int .i64 t.r]) rfl rfl rfl ?_; clear F M; intro φ ω g1 F M
  refine sq_pure F (wt0 rfl) (pu_assign rfl (evk)) rfl rfl ?_; clear F; intro φ F
  refine nx ?_
  refine wp_seq ?_
  refine wp_seq ?_
  -- region 1
  refine wp_region_lit ?_
  refine sq_pure F (wt0 rfl) (pu_assign rfl (evk)) rfl rfl ?_; clear F; intro φ F
  refine nx ?_
  refine wp_block ?_
  refine lp (σ := Int) (fun i φ' w' => Fr φ' 30 [(0, v), (3, .pointer (some ⟨g1, 0, none⟩)), (5, .int .i64 i)] ∧ Mm [] w w' [.blk g1 38 #[.int .i64 t.e, .int .i64 t.r], .arg 2 v L.length (cS L)] ∧ (0 ≤ i) ∧ (i ≤ (L.length : Int)) ∧ (∀ k, k < i.toNat → (atS L k).leB t = false)) (fun i => ((L.length : Int) - i).toNat) (0) ⟨(((F.nil.cons (F.get (k := 5) rfl)).cons (F.get (k := 3) rfl)).cons (F.get (k := 0) rfl)), M, Int.le_refl _, by omega, all_none⟩ ?_
  clear F M
  rintro i φ ω ⟨F, M, hp1_0, hp1_1, hp1_2⟩
  refine wp_seq ?_
  refine wp_seq ?_
  -- region 2
  refine wp_region_lit ?_
  refine sq_pure F (wt0 rfl) (pu_move rfl (F.ev rfl)) rfl rfl ?_; clear F; intro φ F
  refine sq_pure F (wt0 rfl) (pu_move rfl (F.ev rfl)) rfl rfl ?_; clear F; intro φ F
  refine sq_pure F (wt0 rfl) (pu_len rfl (F.ev rfl) sl44 (M.av (i := 1) rfl)) rfl rfl ?_; clear F; intro φ F
  refine sq_pure F (wt0 rfl) (pu_lss rfl (F.ev rfl) (F.ev rfl)) rfl rfl ?_; clear F; intro φ F
  refine nx ?_
  cases hs2 : (decide (i < ((L.length : Nat) : Int)))
  · rw [hs2] at F
    have hs2i := of_decide_eq_false hs2
    refine wp_cond_false (F.ev rfl) ?_
    refine wp_exit ?_
    refine nxe ?_
    refine nxe ?_
    refine nxm ?_
    refine nxq ?_
    refine wp_seq ?_
    -- region 6
    refine wp_region_lit ?_
    refine sq_pure F (wt0 rfl) (pu_assign rfl (evk)) rfl rfl ?_; clear F; intro φ F
    refine nx ?_
    refine wp_ret ?_
    refine rt_tmp F rfl rfl ?_
    refine ⟨?_, M.bel⟩
    rw [cov_f hp1_2 hs2i]
  · rw [hs2] at F
    have hs2i := of_decide_eq_true hs2
    refine wp_cond_true (F.ev rfl) ?_
    refine wp_skip ?_
    refine nxq ?_
    refine wp_seq ?_
    refine wp_block ?_
    refine wp_seq ?_
    -- region 4
    refine rg_quiet M mixedOK (by kernel_rfl) ?_
    refine qt_pure F (wt0 rfl) (pu_move rfl (F.ev rfl)) rfl rfl ?_; clear F; intro φ F
    refine qt_pure F (wt0 rfl) (pu_move rfl (F.ev rfl)) rfl rfl ?_; clear F; intro φ F
    refine qt_pure F (wt0 rfl) (pu_ix rfl (F.ev rfl) (F.ev rfl) sl44 (M.av (i := 1) rfl) (by omega) (by omega)) rfl rfl ?_; clear F; intro φ F
    refine qt_pure F (wt0 rfl) (pu_field rfl (F.ev rfl) fo38_0) rfl rfl ?_; clear F; intro φ F
    refine qt_rd F (wt0 rfl) (ld_elP1 (q := 0) (k := i.toNat * 2) rfl (F.ev rfl) one3 (fun _ h => RdV.below (M.av (i := 1) rfl) h) (by omega) (cS_at (by first | omega | (simp; done) | (simp; omega))) rfl) rfl rfl ?_; clear F; intro φ F
    refine qt_pure F (wt0 rfl) (pu_field rfl (F.ev rfl) fo38_0) rfl rfl ?_; clear F; intro φ F
    refine qt_rd F (wt0 rfl) (ld_cell rfl (F.ev rfl) one3 (M.rdB (i := 0) rfl) rfl) rfl rfl ?_; clear F; intro φ F
    refine qt_pure F (wt0 rfl) (pu_leq rfl (F.ev rfl) (F.ev rfl)) rfl rfl ?_; clear F; intro φ F
    refine qt_pure F (wt0 rfl) (pu_move rfl (F.ev rfl)) rfl rfl ?_; clear F; intro φ F
    cases hs3 : (decide ((atS L i.toNat).e ≤ t.e))
    · rw [hs3] at F
      have hs3i := of_decide_eq_false hs3
      refine qt_skip F (wtn F rfl rfl rfl rfl rfl) rfl rfl ?_; clear F; intro φ F
      refine qt_skip F (wtn F rfl rfl rfl rfl rfl) rfl rfl ?_; clear F; intro φ F
      refine qt_skip F (wtn F rfl rfl rfl rfl rfl) rfl rfl ?_; clear F; intro φ F
      refine qt_skip F (wtn F rfl rfl rfl rfl rfl) rfl rfl ?_; clear F; intro φ F
      refine qt_skip F (wtn F rfl rfl rfl rfl rfl) rfl rfl ?_; clear F; intro φ F
      refine qt_skip F (wtn F rfl rfl rfl rfl rfl) rfl rfl ?_; clear F; intro φ F
      refine qt_skip F (wtn F rfl rfl rfl rfl rfl) rfl rfl ?_; clear F; intro φ F
      refine qt_skip F (wtn F rfl rfl rfl rfl rfl) rfl rfl ?_; clear F; intro φ F
      refine qt_pure F (wt0 rfl) (pu_pickf rfl (F.ev rfl) (evk)) rfl rfl ?_; clear F; intro φ F
      refine wpQuiet_nil ?_
      clear M; intro ω M
      refine nxq ?_
      refine wp_cond_false (F.ev rfl) ?_
      refine wp_skip ?_
      refine nxb ?_
      refine nxq ?_
      -- region 3
      refine wp_region_lit ?_
      refine sq_pure F (wt0 rfl) (pu_move rfl (F.ev rfl)) rfl rfl ?_; clear F; intro φ F
      refine sq_pure F (wt0 rfl) (pu_add rfl (F.ev rfl) (evk) (by omega) (by omega)) rfl rfl ?_; clear F; intro φ F
      refine sq_pure F (wt0 rfl) (pu_assign rfl (F.ev rfl)) rfl rfl ?_; clear F; intro φ F
      refine wpList_nil ?_
      exact ⟨i + 1, by omega, (((F.nil.cons (F.get (k := 5) rfl)).cons (F.get (k := 3) rfl)).cons (F.get (k := 0) rfl)), M, by omega, by omega, all_succ hp1_2 hp1_0 ((by rw [← Bool.not_eq_true, St.le_iff]; omega))⟩
    · rw [hs3] at F
      have hs3i := of_decide_eq_true hs3
      refine qt_pure F (wt1 F rfl rfl rfl rfl rfl) (pu_move rfl (F.ev rfl)) rfl rfl ?_; clear F; intro φ F
      refine qt_pure F (wt1 F rfl rfl rfl rfl rfl) (pu_move rfl (F.ev rfl)) rfl rfl ?_; clear F; intro φ F
      refine qt_pure F (wt1 F rfl rfl rfl rfl rfl) (pu_ix rfl (F.ev rfl) (F.ev rfl) sl44 (M.av (i := 1) rfl) (by omega) (by omega)) rfl rfl ?_; clear F; intro φ F
      refine qt_pure F (wt1 F rfl rfl rfl rfl rfl) (pu_field rfl (F.ev rfl) fo38_1) rfl rfl ?_; clear F; intro φ F
      refine qt_rd F (wt1 F rfl rfl rfl rfl rfl) (ld_elP1 (q := 1) (k := i.toNat * 2) rfl (F.ev rfl) one3 (fun _ h => RdV.below (M.av (i := 1) rfl) h) (by omega) (cS_at (by first | omega | (simp; done) | (simp; omega))) rfl) rfl rfl ?_; clear F; intro φ F
      refine qt_pure F (wt1 F rfl rfl rfl rfl rfl) (pu_field rfl (F.ev rfl) fo38_1) rfl rfl ?_; clear F; intro φ F
      refine qt_rd F (wt1 F rfl rfl rfl rfl rfl) (ld_cell rfl (F.ev rfl) one3 (M.rdB (i := 0) rfl) rfl) rfl rfl ?_; clear F; intro φ F
      refine qt_pure F (wt1 F rfl rfl rfl rfl rfl) (pu_leq rfl (F.ev rfl) (F.ev rfl)) rfl rfl ?_; clear F; intro φ F
      refine qt_pure F (wt0 rfl) (pu_pickt rfl (F.ev rfl) (F.ev rfl)) rfl rfl ?_; clear F; intro φ F
      refine wpQuiet_nil ?_
      clear M; intro ω M
      refine nxq ?_
      cases hs4 : (decide ((atS L i.toNat).r ≤ t.r))
      · rw [hs4] at F
        have hs4i := of_decide_eq_false hs4
        refine wp_cond_false (F.ev rfl) ?_
        refine wp_skip ?_
        refine nxb ?_
        refine nxq ?_
        -- region 3
        refine wp_region_lit ?_
        refine sq_pure F (wt0 rfl) (pu_move rfl (F.ev rfl)) rfl rfl ?_; clear F; intro φ F
        refine sq_pure F (wt0 rfl) (pu_add rfl (F.ev rfl) (evk) (by omega) (by omega)) rfl rfl ?_; clear F; intro φ F
        refine sq_pure F (wt0 rfl) (pu_assign rfl (F.ev rfl)) rfl rfl ?_; clear F; intro φ F
        refine wpList_nil ?_
        exact ⟨i + 1, by omega, (((F.nil.cons (F.get (k := 5) rfl)).cons (F.get (k := 3) rfl)).cons (F.get (k := 0) rfl)), M, by omega, by omega, all_succ hp1_2 hp1_0 ((by rw [← Bool.not_eq_true, St.le_iff]; omega))⟩
      · rw [hs4] at F
        have hs4i := of_decide_eq_true hs4
        refine wp_cond_true (F.ev rfl) ?_
        refine wp_seq ?_
        -- region 5
        refine wp_region_lit ?_
        refine sq_pure F (wt0 rfl) (pu_assign rfl (evk)) rfl rfl ?_; clear F; intro φ F
        refine nx ?_
        refine wp_ret ?_
        refine nxrb ?_
        refine nxr ?_
        refine nxr ?_
        refine nxrb ?_
        refine nxr ?_
        refine rt_tmp F rfl rfl ?_
        refine ⟨?_, M.bel⟩
        rw [cov_t (L := L) (t := t) (i := i.toNat) (by omega) (St.le_iff.2 (by omega))]

set_option maxHeartbeats 2000000 in
theorem order_any (n : Int) (ev : Value) (E : List Ed) (w : World) (hr : RdG w ev E) (hlen : E.length ≤ 20000000) (hn0 : 0 ≤ n) (hn : n ≤ 1000) (hfit : ∀ x ∈ E, fitsB n x = true) :
    Calls Try.prog 14 #[.agg #[.int .i64 n, ev]] w (fun e w' => ∃ v, e = .returned v ∧ Below w.heap.size w w' ∧ w'.ownsRow w.heap.size 3 1 v (orderL E n.toNat).length (cI (orderL E n.toNat))) := by
  refine enterF Try.func14 rfl 69 Try.ntmps14 [.agg #[.int .i64 n, ev]] rfl [(0, .agg #[.int .i64 n, ev])] rfl ?_
  intro φ F
  have M := Mm.start [] w
  replace M := M.addArg (hr) (fun h_ => by first | (simp; done) | assumption | exact d3 h_ | (simp_all; done))
  refine wp_seq ?_
  -- region 0
  refine wp_region_lit ?_
  refine sq_box F M (wt0 rfl) rfl (F.ev rfl) (cs := #[.int .i64 n, ev]) rfl rfl rfl ?_; clear F M; intro φ ω g1 F M
  refine sq_pure F (wt0 rfl) (pu_assign rfl (evk)) rfl rfl ?_; clear F; intro φ F
  refine nx ?_
  refine wp_seq ?_
  -- region 1
  refine wp_region_lit ?_
  refine sq_pure F (wt0 rfl) (pu_field rfl (F.ev rfl) fo24_0) rfl rfl ?_; clear F; intro φ F
  refine sq_rd F (wt0 rfl) (ld_cell rfl (F.ev rfl) one3 (M.rd (i := 0) rfl) rfl) rfl rfl ?_; clear F; intro φ F
  refine sq_make1 F M (wt0 rfl) rfl (F.ev rfl) (F.ev rfl) sl57.1 (.bool false) rfl mk4 (by omega) (by omega) (by omega) rfl rfl ?_; clear F M; intro φ ω g2 F M
  rw [← cB_rep] at M
  refine sq_pure F (wt0 rfl) (pu_assign rfl (F.ev rfl)) rfl rfl ?_; clear F; intro φ F
  refine nx ?_
  refine wp_seq ?_
  -- region 2
  refine wp_region_lit ?_
  refine sq_pure F (wt0 rfl) (pu_assign rfl (evk)) rfl rfl ?_; clear F; intro φ F
  refine nx ?_
  refine wp_seq ?_
  refine wp_seq ?_
  replace M : Mm [] w ω [.blk g2 4 (List.toArray (cB (roundsO E n.toNat (0 : Int).toNat).1)), .blk g1 24 #[.int .i64 n, ev], .arg 4 ev E.length (cG E)] := M
  -- region 3
  refine wp_region_lit ?_
  refine sq_pure F (wt0 rfl) (pu_assign rfl (evk)) rfl rfl ?_; clear F; intro φ F
  refine nx ?_
  refine wp_block ?_
  refine lp (σ := Int) (fun r φ' w' => ∃ vq : Value, Fr φ' 69 [(1, .pointer (some ⟨g1, 0, none⟩)), (3, (.slice (some ⟨g2, 0, none⟩) n.toNat n.toNat)), (4, vq), (5, .int .i64 r)] ∧ Mm [] w w' [.row 3 1 vq (((roundsO E n.toNat r.toNat).2).length) (cI ((roundsO E n.toNat r.toNat).2)), .blk g2 4 (List.toArray (cB ((roundsO E n.toNat r.toNat).1))), .blk g1 24 #[.int .i64 n, ev], .arg 4 ev E.length (cG E)] ∧ (0 ≤ r) ∧ (r ≤ n)) (fun r => (n - r).toNat) (0) ⟨(.slice none 0 0), ((((F.nil.cons (F.get (k := 5) rfl)).cons (F.get (k := 4) rfl)).cons (F.get (k := 3) rfl)).cons (F.get (k := 1) rfl)), (by have z := M.nilRow 3 1; exact z.sub (.cons_cons _ (.cons_cons _ (.cons_cons _ (.cons_cons _ (.slnil)))))), Int.le_refl _, by omega⟩ ?_
  clear F M
  rintro r φ ω ⟨vq, F, M, hp1_0, hp1_1⟩
  refine wp_seq ?_
  refine wp_seq ?_
  -- region 4
  refine wp_region_lit ?_
  refine sq_pure F (wt0 rfl) (pu_move rfl (F.ev rfl)) rfl rfl ?_; clear F; intro φ F
  refine sq_pure F (wt0 rfl) (pu_field rfl (F.ev rfl) fo24_0) rfl rfl ?_; clear F; intro φ F
  refine sq_rd F (wt0 rfl) (ld_cell rfl (F.ev rfl) one3 (M.rd (i := 2) rfl) rfl) rfl rfl ?_; clear F; intro φ F
  refine sq_pure F (wt0 rfl) (pu_lss rfl (F.ev rfl) (F.ev rfl)) rfl rfl ?_; clear F; intro φ F
  refine nx ?_
  cases hs2 : (decide (r < n))
  · rw [hs2] at F
    have hs2i := of_decide_eq_false hs2
    refine wp_cond_false (F.ev rfl) ?_
    refine wp_exit ?_
    refine nxe ?_
    refine nxe ?_
    refine nxm ?_
    refine nxq ?_
    refine wp_seq ?_
    -- region 19
    refine wp_region_lit ?_
    refine sq_pure F (wt0 rfl) (pu_move rfl (F.ev rfl)) rfl rfl ?_; clear F; intro φ F
    refine sq_pure F (wt0 rfl) (pu_assign rfl (F.ev rfl)) rfl rfl ?_; clear F; intro φ F
    refine nx ?_
    refine wp_ret ?_
    refine rt_tmp F rfl rfl ?_
    have zz := M.owB (i := 0) rfl
    rw [show r.toNat = n.toNat by omega] at zz
    exact ⟨_, rfl, M.bel, zz⟩
  · rw [hs2] at F
    have hs2i := of_decide_eq_true hs2
    refine wp_cond_true (F.ev rfl) ?_
    refine wp_skip ?_
    refine nxq ?_
    refine wp_seq ?_
    refine wp_block ?_
    refine wp_seq ?_
    have hTl := rounds_len E n.toNat r.toNat
    have hOl := rounds_out E n.toNat r.toNat
    -- region 6
    refine wp_region_lit ?_
    refine sq_pure F (wt0 rfl) (pu_assign rfl (evk)) rfl rfl ?_; clear F; intro φ F
    refine nx ?_
    refine wp_cut (fun φ' w' => ∃ vq : Value, Fr φ' 69 [(1, .pointer (some ⟨g1, 0, none⟩)), (3, (.slice (some ⟨g2, 0, none⟩) n.toNat n.toNat)), (5, .int .i64 r), (4, vq)] ∧ Mm [] w w' [.row 3 1 vq (((roundsO E n.toNat (r + 1).toNat).2).length) (cI ((roundsO E n.toNat (r + 1).toNat).2)), .blk g2 4 (List.toArray (cB ((roundsO E n.toNat (r + 1).toNat).1))), .blk g1 24 #[.int .i64 n, ev], .arg 4 ev E.length (cG E)]) ?_ ?_
    · skip
      refine wp_block ?_
      refine lp (σ := Int) (fun k φ' w' => Fr φ' 69 [(1, .pointer (some ⟨g1, 0, none⟩)), (3, (.slice (some ⟨g2, 0, none⟩) n.toNat n.toNat)), (4, vq), (5, .int .i64 r), (6, .int .i64 k)] ∧ Mm [] w w' [.row 3 1 vq (((roundsO E n.toNat r.toNat).2).length) (cI ((roundsO E n.toNat r.toNat).2)), .blk g2 4 (List.toArray (cB ((roundsO E n.toNat r.toNat).1))), .blk g1 24 #[.int .i64 n, ev], .arg 4 ev E.length (cG E)] ∧ (0 ≤ k) ∧ (k ≤ n) ∧ (∀ q, q < k.toNat → freeB E (roundsO E n.toNat r.toNat).1 q = false)) (fun k => (n - k).toNat) (0) ⟨(((((F.nil.cons (F.get (k := 6) rfl)).cons (F.get (k := 5) rfl)).cons (F.get (k := 4) rfl)).cons (F.get (k := 3) rfl)).cons (F.get (k := 1) rfl)), M, Int.le_refl _, by omega, all_none⟩ ?_
      clear F M
      rintro k φ ω ⟨F, M, hp3_0, hp3_1, hp3_2⟩
      refine wp_seq ?_
      refine wp_seq ?_
      -- region 7
      refine wp_region_lit ?_
      refine sq_pure F (wt0 rfl) (pu_move rfl (F.ev rfl)) rfl rfl ?_; clear F; intro φ F
      refine sq_pure F (wt0 rfl) (pu_field rfl (F.ev rfl) fo24_0) rfl rfl ?_; clear F; intro φ F
      refine sq_rd F (wt0 rfl) (ld_cell rfl (F.ev rfl) one3 (M.rd (i := 2) rfl) rfl) rfl rfl ?_; clear F; intro φ F
      refine sq_pure F (wt0 rfl) (pu_lss rfl (F.ev rfl) (F.ev rfl)) rfl rfl ?_; clear F; intro φ F
      refine nx ?_
      cases hs4 : (decide (k < n))
      · rw [hs4] at F
        have hs4i := of_decide_eq_false hs4
        refine wp_cond_false (F.ev rfl) ?_
        refine wp_exit ?_
        refine nxe ?_
        refine nxe ?_
        refine nxm ?_
        exact ⟨vq, ((((F.nil.cons (F.get (k := 4) rfl)).cons (F.get (k := 5) rfl)).cons (F.get (k := 3) rfl)).cons (F.get (k := 1) rfl)), (by rw [round_none hp1_0 hp3_2 (by omega)]; exact M)⟩
      · rw [hs4] at F
        have hs4i := of_decide_eq_true hs4
        refine wp_cond_true (F.ev rfl) ?_
        refine wp_skip ?_
        refine nxq ?_
        refine wp_seq ?_
        refine wp_block ?_
        refine wp_seq ?_
        -- region 9
        refine wp_region_lit ?_
        refine sq_pure F (wt0 rfl) (pu_move rfl (F.ev rfl)) rfl rfl ?_; clear F; intro φ F
        refine sq_pure F (wt0 rfl) (pu_move rfl (F.ev rfl)) rfl rfl ?_; clear F; intro φ F
        refine sq_pure F (wt0 rfl) (pu_ix rfl (F.ev rfl) (F.ev rfl) sl57 (blk_rdv (m := 1) (M.at (i := 1) rfl) (by first | rfl | (show (List.toArray (cB _)).size = _; rw [List.size_toArray, cB_len, rounds_len, Nat.mul_one]) | (simp only [List.size_toArray, cB_len, cV, List.length_set, List.length_replicate, Nat.mul_one]; first | done | rfl | assumption | omega)) (by omega)) (by omega) (by omega)) rfl rfl ?_; clear F; intro φ F
        refine sq_rd F (wt0 rfl) (ld_el1 rfl (F.ev rfl) one4 (fun _ e => e ▸ (blk_rdv (m := 1) (M.at (i := 1) rfl) (by first | rfl | (show (List.toArray (cB _)).size = _; rw [List.size_toArray, cB_len, rounds_len, Nat.mul_one]) | (simp only [List.size_toArray, cB_len, cV, List.length_set, List.length_replicate, Nat.mul_one]; first | done | rfl | assumption | omega)) (by omega))) (by omega) (cB_at (by first | omega | (simp; done) | (simp; omega)))) rfl rfl ?_; clear F; intro φ F
        cases hs5 : (atB ((roundsO E n.toNat r.toNat).1) k.toNat)
        · rw [hs5] at F
          refine sq_pure F (wt0 rfl) (pu_not rfl (F.ev rfl)) rfl rfl ?_; clear F; intro φ F
          rw [show (!false) = true from rfl] at F
          refine sq_pure F (wt0 rfl) (pu_assign rfl (F.ev rfl)) rfl rfl ?_; clear F; intro φ F
          refine nx ?_
          refine wp_seq ?_
          refine wp_seq ?_
          -- region 10
          refine wp_region_lit ?_
          refine sq_pure F (wt0 rfl) (pu_assign rfl (evk)) rfl rfl ?_; clear F; intro φ F
          refine nx ?_
          refine wp_cut (fun φ' w' => ∃ bq : Bool, ∃ i : Int, Fr φ' 69 [(1, .pointer (some ⟨g1, 0, none⟩)), (3, (.slice (some ⟨g2, 0, none⟩) n.toNat n.toNat)), (4, vq), (5, .int .i64 r), (6, .int .i64 k), (7, .bool bq)] ∧ Mm [] w w' [.row 3 1 vq (((roundsO E n.toNat r.toNat).2).length) (cI ((roundsO E n.toNat r.toNat).2)), .blk g2 4 (List.toArray (cB ((roundsO E n.toNat r.toNat).1))), .blk g1 24 #[.int .i64 n, ev], .arg 4 ev E.length (cG E)] ∧ (0 ≤ i) ∧ (i ≤ (E.length : Int)) ∧ (FreeI E (roundsO E n.toNat r.toNat).1 k.toNat i.toNat bq) ∧ (¬ i < (E.length : Int))) ?_ ?_
          · skip
            refine wp_block ?_
            refine lp (σ := Int) (fun i φ' w' => ∃ bq : Bool, Fr φ' 69 [(1, .pointer (some ⟨g1, 0, none⟩)), (3, (.slice (some ⟨g2, 0, none⟩) n.toNat n.toNat)), (4, vq), (5, .int .i64 r), (6, .int .i64 k), (7, .bool bq), (8, .int .i64 i)] ∧ Mm [] w w' [.row 3 1 vq (((roundsO E n.toNat r.toNat).2).length) (cI ((roundsO E n.toNat r.toNat).2)), .blk g2 4 (List.toArray (cB ((roundsO E n.toNat r.toNat).1))), .blk g1 24 #[.int .i64 n, ev], .arg 4 ev E.length (cG E)] ∧ (0 ≤ i) ∧ (i ≤ (E.length : Int)) ∧ (FreeI E (roundsO E n.toNat r.toNat).1 k.toNat i.toNat bq)) (fun i => ((E.length : Int) - i).toNat) (0) ⟨true, (((((((F.nil.cons (F.get (k := 8) rfl)).cons (F.get (k := 7) rfl)).cons (F.get (k := 6) rfl)).cons (F.get (k := 5) rfl)).cons (F.get (k := 4) rfl)).cons (F.get (k := 3) rfl)).cons (F.get (k := 1) rfl)), M, Int.le_refl _, by omega, (free_start hs5)⟩ ?_
            clear F M
            rintro i φ ω ⟨bq, F, M, hp6_0, hp6_1, hp6_2⟩
            refine wp_seq ?_
            refine wp_seq ?_
            -- region 11
            refine wp_region_lit ?_
            refine sq_pure F (wt0 rfl) (pu_move rfl (F.ev rfl)) rfl rfl ?_; clear F; intro φ F
            refine sq_pure F (wt0 rfl) (pu_field rfl (F.ev rfl) fo24_1) rfl rfl ?_; clear F; intro φ F
            refine sq_rd F (wt0 rfl) (ld_cell rfl (F.ev rfl) one22 (M.rd (i := 2) rfl) rfl) rfl rfl ?_; clear F; intro φ F
            refine sq_pure F (wt0 rfl) (pu_len rfl (F.ev rfl) sl22 (M.av (i := 3) rfl)) rfl rfl ?_; clear F; intro φ F
            refine sq_pure F (wt0 rfl) (pu_lss rfl (F.ev rfl) (F.ev rfl)) rfl rfl ?_; clear F; intro φ F
            refine nx ?_
            cases hs7 : (decide (i < ((E.length : Nat) : Int)))
            · rw [hs7] at F
              have hs7i := of_decide_eq_false hs7
              refine wp_cond_false (F.ev rfl) ?_
              refine wp_exit ?_
              refine nxe ?_
              refine nxe ?_
              refine nxm ?_
              exact ⟨bq, i, ((((((F.nil.cons (F.get (k := 7) rfl)).cons (F.get (k := 6) rfl)).cons (F.get (k := 5) rfl)).cons (F.get (k := 4) rfl)).cons (F.get (k := 3) rfl)).cons (F.get (k := 1) rfl)), M, hp6_0, hp6_1, hp6_2, hs7i⟩
            · rw [hs7] at F
              have hs7i := of_decide_eq_true hs7
              refine wp_cond_true (F.ev rfl) ?_
              refine wp_skip ?_
              refine nxq ?_
              refine wp_seq ?_
              refine wp_block ?_
              refine wp_seq ?_
              have hx := fits_iff.1 (hfit _ (atG_mem (L := E) (i := i.toNat) (by omega)))
              have hTl := rounds_len E n.toNat r.toNat
              -- region 13
              refine wp_region_lit ?_
              refine sq_pure F (wt0 rfl) (pu_field rfl (F.ev rfl) fo24_1) rfl rfl ?_; clear F; intro φ F
              refine sq_rd F (wt0 rfl) (ld_cell rfl (F.ev rfl) one22 (M.rd (i := 2) rfl) rfl) rfl rfl ?_; clear F; intro φ F
              refine sq_pure F (wt0 rfl) (pu_move rfl (F.ev rfl)) rfl rfl ?_; clear F; intro φ F
              refine sq_pure F (wt0 rfl) (pu_ix rfl (F.ev rfl) (F.ev rfl) sl22 (M.av (i := 3) rfl) (by omega) (by omega)) rfl rfl ?_; clear F; intro φ F
              refine sq_rd F (wt0 rfl) (ld_el rfl (F.ev rfl) agg40 (fun _ e => e ▸ (M.av (i := 3) rfl)) (by omega) (cG_at (by first | omega | (simp; done) | (simp; omega))) rfl) rfl rfl ?_; clear F; intro φ F
              refine sq_alloc F M (wt0 rfl) rfl z40 rfl rfl ?_; clear F M; intro φ ω g3 F M
              refine sq_stA F M (wt0 rfl) rfl (F.ev rfl) (F.ev rfl) (i := 0) rfl agg40 rfl rfl rfl rfl ?_; clear M; intro ω M
              refine nx ?_
              refine wp_seq ?_
              -- region 14
              refine wp_region_lit ?_
              refine sq_pure F (wt0 rfl) (pu_field rfl (F.ev rfl) fo40_1) rfl rfl ?_; clear F; intro φ F
              refine sq_rd F (wt0 rfl) (ld_cell rfl (F.ev rfl) one3 (M.rd (i := 0) rfl) rfl) rfl rfl ?_; clear F; intro φ F
              refine sq_pure F (wt0 rfl) (pu_move rfl (F.ev rfl)) rfl rfl ?_; clear F; intro φ F
              refine sq_pure F (wt0 rfl) (pu_eqlI rfl (F.ev rfl) (F.ev rfl)) rfl rfl ?_; clear F; intro φ F
              refine sq_pure F (wt0 rfl) (pu_move rfl (F.ev rfl)) rfl rfl ?_; clear F; intro φ F
              cases hs8 : (decide ((atG E i.toNat).t = k))
              · rw [hs8] at F
                have hs8i := of_decide_eq_false hs8
                refine sq_skip F (wtn F rfl rfl rfl rfl rfl) rfl rfl ?_; clear F; intro φ F
                refine sq_skip F (wtn F rfl rfl rfl rfl rfl) rfl rfl ?_; clear F; intro φ F
                refine sq_skip F (wtn F rfl rfl rfl rfl rfl) rfl rfl ?_; clear F; intro φ F
                refine sq_skip F (wtn F rfl rfl rfl rfl rfl) rfl rfl ?_; clear F; intro φ F
                refine sq_pure F (wt0 rfl) (pu_pickf rfl (F.ev rfl) (evk)) rfl rfl ?_; clear F; intro φ F
                refine sq_pure F (wt0 rfl) (pu_move rfl (F.ev rfl)) rfl rfl ?_; clear F; intro φ F
                refine sq_skip F (wtn F rfl rfl rfl rfl rfl) rfl rfl ?_; clear F; intro φ F
                refine sq_skip F (wtn F rfl rfl rfl rfl rfl) rfl rfl ?_; clear F; intro φ F
                refine sq_skip F (wtn F rfl rfl rfl rfl rfl) rfl rfl ?_; clear F; intro φ F
                refine sq_skip F (wtn F rfl rfl rfl rfl rfl) rfl rfl ?_; clear F; intro φ F
                refine sq_skip F (wtn F rfl rfl rfl rfl rfl) rfl rfl ?_; clear F; intro φ F
                refine sq_skip F (wtn F rfl rfl rfl rfl rfl) rfl rfl ?_; clear F; intro φ F
                refine sq_pure F (wt0 rfl) (pu_pickf rfl (F.ev rfl) (evk)) rfl rfl ?_; clear F; intro φ F
                refine nx ?_
                refine wp_cond_false (F.ev rfl) ?_
                refine wp_skip ?_
                refine nxb ?_
                refine nxq ?_
                -- region 12
                refine wp_region_lit ?_
                refine sq_pure F (wt0 rfl) (pu_move rfl (F.ev rfl)) rfl rfl ?_; clear F; intro φ F
                refine sq_pure F (wt0 rfl) (pu_add rfl (F.ev rfl) (evk) (by omega) (by omega)) rfl rfl ?_; clear F; intro φ F
                refine sq_pure F (wt0 rfl) (pu_assign rfl (F.ev rfl)) rfl rfl ?_; clear F; intro φ F
                refine wpList_nil ?_
                exact ⟨i + 1, by omega, bq, (((((((F.nil.cons (F.get (k := 8) rfl)).cons (F.get (k := 7) rfl)).cons (F.get (k := 6) rfl)).cons (F.get (k := 5) rfl)).cons (F.get (k := 4) rfl)).cons (F.get (k := 3) rfl)).cons (F.get (k := 1) rfl)), (M.sub (.cons _ (List.Sublist.refl _))), by omega, by omega, free_keep hp6_0 hp6_2 (ok_t hp3_0 (.inl hs8i))⟩
              · rw [hs8] at F
                have hs8i := of_decide_eq_true hs8
                refine sq_pure F (wt1 F rfl rfl rfl rfl rfl) (pu_field rfl (F.ev rfl) fo40_2) rfl rfl ?_; clear F; intro φ F
                refine sq_rd F (wt1 F rfl rfl rfl rfl rfl) (ld_sub rfl (F.ev rfl) agg38 (M.rd (i := 0) rfl) rfl rfl) rfl rfl ?_; clear F; intro φ F
                refine sq_pure F (wt1 F rfl rfl rfl rfl rfl) (bu38_ rfl) rfl rfl ?_; clear F; intro φ F
                refine sq_pure F (wt1 F rfl rfl rfl rfl rfl) (pu_eqlA rfl (F.ev rfl) (F.ev rfl) eqg38 (fun w => eqS38 (atG E i.toNat).p (St.mk 0 0) w)) rfl rfl ?_; clear F; intro φ F
                refine sq_pure F (wt0 rfl) (pu_pickt rfl (F.ev rfl) (F.ev rfl)) rfl rfl ?_; clear F; intro φ F
                refine sq_pure F (wt0 rfl) (pu_move rfl (F.ev rfl)) rfl rfl ?_; clear F; intro φ F
                cases hs9 : (decide ((atG E i.toNat).p = (St.mk 0 0)))
                · rw [hs9] at F
                  have hs9i := of_decide_eq_false hs9
                  refine sq_skip F (wtn F rfl rfl rfl rfl rfl) rfl rfl ?_; clear F; intro φ F
                  refine sq_skip F (wtn F rfl rfl rfl rfl rfl) rfl rfl ?_; clear F; intro φ F
                  refine sq_skip F (wtn F rfl rfl rfl rfl rfl) rfl rfl ?_; clear F; intro φ F
                  refine sq_skip F (wtn F rfl rfl rfl rfl rfl) rfl rfl ?_; clear F; intro φ F
                  refine sq_skip F (wtn F rfl rfl rfl rfl rfl) rfl rfl ?_; clear F; intro φ F
                  refine sq_skip F (wtn F rfl rfl rfl rfl rfl) rfl rfl ?_; clear F; intro φ F
                  refine sq_pure F (wt0 rfl) (pu_pickf rfl (F.ev rfl) (evk)) rfl rfl ?_; clear F; intro φ F
                  refine nx ?_
                  refine wp_cond_false (F.ev rfl) ?_
                  refine wp_skip ?_
                  refine nxb ?_
                  refine nxq ?_
                  -- region 12
                  refine wp_region_lit ?_
                  refine sq_pure F (wt0 rfl) (pu_move rfl (F.ev rfl)) rfl rfl ?_; clear F; intro φ F
                  refine sq_pure F (wt0 rfl) (pu_add rfl (F.ev rfl) (evk) (by omega) (by omega)) rfl rfl ?_; clear F; intro φ F
                  refine sq_pure F (wt0 rfl) (pu_assign rfl (F.ev rfl)) rfl rfl ?_; clear F; intro φ F
                  refine wpList_nil ?_
                  exact ⟨i + 1, by omega, bq, (((((((F.nil.cons (F.get (k := 8) rfl)).cons (F.get (k := 7) rfl)).cons (F.get (k := 6) rfl)).cons (F.get (k := 5) rfl)).cons (F.get (k := 4) rfl)).cons (F.get (k := 3) rfl)).cons (F.get (k := 1) rfl)), (M.sub (.cons _ (List.Sublist.refl _))), by omega, by omega, free_keep hp6_0 hp6_2 (ok_t hp3_0 (.inr (.inl hs9i)))⟩
                · rw [hs9] at F
                  have hs9i := of_decide_eq_true hs9
                  refine sq_pure F (wt1 F rfl rfl rfl rfl rfl) (pu_move rfl (F.ev rfl)) rfl rfl ?_; clear F; intro φ F
                  refine sq_pure F (wt1 F rfl rfl rfl rfl rfl) (pu_field rfl (F.ev rfl) fo40_0) rfl rfl ?_; clear F; intro φ F
                  refine sq_rd F (wt1 F rfl rfl rfl rfl rfl) (ld_cell rfl (F.ev rfl) one3 (M.rd (i := 0) rfl) rfl) rfl rfl ?_; clear F; intro φ F
                  refine sq_pure F (wt1 F rfl rfl rfl rfl rfl) (pu_ix rfl (F.ev rfl) (F.ev rfl) sl57 (blk_rdv (m := 1) (M.at (i := 2) rfl) (by first | rfl | (show (List.toArray (cB _)).size = _; rw [List.size_toArray, cB_len, rounds_len, Nat.mul_one]) | (simp only [List.size_toArray, cB_len, cV, List.length_set, List.length_replicate, Nat.mul_one]; first | done | rfl | assumption | omega)) (by omega)) (by omega) (by omega)) rfl rfl ?_; clear F; intro φ F
                  refine sq_rd F (wt1 F rfl rfl rfl rfl rfl) (ld_el1 rfl (F.ev rfl) one4 (fun _ e => e ▸ (blk_rdv (m := 1) (M.at (i := 2) rfl) (by first | rfl | (show (List.toArray (cB _)).size = _; rw [List.size_toArray, cB_len, rounds_len, Nat.mul_one]) | (simp only [List.size_toArray, cB_len, cV, List.length_set, List.length_replicate, Nat.mul_one]; first | done | rfl | assumption | omega)) (by omega))) (by omega) (cB_at (by first | omega | (simp; done) | (simp; omega)))) rfl rfl ?_; clear F; intro φ F
                  cases hs10 : (atB ((roundsO E n.toNat r.toNat).1) (((atG E i.toNat).f).toNat))
                  · rw [hs10] at F
                    refine sq_pure F (wt1 F rfl rfl rfl rfl rfl) (pu_not rfl (F.ev rfl)) rfl rfl ?_; clear F; intro φ F
                    rw [show (!false) = true from rfl] at F
                    refine sq_pure F (wt0 rfl) (pu_pickt rfl (F.ev rfl) (F.ev rfl)) rfl rfl ?_; clear F; intro φ F
                    refine nx ?_
                    refine wp_cond_true (F.ev rfl) ?_
                    -- region 15
                    refine wp_region_lit ?_
                    refine sq_pure F (wt0 rfl) (pu_assign rfl (evk)) rfl rfl ?_; clear F; intro φ F
                    refine wpList_nil ?_
                    refine nxb ?_
                    refine nxq ?_
                    -- region 12
                    refine wp_region_lit ?_
                    refine sq_pure F (wt0 rfl) (pu_move rfl (F.ev rfl)) rfl rfl ?_; clear F; intro φ F
                    refine sq_pure F (wt0 rfl) (pu_add rfl (F.ev rfl) (evk) (by omega) (by omega)) rfl rfl ?_; clear F; intro φ F
                    refine sq_pure F (wt0 rfl) (pu_assign rfl (F.ev rfl)) rfl rfl ?_; clear F; intro φ F
                    refine wpList_nil ?_
                    exact ⟨i + 1, by omega, false, (((((((F.nil.cons (F.get (k := 8) rfl)).cons (F.get (k := 7) rfl)).cons (F.get (k := 6) rfl)).cons (F.get (k := 5) rfl)).cons (F.get (k := 4) rfl)).cons (F.get (k := 3) rfl)).cons (F.get (k := 1) rfl)), (M.sub (.cons _ (List.Sublist.refl _))), by omega, by omega, free_drop hp6_0 (ok_f hp3_0 hs8i hs9i hs10)⟩
                  · rw [hs10] at F
                    refine sq_pure F (wt1 F rfl rfl rfl rfl rfl) (pu_not rfl (F.ev rfl)) rfl rfl ?_; clear F; intro φ F
                    rw [show (!true) = false from rfl] at F
                    refine sq_pure F (wt0 rfl) (pu_pickt rfl (F.ev rfl) (F.ev rfl)) rfl rfl ?_; clear F; intro φ F
                    refine nx ?_
                    refine wp_cond_false (F.ev rfl) ?_
                    refine wp_skip ?_
                    refine nxb ?_
                    refine nxq ?_
                    -- region 12
                    refine wp_region_lit ?_
                    refine sq_pure F (wt0 rfl) (pu_move rfl (F.ev rfl)) rfl rfl ?_; clear F; intro φ F
                    refine sq_pure F (wt0 rfl) (pu_add rfl (F.ev rfl) (evk) (by omega) (by omega)) rfl rfl ?_; clear F; intro φ F
                    refine sq_pure F (wt0 rfl) (pu_assign rfl (F.ev rfl)) rfl rfl ?_; clear F; intro φ F
                    refine wpList_nil ?_
                    exact ⟨i + 1, by omega, bq, (((((((F.nil.cons (F.get (k := 8) rfl)).cons (F.get (k := 7) rfl)).cons (F.get (k := 6) rfl)).cons (F.get (k := 5) rfl)).cons (F.get (k := 4) rfl)).cons (F.get (k := 3) rfl)).cons (F.get (k := 1) rfl)), (M.sub (.cons _ (List.Sublist.refl _))), by omega, by omega, free_keep hp6_0 hp6_2 (ok_t hp3_0 (.inr (.inr hs10)))⟩
          · skip
            clear F M
            rintro φ ω ⟨bq, i, F, M, hp11_0, hp11_1, hp11_2, hp11_3⟩
            refine nxq ?_
            refine wp_seq ?_
            -- region 16
            refine wp_region_lit ?_
            refine sq_pure F (wt0 rfl) (pu_move rfl (F.ev rfl)) rfl rfl ?_; clear F; intro φ F
            refine nx ?_
            cases hs12 : bq
            · rw [hs12] at F
              refine wp_cond_false (F.ev rfl) ?_
              refine wp_skip ?_
              refine nxb ?_
              refine nxq ?_
              -- region 8
              refine wp_region_lit ?_
              refine sq_pure F (wt0 rfl) (pu_move rfl (F.ev rfl)) rfl rfl ?_; clear F; intro φ F
              refine sq_pure F (wt0 rfl) (pu_add rfl (F.ev rfl) (evk) (by omega) (by omega)) rfl rfl ?_; clear F; intro φ F
              refine sq_pure F (wt0 rfl) (pu_assign rfl (F.ev rfl)) rfl rfl ?_; clear F; intro φ F
              refine wpList_nil ?_
              exact ⟨k + 1, by omega, (((((F.nil.cons (F.get (k := 6) rfl)).cons (F.get (k := 5) rfl)).cons (F.get (k := 4) rfl)).cons (F.get (k := 3) rfl)).cons (F.get (k := 1) rfl)), M, by omega, by omega, all_succ hp3_2 hp3_0 ((free_end hp11_2 hp11_1 hp11_3).trans hs12)⟩
            · rw [hs12] at F
              refine wp_cond_true (F.ev rfl) ?_
              refine wp_seq ?_
              -- region 17
              refine wp_region_lit ?_
              refine sq_pure F (wt0 rfl) (pu_move rfl (F.ev rfl)) rfl rfl ?_; clear F; intro φ F
              refine sq_pure F (wt0 rfl) (pu_move rfl (F.ev rfl)) rfl rfl ?_; clear F; intro φ F
              refine sq_pure F (wt0 rfl) (pu_ix rfl (F.ev rfl) (F.ev rfl) sl57 (blk_rdv (m := 1) (M.at (i := 1) rfl) (by first | rfl | (show (List.toArray (cB _)).size = _; rw [List.size_toArray, cB_len, rounds_len, Nat.mul_one]) | (simp only [List.size_toArray, cB_len, cV, List.length_set, List.length_replicate, Nat.mul_one]; first | done | rfl | assumption | omega)) (by omega)) (by omega) (by omega)) rfl rfl ?_; clear F; intro φ F
              refine sq_st1 (j := k.toNat) F M (wt0 rfl) rfl (F.ev rfl) (evk) (i := 1) rfl (by first | omega | (simp only [cB_len, cV, List.length_set, List.length_replicate]; omega)) si4 rfl rfl rfl ?_; clear M; intro ω M
              rw [cB_set (by first | omega | (simp only [cB_len, cV, List.length_set, List.length_replicate]; omega))] at M
              replace M : Mm [] w ω [.row 3 1 vq (((roundsO E n.toNat r.toNat).2).length) (cI ((roundsO E n.toNat r.toNat).2)), .blk g2 4 (List.toArray (cB (((roundsO E n.toNat r.toNat).1).set k.toNat true))), .blk g1 24 #[.int .i64 n, ev], .arg 4 ev E.length (cG E)] := M
              refine nx ?_
              refine wp_seq ?_
              -- region 18
              refine wp_region_lit ?_
              refine sq_pure F (wt0 rfl) (pu_move rfl (F.ev rfl)) rfl rfl ?_; clear F; intro φ F
              refine sq_pure F (wt0 rfl) (pu_move rfl (F.ev rfl)) rfl rfl ?_; clear F; intro φ F
              refine sq_bs (e := 3) (m := 1) (k := 1) (parts := #[]) (cs := #[.int .i64 k]) F M (wt0 rfl) (bs29_1 rfl (F.ev rfl) _) (by omega) rfl rfl rfl ?_; clear F M; intro φ ω g4 F M
              replace M : Mm [] w ω [.row 3 1 (.slice (some ⟨g4, 0, none⟩) 1 1) 1 (cI [k]), .row 3 1 vq (((roundsO E n.toNat r.toNat).2).length) (cI ((roundsO E n.toNat r.toNat).2)), .blk g2 4 (List.toArray (cB (((roundsO E n.toNat r.toNat).1).set k.toNat true))), .blk g1 24 #[.int .i64 n, ev], .arg 4 ev E.length (cG E)] := M
              refine sq_app F M (wt0 rfl) rfl sl29.1 el3 (F.ev rfl) (i := 1) rfl (F.ev rfl) (M.rv (i := 0) rfl) (cI_ones _) (by first | omega | (simp only [List.length_append, List.length_cons, List.length_nil, List.length_singleton]; omega)) (by omega) rfl rfl ?_; clear F M; intro φ ω v1 F M
              replace M : Mm [] w ω [.row 3 1 (.slice (some ⟨g4, 0, none⟩) 1 1) 1 (cI [k]), .row 3 1 v1 ((((roundsO E n.toNat r.toNat).2).length) + 1) ((cI ((roundsO E n.toNat r.toNat).2)) ++ (cI [k])), .blk g2 4 (List.toArray (cB (((roundsO E n.toNat r.toNat).1).set k.toNat true))), .blk g1 24 #[.int .i64 n, ev], .arg 4 ev E.length (cG E)] := M
              rw [← cI_app, show (((roundsO E n.toNat r.toNat).2).length) + 1 = (((roundsO E n.toNat r.toNat).2) ++ [k]).length from by first | rfl | (simp; done) | (simp; omega)] at M
              refine sq_pure F (wt0 rfl) (pu_assign rfl (F.ev rfl)) rfl rfl ?_; clear F; intro φ F
              refine nx ?_
              refine wp_exit ?_
              refine nxo rfl ?_
              refine nxe ?_
              refine nxe ?_
              refine nxm ?_
              exact ⟨v1, ((((F.nil.cons (F.get (k := 4) rfl)).cons (F.get (k := 5) rfl)).cons (F.get (k := 3) rfl)).cons (F.get (k := 1) rfl)), (by rw [round_some hp1_0 hp3_0 (by omega) ((free_end hp11_2 hp11_1 hp11_3).trans hs12) hp3_2]; exact (M.sub (.cons _ (List.Sublist.refl _))))⟩
        · rw [hs5] at F
          refine sq_pure F (wt0 rfl) (pu_not rfl (F.ev rfl)) rfl rfl ?_; clear F; intro φ F
          rw [show (!true) = false from rfl] at F
          refine sq_pure F (wt0 rfl) (pu_assign rfl (F.ev rfl)) rfl rfl ?_; clear F; intro φ F
          refine nx ?_
          refine wp_seq ?_
          refine wp_seq ?_
          -- region 10
          refine wp_region_lit ?_
          refine sq_pure F (wt0 rfl) (pu_assign rfl (evk)) rfl rfl ?_; clear F; intro φ F
          refine nx ?_
          refine wp_cut (fun φ' w' => ∃ bq : Bool, ∃ i : Int, Fr φ' 69 [(1, .pointer (some ⟨g1, 0, none⟩)), (3, (.slice (some ⟨g2, 0, none⟩) n.toNat n.toNat)), (4, vq), (5, .int .i64 r), (6, .int .i64 k), (7, .bool bq)] ∧ Mm [] w w' [.row 3 1 vq (((roundsO E n.toNat r.toNat).2).length) (cI ((roundsO E n.toNat r.toNat).2)), .blk g2 4 (List.toArray (cB ((roundsO E n.toNat r.toNat).1))), .blk g1 24 #[.int .i64 n, ev], .arg 4 ev E.length (cG E)] ∧ (0 ≤ i) ∧ (i ≤ (E.length : Int)) ∧ (FreeI E (roundsO E n.toNat r.toNat).1 k.toNat i.toNat bq) ∧ (¬ i < (E.length : Int))) ?_ ?_
          · skip
            refine wp_block ?_
            refine lp (σ := Int) (fun i φ' w' => ∃ bq : Bool, Fr φ' 69 [(1, .pointer (some ⟨g1, 0, none⟩)), (3, (.slice (some ⟨g2, 0, none⟩) n.toNat n.toNat)), (4, vq), (5, .int .i64 r), (6, .int .i64 k), (7, .bool bq), (8, .int .i64 i)] ∧ Mm [] w w' [.row 3 1 vq (((roundsO E n.toNat r.toNat).2).length) (cI ((roundsO E n.toNat r.toNat).2)), .blk g2 4 (List.toArray (cB ((roundsO E n.toNat r.toNat).1))), .blk g1 24 #[.int .i64 n, ev], .arg 4 ev E.length (cG E)] ∧ (0 ≤ i) ∧ (i ≤ (E.length : Int)) ∧ (FreeI E (roundsO E n.toNat r.toNat).1 k.toNat i.toNat bq)) (fun i => ((E.length : Int) - i).toNat) (0) ⟨false, (((((((F.nil.cons (F.get (k := 8) rfl)).cons (F.get (k := 7) rfl)).cons (F.get (k := 6) rfl)).cons (F.get (k := 5) rfl)).cons (F.get (k := 4) rfl)).cons (F.get (k := 3) rfl)).cons (F.get (k := 1) rfl)), M, Int.le_refl _, by omega, (free_start hs5)⟩ ?_
            clear F M
            rintro i φ ω ⟨bq, F, M, hp13_0, hp13_1, hp13_2⟩
            refine wp_seq ?_
            refine wp_seq ?_
            -- region 11
            refine wp_region_lit ?_
            refine sq_pure F (wt0 rfl) (pu_move rfl (F.ev rfl)) rfl rfl ?_; clear F; intro φ F
            refine sq_pure F (wt0 rfl) (pu_field rfl (F.ev rfl) fo24_1) rfl rfl ?_; clear F; intro φ F
            refine sq_rd F (wt0 rfl) (ld_cell rfl (F.ev rfl) one22 (M.rd (i := 2) rfl) rfl) rfl rfl ?_; clear F; intro φ F
            refine sq_pure F (wt0 rfl) (pu_len rfl (F.ev rfl) sl22 (M.av (i := 3) rfl)) rfl rfl ?_; clear F; intro φ F
            refine sq_pure F (wt0 rfl) (pu_lss rfl (F.ev rfl) (F.ev rfl)) rfl rfl ?_; clear F; intro φ F
            refine nx ?_
            cases hs14 : (decide (i < ((E.length : Nat) : Int)))
            · rw [hs14] at F
              have hs14i := of_decide_eq_false hs14
              refine wp_cond_false (F.ev rfl) ?_
              refine wp_exit ?_
              refine nxe ?_
              refine nxe ?_
              refine nxm ?_
              exact ⟨bq, i, ((((((F.nil.cons (F.get (k := 7) rfl)).cons (F.get (k := 6) rfl)).cons (F.get (k := 5) rfl)).cons (F.get (k := 4) rfl)).cons (F.get (k := 3) rfl)).cons (F.get (k := 1) rfl)), M, hp13_0, hp13_1, hp13_2, hs14i⟩
            · rw [hs14] at F
              have hs14i := of_decide_eq_true hs14
              refine wp_cond_true (F.ev rfl) ?_
              refine wp_skip ?_
              refine nxq ?_
              refine wp_seq ?_
              refine wp_block ?_
              refine wp_seq ?_
              have hx := fits_iff.1 (hfit _ (atG_mem (L := E) (i := i.toNat) (by omega)))
              have hTl := rounds_len E n.toNat r.toNat
              -- region 13
              refine wp_region_lit ?_
              refine sq_pure F (wt0 rfl) (pu_field rfl (F.ev rfl) fo24_1) rfl rfl ?_; clear F; intro φ F
              refine sq_rd F (wt0 rfl) (ld_cell rfl (F.ev rfl) one22 (M.rd (i := 2) rfl) rfl) rfl rfl ?_; clear F; intro φ F
              refine sq_pure F (wt0 rfl) (pu_move rfl (F.ev rfl)) rfl rfl ?_; clear F; intro φ F
              refine sq_pure F (wt0 rfl) (pu_ix rfl (F.ev rfl) (F.ev rfl) sl22 (M.av (i := 3) rfl) (by omega) (by omega)) rfl rfl ?_; clear F; intro φ F
              refine sq_rd F (wt0 rfl) (ld_el rfl (F.ev rfl) agg40 (fun _ e => e ▸ (M.av (i := 3) rfl)) (by omega) (cG_at (by first | omega | (simp; done) | (simp; omega))) rfl) rfl rfl ?_; clear F; intro φ F
              refine sq_alloc F M (wt0 rfl) rfl z40 rfl rfl ?_; clear F M; intro φ ω g5 F M
              refine sq_stA F M (wt0 rfl) rfl (F.ev rfl) (F.ev rfl) (i := 0) rfl agg40 rfl rfl rfl rfl ?_; clear M; intro ω M
              refine nx ?_
              refine wp_seq ?_
              -- region 14
              refine wp_region_lit ?_
              refine sq_pure F (wt0 rfl) (pu_field rfl (F.ev rfl) fo40_1) rfl rfl ?_; clear F; intro φ F
              refine sq_rd F (wt0 rfl) (ld_cell rfl (F.ev rfl) one3 (M.rd (i := 0) rfl) rfl) rfl rfl ?_; clear F; intro φ F
              refine sq_pure F (wt0 rfl) (pu_move rfl (F.ev rfl)) rfl rfl ?_; clear F; intro φ F
              refine sq_pure F (wt0 rfl) (pu_eqlI rfl (F.ev rfl) (F.ev rfl)) rfl rfl ?_; clear F; intro φ F
              refine sq_pure F (wt0 rfl) (pu_move rfl (F.ev rfl)) rfl rfl ?_; clear F; intro φ F
              cases hs15 : (decide ((atG E i.toNat).t = k))
              · rw [hs15] at F
                have hs15i := of_decide_eq_false hs15
                refine sq_skip F (wtn F rfl rfl rfl rfl rfl) rfl rfl ?_; clear F; intro φ F
                refine sq_skip F (wtn F rfl rfl rfl rfl rfl) rfl rfl ?_; clear F; intro φ F
                refine sq_skip F (wtn F rfl rfl rfl rfl rfl) rfl rfl ?_; clear F; intro φ F
                refine sq_skip F (wtn F rfl rfl rfl rfl rfl) rfl rfl ?_; clear F; intro φ F
                refine sq_pure F (wt0 rfl) (pu_pickf rfl (F.ev rfl) (evk)) rfl rfl ?_; clear F; intro φ F
                refine sq_pure F (wt0 rfl) (pu_move rfl (F.ev rfl)) rfl rfl ?_; clear F; intro φ F
                refine sq_skip F (wtn F rfl rfl rfl rfl rfl) rfl rfl ?_; clear F; intro φ F
                refine sq_skip F (wtn F rfl rfl rfl rfl rfl) rfl rfl ?_; clear F; intro φ F
                refine sq_skip F (wtn F rfl rfl rfl rfl rfl) rfl rfl ?_; clear F; intro φ F
                refine sq_skip F (wtn F rfl rfl rfl rfl rfl) rfl rfl ?_; clear F; intro φ F
                refine sq_skip F (wtn F rfl rfl rfl rfl rfl) rfl rfl ?_; clear F; intro φ F
                refine sq_skip F (wtn F rfl rfl rfl rfl rfl) rfl rfl ?_; clear F; intro φ F
                refine sq_pure F (wt0 rfl) (pu_pickf rfl (F.ev rfl) (evk)) rfl rfl ?_; clear F; intro φ F
                refine nx ?_
                refine wp_cond_false (F.ev rfl) ?_
                refine wp_skip ?_
                refine nxb ?_
                refine nxq ?_
                -- region 12
                refine wp_region_lit ?_
                refine sq_pure F (wt0 rfl) (pu_move rfl (F.ev rfl)) rfl rfl ?_; clear F; intro φ F
                refine sq_pure F (wt0 rfl) (pu_add rfl (F.ev rfl) (evk) (by omega) (by omega)) rfl rfl ?_; clear F; intro φ F
                refine sq_pure F (wt0 rfl) (pu_assign rfl (F.ev rfl)) rfl rfl ?_; clear F; intro φ F
                refine wpList_nil ?_
                exact ⟨i + 1, by omega, bq, (((((((F.nil.cons (F.get (k := 8) rfl)).cons (F.get (k := 7) rfl)).cons (F.get (k := 6) rfl)).cons (F.get (k := 5) rfl)).cons (F.get (k := 4) rfl)).cons (F.get (k := 3) rfl)).cons (F.get (k := 1) rfl)), (M.sub (.cons _ (List.Sublist.refl _))), by omega, by omega, free_keep hp13_0 hp13_2 (ok_t hp3_0 (.inl hs15i))⟩
              · rw [hs15] at F
                have hs15i := of_decide_eq_true hs15
                refine sq_pure F (wt1 F rfl rfl rfl rfl rfl) (pu_field rfl (F.ev rfl) fo40_2) rfl rfl ?_; clear F; intro φ F
                refine sq_rd F (wt1 F rfl rfl rfl rfl rfl) (ld_sub rfl (F.ev rfl) agg38 (M.rd (i := 0) rfl) rfl rfl) rfl rfl ?_; clear F; intro φ F
                refine sq_pure F (wt1 F rfl rfl rfl rfl rfl) (bu38_ rfl) rfl rfl ?_; clear F; intro φ F
                refine sq_pure F (wt1 F rfl rfl rfl rfl rfl) (pu_eqlA rfl (F.ev rfl) (F.ev rfl) eqg38 (fun w => eqS38 (atG E i.toNat).p (St.mk 0 0) w)) rfl rfl ?_; clear F; intro φ F
                refine sq_pure F (wt0 rfl) (pu_pickt rfl (F.ev rfl) (F.ev rfl)) rfl rfl ?_; clear F; intro φ F
                refine sq_pure F (wt0 rfl) (pu_move rfl (F.ev rfl)) rfl rfl ?_; clear F; intro φ F
                cases hs16 : (decide ((atG E i.toNat).p = (St.mk 0 0)))
                · rw [hs16] at F
                  have hs16i := of_decide_eq_false hs16
                  refine sq_skip F (wtn F rfl rfl rfl rfl rfl) rfl rfl ?_; clear F; intro φ F
                  refine sq_skip F (wtn F rfl rfl rfl rfl rfl) rfl rfl ?_; clear F; intro φ F
                  refine sq_skip F (wtn F rfl rfl rfl rfl rfl) rfl rfl ?_; clear F; intro φ F
                  refine sq_skip F (wtn F rfl rfl rfl rfl rfl) rfl rfl ?_; clear F; intro φ F
                  refine sq_skip F (wtn F rfl rfl rfl rfl rfl) rfl rfl ?_; clear F; intro φ F
                  refine sq_skip F (wtn F rfl rfl rfl rfl rfl) rfl rfl ?_; clear F; intro φ F
                  refine sq_pure F (wt0 rfl) (pu_pickf rfl (F.ev rfl) (evk)) rfl rfl ?_; clear F; intro φ F
                  refine nx ?_
                  refine wp_cond_false (F.ev rfl) ?_
                  refine wp_skip ?_
                  refine nxb ?_
                  refine nxq ?_
                  -- region 12
                  refine wp_region_lit ?_
                  refine sq_pure F (wt0 rfl) (pu_move rfl (F.ev rfl)) rfl rfl ?_; clear F; intro φ F
                  refine sq_pure F (wt0 rfl) (pu_add rfl (F.ev rfl) (evk) (by omega) (by omega)) rfl rfl ?_; clear F; intro φ F
                  refine sq_pure F (wt0 rfl) (pu_assign rfl (F.ev rfl)) rfl rfl ?_; clear F; intro φ F
                  refine wpList_nil ?_
                  exact ⟨i + 1, by omega, bq, (((((((F.nil.cons (F.get (k := 8) rfl)).cons (F.get (k := 7) rfl)).cons (F.get (k := 6) rfl)).cons (F.get (k := 5) rfl)).cons (F.get (k := 4) rfl)).cons (F.get (k := 3) rfl)).cons (F.get (k := 1) rfl)), (M.sub (.cons _ (List.Sublist.refl _))), by omega, by omega, free_keep hp13_0 hp13_2 (ok_t hp3_0 (.inr (.inl hs16i)))⟩
                · rw [hs16] at F
                  have hs16i := of_decide_eq_true hs16
                  refine sq_pure F (wt1 F rfl rfl rfl rfl rfl) (pu_move rfl (F.ev rfl)) rfl rfl ?_; clear F; intro φ F
                  refine sq_pure F (wt1 F rfl rfl rfl rfl rfl) (pu_field rfl (F.ev rfl) fo40_0) rfl rfl ?_; clear F; intro φ F
                  refine sq_rd F (wt1 F rfl rfl rfl rfl rfl) (ld_cell rfl (F.ev rfl) one3 (M.rd (i := 0) rfl) rfl) rfl rfl ?_; clear F; intro φ F
                  refine sq_pure F (wt1 F rfl rfl rfl rfl rfl) (pu_ix rfl (F.ev rfl) (F.ev rfl) sl57 (blk_rdv (m := 1) (M.at (i := 2) rfl) (by first | rfl | (show (List.toArray (cB _)).size = _; rw [List.size_toArray, cB_len, rounds_len, Nat.mul_one]) | (simp only [List.size_toArray, cB_len, cV, List.length_set, List.length_replicate, Nat.mul_one]; first | done | rfl | assumption | omega)) (by omega)) (by omega) (by omega)) rfl rfl ?_; clear F; intro φ F
                  refine sq_rd F (wt1 F rfl rfl rfl rfl rfl) (ld_el1 rfl (F.ev rfl) one4 (fun _ e => e ▸ (blk_rdv (m := 1) (M.at (i := 2) rfl) (by first | rfl | (show (List.toArray (cB _)).size = _; rw [List.size_toArray, cB_len, rounds_len, Nat.mul_one]) | (simp only [List.size_toArray, cB_len, cV, List.length_set, List.length_replicate, Nat.mul_one]; first | done | rfl | assumption | omega)) (by omega))) (by omega) (cB_at (by first | omega | (simp; done) | (simp; omega)))) rfl rfl ?_; clear F; intro φ F
                  cases hs17 : (atB ((roundsO E n.toNat r.toNat).1) (((atG E i.toNat).f).toNat))
                  · rw [hs17] at F
                    refine sq_pure F (wt1 F rfl rfl rfl rfl rfl) (pu_not rfl (F.ev rfl)) rfl rfl ?_; clear F; intro φ F
                    rw [show (!false) = true from rfl] at F
                    refine sq_pure F (wt0 rfl) (pu_pickt rfl (F.ev rfl) (F.ev rfl)) rfl rfl ?_; clear F; intro φ F
                    refine nx ?_
                    refine wp_cond_true (F.ev rfl) ?_
                    -- region 15
                    refine wp_region_lit ?_
                    refine sq_pure F (wt0 rfl) (pu_assign rfl (evk)) rfl rfl ?_; clear F; intro φ F
                    refine wpList_nil ?_
                    refine nxb ?_
                    refine nxq ?_
                    -- region 12
                    refine wp_region_lit ?_
                    refine sq_pure F (wt0 rfl) (pu_move rfl (F.ev rfl)) rfl rfl ?_; clear F; intro φ F
                    refine sq_pure F (wt0 rfl) (pu_add rfl (F.ev rfl) (evk) (by omega) (by omega)) rfl rfl ?_; clear F; intro φ F
                    refine sq_pure F (wt0 rfl) (pu_assign rfl (F.ev rfl)) rfl rfl ?_; clear F; intro φ F
                    refine wpList_nil ?_
                    exact ⟨i + 1, by omega, false, (((((((F.nil.cons (F.get (k := 8) rfl)).cons (F.get (k := 7) rfl)).cons (F.get (k := 6) rfl)).cons (F.get (k := 5) rfl)).cons (F.get (k := 4) rfl)).cons (F.get (k := 3) rfl)).cons (F.get (k := 1) rfl)), (M.sub (.cons _ (List.Sublist.refl _))), by omega, by omega, free_drop hp13_0 (ok_f hp3_0 hs15i hs16i hs17)⟩
                  · rw [hs17] at F
                    refine sq_pure F (wt1 F rfl rfl rfl rfl rfl) (pu_not rfl (F.ev rfl)) rfl rfl ?_; clear F; intro φ F
                    rw [show (!true) = false from rfl] at F
                    refine sq_pure F (wt0 rfl) (pu_pickt rfl (F.ev rfl) (F.ev rfl)) rfl rfl ?_; clear F; intro φ F
                    refine nx ?_
                    refine wp_cond_false (F.ev rfl) ?_
                    refine wp_skip ?_
                    refine nxb ?_
                    refine nxq ?_
                    -- region 12
                    refine wp_region_lit ?_
                    refine sq_pure F (wt0 rfl) (pu_move rfl (F.ev rfl)) rfl rfl ?_; clear F; intro φ F
                    refine sq_pure F (wt0 rfl) (pu_add rfl (F.ev rfl) (evk) (by omega) (by omega)) rfl rfl ?_; clear F; intro φ F
                    refine sq_pure F (wt0 rfl) (pu_assign rfl (F.ev rfl)) rfl rfl ?_; clear F; intro φ F
                    refine wpList_nil ?_
                    exact ⟨i + 1, by omega, bq, (((((((F.nil.cons (F.get (k := 8) rfl)).cons (F.get (k := 7) rfl)).cons (F.get (k := 6) rfl)).cons (F.get (k := 5) rfl)).cons (F.get (k := 4) rfl)).cons (F.get (k := 3) rfl)).cons (F.get (k := 1) rfl)), (M.sub (.cons _ (List.Sublist.refl _))), by omega, by omega, free_keep hp13_0 hp13_2 (ok_t hp3_0 (.inr (.inr hs17)))⟩
          · skip
            clear F M
            rintro φ ω ⟨bq, i, F, M, hp18_0, hp18_1, hp18_2, hp18_3⟩
            refine nxq ?_
            refine wp_seq ?_
            -- region 16
            refine wp_region_lit ?_
            refine sq_pure F (wt0 rfl) (pu_move rfl (F.ev rfl)) rfl rfl ?_; clear F; intro φ F
            refine nx ?_
            cases hs19 : bq
            · rw [hs19] at F
              refine wp_cond_false (F.ev rfl) ?_
              refine wp_skip ?_
              refine nxb ?_
              refine nxq ?_
              -- region 8
              refine wp_region_lit ?_
              refine sq_pure F (wt0 rfl) (pu_move rfl (F.ev rfl)) rfl rfl ?_; clear F; intro φ F
              refine sq_pure F (wt0 rfl) (pu_add rfl (F.ev rfl) (evk) (by omega) (by omega)) rfl rfl ?_; clear F; intro φ F
              refine sq_pure F (wt0 rfl) (pu_assign rfl (F.ev rfl)) rfl rfl ?_; clear F; intro φ F
              refine wpList_nil ?_
              exact ⟨k + 1, by omega, (((((F.nil.cons (F.get (k := 6) rfl)).cons (F.get (k := 5) rfl)).cons (F.get (k := 4) rfl)).cons (F.get (k := 3) rfl)).cons (F.get (k := 1) rfl)), M, by omega, by omega, all_succ hp3_2 hp3_0 ((free_end hp18_2 hp18_1 hp18_3).trans hs19)⟩
            · rw [hs19] at F
              refine wp_cond_true (F.ev rfl) ?_
              refine wp_seq ?_
              -- region 17
              refine wp_region_lit ?_
              refine sq_pure F (wt0 rfl) (pu_move rfl (F.ev rfl)) rfl rfl ?_; clear F; intro φ F
              refine sq_pure F (wt0 rfl) (pu_move rfl (F.ev rfl)) rfl rfl ?_; clear F; intro φ F
              refine sq_pure F (wt0 rfl) (pu_ix rfl (F.ev rfl) (F.ev rfl) sl57 (blk_rdv (m := 1) (M.at (i := 1) rfl) (by first | rfl | (show (List.toArray (cB _)).size = _; rw [List.size_toArray, cB_len, rounds_len, Nat.mul_one]) | (simp only [List.size_toArray, cB_len, cV, List.length_set, List.length_replicate, Nat.mul_one]; first | done | rfl | assumption | omega)) (by omega)) (by omega) (by omega)) rfl rfl ?_; clear F; intro φ F
              refine sq_st1 (j := k.toNat) F M (wt0 rfl) rfl (F.ev rfl) (evk) (i := 1) rfl (by first | omega | (simp only [cB_len, cV, List.length_set, List.length_replicate]; omega)) si4 rfl rfl rfl ?_; clear M; intro ω M
              rw [cB_set (by first | omega | (simp only [cB_len, cV, List.length_set, List.length_replicate]; omega))] at M
              replace M : Mm [] w ω [.row 3 1 vq (((roundsO E n.toNat r.toNat).2).length) (cI ((roundsO E n.toNat r.toNat).2)), .blk g2 4 (List.toArray (cB (((roundsO E n.toNat r.toNat).1).set k.toNat true))), .blk g1 24 #[.int .i64 n, ev], .arg 4 ev E.length (cG E)] := M
              refine nx ?_
              refine wp_seq ?_
              -- region 18
              refine wp_region_lit ?_
              refine sq_pure F (wt0 rfl) (pu_move rfl (F.ev rfl)) rfl rfl ?_; clear F; intro φ F
              refine sq_pure F (wt0 rfl) (pu_move rfl (F.ev rfl)) rfl rfl ?_; clear F; intro φ F
              refine sq_bs (e := 3) (m := 1) (k := 1) (parts := #[]) (cs := #[.int .i64 k]) F M (wt0 rfl) (bs29_1 rfl (F.ev rfl) _) (by omega) rfl rfl rfl ?_; clear F M; intro φ ω g6 F M
              replace M : Mm [] w ω [.row 3 1 (.slice (some ⟨g6, 0, none⟩) 1 1) 1 (cI [k]), .row 3 1 vq (((roundsO E n.toNat r.toNat).2).length) (cI ((roundsO E n.toNat r.toNat).2)), .blk g2 4 (List.toArray (cB (((roundsO E n.toNat r.toNat).1).set k.toNat true))), .blk g1 24 #[.int .i64 n, ev], .arg 4 ev E.length (cG E)] := M
              refine sq_app F M (wt0 rfl) rfl sl29.1 el3 (F.ev rfl) (i := 1) rfl (F.ev rfl) (M.rv (i := 0) rfl) (cI_ones _) (by first | omega | (simp only [List.length_append, List.length_cons, List.length_nil, List.length_singleton]; omega)) (by omega) rfl rfl ?_; clear F M; intro φ ω v2 F M
              replace M : Mm [] w ω [.row 3 1 (.slice (some ⟨g6, 0, none⟩) 1 1) 1 (cI [k]), .row 3 1 v2 ((((roundsO E n.toNat r.toNat).2).length) + 1) ((cI ((roundsO E n.toNat r.toNat).2)) ++ (cI [k])), .blk g2 4 (List.toArray (cB (((roundsO E n.toNat r.toNat).1).set k.toNat true))), .blk g1 24 #[.int .i64 n, ev], .arg 4 ev E.length (cG E)] := M
              rw [← cI_app, show (((roundsO E n.toNat r.toNat).2).length) + 1 = (((roundsO E n.toNat r.toNat).2) ++ [k]).length from by first | rfl | (simp; done) | (simp; omega)] at M
              refine sq_pure F (wt0 rfl) (pu_assign rfl (F.ev rfl)) rfl rfl ?_; clear F; intro φ F
              refine nx ?_
              refine wp_exit ?_
              refine nxo rfl ?_
              refine nxe ?_
              refine nxe ?_
              refine nxm ?_
              exact ⟨v2, ((((F.nil.cons (F.get (k := 4) rfl)).cons (F.get (k := 5) rfl)).cons (F.get (k := 3) rfl)).cons (F.get (k := 1) rfl)), (by rw [round_some hp1_0 hp3_0 (by omega) ((free_end hp18_2 hp18_1 hp18_3).trans hs19) hp3_2]; exact (M.sub (.cons _ (List.Sublist.refl _))))⟩
    · skip
      clear F M
      rintro φ ω ⟨vq, F, M⟩
      refine nxb ?_
      refine nxq ?_
      -- region 5
      refine wp_region_lit ?_
      refine sq_pure F (wt0 rfl) (pu_move rfl (F.ev rfl)) rfl rfl ?_; clear F; intro φ F
      refine sq_pure F (wt0 rfl) (pu_add rfl (F.ev rfl) (evk) (by omega) (by omega)) rfl rfl ?_; clear F; intro φ F
      refine sq_pure F (wt0 rfl) (pu_assign rfl (F.ev rfl)) rfl rfl ?_; clear F; intro φ F
      refine wpList_nil ?_
      exact ⟨r + 1, by omega, vq, ((((F.nil.cons (F.get (k := 5) rfl)).cons (F.get (k := 4) rfl)).cons (F.get (k := 3) rfl)).cons (F.get (k := 1) rfl)), M, by omega, by omega⟩

set_option maxHeartbeats 2000000 in
theorem gcheck_any (n : Int) (ev : Value) (E : List Ed) (w : World) (hr : RdG w ev E) (hlen : E.length ≤ 20000000) :
    Calls Try.prog 12 #[.agg #[.int .i64 n, ev]] w (fun e w' => e = .returned ((.tuple #[.int .i64 (checkG n E).1, .int .i64 (checkG n E).2])) ∧ Below w.heap.size w w') := by
  refine enterF Try.func12 rfl 41 Try.ntmps12 [.agg #[.int .i64 n, ev]] rfl [(0, .agg #[.int .i64 n, ev])] rfl ?_
  intro φ F
  have M := Mm.start [] w
  replace M := M.addArg (hr) (fun h_ => by first | (simp; done) | assumption | exact d3 h_ | (simp_all; done))
  refine wp_seq ?_
  -- region 0
  refine wp_region_lit ?_
  refine sq_box F M (wt0 rfl) rfl (F.ev rfl) (cs := #[.int .i64 n, ev]) rfl rfl rfl ?_; clear F M; intro φ ω g1 F M
  refine sq_pure F (wt0 rfl) (pu_assign rfl (evk)) rfl rfl ?_; clear F; intro φ F
  refine sq_pure F (wt0 rfl) (pu_assign rfl (evk)) rfl rfl ?_; clear F; intro φ F
  refine nx ?_
  refine wp_seq ?_
  refine wp_seq ?_
  -- region 1
  refine wp_region_lit ?_
  refine sq_pure F (wt0 rfl) (pu_field rfl (F.ev rfl) fo24_0) rfl rfl ?_; clear F; intro φ F
  refine sq_rd F (wt0 rfl) (ld_cell rfl (F.ev rfl) one3 (M.rd (i := 0) rfl) rfl) rfl rfl ?_; clear F; intro φ F
  refine sq_pure F (wt0 rfl) (pu_lss rfl (F.ev rfl) (evk)) rfl rfl ?_; clear F; intro φ F
  refine sq_pure F (wt0 rfl) (pu_move rfl (F.ev rfl)) rfl rfl ?_; clear F; intro φ F
  cases hs1 : (decide (n < 1))
  · rw [hs1] at F
    have hs1i := of_decide_eq_false hs1
    refine sq_pure F (wt1 F rfl rfl rfl rfl rfl) (pu_field rfl (F.ev rfl) fo24_0) rfl rfl ?_; clear F; intro φ F
    refine sq_rd F (wt1 F rfl rfl rfl rfl rfl) (ld_cell rfl (F.ev rfl) one3 (M.rd (i := 0) rfl) rfl) rfl rfl ?_; clear F; intro φ F
    refine sq_pure F (wt1 F rfl rfl rfl rfl rfl) (pu_gtr rfl (F.ev rfl) (evk)) rfl rfl ?_; clear F; intro φ F
    refine sq_pure F (wt0 rfl) (pu_pickf rfl (F.ev rfl) (F.ev rfl)) rfl rfl ?_; clear F; intro φ F
    refine sq_pure F (wt0 rfl) (pu_move rfl (F.ev rfl)) rfl rfl ?_; clear F; intro φ F
    cases hs2 : (decide (8 < n))
    · rw [hs2] at F
      have hs2i := of_decide_eq_false hs2
      refine sq_pure F (wt1 F rfl rfl rfl rfl rfl) (pu_field rfl (F.ev rfl) fo24_1) rfl rfl ?_; clear F; intro φ F
      refine sq_rd F (wt1 F rfl rfl rfl rfl rfl) (ld_cell rfl (F.ev rfl) one22 (M.rd (i := 0) rfl) rfl) rfl rfl ?_; clear F; intro φ F
      refine sq_pure F (wt1 F rfl rfl rfl rfl rfl) (pu_len rfl (F.ev rfl) sl22 (M.av (i := 1) rfl)) rfl rfl ?_; clear F; intro φ F
      refine sq_pure F (wt1 F rfl rfl rfl rfl rfl) (pu_gtr rfl (F.ev rfl) (evk)) rfl rfl ?_; clear F; intro φ F
      refine sq_pure F (wt0 rfl) (pu_pickf rfl (F.ev rfl) (F.ev rfl)) rfl rfl ?_; clear F; intro φ F
      refine nx ?_
      cases hs3 : (decide (16 < ((E.length : Nat) : Int)))
      · rw [hs3] at F
        have hs3i := of_decide_eq_false hs3
        refine wp_cond_false (F.ev rfl) ?_
        refine wp_skip ?_
        refine nxq ?_
        refine wp_seq ?_
        refine wp_seq ?_
        -- region 3
        refine wp_region_lit ?_
        refine sq_pure F (wt0 rfl) (pu_assign rfl (evk)) rfl rfl ?_; clear F; intro φ F
        refine nx ?_
        refine wp_block ?_
        refine lp (σ := Int) (fun i φ' w' => Fr φ' 41 [(1, .pointer (some ⟨g1, 0, none⟩)), (2, .int .i64 0), (3, .int .i64 0), (4, .int .i64 i)] ∧ Mm [] w w' [.blk g1 24 #[.int .i64 n, ev], .arg 4 ev E.length (cG E)] ∧ (0 ≤ i) ∧ (i ≤ (E.length : Int)) ∧ (∀ k, k < i.toNat → fitsB n (atG E k) = true)) (fun i => ((E.length : Int) - i).toNat) (0) ⟨((((F.nil.cons (F.get (k := 4) rfl)).cons (F.get (k := 3) rfl)).cons (F.get (k := 2) rfl)).cons (F.get (k := 1) rfl)), M, Int.le_refl _, by omega, all_none⟩ ?_
        clear F M
        rintro i φ ω ⟨F, M, hp4_0, hp4_1, hp4_2⟩
        refine wp_seq ?_
        refine wp_seq ?_
        -- region 4
        refine wp_region_lit ?_
        refine sq_pure F (wt0 rfl) (pu_move rfl (F.ev rfl)) rfl rfl ?_; clear F; intro φ F
        refine sq_pure F (wt0 rfl) (pu_field rfl (F.ev rfl) fo24_1) rfl rfl ?_; clear F; intro φ F
        refine sq_rd F (wt0 rfl) (ld_cell rfl (F.ev rfl) one22 (M.rd (i := 0) rfl) rfl) rfl rfl ?_; clear F; intro φ F
        refine sq_pure F (wt0 rfl) (pu_len rfl (F.ev rfl) sl22 (M.av (i := 1) rfl)) rfl rfl ?_; clear F; intro φ F
        refine sq_pure F (wt0 rfl) (pu_lss rfl (F.ev rfl) (F.ev rfl)) rfl rfl ?_; clear F; intro φ F
        refine nx ?_
        cases hs5 : (decide (i < ((E.length : Nat) : Int)))
        · rw [hs5] at F
          have hs5i := of_decide_eq_false hs5
          refine wp_cond_false (F.ev rfl) ?_
          refine wp_exit ?_
          refine nxe ?_
          refine nxe ?_
          refine nxm ?_
          refine nxq ?_
          refine wp_seq ?_
          refine wp_seq ?_
          obtain ⟨hfit, hch⟩ := check_fit (n := n) (E := E) (i := i) (by omega) hp4_2 (by omega)
          -- region 8
          refine rg_J F 6 (fun Dd dv w' => (Dd 0 = true → dv 0 = .agg #[.int .i64 n, ev]) ∧ (Dd 2 = true → dv 2 = .int .i64 (((orderL E n.toNat).length : Nat) : Int)) ∧ (Dd 3 = true → dv 3 = .pointer (some ⟨g1, 0, none⟩)) ∧ (Dd 4 = true → dv 4 = .int .i64 n) ∧ (Dd 5 = true → dv 5 = .bool (decide ((((orderL E n.toNat).length : Nat) : Int) < n))) ∧ Mm [] w w' [(if Dd 1 = true then .row 3 1 (dv 1) ((orderL E n.toNat).length) (cI (orderL E n.toNat)) else .arg 1 (.slice none 0 0) 0 []), .blk g1 24 #[.int .i64 n, ev], .arg 4 ev E.length (cG E)]) (fun dv => ⟨(fun h => by cases h), (fun h => by cases h), (fun h => by cases h), (fun h => by cases h), (fun h => by cases h), by simpa using (M.drew).dead⟩) mixedOK (by kernel_rfl) rfl ⟨?_, ?_, ?_, ?_, ?_, ?_, trivial⟩ ?_
          · intro Dd φ1 dv ω1 ⟨h0, h2, h3, h4, h5, M⟩ hDi hdep hcl F1 hdone hold
            have F := (F1.cons (F.was hold (s := 1) rfl rfl))
            try simp only [hDi, Bool.false_eq_true, if_false, if_true, ite_true, ite_false] at M
            exact ⟨wt0 rfl, ow_run ((ld_agg rfl (F.ev rfl) agg24 (M.rd (i := 1) rfl) rfl) ω1 rfl) ⟨_, rfl, newP, keepP rfl h2, keepP rfl h3, keepP rfl h4, keepP rfl h5, by simpa [setB, setV, hDi, Bool.false_eq_true, if_false, if_true, ite_true, ite_false] using M⟩⟩
          · intro Dd φ1 dv ω1 ⟨h0, h2, h3, h4, h5, M⟩ hDi hdep hcl F1 hdone hold
            have d0 : Dd 0 = true := hdep 0 (by kernel_rfl)
            have F := (F1.cons (k := 35) (hdone 0 _ _ d0 rfl rfl |>.trans (h0 d0)))
            try simp only [d0, hDi, Bool.false_eq_true, if_false, if_true, ite_true, ite_false] at M
            exact ⟨wt0 rfl, ow_callZ rfl en14 (evc (F.ev rfl) evn) (Z := fun x w2 => Below ω1.heap.size ω1 w2 ∧ w2.ownsRow ω1.heap.size 3 1 x ((orderL E n.toNat).length) (cI (orderL E n.toNat))) (order_any n ev E _ (M.av (i := 2) rfl) (by omega) (by omega) (by omega) hfit) (fun x w2 ⟨hb2, ho2⟩ => by have M2 := M.freshRow (i := 0) rfl hb2 ho2; exact ⟨_, rfl, keepP rfl h0, keepP rfl h2, keepP rfl h3, keepP rfl h4, keepP rfl h5, by simpa [setB, setV, d0, hDi, Bool.false_eq_true, if_false, if_true, ite_true, ite_false] using M2⟩)⟩
          · intro Dd φ1 dv ω1 ⟨h0, h2, h3, h4, h5, M⟩ hDi hdep hcl F1 hdone hold
            have d1 : Dd 1 = true := hdep 1 (by kernel_rfl)
            have d0 : Dd 0 = true := hcl _ 0 d1 (by kernel_rfl)
            have F := (F1.cons (k := 36) (hdone 1 _ _ d1 rfl rfl))
            try simp only [d0, d1, hDi, Bool.false_eq_true, if_false, if_true, ite_true, ite_false] at M
            exact ⟨wt0 rfl, ow_run ((pu_len rfl (F.ev rfl) sl29 (M.rv (i := 0) rfl)) ω1) ⟨_, rfl, keepP rfl h0, newP, keepP rfl h3, keepP rfl h4, keepP rfl h5, by simpa [setB, setV, d0, d1, hDi, Bool.false_eq_true, if_false, if_true, ite_true, ite_false] using M⟩⟩
          · intro Dd φ1 dv ω1 ⟨h0, h2, h3, h4, h5, M⟩ hDi hdep hcl F1 hdone hold
            have F := (F1.cons (F.was hold (s := 1) rfl rfl))
            try simp only [hDi, Bool.false_eq_true, if_false, if_true, ite_true, ite_false] at M
            exact ⟨wt0 rfl, ow_run ((pu_field rfl (F.ev rfl) fo24_0) ω1) ⟨_, rfl, keepP rfl h0, keepP rfl h2, newP, keepP rfl h4, keepP rfl h5, by simpa [setB, setV, hDi, Bool.false_eq_true, if_false, if_true, ite_true, ite_false] using M⟩⟩
          · intro Dd φ1 dv ω1 ⟨h0, h2, h3, h4, h5, M⟩ hDi hdep hcl F1 hdone hold
            have d3 : Dd 3 = true := hdep 3 (by kernel_rfl)
            have F := (F1.cons (k := 38) (hdone 3 _ _ d3 rfl rfl |>.trans (h3 d3)))
            try simp only [d3, hDi, Bool.false_eq_true, if_false, if_true, ite_true, ite_false] at M
            exact ⟨wt0 rfl, ow_run ((ld_cell rfl (F.ev rfl) one3 (M.rd (i := 1) rfl) rfl) ω1 rfl) ⟨_, rfl, keepP rfl h0, keepP rfl h2, keepP rfl h3, newP, keepP rfl h5, by simpa [setB, setV, d3, hDi, Bool.false_eq_true, if_false, if_true, ite_true, ite_false] using M⟩⟩
          · intro Dd φ1 dv ω1 ⟨h0, h2, h3, h4, h5, M⟩ hDi hdep hcl F1 hdone hold
            have d2 : Dd 2 = true := hdep 2 (by kernel_rfl)
            have d4 : Dd 4 = true := hdep 4 (by kernel_rfl)
            have d1 : Dd 1 = true := hcl _ 1 d2 (by kernel_rfl)
            have d3 : Dd 3 = true := hcl _ 3 d4 (by kernel_rfl)
            have d0 : Dd 0 = true := hcl _ 0 d1 (by kernel_rfl)
            have F := ((F1.cons (k := 37) (hdone 2 _ _ d2 rfl rfl |>.trans (h2 d2))).cons (k := 39) (hdone 4 _ _ d4 rfl rfl |>.trans (h4 d4)))
            try simp only [d0, d1, d2, d3, d4, hDi, Bool.false_eq_true, if_false, if_true, ite_true, ite_false] at M
            exact ⟨wt0 rfl, ow_run ((pu_lss rfl (F.ev rfl) (F.ev rfl)) ω1) ⟨_, rfl, keepP rfl h0, keepP rfl h2, keepP rfl h3, keepP rfl h4, newP, by simpa [setB, setV, d0, d1, d2, d3, d4, hDi, Bool.false_eq_true, if_false, if_true, ite_true, ite_false] using M⟩⟩
          clear M; rintro dv φ ω ⟨h0, h2, h3, h4, h5, M⟩ F
          simp only [hvL, List.take_succ_cons, List.take_zero] at F
          rw [h5 (by simp)] at F
          rw [h4 (by simp)] at F
          rw [h3 (by simp)] at F
          rw [h2 (by simp)] at F
          rw [h0 (by simp)] at F
          replace M : Mm [] w ω [.row 3 1 (dv 1) ((orderL E n.toNat).length) (cI (orderL E n.toNat)), .blk g1 24 #[.int .i64 n, ev], .arg 4 ev E.length (cG E)] := by simpa using M
          clear h0 h2 h3 h4 h5
          generalize dv 1 = v1 at F M
          refine nx ?_
          cases hs6 : (decide ((((orderL E n.toNat).length : Nat) : Int) < n))
          · rw [hs6] at F
            have hs6i := of_decide_eq_false hs6
            refine wp_cond_false (F.ev rfl) ?_
            refine wp_skip ?_
            refine nxq ?_
            refine wp_seq ?_
            -- region 10
            refine wp_region_lit ?_
            refine sq_pure F (wt0 rfl) (pu_assign rfl (evk)) rfl rfl ?_; clear F; intro φ F
            refine sq_pure F (wt0 rfl) (pu_assign rfl (evk)) rfl rfl ?_; clear F; intro φ F
            refine nx ?_
            refine wp_ret ?_
            refine rt_tmp2 F rfl rfl rfl ?_
            refine ⟨?_, M.bel⟩
            rw [hch]
            first | rw [if_pos (by omega)] | rw [if_neg (by omega)]
          · rw [hs6] at F
            have hs6i := of_decide_eq_true hs6
            refine wp_cond_true (F.ev rfl) ?_
            refine wp_seq ?_
            -- region 9
            refine wp_region_lit ?_
            refine sq_pure F (wt0 rfl) (pu_assign rfl (evk)) rfl rfl ?_; clear F; intro φ F
            refine sq_pure F (wt0 rfl) (pu_assign rfl (evk)) rfl rfl ?_; clear F; intro φ F
            refine nx ?_
            refine wp_ret ?_
            refine nxr ?_
            refine rt_tmp2 F rfl rfl rfl ?_
            refine ⟨?_, M.bel⟩
            rw [hch]
            first | rw [if_pos (by omega)] | rw [if_neg (by omega)]
        · rw [hs5] at F
          have hs5i := of_decide_eq_true hs5
          refine wp_cond_true (F.ev rfl) ?_
          refine wp_skip ?_
          refine nxq ?_
          refine wp_seq ?_
          refine wp_block ?_
          refine wp_seq ?_
          -- region 6
          refine rg_quiet M mixedOK (by kernel_rfl) ?_
          refine qt_rd F (wt0 rfl) (ld_agg rfl (F.ev rfl) agg24 (M.rdB (i := 0) rfl) rfl) rfl rfl ?_; clear F; intro φ F
          refine qt_pure F (wt0 rfl) (pu_field rfl (F.ev rfl) fo24_1) rfl rfl ?_; clear F; intro φ F
          refine qt_rd F (wt0 rfl) (ld_cell rfl (F.ev rfl) one22 (M.rdB (i := 0) rfl) rfl) rfl rfl ?_; clear F; intro φ F
          refine qt_pure F (wt0 rfl) (pu_move rfl (F.ev rfl)) rfl rfl ?_; clear F; intro φ F
          refine qt_pure F (wt0 rfl) (pu_ix rfl (F.ev rfl) (F.ev rfl) sl22 (M.av (i := 1) rfl) (by omega) (by omega)) rfl rfl ?_; clear F; intro φ F
          refine qt_rd F (wt0 rfl) (ld_el rfl (F.ev rfl) agg40 (fun _ h => RdV.below (M.av (i := 1) rfl) h) (by omega) (cG_at (by first | omega | (simp; done) | (simp; omega))) rfl) rfl rfl ?_; clear F; intro φ F
          refine qt_call F (wt0 rfl) rfl en27 (evc (F.ev rfl) (evc (F.ev rfl) evn)) (fun w' h => calls_below h (fits_any n ev (atG E i.toNat) w')) rfl rfl ?_; clear F; intro φ F
          cases hs7 : (fitsB n (atG E i.toNat))
          · rw [hs7] at F
            refine qt_pure F (wt0 rfl) (pu_not rfl (F.ev rfl)) rfl rfl ?_; clear F; intro φ F
            rw [show (!false) = true from rfl] at F
            refine wpQuiet_nil ?_
            clear M; intro ω M
            refine nxq ?_
            refine wp_cond_true (F.ev rfl) ?_
            refine wp_seq ?_
            -- region 7
            refine wp_region_lit ?_
            refine sq_pure F (wt0 rfl) (pu_move rfl (F.ev rfl)) rfl rfl ?_; clear F; intro φ F
            refine sq_pure F (wt0 rfl) (pu_assign rfl (evk)) rfl rfl ?_; clear F; intro φ F
            refine sq_pure F (wt0 rfl) (pu_assign rfl (F.ev rfl)) rfl rfl ?_; clear F; intro φ F
            refine nx ?_
            refine wp_ret ?_
            refine nxrb ?_
            refine nxr ?_
            refine nxr ?_
            refine nxrb ?_
            refine nxr ?_
            refine rt_tmp2 F rfl rfl rfl ?_
            refine ⟨?_, M.bel⟩
            rw [check_bad (E := E) (i := i) (by omega) hp4_0 (by omega) hp4_2 hs7]
          · rw [hs7] at F
            refine qt_pure F (wt0 rfl) (pu_not rfl (F.ev rfl)) rfl rfl ?_; clear F; intro φ F
            rw [show (!true) = false from rfl] at F
            refine wpQuiet_nil ?_
            clear M; intro ω M
            refine nxq ?_
            refine wp_cond_false (F.ev rfl) ?_
            refine wp_skip ?_
            refine nxb ?_
            refine nxq ?_
            -- region 5
            refine wp_region_lit ?_
            refine sq_pure F (wt0 rfl) (pu_move rfl (F.ev rfl)) rfl rfl ?_; clear F; intro φ F
            refine sq_pure F (wt0 rfl) (pu_add rfl (F.ev rfl) (evk) (by omega) (by omega)) rfl rfl ?_; clear F; intro φ F
            refine sq_pure F (wt0 rfl) (pu_assign rfl (F.ev rfl)) rfl rfl ?_; clear F; intro φ F
            refine wpList_nil ?_
            exact ⟨i + 1, by omega, ((((F.nil.cons (F.get (k := 4) rfl)).cons (F.get (k := 3) rfl)).cons (F.get (k := 2) rfl)).cons (F.get (k := 1) rfl)), M, by omega, by omega, all_succ hp4_2 hp4_0 (hs7)⟩
      · rw [hs3] at F
        have hs3i := of_decide_eq_true hs3
        refine wp_cond_true (F.ev rfl) ?_
        refine wp_seq ?_
        -- region 2
        refine wp_region_lit ?_
        refine sq_pure F (wt0 rfl) (pu_assign rfl (evk)) rfl rfl ?_; clear F; intro φ F
        refine sq_pure F (wt0 rfl) (pu_assign rfl (evk)) rfl rfl ?_; clear F; intro φ F
        refine nx ?_
        refine wp_ret ?_
        refine nxr ?_
        refine rt_tmp2 F rfl rfl rfl ?_
        refine ⟨?_, M.bel⟩
        rw [check_many (by omega)]
    · rw [hs2] at F
      have hs2i := of_decide_eq_true hs2
      refine sq_skip F (wtn F rfl rfl rfl rfl rfl) rfl rfl ?_; clear F; intro φ F
      refine sq_skip F (wtn F rfl rfl rfl rfl rfl) rfl rfl ?_; clear F; intro φ F
      refine sq_skip F (wtn F rfl rfl rfl rfl rfl) rfl rfl ?_; clear F; intro φ F
      refine sq_skip F (wtn F rfl rfl rfl rfl rfl) rfl rfl ?_; clear F; intro φ F
      refine sq_pure F (wt0 rfl) (pu_pickt rfl (F.ev rfl) (evk)) rfl rfl ?_; clear F; intro φ F
      refine nx ?_
      refine wp_cond_true (F.ev rfl) ?_
      refine wp_seq ?_
      -- region 2
      refine wp_region_lit ?_
      refine sq_pure F (wt0 rfl) (pu_assign rfl (evk)) rfl rfl ?_; clear F; intro φ F
      refine sq_pure F (wt0 rfl) (pu_assign rfl (evk)) rfl rfl ?_; clear F; intro φ F
      refine nx ?_
      refine wp_ret ?_
      refine nxr ?_
      refine rt_tmp2 F rfl rfl rfl ?_
      refine ⟨?_, M.bel⟩
      rw [check_many (by omega)]
  · rw [hs1] at F
    have hs1i := of_decide_eq_true hs1
    refine sq_skip F (wtn F rfl rfl rfl rfl rfl) rfl rfl ?_; clear F; intro φ F
    refine sq_skip F (wtn F rfl rfl rfl rfl rfl) rfl rfl ?_; clear F; intro φ F
    refine sq_skip F (wtn F rfl rfl rfl rfl rfl) rfl rfl ?_; clear F; intro φ F
    refine sq_pure F (wt0 rfl) (pu_pickt rfl (F.ev rfl) (evk)) rfl rfl ?_; clear F; intro φ F
    refine sq_pure F (wt0 rfl) (pu_move rfl (F.ev rfl)) rfl rfl ?_; clear F; intro φ F
    refine sq_skip F (wtn F rfl rfl rfl rfl rfl) rfl rfl ?_; clear F; intro φ F
    refine sq_skip F (wtn F rfl rfl rfl rfl rfl) rfl rfl ?_; clear F; intro φ F
    refine sq_skip F (wtn F rfl rfl rfl rfl rfl) rfl rfl ?_; clear F; intro φ F
    refine sq_skip F (wtn F rfl rfl rfl rfl rfl) rfl rfl ?_; clear F; intro φ F
    refine sq_pure F (wt0 rfl) (pu_pickt rfl (F.ev rfl) (evk)) rfl rfl ?_; clear F; intro φ F
    refine nx ?_
    refine wp_cond_true (F.ev rfl) ?_
    refine wp_seq ?_
    -- region 2
    refine wp_region_lit ?_
    refine sq_pure F (wt0 rfl) (pu_assign rfl (evk)) rfl rfl ?_; clear F; intro φ F
    refine sq_pure F (wt0 rfl) (pu_assign rfl (evk)) rfl rfl ?_; clear F; intro φ F
    refine nx ?_
    refine wp_ret ?_
    refine nxr ?_
    refine rt_tmp2 F rfl rfl rfl ?_
    refine ⟨?_, M.bel⟩
    rw [check_many (by omega)]

end Go.Proofs.Ytbleefegobmboaa
