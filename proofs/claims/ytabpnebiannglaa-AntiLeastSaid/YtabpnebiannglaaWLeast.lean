/- Laws of layer 3. Made by walks/antilaws.py. -/
import Derived.Test.YtabpnebiannglaaAl
namespace Go.Proofs.Ytabpnebiannglaa
open Go.RowKit Go.Sort

set_option maxHeartbeats 4000000 in
theorem antiLeast_walk (L : List St) (t : St) (a : Value) (w : World) (ha : RdS w a L) :
    Calls Try.prog 5 #[a, .agg #[.int .i64 t.e, .int .i64 t.r]] w fun e w' => e = .returned (.bool true) ∧ Below w.heap.size w w' := by
  have z1 := minL_len L
  have z2 : minL (minL L) = minL L := min_min L
  have z3 := min_nil L
  have z4 := min_cov L t
  refine enterF Try.func5 rfl 108 Try.ntmps5 [a, .agg #[.int .i64 t.e, .int .i64 t.r]] rfl [(0, a), (1, .agg #[.int .i64 t.e, .int .i64 t.r])] rfl ?_
  intro φ F
  have M := Mm.start [] w
  replace M := M.addArg (ha)
  refine wp_seq ?_
  -- region 0
  refine wp_region_lit ?_
  refine sq_box F M (wt0 rfl) rfl (F.ev rfl) (cs := #[.int .i64 t.e, .int .i64 t.r]) rfl rfl rfl ?_; clear F M; intro φ ω g1 F M
  refine sq_pure F (wt0 rfl) (pu_assign rfl (evk)) rfl rfl ?_; clear F; intro φ F
  refine nx ?_
  refine wp_seq ?_
  -- region 1
  refine wp_region_lit ?_
  refine sq_call F M (wt0 rfl) rfl en11 evn (awake_any _) rfl rfl ?_; clear F M; intro φ ω F M
  refine sq_pure F (wt0 rfl) (pu_assign rfl (F.ev rfl)) rfl rfl ?_; clear F; intro φ F
  refine nx ?_
  refine wp_seq ?_
  refine wp_seq ?_
  -- region 2
  refine wp_region_lit ?_
  refine sq_pure F (wt0 rfl) (pu_move rfl (F.ev rfl)) rfl rfl ?_; clear F; intro φ F
  refine sq_pure F (wt0 rfl) (pu_len rfl (F.ev rfl) sl22 (M.av (i := 1) rfl)) rfl rfl ?_; clear F; intro φ F
  refine sq_pure F (wt0 rfl) (pu_gtr rfl (F.ev rfl) (evk)) rfl rfl ?_; clear F; intro φ F
  refine nx ?_
  cases hs1 : (decide (300 < ((L.length : Nat) : Int)))
  · rw [hs1] at F
    have hs1i := of_decide_eq_false hs1
    refine wp_cond_false (F.ev rfl) ?_
    refine wp_skip ?_
    refine nxq ?_
    refine wp_seq ?_
    -- region 4
    refine wp_region_lit ?_
    refine sq_pure F (wt0 rfl) (pu_move rfl (F.ev rfl)) rfl rfl ?_; clear F; intro φ F
    refine sq_callN F M (wt0 rfl) rfl en13 (evc (F.ev rfl) evn) (min_any L _ _ (M.av (i := 1) rfl) (by first | omega | (simp; done) | (simp; omega))) rfl rfl ?_; clear F M; intro φ ω v1 F M
    refine sq_pure F (wt0 rfl) (pu_assign rfl (F.ev rfl)) rfl rfl ?_; clear F; intro φ F
    refine nx ?_
    refine wp_seq ?_
    refine wp_seq ?_
    -- region 5
    refine wp_region_lit ?_
    refine sq_pure F (wt0 rfl) (pu_assign rfl (evk)) rfl rfl ?_; clear F; intro φ F
    refine nx ?_
    refine wp_block ?_
    refine lp (σ := Int) (fun i φ' w' => Fr φ' 108 [(0, a), (3, .pointer (some ⟨g1, 0, none⟩)), (5, .bool true), (6, v1), (7, .int .i64 i)] ∧ Mm [] w w' [.row 28 2 v1 ((minL L).length) (cS (minL L)), .blk g1 28 #[.int .i64 t.e, .int .i64 t.r], .arg 2 a L.length (cS L)] ∧ (0 ≤ i) ∧ (i ≤ (((minL L).length : Nat) : Int))) (fun i => ((((minL L).length : Nat) : Int) - i).toNat) (0) ⟨(((((F.nil.cons (F.get (k := 7) rfl)).cons (F.get (k := 6) rfl)).cons (F.get (k := 5) rfl)).cons (F.get (k := 3) rfl)).cons (F.get (k := 0) rfl)), M, Int.le_refl _, by omega⟩ ?_
    clear F M
    rintro i φ ω ⟨F, M, hp2_0, hp2_1⟩
    refine wp_seq ?_
    refine wp_seq ?_
    -- region 6
    refine wp_region_lit ?_
    refine sq_pure F (wt0 rfl) (pu_move rfl (F.ev rfl)) rfl rfl ?_; clear F; intro φ F
    refine sq_pure F (wt0 rfl) (pu_move rfl (F.ev rfl)) rfl rfl ?_; clear F; intro φ F
    refine sq_pure F (wt0 rfl) (pu_len rfl (F.ev rfl) sl22 (M.rv (i := 0) rfl)) rfl rfl ?_; clear F; intro φ F
    refine sq_pure F (wt0 rfl) (pu_lss rfl (F.ev rfl) (F.ev rfl)) rfl rfl ?_; clear F; intro φ F
    refine nx ?_
    cases hs3 : (decide (i < (((minL L).length : Nat) : Int)))
    · rw [hs3] at F
      have hs3i := of_decide_eq_false hs3
      refine wp_cond_false (F.ev rfl) ?_
      refine wp_exit ?_
      refine nxe ?_
      refine nxe ?_
      refine nxm ?_
      refine nxq ?_
      refine wp_seq ?_
      -- region 20
      refine wp_region_lit ?_
      refine sq_pure F (wt0 rfl) (pu_move rfl (F.ev rfl)) rfl rfl ?_; clear F; intro φ F
      refine sq_callN F M (wt0 rfl) rfl en13 (evc (F.ev rfl) evn) (min_any (minL L) _ _ (M.rv (i := 0) rfl) (by first | omega | (simp; done) | (simp; omega))) rfl rfl ?_; clear F M; intro φ ω v2 F M
      refine sq_pure F (wt0 rfl) (pu_move rfl (F.ev rfl)) rfl rfl ?_; clear F; intro φ F
      refine sq_call F M (wt0 rfl) rfl en12 (evc (F.ev rfl) (evc (F.ev rfl) evn)) (rsame_any (minL (minL L)) (minL L) _ _ _ (M.rv (i := 0) rfl) (M.rv (i := 1) rfl) (Nat.le_trans (minL_len _) (by first | omega | (simp; omega))) (Nat.le_trans (minL_len _) (by first | omega | (simp; omega)))) rfl rfl ?_; clear F M; intro φ ω F M
      rw [(decide_eq_true (min_min L))] at F
      refine sq_pure F (wt0 rfl) (pu_assign rfl (F.ev rfl)) rfl rfl ?_; clear F; intro φ F
      refine nx ?_
      refine wp_seq ?_
      -- region 21
      refine rg_quiet M mixedOK (by kernel_rfl) ?_
      refine qt_pure F (wt0 rfl) (pu_move rfl (F.ev rfl)) rfl rfl ?_; clear F; intro φ F
      refine qt_pure F (wt0 rfl) (pu_move rfl (F.ev rfl)) rfl rfl ?_; clear F; intro φ F
      refine qt_pure F (wt1 F rfl rfl rfl rfl rfl) (pu_move rfl (F.ev rfl)) rfl rfl ?_; clear F; intro φ F
      refine qt_pure F (wt0 rfl) (pu_pickt rfl (F.ev rfl) (F.ev rfl)) rfl rfl ?_; clear F; intro φ F
      refine qt_pure F (wt0 rfl) (pu_move rfl (F.ev rfl)) rfl rfl ?_; clear F; intro φ F
      refine qt_pure F (wt1 F rfl rfl rfl rfl rfl) (pu_move rfl (F.ev rfl)) rfl rfl ?_; clear F; intro φ F
      refine qt_rd F (wt1 F rfl rfl rfl rfl rfl) (ld_agg rfl (F.ev rfl) agg28 (M.rdB (i := 2) rfl) rfl) rfl rfl ?_; clear F; intro φ F
      refine qt_call F (wt1 F rfl rfl rfl rfl rfl) rfl en17 (evc (F.ev rfl) (evc (F.ev rfl) evn)) (fun w' h => calls_below h (covers_any (minL L) t _ w' (RdV.below (M.rv (i := 1) rfl) h) (by first | omega | (simp; done) | (simp; omega)))) rfl rfl ?_; clear F; intro φ F
      refine qt_pure F (wt1 F rfl rfl rfl rfl rfl) (pu_move rfl (F.ev rfl)) rfl rfl ?_; clear F; intro φ F
      refine qt_rd F (wt1 F rfl rfl rfl rfl rfl) (ld_agg rfl (F.ev rfl) agg28 (M.rdB (i := 2) rfl) rfl) rfl rfl ?_; clear F; intro φ F
      refine qt_call F (wt1 F rfl rfl rfl rfl rfl) rfl en17 (evc (F.ev rfl) (evc (F.ev rfl) evn)) (fun w' h => calls_below h (covers_any L t _ w' (RdV.below (M.av (i := 3) rfl) h) (by first | omega | (simp; done) | (simp; omega)))) rfl rfl ?_; clear F; intro φ F
      cases hs4 : (covB (minL L) t)
      · rw [hs4] at F
        cases hs5 : (covB L t)
        · rw [hs5] at F
          refine qt_pure F (wt1 F rfl rfl rfl rfl rfl) (pu_eqlB rfl (F.ev rfl) (F.ev rfl) Try.underlying4) rfl rfl ?_; clear F; intro φ F
          rw [show (false == false) = true from rfl] at F
          refine qt_pure F (wt0 rfl) (pu_pickt rfl (F.ev rfl) (F.ev rfl)) rfl rfl ?_; clear F; intro φ F
          refine qt_pure F (wt0 rfl) (pu_move rfl (F.ev rfl)) rfl rfl ?_; clear F; intro φ F
          refine qt_pure F (wt1 F rfl rfl rfl rfl rfl) (pu_move rfl (F.ev rfl)) rfl rfl ?_; clear F; intro φ F
          refine qt_pure F (wt1 F rfl rfl rfl rfl rfl) (pu_len rfl (F.ev rfl) sl22 (M.rv (i := 1) rfl)) rfl rfl ?_; clear F; intro φ F
          refine qt_pure F (wt1 F rfl rfl rfl rfl rfl) (pu_eqlI rfl (F.ev rfl) (evk)) rfl rfl ?_; clear F; intro φ F
          refine qt_pure F (wt1 F rfl rfl rfl rfl rfl) (pu_move rfl (F.ev rfl)) rfl rfl ?_; clear F; intro φ F
          refine qt_pure F (wt1 F rfl rfl rfl rfl rfl) (pu_len rfl (F.ev rfl) sl22 (M.av (i := 3) rfl)) rfl rfl ?_; clear F; intro φ F
          refine qt_pure F (wt1 F rfl rfl rfl rfl rfl) (pu_eqlI rfl (F.ev rfl) (evk)) rfl rfl ?_; clear F; intro φ F
          cases hs6 : (decide ((((minL L).length : Nat) : Int) = 0))
          · rw [hs6] at F
            have hs6i := of_decide_eq_false hs6
            cases hs7 : (decide (((L.length : Nat) : Int) = 0))
            · rw [hs7] at F
              have hs7i := of_decide_eq_false hs7
              refine qt_pure F (wt1 F rfl rfl rfl rfl rfl) (pu_eqlB rfl (F.ev rfl) (F.ev rfl) Try.underlying4) rfl rfl ?_; clear F; intro φ F
              rw [show (false == false) = true from rfl] at F
              refine qt_pure F (wt0 rfl) (pu_pickt rfl (F.ev rfl) (F.ev rfl)) rfl rfl ?_; clear F; intro φ F
              refine qt_pure F (wt0 rfl) (pu_assign rfl (F.ev rfl)) rfl rfl ?_; clear F; intro φ F
              refine wpQuiet_nil ?_
              clear M; intro ω M
              refine nxq ?_
              refine wp_ret ?_
              refine rt_tmp F rfl rfl ?_
              exact ⟨rfl, M.bel⟩
            · rw [hs7] at F
              have hs7i := of_decide_eq_true hs7
              refine qt_pure F (wt1 F rfl rfl rfl rfl rfl) (pu_eqlB rfl (F.ev rfl) (F.ev rfl) Try.underlying4) rfl rfl ?_; clear F; intro φ F
              rw [show (false == true) = false from rfl] at F
              refine qt_pure F (wt0 rfl) (pu_pickt rfl (F.ev rfl) (F.ev rfl)) rfl rfl ?_; clear F; intro φ F
              refine qt_pure F (wt0 rfl) (pu_assign rfl (F.ev rfl)) rfl rfl ?_; clear F; intro φ F
              refine wpQuiet_nil ?_
              clear M; intro ω M
              refine nxq ?_
              refine wp_ret ?_
              refine rt_tmp F rfl rfl ?_
              exfalso; clear F M; first | omega | simp_all
          · rw [hs6] at F
            have hs6i := of_decide_eq_true hs6
            cases hs8 : (decide (((L.length : Nat) : Int) = 0))
            · rw [hs8] at F
              have hs8i := of_decide_eq_false hs8
              refine qt_pure F (wt1 F rfl rfl rfl rfl rfl) (pu_eqlB rfl (F.ev rfl) (F.ev rfl) Try.underlying4) rfl rfl ?_; clear F; intro φ F
              rw [show (true == false) = false from rfl] at F
              refine qt_pure F (wt0 rfl) (pu_pickt rfl (F.ev rfl) (F.ev rfl)) rfl rfl ?_; clear F; intro φ F
              refine qt_pure F (wt0 rfl) (pu_assign rfl (F.ev rfl)) rfl rfl ?_; clear F; intro φ F
              refine wpQuiet_nil ?_
              clear M; intro ω M
              refine nxq ?_
              refine wp_ret ?_
              refine rt_tmp F rfl rfl ?_
              exfalso; clear F M; first | omega | simp_all
            · rw [hs8] at F
              have hs8i := of_decide_eq_true hs8
              refine qt_pure F (wt1 F rfl rfl rfl rfl rfl) (pu_eqlB rfl (F.ev rfl) (F.ev rfl) Try.underlying4) rfl rfl ?_; clear F; intro φ F
              rw [show (true == true) = true from rfl] at F
              refine qt_pure F (wt0 rfl) (pu_pickt rfl (F.ev rfl) (F.ev rfl)) rfl rfl ?_; clear F; intro φ F
              refine qt_pure F (wt0 rfl) (pu_assign rfl (F.ev rfl)) rfl rfl ?_; clear F; intro φ F
              refine wpQuiet_nil ?_
              clear M; intro ω M
              refine nxq ?_
              refine wp_ret ?_
              refine rt_tmp F rfl rfl ?_
              exact ⟨rfl, M.bel⟩
        · rw [hs5] at F
          refine qt_pure F (wt1 F rfl rfl rfl rfl rfl) (pu_eqlB rfl (F.ev rfl) (F.ev rfl) Try.underlying4) rfl rfl ?_; clear F; intro φ F
          rw [show (false == true) = false from rfl] at F
          refine qt_pure F (wt0 rfl) (pu_pickt rfl (F.ev rfl) (F.ev rfl)) rfl rfl ?_; clear F; intro φ F
          refine qt_pure F (wt0 rfl) (pu_move rfl (F.ev rfl)) rfl rfl ?_; clear F; intro φ F
          refine qt_skip F (wtn F rfl rfl rfl rfl rfl) rfl rfl ?_; clear F; intro φ F
          refine qt_skip F (wtn F rfl rfl rfl rfl rfl) rfl rfl ?_; clear F; intro φ F
          refine qt_skip F (wtn F rfl rfl rfl rfl rfl) rfl rfl ?_; clear F; intro φ F
          refine qt_skip F (wtn F rfl rfl rfl rfl rfl) rfl rfl ?_; clear F; intro φ F
          refine qt_skip F (wtn F rfl rfl rfl rfl rfl) rfl rfl ?_; clear F; intro φ F
          refine qt_skip F (wtn F rfl rfl rfl rfl rfl) rfl rfl ?_; clear F; intro φ F
          refine qt_skip F (wtn F rfl rfl rfl rfl rfl) rfl rfl ?_; clear F; intro φ F
          refine qt_pure F (wt0 rfl) (pu_pickf rfl (F.ev rfl) (evk)) rfl rfl ?_; clear F; intro φ F
          refine qt_pure F (wt0 rfl) (pu_assign rfl (F.ev rfl)) rfl rfl ?_; clear F; intro φ F
          refine wpQuiet_nil ?_
          clear M; intro ω M
          refine nxq ?_
          refine wp_ret ?_
          refine rt_tmp F rfl rfl ?_
          exfalso; clear F M; first | omega | simp_all
      · rw [hs4] at F
        cases hs9 : (covB L t)
        · rw [hs9] at F
          refine qt_pure F (wt1 F rfl rfl rfl rfl rfl) (pu_eqlB rfl (F.ev rfl) (F.ev rfl) Try.underlying4) rfl rfl ?_; clear F; intro φ F
          rw [show (true == false) = false from rfl] at F
          refine qt_pure F (wt0 rfl) (pu_pickt rfl (F.ev rfl) (F.ev rfl)) rfl rfl ?_; clear F; intro φ F
          refine qt_pure F (wt0 rfl) (pu_move rfl (F.ev rfl)) rfl rfl ?_; clear F; intro φ F
          refine qt_skip F (wtn F rfl rfl rfl rfl rfl) rfl rfl ?_; clear F; intro φ F
          refine qt_skip F (wtn F rfl rfl rfl rfl rfl) rfl rfl ?_; clear F; intro φ F
          refine qt_skip F (wtn F rfl rfl rfl rfl rfl) rfl rfl ?_; clear F; intro φ F
          refine qt_skip F (wtn F rfl rfl rfl rfl rfl) rfl rfl ?_; clear F; intro φ F
          refine qt_skip F (wtn F rfl rfl rfl rfl rfl) rfl rfl ?_; clear F; intro φ F
          refine qt_skip F (wtn F rfl rfl rfl rfl rfl) rfl rfl ?_; clear F; intro φ F
          refine qt_skip F (wtn F rfl rfl rfl rfl rfl) rfl rfl ?_; clear F; intro φ F
          refine qt_pure F (wt0 rfl) (pu_pickf rfl (F.ev rfl) (evk)) rfl rfl ?_; clear F; intro φ F
          refine qt_pure F (wt0 rfl) (pu_assign rfl (F.ev rfl)) rfl rfl ?_; clear F; intro φ F
          refine wpQuiet_nil ?_
          clear M; intro ω M
          refine nxq ?_
          refine wp_ret ?_
          refine rt_tmp F rfl rfl ?_
          exfalso; clear F M; first | omega | simp_all
        · rw [hs9] at F
          refine qt_pure F (wt1 F rfl rfl rfl rfl rfl) (pu_eqlB rfl (F.ev rfl) (F.ev rfl) Try.underlying4) rfl rfl ?_; clear F; intro φ F
          rw [show (true == true) = true from rfl] at F
          refine qt_pure F (wt0 rfl) (pu_pickt rfl (F.ev rfl) (F.ev rfl)) rfl rfl ?_; clear F; intro φ F
          refine qt_pure F (wt0 rfl) (pu_move rfl (F.ev rfl)) rfl rfl ?_; clear F; intro φ F
          refine qt_pure F (wt1 F rfl rfl rfl rfl rfl) (pu_move rfl (F.ev rfl)) rfl rfl ?_; clear F; intro φ F
          refine qt_pure F (wt1 F rfl rfl rfl rfl rfl) (pu_len rfl (F.ev rfl) sl22 (M.rv (i := 1) rfl)) rfl rfl ?_; clear F; intro φ F
          refine qt_pure F (wt1 F rfl rfl rfl rfl rfl) (pu_eqlI rfl (F.ev rfl) (evk)) rfl rfl ?_; clear F; intro φ F
          refine qt_pure F (wt1 F rfl rfl rfl rfl rfl) (pu_move rfl (F.ev rfl)) rfl rfl ?_; clear F; intro φ F
          refine qt_pure F (wt1 F rfl rfl rfl rfl rfl) (pu_len rfl (F.ev rfl) sl22 (M.av (i := 3) rfl)) rfl rfl ?_; clear F; intro φ F
          refine qt_pure F (wt1 F rfl rfl rfl rfl rfl) (pu_eqlI rfl (F.ev rfl) (evk)) rfl rfl ?_; clear F; intro φ F
          cases hs10 : (decide ((((minL L).length : Nat) : Int) = 0))
          · rw [hs10] at F
            have hs10i := of_decide_eq_false hs10
            cases hs11 : (decide (((L.length : Nat) : Int) = 0))
            · rw [hs11] at F
              have hs11i := of_decide_eq_false hs11
              refine qt_pure F (wt1 F rfl rfl rfl rfl rfl) (pu_eqlB rfl (F.ev rfl) (F.ev rfl) Try.underlying4) rfl rfl ?_; clear F; intro φ F
              rw [show (false == false) = true from rfl] at F
              refine qt_pure F (wt0 rfl) (pu_pickt rfl (F.ev rfl) (F.ev rfl)) rfl rfl ?_; clear F; intro φ F
              refine qt_pure F (wt0 rfl) (pu_assign rfl (F.ev rfl)) rfl rfl ?_; clear F; intro φ F
              refine wpQuiet_nil ?_
              clear M; intro ω M
              refine nxq ?_
              refine wp_ret ?_
              refine rt_tmp F rfl rfl ?_
              exact ⟨rfl, M.bel⟩
            · rw [hs11] at F
              have hs11i := of_decide_eq_true hs11
              refine qt_pure F (wt1 F rfl rfl rfl rfl rfl) (pu_eqlB rfl (F.ev rfl) (F.ev rfl) Try.underlying4) rfl rfl ?_; clear F; intro φ F
              rw [show (false == true) = false from rfl] at F
              refine qt_pure F (wt0 rfl) (pu_pickt rfl (F.ev rfl) (F.ev rfl)) rfl rfl ?_; clear F; intro φ F
              refine qt_pure F (wt0 rfl) (pu_assign rfl (F.ev rfl)) rfl rfl ?_; clear F; intro φ F
              refine wpQuiet_nil ?_
              clear M; intro ω M
              refine nxq ?_
              refine wp_ret ?_
              refine rt_tmp F rfl rfl ?_
              exfalso; clear F M; first | omega | simp_all
          · rw [hs10] at F
            have hs10i := of_decide_eq_true hs10
            cases hs12 : (decide (((L.length : Nat) : Int) = 0))
            · rw [hs12] at F
              have hs12i := of_decide_eq_false hs12
              refine qt_pure F (wt1 F rfl rfl rfl rfl rfl) (pu_eqlB rfl (F.ev rfl) (F.ev rfl) Try.underlying4) rfl rfl ?_; clear F; intro φ F
              rw [show (true == false) = false from rfl] at F
              refine qt_pure F (wt0 rfl) (pu_pickt rfl (F.ev rfl) (F.ev rfl)) rfl rfl ?_; clear F; intro φ F
              refine qt_pure F (wt0 rfl) (pu_assign rfl (F.ev rfl)) rfl rfl ?_; clear F; intro φ F
              refine wpQuiet_nil ?_
              clear M; intro ω M
              refine nxq ?_
              refine wp_ret ?_
              refine rt_tmp F rfl rfl ?_
              exfalso; clear F M; first | omega | simp_all
            · rw [hs12] at F
              have hs12i := of_decide_eq_true hs12
              refine qt_pure F (wt1 F rfl rfl rfl rfl rfl) (pu_eqlB rfl (F.ev rfl) (F.ev rfl) Try.underlying4) rfl rfl ?_; clear F; intro φ F
              rw [show (true == true) = true from rfl] at F
              refine qt_pure F (wt0 rfl) (pu_pickt rfl (F.ev rfl) (F.ev rfl)) rfl rfl ?_; clear F; intro φ F
              refine qt_pure F (wt0 rfl) (pu_assign rfl (F.ev rfl)) rfl rfl ?_; clear F; intro φ F
              refine wpQuiet_nil ?_
              clear M; intro ω M
              refine nxq ?_
              refine wp_ret ?_
              refine rt_tmp F rfl rfl ?_
              exact ⟨rfl, M.bel⟩
    · rw [hs3] at F
      have hs3i := of_decide_eq_true hs3
      refine wp_cond_true (F.ev rfl) ?_
      refine wp_skip ?_
      refine nxq ?_
      refine wp_seq ?_
      refine wp_block ?_
      refine wp_seq ?_
      -- region 8
      refine wp_region_lit ?_
      refine sq_pure F (wt0 rfl) (pu_assign rfl (evk)) rfl rfl ?_; clear F; intro φ F
      refine nx ?_
      refine wp_seq ?_
      refine wp_seq ?_
      -- region 9
      refine wp_region_lit ?_
      refine sq_pure F (wt0 rfl) (pu_assign rfl (evk)) rfl rfl ?_; clear F; intro φ F
      refine nx ?_
      refine wp_cut (fun φ' w' => ∃ bq : Bool, Fr φ' 108 [(0, a), (3, .pointer (some ⟨g1, 0, none⟩)), (5, .bool true), (6, v1), (7, .int .i64 i), (8, .bool bq)] ∧ Mm [] w w' [.row 28 2 v1 ((minL L).length) (cS (minL L)), .blk g1 28 #[.int .i64 t.e, .int .i64 t.r], .arg 2 a L.length (cS L)] ∧ (bq = true ↔ ∃ j, j < L.length ∧ atS L j = atS (minL L) i.toNat)) ?_ ?_
      · skip
        refine wp_block ?_
        refine lp (σ := Int) (fun q φ' w' => ∃ bq : Bool, Fr φ' 108 [(0, a), (3, .pointer (some ⟨g1, 0, none⟩)), (5, .bool true), (6, v1), (7, .int .i64 i), (8, .bool bq), (9, .int .i64 q)] ∧ Mm [] w w' [.row 28 2 v1 ((minL L).length) (cS (minL L)), .blk g1 28 #[.int .i64 t.e, .int .i64 t.r], .arg 2 a L.length (cS L)] ∧ (0 ≤ q) ∧ (q ≤ ((L.length : Nat) : Int)) ∧ (bq = true ↔ ∃ j, j < q.toNat ∧ atS L j = atS (minL L) i.toNat)) (fun q => (((L.length : Nat) : Int) - q).toNat) (0) ⟨false, (((((((F.nil.cons (F.get (k := 9) rfl)).cons (F.get (k := 8) rfl)).cons (F.get (k := 7) rfl)).cons (F.get (k := 6) rfl)).cons (F.get (k := 5) rfl)).cons (F.get (k := 3) rfl)).cons (F.get (k := 0) rfl)), M, Int.le_refl _, by omega, in_none⟩ ?_
        clear F M
        rintro q φ ω ⟨bq, F, M, hp13_0, hp13_1, hp13_2⟩
        refine wp_seq ?_
        refine wp_seq ?_
        -- region 10
        refine wp_region_lit ?_
        refine sq_pure F (wt0 rfl) (pu_move rfl (F.ev rfl)) rfl rfl ?_; clear F; intro φ F
        refine sq_pure F (wt0 rfl) (pu_move rfl (F.ev rfl)) rfl rfl ?_; clear F; intro φ F
        refine sq_pure F (wt0 rfl) (pu_len rfl (F.ev rfl) sl22 (M.av (i := 2) rfl)) rfl rfl ?_; clear F; intro φ F
        refine sq_pure F (wt0 rfl) (pu_lss rfl (F.ev rfl) (F.ev rfl)) rfl rfl ?_; clear F; intro φ F
        refine nx ?_
        cases hs14 : (decide (q < ((L.length : Nat) : Int)))
        · rw [hs14] at F
          have hs14i := of_decide_eq_false hs14
          refine wp_cond_false (F.ev rfl) ?_
          refine wp_exit ?_
          refine nxe ?_
          refine nxe ?_
          refine nxm ?_
          exact ⟨bq, ((((((F.nil.cons (F.get (k := 8) rfl)).cons (F.get (k := 7) rfl)).cons (F.get (k := 6) rfl)).cons (F.get (k := 5) rfl)).cons (F.get (k := 3) rfl)).cons (F.get (k := 0) rfl)), M, in_end hp13_2 (by omega)⟩
        · rw [hs14] at F
          have hs14i := of_decide_eq_true hs14
          refine wp_cond_true (F.ev rfl) ?_
          refine wp_skip ?_
          refine nxq ?_
          refine wp_seq ?_
          refine wp_block ?_
          -- region 12
          refine rg_quiet M mixedOK (by kernel_rfl) ?_
          refine qt_pure F (wt0 rfl) (pu_move rfl (F.ev rfl)) rfl rfl ?_; clear F; intro φ F
          refine qt_pure F (wt0 rfl) (pu_move rfl (F.ev rfl)) rfl rfl ?_; clear F; intro φ F
          cases hs15 : bq
          · rw [hs15] at F
            refine qt_pure F (wt1 F rfl rfl rfl rfl rfl) (pu_move rfl (F.ev rfl)) rfl rfl ?_; clear F; intro φ F
            refine qt_pure F (wt1 F rfl rfl rfl rfl rfl) (pu_move rfl (F.ev rfl)) rfl rfl ?_; clear F; intro φ F
            refine qt_pure F (wt1 F rfl rfl rfl rfl rfl) (pu_ix rfl (F.ev rfl) (F.ev rfl) sl22 (M.av (i := 2) rfl) (by omega) (by omega)) rfl rfl ?_; clear F; intro φ F
            refine qt_rd F (wt1 F rfl rfl rfl rfl rfl) (ld_el rfl (F.ev rfl) agg28 (fun _ h => RdV.below (M.av (i := 2) rfl) h) (by omega) (cS_at (by first | omega | (simp; done) | (simp; omega))) rfl) rfl rfl ?_; clear F; intro φ F
            refine qt_pure F (wt1 F rfl rfl rfl rfl rfl) (pu_move rfl (F.ev rfl)) rfl rfl ?_; clear F; intro φ F
            refine qt_pure F (wt1 F rfl rfl rfl rfl rfl) (pu_move rfl (F.ev rfl)) rfl rfl ?_; clear F; intro φ F
            refine qt_pure F (wt1 F rfl rfl rfl rfl rfl) (pu_ix rfl (F.ev rfl) (F.ev rfl) sl22 (M.rv (i := 0) rfl) (by omega) (by omega)) rfl rfl ?_; clear F; intro φ F
            refine qt_rd F (wt1 F rfl rfl rfl rfl rfl) (ld_el rfl (F.ev rfl) agg28 (fun _ h => RdV.below (M.rv (i := 0) rfl) h) (by omega) (cS_at (by first | omega | (simp; done) | (simp; omega))) rfl) rfl rfl ?_; clear F; intro φ F
            refine qt_pure F (wt1 F rfl rfl rfl rfl rfl) (pu_eqlA rfl (F.ev rfl) (F.ev rfl) eqg28 (fun w => eqS28 (atS L q.toNat) (atS (minL L) i.toNat) w)) rfl rfl ?_; clear F; intro φ F
            refine qt_pure F (wt0 rfl) (pu_pickf rfl (F.ev rfl) (F.ev rfl)) rfl rfl ?_; clear F; intro φ F
            refine qt_pure F (wt0 rfl) (pu_assign rfl (F.ev rfl)) rfl rfl ?_; clear F; intro φ F
            refine wpQuiet_nil ?_
            clear M; intro ω M
            refine nxb ?_
            refine nxq ?_
            -- region 11
            refine wp_region_lit ?_
            refine sq_pure F (wt0 rfl) (pu_move rfl (F.ev rfl)) rfl rfl ?_; clear F; intro φ F
            refine sq_pure F (wt0 rfl) (pu_add rfl (F.ev rfl) (evk) (by omega) (by omega)) rfl rfl ?_; clear F; intro φ F
            refine sq_pure F (wt0 rfl) (pu_assign rfl (F.ev rfl)) rfl rfl ?_; clear F; intro φ F
            refine wpList_nil ?_
            exact ⟨q + 1, by omega, (decide ((atS L q.toNat) = (atS (minL L) i.toNat))), (((((((F.nil.cons (F.get (k := 9) rfl)).cons (F.get (k := 8) rfl)).cons (F.get (k := 7) rfl)).cons (F.get (k := 6) rfl)).cons (F.get (k := 5) rfl)).cons (F.get (k := 3) rfl)).cons (F.get (k := 0) rfl)), M, by omega, by omega, in_step hp13_0 (hs15 ▸ hp13_2) (by simp)⟩
          · rw [hs15] at F
            refine qt_skip F (wtn F rfl rfl rfl rfl rfl) rfl rfl ?_; clear F; intro φ F
            refine qt_skip F (wtn F rfl rfl rfl rfl rfl) rfl rfl ?_; clear F; intro φ F
            refine qt_skip F (wtn F rfl rfl rfl rfl rfl) rfl rfl ?_; clear F; intro φ F
            refine qt_skip F (wtn F rfl rfl rfl rfl rfl) rfl rfl ?_; clear F; intro φ F
            refine qt_skip F (wtn F rfl rfl rfl rfl rfl) rfl rfl ?_; clear F; intro φ F
            refine qt_skip F (wtn F rfl rfl rfl rfl rfl) rfl rfl ?_; clear F; intro φ F
            refine qt_skip F (wtn F rfl rfl rfl rfl rfl) rfl rfl ?_; clear F; intro φ F
            refine qt_skip F (wtn F rfl rfl rfl rfl rfl) rfl rfl ?_; clear F; intro φ F
            refine qt_skip F (wtn F rfl rfl rfl rfl rfl) rfl rfl ?_; clear F; intro φ F
            refine qt_pure F (wt0 rfl) (pu_pickt rfl (F.ev rfl) (evk)) rfl rfl ?_; clear F; intro φ F
            refine qt_pure F (wt0 rfl) (pu_assign rfl (F.ev rfl)) rfl rfl ?_; clear F; intro φ F
            refine wpQuiet_nil ?_
            clear M; intro ω M
            refine nxb ?_
            refine nxq ?_
            -- region 11
            refine wp_region_lit ?_
            refine sq_pure F (wt0 rfl) (pu_move rfl (F.ev rfl)) rfl rfl ?_; clear F; intro φ F
            refine sq_pure F (wt0 rfl) (pu_add rfl (F.ev rfl) (evk) (by omega) (by omega)) rfl rfl ?_; clear F; intro φ F
            refine sq_pure F (wt0 rfl) (pu_assign rfl (F.ev rfl)) rfl rfl ?_; clear F; intro φ F
            refine wpList_nil ?_
            exact ⟨q + 1, by omega, true, (((((((F.nil.cons (F.get (k := 9) rfl)).cons (F.get (k := 8) rfl)).cons (F.get (k := 7) rfl)).cons (F.get (k := 6) rfl)).cons (F.get (k := 5) rfl)).cons (F.get (k := 3) rfl)).cons (F.get (k := 0) rfl)), M, by omega, by omega, in_step hp13_0 (hs15 ▸ hp13_2) (by simp)⟩
      · skip
        clear F M
        rintro φ ω ⟨bq, F, M, hp16_0⟩
        refine nxq ?_
        refine wp_seq ?_
        refine wp_seq ?_
        -- region 13
        refine rg_quiet M mixedOK (by kernel_rfl) ?_
        refine qt_pure F (wt0 rfl) (pu_move rfl (F.ev rfl)) rfl rfl ?_; clear F; intro φ F
        cases hs17 : bq
        · rw [hs17] at F
          refine qt_pure F (wt0 rfl) (pu_not rfl (F.ev rfl)) rfl rfl ?_; clear F; intro φ F
          rw [show (!false) = true from rfl] at F
          refine qt_pure F (wt0 rfl) (pu_move rfl (F.ev rfl)) rfl rfl ?_; clear F; intro φ F
          refine qt_skip F (wtn F rfl rfl rfl rfl rfl) rfl rfl ?_; clear F; intro φ F
          refine qt_skip F (wtn F rfl rfl rfl rfl rfl) rfl rfl ?_; clear F; intro φ F
          refine qt_skip F (wtn F rfl rfl rfl rfl rfl) rfl rfl ?_; clear F; intro φ F
          refine qt_skip F (wtu F rfl rfl rfl rfl rfl) rfl rfl ?_; clear F; intro φ F
          refine qt_skip F (wtu F rfl rfl rfl rfl rfl) rfl rfl ?_; clear F; intro φ F
          refine qt_skip F (wtu F rfl rfl rfl rfl rfl) rfl rfl ?_; clear F; intro φ F
          refine qt_skip F (wtu F rfl rfl rfl rfl rfl) rfl rfl ?_; clear F; intro φ F
          refine qt_skip F (wtu F rfl rfl rfl rfl rfl) rfl rfl ?_; clear F; intro φ F
          refine qt_skip F (wtu F rfl rfl rfl rfl rfl) rfl rfl ?_; clear F; intro φ F
          refine qt_skip F (wtu F rfl rfl rfl rfl rfl) rfl rfl ?_; clear F; intro φ F
          refine qt_skip F (wtu F rfl rfl rfl rfl rfl) rfl rfl ?_; clear F; intro φ F
          refine qt_skip F (wtu F rfl rfl rfl rfl rfl) rfl rfl ?_; clear F; intro φ F
          refine qt_skip F (wtu F rfl rfl rfl rfl rfl) rfl rfl ?_; clear F; intro φ F
          refine qt_skip F (wtu F rfl rfl rfl rfl rfl) rfl rfl ?_; clear F; intro φ F
          refine qt_skip F (wtn F rfl rfl rfl rfl rfl) rfl rfl ?_; clear F; intro φ F
          refine qt_pure F (wt0 rfl) (pu_pickt rfl (F.ev rfl) (evk)) rfl rfl ?_; clear F; intro φ F
          refine wpQuiet_nil ?_
          clear M; intro ω M
          refine nxq ?_
          refine wp_cut (fun φ' w' => Fr φ' 108 [(0, a), (3, .pointer (some ⟨g1, 0, none⟩)), (5, .bool true), (6, v1), (7, .int .i64 i)] ∧ Mm [] w w' [.row 28 2 v1 ((minL L).length) (cS (minL L)), .blk g1 28 #[.int .i64 t.e, .int .i64 t.r], .arg 2 a L.length (cS L)]) ?_ ?_
          · skip
            refine wp_cond_true (F.ev rfl) ?_
            refine wp_seq ?_
            -- region 14
            refine wp_region_lit ?_
            refine sq_pure F (wt0 rfl) (pu_assign rfl (evk)) rfl rfl ?_; clear F; intro φ F
            refine nx ?_
            refine wp_ret ?_
            refine nxcR ?_
            refine nxr ?_
            refine nxrb ?_
            refine nxr ?_
            refine nxr ?_
            refine nxrb ?_
            refine nxr ?_
            refine rt_tmp F rfl rfl ?_
            exfalso; exact in_false (L := L) hp16_0 hs17 (by omega)
          · skip
            clear F M
            rintro φ ω ⟨F, M⟩
            refine nxq ?_
            refine wp_seq ?_
            -- region 15
            refine wp_region_lit ?_
            refine sq_pure F (wt0 rfl) (pu_assign rfl (evk)) rfl rfl ?_; clear F; intro φ F
            refine nx ?_
            refine wp_cut (fun φ' w' => Fr φ' 108 [(0, a), (3, .pointer (some ⟨g1, 0, none⟩)), (5, .bool true), (6, v1), (7, .int .i64 i)] ∧ Mm [] w w' [.row 28 2 v1 ((minL L).length) (cS (minL L)), .blk g1 28 #[.int .i64 t.e, .int .i64 t.r], .arg 2 a L.length (cS L)]) ?_ ?_
            · skip
              refine wp_block ?_
              refine lp (σ := Int) (fun p φ' w' => Fr φ' 108 [(0, a), (3, .pointer (some ⟨g1, 0, none⟩)), (5, .bool true), (6, v1), (7, .int .i64 i), (10, .int .i64 p)] ∧ Mm [] w w' [.row 28 2 v1 ((minL L).length) (cS (minL L)), .blk g1 28 #[.int .i64 t.e, .int .i64 t.r], .arg 2 a L.length (cS L)] ∧ (0 ≤ p) ∧ (p ≤ (((minL L).length : Nat) : Int))) (fun p => ((((minL L).length : Nat) : Int) - p).toNat) (0) ⟨((((((F.nil.cons (F.get (k := 10) rfl)).cons (F.get (k := 7) rfl)).cons (F.get (k := 6) rfl)).cons (F.get (k := 5) rfl)).cons (F.get (k := 3) rfl)).cons (F.get (k := 0) rfl)), M, Int.le_refl _, by omega⟩ ?_
              clear F M
              rintro p φ ω ⟨F, M, hp19_0, hp19_1⟩
              refine wp_seq ?_
              refine wp_seq ?_
              -- region 16
              refine wp_region_lit ?_
              refine sq_pure F (wt0 rfl) (pu_move rfl (F.ev rfl)) rfl rfl ?_; clear F; intro φ F
              refine sq_pure F (wt0 rfl) (pu_move rfl (F.ev rfl)) rfl rfl ?_; clear F; intro φ F
              refine sq_pure F (wt0 rfl) (pu_len rfl (F.ev rfl) sl22 (M.rv (i := 0) rfl)) rfl rfl ?_; clear F; intro φ F
              refine sq_pure F (wt0 rfl) (pu_lss rfl (F.ev rfl) (F.ev rfl)) rfl rfl ?_; clear F; intro φ F
              refine nx ?_
              cases hs20 : (decide (p < (((minL L).length : Nat) : Int)))
              · rw [hs20] at F
                have hs20i := of_decide_eq_false hs20
                refine wp_cond_false (F.ev rfl) ?_
                refine wp_exit ?_
                refine nxe ?_
                refine nxe ?_
                refine nxm ?_
                exact ⟨(((((F.nil.cons (F.get (k := 7) rfl)).cons (F.get (k := 6) rfl)).cons (F.get (k := 5) rfl)).cons (F.get (k := 3) rfl)).cons (F.get (k := 0) rfl)), M⟩
              · rw [hs20] at F
                have hs20i := of_decide_eq_true hs20
                refine wp_cond_true (F.ev rfl) ?_
                refine wp_skip ?_
                refine nxq ?_
                refine wp_seq ?_
                refine wp_block ?_
                refine wp_seq ?_
                -- region 18
                refine rg_quiet M mixedOK (by kernel_rfl) ?_
                refine qt_pure F (wt0 rfl) (pu_move rfl (F.ev rfl)) rfl rfl ?_; clear F; intro φ F
                refine qt_pure F (wt0 rfl) (pu_move rfl (F.ev rfl)) rfl rfl ?_; clear F; intro φ F
                cases hs21 : (decide (p = i))
                · skip
                  have hs21i := of_decide_eq_false hs21
                  refine qt_pure F (wt0 rfl) (pu_neqI rfl (F.ev rfl) (F.ev rfl)) rfl rfl ?_; clear F; intro φ F
                  rw [hs21, show (!false) = true from rfl] at F
                  refine qt_pure F (wt0 rfl) (pu_move rfl (F.ev rfl)) rfl rfl ?_; clear F; intro φ F
                  refine qt_pure F (wt1 F rfl rfl rfl rfl rfl) (pu_move rfl (F.ev rfl)) rfl rfl ?_; clear F; intro φ F
                  refine qt_pure F (wt1 F rfl rfl rfl rfl rfl) (pu_move rfl (F.ev rfl)) rfl rfl ?_; clear F; intro φ F
                  refine qt_pure F (wt1 F rfl rfl rfl rfl rfl) (pu_ix rfl (F.ev rfl) (F.ev rfl) sl22 (M.rv (i := 0) rfl) (by omega) (by omega)) rfl rfl ?_; clear F; intro φ F
                  refine qt_rd F (wt1 F rfl rfl rfl rfl rfl) (ld_el rfl (F.ev rfl) agg28 (fun _ h => RdV.below (M.rv (i := 0) rfl) h) (by omega) (cS_at (by first | omega | (simp; done) | (simp; omega))) rfl) rfl rfl ?_; clear F; intro φ F
                  refine qt_pure F (wt1 F rfl rfl rfl rfl rfl) (pu_move rfl (F.ev rfl)) rfl rfl ?_; clear F; intro φ F
                  refine qt_pure F (wt1 F rfl rfl rfl rfl rfl) (pu_move rfl (F.ev rfl)) rfl rfl ?_; clear F; intro φ F
                  refine qt_pure F (wt1 F rfl rfl rfl rfl rfl) (pu_ix rfl (F.ev rfl) (F.ev rfl) sl22 (M.rv (i := 0) rfl) (by omega) (by omega)) rfl rfl ?_; clear F; intro φ F
                  refine qt_rd F (wt1 F rfl rfl rfl rfl rfl) (ld_el rfl (F.ev rfl) agg28 (fun _ h => RdV.below (M.rv (i := 0) rfl) h) (by omega) (cS_at (by first | omega | (simp; done) | (simp; omega))) rfl) rfl rfl ?_; clear F; intro φ F
                  refine qt_call F (wt1 F rfl rfl rfl rfl rfl) rfl en22 (evc (F.ev rfl) (evc (F.ev rfl) evn)) (fun w' h => calls_below h (rle_any (atS (minL L) p.toNat) (atS (minL L) i.toNat) w')) rfl rfl ?_; clear F; intro φ F
                  refine qt_pure F (wt0 rfl) (pu_pickt rfl (F.ev rfl) (F.ev rfl)) rfl rfl ?_; clear F; intro φ F
                  refine wpQuiet_nil ?_
                  clear M; intro ω M
                  refine nxq ?_
                  cases hs22 : ((atS (minL L) p.toNat).leB (atS (minL L) i.toNat))
                  · rw [hs22] at F
                    refine wp_cond_false (F.ev rfl) ?_
                    refine wp_skip ?_
                    refine nxb ?_
                    refine nxq ?_
                    -- region 17
                    refine wp_region_lit ?_
                    refine sq_pure F (wt0 rfl) (pu_move rfl (F.ev rfl)) rfl rfl ?_; clear F; intro φ F
                    refine sq_pure F (wt0 rfl) (pu_add rfl (F.ev rfl) (evk) (by omega) (by omega)) rfl rfl ?_; clear F; intro φ F
                    refine sq_pure F (wt0 rfl) (pu_assign rfl (F.ev rfl)) rfl rfl ?_; clear F; intro φ F
                    refine wpList_nil ?_
                    exact ⟨p + 1, by omega, ((((((F.nil.cons (F.get (k := 10) rfl)).cons (F.get (k := 7) rfl)).cons (F.get (k := 6) rfl)).cons (F.get (k := 5) rfl)).cons (F.get (k := 3) rfl)).cons (F.get (k := 0) rfl)), M, by omega, by omega⟩
                  · rw [hs22] at F
                    refine wp_cond_true (F.ev rfl) ?_
                    refine wp_seq ?_
                    -- region 19
                    refine wp_region_lit ?_
                    refine sq_pure F (wt0 rfl) (pu_assign rfl (evk)) rfl rfl ?_; clear F; intro φ F
                    refine nx ?_
                    refine wp_ret ?_
                    refine nxrb ?_
                    refine nxr ?_
                    refine nxr ?_
                    refine nxrb ?_
                    refine nxcR ?_
                    refine nxrb ?_
                    refine nxr ?_
                    refine nxr ?_
                    refine nxrb ?_
                    refine nxr ?_
                    refine rt_tmp F rfl rfl ?_
                    exfalso; exact min_false (L := L) hs22 (by omega) (by omega) (by omega)
                · skip
                  have hs21i := of_decide_eq_true hs21
                  refine qt_pure F (wt0 rfl) (pu_neqI rfl (F.ev rfl) (F.ev rfl)) rfl rfl ?_; clear F; intro φ F
                  rw [hs21, show (!true) = false from rfl] at F
                  refine qt_pure F (wt0 rfl) (pu_move rfl (F.ev rfl)) rfl rfl ?_; clear F; intro φ F
                  refine qt_skip F (wtn F rfl rfl rfl rfl rfl) rfl rfl ?_; clear F; intro φ F
                  refine qt_skip F (wtn F rfl rfl rfl rfl rfl) rfl rfl ?_; clear F; intro φ F
                  refine qt_skip F (wtn F rfl rfl rfl rfl rfl) rfl rfl ?_; clear F; intro φ F
                  refine qt_skip F (wtn F rfl rfl rfl rfl rfl) rfl rfl ?_; clear F; intro φ F
                  refine qt_skip F (wtn F rfl rfl rfl rfl rfl) rfl rfl ?_; clear F; intro φ F
                  refine qt_skip F (wtn F rfl rfl rfl rfl rfl) rfl rfl ?_; clear F; intro φ F
                  refine qt_skip F (wtn F rfl rfl rfl rfl rfl) rfl rfl ?_; clear F; intro φ F
                  refine qt_skip F (wtn F rfl rfl rfl rfl rfl) rfl rfl ?_; clear F; intro φ F
                  refine qt_skip F (wtn F rfl rfl rfl rfl rfl) rfl rfl ?_; clear F; intro φ F
                  refine qt_pure F (wt0 rfl) (pu_pickf rfl (F.ev rfl) (evk)) rfl rfl ?_; clear F; intro φ F
                  refine wpQuiet_nil ?_
                  clear M; intro ω M
                  refine nxq ?_
                  refine wp_cond_false (F.ev rfl) ?_
                  refine wp_skip ?_
                  refine nxb ?_
                  refine nxq ?_
                  -- region 17
                  refine wp_region_lit ?_
                  refine sq_pure F (wt0 rfl) (pu_move rfl (F.ev rfl)) rfl rfl ?_; clear F; intro φ F
                  refine sq_pure F (wt0 rfl) (pu_add rfl (F.ev rfl) (evk) (by omega) (by omega)) rfl rfl ?_; clear F; intro φ F
                  refine sq_pure F (wt0 rfl) (pu_assign rfl (F.ev rfl)) rfl rfl ?_; clear F; intro φ F
                  refine wpList_nil ?_
                  exact ⟨p + 1, by omega, ((((((F.nil.cons (F.get (k := 10) rfl)).cons (F.get (k := 7) rfl)).cons (F.get (k := 6) rfl)).cons (F.get (k := 5) rfl)).cons (F.get (k := 3) rfl)).cons (F.get (k := 0) rfl)), M, by omega, by omega⟩
            · skip
              clear F M
              rintro φ ω ⟨F, M⟩
              refine nxb ?_
              refine nxq ?_
              -- region 7
              refine wp_region_lit ?_
              refine sq_pure F (wt0 rfl) (pu_move rfl (F.ev rfl)) rfl rfl ?_; clear F; intro φ F
              refine sq_pure F (wt0 rfl) (pu_add rfl (F.ev rfl) (evk) (by omega) (by omega)) rfl rfl ?_; clear F; intro φ F
              refine sq_pure F (wt0 rfl) (pu_assign rfl (F.ev rfl)) rfl rfl ?_; clear F; intro φ F
              refine wpList_nil ?_
              exact ⟨i + 1, by omega, (((((F.nil.cons (F.get (k := 7) rfl)).cons (F.get (k := 6) rfl)).cons (F.get (k := 5) rfl)).cons (F.get (k := 3) rfl)).cons (F.get (k := 0) rfl)), M, by omega, by omega⟩
        · rw [hs17] at F
          refine qt_pure F (wt0 rfl) (pu_not rfl (F.ev rfl)) rfl rfl ?_; clear F; intro φ F
          rw [show (!true) = false from rfl] at F
          refine qt_pure F (wt0 rfl) (pu_move rfl (F.ev rfl)) rfl rfl ?_; clear F; intro φ F
          refine qt_pure F (wt1 F rfl rfl rfl rfl rfl) (pu_move rfl (F.ev rfl)) rfl rfl ?_; clear F; intro φ F
          refine qt_pure F (wt1 F rfl rfl rfl rfl rfl) (pu_gtr rfl (F.ev rfl) (evk)) rfl rfl ?_; clear F; intro φ F
          refine qt_pure F (wt1 F rfl rfl rfl rfl rfl) (pu_move rfl (F.ev rfl)) rfl rfl ?_; clear F; intro φ F
          cases hs24 : (decide (0 < i))
          · rw [hs24] at F
            have hs24i := of_decide_eq_false hs24
            refine qt_skip F (wtn F rfl rfl rfl rfl rfl) rfl rfl ?_; clear F; intro φ F
            refine qt_skip F (wtn F rfl rfl rfl rfl rfl) rfl rfl ?_; clear F; intro φ F
            refine qt_skip F (wtn F rfl rfl rfl rfl rfl) rfl rfl ?_; clear F; intro φ F
            refine qt_skip F (wtn F rfl rfl rfl rfl rfl) rfl rfl ?_; clear F; intro φ F
            refine qt_skip F (wtn F rfl rfl rfl rfl rfl) rfl rfl ?_; clear F; intro φ F
            refine qt_skip F (wtn F rfl rfl rfl rfl rfl) rfl rfl ?_; clear F; intro φ F
            refine qt_skip F (wtn F rfl rfl rfl rfl rfl) rfl rfl ?_; clear F; intro φ F
            refine qt_skip F (wtn F rfl rfl rfl rfl rfl) rfl rfl ?_; clear F; intro φ F
            refine qt_skip F (wtn F rfl rfl rfl rfl rfl) rfl rfl ?_; clear F; intro φ F
            refine qt_skip F (wtn F rfl rfl rfl rfl rfl) rfl rfl ?_; clear F; intro φ F
            refine qt_skip F (wtn F rfl rfl rfl rfl rfl) rfl rfl ?_; clear F; intro φ F
            refine qt_pure F (wt1 F rfl rfl rfl rfl rfl) (pu_pickf rfl (F.ev rfl) (evk)) rfl rfl ?_; clear F; intro φ F
            refine qt_pure F (wt0 rfl) (pu_pickf rfl (F.ev rfl) (F.ev rfl)) rfl rfl ?_; clear F; intro φ F
            refine wpQuiet_nil ?_
            clear M; intro ω M
            refine nxq ?_
            refine wp_cut (fun φ' w' => Fr φ' 108 [(0, a), (3, .pointer (some ⟨g1, 0, none⟩)), (5, .bool true), (6, v1), (7, .int .i64 i)] ∧ Mm [] w w' [.row 28 2 v1 ((minL L).length) (cS (minL L)), .blk g1 28 #[.int .i64 t.e, .int .i64 t.r], .arg 2 a L.length (cS L)]) ?_ ?_
            · skip
              refine wp_cond_false (F.ev rfl) ?_
              refine wp_skip ?_
              exact ⟨(((((F.nil.cons (F.get (k := 7) rfl)).cons (F.get (k := 6) rfl)).cons (F.get (k := 5) rfl)).cons (F.get (k := 3) rfl)).cons (F.get (k := 0) rfl)), M⟩
            · skip
              clear F M
              rintro φ ω ⟨F, M⟩
              refine nxq ?_
              refine wp_seq ?_
              -- region 15
              refine wp_region_lit ?_
              refine sq_pure F (wt0 rfl) (pu_assign rfl (evk)) rfl rfl ?_; clear F; intro φ F
              refine nx ?_
              refine wp_cut (fun φ' w' => Fr φ' 108 [(0, a), (3, .pointer (some ⟨g1, 0, none⟩)), (5, .bool true), (6, v1), (7, .int .i64 i)] ∧ Mm [] w w' [.row 28 2 v1 ((minL L).length) (cS (minL L)), .blk g1 28 #[.int .i64 t.e, .int .i64 t.r], .arg 2 a L.length (cS L)]) ?_ ?_
              · skip
                refine wp_block ?_
                refine lp (σ := Int) (fun p φ' w' => Fr φ' 108 [(0, a), (3, .pointer (some ⟨g1, 0, none⟩)), (5, .bool true), (6, v1), (7, .int .i64 i), (10, .int .i64 p)] ∧ Mm [] w w' [.row 28 2 v1 ((minL L).length) (cS (minL L)), .blk g1 28 #[.int .i64 t.e, .int .i64 t.r], .arg 2 a L.length (cS L)] ∧ (0 ≤ p) ∧ (p ≤ (((minL L).length : Nat) : Int))) (fun p => ((((minL L).length : Nat) : Int) - p).toNat) (0) ⟨((((((F.nil.cons (F.get (k := 10) rfl)).cons (F.get (k := 7) rfl)).cons (F.get (k := 6) rfl)).cons (F.get (k := 5) rfl)).cons (F.get (k := 3) rfl)).cons (F.get (k := 0) rfl)), M, Int.le_refl _, by omega⟩ ?_
                clear F M
                rintro p φ ω ⟨F, M, hp26_0, hp26_1⟩
                refine wp_seq ?_
                refine wp_seq ?_
                -- region 16
                refine wp_region_lit ?_
                refine sq_pure F (wt0 rfl) (pu_move rfl (F.ev rfl)) rfl rfl ?_; clear F; intro φ F
                refine sq_pure F (wt0 rfl) (pu_move rfl (F.ev rfl)) rfl rfl ?_; clear F; intro φ F
                refine sq_pure F (wt0 rfl) (pu_len rfl (F.ev rfl) sl22 (M.rv (i := 0) rfl)) rfl rfl ?_; clear F; intro φ F
                refine sq_pure F (wt0 rfl) (pu_lss rfl (F.ev rfl) (F.ev rfl)) rfl rfl ?_; clear F; intro φ F
                refine nx ?_
                cases hs27 : (decide (p < (((minL L).length : Nat) : Int)))
                · rw [hs27] at F
                  have hs27i := of_decide_eq_false hs27
                  refine wp_cond_false (F.ev rfl) ?_
                  refine wp_exit ?_
                  refine nxe ?_
                  refine nxe ?_
                  refine nxm ?_
                  exact ⟨(((((F.nil.cons (F.get (k := 7) rfl)).cons (F.get (k := 6) rfl)).cons (F.get (k := 5) rfl)).cons (F.get (k := 3) rfl)).cons (F.get (k := 0) rfl)), M⟩
                · rw [hs27] at F
                  have hs27i := of_decide_eq_true hs27
                  refine wp_cond_true (F.ev rfl) ?_
                  refine wp_skip ?_
                  refine nxq ?_
                  refine wp_seq ?_
                  refine wp_block ?_
                  refine wp_seq ?_
                  -- region 18
                  refine rg_quiet M mixedOK (by kernel_rfl) ?_
                  refine qt_pure F (wt0 rfl) (pu_move rfl (F.ev rfl)) rfl rfl ?_; clear F; intro φ F
                  refine qt_pure F (wt0 rfl) (pu_move rfl (F.ev rfl)) rfl rfl ?_; clear F; intro φ F
                  cases hs28 : (decide (p = i))
                  · skip
                    have hs28i := of_decide_eq_false hs28
                    refine qt_pure F (wt0 rfl) (pu_neqI rfl (F.ev rfl) (F.ev rfl)) rfl rfl ?_; clear F; intro φ F
                    rw [hs28, show (!false) = true from rfl] at F
                    refine qt_pure F (wt0 rfl) (pu_move rfl (F.ev rfl)) rfl rfl ?_; clear F; intro φ F
                    refine qt_pure F (wt1 F rfl rfl rfl rfl rfl) (pu_move rfl (F.ev rfl)) rfl rfl ?_; clear F; intro φ F
                    refine qt_pure F (wt1 F rfl rfl rfl rfl rfl) (pu_move rfl (F.ev rfl)) rfl rfl ?_; clear F; intro φ F
                    refine qt_pure F (wt1 F rfl rfl rfl rfl rfl) (pu_ix rfl (F.ev rfl) (F.ev rfl) sl22 (M.rv (i := 0) rfl) (by omega) (by omega)) rfl rfl ?_; clear F; intro φ F
                    refine qt_rd F (wt1 F rfl rfl rfl rfl rfl) (ld_el rfl (F.ev rfl) agg28 (fun _ h => RdV.below (M.rv (i := 0) rfl) h) (by omega) (cS_at (by first | omega | (simp; done) | (simp; omega))) rfl) rfl rfl ?_; clear F; intro φ F
                    refine qt_pure F (wt1 F rfl rfl rfl rfl rfl) (pu_move rfl (F.ev rfl)) rfl rfl ?_; clear F; intro φ F
                    refine qt_pure F (wt1 F rfl rfl rfl rfl rfl) (pu_move rfl (F.ev rfl)) rfl rfl ?_; clear F; intro φ F
                    refine qt_pure F (wt1 F rfl rfl rfl rfl rfl) (pu_ix rfl (F.ev rfl) (F.ev rfl) sl22 (M.rv (i := 0) rfl) (by omega) (by omega)) rfl rfl ?_; clear F; intro φ F
                    refine qt_rd F (wt1 F rfl rfl rfl rfl rfl) (ld_el rfl (F.ev rfl) agg28 (fun _ h => RdV.below (M.rv (i := 0) rfl) h) (by omega) (cS_at (by first | omega | (simp; done) | (simp; omega))) rfl) rfl rfl ?_; clear F; intro φ F
                    refine qt_call F (wt1 F rfl rfl rfl rfl rfl) rfl en22 (evc (F.ev rfl) (evc (F.ev rfl) evn)) (fun w' h => calls_below h (rle_any (atS (minL L) p.toNat) (atS (minL L) i.toNat) w')) rfl rfl ?_; clear F; intro φ F
                    refine qt_pure F (wt0 rfl) (pu_pickt rfl (F.ev rfl) (F.ev rfl)) rfl rfl ?_; clear F; intro φ F
                    refine wpQuiet_nil ?_
                    clear M; intro ω M
                    refine nxq ?_
                    cases hs29 : ((atS (minL L) p.toNat).leB (atS (minL L) i.toNat))
                    · rw [hs29] at F
                      refine wp_cond_false (F.ev rfl) ?_
                      refine wp_skip ?_
                      refine nxb ?_
                      refine nxq ?_
                      -- region 17
                      refine wp_region_lit ?_
                      refine sq_pure F (wt0 rfl) (pu_move rfl (F.ev rfl)) rfl rfl ?_; clear F; intro φ F
                      refine sq_pure F (wt0 rfl) (pu_add rfl (F.ev rfl) (evk) (by omega) (by omega)) rfl rfl ?_; clear F; intro φ F
                      refine sq_pure F (wt0 rfl) (pu_assign rfl (F.ev rfl)) rfl rfl ?_; clear F; intro φ F
                      refine wpList_nil ?_
                      exact ⟨p + 1, by omega, ((((((F.nil.cons (F.get (k := 10) rfl)).cons (F.get (k := 7) rfl)).cons (F.get (k := 6) rfl)).cons (F.get (k := 5) rfl)).cons (F.get (k := 3) rfl)).cons (F.get (k := 0) rfl)), M, by omega, by omega⟩
                    · rw [hs29] at F
                      refine wp_cond_true (F.ev rfl) ?_
                      refine wp_seq ?_
                      -- region 19
                      refine wp_region_lit ?_
                      refine sq_pure F (wt0 rfl) (pu_assign rfl (evk)) rfl rfl ?_; clear F; intro φ F
                      refine nx ?_
                      refine wp_ret ?_
                      refine nxrb ?_
                      refine nxr ?_
                      refine nxr ?_
                      refine nxrb ?_
                      refine nxcR ?_
                      refine nxrb ?_
                      refine nxr ?_
                      refine nxr ?_
                      refine nxrb ?_
                      refine nxr ?_
                      refine rt_tmp F rfl rfl ?_
                      exfalso; exact min_false (L := L) hs29 (by omega) (by omega) (by omega)
                  · skip
                    have hs28i := of_decide_eq_true hs28
                    refine qt_pure F (wt0 rfl) (pu_neqI rfl (F.ev rfl) (F.ev rfl)) rfl rfl ?_; clear F; intro φ F
                    rw [hs28, show (!true) = false from rfl] at F
                    refine qt_pure F (wt0 rfl) (pu_move rfl (F.ev rfl)) rfl rfl ?_; clear F; intro φ F
                    refine qt_skip F (wtn F rfl rfl rfl rfl rfl) rfl rfl ?_; clear F; intro φ F
                    refine qt_skip F (wtn F rfl rfl rfl rfl rfl) rfl rfl ?_; clear F; intro φ F
                    refine qt_skip F (wtn F rfl rfl rfl rfl rfl) rfl rfl ?_; clear F; intro φ F
                    refine qt_skip F (wtn F rfl rfl rfl rfl rfl) rfl rfl ?_; clear F; intro φ F
                    refine qt_skip F (wtn F rfl rfl rfl rfl rfl) rfl rfl ?_; clear F; intro φ F
                    refine qt_skip F (wtn F rfl rfl rfl rfl rfl) rfl rfl ?_; clear F; intro φ F
                    refine qt_skip F (wtn F rfl rfl rfl rfl rfl) rfl rfl ?_; clear F; intro φ F
                    refine qt_skip F (wtn F rfl rfl rfl rfl rfl) rfl rfl ?_; clear F; intro φ F
                    refine qt_skip F (wtn F rfl rfl rfl rfl rfl) rfl rfl ?_; clear F; intro φ F
                    refine qt_pure F (wt0 rfl) (pu_pickf rfl (F.ev rfl) (evk)) rfl rfl ?_; clear F; intro φ F
                    refine wpQuiet_nil ?_
                    clear M; intro ω M
                    refine nxq ?_
                    refine wp_cond_false (F.ev rfl) ?_
                    refine wp_skip ?_
                    refine nxb ?_
                    refine nxq ?_
                    -- region 17
                    refine wp_region_lit ?_
                    refine sq_pure F (wt0 rfl) (pu_move rfl (F.ev rfl)) rfl rfl ?_; clear F; intro φ F
                    refine sq_pure F (wt0 rfl) (pu_add rfl (F.ev rfl) (evk) (by omega) (by omega)) rfl rfl ?_; clear F; intro φ F
                    refine sq_pure F (wt0 rfl) (pu_assign rfl (F.ev rfl)) rfl rfl ?_; clear F; intro φ F
                    refine wpList_nil ?_
                    exact ⟨p + 1, by omega, ((((((F.nil.cons (F.get (k := 10) rfl)).cons (F.get (k := 7) rfl)).cons (F.get (k := 6) rfl)).cons (F.get (k := 5) rfl)).cons (F.get (k := 3) rfl)).cons (F.get (k := 0) rfl)), M, by omega, by omega⟩
              · skip
                clear F M
                rintro φ ω ⟨F, M⟩
                refine nxb ?_
                refine nxq ?_
                -- region 7
                refine wp_region_lit ?_
                refine sq_pure F (wt0 rfl) (pu_move rfl (F.ev rfl)) rfl rfl ?_; clear F; intro φ F
                refine sq_pure F (wt0 rfl) (pu_add rfl (F.ev rfl) (evk) (by omega) (by omega)) rfl rfl ?_; clear F; intro φ F
                refine sq_pure F (wt0 rfl) (pu_assign rfl (F.ev rfl)) rfl rfl ?_; clear F; intro φ F
                refine wpList_nil ?_
                exact ⟨i + 1, by omega, (((((F.nil.cons (F.get (k := 7) rfl)).cons (F.get (k := 6) rfl)).cons (F.get (k := 5) rfl)).cons (F.get (k := 3) rfl)).cons (F.get (k := 0) rfl)), M, by omega, by omega⟩
          · rw [hs24] at F
            have hs24i := of_decide_eq_true hs24
            refine qt_pure F (wt1 F rfl rfl rfl rfl rfl) (pu_move rfl (F.ev rfl)) rfl rfl ?_; clear F; intro φ F
            refine qt_pure F (wt1 F rfl rfl rfl rfl rfl) (pu_move rfl (F.ev rfl)) rfl rfl ?_; clear F; intro φ F
            refine qt_pure F (wt1 F rfl rfl rfl rfl rfl) (pu_sub rfl (F.ev rfl) (evk) (by omega) (by omega)) rfl rfl ?_; clear F; intro φ F
            refine qt_pure F (wt1 F rfl rfl rfl rfl rfl) (pu_ix rfl (F.ev rfl) (F.ev rfl) sl22 (M.rv (i := 0) rfl) (by omega) (by omega)) rfl rfl ?_; clear F; intro φ F
            refine qt_rd F (wt1 F rfl rfl rfl rfl rfl) (ld_el rfl (F.ev rfl) agg28 (fun _ h => RdV.below (M.rv (i := 0) rfl) h) (by omega) (cS_at (by first | omega | (simp; done) | (simp; omega))) rfl) rfl rfl ?_; clear F; intro φ F
            refine qt_pure F (wt1 F rfl rfl rfl rfl rfl) (pu_move rfl (F.ev rfl)) rfl rfl ?_; clear F; intro φ F
            refine qt_pure F (wt1 F rfl rfl rfl rfl rfl) (pu_move rfl (F.ev rfl)) rfl rfl ?_; clear F; intro φ F
            refine qt_pure F (wt1 F rfl rfl rfl rfl rfl) (pu_ix rfl (F.ev rfl) (F.ev rfl) sl22 (M.rv (i := 0) rfl) (by omega) (by omega)) rfl rfl ?_; clear F; intro φ F
            refine qt_rd F (wt1 F rfl rfl rfl rfl rfl) (ld_el rfl (F.ev rfl) agg28 (fun _ h => RdV.below (M.rv (i := 0) rfl) h) (by omega) (cS_at (by first | omega | (simp; done) | (simp; omega))) rfl) rfl rfl ?_; clear F; intro φ F
            refine qt_call F (wt1 F rfl rfl rfl rfl rfl) rfl en21 (evc (F.ev rfl) (evc (F.ev rfl) evn)) (fun w' h => calls_below h (rahead_any (atS (minL L) ((i - 1).toNat)) (atS (minL L) i.toNat) w')) rfl rfl ?_; clear F; intro φ F
            cases hs31 : ((atS (minL L) ((i - 1).toNat)).aheadB (atS (minL L) i.toNat))
            · rw [hs31] at F
              refine qt_pure F (wt1 F rfl rfl rfl rfl rfl) (pu_not rfl (F.ev rfl)) rfl rfl ?_; clear F; intro φ F
              rw [show (!false) = true from rfl] at F
              refine qt_pure F (wt1 F rfl rfl rfl rfl rfl) (pu_pickt rfl (F.ev rfl) (F.ev rfl)) rfl rfl ?_; clear F; intro φ F
              refine qt_pure F (wt0 rfl) (pu_pickf rfl (F.ev rfl) (F.ev rfl)) rfl rfl ?_; clear F; intro φ F
              refine wpQuiet_nil ?_
              clear M; intro ω M
              refine nxq ?_
              refine wp_cut (fun φ' w' => Fr φ' 108 [(0, a), (3, .pointer (some ⟨g1, 0, none⟩)), (5, .bool true), (6, v1), (7, .int .i64 i)] ∧ Mm [] w w' [.row 28 2 v1 ((minL L).length) (cS (minL L)), .blk g1 28 #[.int .i64 t.e, .int .i64 t.r], .arg 2 a L.length (cS L)]) ?_ ?_
              · skip
                refine wp_cond_true (F.ev rfl) ?_
                refine wp_seq ?_
                -- region 14
                refine wp_region_lit ?_
                refine sq_pure F (wt0 rfl) (pu_assign rfl (evk)) rfl rfl ?_; clear F; intro φ F
                refine nx ?_
                refine wp_ret ?_
                refine nxcR ?_
                refine nxr ?_
                refine nxrb ?_
                refine nxr ?_
                refine nxr ?_
                refine nxrb ?_
                refine nxr ?_
                refine rt_tmp F rfl rfl ?_
                exfalso; exact asc_false (L := L) hs31 (by omega) (by omega)
              · skip
                clear F M
                rintro φ ω ⟨F, M⟩
                refine nxq ?_
                refine wp_seq ?_
                -- region 15
                refine wp_region_lit ?_
                refine sq_pure F (wt0 rfl) (pu_assign rfl (evk)) rfl rfl ?_; clear F; intro φ F
                refine nx ?_
                refine wp_cut (fun φ' w' => Fr φ' 108 [(0, a), (3, .pointer (some ⟨g1, 0, none⟩)), (5, .bool true), (6, v1), (7, .int .i64 i)] ∧ Mm [] w w' [.row 28 2 v1 ((minL L).length) (cS (minL L)), .blk g1 28 #[.int .i64 t.e, .int .i64 t.r], .arg 2 a L.length (cS L)]) ?_ ?_
                · skip
                  refine wp_block ?_
                  refine lp (σ := Int) (fun p φ' w' => Fr φ' 108 [(0, a), (3, .pointer (some ⟨g1, 0, none⟩)), (5, .bool true), (6, v1), (7, .int .i64 i), (10, .int .i64 p)] ∧ Mm [] w w' [.row 28 2 v1 ((minL L).length) (cS (minL L)), .blk g1 28 #[.int .i64 t.e, .int .i64 t.r], .arg 2 a L.length (cS L)] ∧ (0 ≤ p) ∧ (p ≤ (((minL L).length : Nat) : Int))) (fun p => ((((minL L).length : Nat) : Int) - p).toNat) (0) ⟨((((((F.nil.cons (F.get (k := 10) rfl)).cons (F.get (k := 7) rfl)).cons (F.get (k := 6) rfl)).cons (F.get (k := 5) rfl)).cons (F.get (k := 3) rfl)).cons (F.get (k := 0) rfl)), M, Int.le_refl _, by omega⟩ ?_
                  clear F M
                  rintro p φ ω ⟨F, M, hp33_0, hp33_1⟩
                  refine wp_seq ?_
                  refine wp_seq ?_
                  -- region 16
                  refine wp_region_lit ?_
                  refine sq_pure F (wt0 rfl) (pu_move rfl (F.ev rfl)) rfl rfl ?_; clear F; intro φ F
                  refine sq_pure F (wt0 rfl) (pu_move rfl (F.ev rfl)) rfl rfl ?_; clear F; intro φ F
                  refine sq_pure F (wt0 rfl) (pu_len rfl (F.ev rfl) sl22 (M.rv (i := 0) rfl)) rfl rfl ?_; clear F; intro φ F
                  refine sq_pure F (wt0 rfl) (pu_lss rfl (F.ev rfl) (F.ev rfl)) rfl rfl ?_; clear F; intro φ F
                  refine nx ?_
                  cases hs34 : (decide (p < (((minL L).length : Nat) : Int)))
                  · rw [hs34] at F
                    have hs34i := of_decide_eq_false hs34
                    refine wp_cond_false (F.ev rfl) ?_
                    refine wp_exit ?_
                    refine nxe ?_
                    refine nxe ?_
                    refine nxm ?_
                    exact ⟨(((((F.nil.cons (F.get (k := 7) rfl)).cons (F.get (k := 6) rfl)).cons (F.get (k := 5) rfl)).cons (F.get (k := 3) rfl)).cons (F.get (k := 0) rfl)), M⟩
                  · rw [hs34] at F
                    have hs34i := of_decide_eq_true hs34
                    refine wp_cond_true (F.ev rfl) ?_
                    refine wp_skip ?_
                    refine nxq ?_
                    refine wp_seq ?_
                    refine wp_block ?_
                    refine wp_seq ?_
                    -- region 18
                    refine rg_quiet M mixedOK (by kernel_rfl) ?_
                    refine qt_pure F (wt0 rfl) (pu_move rfl (F.ev rfl)) rfl rfl ?_; clear F; intro φ F
                    refine qt_pure F (wt0 rfl) (pu_move rfl (F.ev rfl)) rfl rfl ?_; clear F; intro φ F
                    cases hs35 : (decide (p = i))
                    · skip
                      have hs35i := of_decide_eq_false hs35
                      refine qt_pure F (wt0 rfl) (pu_neqI rfl (F.ev rfl) (F.ev rfl)) rfl rfl ?_; clear F; intro φ F
                      rw [hs35, show (!false) = true from rfl] at F
                      refine qt_pure F (wt0 rfl) (pu_move rfl (F.ev rfl)) rfl rfl ?_; clear F; intro φ F
                      refine qt_pure F (wt1 F rfl rfl rfl rfl rfl) (pu_move rfl (F.ev rfl)) rfl rfl ?_; clear F; intro φ F
                      refine qt_pure F (wt1 F rfl rfl rfl rfl rfl) (pu_move rfl (F.ev rfl)) rfl rfl ?_; clear F; intro φ F
                      refine qt_pure F (wt1 F rfl rfl rfl rfl rfl) (pu_ix rfl (F.ev rfl) (F.ev rfl) sl22 (M.rv (i := 0) rfl) (by omega) (by omega)) rfl rfl ?_; clear F; intro φ F
                      refine qt_rd F (wt1 F rfl rfl rfl rfl rfl) (ld_el rfl (F.ev rfl) agg28 (fun _ h => RdV.below (M.rv (i := 0) rfl) h) (by omega) (cS_at (by first | omega | (simp; done) | (simp; omega))) rfl) rfl rfl ?_; clear F; intro φ F
                      refine qt_pure F (wt1 F rfl rfl rfl rfl rfl) (pu_move rfl (F.ev rfl)) rfl rfl ?_; clear F; intro φ F
                      refine qt_pure F (wt1 F rfl rfl rfl rfl rfl) (pu_move rfl (F.ev rfl)) rfl rfl ?_; clear F; intro φ F
                      refine qt_pure F (wt1 F rfl rfl rfl rfl rfl) (pu_ix rfl (F.ev rfl) (F.ev rfl) sl22 (M.rv (i := 0) rfl) (by omega) (by omega)) rfl rfl ?_; clear F; intro φ F
                      refine qt_rd F (wt1 F rfl rfl rfl rfl rfl) (ld_el rfl (F.ev rfl) agg28 (fun _ h => RdV.below (M.rv (i := 0) rfl) h) (by omega) (cS_at (by first | omega | (simp; done) | (simp; omega))) rfl) rfl rfl ?_; clear F; intro φ F
                      refine qt_call F (wt1 F rfl rfl rfl rfl rfl) rfl en22 (evc (F.ev rfl) (evc (F.ev rfl) evn)) (fun w' h => calls_below h (rle_any (atS (minL L) p.toNat) (atS (minL L) i.toNat) w')) rfl rfl ?_; clear F; intro φ F
                      refine qt_pure F (wt0 rfl) (pu_pickt rfl (F.ev rfl) (F.ev rfl)) rfl rfl ?_; clear F; intro φ F
                      refine wpQuiet_nil ?_
                      clear M; intro ω M
                      refine nxq ?_
                      cases hs36 : ((atS (minL L) p.toNat).leB (atS (minL L) i.toNat))
                      · rw [hs36] at F
                        refine wp_cond_false (F.ev rfl) ?_
                        refine wp_skip ?_
                        refine nxb ?_
                        refine nxq ?_
                        -- region 17
                        refine wp_region_lit ?_
                        refine sq_pure F (wt0 rfl) (pu_move rfl (F.ev rfl)) rfl rfl ?_; clear F; intro φ F
                        refine sq_pure F (wt0 rfl) (pu_add rfl (F.ev rfl) (evk) (by omega) (by omega)) rfl rfl ?_; clear F; intro φ F
                        refine sq_pure F (wt0 rfl) (pu_assign rfl (F.ev rfl)) rfl rfl ?_; clear F; intro φ F
                        refine wpList_nil ?_
                        exact ⟨p + 1, by omega, ((((((F.nil.cons (F.get (k := 10) rfl)).cons (F.get (k := 7) rfl)).cons (F.get (k := 6) rfl)).cons (F.get (k := 5) rfl)).cons (F.get (k := 3) rfl)).cons (F.get (k := 0) rfl)), M, by omega, by omega⟩
                      · rw [hs36] at F
                        refine wp_cond_true (F.ev rfl) ?_
                        refine wp_seq ?_
                        -- region 19
                        refine wp_region_lit ?_
                        refine sq_pure F (wt0 rfl) (pu_assign rfl (evk)) rfl rfl ?_; clear F; intro φ F
                        refine nx ?_
                        refine wp_ret ?_
                        refine nxrb ?_
                        refine nxr ?_
                        refine nxr ?_
                        refine nxrb ?_
                        refine nxcR ?_
                        refine nxrb ?_
                        refine nxr ?_
                        refine nxr ?_
                        refine nxrb ?_
                        refine nxr ?_
                        refine rt_tmp F rfl rfl ?_
                        exfalso; exact min_false (L := L) hs36 (by omega) (by omega) (by omega)
                    · skip
                      have hs35i := of_decide_eq_true hs35
                      refine qt_pure F (wt0 rfl) (pu_neqI rfl (F.ev rfl) (F.ev rfl)) rfl rfl ?_; clear F; intro φ F
                      rw [hs35, show (!true) = false from rfl] at F
                      refine qt_pure F (wt0 rfl) (pu_move rfl (F.ev rfl)) rfl rfl ?_; clear F; intro φ F
                      refine qt_skip F (wtn F rfl rfl rfl rfl rfl) rfl rfl ?_; clear F; intro φ F
                      refine qt_skip F (wtn F rfl rfl rfl rfl rfl) rfl rfl ?_; clear F; intro φ F
                      refine qt_skip F (wtn F rfl rfl rfl rfl rfl) rfl rfl ?_; clear F; intro φ F
                      refine qt_skip F (wtn F rfl rfl rfl rfl rfl) rfl rfl ?_; clear F; intro φ F
                      refine qt_skip F (wtn F rfl rfl rfl rfl rfl) rfl rfl ?_; clear F; intro φ F
                      refine qt_skip F (wtn F rfl rfl rfl rfl rfl) rfl rfl ?_; clear F; intro φ F
                      refine qt_skip F (wtn F rfl rfl rfl rfl rfl) rfl rfl ?_; clear F; intro φ F
                      refine qt_skip F (wtn F rfl rfl rfl rfl rfl) rfl rfl ?_; clear F; intro φ F
                      refine qt_skip F (wtn F rfl rfl rfl rfl rfl) rfl rfl ?_; clear F; intro φ F
                      refine qt_pure F (wt0 rfl) (pu_pickf rfl (F.ev rfl) (evk)) rfl rfl ?_; clear F; intro φ F
                      refine wpQuiet_nil ?_
                      clear M; intro ω M
                      refine nxq ?_
                      refine wp_cond_false (F.ev rfl) ?_
                      refine wp_skip ?_
                      refine nxb ?_
                      refine nxq ?_
                      -- region 17
                      refine wp_region_lit ?_
                      refine sq_pure F (wt0 rfl) (pu_move rfl (F.ev rfl)) rfl rfl ?_; clear F; intro φ F
                      refine sq_pure F (wt0 rfl) (pu_add rfl (F.ev rfl) (evk) (by omega) (by omega)) rfl rfl ?_; clear F; intro φ F
                      refine sq_pure F (wt0 rfl) (pu_assign rfl (F.ev rfl)) rfl rfl ?_; clear F; intro φ F
                      refine wpList_nil ?_
                      exact ⟨p + 1, by omega, ((((((F.nil.cons (F.get (k := 10) rfl)).cons (F.get (k := 7) rfl)).cons (F.get (k := 6) rfl)).cons (F.get (k := 5) rfl)).cons (F.get (k := 3) rfl)).cons (F.get (k := 0) rfl)), M, by omega, by omega⟩
                · skip
                  clear F M
                  rintro φ ω ⟨F, M⟩
                  refine nxb ?_
                  refine nxq ?_
                  -- region 7
                  refine wp_region_lit ?_
                  refine sq_pure F (wt0 rfl) (pu_move rfl (F.ev rfl)) rfl rfl ?_; clear F; intro φ F
                  refine sq_pure F (wt0 rfl) (pu_add rfl (F.ev rfl) (evk) (by omega) (by omega)) rfl rfl ?_; clear F; intro φ F
                  refine sq_pure F (wt0 rfl) (pu_assign rfl (F.ev rfl)) rfl rfl ?_; clear F; intro φ F
                  refine wpList_nil ?_
                  exact ⟨i + 1, by omega, (((((F.nil.cons (F.get (k := 7) rfl)).cons (F.get (k := 6) rfl)).cons (F.get (k := 5) rfl)).cons (F.get (k := 3) rfl)).cons (F.get (k := 0) rfl)), M, by omega, by omega⟩
            · rw [hs31] at F
              refine qt_pure F (wt1 F rfl rfl rfl rfl rfl) (pu_not rfl (F.ev rfl)) rfl rfl ?_; clear F; intro φ F
              rw [show (!true) = false from rfl] at F
              refine qt_pure F (wt1 F rfl rfl rfl rfl rfl) (pu_pickt rfl (F.ev rfl) (F.ev rfl)) rfl rfl ?_; clear F; intro φ F
              refine qt_pure F (wt0 rfl) (pu_pickf rfl (F.ev rfl) (F.ev rfl)) rfl rfl ?_; clear F; intro φ F
              refine wpQuiet_nil ?_
              clear M; intro ω M
              refine nxq ?_
              refine wp_cut (fun φ' w' => Fr φ' 108 [(0, a), (3, .pointer (some ⟨g1, 0, none⟩)), (5, .bool true), (6, v1), (7, .int .i64 i)] ∧ Mm [] w w' [.row 28 2 v1 ((minL L).length) (cS (minL L)), .blk g1 28 #[.int .i64 t.e, .int .i64 t.r], .arg 2 a L.length (cS L)]) ?_ ?_
              · skip
                refine wp_cond_false (F.ev rfl) ?_
                refine wp_skip ?_
                exact ⟨(((((F.nil.cons (F.get (k := 7) rfl)).cons (F.get (k := 6) rfl)).cons (F.get (k := 5) rfl)).cons (F.get (k := 3) rfl)).cons (F.get (k := 0) rfl)), M⟩
              · skip
                clear F M
                rintro φ ω ⟨F, M⟩
                refine nxq ?_
                refine wp_seq ?_
                -- region 15
                refine wp_region_lit ?_
                refine sq_pure F (wt0 rfl) (pu_assign rfl (evk)) rfl rfl ?_; clear F; intro φ F
                refine nx ?_
                refine wp_cut (fun φ' w' => Fr φ' 108 [(0, a), (3, .pointer (some ⟨g1, 0, none⟩)), (5, .bool true), (6, v1), (7, .int .i64 i)] ∧ Mm [] w w' [.row 28 2 v1 ((minL L).length) (cS (minL L)), .blk g1 28 #[.int .i64 t.e, .int .i64 t.r], .arg 2 a L.length (cS L)]) ?_ ?_
                · skip
                  refine wp_block ?_
                  refine lp (σ := Int) (fun p φ' w' => Fr φ' 108 [(0, a), (3, .pointer (some ⟨g1, 0, none⟩)), (5, .bool true), (6, v1), (7, .int .i64 i), (10, .int .i64 p)] ∧ Mm [] w w' [.row 28 2 v1 ((minL L).length) (cS (minL L)), .blk g1 28 #[.int .i64 t.e, .int .i64 t.r], .arg 2 a L.length (cS L)] ∧ (0 ≤ p) ∧ (p ≤ (((minL L).length : Nat) : Int))) (fun p => ((((minL L).length : Nat) : Int) - p).toNat) (0) ⟨((((((F.nil.cons (F.get (k := 10) rfl)).cons (F.get (k := 7) rfl)).cons (F.get (k := 6) rfl)).cons (F.get (k := 5) rfl)).cons (F.get (k := 3) rfl)).cons (F.get (k := 0) rfl)), M, Int.le_refl _, by omega⟩ ?_
                  clear F M
                  rintro p φ ω ⟨F, M, hp39_0, hp39_1⟩
                  refine wp_seq ?_
                  refine wp_seq ?_
                  -- region 16
                  refine wp_region_lit ?_
                  refine sq_pure F (wt0 rfl) (pu_move rfl (F.ev rfl)) rfl rfl ?_; clear F; intro φ F
                  refine sq_pure F (wt0 rfl) (pu_move rfl (F.ev rfl)) rfl rfl ?_; clear F; intro φ F
                  refine sq_pure F (wt0 rfl) (pu_len rfl (F.ev rfl) sl22 (M.rv (i := 0) rfl)) rfl rfl ?_; clear F; intro φ F
                  refine sq_pure F (wt0 rfl) (pu_lss rfl (F.ev rfl) (F.ev rfl)) rfl rfl ?_; clear F; intro φ F
                  refine nx ?_
                  cases hs40 : (decide (p < (((minL L).length : Nat) : Int)))
                  · rw [hs40] at F
                    have hs40i := of_decide_eq_false hs40
                    refine wp_cond_false (F.ev rfl) ?_
                    refine wp_exit ?_
                    refine nxe ?_
                    refine nxe ?_
                    refine nxm ?_
                    exact ⟨(((((F.nil.cons (F.get (k := 7) rfl)).cons (F.get (k := 6) rfl)).cons (F.get (k := 5) rfl)).cons (F.get (k := 3) rfl)).cons (F.get (k := 0) rfl)), M⟩
                  · rw [hs40] at F
                    have hs40i := of_decide_eq_true hs40
                    refine wp_cond_true (F.ev rfl) ?_
                    refine wp_skip ?_
                    refine nxq ?_
                    refine wp_seq ?_
                    refine wp_block ?_
                    refine wp_seq ?_
                    -- region 18
                    refine rg_quiet M mixedOK (by kernel_rfl) ?_
                    refine qt_pure F (wt0 rfl) (pu_move rfl (F.ev rfl)) rfl rfl ?_; clear F; intro φ F
                    refine qt_pure F (wt0 rfl) (pu_move rfl (F.ev rfl)) rfl rfl ?_; clear F; intro φ F
                    cases hs41 : (decide (p = i))
                    · skip
                      have hs41i := of_decide_eq_false hs41
                      refine qt_pure F (wt0 rfl) (pu_neqI rfl (F.ev rfl) (F.ev rfl)) rfl rfl ?_; clear F; intro φ F
                      rw [hs41, show (!false) = true from rfl] at F
                      refine qt_pure F (wt0 rfl) (pu_move rfl (F.ev rfl)) rfl rfl ?_; clear F; intro φ F
                      refine qt_pure F (wt1 F rfl rfl rfl rfl rfl) (pu_move rfl (F.ev rfl)) rfl rfl ?_; clear F; intro φ F
                      refine qt_pure F (wt1 F rfl rfl rfl rfl rfl) (pu_move rfl (F.ev rfl)) rfl rfl ?_; clear F; intro φ F
                      refine qt_pure F (wt1 F rfl rfl rfl rfl rfl) (pu_ix rfl (F.ev rfl) (F.ev rfl) sl22 (M.rv (i := 0) rfl) (by omega) (by omega)) rfl rfl ?_; clear F; intro φ F
                      refine qt_rd F (wt1 F rfl rfl rfl rfl rfl) (ld_el rfl (F.ev rfl) agg28 (fun _ h => RdV.below (M.rv (i := 0) rfl) h) (by omega) (cS_at (by first | omega | (simp; done) | (simp; omega))) rfl) rfl rfl ?_; clear F; intro φ F
                      refine qt_pure F (wt1 F rfl rfl rfl rfl rfl) (pu_move rfl (F.ev rfl)) rfl rfl ?_; clear F; intro φ F
                      refine qt_pure F (wt1 F rfl rfl rfl rfl rfl) (pu_move rfl (F.ev rfl)) rfl rfl ?_; clear F; intro φ F
                      refine qt_pure F (wt1 F rfl rfl rfl rfl rfl) (pu_ix rfl (F.ev rfl) (F.ev rfl) sl22 (M.rv (i := 0) rfl) (by omega) (by omega)) rfl rfl ?_; clear F; intro φ F
                      refine qt_rd F (wt1 F rfl rfl rfl rfl rfl) (ld_el rfl (F.ev rfl) agg28 (fun _ h => RdV.below (M.rv (i := 0) rfl) h) (by omega) (cS_at (by first | omega | (simp; done) | (simp; omega))) rfl) rfl rfl ?_; clear F; intro φ F
                      refine qt_call F (wt1 F rfl rfl rfl rfl rfl) rfl en22 (evc (F.ev rfl) (evc (F.ev rfl) evn)) (fun w' h => calls_below h (rle_any (atS (minL L) p.toNat) (atS (minL L) i.toNat) w')) rfl rfl ?_; clear F; intro φ F
                      refine qt_pure F (wt0 rfl) (pu_pickt rfl (F.ev rfl) (F.ev rfl)) rfl rfl ?_; clear F; intro φ F
                      refine wpQuiet_nil ?_
                      clear M; intro ω M
                      refine nxq ?_
                      cases hs42 : ((atS (minL L) p.toNat).leB (atS (minL L) i.toNat))
                      · rw [hs42] at F
                        refine wp_cond_false (F.ev rfl) ?_
                        refine wp_skip ?_
                        refine nxb ?_
                        refine nxq ?_
                        -- region 17
                        refine wp_region_lit ?_
                        refine sq_pure F (wt0 rfl) (pu_move rfl (F.ev rfl)) rfl rfl ?_; clear F; intro φ F
                        refine sq_pure F (wt0 rfl) (pu_add rfl (F.ev rfl) (evk) (by omega) (by omega)) rfl rfl ?_; clear F; intro φ F
                        refine sq_pure F (wt0 rfl) (pu_assign rfl (F.ev rfl)) rfl rfl ?_; clear F; intro φ F
                        refine wpList_nil ?_
                        exact ⟨p + 1, by omega, ((((((F.nil.cons (F.get (k := 10) rfl)).cons (F.get (k := 7) rfl)).cons (F.get (k := 6) rfl)).cons (F.get (k := 5) rfl)).cons (F.get (k := 3) rfl)).cons (F.get (k := 0) rfl)), M, by omega, by omega⟩
                      · rw [hs42] at F
                        refine wp_cond_true (F.ev rfl) ?_
                        refine wp_seq ?_
                        -- region 19
                        refine wp_region_lit ?_
                        refine sq_pure F (wt0 rfl) (pu_assign rfl (evk)) rfl rfl ?_; clear F; intro φ F
                        refine nx ?_
                        refine wp_ret ?_
                        refine nxrb ?_
                        refine nxr ?_
                        refine nxr ?_
                        refine nxrb ?_
                        refine nxcR ?_
                        refine nxrb ?_
                        refine nxr ?_
                        refine nxr ?_
                        refine nxrb ?_
                        refine nxr ?_
                        refine rt_tmp F rfl rfl ?_
                        exfalso; exact min_false (L := L) hs42 (by omega) (by omega) (by omega)
                    · skip
                      have hs41i := of_decide_eq_true hs41
                      refine qt_pure F (wt0 rfl) (pu_neqI rfl (F.ev rfl) (F.ev rfl)) rfl rfl ?_; clear F; intro φ F
                      rw [hs41, show (!true) = false from rfl] at F
                      refine qt_pure F (wt0 rfl) (pu_move rfl (F.ev rfl)) rfl rfl ?_; clear F; intro φ F
                      refine qt_skip F (wtn F rfl rfl rfl rfl rfl) rfl rfl ?_; clear F; intro φ F
                      refine qt_skip F (wtn F rfl rfl rfl rfl rfl) rfl rfl ?_; clear F; intro φ F
                      refine qt_skip F (wtn F rfl rfl rfl rfl rfl) rfl rfl ?_; clear F; intro φ F
                      refine qt_skip F (wtn F rfl rfl rfl rfl rfl) rfl rfl ?_; clear F; intro φ F
                      refine qt_skip F (wtn F rfl rfl rfl rfl rfl) rfl rfl ?_; clear F; intro φ F
                      refine qt_skip F (wtn F rfl rfl rfl rfl rfl) rfl rfl ?_; clear F; intro φ F
                      refine qt_skip F (wtn F rfl rfl rfl rfl rfl) rfl rfl ?_; clear F; intro φ F
                      refine qt_skip F (wtn F rfl rfl rfl rfl rfl) rfl rfl ?_; clear F; intro φ F
                      refine qt_skip F (wtn F rfl rfl rfl rfl rfl) rfl rfl ?_; clear F; intro φ F
                      refine qt_pure F (wt0 rfl) (pu_pickf rfl (F.ev rfl) (evk)) rfl rfl ?_; clear F; intro φ F
                      refine wpQuiet_nil ?_
                      clear M; intro ω M
                      refine nxq ?_
                      refine wp_cond_false (F.ev rfl) ?_
                      refine wp_skip ?_
                      refine nxb ?_
                      refine nxq ?_
                      -- region 17
                      refine wp_region_lit ?_
                      refine sq_pure F (wt0 rfl) (pu_move rfl (F.ev rfl)) rfl rfl ?_; clear F; intro φ F
                      refine sq_pure F (wt0 rfl) (pu_add rfl (F.ev rfl) (evk) (by omega) (by omega)) rfl rfl ?_; clear F; intro φ F
                      refine sq_pure F (wt0 rfl) (pu_assign rfl (F.ev rfl)) rfl rfl ?_; clear F; intro φ F
                      refine wpList_nil ?_
                      exact ⟨p + 1, by omega, ((((((F.nil.cons (F.get (k := 10) rfl)).cons (F.get (k := 7) rfl)).cons (F.get (k := 6) rfl)).cons (F.get (k := 5) rfl)).cons (F.get (k := 3) rfl)).cons (F.get (k := 0) rfl)), M, by omega, by omega⟩
                · skip
                  clear F M
                  rintro φ ω ⟨F, M⟩
                  refine nxb ?_
                  refine nxq ?_
                  -- region 7
                  refine wp_region_lit ?_
                  refine sq_pure F (wt0 rfl) (pu_move rfl (F.ev rfl)) rfl rfl ?_; clear F; intro φ F
                  refine sq_pure F (wt0 rfl) (pu_add rfl (F.ev rfl) (evk) (by omega) (by omega)) rfl rfl ?_; clear F; intro φ F
                  refine sq_pure F (wt0 rfl) (pu_assign rfl (F.ev rfl)) rfl rfl ?_; clear F; intro φ F
                  refine wpList_nil ?_
                  exact ⟨i + 1, by omega, (((((F.nil.cons (F.get (k := 7) rfl)).cons (F.get (k := 6) rfl)).cons (F.get (k := 5) rfl)).cons (F.get (k := 3) rfl)).cons (F.get (k := 0) rfl)), M, by omega, by omega⟩
  · rw [hs1] at F
    have hs1i := of_decide_eq_true hs1
    refine wp_cond_true (F.ev rfl) ?_
    refine wp_seq ?_
    -- region 3
    refine wp_region_lit ?_
    refine sq_pure F (wt0 rfl) (pu_move rfl (F.ev rfl)) rfl rfl ?_; clear F; intro φ F
    refine sq_pure F (wt0 rfl) (pu_assign rfl (F.ev rfl)) rfl rfl ?_; clear F; intro φ F
    refine nx ?_
    refine wp_ret ?_
    refine nxr ?_
    refine rt_tmp F rfl rfl ?_
    exact ⟨rfl, M.bel⟩

end Go.Proofs.Ytabpnebiannglaa
