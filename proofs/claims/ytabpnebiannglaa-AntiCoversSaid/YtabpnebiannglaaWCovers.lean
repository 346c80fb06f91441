/- Laws of layer 3. Made by walks/antilaws.py. -/
import Derived.Test.YtabpnebiannglaaAl
namespace Go.Proofs.Ytabpnebiannglaa
open Go.RowKit Go.Sort

set_option maxHeartbeats 4000000 in
theorem antiCovers_walk (K L : List St) (t : St) (a b : Value) (w : World) (ha : RdS w a K) (hb : RdS w b L) :
    Calls Try.prog 4 #[a, b, .agg #[.int .i64 t.e, .int .i64 t.r]] w fun e w' => e = .returned (.bool true) ∧ Below w.heap.size w w' := by
  refine enterF Try.func4 rfl 37 Try.ntmps4 [a, b, .agg #[.int .i64 t.e, .int .i64 t.r]] rfl [(0, a), (1, b), (2, .agg #[.int .i64 t.e, .int .i64 t.r])] rfl ?_
  intro φ F
  have M := Mm.start [] w
  replace M := M.addArg (hb)
  replace M := M.addArg (ha)
  refine wp_seq ?_
  -- region 0
  refine wp_region_lit ?_
  refine sq_box F M (wt0 rfl) rfl (F.ev rfl) (cs := #[.int .i64 t.e, .int .i64 t.r]) rfl rfl rfl ?_; clear F M; intro φ ω g1 F M
  refine sq_pure F (wt0 rfl) (pu_assign rfl (evk)) rfl rfl ?_; clear F; intro φ F
  refine nx ?_
  refine wp_seq ?_
  -- region 1
  refine wp_region_lit ?_
  refine sq_call F M (wt0 rfl) rfl en11 evn (awake_any _) rfl rfl ?_; clear F M; intro φ ω F M
  refine sq_pure F (wt0 rfl) (pu_assign rfl (F.ev rfl)) rfl rfl ?_; clear F; intro φ F
  refine nx ?_
  refine wp_seq ?_
  refine wp_seq ?_
  -- region 2
  refine wp_region_lit ?_
  refine sq_pure F (wt0 rfl) (pu_move rfl (F.ev rfl)) rfl rfl ?_; clear F; intro φ F
  refine sq_pure F (wt0 rfl) (pu_len rfl (F.ev rfl) sl22 (M.av (i := 1) rfl)) rfl rfl ?_; clear F; intro φ F
  refine sq_pure F (wt0 rfl) (pu_gtr rfl (F.ev rfl) (evk)) rfl rfl ?_; clear F; intro φ F
  refine sq_pure F (wt0 rfl) (pu_move rfl (F.ev rfl)) rfl rfl ?_; clear F; intro φ F
  cases hs1 : (decide (500 < ((K.length : Nat) : Int)))
  · rw [hs1] at F
    have hs1i := of_decide_eq_false hs1
    refine sq_pure F (wt1 F rfl rfl rfl rfl rfl) (pu_move rfl (F.ev rfl)) rfl rfl ?_; clear F; intro φ F
    refine sq_pure F (wt1 F rfl rfl rfl rfl rfl) (pu_len rfl (F.ev rfl) sl22 (M.av (i := 2) rfl)) rfl rfl ?_; clear F; intro φ F
    refine sq_pure F (wt1 F rfl rfl rfl rfl rfl) (pu_gtr rfl (F.ev rfl) (evk)) rfl rfl ?_; clear F; intro φ F
    refine sq_pure F (wt0 rfl) (pu_pickf rfl (F.ev rfl) (F.ev rfl)) rfl rfl ?_; clear F; intro φ F
    refine nx ?_
    cases hs2 : (decide (500 < ((L.length : Nat) : Int)))
    · rw [hs2] at F
      have hs2i := of_decide_eq_false hs2
      refine wp_cond_false (F.ev rfl) ?_
      refine wp_skip ?_
      refine nxq ?_
      refine wp_seq ?_
      -- region 4
      refine rg_quiet M mixedOK (by kernel_rfl) ?_
      refine qt_pure F (wt0 rfl) (pu_move rfl (F.ev rfl)) rfl rfl ?_; clear F; intro φ F
      refine qt_pure F (wt0 rfl) (pu_move rfl (F.ev rfl)) rfl rfl ?_; clear F; intro φ F
      refine qt_pure F (wt1 F rfl rfl rfl rfl rfl) (pu_move rfl (F.ev rfl)) rfl rfl ?_; clear F; intro φ F
      refine qt_rd F (wt1 F rfl rfl rfl rfl rfl) (ld_agg rfl (F.ev rfl) agg28 (M.rdB (i := 0) rfl) rfl) rfl rfl ?_; clear F; intro φ F
      refine qt_call F (wt1 F rfl rfl rfl rfl rfl) rfl en17 (evc (F.ev rfl) (evc (F.ev rfl) evn)) (fun w' h => calls_below h (covers_any K t _ w' (RdV.below (M.av (i := 1) rfl) h) (by first | omega | (simp; done) | (simp; omega)))) rfl rfl ?_; clear F; intro φ F
      refine qt_pure F (wt1 F rfl rfl rfl rfl rfl) (pu_move rfl (F.ev rfl)) rfl rfl ?_; clear F; intro φ F
      refine qt_rd F (wt1 F rfl rfl rfl rfl rfl) (ld_agg rfl (F.ev rfl) agg28 (M.rdB (i := 0) rfl) rfl) rfl rfl ?_; clear F; intro φ F
      refine qt_call F (wt1 F rfl rfl rfl rfl rfl) rfl en18 (evc (F.ev rfl) (evc (F.ev rfl) evn)) (fun w' h => calls_below h (rcov_any K t _ w' (RdV.below (M.av (i := 1) rfl) h) (by first | omega | (simp; done) | (simp; omega)))) rfl rfl ?_; clear F; intro φ F
      cases hs3 : (covB K t)
      · rw [hs3] at F
        refine qt_pure F (wt1 F rfl rfl rfl rfl rfl) (pu_eqlB rfl (F.ev rfl) (F.ev rfl) Try.underlying4) rfl rfl ?_; clear F; intro φ F
        rw [show (false == false) = true from rfl] at F
        refine qt_pure F (wt0 rfl) (pu_pickt rfl (F.ev rfl) (F.ev rfl)) rfl rfl ?_; clear F; intro φ F
        refine qt_pure F (wt0 rfl) (pu_move rfl (F.ev rfl)) rfl rfl ?_; clear F; intro φ F
        refine qt_pure F (wt1 F rfl rfl rfl rfl rfl) (pu_move rfl (F.ev rfl)) rfl rfl ?_; clear F; intro φ F
        refine qt_pure F (wt1 F rfl rfl rfl rfl rfl) (pu_move rfl (F.ev rfl)) rfl rfl ?_; clear F; intro φ F
        refine qt_call F (wt1 F rfl rfl rfl rfl rfl) rfl en19 (evc (F.ev rfl) (evc (F.ev rfl) evn)) (fun w' h => calls_below h (beyond_any K L _ _ w' (RdV.below (M.av (i := 1) rfl) h) (RdV.below (M.av (i := 2) rfl) h) (by omega) (by omega))) rfl rfl ?_; clear F; intro φ F
        refine qt_pure F (wt1 F rfl rfl rfl rfl rfl) (pu_move rfl (F.ev rfl)) rfl rfl ?_; clear F; intro φ F
        refine qt_pure F (wt1 F rfl rfl rfl rfl rfl) (pu_move rfl (F.ev rfl)) rfl rfl ?_; clear F; intro φ F
        refine qt_call F (wt1 F rfl rfl rfl rfl rfl) rfl en20 (evc (F.ev rfl) (evc (F.ev rfl) evn)) (fun w' h => calls_below h (rbey_any K L _ _ w' (RdV.below (M.av (i := 1) rfl) h) (RdV.below (M.av (i := 2) rfl) h) (by omega) (by omega))) rfl rfl ?_; clear F; intro φ F
        cases hs4 : (beyB K L)
        · rw [hs4] at F
          refine qt_pure F (wt1 F rfl rfl rfl rfl rfl) (pu_eqlB rfl (F.ev rfl) (F.ev rfl) Try.underlying4) rfl rfl ?_; clear F; intro φ F
          rw [show (false == false) = true from rfl] at F
          refine qt_pure F (wt0 rfl) (pu_pickt rfl (F.ev rfl) (F.ev rfl)) rfl rfl ?_; clear F; intro φ F
          refine qt_pure F (wt0 rfl) (pu_assign rfl (F.ev rfl)) rfl rfl ?_; clear F; intro φ F
          refine wpQuiet_nil ?_
          clear M; intro ω M
          refine nxq ?_
          refine wp_ret ?_
          refine rt_tmp F rfl rfl ?_
          exact ⟨rfl, M.bel⟩
        · rw [hs4] at F
          refine qt_pure F (wt1 F rfl rfl rfl rfl rfl) (pu_eqlB rfl (F.ev rfl) (F.ev rfl) Try.underlying4) rfl rfl ?_; clear F; intro φ F
          rw [show (true == true) = true from rfl] at F
          refine qt_pure F (wt0 rfl) (pu_pickt rfl (F.ev rfl) (F.ev rfl)) rfl rfl ?_; clear F; intro φ F
          refine qt_pure F (wt0 rfl) (pu_assign rfl (F.ev rfl)) rfl rfl ?_; clear F; intro φ F
          refine wpQuiet_nil ?_
          clear M; intro ω M
          refine nxq ?_
          refine wp_ret ?_
          refine rt_tmp F rfl rfl ?_
          exact ⟨rfl, M.bel⟩
      · rw [hs3] at F
        refine qt_pure F (wt1 F rfl rfl rfl rfl rfl) (pu_eqlB rfl (F.ev rfl) (F.ev rfl) Try.underlying4) rfl rfl ?_; clear F; intro φ F
        rw [show (true == true) = true from rfl] at F
        refine qt_pure F (wt0 rfl) (pu_pickt rfl (F.ev rfl) (F.ev rfl)) rfl rfl ?_; clear F; intro φ F
        refine qt_pure F (wt0 rfl) (pu_move rfl (F.ev rfl)) rfl rfl ?_; clear F; intro φ F
        refine qt_pure F (wt1 F rfl rfl rfl rfl rfl) (pu_move rfl (F.ev rfl)) rfl rfl ?_; clear F; intro φ F
        refine qt_pure F (wt1 F rfl rfl rfl rfl rfl) (pu_move rfl (F.ev rfl)) rfl rfl ?_; clear F; intro φ F
        refine qt_call F (wt1 F rfl rfl rfl rfl rfl) rfl en19 (evc (F.ev rfl) (evc (F.ev rfl) evn)) (fun w' h => calls_below h (beyond_any K L _ _ w' (RdV.below (M.av (i := 1) rfl) h) (RdV.below (M.av (i := 2) rfl) h) (by omega) (by omega))) rfl rfl ?_; clear F; intro φ F
        refine qt_pure F (wt1 F rfl rfl rfl rfl rfl) (pu_move rfl (F.ev rfl)) rfl rfl ?_; clear F; intro φ F
        refine qt_pure F (wt1 F rfl rfl rfl rfl rfl) (pu_move rfl (F.ev rfl)) rfl rfl ?_; clear F; intro φ F
        refine qt_call F (wt1 F rfl rfl rfl rfl rfl) rfl en20 (evc (F.ev rfl) (evc (F.ev rfl) evn)) (fun w' h => calls_below h (rbey_any K L _ _ w' (RdV.below (M.av (i := 1) rfl) h) (RdV.below (M.av (i := 2) rfl) h) (by omega) (by omega))) rfl rfl ?_; clear F; intro φ F
        cases hs5 : (beyB K L)
        · rw [hs5] at F
          refine qt_pure F (wt1 F rfl rfl rfl rfl rfl) (pu_eqlB rfl (F.ev rfl) (F.ev rfl) Try.underlying4) rfl rfl ?_; clear F; intro φ F
          rw [show (false == false) = true from rfl] at F
          refine qt_pure F (wt0 rfl) (pu_pickt rfl (F.ev rfl) (F.ev rfl)) rfl rfl ?_; clear F; intro φ F
          refine qt_pure F (wt0 rfl) (pu_assign rfl (F.ev rfl)) rfl rfl ?_; clear F; intro φ F
          refine wpQuiet_nil ?_
          clear M; intro ω M
          refine nxq ?_
          refine wp_ret ?_
          refine rt_tmp F rfl rfl ?_
          exact ⟨rfl, M.bel⟩
        · rw [hs5] at F
          refine qt_pure F (wt1 F rfl rfl rfl rfl rfl) (pu_eqlB rfl (F.ev rfl) (F.ev rfl) Try.underlying4) rfl rfl ?_; clear F; intro φ F
          rw [show (true == true) = true from rfl] at F
          refine qt_pure F (wt0 rfl) (pu_pickt rfl (F.ev rfl) (F.ev rfl)) rfl rfl ?_; clear F; intro φ F
          refine qt_pure F (wt0 rfl) (pu_assign rfl (F.ev rfl)) rfl rfl ?_; clear F; intro φ F
          refine wpQuiet_nil ?_
          clear M; intro ω M
          refine nxq ?_
          refine wp_ret ?_
          refine rt_tmp F rfl rfl ?_
          exact ⟨rfl, M.bel⟩
    · rw [hs2] at F
      have hs2i := of_decide_eq_true hs2
      refine wp_cond_true (F.ev rfl) ?_
      refine wp_seq ?_
      -- region 3
      refine wp_region_lit ?_
      refine sq_pure F (wt0 rfl) (pu_move rfl (F.ev rfl)) rfl rfl ?_; clear F; intro φ F
      refine sq_pure F (wt0 rfl) (pu_assign rfl (F.ev rfl)) rfl rfl ?_; clear F; intro φ F
      refine nx ?_
      refine wp_ret ?_
      refine nxr ?_
      refine rt_tmp F rfl rfl ?_
      exact ⟨rfl, M.bel⟩
  · rw [hs1] at F
    have hs1i := of_decide_eq_true hs1
    refine sq_skip F (wtn F rfl rfl rfl rfl rfl) rfl rfl ?_; clear F; intro φ F
    refine sq_skip F (wtn F rfl rfl rfl rfl rfl) rfl rfl ?_; clear F; intro φ F
    refine sq_skip F (wtn F rfl rfl rfl rfl rfl) rfl rfl ?_; clear F; intro φ F
    refine sq_pure F (wt0 rfl) (pu_pickt rfl (F.ev rfl) (evk)) rfl rfl ?_; clear F; intro φ F
    refine nx ?_
    refine wp_cond_true (F.ev rfl) ?_
    refine wp_seq ?_
    -- region 3
    refine wp_region_lit ?_
    refine sq_pure F (wt0 rfl) (pu_move rfl (F.ev rfl)) rfl rfl ?_; clear F; intro φ F
    refine sq_pure F (wt0 rfl) (pu_assign rfl (F.ev rfl)) rfl rfl ?_; clear F; intro φ F
    refine nx ?_
    refine wp_ret ?_
    refine nxr ?_
    refine rt_tmp F rfl rfl ?_
    exact ⟨rfl, M.bel⟩

end Go.Proofs.Ytabpnebiannglaa
