/- Laws of layer 3. Made by walks/antilaws.py. -/
import Derived.Test.YtabpnebiannglaaAl
namespace Go.Proofs.Ytabpnebiannglaa
open Go.RowKit Go.Sort

set_option maxHeartbeats 4000000 in
theorem antiTells_walk (L : List St) (a : Value) (w : World) (ha : RdS w a L) :
    Calls Try.prog 3 #[a] w fun e w' => e = .returned (.bool true) ∧ Below w.heap.size w w' := by
  refine enterF Try.func3 rfl 28 Try.ntmps3 [a] rfl [(0, a)] rfl ?_
  intro φ F
  have M := Mm.start [] w
  replace M := M.addArg (ha)
  refine wp_seq ?_
  -- region 0
  refine wp_region_lit ?_
  refine sq_pure F (wt0 rfl) (pu_assign rfl (evk)) rfl rfl ?_; clear F; intro φ F
  refine nx ?_
  refine wp_seq ?_
  -- region 1
  refine wp_region_lit ?_
  refine sq_call F M (wt0 rfl) rfl en11 evn (awake_any _) rfl rfl ?_; clear F M; intro φ ω F M
  refine sq_pure F (wt0 rfl) (pu_assign rfl (F.ev rfl)) rfl rfl ?_; clear F; intro φ F
  refine nx ?_
  refine wp_seq ?_
  refine wp_seq ?_
  -- region 2
  refine wp_region_lit ?_
  refine sq_pure F (wt0 rfl) (pu_move rfl (F.ev rfl)) rfl rfl ?_; clear F; intro φ F
  refine sq_pure F (wt0 rfl) (pu_len rfl (F.ev rfl) sl22 (M.av (i := 0) rfl)) rfl rfl ?_; clear F; intro φ F
  refine sq_pure F (wt0 rfl) (pu_gtr rfl (F.ev rfl) (evk)) rfl rfl ?_; clear F; intro φ F
  refine nx ?_
  cases hs1 : (decide (300 < ((L.length : Nat) : Int)))
  · rw [hs1] at F
    have hs1i := of_decide_eq_false hs1
    refine wp_cond_false (F.ev rfl) ?_
    refine wp_skip ?_
    refine nxq ?_
    refine wp_seq ?_
    -- region 4
    refine wp_region_lit ?_
    refine sq_pure F (wt0 rfl) (pu_move rfl (F.ev rfl)) rfl rfl ?_; clear F; intro φ F
    refine sq_callN F M (wt0 rfl) rfl en13 (evc (F.ev rfl) evn) (min_any L _ _ (M.av (i := 0) rfl) (by first | omega | (simp; done) | (simp; omega))) rfl rfl ?_; clear F M; intro φ ω v1 F M
    refine sq_pure F (wt0 rfl) (pu_move rfl (F.ev rfl)) rfl rfl ?_; clear F; intro φ F
    refine sq_callN F M (wt0 rfl) rfl en14 (evc (F.ev rfl) evn) (rmin_any L _ _ (M.av (i := 1) rfl) (by first | omega | (simp; done) | (simp; omega))) rfl rfl ?_; clear F M; intro φ ω v2 F M
    refine sq_call F M (wt0 rfl) rfl en12 (evc (F.ev rfl) (evc (F.ev rfl) evn)) (rsame_any (minL L) (minL L) _ _ _ (M.rv (i := 1) rfl) (M.rv (i := 0) rfl) (Nat.le_trans (minL_len _) (by first | omega | (simp; omega))) (Nat.le_trans (minL_len _) (by first | omega | (simp; omega)))) rfl rfl ?_; clear F M; intro φ ω F M
    rw [(show decide ((minL L) = (minL L)) = true from by simp)] at F
    refine sq_pure F (wt0 rfl) (pu_assign rfl (F.ev rfl)) rfl rfl ?_; clear F; intro φ F
    refine nx ?_
    refine wp_seq ?_
    -- region 5
    refine wp_region_lit ?_
    refine sq_pure F (wt0 rfl) (pu_move rfl (F.ev rfl)) rfl rfl ?_; clear F; intro φ F
    refine sq_callN F M (wt0 rfl) rfl en15 (evc (F.ev rfl) evn) (row_any L _ _ (M.av (i := 2) rfl) (by first | omega | (simp; done) | (simp; omega))) rfl rfl ?_; clear F M; intro φ ω v3 F M
    refine sq_pure F (wt0 rfl) (pu_move rfl (F.ev rfl)) rfl rfl ?_; clear F; intro φ F
    refine sq_callN F M (wt0 rfl) rfl en16 (evc (F.ev rfl) evn) (rrow_any L _ _ (M.av (i := 3) rfl) (by first | omega | (simp; done) | (simp; omega))) rfl rfl ?_; clear F M; intro φ ω v4 F M
    refine sq_call F M (wt0 rfl) rfl en12 (evc (F.ev rfl) (evc (F.ev rfl) evn)) (rsame_any (rowL L) (rowL L) _ _ _ (M.rv (i := 1) rfl) (M.rv (i := 0) rfl) (Nat.le_trans (rowL_len _) (by first | omega | (simp; omega))) (Nat.le_trans (rowL_len _) (by first | omega | (simp; omega)))) rfl rfl ?_; clear F M; intro φ ω F M
    rw [(show decide ((rowL L) = (rowL L)) = true from by simp)] at F
    refine sq_pure F (wt0 rfl) (pu_assign rfl (F.ev rfl)) rfl rfl ?_; clear F; intro φ F
    refine nx ?_
    refine wp_seq ?_
    -- region 6
    refine wp_region_lit ?_
    refine sq_pure F (wt0 rfl) (pu_move rfl (F.ev rfl)) rfl rfl ?_; clear F; intro φ F
    refine sq_pure F (wt0 rfl) (pu_move rfl (F.ev rfl)) rfl rfl ?_; clear F; intro φ F
    refine sq_pure F (wt1 F rfl rfl rfl rfl rfl) (pu_move rfl (F.ev rfl)) rfl rfl ?_; clear F; intro φ F
    refine sq_pure F (wt0 rfl) (pu_pickt rfl (F.ev rfl) (F.ev rfl)) rfl rfl ?_; clear F; intro φ F
    refine sq_pure F (wt0 rfl) (pu_move rfl (F.ev rfl)) rfl rfl ?_; clear F; intro φ F
    refine sq_pure F (wt1 F rfl rfl rfl rfl rfl) (pu_move rfl (F.ev rfl)) rfl rfl ?_; clear F; intro φ F
    refine sq_pure F (wt0 rfl) (pu_pickt rfl (F.ev rfl) (F.ev rfl)) rfl rfl ?_; clear F; intro φ F
    refine sq_pure F (wt0 rfl) (pu_assign rfl (F.ev rfl)) rfl rfl ?_; clear F; intro φ F
    refine nx ?_
    refine wp_ret ?_
    refine rt_tmp F rfl rfl ?_
    exact ⟨rfl, M.bel⟩
  · rw [hs1] at F
    have hs1i := of_decide_eq_true hs1
    refine wp_cond_true (F.ev rfl) ?_
    refine wp_seq ?_
    -- region 3
    refine wp_region_lit ?_
    refine sq_pure F (wt0 rfl) (pu_move rfl (F.ev rfl)) rfl rfl ?_; clear F; intro φ F
    refine sq_pure F (wt0 rfl) (pu_assign rfl (F.ev rfl)) rfl rfl ?_; clear F; intro φ F
    refine nx ?_
    refine wp_ret ?_
    refine nxr ?_
    refine rt_tmp F rfl rfl ?_
    exact ⟨rfl, M.bel⟩

end Go.Proofs.Ytabpnebiannglaa
