/- Stamps: the laws' walks. Made by walks/stamp.py. -/
import Derived.Test.YtolhinemfncejaaSc
namespace Go.Proofs.Ytolhinemfncejaa
open Go.RowKit

set_option maxHeartbeats 400000 in
theorem awake_any  (w : World) :
    Calls Try.prog 11 #[] w fun e w' => e = .returned (.bool true) ∧ Below w.heap.size w w' := by
  have k1 : (St.mk 1 5).leB (St.mk 2 3) = false := by decide
  have k2 : (St.mk 1 5).leB ((St.mk 1 5).join (St.mk 2 3)) = true := by decide
  have k3 : decide ((St.mk 1 5).cmp (St.mk 2 3) = -1) = true := by decide
  have k4 : (St.mk 1 5).rightB = true := by decide
  refine enterF Try.func11 rfl 26 Try.ntmps11 [] rfl [] rfl ?_
  intro φ F
  have M := Mm.start w
  refine wp_seq ?_
  -- region 0
  refine wp_region_lit ?_
  refine sq_pure F (wt0 rfl) (pu_assign rfl (evk)) rfl rfl ?_; clear F; intro φ F
  refine nx ?_
  refine wp_seq ?_
  -- region 1
  refine wp_region_lit ?_
  refine sq_pure F (wt0 rfl) (bu23_2 rfl (evk) (evk)) rfl rfl ?_; clear F; intro φ F
  refine sq_alloc F M (wt0 rfl) rfl z23 rfl rfl ?_; clear F M; intro φ ω g1 F M
  refine sq_stA F M (wt0 rfl) rfl (F.ev rfl) (F.ev rfl) (i := 0) rfl agg23 rfl rfl rfl rfl ?_; clear M; intro ω M
  refine nx ?_
  refine wp_seq ?_
  -- region 2
  refine wp_region_lit ?_
  refine sq_pure F (wt0 rfl) (bu23_2 rfl (evk) (evk)) rfl rfl ?_; clear F; intro φ F
  refine sq_alloc F M (wt0 rfl) rfl z23 rfl rfl ?_; clear F M; intro φ ω g2 F M
  refine sq_stA F M (wt0 rfl) rfl (F.ev rfl) (F.ev rfl) (i := 0) rfl agg23 rfl rfl rfl rfl ?_; clear M; intro ω M
  refine nx ?_
  refine wp_seq ?_
  -- region 3
  refine rg_quiet M mixedOK (by kernel_rfl) ?_
  refine qt_rd F (wt0 rfl) (ld_agg rfl (F.ev rfl) agg23 (M.rdB (i := 1) rfl) rfl) rfl rfl ?_; clear F; intro φ F
  refine qt_rd F (wt0 rfl) (ld_agg rfl (F.ev rfl) agg23 (M.rdB (i := 0) rfl) rfl) rfl rfl ?_; clear F; intro φ F
  refine qt_call F (wt0 rfl) rfl en15 (evc (F.ev rfl) (evc (F.ev rfl) evn)) (fun w' h => calls_below h (le_any (St.mk 1 5) (St.mk 2 3) w')) rfl rfl ?_; clear F; intro φ F
  rw [k1] at F
  refine qt_pure F (wt0 rfl) (pu_not rfl (F.ev rfl)) rfl rfl ?_; clear F; intro φ F
  rw [show (!false) = true from rfl] at F
  refine qt_pure F (wt0 rfl) (pu_move rfl (F.ev rfl)) rfl rfl ?_; clear F; intro φ F
  refine qt_rd F (wt1 F rfl rfl rfl rfl rfl) (ld_agg rfl (F.ev rfl) agg23 (M.rdB (i := 1) rfl) rfl) rfl rfl ?_; clear F; intro φ F
  refine qt_rd F (wt1 F rfl rfl rfl rfl rfl) (ld_agg rfl (F.ev rfl) agg23 (M.rdB (i := 1) rfl) rfl) rfl rfl ?_; clear F; intro φ F
  refine qt_rd F (wt1 F rfl rfl rfl rfl rfl) (ld_agg rfl (F.ev rfl) agg23 (M.rdB (i := 0) rfl) rfl) rfl rfl ?_; clear F; intro φ F
  refine qt_call F (wt1 F rfl rfl rfl rfl rfl) rfl en18 (evc (F.ev rfl) (evc (F.ev rfl) evn)) (fun w' h => calls_below h (join_any (St.mk 1 5) (St.mk 2 3) w')) rfl rfl ?_; clear F; intro φ F
  refine qt_call F (wt1 F rfl rfl rfl rfl rfl) rfl en15 (evc (F.ev rfl) (evc (F.ev rfl) evn)) (fun w' h => calls_below h (le_any (St.mk 1 5) ((St.mk 1 5).join (St.mk 2 3)) w')) rfl rfl ?_; clear F; intro φ F
  rw [k2] at F
  refine qt_pure F (wt0 rfl) (pu_pickt rfl (F.ev rfl) (F.ev rfl)) rfl rfl ?_; clear F; intro φ F
  refine qt_pure F (wt0 rfl) (pu_move rfl (F.ev rfl)) rfl rfl ?_; clear F; intro φ F
  refine qt_rd F (wt1 F rfl rfl rfl rfl rfl) (ld_agg rfl (F.ev rfl) agg23 (M.rdB (i := 1) rfl) rfl) rfl rfl ?_; clear F; intro φ F
  refine qt_rd F (wt1 F rfl rfl rfl rfl rfl) (ld_agg rfl (F.ev rfl) agg23 (M.rdB (i := 0) rfl) rfl) rfl rfl ?_; clear F; intro φ F
  refine qt_call F (wt1 F rfl rfl rfl rfl rfl) rfl en17 (evc (F.ev rfl) (evc (F.ev rfl) evn)) (fun w' h => calls_below h (cmp_any (St.mk 1 5) (St.mk 2 3) w')) rfl rfl ?_; clear F; intro φ F
  refine qt_pure F (wt1 F rfl rfl rfl rfl rfl) (pu_eqlI rfl (F.ev rfl) (evk)) rfl rfl ?_; clear F; intro φ F
  rw [k3] at F
  refine qt_pure F (wt0 rfl) (pu_pickt rfl (F.ev rfl) (F.ev rfl)) rfl rfl ?_; clear F; intro φ F
  refine qt_pure F (wt0 rfl) (pu_move rfl (F.ev rfl)) rfl rfl ?_; clear F; intro φ F
  refine qt_rd F (wt1 F rfl rfl rfl rfl rfl) (ld_agg rfl (F.ev rfl) agg23 (M.rdB (i := 1) rfl) rfl) rfl rfl ?_; clear F; intro φ F
  refine qt_call F (wt1 F rfl rfl rfl rfl rfl) rfl en13 (evc (F.ev rfl) evn) (fun w' h => calls_below h (right_any (St.mk 1 5) w')) rfl rfl ?_; clear F; intro φ F
  rw [k4] at F
  refine qt_pure F (wt0 rfl) (pu_pickt rfl (F.ev rfl) (F.ev rfl)) rfl rfl ?_; clear F; intro φ F
  refine qt_pure F (wt0 rfl) (pu_assign rfl (F.ev rfl)) rfl rfl ?_; clear F; intro φ F
  refine wpQuiet_nil ?_
  clear M; intro ω M
  refine nxq ?_
  refine wp_ret ?_
  refine rt_tmp F rfl rfl ?_
  exact ⟨rfl, M.bel⟩

end Go.Proofs.Ytolhinemfncejaa
