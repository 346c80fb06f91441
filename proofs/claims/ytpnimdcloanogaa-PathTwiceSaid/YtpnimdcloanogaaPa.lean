/- Laws of layer 5. Made by walks/pathlaws.py. -/
import Derived.Test.YtpnimdcloanogaaPw
import Derived.Test.YtpnimdcloanogaaRk
namespace Go.Proofs.Ytpnimdcloanogaa
open Go.RowKit

set_option maxHeartbeats 4000000 in
theorem awake_any  (w : World) :
    Calls Try.prog 10 #[] w fun e w' => e = .returned (.bool true) ∧ Below w.heap.size w w' := by
  refine enterF Try.func10 rfl 41 Try.ntmps10 [] rfl [] rfl ?_
  intro φ F
  have M := Mm.start [] w
  refine wp_seq ?_
  -- region 0
  refine wp_region_lit ?_
  refine sq_pure F (wt0 rfl) (pu_assign rfl (evk)) rfl rfl ?_; clear F; intro φ F
  refine nx ?_
  refine wp_seq ?_
  -- region 1
  refine wp_region_lit ?_
  refine sq_pure F (wt0 rfl) (bu23_1 rfl (evk)) rfl rfl ?_; clear F; intro φ F
  refine sq_pure F (wt0 rfl) (bu23_0 rfl (evk)) rfl rfl ?_; clear F; intro φ F
  refine sq_bs (e := 23) (m := 2) (k := 2) (parts := #[]) (cs := #[.int .i64 0, .int .i64 1, .int .i64 1, .int .i64 0]) F M (wt0 rfl) (bs29_2 rfl (F.ev rfl) (F.ev rfl) _) (by omega) rfl rfl rfl ?_; clear F M; intro φ ω g1 F M
  replace M : Mm [] w ω [.row 23 2 (.slice (some ⟨g1, 0, none⟩) 2 2) 2 (cS [(St.mk 0 1), (St.mk 1 0)])] := M
  refine sq_pure F (wt0 rfl) (bu23_1 rfl (evk)) rfl rfl ?_; clear F; intro φ F
  refine sq_bs (e := 23) (m := 2) (k := 1) (parts := #[]) (cs := #[.int .i64 0, .int .i64 1]) F M (wt0 rfl) (bs29_1 rfl (F.ev rfl) _) (by omega) rfl rfl rfl ?_; clear F M; intro φ ω g2 F M
  replace M : Mm [] w ω [.row 23 2 (.slice (some ⟨g2, 0, none⟩) 1 1) 1 (cS [(St.mk 0 1)]), .row 23 2 (.slice (some ⟨g1, 0, none⟩) 2 2) 2 (cS [(St.mk 0 1), (St.mk 1 0)])] := M
  refine sq_callN2 F M (wt0 rfl) (fun v_ => .tuple #[v_, .bool (eachB [(St.mk 0 1), (St.mk 1 0)] [(St.mk 0 1)])]) rfl en18 (evc (F.ev rfl) (evc (F.ev rfl) evn)) (path_each_any [(St.mk 0 1), (St.mk 1 0)] [(St.mk 0 1)] _ _ _ (M.rv (i := 1) rfl) (M.rv (i := 0) rfl) (by first | omega | (simp; done) | (simp; omega) | (refine Nat.le_trans (minL_len _) ?_; omega) | (refine Nat.le_trans (eachL_len _ _) ?_; omega)) (by first | omega | (simp; done) | (simp; omega) | (refine Nat.le_trans (minL_len _) ?_; omega) | (refine Nat.le_trans (eachL_len _ _) ?_; omega))) rfl rfl ?_; clear F M; intro φ ω v1 F M
  rw [show eachB [(St.mk 0 1), (St.mk 1 0)] [(St.mk 0 1)] = true from by decide +kernel] at F
  rw [show eachL [(St.mk 0 1), (St.mk 1 0)] [(St.mk 0 1)] = [St.mk 0 2, St.mk 1 1] from by decide +kernel] at M
  replace M : Mm [] w ω [.row 23 2 v1 2 (cS [St.mk 0 2, St.mk 1 1]), .row 23 2 (.slice (some ⟨g2, 0, none⟩) 1 1) 1 (cS [(St.mk 0 1)]), .row 23 2 (.slice (some ⟨g1, 0, none⟩) 2 2) 2 (cS [(St.mk 0 1), (St.mk 1 0)])] := M
  refine sq_pure F (wt0 rfl) (pu_move rfl (F.ev rfl)) rfl rfl ?_; clear F; intro φ F
  refine sq_pure F (wt0 rfl) (pu_extract rfl (F.ev rfl) rfl) rfl rfl ?_; clear F; intro φ F
  refine sq_pure F (wt0 rfl) (pu_extract rfl (F.ev rfl) rfl) rfl rfl ?_; clear F; intro φ F
  refine sq_pure F (wt0 rfl) (pu_assign rfl (F.ev rfl)) rfl rfl ?_; clear F; intro φ F
  refine sq_pure F (wt0 rfl) (pu_assign rfl (F.ev rfl)) rfl rfl ?_; clear F; intro φ F
  refine nx ?_
  refine wp_seq ?_
  -- region 2
  refine wp_region_lit ?_
  refine sq_pure F (wt0 rfl) (bu23_1 rfl (evk)) rfl rfl ?_; clear F; intro φ F
  refine sq_pure F (wt0 rfl) (bu23_0 rfl (evk)) rfl rfl ?_; clear F; intro φ F
  refine sq_call F M (wt0 rfl) rfl en12 (evc (F.ev rfl) (evc (F.ev rfl) evn)) (path_then_any (St.mk 0 1) (St.mk 2 0) _) rfl rfl ?_; clear F M; intro φ ω F M
  refine sq_pure F (wt0 rfl) (pu_move rfl (F.ev rfl)) rfl rfl ?_; clear F; intro φ F
  refine sq_pure F (wt0 rfl) (pu_extract rfl (F.ev rfl) rfl) rfl rfl ?_; clear F; intro φ F
  refine sq_pure F (wt0 rfl) (pu_extract rfl (F.ev rfl) rfl) rfl rfl ?_; clear F; intro φ F
  rw [(show (St.mk 0 1).afterB (St.mk 2 0) = true from by decide +kernel)] at F
  refine sq_alloc F M (wt0 rfl) rfl z23 rfl rfl ?_; clear F M; intro φ ω g3 F M
  refine sq_stA F M (wt0 rfl) rfl (F.ev rfl) (F.ev rfl) (i := 0) rfl agg23 rfl rfl rfl rfl ?_; clear M; intro ω M
  refine sq_pure F (wt0 rfl) (pu_assign rfl (F.ev rfl)) rfl rfl ?_; clear F; intro φ F
  refine nx ?_
  refine wp_seq ?_
  -- region 3
  refine wp_region_lit ?_
  refine sq_pure F (wt0 rfl) (pu_move rfl (F.ev rfl)) rfl rfl ?_; clear F; intro φ F
  refine sq_pure F (wt0 rfl) (pu_move rfl (F.ev rfl)) rfl rfl ?_; clear F; intro φ F
  refine sq_pure F (wt1 F rfl rfl rfl rfl rfl) (pu_move rfl (F.ev rfl)) rfl rfl ?_; clear F; intro φ F
  refine sq_pure F (wt1 F rfl rfl rfl rfl rfl) (pu_len rfl (F.ev rfl) sl29 (M.rv (i := 1) rfl)) rfl rfl ?_; clear F; intro φ F
  refine sq_pure F (wt1 F rfl rfl rfl rfl rfl) (pu_eqlI rfl (F.ev rfl) (evk)) rfl rfl ?_; clear F; intro φ F
  rw [(show decide (((2 : Nat) : Int) = 2) = true from by decide +kernel)] at F
  refine sq_pure F (wt0 rfl) (pu_pickt rfl (F.ev rfl) (F.ev rfl)) rfl rfl ?_; clear F; intro φ F
  refine sq_pure F (wt0 rfl) (pu_move rfl (F.ev rfl)) rfl rfl ?_; clear F; intro φ F
  refine sq_pure F (wt1 F rfl rfl rfl rfl rfl) (pu_move rfl (F.ev rfl)) rfl rfl ?_; clear F; intro φ F
  refine sq_pure F (wt1 F rfl rfl rfl rfl rfl) (pu_ix rfl (F.ev rfl) (evk) sl29 (M.rv (i := 1) rfl) (by omega) (by omega)) rfl rfl ?_; clear F; intro φ F
  refine sq_rd F (wt1 F rfl rfl rfl rfl rfl) (ld_el rfl (F.ev rfl) agg23 (fun _ e => e ▸ (M.rv (i := 1) rfl)) (by omega) (cS_at (by first | omega | (simp; done) | (simp; omega))) rfl) rfl rfl ?_; clear F; intro φ F
  refine sq_pure F (wt1 F rfl rfl rfl rfl rfl) (bu23_1 rfl (evk)) rfl rfl ?_; clear F; intro φ F
  refine sq_pure F (wt1 F rfl rfl rfl rfl rfl) (pu_eqlA rfl (F.ev rfl) (F.ev rfl) eqg23 (fun w => eqS23 (atS [St.mk 0 2, St.mk 1 1] 0) (St.mk 0 2) w)) rfl rfl ?_; clear F; intro φ F
  rw [(show decide ((atS [St.mk 0 2, St.mk 1 1] 0) = (St.mk 0 2)) = true from by decide +kernel)] at F
  refine sq_pure F (wt0 rfl) (pu_pickt rfl (F.ev rfl) (F.ev rfl)) rfl rfl ?_; clear F; intro φ F
  refine sq_pure F (wt0 rfl) (pu_move rfl (F.ev rfl)) rfl rfl ?_; clear F; intro φ F
  refine sq_rd F (wt1 F rfl rfl rfl rfl rfl) (ld_agg rfl (F.ev rfl) agg23 (M.rd (i := 0) rfl) rfl) rfl rfl ?_; clear F; intro φ F
  refine sq_pure F (wt1 F rfl rfl rfl rfl rfl) (bu23_0_1 rfl (evk) (evk)) rfl rfl ?_; clear F; intro φ F
  refine sq_pure F (wt1 F rfl rfl rfl rfl rfl) (pu_eqlA rfl (F.ev rfl) (F.ev rfl) eqg23 (fun w => eqS23 ((St.mk 0 1).after (St.mk 2 0)) (St.mk 2 1) w)) rfl rfl ?_; clear F; intro φ F
  rw [(show decide (((St.mk 0 1).after (St.mk 2 0)) = (St.mk 2 1)) = true from by decide +kernel)] at F
  refine sq_pure F (wt0 rfl) (pu_pickt rfl (F.ev rfl) (F.ev rfl)) rfl rfl ?_; clear F; intro φ F
  refine sq_pure F (wt0 rfl) (pu_move rfl (F.ev rfl)) rfl rfl ?_; clear F; intro φ F
  refine sq_pure F (wt1 F rfl rfl rfl rfl rfl) (pu_move rfl (F.ev rfl)) rfl rfl ?_; clear F; intro φ F
  refine sq_pure F (wt0 rfl) (pu_pickt rfl (F.ev rfl) (F.ev rfl)) rfl rfl ?_; clear F; intro φ F
  refine sq_pure F (wt0 rfl) (pu_assign rfl (F.ev rfl)) rfl rfl ?_; clear F; intro φ F
  refine nx ?_
  refine wp_ret ?_
  refine rt_tmp F rfl rfl ?_
  exact ⟨rfl, M.bel⟩

end Go.Proofs.Ytpnimdcloanogaa
