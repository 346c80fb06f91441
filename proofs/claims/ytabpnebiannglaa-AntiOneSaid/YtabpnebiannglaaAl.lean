/- Laws of layer 3. Made by walks/antilaws.py. -/
import Derived.Test.YtabpnebiannglaaAn
import Derived.Test.YtabpnebiannglaaRr
import Derived.Test.YtabpnebiannglaaAw
namespace Go.Proofs.Ytabpnebiannglaa
open Go.RowKit Go.Sort

set_option maxHeartbeats 4000000 in
theorem awake_any  (w : World) :
    Calls Try.prog 11 #[] w fun e w' => e = .returned (.bool true) ∧ Below w.heap.size w w' := by
  refine enterF Try.func11 rfl 22 Try.ntmps11 [] rfl [] rfl ?_
  intro φ F
  have M := Mm.start [] w
  refine wp_seq ?_
  -- region 0
  refine wp_region_lit ?_
  refine sq_pure F (wt0 rfl) (pu_assign rfl (evk)) rfl rfl ?_; clear F; intro φ F
  refine nx ?_
  refine wp_seq ?_
  -- region 1
  refine wp_region_lit ?_
  refine sq_pure F (wt0 rfl) (bu28_2 rfl (evk) (evk)) rfl rfl ?_; clear F; intro φ F
  refine sq_pure F (wt0 rfl) (bu28_2 rfl (evk) (evk)) rfl rfl ?_; clear F; intro φ F
  refine sq_pure F (wt0 rfl) (bu28_2 rfl (evk) (evk)) rfl rfl ?_; clear F; intro φ F
  refine sq_bs (e := 28) (m := 2) (k := 3) (parts := #[]) (cs := #[.int .i64 1, .int .i64 2, .int .i64 0, .int .i64 3, .int .i64 2, .int .i64 2]) F M (wt0 rfl) (bs22_3 rfl (F.ev rfl) (F.ev rfl) (F.ev rfl) _) (by omega) rfl rfl rfl ?_; clear F M; intro φ ω g1 F M
  replace M : Mm [] w ω [.row 28 2 (.slice (some ⟨g1, 0, none⟩) 3 3) 3 (cS [(St.mk 1 2), (St.mk 0 3), (St.mk 2 2)])] := M
  refine sq_callN F M (wt0 rfl) rfl en13 (evc (F.ev rfl) evn) (min_any [(St.mk 1 2), (St.mk 0 3), (St.mk 2 2)] _ _ (M.rv (i := 0) rfl) (by first | omega | (simp; done) | (simp; omega))) rfl rfl ?_; clear F M; intro φ ω v1 F M
  rw [awake_min] at M
  replace M : Mm [] w ω [.row 28 2 v1 2 (cS [St.mk 0 3, St.mk 1 2]), .row 28 2 (.slice (some ⟨g1, 0, none⟩) 3 3) 3 (cS [(St.mk 1 2), (St.mk 0 3), (St.mk 2 2)])] := M
  refine sq_pure F (wt0 rfl) (pu_assign rfl (F.ev rfl)) rfl rfl ?_; clear F; intro φ F
  refine nx ?_
  refine wp_seq ?_
  -- region 2
  refine wp_region_lit ?_
  refine sq_pure F (wt0 rfl) (pu_move rfl (F.ev rfl)) rfl rfl ?_; clear F; intro φ F
  refine sq_pure F (wt0 rfl) (pu_len rfl (F.ev rfl) sl22 (M.rv (i := 0) rfl)) rfl rfl ?_; clear F; intro φ F
  refine sq_pure F (wt0 rfl) (pu_eqlI rfl (F.ev rfl) (evk)) rfl rfl ?_; clear F; intro φ F
  rw [(show decide (((2 : Nat) : Int) = 2) = true from by decide)] at F
  refine sq_pure F (wt0 rfl) (pu_move rfl (F.ev rfl)) rfl rfl ?_; clear F; intro φ F
  refine sq_pure F (wt1 F rfl rfl rfl rfl rfl) (pu_move rfl (F.ev rfl)) rfl rfl ?_; clear F; intro φ F
  refine sq_pure F (wt1 F rfl rfl rfl rfl rfl) (pu_ix rfl (F.ev rfl) (evk) sl22 (M.rv (i := 0) rfl) (by omega) (by omega)) rfl rfl ?_; clear F; intro φ F
  refine sq_rd F (wt1 F rfl rfl rfl rfl rfl) (ld_el rfl (F.ev rfl) agg28 (fun _ e => e ▸ (M.rv (i := 0) rfl)) (by omega) (cS_at (by first | omega | (simp; done) | (simp; omega))) rfl) rfl rfl ?_; clear F; intro φ F
  refine sq_pure F (wt1 F rfl rfl rfl rfl rfl) (bu28_2 rfl (evk) (evk)) rfl rfl ?_; clear F; intro φ F
  refine sq_pure F (wt1 F rfl rfl rfl rfl rfl) (pu_eqlA rfl (F.ev rfl) (F.ev rfl) eqg28 (fun w => eqS28 (atS [St.mk 0 3, St.mk 1 2] 0) (St.mk 0 3) w)) rfl rfl ?_; clear F; intro φ F
  rw [(show decide ((atS [St.mk 0 3, St.mk 1 2] 0) = (St.mk 0 3)) = true from by decide)] at F
  refine sq_pure F (wt0 rfl) (pu_pickt rfl (F.ev rfl) (F.ev rfl)) rfl rfl ?_; clear F; intro φ F
  refine sq_pure F (wt0 rfl) (pu_move rfl (F.ev rfl)) rfl rfl ?_; clear F; intro φ F
  refine sq_pure F (wt1 F rfl rfl rfl rfl rfl) (pu_move rfl (F.ev rfl)) rfl rfl ?_; clear F; intro φ F
  refine sq_pure F (wt1 F rfl rfl rfl rfl rfl) (bu28_2 rfl (evk) (evk)) rfl rfl ?_; clear F; intro φ F
  refine sq_call F M (wt1 F rfl rfl rfl rfl rfl) rfl en17 (evc (F.ev rfl) (evc (F.ev rfl) evn)) (covers_any [St.mk 0 3, St.mk 1 2] (St.mk 1 3) _ _ (M.rv (i := 0) rfl) (by first | omega | (simp; done) | (simp; omega))) rfl rfl ?_; clear F M; intro φ ω F M
  rw [(show covB [St.mk 0 3, St.mk 1 2] (St.mk 1 3) = true from by decide)] at F
  refine sq_pure F (wt0 rfl) (pu_pickt rfl (F.ev rfl) (F.ev rfl)) rfl rfl ?_; clear F; intro φ F
  refine sq_pure F (wt0 rfl) (pu_assign rfl (F.ev rfl)) rfl rfl ?_; clear F; intro φ F
  refine nx ?_
  refine wp_ret ?_
  refine rt_tmp F rfl rfl ?_
  exact ⟨rfl, M.bel⟩

end Go.Proofs.Ytabpnebiannglaa
