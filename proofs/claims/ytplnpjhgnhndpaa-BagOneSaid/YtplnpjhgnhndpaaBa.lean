/- Laws of layer 4. Made by walks/baglaws.py. -/
import Derived.Test.YtplnpjhgnhndpaaBw
import Derived.Test.YtplnpjhgnhndpaaBl
namespace Go.Proofs.Ytplnpjhgnhndpaa
open Go.RowKit Go.Sort

set_option maxHeartbeats 4000000 in
theorem awake_any  (w : World) :
    Calls Try.prog 10 #[] w fun e w' => e = .returned (.bool true) ∧ Below w.heap.size w w' := by
  refine enterF Try.func10 rfl 32 Try.ntmps10 [] rfl [] rfl ?_
  intro φ F
  have M := Mm.start [] w
  refine wp_seq ?_
  -- region 0
  refine wp_region_lit ?_
  refine sq_pure F (wt0 rfl) (pu_assign rfl (evk)) rfl rfl ?_; clear F; intro φ F
  refine nx ?_
  refine wp_seq ?_
  -- region 1
  refine wp_region_lit ?_
  refine sq_callO (Z := (fun v x => ∃ p g, v = .pointer (some ⟨p, 0, none⟩) ∧ x = .own [p, g] (BagV p g []))) F M (wt0 rfl) rfl en11 evn (new_any _) rfl rfl ?_; clear F M; rintro φ ω _ _ ⟨p1, m1, rfl, rfl⟩ F M
  replace M : Mm [] w ω [.own [p1, m1] (BagV p1 m1 ([] : List Ct))] := M
  refine sq_pure F (wt0 rfl) (pu_assign rfl (F.ev rfl)) rfl rfl ?_; clear F; intro φ F
  refine nx ?_
  refine wp_seq ?_
  refine wp_seq ?_
  -- region 2
  refine wp_region_lit ?_
  refine sq_pure F (wt0 rfl) (pu_move rfl (F.ev rfl)) rfl rfl ?_; clear F; intro φ F
  refine sq_pure F (wt0 rfl) (pu_eqlP rfl (F.ev rfl) (evk) Try.underlying24) rfl rfl ?_; clear F; intro φ F
  refine nx ?_
  refine wp_cond_false (F.ev rfl) ?_
  refine wp_skip ?_
  refine nxq ?_
  refine wp_seq ?_
  -- region 4
  refine wp_region_lit ?_
  refine sq_pure F (wt0 rfl) (pu_move rfl (F.ev rfl)) rfl rfl ?_; clear F; intro φ F
  refine sq_pure F (wt0 rfl) (bu30_0 rfl (evk)) rfl rfl ?_; clear F; intro φ F
  refine sq_callT (Z := (fun v x' => v = .int .i64 (addE ([] : List Ct) (St.mk 1 0) 2) ∧ x' = .own [p1, m1] (BagV p1 m1 (addC ([] : List Ct) (St.mk 1 0) 2)))) F M (wt0 rfl) rfl en13 (evc (F.ev rfl) (evc (F.ev rfl) (evc (evk) evn))) (i := 0) rfl (add_any ([] : List Ct) p1 m1 (St.mk 1 0) 2 _ (M.pv (i := 0) rfl)) rfl rfl ?_; clear F M; rintro φ ω _ _ ⟨rfl, rfl⟩ F M
  have hl_p1_0_0 : (addC ([] : List Ct) (St.mk 1 0) 2).length ≤ 1 := addC_len ([] : List Ct) (St.mk 1 0) 2
  replace M : Mm [] w ω [.own [p1, m1] (BagV p1 m1 (addC ([] : List Ct) (St.mk 1 0) 2))] := M
  rw [show addE ([] : List Ct) (St.mk 1 0) 2 = 0 from by decide +kernel] at F
  rw [show addC ([] : List Ct) (St.mk 1 0) 2 = [((St.mk 1 0), 2)] from by decide +kernel] at M
  replace M : Mm [] w ω [.own [p1, m1] (BagV p1 m1 [((St.mk 1 0), 2)])] := M
  refine sq_pure F (wt0 rfl) (pu_assign rfl (F.ev rfl)) rfl rfl ?_; clear F; intro φ F
  refine nx ?_
  refine wp_seq ?_
  -- region 5
  refine wp_region_lit ?_
  refine sq_pure F (wt0 rfl) (pu_move rfl (F.ev rfl)) rfl rfl ?_; clear F; intro φ F
  refine sq_callN F M (wt0 rfl) rfl en18 (evc (F.ev rfl) evn) (front_any [((St.mk 1 0), 2)] p1 m1 _ (M.pv (i := 0) rfl) (by first | omega | (simp; done) | (simp; omega))) rfl rfl ?_; clear F M; intro φ ω v1 F M
  rw [show minL (posL [((St.mk 1 0), 2)]) = [(St.mk 1 0)] from by decide +kernel] at M
  replace M : Mm [] w ω [.row 30 2 v1 1 (cS [(St.mk 1 0)]), .own [p1, m1] (BagV p1 m1 [((St.mk 1 0), 2)])] := M
  refine sq_pure F (wt0 rfl) (pu_assign rfl (F.ev rfl)) rfl rfl ?_; clear F; intro φ F
  refine nx ?_
  refine wp_seq ?_
  -- region 6
  refine wp_region_lit ?_
  refine sq_pure F (wt0 rfl) (pu_move rfl (F.ev rfl)) rfl rfl ?_; clear F; intro φ F
  refine sq_pure F (wt0 rfl) (pu_eqlI rfl (F.ev rfl) (evk)) rfl rfl ?_; clear F; intro φ F
  rw [show decide ((0 : Int) = 0) = true from rfl] at F
  refine sq_pure F (wt0 rfl) (pu_move rfl (F.ev rfl)) rfl rfl ?_; clear F; intro φ F
  refine sq_pure F (wt1 F rfl rfl rfl rfl rfl) (pu_move rfl (F.ev rfl)) rfl rfl ?_; clear F; intro φ F
  refine sq_pure F (wt1 F rfl rfl rfl rfl rfl) (pu_len rfl (F.ev rfl) sl38 (M.rv (i := 0) rfl)) rfl rfl ?_; clear F; intro φ F
  refine sq_pure F (wt1 F rfl rfl rfl rfl rfl) (pu_eqlI rfl (F.ev rfl) (evk)) rfl rfl ?_; clear F; intro φ F
  rw [(show decide (((1 : Nat) : Int) = 1) = true from by decide)] at F
  refine sq_pure F (wt0 rfl) (pu_pickt rfl (F.ev rfl) (F.ev rfl)) rfl rfl ?_; clear F; intro φ F
  refine sq_pure F (wt0 rfl) (pu_move rfl (F.ev rfl)) rfl rfl ?_; clear F; intro φ F
  refine sq_pure F (wt1 F rfl rfl rfl rfl rfl) (pu_move rfl (F.ev rfl)) rfl rfl ?_; clear F; intro φ F
  refine sq_pure F (wt1 F rfl rfl rfl rfl rfl) (pu_ix rfl (F.ev rfl) (evk) sl38 (M.rv (i := 0) rfl) (by omega) (by omega)) rfl rfl ?_; clear F; intro φ F
  refine sq_rd F (wt1 F rfl rfl rfl rfl rfl) (ld_el rfl (F.ev rfl) agg30 (fun _ e => e ▸ (M.rv (i := 0) rfl)) (by omega) (cS_at (by first | omega | (simp; done) | (simp; omega))) rfl) rfl rfl ?_; clear F; intro φ F
  refine sq_pure F (wt1 F rfl rfl rfl rfl rfl) (bu30_0 rfl (evk)) rfl rfl ?_; clear F; intro φ F
  refine sq_pure F (wt1 F rfl rfl rfl rfl rfl) (pu_eqlA rfl (F.ev rfl) (F.ev rfl) eqg30 (fun w => eqS30 (atS [(St.mk 1 0)] 0) (St.mk 1 0) w)) rfl rfl ?_; clear F; intro φ F
  rw [(show decide ((atS [(St.mk 1 0)] 0) = (St.mk 1 0)) = true from by decide)] at F
  refine sq_pure F (wt0 rfl) (pu_pickt rfl (F.ev rfl) (F.ev rfl)) rfl rfl ?_; clear F; intro φ F
  refine sq_pure F (wt0 rfl) (pu_move rfl (F.ev rfl)) rfl rfl ?_; clear F; intro φ F
  refine sq_pure F (wt1 F rfl rfl rfl rfl rfl) (pu_move rfl (F.ev rfl)) rfl rfl ?_; clear F; intro φ F
  refine sq_pure F (wt1 F rfl rfl rfl rfl rfl) (bu30_0 rfl (evk)) rfl rfl ?_; clear F; intro φ F
  refine sq_call F M (wt1 F rfl rfl rfl rfl rfl) rfl en22 (evc (F.ev rfl) (evc (F.ev rfl) evn)) (of_any [((St.mk 1 0), 2)] p1 m1 (St.mk 1 0) _ (M.pv (i := 1) rfl)) rfl rfl ?_; clear F M; intro φ ω F M
  refine sq_pure F (wt1 F rfl rfl rfl rfl rfl) (pu_eqlI rfl (F.ev rfl) (evk)) rfl rfl ?_; clear F; intro φ F
  rw [(show decide (ofC [((St.mk 1 0), 2)] (St.mk 1 0) = 2) = true from by decide)] at F
  refine sq_pure F (wt0 rfl) (pu_pickt rfl (F.ev rfl) (F.ev rfl)) rfl rfl ?_; clear F; intro φ F
  refine sq_pure F (wt0 rfl) (pu_assign rfl (F.ev rfl)) rfl rfl ?_; clear F; intro φ F
  refine nx ?_
  refine wp_ret ?_
  refine rt_tmp F rfl rfl ?_
  exact ⟨rfl, M.bel⟩

end Go.Proofs.Ytplnpjhgnhndpaa
