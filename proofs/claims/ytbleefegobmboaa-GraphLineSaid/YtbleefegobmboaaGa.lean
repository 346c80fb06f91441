/- Laws of layer 6. Made by walks/graphlaws.py. -/
import Derived.Test.YtbleefegobmboaaGt
import Derived.Test.YtbleefegobmboaaRk
namespace Go.Proofs.Ytbleefegobmboaa
open Go.RowKit
set_option maxRecDepth 100000
set_option linter.unusedSimpArgs false
set_option linter.unusedVariables false

set_option maxHeartbeats 4000000 in
theorem loop_any (b : Int) (w : World) :
    Calls Try.prog 23 #[.int .i64 b] w fun e w' => ∃ v, e = .returned (.agg #[.int .i64 2, v]) ∧ Below w.heap.size w w' ∧ w'.ownsRow w.heap.size 40 4 v [Ed.mk 0 1 (St.mk 0 0), Ed.mk 1 0 (St.mk 0 b)].length (cG [Ed.mk 0 1 (St.mk 0 0), Ed.mk 1 0 (St.mk 0 b)]) := by
  refine enterF Try.func23 rfl 9 Try.ntmps23 [.int .i64 b] rfl [(0, .int .i64 b)] rfl ?_
  intro φ F
  have M := Mm.start [] w
  refine wp_seq ?_
  -- region 0
  refine wp_region_lit ?_
  refine sq_alloc F M (wt0 rfl) rfl z24 rfl rfl ?_; clear F M; intro φ ω g1 F M
  refine nx ?_
  refine wp_seq ?_
  -- region 1
  refine wp_region_lit ?_
  refine sq_pure F (wt0 rfl) (bu40_0_1 rfl (evk) (evk)) rfl rfl ?_; clear F; intro φ F
  refine sq_pure F (wt0 rfl) (pu_move rfl (F.ev rfl)) rfl rfl ?_; clear F; intro φ F
  refine sq_pure F (wt0 rfl) (bu38_1 rfl (F.ev rfl)) rfl rfl ?_; clear F; intro φ F
  refine sq_pure F (wt0 rfl) (bu40_0_1_2 rfl (evk) (evk) (F.ev rfl)) rfl rfl ?_; clear F; intro φ F
  refine sq_bs (e := 40) (m := 4) (k := 2) (parts := #[]) (cs := #[.int .i64 0, .int .i64 1, .int .i64 0, .int .i64 0, .int .i64 1, .int .i64 0, .int .i64 0, .int .i64 b]) F M (wt0 rfl) (bs22_2 rfl (F.ev rfl) (F.ev rfl) _) (by omega) rfl rfl rfl ?_; clear F M; intro φ ω g2 F M
  replace M : Mm [] w ω [.row 40 4 (.slice (some ⟨g2, 0, none⟩) 2 2) 2 (cG [(Ed.mk 0 1 (St.mk 0 0)), (Ed.mk 1 0 (St.mk 0 b))]), .blk g1 24 #[.int .i64 0, (.slice none 0 0)]] := M
  refine sq_pure F (wt0 rfl) (bu24_0_1 rfl (evk) (F.ev rfl) rfl) rfl rfl ?_; clear F; intro φ F
  refine sq_stA F M (wt0 rfl) rfl (F.ev rfl) (F.ev rfl) (i := 1) rfl agg24 rfl rfl rfl rfl ?_; clear M; intro ω M
  refine nx ?_
  refine wp_ret ?_
  refine rt_cell F M rfl rfl (i := 1) rfl agg24 rfl ?_
  exact ⟨_, rfl, M.bel, M.owB (i := 0) rfl⟩

set_option maxHeartbeats 4000000 in
theorem awake_any  (w : World) :
    Calls Try.prog 10 #[] w fun e w' => e = .returned (.bool true) ∧ Below w.heap.size w w' := by
  refine enterF Try.func10 rfl 57 Try.ntmps10 [] rfl [] rfl ?_
  intro φ F
  have M := Mm.start [] w
  refine wp_seq ?_
  -- region 0
  refine wp_region_lit ?_
  refine sq_pure F (wt0 rfl) (pu_assign rfl (evk)) rfl rfl ?_; clear F; intro φ F
  refine nx ?_
  refine wp_seq ?_
  -- region 1
  refine wp_region_lit ?_
  refine sq_callN2 F M (wt0 rfl) (fun v_ => .agg #[.int .i64 2, v_]) rfl en23 (evc (evk) evn) (loop_any 1 _) rfl rfl ?_; clear F M; intro φ ω v1 F M
  refine sq_call F M (wt0 rfl) rfl en11 (evc (F.ev rfl) evn) (graph_check_any 2 v1 ([Ed.mk 0 1 (St.mk 0 0), Ed.mk 1 0 (St.mk 0 1)]) _ (M.rv (i := 0) rfl) (by first | omega | (simp; done) | (simp; omega) | (refine Nat.le_trans (minL_len _) ?_; omega) | (refine Nat.le_trans (eachL_len _ _) ?_; omega))) rfl rfl ?_; clear F M; intro φ ω F M
  rw [show (checkG 2 ([Ed.mk 0 1 (St.mk 0 0), Ed.mk 1 0 (St.mk 0 1)])) = (0, (-1)) from by decide +kernel] at F
  refine sq_pure F (wt0 rfl) (pu_move rfl (F.ev rfl)) rfl rfl ?_; clear F; intro φ F
  refine sq_pure F (wt0 rfl) (pu_extract rfl (F.ev rfl) rfl) rfl rfl ?_; clear F; intro φ F
  refine sq_pure F (wt0 rfl) (pu_extract rfl (F.ev rfl) rfl) rfl rfl ?_; clear F; intro φ F
  refine sq_pure F (wt0 rfl) (pu_assign rfl (F.ev rfl)) rfl rfl ?_; clear F; intro φ F
  refine sq_pure F (wt0 rfl) (pu_assign rfl (F.ev rfl)) rfl rfl ?_; clear F; intro φ F
  refine nx ?_
  refine wp_seq ?_
  -- region 2
  refine wp_region_lit ?_
  refine sq_callN2 F M (wt0 rfl) (fun v_ => .agg #[.int .i64 2, v_]) rfl en23 (evc (evk) evn) (loop_any 0 _) rfl rfl ?_; clear F M; intro φ ω v2 F M
  refine sq_call F M (wt0 rfl) rfl en11 (evc (F.ev rfl) evn) (graph_check_any 2 v2 ([Ed.mk 0 1 (St.mk 0 0), Ed.mk 1 0 (St.mk 0 0)]) _ (M.rv (i := 0) rfl) (by first | omega | (simp; done) | (simp; omega) | (refine Nat.le_trans (minL_len _) ?_; omega) | (refine Nat.le_trans (eachL_len _ _) ?_; omega))) rfl rfl ?_; clear F M; intro φ ω F M
  rw [show (checkG 2 ([Ed.mk 0 1 (St.mk 0 0), Ed.mk 1 0 (St.mk 0 0)])) = (5, (-1)) from by decide +kernel] at F
  refine sq_pure F (wt0 rfl) (pu_move rfl (F.ev rfl)) rfl rfl ?_; clear F; intro φ F
  refine sq_pure F (wt0 rfl) (pu_extract rfl (F.ev rfl) rfl) rfl rfl ?_; clear F; intro φ F
  refine sq_pure F (wt0 rfl) (pu_extract rfl (F.ev rfl) rfl) rfl rfl ?_; clear F; intro φ F
  refine sq_pure F (wt0 rfl) (pu_assign rfl (F.ev rfl)) rfl rfl ?_; clear F; intro φ F
  refine sq_pure F (wt0 rfl) (pu_assign rfl (F.ev rfl)) rfl rfl ?_; clear F; intro φ F
  refine nx ?_
  refine wp_seq ?_
  -- region 3
  refine wp_region_lit ?_
  refine sq_callN2 F M (wt0 rfl) (fun v_ => .agg #[.int .i64 2, v_]) rfl en23 (evc (evk) evn) (loop_any 1 _) rfl rfl ?_; clear F M; intro φ ω v3 F M
  refine sq_callO (Z := (fun u x' => ∃ v rs vss, u = .tuple #[v, .int .i64 (cloG 2 ([Ed.mk 0 1 (St.mk 0 0), Ed.mk 1 0 (St.mk 0 1)])).2] ∧ x' = .own (fp3 v rs vss (cloG 2 ([Ed.mk 0 1 (St.mk 0 0), Ed.mk 1 0 (St.mk 0 1)])).1) (Rd3 v rs vss (cloG 2 ([Ed.mk 0 1 (St.mk 0 0), Ed.mk 1 0 (St.mk 0 1)])).1))) F M (wt0 rfl) rfl en15 (evc (F.ev rfl) evn) (graph_closure_any 2 v3 ([Ed.mk 0 1 (St.mk 0 0), Ed.mk 1 0 (St.mk 0 1)]) _ (M.rv (i := 0) rfl) (by first | omega | (simp; done) | (simp; omega) | (refine Nat.le_trans (minL_len _) ?_; omega) | (refine Nat.le_trans (eachL_len _ _) ?_; omega))) rfl rfl ?_; clear F M; rintro φ ω _ _ ⟨c4, rs4, vss4, rfl, rfl⟩ F M
  replace M : Mm [] w ω [.own (fp3 c4 rs4 vss4 ((cloG 2 ([Ed.mk 0 1 (St.mk 0 0), Ed.mk 1 0 (St.mk 0 1)])).1)) (Rd3 c4 rs4 vss4 ((cloG 2 ([Ed.mk 0 1 (St.mk 0 0), Ed.mk 1 0 (St.mk 0 1)])).1)), .row 40 4 v3 (([Ed.mk 0 1 (St.mk 0 0), Ed.mk 1 0 (St.mk 0 1)]).length) (cG ([Ed.mk 0 1 (St.mk 0 0), Ed.mk 1 0 (St.mk 0 1)])), .row 40 4 v2 (([Ed.mk 0 1 (St.mk 0 0), Ed.mk 1 0 (St.mk 0 0)]).length) (cG ([Ed.mk 0 1 (St.mk 0 0), Ed.mk 1 0 (St.mk 0 0)])), .row 40 4 v1 (([Ed.mk 0 1 (St.mk 0 0), Ed.mk 1 0 (St.mk 0 1)]).length) (cG ([Ed.mk 0 1 (St.mk 0 0), Ed.mk 1 0 (St.mk 0 1)]))] := M
  rw [show (cloG 2 ([Ed.mk 0 1 (St.mk 0 0), Ed.mk 1 0 (St.mk 0 1)])) = ([[[St.mk 0 0], [St.mk 0 0]], [[St.mk 0 1], [St.mk 0 0]]], 0) from by decide +kernel] at F M
  replace M : Mm [] w ω [.own (fp3 c4 rs4 vss4 ([[[St.mk 0 0], [St.mk 0 0]], [[St.mk 0 1], [St.mk 0 0]]])) (Rd3 c4 rs4 vss4 ([[[St.mk 0 0], [St.mk 0 0]], [[St.mk 0 1], [St.mk 0 0]]])), .row 40 4 v3 (([Ed.mk 0 1 (St.mk 0 0), Ed.mk 1 0 (St.mk 0 1)]).length) (cG ([Ed.mk 0 1 (St.mk 0 0), Ed.mk 1 0 (St.mk 0 1)])), .row 40 4 v2 (([Ed.mk 0 1 (St.mk 0 0), Ed.mk 1 0 (St.mk 0 0)]).length) (cG ([Ed.mk 0 1 (St.mk 0 0), Ed.mk 1 0 (St.mk 0 0)])), .row 40 4 v1 (([Ed.mk 0 1 (St.mk 0 0), Ed.mk 1 0 (St.mk 0 1)]).length) (cG ([Ed.mk 0 1 (St.mk 0 0), Ed.mk 1 0 (St.mk 0 1)]))] := M
  have hlr := In3.lr (Rd3.inn (M.pv (i := 0) rfl))
  have hlv := In3.lv (Rd3.inn (M.pv (i := 0) rfl)) 1 (by decide)
  have hX1 : ([[[St.mk 0 0], [St.mk 0 0]], [[St.mk 0 1], [St.mk 0 0]]] : List (List (List St))).length = 2 := rfl
  have hX2 : (at3 [[[St.mk 0 0], [St.mk 0 0]], [[St.mk 0 1], [St.mk 0 0]]] 1).length = 2 := rfl
  have hX3 : (atR (at3 [[[St.mk 0 0], [St.mk 0 0]], [[St.mk 0 1], [St.mk 0 0]]] 1) 0).length = 1 := rfl
  refine sq_pure F (wt0 rfl) (pu_move rfl (F.ev rfl)) rfl rfl ?_; clear F; intro φ F
  refine sq_pure F (wt0 rfl) (pu_extract rfl (F.ev rfl) rfl) rfl rfl ?_; clear F; intro φ F
  refine sq_pure F (wt0 rfl) (pu_extract rfl (F.ev rfl) rfl) rfl rfl ?_; clear F; intro φ F
  refine sq_pure F (wt0 rfl) (pu_assign rfl (F.ev rfl)) rfl rfl ?_; clear F; intro φ F
  refine sq_pure F (wt0 rfl) (pu_assign rfl (F.ev rfl)) rfl rfl ?_; clear F; intro φ F
  refine nx ?_
  refine wp_seq ?_
  -- region 4
  refine wp_region_lit ?_
  refine sq_pure F (wt0 rfl) (pu_move rfl (F.ev rfl)) rfl rfl ?_; clear F; intro φ F
  refine sq_pure F (wt0 rfl) (pu_eqlI rfl (F.ev rfl) (evk)) rfl rfl ?_; clear F; intro φ F
  rw [show decide ((0 : Int) = 0) = true from rfl] at F
  refine sq_pure F (wt0 rfl) (pu_move rfl (F.ev rfl)) rfl rfl ?_; clear F; intro φ F
  refine sq_pure F (wt1 F rfl rfl rfl rfl rfl) (pu_move rfl (F.ev rfl)) rfl rfl ?_; clear F; intro φ F
  refine sq_pure F (wt1 F rfl rfl rfl rfl rfl) (pu_eqlI rfl (F.ev rfl) (evk)) rfl rfl ?_; clear F; intro φ F
  rw [(show decide ((-1) = -1) = true by simp)] at F
  refine sq_pure F (wt0 rfl) (pu_pickt rfl (F.ev rfl) (F.ev rfl)) rfl rfl ?_; clear F; intro φ F
  refine sq_pure F (wt0 rfl) (pu_move rfl (F.ev rfl)) rfl rfl ?_; clear F; intro φ F
  refine sq_pure F (wt1 F rfl rfl rfl rfl rfl) (pu_move rfl (F.ev rfl)) rfl rfl ?_; clear F; intro φ F
  refine sq_pure F (wt1 F rfl rfl rfl rfl rfl) (pu_eqlI rfl (F.ev rfl) (evk)) rfl rfl ?_; clear F; intro φ F
  rw [show decide ((5 : Int) = 5) = true from rfl] at F
  refine sq_pure F (wt0 rfl) (pu_pickt rfl (F.ev rfl) (F.ev rfl)) rfl rfl ?_; clear F; intro φ F
  refine sq_pure F (wt0 rfl) (pu_move rfl (F.ev rfl)) rfl rfl ?_; clear F; intro φ F
  refine sq_pure F (wt1 F rfl rfl rfl rfl rfl) (pu_move rfl (F.ev rfl)) rfl rfl ?_; clear F; intro φ F
  refine sq_pure F (wt1 F rfl rfl rfl rfl rfl) (pu_eqlI rfl (F.ev rfl) (evk)) rfl rfl ?_; clear F; intro φ F
  rw [show decide ((0 : Int) = 0) = true from rfl] at F
  refine sq_pure F (wt0 rfl) (pu_pickt rfl (F.ev rfl) (F.ev rfl)) rfl rfl ?_; clear F; intro φ F
  refine sq_pure F (wt0 rfl) (pu_move rfl (F.ev rfl)) rfl rfl ?_; clear F; intro φ F
  refine sq_pure F (wt1 F rfl rfl rfl rfl rfl) (pu_move rfl (F.ev rfl)) rfl rfl ?_; clear F; intro φ F
  refine sq_pure F (wt1 F rfl rfl rfl rfl rfl) (pu_len rfl (F.ev rfl) sl32 (Rd3.top (M.pv (i := 0) rfl))) rfl rfl ?_; clear F; intro φ F
  refine sq_pure F (wt1 F rfl rfl rfl rfl rfl) (pu_eqlI rfl (F.ev rfl) (evk)) rfl rfl ?_; clear F; intro φ F
  rw [(show decide (((([[[St.mk 0 0], [St.mk 0 0]], [[St.mk 0 1], [St.mk 0 0]]]).length : Nat) : Int) = 2) = true from by decide +kernel)] at F
  refine sq_pure F (wt0 rfl) (pu_pickt rfl (F.ev rfl) (F.ev rfl)) rfl rfl ?_; clear F; intro φ F
  refine sq_pure F (wt0 rfl) (pu_move rfl (F.ev rfl)) rfl rfl ?_; clear F; intro φ F
  refine sq_pure F (wt1 F rfl rfl rfl rfl rfl) (pu_move rfl (F.ev rfl)) rfl rfl ?_; clear F; intro φ F
  refine sq_pure F (wt1 F rfl rfl rfl rfl rfl) (pu_ix rfl (F.ev rfl) (evk) sl32 (Rd3.top (M.pv (i := 0) rfl)) (by omega) (by omega)) rfl rfl ?_; clear F; intro φ F
  refine sq_rd F (wt1 F rfl rfl rfl rfl rfl) (ld_el1 rfl (F.ev rfl) one45 (fun _ e => e ▸ (Rd3.top (M.pv (i := 0) rfl))) (by omega) (cV_at (L := rs4) (by first | omega | (simp; done) | (simp; omega)))) rfl rfl ?_; clear F; intro φ F
  refine sq_pure F (wt1 F rfl rfl rfl rfl rfl) (pu_len rfl (F.ev rfl) sl45 (In3.row (Rd3.inn (M.pv (i := 0) rfl)) 1 (by first | omega | assumption))) rfl rfl ?_; clear F; intro φ F
  refine sq_pure F (wt1 F rfl rfl rfl rfl rfl) (pu_eqlI rfl (F.ev rfl) (evk)) rfl rfl ?_; clear F; intro φ F
  rw [(show decide ((((at3 ([[[St.mk 0 0], [St.mk 0 0]], [[St.mk 0 1], [St.mk 0 0]]]) 1).length : Nat) : Int) = 2) = true from by decide +kernel)] at F
  refine sq_pure F (wt0 rfl) (pu_pickt rfl (F.ev rfl) (F.ev rfl)) rfl rfl ?_; clear F; intro φ F
  refine sq_pure F (wt0 rfl) (pu_move rfl (F.ev rfl)) rfl rfl ?_; clear F; intro φ F
  refine sq_pure F (wt1 F rfl rfl rfl rfl rfl) (pu_move rfl (F.ev rfl)) rfl rfl ?_; clear F; intro φ F
  refine sq_pure F (wt1 F rfl rfl rfl rfl rfl) (pu_ix rfl (F.ev rfl) (evk) sl32 (Rd3.top (M.pv (i := 0) rfl)) (by omega) (by omega)) rfl rfl ?_; clear F; intro φ F
  refine sq_rd F (wt1 F rfl rfl rfl rfl rfl) (ld_el1 rfl (F.ev rfl) one45 (fun _ e => e ▸ (Rd3.top (M.pv (i := 0) rfl))) (by omega) (cV_at (L := rs4) (by first | omega | (simp; done) | (simp; omega)))) rfl rfl ?_; clear F; intro φ F
  refine sq_pure F (wt1 F rfl rfl rfl rfl rfl) (pu_ix rfl (F.ev rfl) (evk) sl45 (In3.row (Rd3.inn (M.pv (i := 0) rfl)) 1 (by first | omega | assumption)) (by omega) (by omega)) rfl rfl ?_; clear F; intro φ F
  refine sq_rd F (wt1 F rfl rfl rfl rfl rfl) (ld_el1 rfl (F.ev rfl) one44 (fun _ e => e ▸ (In3.row (Rd3.inn (M.pv (i := 0) rfl)) 1 (by first | omega | assumption))) (by omega) (cV_at (L := (atW vss4 1)) (by first | omega | (simp; done) | (simp; omega)))) rfl rfl ?_; clear F; intro φ F
  refine sq_pure F (wt1 F rfl rfl rfl rfl rfl) (pu_len rfl (F.ev rfl) sl44 (In3.one (Rd3.inn (M.pv (i := 0) rfl)) 1 0 (by first | omega | assumption) (by first | omega | assumption))) rfl rfl ?_; clear F; intro φ F
  refine sq_pure F (wt1 F rfl rfl rfl rfl rfl) (pu_eqlI rfl (F.ev rfl) (evk)) rfl rfl ?_; clear F; intro φ F
  rw [(show decide ((((atR (at3 ([[[St.mk 0 0], [St.mk 0 0]], [[St.mk 0 1], [St.mk 0 0]]]) 1) 0).length : Nat) : Int) = 1) = true from by decide +kernel)] at F
  refine sq_pure F (wt0 rfl) (pu_pickt rfl (F.ev rfl) (F.ev rfl)) rfl rfl ?_; clear F; intro φ F
  refine sq_pure F (wt0 rfl) (pu_assign rfl (F.ev rfl)) rfl rfl ?_; clear F; intro φ F
  refine nx ?_
  refine wp_ret ?_
  refine rt_tmp F rfl rfl ?_
  exact ⟨rfl, M.bel⟩

end Go.Proofs.Ytbleefegobmboaa
