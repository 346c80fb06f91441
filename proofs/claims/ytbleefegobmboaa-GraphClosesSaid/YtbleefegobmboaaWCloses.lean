/- Laws of layer 6. Made by walks/graphlaws.py. -/
import Derived.Test.YtbleefegobmboaaGa
import Derived.Test.YtbleefegobmboaaRk
namespace Go.Proofs.Ytbleefegobmboaa
open Go.RowKit
set_option maxRecDepth 100000
set_option linter.unusedSimpArgs false
set_option linter.unusedVariables false

set_option maxHeartbeats 4000000 in
theorem graphCloses_walk (n : Int) (ev : Value) (E : List Ed) (w : World) (hr : RdG w ev E) :
    Calls Try.prog 4 #[.agg #[.int .i64 n, ev]] w fun e w' => e = .returned (.bool true) ∧ Below w.heap.size w w' := by
  refine enterF Try.func4 rfl 37 Try.ntmps4 [.agg #[.int .i64 n, ev]] rfl [(0, .agg #[.int .i64 n, ev])] rfl ?_
  intro φ F
  have M := Mm.start [] w
  replace M := M.addArg (hr) (fun h_ => by first | (simp; done) | assumption | exact d3 h_ | (simp_all; done))
  refine wp_seq ?_
  -- region 0
  refine wp_region_lit ?_
  refine sq_box F M (wt0 rfl) rfl (F.ev rfl) (cs := #[.int .i64 n, ev]) rfl rfl rfl ?_; clear F M; intro φ ω g1 F M
  refine sq_pure F (wt0 rfl) (pu_assign rfl (evk)) rfl rfl ?_; clear F; intro φ F
  refine nx ?_
  refine wp_seq ?_
  -- region 1
  refine wp_region_lit ?_
  refine sq_call F M (wt0 rfl) rfl en10 evn (awake_any _) rfl rfl ?_; clear F M; intro φ ω F M
  refine sq_pure F (wt0 rfl) (pu_assign rfl (F.ev rfl)) rfl rfl ?_; clear F; intro φ F
  refine nx ?_
  refine wp_seq ?_
  refine wp_seq ?_
  -- region 2
  refine wp_region_lit ?_
  refine sq_pure F (wt0 rfl) (pu_field rfl (F.ev rfl) fo24_1) rfl rfl ?_; clear F; intro φ F
  refine sq_rd F (wt0 rfl) (ld_cell rfl (F.ev rfl) one22 (M.rd (i := 0) rfl) rfl) rfl rfl ?_; clear F; intro φ F
  refine sq_pure F (wt0 rfl) (pu_len rfl (F.ev rfl) sl22 (M.av (i := 1) rfl)) rfl rfl ?_; clear F; intro φ F
  refine sq_pure F (wt0 rfl) (pu_gtr rfl (F.ev rfl) (evk)) rfl rfl ?_; clear F; intro φ F
  refine nx ?_
  cases hs1 : (decide (100 < ((E.length : Nat) : Int)))
  · rw [hs1] at F
    have hs1i := of_decide_eq_false hs1
    refine wp_cond_false (F.ev rfl) ?_
    refine wp_skip ?_
    refine nxq ?_
    refine wp_seq ?_
    -- region 4
    refine wp_region_lit ?_
    refine sq_rd F (wt0 rfl) (ld_agg rfl (F.ev rfl) agg24 (M.rd (i := 0) rfl) rfl) rfl rfl ?_; clear F; intro φ F
    refine sq_callO (Z := (fun u x' => ∃ v rs vss, u = .tuple #[v, .int .i64 (cloG n E).2] ∧ x' = .own (fp3 v rs vss (cloG n E).1) (Rd3 v rs vss (cloG n E).1))) F M (wt0 rfl) rfl en15 (evc (F.ev rfl) evn) (graph_closure_any n ev E _ (M.av (i := 1) rfl) (by first | omega | (simp; done) | (simp; omega) | (refine Nat.le_trans (minL_len _) ?_; omega) | (refine Nat.le_trans (eachL_len _ _) ?_; omega))) rfl rfl ?_; clear F M; rintro φ ω _ _ ⟨c1, rs1, vss1, rfl, rfl⟩ F M
    replace M : Mm [] w ω [.own (fp3 c1 rs1 vss1 ((cloG n E).1)) (Rd3 c1 rs1 vss1 ((cloG n E).1)), .blk g1 24 #[.int .i64 n, ev], .arg 4 ev E.length (cG E)] := M
    refine sq_pure F (wt0 rfl) (pu_move rfl (F.ev rfl)) rfl rfl ?_; clear F; intro φ F
    refine sq_pure F (wt0 rfl) (pu_extract rfl (F.ev rfl) rfl) rfl rfl ?_; clear F; intro φ F
    refine sq_pure F (wt0 rfl) (pu_extract rfl (F.ev rfl) rfl) rfl rfl ?_; clear F; intro φ F
    refine sq_pure F (wt0 rfl) (pu_assign rfl (F.ev rfl)) rfl rfl ?_; clear F; intro φ F
    refine sq_pure F (wt0 rfl) (pu_assign rfl (F.ev rfl)) rfl rfl ?_; clear F; intro φ F
    refine nx ?_
    refine wp_seq ?_
    -- region 5
    refine wp_region_lit ?_
    refine sq_rd F (wt0 rfl) (ld_agg rfl (F.ev rfl) agg24 (M.rd (i := 1) rfl) rfl) rfl rfl ?_; clear F; intro φ F
    refine sq_callO (Z := (fun u x' => ∃ v rs vss, u = .tuple #[v, .int .i64 (cloG n E).2] ∧ x' = .own (fp3 v rs vss (cloG n E).1) (Rd3 v rs vss (cloG n E).1))) F M (wt0 rfl) rfl en16 (evc (F.ev rfl) evn) (rclosure_any n ev E _ (M.av (i := 2) rfl) (by first | omega | (simp; done) | (simp; omega) | (refine Nat.le_trans (minL_len _) ?_; omega) | (refine Nat.le_trans (eachL_len _ _) ?_; omega))) rfl rfl ?_; clear F M; rintro φ ω _ _ ⟨c2, rs2, vss2, rfl, rfl⟩ F M
    replace M : Mm [] w ω [.own (fp3 c2 rs2 vss2 ((cloG n E).1)) (Rd3 c2 rs2 vss2 ((cloG n E).1)), .own (fp3 c1 rs1 vss1 ((cloG n E).1)) (Rd3 c1 rs1 vss1 ((cloG n E).1)), .blk g1 24 #[.int .i64 n, ev], .arg 4 ev E.length (cG E)] := M
    refine sq_pure F (wt0 rfl) (pu_move rfl (F.ev rfl)) rfl rfl ?_; clear F; intro φ F
    refine sq_pure F (wt0 rfl) (pu_extract rfl (F.ev rfl) rfl) rfl rfl ?_; clear F; intro φ F
    refine sq_pure F (wt0 rfl) (pu_extract rfl (F.ev rfl) rfl) rfl rfl ?_; clear F; intro φ F
    refine sq_pure F (wt0 rfl) (pu_assign rfl (F.ev rfl)) rfl rfl ?_; clear F; intro φ F
    refine sq_pure F (wt0 rfl) (pu_assign rfl (F.ev rfl)) rfl rfl ?_; clear F; intro φ F
    refine nx ?_
    refine wp_seq ?_
    -- region 6
    refine wp_region_lit ?_
    refine sq_pure F (wt0 rfl) (pu_move rfl (F.ev rfl)) rfl rfl ?_; clear F; intro φ F
    refine sq_pure F (wt0 rfl) (pu_move rfl (F.ev rfl)) rfl rfl ?_; clear F; intro φ F
    refine sq_call F M (wt0 rfl) rfl en17 (evc (F.ev rfl) (evc (F.ev rfl) evn)) (gsame_any ((cloG n E).1) ((cloG n E).1) _ _ _ _ _ _ _ (M.pv (i := 1) rfl) (M.pv (i := 0) rfl) (by first | assumption | exact clo_sm _ _) (by first | assumption | exact clo_sm _ _)) rfl rfl ?_; clear F M; intro φ ω F M
    rw [(show decide (((cloG n E).1) = ((cloG n E).1)) = true by simp)] at F
    refine sq_pure F (wt0 rfl) (pu_assign rfl (F.ev rfl)) rfl rfl ?_; clear F; intro φ F
    refine nx ?_
    refine wp_seq ?_
    -- region 7
    refine wp_region_lit ?_
    refine sq_pure F (wt0 rfl) (pu_move rfl (F.ev rfl)) rfl rfl ?_; clear F; intro φ F
    refine sq_pure F (wt0 rfl) (pu_move rfl (F.ev rfl)) rfl rfl ?_; clear F; intro φ F
    refine sq_pure F (wt1 F rfl rfl rfl rfl rfl) (pu_move rfl (F.ev rfl)) rfl rfl ?_; clear F; intro φ F
    refine sq_pure F (wt0 rfl) (pu_pickt rfl (F.ev rfl) (F.ev rfl)) rfl rfl ?_; clear F; intro φ F
    refine sq_pure F (wt0 rfl) (pu_move rfl (F.ev rfl)) rfl rfl ?_; clear F; intro φ F
    refine sq_pure F (wt1 F rfl rfl rfl rfl rfl) (pu_move rfl (F.ev rfl)) rfl rfl ?_; clear F; intro φ F
    refine sq_pure F (wt1 F rfl rfl rfl rfl rfl) (pu_move rfl (F.ev rfl)) rfl rfl ?_; clear F; intro φ F
    refine sq_pure F (wt1 F rfl rfl rfl rfl rfl) (pu_eqlI rfl (F.ev rfl) (F.ev rfl)) rfl rfl ?_; clear F; intro φ F
    rw [(show decide ((cloG n E).2 = (cloG n E).2) = true by simp)] at F
    refine sq_pure F (wt0 rfl) (pu_pickt rfl (F.ev rfl) (F.ev rfl)) rfl rfl ?_; clear F; intro φ F
    refine sq_pure F (wt0 rfl) (pu_assign rfl (F.ev rfl)) rfl rfl ?_; clear F; intro φ F
    refine nx ?_
    refine wp_ret ?_
    refine rt_tmp F rfl rfl ?_
    exact ⟨rfl, M.bel⟩
  · rw [hs1] at F
    have hs1i := of_decide_eq_true hs1
    refine wp_cond_true (F.ev rfl) ?_
    refine wp_seq ?_
    -- region 3
    refine wp_region_lit ?_
    refine sq_pure F (wt0 rfl) (pu_move rfl (F.ev rfl)) rfl rfl ?_; clear F; intro φ F
    refine sq_pure F (wt0 rfl) (pu_assign rfl (F.ev rfl)) rfl rfl ?_; clear F; intro φ F
    refine nx ?_
    refine wp_ret ?_
    refine nxr ?_
    refine rt_tmp F rfl rfl ?_
    exact ⟨rfl, M.bel⟩

end Go.Proofs.Ytbleefegobmboaa
