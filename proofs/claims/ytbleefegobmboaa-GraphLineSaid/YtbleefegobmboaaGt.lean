/- Package graph. Made by walks/graph.py. -/
import Derived.Test.YtbleefegobmboaaRc
import Derived.Test.YtbleefegobmboaaPw
import Derived.Test.YtbleefegobmboaaGy
namespace Go.Proofs.Ytbleefegobmboaa
open Go.RowKit
set_option maxRecDepth 100000
set_option linter.unusedSimpArgs false
set_option linter.unusedVariables false

theorem en40 : enters Try.prog 40 = true := by kernel_rfl
set_option maxRecDepth 100000 in
set_option maxHeartbeats 4000000 in
theorem index_any (K : List Int) (v : Value) (x : Int) (w : World) (hr : RdV w 1 v K.length (cI K)) (hlen : K.length ≤ 20000000) :
    Calls Try.prog 44 #[v, .int .i64 x] w (fun e w' => e = .returned ((.int .i64 (ixI K x))) ∧ Below w.heap.size w w') := by
  refine enterF Try.func44 rfl 19 Try.ntmps44 [v, .int .i64 x] rfl [(0, v), (1, .int .i64 x)] rfl ?_
  intro φ F
  have M := Mm.start [] w
  replace M := M.addArg (hr) (fun h_ => by first | (simp; done) | assumption | exact d3 h_ | (simp_all; done))
  refine wp_seq ?_
  -- region 0
  refine wp_region_lit ?_
  refine sq_pure F (wt0 rfl) (pu_assign rfl (evk)) rfl rfl ?_; clear F; intro φ F
  refine nx ?_
  refine wp_seq ?_
  refine wp_seq ?_
  -- region 1
  refine wp_region_lit ?_
  refine sq_pure F (wt0 rfl) (pu_move rfl (F.ev rfl)) rfl rfl ?_; clear F; intro φ F
  refine sq_pure F (wt0 rfl) (pu_len rfl (F.ev rfl) sl29 (M.av (i := 0) rfl)) rfl rfl ?_; clear F; intro φ F
  refine sq_pure F (wt0 rfl) (pu_move rfl (evk)) rfl rfl ?_; clear F; intro φ F
  refine nx ?_
  refine wp_block ?_
  refine lp (σ := Int) (fun i φ' w' => Fr φ' 19 [(0, v), (1, .int .i64 x), (7, .int .i64 ((K.length : Nat) : Int)), (8, .int .i64 i)] ∧ Mm [] w w' [.arg 1 v K.length (cI K)] ∧ (0 ≤ i) ∧ (i ≤ (K.length : Int)) ∧ (∀ k, k < i.toNat → ¬ x = atI K k)) (fun i => ((K.length : Int) - i).toNat) (0) ⟨((((F.nil.cons (F.get (k := 8) rfl)).cons (F.get (k := 7) rfl)).cons (F.get (k := 1) rfl)).cons (F.get (k := 0) rfl)), M, Int.le_refl _, by omega, all_none⟩ ?_
  clear F M
  rintro i φ ω ⟨F, M, hp1_0, hp1_1, hp1_2⟩
  refine wp_seq ?_
  -- region 2
  refine wp_region_lit ?_
  refine sq_pure F (wt0 rfl) (pu_lss rfl (F.ev rfl) (F.ev rfl)) rfl rfl ?_; clear F; intro φ F
  refine nx ?_
  refine wp_seq ?_
  cases hs2 : (decide (i < ((K.length : Nat) : Int)))
  · rw [hs2] at F
    have hs2i := of_decide_eq_false hs2
    refine wp_cond_false (F.ev rfl) ?_
    refine wp_exit ?_
    refine nxe ?_
    refine nxe ?_
    refine nxm ?_
    refine nxq ?_
    refine wp_seq ?_
    -- region 7
    refine wp_region_lit ?_
    refine sq_pure F (wt0 rfl) (pu_assign rfl (evk)) rfl rfl ?_; clear F; intro φ F
    refine nx ?_
    refine wp_ret ?_
    refine rt_tmp F rfl rfl ?_
    refine ⟨?_, M.bel⟩
    rw [ix_miss hp1_2 hs2i]
  · rw [hs2] at F
    have hs2i := of_decide_eq_true hs2
    refine wp_cond_true (F.ev rfl) ?_
    refine wp_skip ?_
    refine nxq ?_
    refine wp_seq ?_
    refine wp_block ?_
    refine wp_seq ?_
    -- region 3
    refine wp_region_lit ?_
    refine sq_pure F (wt0 rfl) (pu_move rfl (F.ev rfl)) rfl rfl ?_; clear F; intro φ F
    refine sq_pure F (wt0 rfl) (pu_assign rfl (F.ev rfl)) rfl rfl ?_; clear F; intro φ F
    refine nx ?_
    refine wp_seq ?_
    -- region 4
    refine wp_region_lit ?_
    refine sq_pure F (wt0 rfl) (pu_move rfl (F.ev rfl)) rfl rfl ?_; clear F; intro φ F
    refine sq_pure F (wt0 rfl) (pu_move rfl (F.ev rfl)) rfl rfl ?_; clear F; intro φ F
    refine sq_pure F (wt0 rfl) (pu_move rfl (F.ev rfl)) rfl rfl ?_; clear F; intro φ F
    refine sq_pure F (wt0 rfl) (pu_ix rfl (F.ev rfl) (F.ev rfl) sl29 (M.av (i := 0) rfl) (by omega) (by omega)) rfl rfl ?_; clear F; intro φ F
    refine sq_rd F (wt0 rfl) (ld_el1 rfl (F.ev rfl) one3 (fun _ e => e ▸ (M.av (i := 0) rfl)) (by omega) (cI_at (by first | omega | (simp; done) | (simp; omega)))) rfl rfl ?_; clear F; intro φ F
    refine sq_pure F (wt0 rfl) (pu_eqlI rfl (F.ev rfl) (F.ev rfl)) rfl rfl ?_; clear F; intro φ F
    refine nx ?_
    cases hs3 : (decide (x = (atI K i.toNat)))
    · rw [hs3] at F
      have hs3i := of_decide_eq_false hs3
      refine wp_cond_false (F.ev rfl) ?_
      refine wp_skip ?_
      refine nxb ?_
      refine nxq ?_
      -- region 6
      refine wp_region_lit ?_
      refine sq_pure F (wt0 rfl) (pu_add rfl (F.ev rfl) (evk) (by omega) (by omega)) rfl rfl ?_; clear F; intro φ F
      refine sq_pure F (wt0 rfl) (pu_move rfl (F.ev rfl)) rfl rfl ?_; clear F; intro φ F
      refine wpList_nil ?_
      exact ⟨i + 1, by omega, ((((F.nil.cons (F.get (k := 8) rfl)).cons (F.get (k := 7) rfl)).cons (F.get (k := 1) rfl)).cons (F.get (k := 0) rfl)), M, by omega, by omega, all_succ hp1_2 hp1_0 (hs3i)⟩
    · rw [hs3] at F
      have hs3i := of_decide_eq_true hs3
      refine wp_cond_true (F.ev rfl) ?_
      refine wp_seq ?_
      -- region 5
      refine wp_region_lit ?_
      refine sq_pure F (wt0 rfl) (pu_move rfl (F.ev rfl)) rfl rfl ?_; clear F; intro φ F
      refine sq_pure F (wt0 rfl) (pu_assign rfl (F.ev rfl)) rfl rfl ?_; clear F; intro φ F
      refine nx ?_
      refine wp_ret ?_
      refine nxrb ?_
      refine nxr ?_
      refine nxr ?_
      refine nxrb ?_
      refine nxr ?_
      refine rt_tmp F rfl rfl ?_
      refine ⟨?_, M.bel⟩
      rw [ix_hit (by omega) (by omega) hp1_2 hs3i]

set_option maxRecDepth 100000 in
set_option maxHeartbeats 4000000 in
theorem contains_any (K : List Int) (v : Value) (x : Int) (w : World) (hr : RdV w 1 v K.length (cI K)) (hlen : K.length ≤ 20000000) :
    Calls Try.prog 35 #[v, .int .i64 x] w (fun e w' => e = .returned ((.bool (memI K x))) ∧ Below w.heap.size w w') := by
  refine enterF Try.func35 rfl 9 Try.ntmps35 [v, .int .i64 x] rfl [(0, v), (1, .int .i64 x)] rfl ?_
  intro φ F
  have M := Mm.start [] w
  replace M := M.addArg (hr) (fun h_ => by first | (simp; done) | assumption | exact d3 h_ | (simp_all; done))
  refine wp_seq ?_
  -- region 0
  refine wp_region_lit ?_
  refine sq_pure F (wt0 rfl) (pu_assign rfl (evk)) rfl rfl ?_; clear F; intro φ F
  refine nx ?_
  refine wp_seq ?_
  -- region 1
  refine wp_region_lit ?_
  refine sq_pure F (wt0 rfl) (pu_move rfl (F.ev rfl)) rfl rfl ?_; clear F; intro φ F
  refine sq_pure F (wt0 rfl) (pu_move rfl (F.ev rfl)) rfl rfl ?_; clear F; intro φ F
  refine sq_call F M (wt0 rfl) rfl en44 (evc (F.ev rfl) (evc (F.ev rfl) evn)) (index_any K v x _ (M.av (i := 0) rfl) (by first | omega | (simp; done) | (simp; omega) | (refine Nat.le_trans (minL_len _) ?_; omega) | (refine Nat.le_trans (eachL_len _ _) ?_; omega))) rfl rfl ?_; clear F M; intro φ ω F M
  refine sq_pure F (wt0 rfl) (pu_geq rfl (F.ev rfl) (evk)) rfl rfl ?_; clear F; intro φ F
  refine sq_pure F (wt0 rfl) (pu_assign rfl (F.ev rfl)) rfl rfl ?_; clear F; intro φ F
  refine nx ?_
  refine wp_ret ?_
  refine rt_tmp F rfl rfl ?_
  exact ⟨rfl, M.bel⟩

set_option maxRecDepth 100000 in
set_option maxHeartbeats 4000000 in
theorem isNode_any (n k : Int) (ev : Value) (w : World) :
    Calls Try.prog 24 #[.agg #[.int .i64 n, ev], .int .i64 k] w (fun e w' => e = .returned ((.bool (inN n k))) ∧ Below w.heap.size w w') := by
  refine enterF Try.func24 rfl 13 Try.ntmps24 [.agg #[.int .i64 n, ev], .int .i64 k] rfl [(0, .agg #[.int .i64 n, ev]), (1, .int .i64 k)] rfl ?_
  intro φ F
  have M := Mm.start [] w
  refine wp_seq ?_
  -- region 0
  refine wp_region_lit ?_
  refine sq_box F M (wt0 rfl) rfl (F.ev rfl) (cs := #[.int .i64 n, ev]) rfl rfl rfl ?_; clear F M; intro φ ω g1 F M
  refine sq_pure F (wt0 rfl) (pu_assign rfl (evk)) rfl rfl ?_; clear F; intro φ F
  refine nx ?_
  refine wp_seq ?_
  -- region 1
  refine wp_region_lit ?_
  refine sq_pure F (wt0 rfl) (pu_move rfl (F.ev rfl)) rfl rfl ?_; clear F; intro φ F
  refine sq_pure F (wt0 rfl) (pu_leq rfl (evk) (F.ev rfl)) rfl rfl ?_; clear F; intro φ F
  refine sq_pure F (wt0 rfl) (pu_move rfl (F.ev rfl)) rfl rfl ?_; clear F; intro φ F
  cases hs1 : (decide (0 ≤ k))
  · rw [hs1] at F
    have hs1i := of_decide_eq_false hs1
    refine sq_skip F (wtn F rfl rfl rfl rfl rfl) rfl rfl ?_; clear F; intro φ F
    refine sq_skip F (wtn F rfl rfl rfl rfl rfl) rfl rfl ?_; clear F; intro φ F
    refine sq_skip F (wtn F rfl rfl rfl rfl rfl) rfl rfl ?_; clear F; intro φ F
    refine sq_skip F (wtn F rfl rfl rfl rfl rfl) rfl rfl ?_; clear F; intro φ F
    refine sq_pure F (wt0 rfl) (pu_pickf rfl (F.ev rfl) (evk)) rfl rfl ?_; clear F; intro φ F
    refine sq_pure F (wt0 rfl) (pu_assign rfl (F.ev rfl)) rfl rfl ?_; clear F; intro φ F
    refine nx ?_
    refine wp_ret ?_
    refine rt_tmp F rfl rfl ?_
    refine ⟨?_, M.bel⟩
    rw [in_no (by omega)]
  · rw [hs1] at F
    have hs1i := of_decide_eq_true hs1
    refine sq_pure F (wt1 F rfl rfl rfl rfl rfl) (pu_move rfl (F.ev rfl)) rfl rfl ?_; clear F; intro φ F
    refine sq_pure F (wt1 F rfl rfl rfl rfl rfl) (pu_field rfl (F.ev rfl) fo24_0) rfl rfl ?_; clear F; intro φ F
    refine sq_rd F (wt1 F rfl rfl rfl rfl rfl) (ld_cell rfl (F.ev rfl) one3 (M.rd (i := 0) rfl) rfl) rfl rfl ?_; clear F; intro φ F
    refine sq_pure F (wt1 F rfl rfl rfl rfl rfl) (pu_lss rfl (F.ev rfl) (F.ev rfl)) rfl rfl ?_; clear F; intro φ F
    refine sq_pure F (wt0 rfl) (pu_pickt rfl (F.ev rfl) (F.ev rfl)) rfl rfl ?_; clear F; intro φ F
    refine sq_pure F (wt0 rfl) (pu_assign rfl (F.ev rfl)) rfl rfl ?_; clear F; intro φ F
    refine nx ?_
    refine wp_ret ?_
    refine rt_tmp F rfl rfl ?_
    refine ⟨?_, M.bel⟩
    rw [in_yes (by omega)]

set_option maxRecDepth 100000 in
set_option maxHeartbeats 4000000 in
theorem waits_any (k : Int) (lv ev : Value) (K : List Int) (E : List Ed) (w : World) (hl : RdV w 1 lv K.length (cI K)) (hr : RdG w ev E) (hlk : K.length ≤ 20000000) (hlen : E.length ≤ 20000000) :
    Calls Try.prog 36 #[.int .i64 k, lv, ev] w (fun e w' => e = .returned ((.bool (waitsB E K k))) ∧ Below w.heap.size w w') := by
  refine enterF Try.func36 rfl 33 Try.ntmps36 [.int .i64 k, lv, ev] rfl [(0, .int .i64 k), (1, lv), (2, ev)] rfl ?_
  intro φ F
  have M := Mm.start [] w
  replace M := M.addArg (hr) (fun h_ => by first | (simp; done) | assumption | exact d3 h_ | (simp_all; done))
  replace M := M.addArg (hl) (fun h_ => by first | (simp; done) | assumption | exact d3 h_ | (simp_all; done))
  refine wp_seq ?_
  -- region 0
  refine wp_region_lit ?_
  refine sq_pure F (wt0 rfl) (pu_assign rfl (evk)) rfl rfl ?_; clear F; intro φ F
  refine nx ?_
  refine wp_seq ?_
  refine wp_seq ?_
  -- region 1
  refine wp_region_lit ?_
  refine sq_pure F (wt0 rfl) (pu_move rfl (F.ev rfl)) rfl rfl ?_; clear F; intro φ F
  refine sq_pure F (wt0 rfl) (pu_len rfl (F.ev rfl) sl22 (M.av (i := 1) rfl)) rfl rfl ?_; clear F; intro φ F
  refine sq_pure F (wt0 rfl) (pu_move rfl (evk)) rfl rfl ?_; clear F; intro φ F
  refine nx ?_
  refine wp_block ?_
  refine lp (σ := Int) (fun i φ' w' => Fr φ' 33 [(0, .int .i64 k), (1, lv), (9, ev), (10, .int .i64 ((E.length : Nat) : Int)), (11, .int .i64 i)] ∧ Mm [] w w' [.arg 1 lv K.length (cI K), .arg 4 ev E.length (cG E)] ∧ (0 ≤ i) ∧ (i ≤ (E.length : Int)) ∧ (∀ p, p < i.toNat → waitE K k (atG E p) = false)) (fun i => ((E.length : Int) - i).toNat) (0) ⟨(((((F.nil.cons (F.get (k := 11) rfl)).cons (F.get (k := 10) rfl)).cons (F.get (k := 9) rfl)).cons (F.get (k := 1) rfl)).cons (F.get (k := 0) rfl)), M, Int.le_refl _, by omega, all_none⟩ ?_
  clear F M
  rintro i φ ω ⟨F, M, hp1_0, hp1_1, hp1_2⟩
  refine wp_seq ?_
  -- region 2
  refine wp_region_lit ?_
  refine sq_pure F (wt0 rfl) (pu_lss rfl (F.ev rfl) (F.ev rfl)) rfl rfl ?_; clear F; intro φ F
  refine nx ?_
  refine wp_seq ?_
  cases hs2 : (decide (i < ((E.length : Nat) : Int)))
  · rw [hs2] at F
    have hs2i := of_decide_eq_false hs2
    refine wp_cond_false (F.ev rfl) ?_
    refine wp_exit ?_
    refine nxe ?_
    refine nxe ?_
    refine nxm ?_
    refine nxq ?_
    refine wp_seq ?_
    -- region 7
    refine wp_region_lit ?_
    refine sq_pure F (wt0 rfl) (pu_assign rfl (evk)) rfl rfl ?_; clear F; intro φ F
    refine nx ?_
    refine wp_ret ?_
    refine rt_tmp F rfl rfl ?_
    refine ⟨?_, M.bel⟩
    rw [waits_miss hp1_2 hs2i]
  · rw [hs2] at F
    have hs2i := of_decide_eq_true hs2
    refine wp_cond_true (F.ev rfl) ?_
    refine wp_skip ?_
    refine nxq ?_
    refine wp_seq ?_
    refine wp_block ?_
    refine wp_seq ?_
    -- region 3
    refine wp_region_lit ?_
    refine sq_pure F (wt0 rfl) (pu_ix rfl (F.ev rfl) (F.ev rfl) sl22 (M.av (i := 1) rfl) (by omega) (by omega)) rfl rfl ?_; clear F; intro φ F
    refine sq_rd F (wt0 rfl) (ld_el rfl (F.ev rfl) agg40 (fun _ e => e ▸ (M.av (i := 1) rfl)) (by omega) (cG_at (by first | omega | (simp; done) | (simp; omega))) rfl) rfl rfl ?_; clear F; intro φ F
    refine sq_alloc F M (wt0 rfl) rfl z40 rfl rfl ?_; clear F M; intro φ ω g1 F M
    refine sq_stA F M (wt0 rfl) rfl (F.ev rfl) (F.ev rfl) (i := 0) rfl agg40 rfl rfl rfl rfl ?_; clear M; intro ω M
    refine nx ?_
    refine wp_seq ?_
    -- region 4
    refine wp_region_lit ?_
    refine sq_pure F (wt0 rfl) (pu_field rfl (F.ev rfl) fo40_1) rfl rfl ?_; clear F; intro φ F
    refine sq_rd F (wt0 rfl) (ld_cell rfl (F.ev rfl) one3 (M.rd (i := 0) rfl) rfl) rfl rfl ?_; clear F; intro φ F
    refine sq_pure F (wt0 rfl) (pu_move rfl (F.ev rfl)) rfl rfl ?_; clear F; intro φ F
    refine sq_pure F (wt0 rfl) (pu_eqlI rfl (F.ev rfl) (F.ev rfl)) rfl rfl ?_; clear F; intro φ F
    refine sq_pure F (wt0 rfl) (pu_move rfl (F.ev rfl)) rfl rfl ?_; clear F; intro φ F
    cases hs3 : (decide ((atG E i.toNat).t = k))
    · rw [hs3] at F
      have hs3i := of_decide_eq_false hs3
      refine sq_skip F (wtn F rfl rfl rfl rfl rfl) rfl rfl ?_; clear F; intro φ F
      refine sq_skip F (wtn F rfl rfl rfl rfl rfl) rfl rfl ?_; clear F; intro φ F
      refine sq_skip F (wtn F rfl rfl rfl rfl rfl) rfl rfl ?_; clear F; intro φ F
      refine sq_skip F (wtn F rfl rfl rfl rfl rfl) rfl rfl ?_; clear F; intro φ F
      refine sq_pure F (wt0 rfl) (pu_pickf rfl (F.ev rfl) (evk)) rfl rfl ?_; clear F; intro φ F
      refine sq_pure F (wt0 rfl) (pu_move rfl (F.ev rfl)) rfl rfl ?_; clear F; intro φ F
      refine sq_skip F (wtn F rfl rfl rfl rfl rfl) rfl rfl ?_; clear F; intro φ F
      refine sq_skip F (wtn F rfl rfl rfl rfl rfl) rfl rfl ?_; clear F; intro φ F
      refine sq_skip F (wtn F rfl rfl rfl rfl rfl) rfl rfl ?_; clear F; intro φ F
      refine sq_skip F (wtn F rfl rfl rfl rfl rfl) rfl rfl ?_; clear F; intro φ F
      refine sq_skip F (wtn F rfl rfl rfl rfl rfl) rfl rfl ?_; clear F; intro φ F
      refine sq_pure F (wt0 rfl) (pu_pickf rfl (F.ev rfl) (evk)) rfl rfl ?_; clear F; intro φ F
      refine nx ?_
      refine wp_cond_false (F.ev rfl) ?_
      refine wp_skip ?_
      refine nxb ?_
      refine nxq ?_
      -- region 6
      refine wp_region_lit ?_
      refine sq_pure F (wt0 rfl) (pu_add rfl (F.ev rfl) (evk) (by omega) (by omega)) rfl rfl ?_; clear F; intro φ F
      refine sq_pure F (wt0 rfl) (pu_move rfl (F.ev rfl)) rfl rfl ?_; clear F; intro φ F
      refine wpList_nil ?_
      exact ⟨i + 1, by omega, (((((F.nil.cons (F.get (k := 11) rfl)).cons (F.get (k := 10) rfl)).cons (F.get (k := 9) rfl)).cons (F.get (k := 1) rfl)).cons (F.get (k := 0) rfl)), (M.sub (.cons _ (List.Sublist.refl _))), by omega, by omega, all_succ hp1_2 hp1_0 (wait_f (.inl hs3i))⟩
    · rw [hs3] at F
      have hs3i := of_decide_eq_true hs3
      refine sq_pure F (wt1 F rfl rfl rfl rfl rfl) (pu_field rfl (F.ev rfl) fo40_2) rfl rfl ?_; clear F; intro φ F
      refine sq_rd F (wt1 F rfl rfl rfl rfl rfl) (ld_sub rfl (F.ev rfl) agg38 (M.rd (i := 0) rfl) rfl rfl) rfl rfl ?_; clear F; intro φ F
      refine sq_pure F (wt1 F rfl rfl rfl rfl rfl) (bu38_ rfl) rfl rfl ?_; clear F; intro φ F
      refine sq_pure F (wt1 F rfl rfl rfl rfl rfl) (pu_eqlA rfl (F.ev rfl) (F.ev rfl) eqg38 (fun w => eqS38 (atG E i.toNat).p (St.mk 0 0) w)) rfl rfl ?_; clear F; intro φ F
      refine sq_pure F (wt0 rfl) (pu_pickt rfl (F.ev rfl) (F.ev rfl)) rfl rfl ?_; clear F; intro φ F
      refine sq_pure F (wt0 rfl) (pu_move rfl (F.ev rfl)) rfl rfl ?_; clear F; intro φ F
      cases hs4 : (decide ((atG E i.toNat).p = (St.mk 0 0)))
      · rw [hs4] at F
        have hs4i := of_decide_eq_false hs4
        refine sq_skip F (wtn F rfl rfl rfl rfl rfl) rfl rfl ?_; clear F; intro φ F
        refine sq_skip F (wtn F rfl rfl rfl rfl rfl) rfl rfl ?_; clear F; intro φ F
        refine sq_skip F (wtn F rfl rfl rfl rfl rfl) rfl rfl ?_; clear F; intro φ F
        refine sq_skip F (wtn F rfl rfl rfl rfl rfl) rfl rfl ?_; clear F; intro φ F
        refine sq_skip F (wtn F rfl rfl rfl rfl rfl) rfl rfl ?_; clear F; intro φ F
        refine sq_pure F (wt0 rfl) (pu_pickf rfl (F.ev rfl) (evk)) rfl rfl ?_; clear F; intro φ F
        refine nx ?_
        refine wp_cond_false (F.ev rfl) ?_
        refine wp_skip ?_
        refine nxb ?_
        refine nxq ?_
        -- region 6
        refine wp_region_lit ?_
        refine sq_pure F (wt0 rfl) (pu_add rfl (F.ev rfl) (evk) (by omega) (by omega)) rfl rfl ?_; clear F; intro φ F
        refine sq_pure F (wt0 rfl) (pu_move rfl (F.ev rfl)) rfl rfl ?_; clear F; intro φ F
        refine wpList_nil ?_
        exact ⟨i + 1, by omega, (((((F.nil.cons (F.get (k := 11) rfl)).cons (F.get (k := 10) rfl)).cons (F.get (k := 9) rfl)).cons (F.get (k := 1) rfl)).cons (F.get (k := 0) rfl)), (M.sub (.cons _ (List.Sublist.refl _))), by omega, by omega, all_succ hp1_2 hp1_0 (wait_f (.inr (.inl hs4i)))⟩
      · rw [hs4] at F
        have hs4i := of_decide_eq_true hs4
        refine sq_pure F (wt1 F rfl rfl rfl rfl rfl) (pu_move rfl (F.ev rfl)) rfl rfl ?_; clear F; intro φ F
        refine sq_pure F (wt1 F rfl rfl rfl rfl rfl) (pu_field rfl (F.ev rfl) fo40_0) rfl rfl ?_; clear F; intro φ F
        refine sq_rd F (wt1 F rfl rfl rfl rfl rfl) (ld_cell rfl (F.ev rfl) one3 (M.rd (i := 0) rfl) rfl) rfl rfl ?_; clear F; intro φ F
        refine sq_call F M (wt1 F rfl rfl rfl rfl rfl) rfl en35 (evc (F.ev rfl) (evc (F.ev rfl) evn)) (contains_any K lv ((atG E i.toNat).f) _ (M.av (i := 1) rfl) (by first | omega | (simp; done) | (simp; omega) | (refine Nat.le_trans (minL_len _) ?_; omega) | (refine Nat.le_trans (eachL_len _ _) ?_; omega))) rfl rfl ?_; clear F M; intro φ ω F M
        cases hs5 : (memI K ((atG E i.toNat).f))
        · rw [hs5] at F
          refine sq_pure F (wt1 F rfl rfl rfl rfl rfl) (pu_not rfl (F.ev rfl)) rfl rfl ?_; clear F; intro φ F
          rw [show (!false) = true from rfl] at F
          refine sq_pure F (wt0 rfl) (pu_pickt rfl (F.ev rfl) (F.ev rfl)) rfl rfl ?_; clear F; intro φ F
          refine nx ?_
          refine wp_cond_true (F.ev rfl) ?_
          refine wp_seq ?_
          -- region 5
          refine wp_region_lit ?_
          refine sq_pure F (wt0 rfl) (pu_assign rfl (evk)) rfl rfl ?_; clear F; intro φ F
          refine nx ?_
          refine wp_ret ?_
          refine nxrb ?_
          refine nxr ?_
          refine nxr ?_
          refine nxrb ?_
          refine nxr ?_
          refine rt_tmp F rfl rfl ?_
          refine ⟨?_, M.bel⟩
          rw [waits_hit (i := i) (by omega) (by omega) (wait_t hs3i hs4i hs5)]
        · rw [hs5] at F
          refine sq_pure F (wt1 F rfl rfl rfl rfl rfl) (pu_not rfl (F.ev rfl)) rfl rfl ?_; clear F; intro φ F
          rw [show (!true) = false from rfl] at F
          refine sq_pure F (wt0 rfl) (pu_pickt rfl (F.ev rfl) (F.ev rfl)) rfl rfl ?_; clear F; intro φ F
          refine nx ?_
          refine wp_cond_false (F.ev rfl) ?_
          refine wp_skip ?_
          refine nxb ?_
          refine nxq ?_
          -- region 6
          refine wp_region_lit ?_
          refine sq_pure F (wt0 rfl) (pu_add rfl (F.ev rfl) (evk) (by omega) (by omega)) rfl rfl ?_; clear F; intro φ F
          refine sq_pure F (wt0 rfl) (pu_move rfl (F.ev rfl)) rfl rfl ?_; clear F; intro φ F
          refine wpList_nil ?_
          exact ⟨i + 1, by omega, (((((F.nil.cons (F.get (k := 11) rfl)).cons (F.get (k := 10) rfl)).cons (F.get (k := 9) rfl)).cons (F.get (k := 1) rfl)).cons (F.get (k := 0) rfl)), (M.sub (.cons _ (List.Sublist.refl _))), by omega, by omega, all_succ hp1_2 hp1_0 (wait_f (.inr (.inr hs5)))⟩

set_option maxRecDepth 100000 in
set_option maxHeartbeats 4000000 in
theorem forward_any (n : Int) (ev : Value) (E : List Ed) (w : World) (hr : RdG w ev E) (hlen : E.length ≤ 20000000) (hn0 : 0 ≤ n) (hn : n ≤ 8) (hfit : ∀ x ∈ E, fitsB n x = true) :
    Calls Try.prog 26 #[.agg #[.int .i64 n, ev]] w (fun e w' => ∃ v, e = .returned v ∧ Below w.heap.size w w' ∧ w'.ownsRow w.heap.size 3 1 v (orderL E n.toNat).length (cI (orderL E n.toNat))) := by
  refine enterF Try.func26 rfl 33 Try.ntmps26 [.agg #[.int .i64 n, ev]] rfl [(0, .agg #[.int .i64 n, ev])] rfl ?_
  intro φ F
  have M := Mm.start [] w
  replace M := M.addArg (hr) (fun h_ => by first | (simp; done) | assumption | exact d3 h_ | (simp_all; done))
  refine wp_seq ?_
  have hfn : ∀ x ∈ E, fitsB ((n.toNat : Nat) : Int) x = true := by rw [show ((n.toNat : Nat) : Int) = n by omega]; exact hfit
  -- region 0
  refine wp_region_lit ?_
  refine sq_box F M (wt0 rfl) rfl (F.ev rfl) (cs := #[.int .i64 n, ev]) rfl rfl rfl ?_; clear F M; intro φ ω g1 F M
  refine sq_pure F (wt0 rfl) (pu_assign rfl (evk)) rfl rfl ?_; clear F; intro φ F
  refine nx ?_
  refine wp_scope_straight ?_
  refine wp_seq ?_
  -- region 1
  refine wp_region_lit ?_
  refine sq_pure F (wt0 rfl) (pu_assign rfl (evk)) rfl rfl ?_; clear F; intro φ F
  refine nx ?_
  refine wp_seq ?_
  refine wp_label ?_
  refine nxq ?_
  refine wp_seq ?_
  refine wp_block ?_
  refine lp (σ := Int) (fun r φ' w' => ∃ vq : Value, Fr φ' 33 [(1, .pointer (some ⟨g1, 0, none⟩)), (3, vq)] ∧ Mm [] w w' [.row 3 1 vq ((roundsO E n.toNat r.toNat).2.length) (cI (roundsO E n.toNat r.toNat).2), .blk g1 24 #[.int .i64 n, ev], .arg 4 ev E.length (cG E)] ∧ (0 ≤ r) ∧ (r ≤ n) ∧ ((roundsO E n.toNat r.toNat).2.length = r.toNat)) (fun r => (n - r).toNat) (0) ⟨(.slice none 0 0), ((F.nil.cons (F.get (k := 3) rfl)).cons (F.get (k := 1) rfl)), (by have z := M.nilRow 3 1; exact z), Int.le_refl _, by omega, rfl⟩ ?_
  clear F M
  rintro r φ ω ⟨vq, F, M, hp1_0, hp1_1, hp1_2⟩
  refine wp_seq ?_
  refine wp_seq ?_
  -- region 2
  refine wp_region_lit ?_
  refine sq_pure F (wt0 rfl) (pu_move rfl (F.ev rfl)) rfl rfl ?_; clear F; intro φ F
  refine sq_pure F (wt0 rfl) (pu_len rfl (F.ev rfl) sl29 (M.rv (i := 0) rfl)) rfl rfl ?_; clear F; intro φ F
  refine sq_pure F (wt0 rfl) (pu_field rfl (F.ev rfl) fo24_0) rfl rfl ?_; clear F; intro φ F
  refine sq_rd F (wt0 rfl) (ld_cell rfl (F.ev rfl) one3 (M.rd (i := 1) rfl) rfl) rfl rfl ?_; clear F; intro φ F
  refine sq_pure F (wt0 rfl) (pu_lss rfl (F.ev rfl) (F.ev rfl)) rfl rfl ?_; clear F; intro φ F
  refine nx ?_
  cases hs2 : (decide ((((roundsO E n.toNat r.toNat).2.length : Nat) : Int) < n))
  · rw [hs2] at F
    have hs2i := of_decide_eq_false hs2
    refine wp_cond_false (F.ev rfl) ?_
    refine wp_exit ?_
    refine nxe ?_
    refine nxe ?_
    refine nxm ?_
    refine nxq ?_
    refine wp_seq ?_
    -- region 9
    refine wp_region_lit ?_
    refine sq_pure F (wt0 rfl) (pu_move rfl (F.ev rfl)) rfl rfl ?_; clear F; intro φ F
    refine sq_pure F (wt0 rfl) (pu_assign rfl (F.ev rfl)) rfl rfl ?_; clear F; intro φ F
    refine nx ?_
    refine wp_ret ?_
    refine nxsR ?_
    refine rt_tmp F rfl rfl ?_
    have zz := M.owB (i := 0) rfl
    rw [order_full (by omega) (by omega)] at zz
    exact ⟨_, rfl, M.bel, zz⟩
  · rw [hs2] at F
    have hs2i := of_decide_eq_true hs2
    refine wp_cond_true (F.ev rfl) ?_
    refine wp_skip ?_
    refine nxq ?_
    refine wp_block ?_
    refine wp_seq ?_
    refine wp_seq ?_
    -- region 3
    refine wp_region_lit ?_
    refine sq_pure F (wt0 rfl) (pu_field rfl (F.ev rfl) fo24_0) rfl rfl ?_; clear F; intro φ F
    refine sq_rd F (wt0 rfl) (ld_cell rfl (F.ev rfl) one3 (M.rd (i := 1) rfl) rfl) rfl rfl ?_; clear F; intro φ F
    refine sq_pure F (wt0 rfl) (pu_move rfl (evk)) rfl rfl ?_; clear F; intro φ F
    refine nx ?_
    refine wp_block ?_
    refine lp (σ := Int) (fun k φ' w' => Fr φ' 33 [(1, .pointer (some ⟨g1, 0, none⟩)), (3, vq), (11, .int .i64 n), (12, .int .i64 k)] ∧ Mm [] w w' [.row 3 1 vq ((roundsO E n.toNat r.toNat).2.length) (cI (roundsO E n.toNat r.toNat).2), .blk g1 24 #[.int .i64 n, ev], .arg 4 ev E.length (cG E)] ∧ (0 ≤ k) ∧ (k ≤ n) ∧ (∀ q, q < k.toNat → freeB E (roundsO E n.toNat r.toNat).1 q = false)) (fun k => (n - k).toNat) (0) ⟨((((F.nil.cons (F.get (k := 12) rfl)).cons (F.get (k := 11) rfl)).cons (F.get (k := 3) rfl)).cons (F.get (k := 1) rfl)), M, Int.le_refl _, by omega, all_none⟩ ?_
    clear F M
    rintro k φ ω ⟨F, M, hp3_0, hp3_1, hp3_2⟩
    refine wp_seq ?_
    -- region 4
    refine wp_region_lit ?_
    refine sq_pure F (wt0 rfl) (pu_lss rfl (F.ev rfl) (F.ev rfl)) rfl rfl ?_; clear F; intro φ F
    refine nx ?_
    refine wp_seq ?_
    cases hs4 : (decide (k < n))
    · rw [hs4] at F
      have hs4i := of_decide_eq_false hs4
      refine wp_cond_false (F.ev rfl) ?_
      refine wp_exit ?_
      refine nxe ?_
      refine nxe ?_
      refine nxm ?_
      refine nxq ?_
      refine wp_exit ?_
      refine nxo rfl ?_
      refine nxe ?_
      refine nxm ?_
      refine nxq ?_
      refine wp_seq ?_
      -- region 9
      refine wp_region_lit ?_
      refine sq_pure F (wt0 rfl) (pu_move rfl (F.ev rfl)) rfl rfl ?_; clear F; intro φ F
      refine sq_pure F (wt0 rfl) (pu_assign rfl (F.ev rfl)) rfl rfl ?_; clear F; intro φ F
      refine nx ?_
      refine wp_ret ?_
      refine nxsR ?_
      refine rt_tmp F rfl rfl ?_
      have zz := M.owB (i := 0) rfl
      rw [order_stop (by omega) hp3_2 (by omega)] at zz
      exact ⟨_, rfl, M.bel, zz⟩
    · rw [hs4] at F
      have hs4i := of_decide_eq_true hs4
      refine wp_cond_true (F.ev rfl) ?_
      refine wp_skip ?_
      refine nxq ?_
      refine wp_seq ?_
      refine wp_block ?_
      refine wp_seq ?_
      -- region 5
      refine wp_region_lit ?_
      refine sq_pure F (wt0 rfl) (pu_move rfl (F.ev rfl)) rfl rfl ?_; clear F; intro φ F
      refine sq_pure F (wt0 rfl) (pu_assign rfl (F.ev rfl)) rfl rfl ?_; clear F; intro φ F
      refine nx ?_
      refine wp_seq ?_
      -- region 6
      refine wp_region_lit ?_
      refine sq_pure F (wt0 rfl) (pu_move rfl (F.ev rfl)) rfl rfl ?_; clear F; intro φ F
      refine sq_pure F (wt0 rfl) (pu_move rfl (F.ev rfl)) rfl rfl ?_; clear F; intro φ F
      refine sq_call F M (wt0 rfl) rfl en35 (evc (F.ev rfl) (evc (F.ev rfl) evn)) (contains_any ((roundsO E n.toNat r.toNat).2) vq k _ (M.rv (i := 0) rfl) (by first | omega | (simp; done) | (simp; omega) | (refine Nat.le_trans (minL_len _) ?_; omega) | (refine Nat.le_trans (eachL_len _ _) ?_; omega))) rfl rfl ?_; clear F M; intro φ ω F M
      cases hs5 : (memI ((roundsO E n.toNat r.toNat).2) k)
      · rw [hs5] at F
        refine sq_pure F (wt0 rfl) (pu_not rfl (F.ev rfl)) rfl rfl ?_; clear F; intro φ F
        rw [show (!false) = true from rfl] at F
        refine sq_pure F (wt0 rfl) (pu_move rfl (F.ev rfl)) rfl rfl ?_; clear F; intro φ F
        refine sq_pure F (wt1 F rfl rfl rfl rfl rfl) (pu_move rfl (F.ev rfl)) rfl rfl ?_; clear F; intro φ F
        refine sq_pure F (wt1 F rfl rfl rfl rfl rfl) (pu_move rfl (F.ev rfl)) rfl rfl ?_; clear F; intro φ F
        refine sq_pure F (wt1 F rfl rfl rfl rfl rfl) (pu_field rfl (F.ev rfl) fo24_1) rfl rfl ?_; clear F; intro φ F
        refine sq_rd F (wt1 F rfl rfl rfl rfl rfl) (ld_cell rfl (F.ev rfl) one22 (M.rd (i := 1) rfl) rfl) rfl rfl ?_; clear F; intro φ F
        refine sq_call F M (wt1 F rfl rfl rfl rfl rfl) rfl en36 (evc (F.ev rfl) (evc (F.ev rfl) (evc (F.ev rfl) evn))) (waits_any k vq ev ((roundsO E n.toNat r.toNat).2) E _ (M.rv (i := 0) rfl) (M.av (i := 2) rfl) (by first | omega | (simp; done) | (simp; omega) | (refine Nat.le_trans (minL_len _) ?_; omega) | (refine Nat.le_trans (eachL_len _ _) ?_; omega)) (by first | omega | (simp; done) | (simp; omega) | (refine Nat.le_trans (minL_len _) ?_; omega) | (refine Nat.le_trans (eachL_len _ _) ?_; omega))) rfl rfl ?_; clear F M; intro φ ω F M
        cases hs6 : (waitsB E ((roundsO E n.toNat r.toNat).2) k)
        · rw [hs6] at F
          refine sq_pure F (wt1 F rfl rfl rfl rfl rfl) (pu_not rfl (F.ev rfl)) rfl rfl ?_; clear F; intro φ F
          rw [show (!false) = true from rfl] at F
          refine sq_pure F (wt0 rfl) (pu_pickt rfl (F.ev rfl) (F.ev rfl)) rfl rfl ?_; clear F; intro φ F
          refine nx ?_
          refine wp_cond_true (F.ev rfl) ?_
          refine wp_seq ?_
          -- region 7
          refine wp_region_lit ?_
          refine sq_pure F (wt0 rfl) (pu_move rfl (F.ev rfl)) rfl rfl ?_; clear F; intro φ F
          refine sq_pure F (wt0 rfl) (pu_move rfl (F.ev rfl)) rfl rfl ?_; clear F; intro φ F
          refine sq_bs (e := 3) (m := 1) (k := 1) (parts := #[]) (cs := #[.int .i64 k]) F M (wt0 rfl) (bs29_1 rfl (F.ev rfl) _) (by omega) rfl rfl rfl ?_; clear F M; intro φ ω g2 F M
          replace M : Mm [] w ω [.row 3 1 (.slice (some ⟨g2, 0, none⟩) 1 1) 1 (cI [k]), .row 3 1 vq ((roundsO E n.toNat r.toNat).2.length) (cI (roundsO E n.toNat r.toNat).2), .blk g1 24 #[.int .i64 n, ev], .arg 4 ev E.length (cG E)] := M
          refine sq_app F M (wt0 rfl) rfl sl29.1 el3 (F.ev rfl) (i := 1) rfl (F.ev rfl) (M.rv (i := 0) rfl) (cI_ones _) (by first | omega | (simp only [List.length_append, List.length_cons, List.length_nil, List.length_singleton]; omega)) (by omega) rfl rfl ?_; clear F M; intro φ ω v1 F M
          replace M : Mm [] w ω [.row 3 1 (.slice (some ⟨g2, 0, none⟩) 1 1) 1 (cI [k]), .row 3 1 v1 (((roundsO E n.toNat r.toNat).2.length) + 1) ((cI (roundsO E n.toNat r.toNat).2) ++ (cI [k])), .blk g1 24 #[.int .i64 n, ev], .arg 4 ev E.length (cG E)] := M
          rw [← cI_app, show ((roundsO E n.toNat r.toNat).2.length) + 1 = (((roundsO E n.toNat r.toNat).2) ++ [k]).length from by first | rfl | (simp; done) | (simp; omega)] at M
          refine sq_pure F (wt0 rfl) (pu_assign rfl (F.ev rfl)) rfl rfl ?_; clear F; intro φ F
          refine nx ?_
          refine wp_exit ?_
          refine nxo rfl ?_
          refine nxe ?_
          refine nxe ?_
          refine nxo rfl ?_
          refine nxe ?_
          refine nxm ?_
          exact ⟨r + 1, by omega, v1, ((F.nil.cons (F.get (k := 3) rfl)).cons (F.get (k := 1) rfl)), (by rw [← rounds_one hp1_0 hp3_0 (by omega) (free_yes hfn hp3_0 (by omega) hs5 hs6) hp3_2]; exact (M.sub (.cons _ (List.Sublist.refl _)))), by omega, by omega, (by rw [← rounds_one hp1_0 hp3_0 (by omega) (free_yes hfn hp3_0 (by omega) hs5 hs6) hp3_2, List.length_append, hp1_2, List.length_singleton]; omega)⟩
        · rw [hs6] at F
          refine sq_pure F (wt1 F rfl rfl rfl rfl rfl) (pu_not rfl (F.ev rfl)) rfl rfl ?_; clear F; intro φ F
          rw [show (!true) = false from rfl] at F
          refine sq_pure F (wt0 rfl) (pu_pickt rfl (F.ev rfl) (F.ev rfl)) rfl rfl ?_; clear F; intro φ F
          refine nx ?_
          refine wp_cond_false (F.ev rfl) ?_
          refine wp_skip ?_
          refine nxb ?_
          refine nxq ?_
          -- region 8
          refine wp_region_lit ?_
          refine sq_pure F (wt0 rfl) (pu_add rfl (F.ev rfl) (evk) (by omega) (by omega)) rfl rfl ?_; clear F; intro φ F
          refine sq_pure F (wt0 rfl) (pu_move rfl (F.ev rfl)) rfl rfl ?_; clear F; intro φ F
          refine wpList_nil ?_
          exact ⟨k + 1, by omega, ((((F.nil.cons (F.get (k := 12) rfl)).cons (F.get (k := 11) rfl)).cons (F.get (k := 3) rfl)).cons (F.get (k := 1) rfl)), M, by omega, by omega, all_succ hp3_2 hp3_0 (free_no hfn hp3_0 (by omega) (.inr hs6))⟩
      · rw [hs5] at F
        refine sq_pure F (wt0 rfl) (pu_not rfl (F.ev rfl)) rfl rfl ?_; clear F; intro φ F
        rw [show (!true) = false from rfl] at F
        refine sq_pure F (wt0 rfl) (pu_move rfl (F.ev rfl)) rfl rfl ?_; clear F; intro φ F
        refine sq_skip F (wtn F rfl rfl rfl rfl rfl) rfl rfl ?_; clear F; intro φ F
        refine sq_skip F (wtn F rfl rfl rfl rfl rfl) rfl rfl ?_; clear F; intro φ F
        refine sq_skip F (wtn F rfl rfl rfl rfl rfl) rfl rfl ?_; clear F; intro φ F
        refine sq_skip F (wtn F rfl rfl rfl rfl rfl) rfl rfl ?_; clear F; intro φ F
        refine sq_skip F (wtn F rfl rfl rfl rfl rfl) rfl rfl ?_; clear F; intro φ F
        refine sq_skip F (wtn F rfl rfl rfl rfl rfl) rfl rfl ?_; clear F; intro φ F
        refine sq_pure F (wt0 rfl) (pu_pickf rfl (F.ev rfl) (evk)) rfl rfl ?_; clear F; intro φ F
        refine nx ?_
        refine wp_cond_false (F.ev rfl) ?_
        refine wp_skip ?_
        refine nxb ?_
        refine nxq ?_
        -- region 8
        refine wp_region_lit ?_
        refine sq_pure F (wt0 rfl) (pu_add rfl (F.ev rfl) (evk) (by omega) (by omega)) rfl rfl ?_; clear F; intro φ F
        refine sq_pure F (wt0 rfl) (pu_move rfl (F.ev rfl)) rfl rfl ?_; clear F; intro φ F
        refine wpList_nil ?_
        exact ⟨k + 1, by omega, ((((F.nil.cons (F.get (k := 12) rfl)).cons (F.get (k := 11) rfl)).cons (F.get (k := 3) rfl)).cons (F.get (k := 1) rfl)), M, by omega, by omega, all_succ hp3_2 hp3_0 (free_no hfn hp3_0 (by omega) (.inl hs5))⟩

set_option maxRecDepth 100000 in
set_option maxHeartbeats 4000000 in
theorem graph_check_any (n : Int) (ev : Value) (E : List Ed) (w : World) (hr : RdG w ev E) (hlen : E.length ≤ 20000000) :
    Calls Try.prog 11 #[.agg #[.int .i64 n, ev]] w (fun e w' => e = .returned ((.tuple #[.int .i64 (checkG n E).1, .int .i64 (checkG n E).2])) ∧ Below w.heap.size w w') := by
  refine enterF Try.func11 rfl 54 Try.ntmps11 [.agg #[.int .i64 n, ev]] rfl [(0, .agg #[.int .i64 n, ev])] rfl ?_
  intro φ F
  have M := Mm.start [] w
  replace M := M.addArg (hr) (fun h_ => by first | (simp; done) | assumption | exact d3 h_ | (simp_all; done))
  refine wp_seq ?_
  -- region 0
  refine wp_region_lit ?_
  refine sq_box F M (wt0 rfl) rfl (F.ev rfl) (cs := #[.int .i64 n, ev]) rfl rfl rfl ?_; clear F M; intro φ ω g1 F M
  refine sq_pure F (wt0 rfl) (pu_assign rfl (evk)) rfl rfl ?_; clear F; intro φ F
  refine sq_pure F (wt0 rfl) (pu_assign rfl (evk)) rfl rfl ?_; clear F; intro φ F
  refine nx ?_
  refine wp_seq ?_
  refine wp_seq ?_
  -- region 1
  refine wp_region_lit ?_
  refine sq_pure F (wt0 rfl) (pu_field rfl (F.ev rfl) fo24_0) rfl rfl ?_; clear F; intro φ F
  refine sq_rd F (wt0 rfl) (ld_cell rfl (F.ev rfl) one3 (M.rd (i := 0) rfl) rfl) rfl rfl ?_; clear F; intro φ F
  refine sq_pure F (wt0 rfl) (pu_lss rfl (F.ev rfl) (evk)) rfl rfl ?_; clear F; intro φ F
  refine sq_pure F (wt0 rfl) (pu_move rfl (F.ev rfl)) rfl rfl ?_; clear F; intro φ F
  cases hs1 : (decide (n < 1))
  · rw [hs1] at F
    have hs1i := of_decide_eq_false hs1
    refine sq_pure F (wt1 F rfl rfl rfl rfl rfl) (pu_field rfl (F.ev rfl) fo24_0) rfl rfl ?_; clear F; intro φ F
    refine sq_rd F (wt1 F rfl rfl rfl rfl rfl) (ld_cell rfl (F.ev rfl) one3 (M.rd (i := 0) rfl) rfl) rfl rfl ?_; clear F; intro φ F
    refine sq_pure F (wt1 F rfl rfl rfl rfl rfl) (pu_gtr rfl (F.ev rfl) (evk)) rfl rfl ?_; clear F; intro φ F
    refine sq_pure F (wt0 rfl) (pu_pickf rfl (F.ev rfl) (F.ev rfl)) rfl rfl ?_; clear F; intro φ F
    refine sq_pure F (wt0 rfl) (pu_move rfl (F.ev rfl)) rfl rfl ?_; clear F; intro φ F
    cases hs2 : (decide (8 < n))
    · rw [hs2] at F
      have hs2i := of_decide_eq_false hs2
      refine sq_pure F (wt1 F rfl rfl rfl rfl rfl) (pu_field rfl (F.ev rfl) fo24_1) rfl rfl ?_; clear F; intro φ F
      refine sq_rd F (wt1 F rfl rfl rfl rfl rfl) (ld_cell rfl (F.ev rfl) one22 (M.rd (i := 0) rfl) rfl) rfl rfl ?_; clear F; intro φ F
      refine sq_pure F (wt1 F rfl rfl rfl rfl rfl) (pu_len rfl (F.ev rfl) sl22 (M.av (i := 1) rfl)) rfl rfl ?_; clear F; intro φ F
      refine sq_pure F (wt1 F rfl rfl rfl rfl rfl) (pu_gtr rfl (F.ev rfl) (evk)) rfl rfl ?_; clear F; intro φ F
      refine sq_pure F (wt0 rfl) (pu_pickf rfl (F.ev rfl) (F.ev rfl)) rfl rfl ?_; clear F; intro φ F
      refine nx ?_
      cases hs3 : (decide (16 < ((E.length : Nat) : Int)))
      · rw [hs3] at F
        have hs3i := of_decide_eq_false hs3
        refine wp_cond_false (F.ev rfl) ?_
        refine wp_skip ?_
        refine nxq ?_
        refine wp_seq ?_
        refine wp_seq ?_
        -- region 3
        refine wp_region_lit ?_
        refine sq_pure F (wt0 rfl) (pu_field rfl (F.ev rfl) fo24_1) rfl rfl ?_; clear F; intro φ F
        refine sq_rd F (wt0 rfl) (ld_cell rfl (F.ev rfl) one22 (M.rd (i := 0) rfl) rfl) rfl rfl ?_; clear F; intro φ F
        refine sq_pure F (wt0 rfl) (pu_len rfl (F.ev rfl) sl22 (M.av (i := 1) rfl)) rfl rfl ?_; clear F; intro φ F
        refine sq_pure F (wt0 rfl) (pu_move rfl (evk)) rfl rfl ?_; clear F; intro φ F
        refine nx ?_
        refine wp_block ?_
        refine lp (σ := Int) (fun i φ' w' => Fr φ' 54 [(1, .pointer (some ⟨g1, 0, none⟩)), (21, ev), (22, .int .i64 ((E.length : Nat) : Int)), (23, .int .i64 i)] ∧ Mm [] w w' [.blk g1 24 #[.int .i64 n, ev], .arg 4 ev E.length (cG E)] ∧ (0 ≤ i) ∧ (i ≤ (E.length : Int)) ∧ (∀ p, p < i.toNat → fitsB n (atG E p) = true)) (fun i => ((E.length : Int) - i).toNat) (0) ⟨((((F.nil.cons (F.get (k := 23) rfl)).cons (F.get (k := 22) rfl)).cons (F.get (k := 21) rfl)).cons (F.get (k := 1) rfl)), M, Int.le_refl _, by omega, all_none⟩ ?_
        clear F M
        rintro i φ ω ⟨F, M, hp4_0, hp4_1, hp4_2⟩
        refine wp_seq ?_
        -- region 4
        refine wp_region_lit ?_
        refine sq_pure F (wt0 rfl) (pu_lss rfl (F.ev rfl) (F.ev rfl)) rfl rfl ?_; clear F; intro φ F
        refine nx ?_
        refine wp_seq ?_
        cases hs5 : (decide (i < ((E.length : Nat) : Int)))
        · rw [hs5] at F
          have hs5i := of_decide_eq_false hs5
          refine wp_cond_false (F.ev rfl) ?_
          refine wp_exit ?_
          refine nxe ?_
          refine nxe ?_
          refine nxm ?_
          refine nxq ?_
          refine wp_seq ?_
          refine wp_seq ?_
          obtain ⟨hfit, hch⟩ := check_fit (n := n) (E := E) (i := i) (by omega) hp4_2 (by omega)
          -- region 9
          refine rg_J F 6 (fun Dd dv w' => (Dd 0 = true → dv 0 = .agg #[.int .i64 n, ev]) ∧ (Dd 2 = true → dv 2 = .int .i64 (((orderL E n.toNat).length : Nat) : Int)) ∧ (Dd 3 = true → dv 3 = .pointer (some ⟨g1, 0, none⟩)) ∧ (Dd 4 = true → dv 4 = .int .i64 n) ∧ (Dd 5 = true → dv 5 = .bool (decide ((((orderL E n.toNat).length : Nat) : Int) < n))) ∧ Mm [] w w' [(if Dd 1 = true then .row 3 1 (dv 1) ((orderL E n.toNat).length) (cI (orderL E n.toNat)) else .arg 1 (.slice none 0 0) 0 []), .blk g1 24 #[.int .i64 n, ev], .arg 4 ev E.length (cG E)]) (fun dv => ⟨(fun h => by cases h), (fun h => by cases h), (fun h => by cases h), (fun h => by cases h), (fun h => by cases h), by simpa using (M.drew).dead⟩) mixedOK (by kernel_rfl) rfl ⟨?_, ?_, ?_, ?_, ?_, ?_, trivial⟩ ?_
          · intro Dd φ1 dv ω1 ⟨h0, h2, h3, h4, h5, M⟩ hDi hdep hcl F1 hdone hold
            have F := (F1.cons (F.was hold (s := 1) rfl rfl))
            try simp only [hDi, Bool.false_eq_true, if_false, if_true, ite_true, ite_false] at M
            exact ⟨wt0 rfl, ow_run ((ld_agg rfl (F.ev rfl) agg24 (M.rd (i := 1) rfl) rfl) ω1 rfl) ⟨_, rfl, newP, keepP rfl h2, keepP rfl h3, keepP rfl h4, keepP rfl h5, by simpa [setB, setV, hDi, Bool.false_eq_true, if_false, if_true, ite_true, ite_false] using M⟩⟩
          · intro Dd φ1 dv ω1 ⟨h0, h2, h3, h4, h5, M⟩ hDi hdep hcl F1 hdone hold
            have d0 : Dd 0 = true := hdep 0 (by kernel_rfl)
            have F := (F1.cons (k := 48) (hdone 0 _ _ d0 rfl rfl |>.trans (h0 d0)))
            try simp only [d0, hDi, Bool.false_eq_true, if_false, if_true, ite_true, ite_false] at M
            exact ⟨wt0 rfl, ow_callZ rfl en26 (evc (F.ev rfl) evn) (Z := fun x w2 => Below ω1.heap.size ω1 w2 ∧ w2.ownsRow ω1.heap.size 3 1 x ((orderL E n.toNat).length) (cI (orderL E n.toNat))) (forward_any n ev E _ (M.av (i := 2) rfl) (by omega) (by omega) (by omega) hfit) (fun x w2 ⟨hb2, ho2⟩ => by have M2 := M.freshRow (i := 0) rfl hb2 ho2; exact ⟨_, rfl, keepP rfl h0, keepP rfl h2, keepP rfl h3, keepP rfl h4, keepP rfl h5, by simpa [setB, setV, d0, hDi, Bool.false_eq_true, if_false, if_true, ite_true, ite_false] using M2⟩)⟩
          · intro Dd φ1 dv ω1 ⟨h0, h2, h3, h4, h5, M⟩ hDi hdep hcl F1 hdone hold
            have d1 : Dd 1 = true := hdep 1 (by kernel_rfl)
            have d0 : Dd 0 = true := hcl _ 0 d1 (by kernel_rfl)
            have F := (F1.cons (k := 49) (hdone 1 _ _ d1 rfl rfl))
            try simp only [d0, d1, hDi, Bool.false_eq_true, if_false, if_true, ite_true, ite_false] at M
            exact ⟨wt0 rfl, ow_run ((pu_len rfl (F.ev rfl) sl29 (M.rv (i := 0) rfl)) ω1) ⟨_, rfl, keepP rfl h0, newP, keepP rfl h3, keepP rfl h4, keepP rfl h5, by simpa [setB, setV, d0, d1, hDi, Bool.false_eq_true, if_false, if_true, ite_true, ite_false] using M⟩⟩
          · intro Dd φ1 dv ω1 ⟨h0, h2, h3, h4, h5, M⟩ hDi hdep hcl F1 hdone hold
            have F := (F1.cons (F.was hold (s := 1) rfl rfl))
            try simp only [hDi, Bool.false_eq_true, if_false, if_true, ite_true, ite_false] at M
            exact ⟨wt0 rfl, ow_run ((pu_field rfl (F.ev rfl) fo24_0) ω1) ⟨_, rfl, keepP rfl h0, keepP rfl h2, newP, keepP rfl h4, keepP rfl h5, by simpa [setB, setV, hDi, Bool.false_eq_true, if_false, if_true, ite_true, ite_false] using M⟩⟩
          · intro Dd φ1 dv ω1 ⟨h0, h2, h3, h4, h5, M⟩ hDi hdep hcl F1 hdone hold
            have d3 : Dd 3 = true := hdep 3 (by kernel_rfl)
            have F := (F1.cons (k := 51) (hdone 3 _ _ d3 rfl rfl |>.trans (h3 d3)))
            try simp only [d3, hDi, Bool.false_eq_true, if_false, if_true, ite_true, ite_false] at M
            exact ⟨wt0 rfl, ow_run ((ld_cell rfl (F.ev rfl) one3 (M.rd (i := 1) rfl) rfl) ω1 rfl) ⟨_, rfl, keepP rfl h0, keepP rfl h2, keepP rfl h3, newP, keepP rfl h5, by simpa [setB, setV, d3, hDi, Bool.false_eq_true, if_false, if_true, ite_true, ite_false] using M⟩⟩
          · intro Dd φ1 dv ω1 ⟨h0, h2, h3, h4, h5, M⟩ hDi hdep hcl F1 hdone hold
            have d2 : Dd 2 = true := hdep 2 (by kernel_rfl)
            have d4 : Dd 4 = true := hdep 4 (by kernel_rfl)
            have d1 : Dd 1 = true := hcl _ 1 d2 (by kernel_rfl)
            have d3 : Dd 3 = true := hcl _ 3 d4 (by kernel_rfl)
            have d0 : Dd 0 = true := hcl _ 0 d1 (by kernel_rfl)
            have F := ((F1.cons (k := 50) (hdone 2 _ _ d2 rfl rfl |>.trans (h2 d2))).cons (k := 52) (hdone 4 _ _ d4 rfl rfl |>.trans (h4 d4)))
            try simp only [d0, d1, d2, d3, d4, hDi, Bool.false_eq_true, if_false, if_true, ite_true, ite_false] at M
            exact ⟨wt0 rfl, ow_run ((pu_lss rfl (F.ev rfl) (F.ev rfl)) ω1) ⟨_, rfl, keepP rfl h0, keepP rfl h2, keepP rfl h3, keepP rfl h4, newP, by simpa [setB, setV, d0, d1, d2, d3, d4, hDi, Bool.false_eq_true, if_false, if_true, ite_true, ite_false] using M⟩⟩
          clear M; rintro dv φ ω ⟨h0, h2, h3, h4, h5, M⟩ F
          simp only [hvL, List.take_succ_cons, List.take_zero] at F
          rw [h5 (by simp)] at F
          rw [h4 (by simp)] at F
          rw [h3 (by simp)] at F
          rw [h2 (by simp)] at F
          rw [h0 (by simp)] at F
          replace M : Mm [] w ω [.row 3 1 (dv 1) ((orderL E n.toNat).length) (cI (orderL E n.toNat)), .blk g1 24 #[.int .i64 n, ev], .arg 4 ev E.length (cG E)] := by simpa using M
          clear h0 h2 h3 h4 h5
          generalize dv 1 = v1 at F M
          refine nx ?_
          cases hs6 : (decide ((((orderL E n.toNat).length : Nat) : Int) < n))
          · rw [hs6] at F
            have hs6i := of_decide_eq_false hs6
            refine wp_cond_false (F.ev rfl) ?_
            refine wp_skip ?_
            refine nxq ?_
            refine wp_seq ?_
            -- region 11
            refine wp_region_lit ?_
            refine sq_pure F (wt0 rfl) (pu_assign rfl (evk)) rfl rfl ?_; clear F; intro φ F
            refine sq_pure F (wt0 rfl) (pu_assign rfl (evk)) rfl rfl ?_; clear F; intro φ F
            refine nx ?_
            refine wp_ret ?_
            refine rt_tmp2 F rfl rfl rfl ?_
            refine ⟨?_, M.bel⟩
            rw [hch]
            first | rw [if_pos (by omega)] | rw [if_neg (by omega)]
          · rw [hs6] at F
            have hs6i := of_decide_eq_true hs6
            refine wp_cond_true (F.ev rfl) ?_
            refine wp_seq ?_
            -- region 10
            refine wp_region_lit ?_
            refine sq_pure F (wt0 rfl) (pu_assign rfl (evk)) rfl rfl ?_; clear F; intro φ F
            refine sq_pure F (wt0 rfl) (pu_assign rfl (evk)) rfl rfl ?_; clear F; intro φ F
            refine nx ?_
            refine wp_ret ?_
            refine nxr ?_
            refine rt_tmp2 F rfl rfl rfl ?_
            refine ⟨?_, M.bel⟩
            rw [hch]
            first | rw [if_pos (by omega)] | rw [if_neg (by omega)]
        · rw [hs5] at F
          have hs5i := of_decide_eq_true hs5
          refine wp_cond_true (F.ev rfl) ?_
          refine wp_skip ?_
          refine nxq ?_
          refine wp_seq ?_
          refine wp_block ?_
          refine wp_seq ?_
          -- region 5
          refine wp_region_lit ?_
          refine sq_pure F (wt0 rfl) (pu_move rfl (F.ev rfl)) rfl rfl ?_; clear F; intro φ F
          refine sq_pure F (wt0 rfl) (pu_ix rfl (F.ev rfl) (F.ev rfl) sl22 (M.av (i := 1) rfl) (by omega) (by omega)) rfl rfl ?_; clear F; intro φ F
          refine sq_rd F (wt0 rfl) (ld_el rfl (F.ev rfl) agg40 (fun _ e => e ▸ (M.av (i := 1) rfl)) (by omega) (cG_at (by first | omega | (simp; done) | (simp; omega))) rfl) rfl rfl ?_; clear F; intro φ F
          refine sq_alloc F M (wt0 rfl) rfl z40 rfl rfl ?_; clear F M; intro φ ω g2 F M
          refine sq_pure F (wt0 rfl) (pu_assign rfl (F.ev rfl)) rfl rfl ?_; clear F; intro φ F
          refine sq_stA F M (wt0 rfl) rfl (F.ev rfl) (F.ev rfl) (i := 0) rfl agg40 rfl rfl rfl rfl ?_; clear M; intro ω M
          refine nx ?_
          refine wp_seq ?_
          -- region 6
          refine wp_region_lit ?_
          refine sq_rd F (wt0 rfl) (ld_agg rfl (F.ev rfl) agg24 (M.rd (i := 1) rfl) rfl) rfl rfl ?_; clear F; intro φ F
          refine sq_pure F (wt0 rfl) (pu_field rfl (F.ev rfl) fo40_0) rfl rfl ?_; clear F; intro φ F
          refine sq_rd F (wt0 rfl) (ld_cell rfl (F.ev rfl) one3 (M.rd (i := 0) rfl) rfl) rfl rfl ?_; clear F; intro φ F
          refine sq_call F M (wt0 rfl) rfl en24 (evc (F.ev rfl) (evc (F.ev rfl) evn)) (isNode_any n ((atG E i.toNat).f) ev _) rfl rfl ?_; clear F M; intro φ ω F M
          cases hs7 : (inN n ((atG E i.toNat).f))
          · rw [hs7] at F
            refine sq_pure F (wt0 rfl) (pu_not rfl (F.ev rfl)) rfl rfl ?_; clear F; intro φ F
            rw [show (!false) = true from rfl] at F
            refine sq_pure F (wt0 rfl) (pu_move rfl (F.ev rfl)) rfl rfl ?_; clear F; intro φ F
            refine sq_skip F (wtn F rfl rfl rfl rfl rfl) rfl rfl ?_; clear F; intro φ F
            refine sq_skip F (wtn F rfl rfl rfl rfl rfl) rfl rfl ?_; clear F; intro φ F
            refine sq_skip F (wtn F rfl rfl rfl rfl rfl) rfl rfl ?_; clear F; intro φ F
            refine sq_skip F (wtn F rfl rfl rfl rfl rfl) rfl rfl ?_; clear F; intro φ F
            refine sq_skip F (wtn F rfl rfl rfl rfl rfl) rfl rfl ?_; clear F; intro φ F
            refine sq_pure F (wt0 rfl) (pu_pickt rfl (F.ev rfl) (evk)) rfl rfl ?_; clear F; intro φ F
            refine sq_pure F (wt0 rfl) (pu_move rfl (F.ev rfl)) rfl rfl ?_; clear F; intro φ F
            refine sq_skip F (wtn F rfl rfl rfl rfl rfl) rfl rfl ?_; clear F; intro φ F
            refine sq_skip F (wtn F rfl rfl rfl rfl rfl) rfl rfl ?_; clear F; intro φ F
            refine sq_skip F (wtn F rfl rfl rfl rfl rfl) rfl rfl ?_; clear F; intro φ F
            refine sq_skip F (wtn F rfl rfl rfl rfl rfl) rfl rfl ?_; clear F; intro φ F
            refine sq_pure F (wt0 rfl) (pu_pickt rfl (F.ev rfl) (evk)) rfl rfl ?_; clear F; intro φ F
            refine nx ?_
            refine wp_cond_true (F.ev rfl) ?_
            refine wp_seq ?_
            -- region 7
            refine wp_region_lit ?_
            refine sq_pure F (wt0 rfl) (pu_move rfl (F.ev rfl)) rfl rfl ?_; clear F; intro φ F
            refine sq_pure F (wt0 rfl) (pu_assign rfl (evk)) rfl rfl ?_; clear F; intro φ F
            refine sq_pure F (wt0 rfl) (pu_assign rfl (F.ev rfl)) rfl rfl ?_; clear F; intro φ F
            refine nx ?_
            refine wp_ret ?_
            refine nxrb ?_
            refine nxr ?_
            refine nxr ?_
            refine nxrb ?_
            refine nxr ?_
            refine rt_tmp2 F rfl rfl rfl ?_
            refine ⟨?_, M.bel⟩
            rw [check_bad (E := E) (i := i) (by omega) hp4_0 (by omega) hp4_2 (by rw [fits_in]; simp [hs7])]
          · rw [hs7] at F
            refine sq_pure F (wt0 rfl) (pu_not rfl (F.ev rfl)) rfl rfl ?_; clear F; intro φ F
            rw [show (!true) = false from rfl] at F
            refine sq_pure F (wt0 rfl) (pu_move rfl (F.ev rfl)) rfl rfl ?_; clear F; intro φ F
            refine sq_rd F (wt1 F rfl rfl rfl rfl rfl) (ld_agg rfl (F.ev rfl) agg24 (M.rd (i := 1) rfl) rfl) rfl rfl ?_; clear F; intro φ F
            refine sq_pure F (wt1 F rfl rfl rfl rfl rfl) (pu_field rfl (F.ev rfl) fo40_1) rfl rfl ?_; clear F; intro φ F
            refine sq_rd F (wt1 F rfl rfl rfl rfl rfl) (ld_cell rfl (F.ev rfl) one3 (M.rd (i := 0) rfl) rfl) rfl rfl ?_; clear F; intro φ F
            refine sq_call F M (wt1 F rfl rfl rfl rfl rfl) rfl en24 (evc (F.ev rfl) (evc (F.ev rfl) evn)) (isNode_any n ((atG E i.toNat).t) ev _) rfl rfl ?_; clear F M; intro φ ω F M
            cases hs8 : (inN n ((atG E i.toNat).t))
            · rw [hs8] at F
              refine sq_pure F (wt1 F rfl rfl rfl rfl rfl) (pu_not rfl (F.ev rfl)) rfl rfl ?_; clear F; intro φ F
              rw [show (!false) = true from rfl] at F
              refine sq_pure F (wt0 rfl) (pu_pickf rfl (F.ev rfl) (F.ev rfl)) rfl rfl ?_; clear F; intro φ F
              refine sq_pure F (wt0 rfl) (pu_move rfl (F.ev rfl)) rfl rfl ?_; clear F; intro φ F
              refine sq_skip F (wtn F rfl rfl rfl rfl rfl) rfl rfl ?_; clear F; intro φ F
              refine sq_skip F (wtn F rfl rfl rfl rfl rfl) rfl rfl ?_; clear F; intro φ F
              refine sq_skip F (wtn F rfl rfl rfl rfl rfl) rfl rfl ?_; clear F; intro φ F
              refine sq_skip F (wtn F rfl rfl rfl rfl rfl) rfl rfl ?_; clear F; intro φ F
              refine sq_pure F (wt0 rfl) (pu_pickt rfl (F.ev rfl) (evk)) rfl rfl ?_; clear F; intro φ F
              refine nx ?_
              refine wp_cond_true (F.ev rfl) ?_
              refine wp_seq ?_
              -- region 7
              refine wp_region_lit ?_
              refine sq_pure F (wt0 rfl) (pu_move rfl (F.ev rfl)) rfl rfl ?_; clear F; intro φ F
              refine sq_pure F (wt0 rfl) (pu_assign rfl (evk)) rfl rfl ?_; clear F; intro φ F
              refine sq_pure F (wt0 rfl) (pu_assign rfl (F.ev rfl)) rfl rfl ?_; clear F; intro φ F
              refine nx ?_
              refine wp_ret ?_
              refine nxrb ?_
              refine nxr ?_
              refine nxr ?_
              refine nxrb ?_
              refine nxr ?_
              refine rt_tmp2 F rfl rfl rfl ?_
              refine ⟨?_, M.bel⟩
              rw [check_bad (E := E) (i := i) (by omega) hp4_0 (by omega) hp4_2 (by rw [fits_in]; simp [hs7, hs8])]
            · rw [hs8] at F
              refine sq_pure F (wt1 F rfl rfl rfl rfl rfl) (pu_not rfl (F.ev rfl)) rfl rfl ?_; clear F; intro φ F
              rw [show (!true) = false from rfl] at F
              refine sq_pure F (wt0 rfl) (pu_pickf rfl (F.ev rfl) (F.ev rfl)) rfl rfl ?_; clear F; intro φ F
              refine sq_pure F (wt0 rfl) (pu_move rfl (F.ev rfl)) rfl rfl ?_; clear F; intro φ F
              refine sq_pure F (wt1 F rfl rfl rfl rfl rfl) (pu_field rfl (F.ev rfl) fo40_2) rfl rfl ?_; clear F; intro φ F
              refine sq_rd F (wt1 F rfl rfl rfl rfl rfl) (ld_sub rfl (F.ev rfl) agg38 (M.rd (i := 0) rfl) rfl rfl) rfl rfl ?_; clear F; intro φ F
              refine sq_call F M (wt1 F rfl rfl rfl rfl rfl) rfl en25 (evc (F.ev rfl) evn) (path_right_any (atG E i.toNat).p _) rfl rfl ?_; clear F M; intro φ ω F M
              cases hs9 : (((atG E i.toNat).p).rightB)
              · rw [hs9] at F
                refine sq_pure F (wt1 F rfl rfl rfl rfl rfl) (pu_not rfl (F.ev rfl)) rfl rfl ?_; clear F; intro φ F
                rw [show (!false) = true from rfl] at F
                refine sq_pure F (wt0 rfl) (pu_pickf rfl (F.ev rfl) (F.ev rfl)) rfl rfl ?_; clear F; intro φ F
                refine nx ?_
                refine wp_cond_true (F.ev rfl) ?_
                refine wp_seq ?_
                -- region 7
                refine wp_region_lit ?_
                refine sq_pure F (wt0 rfl) (pu_move rfl (F.ev rfl)) rfl rfl ?_; clear F; intro φ F
                refine sq_pure F (wt0 rfl) (pu_assign rfl (evk)) rfl rfl ?_; clear F; intro φ F
                refine sq_pure F (wt0 rfl) (pu_assign rfl (F.ev rfl)) rfl rfl ?_; clear F; intro φ F
                refine nx ?_
                refine wp_ret ?_
                refine nxrb ?_
                refine nxr ?_
                refine nxr ?_
                refine nxrb ?_
                refine nxr ?_
                refine rt_tmp2 F rfl rfl rfl ?_
                refine ⟨?_, M.bel⟩
                rw [check_bad (E := E) (i := i) (by omega) hp4_0 (by omega) hp4_2 (by rw [fits_in]; simp [hs7, hs8, hs9])]
              · rw [hs9] at F
                refine sq_pure F (wt1 F rfl rfl rfl rfl rfl) (pu_not rfl (F.ev rfl)) rfl rfl ?_; clear F; intro φ F
                rw [show (!true) = false from rfl] at F
                refine sq_pure F (wt0 rfl) (pu_pickf rfl (F.ev rfl) (F.ev rfl)) rfl rfl ?_; clear F; intro φ F
                refine nx ?_
                refine wp_cond_false (F.ev rfl) ?_
                refine wp_skip ?_
                refine nxb ?_
                refine nxq ?_
                -- region 8
                refine wp_region_lit ?_
                refine sq_pure F (wt0 rfl) (pu_add rfl (F.ev rfl) (evk) (by omega) (by omega)) rfl rfl ?_; clear F; intro φ F
                refine sq_pure F (wt0 rfl) (pu_move rfl (F.ev rfl)) rfl rfl ?_; clear F; intro φ F
                refine wpList_nil ?_
                exact ⟨i + 1, by omega, ((((F.nil.cons (F.get (k := 23) rfl)).cons (F.get (k := 22) rfl)).cons (F.get (k := 21) rfl)).cons (F.get (k := 1) rfl)), (M.sub (.cons _ (List.Sublist.refl _))), by omega, by omega, all_succ hp4_2 hp4_0 (by rw [fits_in]; simp [hs7, hs8, hs9])⟩
      · rw [hs3] at F
        have hs3i := of_decide_eq_true hs3
        refine wp_cond_true (F.ev rfl) ?_
        refine wp_seq ?_
        -- region 2
        refine wp_region_lit ?_
        refine sq_pure F (wt0 rfl) (pu_assign rfl (evk)) rfl rfl ?_; clear F; intro φ F
        refine sq_pure F (wt0 rfl) (pu_assign rfl (evk)) rfl rfl ?_; clear F; intro φ F
        refine nx ?_
        refine wp_ret ?_
        refine nxr ?_
        refine rt_tmp2 F rfl rfl rfl ?_
        refine ⟨?_, M.bel⟩
        rw [check_many (by omega)]
    · rw [hs2] at F
      have hs2i := of_decide_eq_true hs2
      refine sq_skip F (wtn F rfl rfl rfl rfl rfl) rfl rfl ?_; clear F; intro φ F
      refine sq_skip F (wtn F rfl rfl rfl rfl rfl) rfl rfl ?_; clear F; intro φ F
      refine sq_skip F (wtn F rfl rfl rfl rfl rfl) rfl rfl ?_; clear F; intro φ F
      refine sq_skip F (wtn F rfl rfl rfl rfl rfl) rfl rfl ?_; clear F; intro φ F
      refine sq_pure F (wt0 rfl) (pu_pickt rfl (F.ev rfl) (evk)) rfl rfl ?_; clear F; intro φ F
      refine nx ?_
      refine wp_cond_true (F.ev rfl) ?_
      refine wp_seq ?_
      -- region 2
      refine wp_region_lit ?_
      refine sq_pure F (wt0 rfl) (pu_assign rfl (evk)) rfl rfl ?_; clear F; intro φ F
      refine sq_pure F (wt0 rfl) (pu_assign rfl (evk)) rfl rfl ?_; clear F; intro φ F
      refine nx ?_
      refine wp_ret ?_
      refine nxr ?_
      refine rt_tmp2 F rfl rfl rfl ?_
      refine ⟨?_, M.bel⟩
      rw [check_many (by omega)]
  · rw [hs1] at F
    have hs1i := of_decide_eq_true hs1
    refine sq_skip F (wtn F rfl rfl rfl rfl rfl) rfl rfl ?_; clear F; intro φ F
    refine sq_skip F (wtn F rfl rfl rfl rfl rfl) rfl rfl ?_; clear F; intro φ F
    refine sq_skip F (wtn F rfl rfl rfl rfl rfl) rfl rfl ?_; clear F; intro φ F
    refine sq_pure F (wt0 rfl) (pu_pickt rfl (F.ev rfl) (evk)) rfl rfl ?_; clear F; intro φ F
    refine sq_pure F (wt0 rfl) (pu_move rfl (F.ev rfl)) rfl rfl ?_; clear F; intro φ F
    refine sq_skip F (wtn F rfl rfl rfl rfl rfl) rfl rfl ?_; clear F; intro φ F
    refine sq_skip F (wtn F rfl rfl rfl rfl rfl) rfl rfl ?_; clear F; intro φ F
    refine sq_skip F (wtn F rfl rfl rfl rfl rfl) rfl rfl ?_; clear F; intro φ F
    refine sq_skip F (wtn F rfl rfl rfl rfl rfl) rfl rfl ?_; clear F; intro φ F
    refine sq_pure F (wt0 rfl) (pu_pickt rfl (F.ev rfl) (evk)) rfl rfl ?_; clear F; intro φ F
    refine nx ?_
    refine wp_cond_true (F.ev rfl) ?_
    refine wp_seq ?_
    -- region 2
    refine wp_region_lit ?_
    refine sq_pure F (wt0 rfl) (pu_assign rfl (evk)) rfl rfl ?_; clear F; intro φ F
    refine sq_pure F (wt0 rfl) (pu_assign rfl (evk)) rfl rfl ?_; clear F; intro φ F
    refine nx ?_
    refine wp_ret ?_
    refine nxr ?_
    refine rt_tmp2 F rfl rfl rfl ?_
    refine ⟨?_, M.bel⟩
    rw [check_many (by omega)]

set_option maxRecDepth 100000 in
set_option maxHeartbeats 4000000 in
theorem graph_order_any (n : Int) (ev : Value) (E : List Ed) (w : World) (hr : RdG w ev E) (hlen : E.length ≤ 20000000) :
    Calls Try.prog 13 #[.agg #[.int .i64 n, ev]] w (fun e w' => ∃ v, e = .returned v ∧ Below w.heap.size w w' ∧ w'.ownsRow w.heap.size 3 1 v (ordG n E).length (cI (ordG n E))) := by
  refine enterF Try.func13 rfl 14 Try.ntmps13 [.agg #[.int .i64 n, ev]] rfl [(0, .agg #[.int .i64 n, ev])] rfl ?_
  intro φ F
  have M := Mm.start [] w
  replace M := M.addArg (hr) (fun h_ => by first | (simp; done) | assumption | exact d3 h_ | (simp_all; done))
  refine wp_seq ?_
  -- region 0
  refine wp_region_lit ?_
  refine sq_box F M (wt0 rfl) rfl (F.ev rfl) (cs := #[.int .i64 n, ev]) rfl rfl rfl ?_; clear F M; intro φ ω g1 F M
  refine sq_pure F (wt0 rfl) (pu_assign rfl (evk)) rfl rfl ?_; clear F; intro φ F
  refine nx ?_
  refine wp_seq ?_
  refine wp_seq ?_
  -- region 1
  refine wp_region_lit ?_
  refine sq_rd F (wt0 rfl) (ld_agg rfl (F.ev rfl) agg24 (M.rd (i := 0) rfl) rfl) rfl rfl ?_; clear F; intro φ F
  refine sq_call F M (wt0 rfl) rfl en11 (evc (F.ev rfl) evn) (graph_check_any n ev E _ (M.av (i := 1) rfl) (by first | omega | (simp; done) | (simp; omega) | (refine Nat.le_trans (minL_len _) ?_; omega) | (refine Nat.le_trans (eachL_len _ _) ?_; omega))) rfl rfl ?_; clear F M; intro φ ω F M
  refine sq_pure F (wt0 rfl) (pu_move rfl (F.ev rfl)) rfl rfl ?_; clear F; intro φ F
  refine sq_pure F (wt0 rfl) (pu_extract rfl (F.ev rfl) rfl) rfl rfl ?_; clear F; intro φ F
  refine sq_pure F (wt0 rfl) (pu_extract rfl (F.ev rfl) rfl) rfl rfl ?_; clear F; intro φ F
  refine sq_pure F (wt0 rfl) (pu_assign rfl (F.ev rfl)) rfl rfl ?_; clear F; intro φ F
  refine sq_pure F (wt0 rfl) (pu_assign rfl (F.ev rfl)) rfl rfl ?_; clear F; intro φ F
  refine nx ?_
  refine wp_seq ?_
  -- region 2
  refine wp_region_lit ?_
  refine sq_pure F (wt0 rfl) (pu_move rfl (F.ev rfl)) rfl rfl ?_; clear F; intro φ F
  cases hs1 : (decide ((checkG n E).1 = 0))
  · skip
    have hs1i := of_decide_eq_false hs1
    refine sq_pure F (wt0 rfl) (pu_neqI rfl (F.ev rfl) (evk)) rfl rfl ?_; clear F; intro φ F
    rw [hs1, show (!false) = true from rfl] at F
    refine nx ?_
    refine wp_cond_true (F.ev rfl) ?_
    refine wp_seq ?_
    -- region 3
    refine wp_region_lit ?_
    refine sq_pure F (wt0 rfl) (pu_assign rfl (evk)) rfl rfl ?_; clear F; intro φ F
    refine nx ?_
    refine wp_ret ?_
    refine nxr ?_
    refine rt_tmp F rfl rfl ?_
    rw [ord_no hs1i]
    exact ⟨_, rfl, M.bel, World.ownsRow_nil _ _ _ _⟩
  · skip
    have hs1i := of_decide_eq_true hs1
    refine sq_pure F (wt0 rfl) (pu_neqI rfl (F.ev rfl) (evk)) rfl rfl ?_; clear F; intro φ F
    rw [hs1, show (!true) = false from rfl] at F
    refine nx ?_
    refine wp_cond_false (F.ev rfl) ?_
    refine wp_skip ?_
    refine nxq ?_
    refine wp_seq ?_
    have hok : (checkG n E).1 = 0 := by have z := hs1; first | exact of_decide_eq_true z | omega | simpa using z
    obtain ⟨hn1, hn8, hE16, hfit, -, -⟩ := check_ok hok
    have hF : Fits ((n.toNat : Nat) : Int) E := by rw [show ((n.toNat : Nat) : Int) = n by omega]; exact hfit
    -- region 4
    refine wp_region_lit ?_
    refine sq_rd F (wt0 rfl) (ld_agg rfl (F.ev rfl) agg24 (M.rd (i := 0) rfl) rfl) rfl rfl ?_; clear F; intro φ F
    refine sq_callN F M (wt0 rfl) rfl en26 (evc (F.ev rfl) evn) (forward_any n ev E _ (M.av (i := 1) rfl) (by omega) (by omega) (by omega) hfit) rfl rfl ?_; clear F M; intro φ ω v1 F M
    refine sq_pure F (wt0 rfl) (pu_assign rfl (F.ev rfl)) rfl rfl ?_; clear F; intro φ F
    refine nx ?_
    refine wp_ret ?_
    refine rt_tmp F rfl rfl ?_
    rw [ord_yes hok]
    exact ⟨_, rfl, M.bel, M.owB (i := 0) rfl⟩

set_option maxRecDepth 100000 in
set_option maxHeartbeats 4000000 in
theorem sums_any (L : List St) (p : St) (v : Value) (w : World) (hr : RdS w v L) (hlen : L.length ≤ 10000000) :
    Calls Try.prog 38 #[v, .agg #[.int .i64 p.e, .int .i64 p.r]] w (fun e w' => ∃ v, e = .returned v ∧ Below w.heap.size w w' ∧ w'.ownsRow w.heap.size 38 2 v (sumsP L [p]).length (cS (sumsP L [p]))) := by
  refine enterF Try.func38 rfl 29 Try.ntmps38 [v, .agg #[.int .i64 p.e, .int .i64 p.r]] rfl [(0, v), (1, .agg #[.int .i64 p.e, .int .i64 p.r])] rfl ?_
  intro φ F
  have M := Mm.start [] w
  replace M := M.addArg (hr) (fun h_ => by first | (simp; done) | assumption | exact d3 h_ | (simp_all; done))
  refine wp_seq ?_
  -- region 0
  refine wp_region_lit ?_
  refine sq_box F M (wt0 rfl) rfl (F.ev rfl) (cs := #[.int .i64 p.e, .int .i64 p.r]) rfl rfl rfl ?_; clear F M; intro φ ω g1 F M
  refine sq_pure F (wt0 rfl) (pu_assign rfl (evk)) rfl rfl ?_; clear F; intro φ F
  refine nx ?_
  refine wp_seq ?_
  -- region 1
  refine wp_region_lit ?_
  refine sq_pure F (wt0 rfl) (pu_assign rfl (evk)) rfl rfl ?_; clear F; intro φ F
  refine nx ?_
  refine wp_seq ?_
  refine wp_seq ?_
  -- region 2
  refine wp_region_lit ?_
  refine sq_pure F (wt0 rfl) (pu_move rfl (F.ev rfl)) rfl rfl ?_; clear F; intro φ F
  refine sq_pure F (wt0 rfl) (pu_len rfl (F.ev rfl) sl44 (M.av (i := 1) rfl)) rfl rfl ?_; clear F; intro φ F
  refine sq_pure F (wt0 rfl) (pu_move rfl (evk)) rfl rfl ?_; clear F; intro φ F
  refine nx ?_
  refine wp_block ?_
  refine lp (σ := Int) (fun i φ' w' => ∃ vq : Value, Fr φ' 29 [(3, .pointer (some ⟨g1, 0, none⟩)), (10, v), (11, .int .i64 ((L.length : Nat) : Int)), (5, vq), (12, .int .i64 i)] ∧ Mm [] w w' [.row 38 2 vq ((sumsP (L.take i.toNat) [p]).length) (cS (sumsP (L.take i.toNat) [p])), .blk g1 38 #[.int .i64 p.e, .int .i64 p.r], .arg 2 v L.length (cS L)] ∧ (0 ≤ i) ∧ (i ≤ (L.length : Int))) (fun i => ((L.length : Int) - i).toNat) (0) ⟨(.slice none 0 0), (((((F.nil.cons (F.get (k := 12) rfl)).cons (F.get (k := 5) rfl)).cons (F.get (k := 11) rfl)).cons (F.get (k := 10) rfl)).cons (F.get (k := 3) rfl)), (by have z := M.nilRow 38 2; exact z), Int.le_refl _, by omega⟩ ?_
  clear F M
  rintro i φ ω ⟨vq, F, M, hp1_0, hp1_1⟩
  refine wp_seq ?_
  -- region 3
  refine wp_region_lit ?_
  refine sq_pure F (wt0 rfl) (pu_lss rfl (F.ev rfl) (F.ev rfl)) rfl rfl ?_; clear F; intro φ F
  refine nx ?_
  refine wp_seq ?_
  cases hs2 : (decide (i < ((L.length : Nat) : Int)))
  · rw [hs2] at F
    have hs2i := of_decide_eq_false hs2
    refine wp_cond_false (F.ev rfl) ?_
    refine wp_exit ?_
    refine nxe ?_
    refine nxe ?_
    refine nxm ?_
    refine nxq ?_
    refine wp_seq ?_
    -- region 9
    refine wp_region_lit ?_
    refine sq_pure F (wt0 rfl) (pu_move rfl (F.ev rfl)) rfl rfl ?_; clear F; intro φ F
    refine sq_pure F (wt0 rfl) (pu_assign rfl (F.ev rfl)) rfl rfl ?_; clear F; intro φ F
    refine nx ?_
    refine wp_ret ?_
    refine rt_tmp F rfl rfl ?_
    have zz := M.owB (i := 0) rfl
    rw [List.take_of_length_le (by omega)] at zz
    exact ⟨_, rfl, M.bel, zz⟩
  · rw [hs2] at F
    have hs2i := of_decide_eq_true hs2
    refine wp_cond_true (F.ev rfl) ?_
    refine wp_skip ?_
    refine nxq ?_
    refine wp_seq ?_
    refine wp_block ?_
    refine wp_seq ?_
    -- region 4
    refine wp_region_lit ?_
    refine sq_pure F (wt0 rfl) (pu_ix rfl (F.ev rfl) (F.ev rfl) sl44 (M.av (i := 2) rfl) (by omega) (by omega)) rfl rfl ?_; clear F; intro φ F
    refine sq_rd F (wt0 rfl) (ld_el rfl (F.ev rfl) agg38 (fun _ e => e ▸ (M.av (i := 2) rfl)) (by omega) (cS_at (by first | omega | (simp; done) | (simp; omega))) rfl) rfl rfl ?_; clear F; intro φ F
    refine sq_alloc F M (wt0 rfl) rfl z38 rfl rfl ?_; clear F M; intro φ ω g2 F M
    refine sq_stA F M (wt0 rfl) rfl (F.ev rfl) (F.ev rfl) (i := 0) rfl agg38 rfl rfl rfl rfl ?_; clear M; intro ω M
    refine nx ?_
    refine wp_seq ?_
    -- region 5
    refine wp_region_lit ?_
    refine sq_rd F (wt0 rfl) (ld_agg rfl (F.ev rfl) agg38 (M.rd (i := 0) rfl) rfl) rfl rfl ?_; clear F; intro φ F
    refine sq_rd F (wt0 rfl) (ld_agg rfl (F.ev rfl) agg38 (M.rd (i := 2) rfl) rfl) rfl rfl ?_; clear F; intro φ F
    refine sq_call F M (wt0 rfl) rfl en46 (evc (F.ev rfl) (evc (F.ev rfl) evn)) (path_then_any (atS L i.toNat) p _) rfl rfl ?_; clear F M; intro φ ω F M
    refine sq_pure F (wt0 rfl) (pu_move rfl (F.ev rfl)) rfl rfl ?_; clear F; intro φ F
    refine sq_pure F (wt0 rfl) (pu_extract rfl (F.ev rfl) rfl) rfl rfl ?_; clear F; intro φ F
    refine sq_pure F (wt0 rfl) (pu_extract rfl (F.ev rfl) rfl) rfl rfl ?_; clear F; intro φ F
    refine sq_alloc F M (wt0 rfl) rfl z38 rfl rfl ?_; clear F M; intro φ ω g3 F M
    refine sq_stA F M (wt0 rfl) rfl (F.ev rfl) (F.ev rfl) (i := 0) rfl agg38 rfl rfl rfl rfl ?_; clear M; intro ω M
    refine sq_pure F (wt0 rfl) (pu_assign rfl (F.ev rfl)) rfl rfl ?_; clear F; intro φ F
    refine nx ?_
    refine wp_seq ?_
    -- region 6
    refine wp_region_lit ?_
    refine sq_pure F (wt0 rfl) (pu_move rfl (F.ev rfl)) rfl rfl ?_; clear F; intro φ F
    refine nx ?_
    cases hs3 : ((atS L i.toNat).afterB p)
    · rw [hs3] at F
      refine wp_cond_false (F.ev rfl) ?_
      refine wp_skip ?_
      refine nxb ?_
      refine nxq ?_
      -- region 8
      refine wp_region_lit ?_
      refine sq_pure F (wt0 rfl) (pu_add rfl (F.ev rfl) (evk) (by omega) (by omega)) rfl rfl ?_; clear F; intro φ F
      refine sq_pure F (wt0 rfl) (pu_move rfl (F.ev rfl)) rfl rfl ?_; clear F; intro φ F
      refine wpList_nil ?_
      exact ⟨i + 1, by omega, vq, (((((F.nil.cons (F.get (k := 12) rfl)).cons (F.get (k := 5) rfl)).cons (F.get (k := 11) rfl)).cons (F.get (k := 10) rfl)).cons (F.get (k := 3) rfl)), (by rw [← sums_no hp1_0 (by omega) hs3]; exact (M.sub (.cons _ (.cons _ (List.Sublist.refl _))))), by omega, by omega⟩
    · rw [hs3] at F
      refine wp_cond_true (F.ev rfl) ?_
      have hsl := sums1_len L p i.toNat
      -- region 7
      refine wp_region_lit ?_
      refine sq_pure F (wt0 rfl) (pu_move rfl (F.ev rfl)) rfl rfl ?_; clear F; intro φ F
      refine sq_rd F (wt0 rfl) (ld_agg rfl (F.ev rfl) agg38 (M.rd (i := 0) rfl) rfl) rfl rfl ?_; clear F; intro φ F
      refine sq_bs (e := 38) (m := 2) (k := 1) (parts := #[]) (cs := #[.int .i64 (((atS L i.toNat).after p).e), .int .i64 (((atS L i.toNat).after p).r)]) F M (wt0 rfl) (bs44_1 rfl (F.ev rfl) _) (by omega) rfl rfl rfl ?_; clear F M; intro φ ω g4 F M
      replace M : Mm [] w ω [.row 38 2 (.slice (some ⟨g4, 0, none⟩) 1 1) 1 (cS [((atS L i.toNat).after p)]), .blk g3 38 #[.int .i64 (((atS L i.toNat).after p).e), .int .i64 (((atS L i.toNat).after p).r)], .blk g2 38 #[.int .i64 ((atS L i.toNat).e), .int .i64 ((atS L i.toNat).r)], .row 38 2 vq ((sumsP (L.take i.toNat) [p]).length) (cS (sumsP (L.take i.toNat) [p])), .blk g1 38 #[.int .i64 p.e, .int .i64 p.r], .arg 2 v L.length (cS L)] := M
      refine sq_app F M (wt0 rfl) rfl sl44.1 el38 (F.ev rfl) (i := 3) rfl (F.ev rfl) (M.rv (i := 0) rfl) (cS_ones _) (by first | omega | (simp only [List.length_append, List.length_cons, List.length_nil, List.length_singleton]; omega)) (by omega) rfl rfl ?_; clear F M; intro φ ω v1 F M
      replace M : Mm [] w ω [.row 38 2 (.slice (some ⟨g4, 0, none⟩) 1 1) 1 (cS [((atS L i.toNat).after p)]), .blk g3 38 #[.int .i64 (((atS L i.toNat).after p).e), .int .i64 (((atS L i.toNat).after p).r)], .blk g2 38 #[.int .i64 ((atS L i.toNat).e), .int .i64 ((atS L i.toNat).r)], .row 38 2 v1 (((sumsP (L.take i.toNat) [p]).length) + 1) ((cS (sumsP (L.take i.toNat) [p])) ++ (cS [((atS L i.toNat).after p)])), .blk g1 38 #[.int .i64 p.e, .int .i64 p.r], .arg 2 v L.length (cS L)] := M
      rw [← cS_app, show ((sumsP (L.take i.toNat) [p]).length) + 1 = ((sumsP (L.take i.toNat) [p]) ++ [((atS L i.toNat).after p)]).length from by first | rfl | (simp; done) | (simp; omega)] at M
      refine sq_pure F (wt0 rfl) (pu_assign rfl (F.ev rfl)) rfl rfl ?_; clear F; intro φ F
      refine wpList_nil ?_
      refine nxb ?_
      refine nxq ?_
      -- region 8
      refine wp_region_lit ?_
      refine sq_pure F (wt0 rfl) (pu_add rfl (F.ev rfl) (evk) (by omega) (by omega)) rfl rfl ?_; clear F; intro φ F
      refine sq_pure F (wt0 rfl) (pu_move rfl (F.ev rfl)) rfl rfl ?_; clear F; intro φ F
      refine wpList_nil ?_
      exact ⟨i + 1, by omega, v1, (((((F.nil.cons (F.get (k := 12) rfl)).cons (F.get (k := 5) rfl)).cons (F.get (k := 11) rfl)).cons (F.get (k := 10) rfl)).cons (F.get (k := 3) rfl)), (by rw [← sums_yes hp1_0 (by omega) hs3]; exact (M.sub (.cons _ (.cons _ (.cons _ (List.Sublist.refl _)))))), by omega, by omega⟩

set_option maxRecDepth 100000 in
set_option maxHeartbeats 4000000 in
theorem over1_any (L : List St) (v : Value) (w : World) (hr : RdS w v L) :
    Calls Try.prog 40 #[v] w (fun e w' => e = .returned ((.bool (decide (64 < (L.length : Int))))) ∧ Below w.heap.size w w') := by
  refine enterF Try.func40 rfl 6 Try.ntmps40 [v] rfl [(0, v)] rfl ?_
  intro φ F
  have M := Mm.start [] w
  replace M := M.addArg (hr) (fun h_ => by first | (simp; done) | assumption | exact d3 h_ | (simp_all; done))
  refine wp_seq ?_
  -- region 0
  refine wp_region_lit ?_
  refine sq_pure F (wt0 rfl) (pu_assign rfl (evk)) rfl rfl ?_; clear F; intro φ F
  refine nx ?_
  refine wp_seq ?_
  -- region 1
  refine wp_region_lit ?_
  refine sq_pure F (wt0 rfl) (pu_move rfl (F.ev rfl)) rfl rfl ?_; clear F; intro φ F
  refine sq_pure F (wt0 rfl) (pu_len rfl (F.ev rfl) sl44 (M.av (i := 0) rfl)) rfl rfl ?_; clear F; intro φ F
  refine sq_pure F (wt0 rfl) (pu_gtr rfl (F.ev rfl) (evk)) rfl rfl ?_; clear F; intro φ F
  refine sq_pure F (wt0 rfl) (pu_assign rfl (F.ev rfl)) rfl rfl ?_; clear F; intro φ F
  refine nx ?_
  refine wp_ret ?_
  refine rt_tmp F rfl rfl ?_
  exact ⟨rfl, M.bel⟩

set_option maxRecDepth 100000 in
set_option maxHeartbeats 4000000 in
theorem ixfun_any (V : List Value) (L : List (List St)) (v : Value) (w : World) (hr : RdV w 1 v V.length (cV V)) (hl : V.length = L.length) (ho : ∀ j, j < V.length → RdS w (atV V j) (atR L j)) (hsm : V.length ≤ 1000) :
    Calls Try.prog 47 #[v, .func (.func 40) #[] #[]] w (fun e w' => e = .returned ((.int .i64 (ixO L))) ∧ Below w.heap.size w w') := by
  refine enterF Try.func47 rfl 19 Try.ntmps47 [v, .func (.func 40) #[] #[]] rfl [(0, v), (1, .func (.func 40) #[] #[])] rfl ?_
  intro φ F
  have M := Mm.start [] w
  replace M := M.addArg (hr) (fun h_ => by first | (simp; done) | assumption | exact d3 h_ | (simp_all; done))
  refine wp_seq ?_
  -- region 0
  refine wp_region_lit ?_
  refine sq_pure F (wt0 rfl) (pu_assign rfl (evk)) rfl rfl ?_; clear F; intro φ F
  refine nx ?_
  refine wp_seq ?_
  refine wp_seq ?_
  -- region 1
  refine wp_region_lit ?_
  refine sq_pure F (wt0 rfl) (pu_move rfl (F.ev rfl)) rfl rfl ?_; clear F; intro φ F
  refine sq_pure F (wt0 rfl) (pu_len rfl (F.ev rfl) sl45 (M.av (i := 0) rfl)) rfl rfl ?_; clear F; intro φ F
  refine sq_pure F (wt0 rfl) (pu_move rfl (evk)) rfl rfl ?_; clear F; intro φ F
  refine nx ?_
  refine wp_block ?_
  refine lp (σ := Int) (fun i φ' w' => Fr φ' 19 [(0, v), (1, .func (.func 40) #[] #[]), (7, .int .i64 ((V.length : Nat) : Int)), (8, .int .i64 i)] ∧ Mm [] w w' [.arg 1 v V.length (cV V)] ∧ (0 ≤ i) ∧ (i ≤ (V.length : Int)) ∧ (∀ k, k < i.toNat → ¬ 64 < (atR L k).length)) (fun i => ((V.length : Int) - i).toNat) (0) ⟨((((F.nil.cons (F.get (k := 8) rfl)).cons (F.get (k := 7) rfl)).cons (F.get (k := 1) rfl)).cons (F.get (k := 0) rfl)), M, Int.le_refl _, by omega, all_none⟩ ?_
  clear F M
  rintro i φ ω ⟨F, M, hp1_0, hp1_1, hp1_2⟩
  refine wp_seq ?_
  -- region 2
  refine wp_region_lit ?_
  refine sq_pure F (wt0 rfl) (pu_lss rfl (F.ev rfl) (F.ev rfl)) rfl rfl ?_; clear F; intro φ F
  refine nx ?_
  refine wp_seq ?_
  cases hs2 : (decide (i < ((V.length : Nat) : Int)))
  · rw [hs2] at F
    have hs2i := of_decide_eq_false hs2
    refine wp_cond_false (F.ev rfl) ?_
    refine wp_exit ?_
    refine nxe ?_
    refine nxe ?_
    refine nxm ?_
    refine nxq ?_
    refine wp_seq ?_
    -- region 7
    refine wp_region_lit ?_
    refine sq_pure F (wt0 rfl) (pu_assign rfl (evk)) rfl rfl ?_; clear F; intro φ F
    refine nx ?_
    refine wp_ret ?_
    refine rt_tmp F rfl rfl ?_
    refine ⟨?_, M.bel⟩
    rw [ixO_miss hp1_2 (by omega)]
  · rw [hs2] at F
    have hs2i := of_decide_eq_true hs2
    refine wp_cond_true (F.ev rfl) ?_
    refine wp_skip ?_
    refine nxq ?_
    refine wp_seq ?_
    refine wp_block ?_
    refine wp_seq ?_
    -- region 3
    refine wp_region_lit ?_
    refine sq_pure F (wt0 rfl) (pu_move rfl (F.ev rfl)) rfl rfl ?_; clear F; intro φ F
    refine sq_pure F (wt0 rfl) (pu_assign rfl (F.ev rfl)) rfl rfl ?_; clear F; intro φ F
    refine nx ?_
    refine wp_seq ?_
    -- region 4
    refine wp_region_lit ?_
    refine sq_pure F (wt0 rfl) (pu_move rfl (F.ev rfl)) rfl rfl ?_; clear F; intro φ F
    refine sq_pure F (wt0 rfl) (pu_move rfl (F.ev rfl)) rfl rfl ?_; clear F; intro φ F
    refine sq_pure F (wt0 rfl) (pu_move rfl (F.ev rfl)) rfl rfl ?_; clear F; intro φ F
    refine sq_pure F (wt0 rfl) (pu_ix rfl (F.ev rfl) (F.ev rfl) sl45 (M.av (i := 0) rfl) (by omega) (by omega)) rfl rfl ?_; clear F; intro φ F
    refine sq_rd F (wt0 rfl) (ld_el1 rfl (F.ev rfl) one44 (fun _ e => e ▸ (M.av (i := 0) rfl)) (by omega) (cV_at (L := V) (by first | omega | (simp; done) | (simp; omega)))) rfl rfl ?_; clear F; intro φ F
    refine sq_callV F M (wt0 rfl) rfl (F.ev rfl) en40 (evc (F.ev rfl) evn) (by first | exact over1_any (atR L i.toNat) (atV V i.toNat) _ (RdV.below (ho i.toNat (by omega)) M.bel) | (rw [Array.append_empty]; exact over1_any (atR L i.toNat) (atV V i.toNat) _ (RdV.below (ho i.toNat (by omega)) M.bel))) rfl rfl ?_; clear F M; intro φ ω F M
    refine nx ?_
    cases hs3 : (decide (64 < ((atR L i.toNat).length : Int)))
    · rw [hs3] at F
      have hs3i := of_decide_eq_false hs3
      refine wp_cond_false (F.ev rfl) ?_
      refine wp_skip ?_
      refine nxb ?_
      refine nxq ?_
      -- region 6
      refine wp_region_lit ?_
      refine sq_pure F (wt0 rfl) (pu_add rfl (F.ev rfl) (evk) (by omega) (by omega)) rfl rfl ?_; clear F; intro φ F
      refine sq_pure F (wt0 rfl) (pu_move rfl (F.ev rfl)) rfl rfl ?_; clear F; intro φ F
      refine wpList_nil ?_
      exact ⟨i + 1, by omega, ((((F.nil.cons (F.get (k := 8) rfl)).cons (F.get (k := 7) rfl)).cons (F.get (k := 1) rfl)).cons (F.get (k := 0) rfl)), M, by omega, by omega, all_succ hp1_2 hp1_0 (by have z := hs3i; omega)⟩
    · rw [hs3] at F
      have hs3i := of_decide_eq_true hs3
      refine wp_cond_true (F.ev rfl) ?_
      refine wp_seq ?_
      -- region 5
      refine wp_region_lit ?_
      refine sq_pure F (wt0 rfl) (pu_move rfl (F.ev rfl)) rfl rfl ?_; clear F; intro φ F
      refine sq_pure F (wt0 rfl) (pu_assign rfl (F.ev rfl)) rfl rfl ?_; clear F; intro φ F
      refine nx ?_
      refine wp_ret ?_
      refine nxrb ?_
      refine nxr ?_
      refine nxr ?_
      refine nxrb ?_
      refine nxr ?_
      refine rt_tmp F rfl rfl ?_
      refine ⟨?_, M.bel⟩
      rw [ixO_hit (by omega) (by omega) hp1_2 (by omega)]

set_option maxRecDepth 100000 in
set_option maxHeartbeats 4000000 in
theorem ctfun_any (V : List Value) (L : List (List St)) (v : Value) (w : World) (hr : RdV w 1 v V.length (cV V)) (hl : V.length = L.length) (ho : ∀ j, j < V.length → RdS w (atV V j) (atR L j)) (hsm : V.length ≤ 1000) :
    Calls Try.prog 39 #[v, .func (.func 40) #[] #[]] w (fun e w' => e = .returned ((.bool (overB L))) ∧ Below w.heap.size w w') := by
  refine enterF Try.func39 rfl 9 Try.ntmps39 [v, .func (.func 40) #[] #[]] rfl [(0, v), (1, .func (.func 40) #[] #[])] rfl ?_
  intro φ F
  have M := Mm.start [] w
  replace M := M.addArg (hr) (fun h_ => by first | (simp; done) | assumption | exact d3 h_ | (simp_all; done))
  refine wp_seq ?_
  -- region 0
  refine wp_region_lit ?_
  refine sq_pure F (wt0 rfl) (pu_assign rfl (evk)) rfl rfl ?_; clear F; intro φ F
  refine nx ?_
  refine wp_seq ?_
  -- region 1
  refine wp_region_lit ?_
  refine sq_pure F (wt0 rfl) (pu_move rfl (F.ev rfl)) rfl rfl ?_; clear F; intro φ F
  refine sq_pure F (wt0 rfl) (pu_move rfl (F.ev rfl)) rfl rfl ?_; clear F; intro φ F
  refine sq_call F M (wt0 rfl) rfl en47 (evc (F.ev rfl) (evc (F.ev rfl) evn)) (ixfun_any V L v _ (M.av (i := 0) rfl) hl (fun j hj => RdV.below (ho j hj) (M.bel)) hsm) rfl rfl ?_; clear F M; intro φ ω F M
  refine sq_pure F (wt0 rfl) (pu_geq rfl (F.ev rfl) (evk)) rfl rfl ?_; clear F; intro φ F
  refine sq_pure F (wt0 rfl) (pu_assign rfl (F.ev rfl)) rfl rfl ?_; clear F; intro φ F
  refine nx ?_
  refine wp_ret ?_
  refine rt_tmp F rfl rfl ?_
  refine ⟨?_, M.bel⟩
  rw [← over_ix]

set_option maxRecDepth 100000 in
set_option maxHeartbeats 4000000 in
theorem overfull_any (V : List Value) (L : List (List St)) (v : Value) (w : World) (hr : RdV w 1 v V.length (cV V)) (hl : V.length = L.length) (ho : ∀ j, j < V.length → RdS w (atV V j) (atR L j)) (hsm : V.length ≤ 1000) :
    Calls Try.prog 29 #[v] w (fun e w' => e = .returned ((.bool (overB L))) ∧ Below w.heap.size w w') := by
  refine enterF Try.func29 rfl 5 Try.ntmps29 [v] rfl [(0, v)] rfl ?_
  intro φ F
  have M := Mm.start [] w
  replace M := M.addArg (hr) (fun h_ => by first | (simp; done) | assumption | exact d3 h_ | (simp_all; done))
  refine wp_seq ?_
  -- region 0
  refine wp_region_lit ?_
  refine sq_pure F (wt0 rfl) (pu_assign rfl (evk)) rfl rfl ?_; clear F; intro φ F
  refine nx ?_
  refine wp_seq ?_
  -- region 1
  refine wp_region_lit ?_
  refine sq_pure F (wt0 rfl) (pu_move rfl (F.ev rfl)) rfl rfl ?_; clear F; intro φ F
  refine sq_call F M (wt0 rfl) rfl en39 (evc (F.ev rfl) (evc (evfn) evn)) (ctfun_any V L v _ (M.av (i := 0) rfl) hl (fun j hj => RdV.below (ho j hj) (M.bel)) hsm) rfl rfl ?_; clear F M; intro φ ω F M
  refine sq_pure F (wt0 rfl) (pu_assign rfl (F.ev rfl)) rfl rfl ?_; clear F; intro φ F
  refine nx ?_
  refine wp_ret ?_
  refine rt_tmp F rfl rfl ?_
  exact ⟨rfl, M.bel⟩

set_option maxRecDepth 100000 in
set_option maxHeartbeats 4000000 in
theorem spread_any (n : Nat) (i : Int) (g s : Nat) (ev : Value) (E : List Ed) (A C : List Value) (w : World) (hA : A.length = s) (hn8 : n ≤ 8) (hE : E.length ≤ 16) (h0 : 0 ≤ i) (hi : i < (n : Int)) (hF : Fits ((n : Nat) : Int) E)
    (ht : TabV 44 38 g A (List.replicate n nilV) C (List.replicate n []) w) (hr : RdG w ev E) (d3 : 0 < E.length → ¬ gof ev ∈ [g]) :
    Calls Try.prog 28 #[(.slice (some ⟨g, s, none⟩) n n), .int .i64 i, ev] w (TurnsE w (.own [g] (TabV 44 38 g A (List.replicate n nilV) C (List.replicate n []))) (fun u x' => u = .tuple #[] ∧ ∃ V, V.length = n ∧ x' = .own (g :: fpR V) (TabV 44 38 g A V C (rowM E n i.toNat n)))) := by
  have hi2 : i.toNat < n := by omega
  refine enterF Try.func28 rfl 45 Try.ntmps28 [(.slice (some ⟨g, s, none⟩) n n), .int .i64 i, ev] rfl [(0, (.slice (some ⟨g, s, none⟩) n n)), (1, .int .i64 i), (2, ev)] rfl ?_
  intro φ F
  have M := Mm.start [g] w
  replace M := M.addArg (hr) (fun h_ => by first | (simp; done) | assumption | exact d3 h_ | (simp_all; done))
  replace M := M.addX (ht.blk) (by simp) (by simp [Ent.fp] <;> omega)
  refine wp_seq ?_
  replace M := M.rowsNew 38 n
  -- region 0
  refine wp_region_lit ?_
  refine sq_pure F (wt0 rfl) (pu_move rfl (F.ev rfl)) rfl rfl ?_; clear F; intro φ F
  refine sq_pure F (wt0 rfl) (pu_move rfl (F.ev rfl)) rfl rfl ?_; clear F; intro φ F
  refine sq_pure F (wt0 rfl) (bu38_ rfl) rfl rfl ?_; clear F; intro φ F
  refine sq_bs (e := 38) (m := 2) (k := 1) (parts := #[]) (cs := #[.int .i64 0, .int .i64 0]) F M (wt0 rfl) (bs44_1 rfl (F.ev rfl) _) (by omega) rfl rfl rfl ?_; clear F M; intro φ ω g1 F M
  replace M : Mm [g] w ω [.row 38 2 (.slice (some ⟨g1, 0, none⟩) 1 1) 1 (cS [(St.mk 0 0)]), .own (fpR (List.replicate n nilV)) (RowsV 38 (List.replicate n nilV) (List.replicate n [])), .blk g 44 (List.toArray (cV (A ++ (List.replicate n nilV) ++ C))), .arg 4 ev E.length (cG E)] := M
  refine sq_pure F (wt0 rfl) (pu_ix rfl (F.ev rfl) (F.ev rfl) sl45 (win_rdv (M.at (i := 2) rfl) (mid_win hA (by first | assumption | (simp only [List.length_set, List.length_replicate]; first | done | assumption))) (by first | assumption | (simp only [List.length_set, List.length_replicate]; first | done | assumption)) (by omega)) (by omega) (by omega)) rfl rfl ?_; clear F; intro φ F
  refine sq_stW (j := i.toNat) (A := A) (V := (List.replicate n nilV)) (C := C) F M (wt0 rfl) rfl (F.ev rfl) (F.ev rfl) (i := 2) rfl hA (by first | omega | (simp only [List.length_set, List.length_replicate]; omega)) si44 (slc_one (M.rv (i := 0) rfl)).1 (slc_one (M.rv (i := 0) rfl)).2 rfl ?_; clear M; intro ω M
  replace M : Mm [g] w ω [.row 38 2 (.slice (some ⟨g1, 0, none⟩) 1 1) 1 (cS [(St.mk 0 0)]), .own (fpR (List.replicate n nilV)) (RowsV 38 (List.replicate n nilV) (List.replicate n [])), .blk g 44 (List.toArray (cV (A ++ ((List.replicate n nilV).set i.toNat (.slice (some ⟨g1, 0, none⟩) 1 1)) ++ C))), .arg 4 ev E.length (cG E)] := M
  replace M := M.putRow (i := 1) (k := 0) (j := i.toNat) (l := [(St.mk 0 0)]) rfl rfl (by first | omega | (simp only [List.length_set, List.length_replicate]; omega))
  replace M : Mm [g] w ω [.arg 1 (.slice none 0 0) 0 [], .own (fpR ((List.replicate n nilV).set i.toNat (.slice (some ⟨g1, 0, none⟩) 1 1))) (RowsV 38 ((List.replicate n nilV).set i.toNat (.slice (some ⟨g1, 0, none⟩) 1 1)) ((List.replicate n []).set i.toNat [(St.mk 0 0)])), .blk g 44 (List.toArray (cV (A ++ ((List.replicate n nilV).set i.toNat (.slice (some ⟨g1, 0, none⟩) 1 1)) ++ C))), .arg 4 ev E.length (cG E)] := M
  refine nx ?_
  refine wp_seq ?_
  -- region 1
  refine wp_region_lit ?_
  refine sq_pure F (wt0 rfl) (pu_move rfl (F.ev rfl)) rfl rfl ?_; clear F; intro φ F
  refine sq_pure F (wt0 rfl) (pu_len rfl (F.ev rfl) sl45 (win_rdv (M.at (i := 2) rfl) (mid_win hA (by first | assumption | (simp only [List.length_set, List.length_replicate]; first | done | assumption))) (by first | assumption | (simp only [List.length_set, List.length_replicate]; first | done | assumption)) (by omega))) rfl rfl ?_; clear F; intro φ F
  refine sq_pure F (wt0 rfl) (pu_sub rfl (F.ev rfl) (evk) (by omega) (by omega)) rfl rfl ?_; clear F; intro φ F
  refine sq_pure F (wt0 rfl) (pu_move rfl (evk)) rfl rfl ?_; clear F; intro φ F
  refine nx ?_
  refine wp_block ?_
  refine lp (σ := Int) (fun r φ' w' => ∃ vs : List Value, Fr φ' 45 [(0, (.slice (some ⟨g, s, none⟩) n n)), (2, ev), (15, .int .i64 (((n : Nat) : Int) - 1)), (16, .int .i64 r)] ∧ Mm [g] w w' [.own (fpR vs) (RowsV 38 vs (rowP E n i.toNat r.toNat)), .blk g 44 (List.toArray (cV (A ++ vs ++ C))), .arg 4 ev E.length (cG E)] ∧ (0 ≤ r) ∧ (r ≤ ((n : Nat) : Int) - 1) ∧ (vs.length = n)) (fun r => (((n : Nat) : Int) - r).toNat) (0) ⟨((List.replicate n nilV).set i.toNat (.slice (some ⟨g1, 0, none⟩) 1 1)), ((((F.nil.cons (F.get (k := 16) rfl)).cons (F.get (k := 15) rfl)).cons (F.get (k := 2) rfl)).cons (F.get (k := 0) rfl)), (M.sub (.cons _ (.cons_cons _ (.cons_cons _ (.cons_cons _ (.slnil)))))), Int.le_refl _, by omega, (by simp)⟩ ?_
  clear F M
  rintro r φ ω ⟨vs, F, M, hp1_0, hp1_1, hp1_2⟩
  refine wp_seq ?_
  -- region 2
  refine wp_region_lit ?_
  refine sq_pure F (wt0 rfl) (pu_lss rfl (F.ev rfl) (F.ev rfl)) rfl rfl ?_; clear F; intro φ F
  refine nx ?_
  refine wp_seq ?_
  cases hs2 : (decide (r < ((n : Nat) : Int) - 1))
  · rw [hs2] at F
    have hs2i := of_decide_eq_false hs2
    refine wp_cond_false (F.ev rfl) ?_
    refine wp_exit ?_
    refine nxe ?_
    refine nxe ?_
    refine nxm ?_
    refine rt_end F rfl ?_
    rw [show rowP E n i.toNat r.toNat = rowM E n i.toNat n by rw [show r.toNat = n - 1 by omega]; exact rowP_clo hF hi2] at M
    exact tab_post M (k := 1) (i := 0) rfl rfl (by decide) hp1_2
  · rw [hs2] at F
    have hs2i := of_decide_eq_true hs2
    refine wp_cond_true (F.ev rfl) ?_
    refine wp_skip ?_
    refine nxq ?_
    refine wp_seq ?_
    refine wp_block ?_
    refine wp_seq ?_
    -- region 3
    refine wp_region_lit ?_
    refine sq_pure F (wt0 rfl) (pu_move rfl (F.ev rfl)) rfl rfl ?_; clear F; intro φ F
    refine sq_pure F (wt0 rfl) (pu_len rfl (F.ev rfl) sl22 (M.av (i := 2) rfl)) rfl rfl ?_; clear F; intro φ F
    refine sq_pure F (wt0 rfl) (pu_move rfl (evk)) rfl rfl ?_; clear F; intro φ F
    refine nx ?_
    refine wp_block ?_
    refine lp (σ := Int) (fun k φ' w' => ∃ vs : List Value, Fr φ' 45 [(0, (.slice (some ⟨g, s, none⟩) n n)), (2, ev), (15, .int .i64 (((n : Nat) : Int) - 1)), (16, .int .i64 r), (18, ev), (19, .int .i64 ((E.length : Nat) : Int)), (20, .int .i64 k)] ∧ Mm [g] w w' [.own (fpR vs) (RowsV 38 vs (rowE E (rowP E n i.toNat r.toNat) k.toNat)), .blk g 44 (List.toArray (cV (A ++ vs ++ C))), .arg 4 ev E.length (cG E)] ∧ (0 ≤ k) ∧ (k ≤ (E.length : Int)) ∧ (vs.length = n)) (fun k => ((E.length : Int) - k).toNat) (0) ⟨vs, (((((((F.nil.cons (F.get (k := 20) rfl)).cons (F.get (k := 19) rfl)).cons (F.get (k := 18) rfl)).cons (F.get (k := 16) rfl)).cons (F.get (k := 15) rfl)).cons (F.get (k := 2) rfl)).cons (F.get (k := 0) rfl)), (M.sub (.cons_cons _ (.cons_cons _ (.cons_cons _ (.slnil))))), Int.le_refl _, by omega, hp1_2⟩ ?_
    clear F M
    rintro k φ ω ⟨vs, F, M, hp3_0, hp3_1, hp3_2⟩
    refine wp_seq ?_
    -- region 4
    refine wp_region_lit ?_
    refine sq_pure F (wt0 rfl) (pu_lss rfl (F.ev rfl) (F.ev rfl)) rfl rfl ?_; clear F; intro φ F
    refine nx ?_
    refine wp_seq ?_
    cases hs4 : (decide (k < ((E.length : Nat) : Int)))
    · rw [hs4] at F
      have hs4i := of_decide_eq_false hs4
      refine wp_cond_false (F.ev rfl) ?_
      refine wp_exit ?_
      refine nxe ?_
      refine nxe ?_
      refine nxm ?_
      refine nxb ?_
      refine nxq ?_
      -- region 8
      refine wp_region_lit ?_
      refine sq_pure F (wt0 rfl) (pu_add rfl (F.ev rfl) (evk) (by omega) (by omega)) rfl rfl ?_; clear F; intro φ F
      refine sq_pure F (wt0 rfl) (pu_move rfl (F.ev rfl)) rfl rfl ?_; clear F; intro φ F
      refine wpList_nil ?_
      exact ⟨r + 1, by omega, vs, ((((F.nil.cons (F.get (k := 16) rfl)).cons (F.get (k := 15) rfl)).cons (F.get (k := 2) rfl)).cons (F.get (k := 0) rfl)), (by rw [← rowP_step hp1_0 hs4i]; exact (M.sub (.cons_cons _ (.cons_cons _ (.cons_cons _ (.slnil)))))), by omega, by omega, hp3_2⟩
    · rw [hs4] at F
      have hs4i := of_decide_eq_true hs4
      refine wp_cond_true (F.ev rfl) ?_
      refine wp_skip ?_
      refine nxq ?_
      refine wp_seq ?_
      refine wp_block ?_
      refine wp_seq ?_
      -- region 5
      refine wp_region_lit ?_
      cases hs5 : (decide ((atG E k.toNat).f = (atG E k.toNat).t))
      · skip
        have hs5i := of_decide_eq_false hs5
        refine sq_pure F (wt0 rfl) (pu_ix rfl (F.ev rfl) (F.ev rfl) sl22 (M.av (i := 2) rfl) (by omega) (by omega)) rfl rfl ?_; clear F; intro φ F
        refine sq_rd F (wt0 rfl) (ld_el rfl (F.ev rfl) agg40 (fun _ e => e ▸ (M.av (i := 2) rfl)) (by omega) (cG_at (by first | omega | (simp; done) | (simp; omega))) rfl) rfl rfl ?_; clear F; intro φ F
        refine sq_alloc F M (wt0 rfl) rfl z40 rfl rfl ?_; clear F M; intro φ ω g2 F M
        refine sq_stA F M (wt0 rfl) rfl (F.ev rfl) (F.ev rfl) (i := 0) rfl agg40 rfl rfl rfl rfl ?_; clear M; intro ω M
        refine nx ?_
        have hx := fit_t hF (atG_mem (L := E) (i := k.toNat) (by omega))
        have hok := rowE_ok hF (rowP_ok hF hi2 r.toNat) k.toNat (by omega)
        have hts := ok_small hok (((atG E k.toNat).t).toNat)
        have hfs := ok_small hok (((atG E k.toNat).f).toNat)
        have hll := hok.len
        have hss := sums1_all (atR (rowE E (rowP E n i.toNat r.toNat) k.toNat) (((atG E k.toNat).f).toNat)) (atG E k.toNat).p
        replace M := M.takeRow (i := 1) (j := ((atG E k.toNat).t).toNat) rfl (by first | omega | (simp only [List.length_set, List.length_replicate]; omega))
        replace M : Mm [g] w ω [.row 38 2 (atV vs (((atG E k.toNat).t).toNat)) ((atR (rowE E (rowP E n i.toNat r.toNat) k.toNat) (((atG E k.toNat).t).toNat)).length) (cS (atR (rowE E (rowP E n i.toNat r.toNat) k.toNat) (((atG E k.toNat).t).toNat))), .blk g2 40 #[.int .i64 ((atG E k.toNat).f), .int .i64 ((atG E k.toNat).t), .int .i64 ((atG E k.toNat).p.e), .int .i64 ((atG E k.toNat).p.r)], .own (fpR (vs.set (((atG E k.toNat).t).toNat) nilV)) (RowsV 38 (vs.set (((atG E k.toNat).t).toNat) nilV) ((rowE E (rowP E n i.toNat r.toNat) k.toNat).set (((atG E k.toNat).t).toNat) [])), .blk g 44 (List.toArray (cV (A ++ vs ++ C))), .arg 4 ev E.length (cG E)] := M
        -- region 6
        refine rg_J F 19 (fun Dd dv w' => (Dd 0 = true → dv 0 = (.slice (some ⟨g, s, none⟩) n n)) ∧ (Dd 1 = true → dv 1 = .pointer (some ⟨g2, 1, none⟩)) ∧ (Dd 2 = true → dv 2 = .int .i64 ((atG E k.toNat).t)) ∧ (Dd 3 = true → dv 3 = (.slice (some ⟨g, s, none⟩) n n)) ∧ (Dd 4 = true → dv 4 = .pointer (some ⟨g2, 1, none⟩)) ∧ (Dd 5 = true → dv 5 = .int .i64 ((atG E k.toNat).t)) ∧ (Dd 6 = true → dv 6 = .pointer (some ⟨gof (.slice (some ⟨g, s, none⟩) n n), oof (.slice (some ⟨g, s, none⟩) n n) + (((atG E k.toNat).t).toNat * 1), none⟩)) ∧ (Dd 7 = true → dv 7 = (atV vs (((atG E k.toNat).t).toNat))) ∧ (Dd 8 = true → dv 8 = (.slice (some ⟨g, s, none⟩) n n)) ∧ (Dd 9 = true → dv 9 = .pointer (some ⟨g2, 0, none⟩)) ∧ (Dd 10 = true → dv 10 = .int .i64 ((atG E k.toNat).f)) ∧ (Dd 11 = true → dv 11 = .pointer (some ⟨gof (.slice (some ⟨g, s, none⟩) n n), oof (.slice (some ⟨g, s, none⟩) n n) + (((atG E k.toNat).f).toNat * 1), none⟩)) ∧ (Dd 12 = true → dv 12 = (atV vs (((atG E k.toNat).f).toNat))) ∧ (Dd 13 = true → dv 13 = .pointer (some ⟨g2, 2, none⟩)) ∧ (Dd 14 = true → dv 14 = .agg #[.int .i64 ((atG E k.toNat).p.e), .int .i64 ((atG E k.toNat).p.r)]) ∧ (Dd 18 = true → dv 18 = .pointer (some ⟨gof (.slice (some ⟨g, s, none⟩) n n), oof (.slice (some ⟨g, s, none⟩) n n) + (((atG E k.toNat).t).toNat * 1), none⟩)) ∧ Mm [g] w w' [(if Dd 15 = true then .row 38 2 (dv 15) ((sumsP (atR (rowE E (rowP E n i.toNat r.toNat) k.toNat) (((atG E k.toNat).f).toNat)) [(atG E k.toNat).p]).length) (cS (sumsP (atR (rowE E (rowP E n i.toNat r.toNat) k.toNat) (((atG E k.toNat).f).toNat)) [(atG E k.toNat).p])) else .arg 1 (.slice none 0 0) 0 []), (if Dd 17 = true then .row 38 2 (dv 17) ((minL ((atR (rowE E (rowP E n i.toNat r.toNat) k.toNat) (((atG E k.toNat).t).toNat)) ++ (sumsP (atR (rowE E (rowP E n i.toNat r.toNat) k.toNat) (((atG E k.toNat).f).toNat)) [(atG E k.toNat).p]))).length) (cS (minL ((atR (rowE E (rowP E n i.toNat r.toNat) k.toNat) (((atG E k.toNat).t).toNat)) ++ (sumsP (atR (rowE E (rowP E n i.toNat r.toNat) k.toNat) (((atG E k.toNat).f).toNat)) [(atG E k.toNat).p])))) else .arg 1 (.slice none 0 0) 0 []), (if Dd 16 = true then .row 38 2 (dv 16) (((atR (rowE E (rowP E n i.toNat r.toNat) k.toNat) (((atG E k.toNat).t).toNat)) ++ (sumsP (atR (rowE E (rowP E n i.toNat r.toNat) k.toNat) (((atG E k.toNat).f).toNat)) [(atG E k.toNat).p])).length) (cS ((atR (rowE E (rowP E n i.toNat r.toNat) k.toNat) (((atG E k.toNat).t).toNat)) ++ (sumsP (atR (rowE E (rowP E n i.toNat r.toNat) k.toNat) (((atG E k.toNat).f).toNat)) [(atG E k.toNat).p]))) else .row 38 2 (atV vs (((atG E k.toNat).t).toNat)) ((atR (rowE E (rowP E n i.toNat r.toNat) k.toNat) (((atG E k.toNat).t).toNat)).length) (cS (atR (rowE E (rowP E n i.toNat r.toNat) k.toNat) (((atG E k.toNat).t).toNat)))), .blk g2 40 #[.int .i64 ((atG E k.toNat).f), .int .i64 ((atG E k.toNat).t), .int .i64 ((atG E k.toNat).p.e), .int .i64 ((atG E k.toNat).p.r)], .own (fpR (vs.set (((atG E k.toNat).t).toNat) nilV)) (RowsV 38 (vs.set (((atG E k.toNat).t).toNat) nilV) ((rowE E (rowP E n i.toNat r.toNat) k.toNat).set (((atG E k.toNat).t).toNat) [])), .blk g 44 (List.toArray (cV (A ++ vs ++ C))), .arg 4 ev E.length (cG E)]) (fun dv => ⟨(fun h => by cases h), (fun h => by cases h), (fun h => by cases h), (fun h => by cases h), (fun h => by cases h), (fun h => by cases h), (fun h => by cases h), (fun h => by cases h), (fun h => by cases h), (fun h => by cases h), (fun h => by cases h), (fun h => by cases h), (fun h => by cases h), (fun h => by cases h), (fun h => by cases h), (fun h => by cases h), by simpa using ((M.drew).dead).dead⟩) mixedOK (by kernel_rfl) rfl ⟨?_, ?_, ?_, ?_, ?_, ?_, ?_, ?_, ?_, ?_, ?_, ?_, ?_, ?_, ?_, ?_, ?_, ?_, ?_, trivial⟩ ?_
        · intro Dd φ1 dv ω1 ⟨h0, h1, h2, h3, h4, h5, h6, h7, h8, h9, h10, h11, h12, h13, h14, h18, M⟩ hDi hdep hcl F1 hdone hold
          have F := (F1.cons (F.was hold (s := 0) rfl rfl))
          try simp only [hDi, Bool.false_eq_true, if_false, if_true, ite_true, ite_false] at M
          exact ⟨wt0 rfl, ow_run ((pu_move rfl (F.ev rfl)) ω1) ⟨_, rfl, newP, keepP rfl h1, keepP rfl h2, keepP rfl h3, keepP rfl h4, keepP rfl h5, keepP rfl h6, keepP rfl h7, keepP rfl h8, keepP rfl h9, keepP rfl h10, keepP rfl h11, keepP rfl h12, keepP rfl h13, keepP rfl h14, keepP rfl h18, by simpa [setB, setV, hDi, Bool.false_eq_true, if_false, if_true, ite_true, ite_false] using M⟩⟩
        · intro Dd φ1 dv ω1 ⟨h0, h1, h2, h3, h4, h5, h6, h7, h8, h9, h10, h11, h12, h13, h14, h18, M⟩ hDi hdep hcl F1 hdone hold
          have F := (F1.cons (F.was hold (s := 7) rfl rfl))
          try simp only [hDi, Bool.false_eq_true, if_false, if_true, ite_true, ite_false] at M
          exact ⟨wt0 rfl, ow_run ((pu_field rfl (F.ev rfl) fo40_1) ω1) ⟨_, rfl, keepP rfl h0, newP, keepP rfl h2, keepP rfl h3, keepP rfl h4, keepP rfl h5, keepP rfl h6, keepP rfl h7, keepP rfl h8, keepP rfl h9, keepP rfl h10, keepP rfl h11, keepP rfl h12, keepP rfl h13, keepP rfl h14, keepP rfl h18, by simpa [setB, setV, hDi, Bool.false_eq_true, if_false, if_true, ite_true, ite_false] using M⟩⟩
        · intro Dd φ1 dv ω1 ⟨h0, h1, h2, h3, h4, h5, h6, h7, h8, h9, h10, h11, h12, h13, h14, h18, M⟩ hDi hdep hcl F1 hdone hold
          have d1 : Dd 1 = true := hdep 1 (by kernel_rfl)
          have F := (F1.cons (k := 25) (hdone 1 _ _ d1 rfl rfl |>.trans (h1 d1)))
          try simp only [d1, hDi, Bool.false_eq_true, if_false, if_true, ite_true, ite_false] at M
          exact ⟨wt0 rfl, ow_run ((ld_cell rfl (F.ev rfl) one3 (M.rd (i := 3) rfl) rfl) ω1 rfl) ⟨_, rfl, keepP rfl h0, keepP rfl h1, newP, keepP rfl h3, keepP rfl h4, keepP rfl h5, keepP rfl h6, keepP rfl h7, keepP rfl h8, keepP rfl h9, keepP rfl h10, keepP rfl h11, keepP rfl h12, keepP rfl h13, keepP rfl h14, keepP rfl h18, by simpa [setB, setV, d1, hDi, Bool.false_eq_true, if_false, if_true, ite_true, ite_false] using M⟩⟩
        · intro Dd φ1 dv ω1 ⟨h0, h1, h2, h3, h4, h5, h6, h7, h8, h9, h10, h11, h12, h13, h14, h18, M⟩ hDi hdep hcl F1 hdone hold
          have F := (F1.cons (F.was hold (s := 0) rfl rfl))
          try simp only [hDi, Bool.false_eq_true, if_false, if_true, ite_true, ite_false] at M
          exact ⟨wt0 rfl, ow_run ((pu_move rfl (F.ev rfl)) ω1) ⟨_, rfl, keepP rfl h0, keepP rfl h1, keepP rfl h2, newP, keepP rfl h4, keepP rfl h5, keepP rfl h6, keepP rfl h7, keepP rfl h8, keepP rfl h9, keepP rfl h10, keepP rfl h11, keepP rfl h12, keepP rfl h13, keepP rfl h14, keepP rfl h18, by simpa [setB, setV, hDi, Bool.false_eq_true, if_false, if_true, ite_true, ite_false] using M⟩⟩
        · intro Dd φ1 dv ω1 ⟨h0, h1, h2, h3, h4, h5, h6, h7, h8, h9, h10, h11, h12, h13, h14, h18, M⟩ hDi hdep hcl F1 hdone hold
          have F := (F1.cons (F.was hold (s := 7) rfl rfl))
          try simp only [hDi, Bool.false_eq_true, if_false, if_true, ite_true, ite_false] at M
          exact ⟨wt0 rfl, ow_run ((pu_field rfl (F.ev rfl) fo40_1) ω1) ⟨_, rfl, keepP rfl h0, keepP rfl h1, keepP rfl h2, keepP rfl h3, newP, keepP rfl h5, keepP rfl h6, keepP rfl h7, keepP rfl h8, keepP rfl h9, keepP rfl h10, keepP rfl h11, keepP rfl h12, keepP rfl h13, keepP rfl h14, keepP rfl h18, by simpa [setB, setV, hDi, Bool.false_eq_true, if_false, if_true, ite_true, ite_false] using M⟩⟩
        · intro Dd φ1 dv ω1 ⟨h0, h1, h2, h3, h4, h5, h6, h7, h8, h9, h10, h11, h12, h13, h14, h18, M⟩ hDi hdep hcl F1 hdone hold
          have d4 : Dd 4 = true := hdep 4 (by kernel_rfl)
          have F := (F1.cons (k := 28) (hdone 4 _ _ d4 rfl rfl |>.trans (h4 d4)))
          try simp only [d4, hDi, Bool.false_eq_true, if_false, if_true, ite_true, ite_false] at M
          exact ⟨wt0 rfl, ow_run ((ld_cell rfl (F.ev rfl) one3 (M.rd (i := 3) rfl) rfl) ω1 rfl) ⟨_, rfl, keepP rfl h0, keepP rfl h1, keepP rfl h2, keepP rfl h3, keepP rfl h4, newP, keepP rfl h6, keepP rfl h7, keepP rfl h8, keepP rfl h9, keepP rfl h10, keepP rfl h11, keepP rfl h12, keepP rfl h13, keepP rfl h14, keepP rfl h18, by simpa [setB, setV, d4, hDi, Bool.false_eq_true, if_false, if_true, ite_true, ite_false] using M⟩⟩
        · intro Dd φ1 dv ω1 ⟨h0, h1, h2, h3, h4, h5, h6, h7, h8, h9, h10, h11, h12, h13, h14, h18, M⟩ hDi hdep hcl F1 hdone hold
          have d3 : Dd 3 = true := hdep 3 (by kernel_rfl)
          have d5 : Dd 5 = true := hdep 5 (by kernel_rfl)
          have d4 : Dd 4 = true := hcl _ 4 d5 (by kernel_rfl)
          have F := ((F1.cons (k := 27) (hdone 3 _ _ d3 rfl rfl |>.trans (h3 d3))).cons (k := 29) (hdone 5 _ _ d5 rfl rfl |>.trans (h5 d5)))
          try simp only [d3, d4, d5, hDi, Bool.false_eq_true, if_false, if_true, ite_true, ite_false] at M
          exact ⟨wt0 rfl, ow_run ((pu_ix rfl (F.ev rfl) (F.ev rfl) sl45 (win_rdv (M.at (i := 5) rfl) (mid_win hA (by first | assumption | (simp only [List.length_set, List.length_replicate]; first | done | assumption))) (by first | assumption | (simp only [List.length_set, List.length_replicate]; first | done | assumption)) (by omega)) (by omega) (by omega)) ω1) ⟨_, rfl, keepP rfl h0, keepP rfl h1, keepP rfl h2, keepP rfl h3, keepP rfl h4, keepP rfl h5, newP, keepP rfl h7, keepP rfl h8, keepP rfl h9, keepP rfl h10, keepP rfl h11, keepP rfl h12, keepP rfl h13, keepP rfl h14, keepP rfl h18, by simpa [setB, setV, d3, d4, d5, hDi, Bool.false_eq_true, if_false, if_true, ite_true, ite_false] using M⟩⟩
        · intro Dd φ1 dv ω1 ⟨h0, h1, h2, h3, h4, h5, h6, h7, h8, h9, h10, h11, h12, h13, h14, h18, M⟩ hDi hdep hcl F1 hdone hold
          have d6 : Dd 6 = true := hdep 6 (by kernel_rfl)
          have d3 : Dd 3 = true := hcl _ 3 d6 (by kernel_rfl)
          have d5 : Dd 5 = true := hcl _ 5 d6 (by kernel_rfl)
          have d4 : Dd 4 = true := hcl _ 4 d5 (by kernel_rfl)
          have F := (F1.cons (k := 30) (hdone 6 _ _ d6 rfl rfl |>.trans (h6 d6)))
          try simp only [d3, d4, d5, d6, hDi, Bool.false_eq_true, if_false, if_true, ite_true, ite_false] at M
          exact ⟨wt0 rfl, ow_run ((ld_el1 rfl (F.ev rfl) one44 (fun _ e => e ▸ (win_rdv (M.at (i := 5) rfl) (mid_win hA (by first | assumption | (simp only [List.length_set, List.length_replicate]; first | done | assumption))) (by first | assumption | (simp only [List.length_set, List.length_replicate]; first | done | assumption)) (by omega))) (by omega) (cV_at (L := vs) (by first | omega | (simp; done) | (simp; omega)))) ω1 rfl) ⟨_, rfl, keepP rfl h0, keepP rfl h1, keepP rfl h2, keepP rfl h3, keepP rfl h4, keepP rfl h5, keepP rfl h6, newP, keepP rfl h8, keepP rfl h9, keepP rfl h10, keepP rfl h11, keepP rfl h12, keepP rfl h13, keepP rfl h14, keepP rfl h18, by simpa [setB, setV, d3, d4, d5, d6, hDi, Bool.false_eq_true, if_false, if_true, ite_true, ite_false] using M⟩⟩
        · intro Dd φ1 dv ω1 ⟨h0, h1, h2, h3, h4, h5, h6, h7, h8, h9, h10, h11, h12, h13, h14, h18, M⟩ hDi hdep hcl F1 hdone hold
          have F := (F1.cons (F.was hold (s := 0) rfl rfl))
          try simp only [hDi, Bool.false_eq_true, if_false, if_true, ite_true, ite_false] at M
          exact ⟨wt0 rfl, ow_run ((pu_move rfl (F.ev rfl)) ω1) ⟨_, rfl, keepP rfl h0, keepP rfl h1, keepP rfl h2, keepP rfl h3, keepP rfl h4, keepP rfl h5, keepP rfl h6, keepP rfl h7, newP, keepP rfl h9, keepP rfl h10, keepP rfl h11, keepP rfl h12, keepP rfl h13, keepP rfl h14, keepP rfl h18, by simpa [setB, setV, hDi, Bool.false_eq_true, if_false, if_true, ite_true, ite_false] using M⟩⟩
        · intro Dd φ1 dv ω1 ⟨h0, h1, h2, h3, h4, h5, h6, h7, h8, h9, h10, h11, h12, h13, h14, h18, M⟩ hDi hdep hcl F1 hdone hold
          have F := (F1.cons (F.was hold (s := 7) rfl rfl))
          try simp only [hDi, Bool.false_eq_true, if_false, if_true, ite_true, ite_false] at M
          exact ⟨wt0 rfl, ow_run ((pu_field rfl (F.ev rfl) fo40_0) ω1) ⟨_, rfl, keepP rfl h0, keepP rfl h1, keepP rfl h2, keepP rfl h3, keepP rfl h4, keepP rfl h5, keepP rfl h6, keepP rfl h7, keepP rfl h8, newP, keepP rfl h10, keepP rfl h11, keepP rfl h12, keepP rfl h13, keepP rfl h14, keepP rfl h18, by simpa [setB, setV, hDi, Bool.false_eq_true, if_false, if_true, ite_true, ite_false] using M⟩⟩
        · intro Dd φ1 dv ω1 ⟨h0, h1, h2, h3, h4, h5, h6, h7, h8, h9, h10, h11, h12, h13, h14, h18, M⟩ hDi hdep hcl F1 hdone hold
          have d9 : Dd 9 = true := hdep 9 (by kernel_rfl)
          have F := (F1.cons (k := 33) (hdone 9 _ _ d9 rfl rfl |>.trans (h9 d9)))
          try simp only [d9, hDi, Bool.false_eq_true, if_false, if_true, ite_true, ite_false] at M
          exact ⟨wt0 rfl, ow_run ((ld_cell rfl (F.ev rfl) one3 (M.rd (i := 3) rfl) rfl) ω1 rfl) ⟨_, rfl, keepP rfl h0, keepP rfl h1, keepP rfl h2, keepP rfl h3, keepP rfl h4, keepP rfl h5, keepP rfl h6, keepP rfl h7, keepP rfl h8, keepP rfl h9, newP, keepP rfl h11, keepP rfl h12, keepP rfl h13, keepP rfl h14, keepP rfl h18, by simpa [setB, setV, d9, hDi, Bool.false_eq_true, if_false, if_true, ite_true, ite_false] using M⟩⟩
        · intro Dd φ1 dv ω1 ⟨h0, h1, h2, h3, h4, h5, h6, h7, h8, h9, h10, h11, h12, h13, h14, h18, M⟩ hDi hdep hcl F1 hdone hold
          have d8 : Dd 8 = true := hdep 8 (by kernel_rfl)
          have d10 : Dd 10 = true := hdep 10 (by kernel_rfl)
          have d9 : Dd 9 = true := hcl _ 9 d10 (by kernel_rfl)
          have F := ((F1.cons (k := 32) (hdone 8 _ _ d8 rfl rfl |>.trans (h8 d8))).cons (k := 34) (hdone 10 _ _ d10 rfl rfl |>.trans (h10 d10)))
          try simp only [d8, d9, d10, hDi, Bool.false_eq_true, if_false, if_true, ite_true, ite_false] at M
          exact ⟨wt0 rfl, ow_run ((pu_ix rfl (F.ev rfl) (F.ev rfl) sl45 (win_rdv (M.at (i := 5) rfl) (mid_win hA (by first | assumption | (simp only [List.length_set, List.length_replicate]; first | done | assumption))) (by first | assumption | (simp only [List.length_set, List.length_replicate]; first | done | assumption)) (by omega)) (by omega) (by omega)) ω1) ⟨_, rfl, keepP rfl h0, keepP rfl h1, keepP rfl h2, keepP rfl h3, keepP rfl h4, keepP rfl h5, keepP rfl h6, keepP rfl h7, keepP rfl h8, keepP rfl h9, keepP rfl h10, newP, keepP rfl h12, keepP rfl h13, keepP rfl h14, keepP rfl h18, by simpa [setB, setV, d8, d9, d10, hDi, Bool.false_eq_true, if_false, if_true, ite_true, ite_false] using M⟩⟩
        · intro Dd φ1 dv ω1 ⟨h0, h1, h2, h3, h4, h5, h6, h7, h8, h9, h10, h11, h12, h13, h14, h18, M⟩ hDi hdep hcl F1 hdone hold
          have d11 : Dd 11 = true := hdep 11 (by kernel_rfl)
          have d8 : Dd 8 = true := hcl _ 8 d11 (by kernel_rfl)
          have d10 : Dd 10 = true := hcl _ 10 d11 (by kernel_rfl)
          have d9 : Dd 9 = true := hcl _ 9 d10 (by kernel_rfl)
          have F := (F1.cons (k := 35) (hdone 11 _ _ d11 rfl rfl |>.trans (h11 d11)))
          try simp only [d8, d9, d10, d11, hDi, Bool.false_eq_true, if_false, if_true, ite_true, ite_false] at M
          exact ⟨wt0 rfl, ow_run ((ld_el1 rfl (F.ev rfl) one44 (fun _ e => e ▸ (win_rdv (M.at (i := 5) rfl) (mid_win hA (by first | assumption | (simp only [List.length_set, List.length_replicate]; first | done | assumption))) (by first | assumption | (simp only [List.length_set, List.length_replicate]; first | done | assumption)) (by omega))) (by omega) (cV_at (L := vs) (by first | omega | (simp; done) | (simp; omega)))) ω1 rfl) ⟨_, rfl, keepP rfl h0, keepP rfl h1, keepP rfl h2, keepP rfl h3, keepP rfl h4, keepP rfl h5, keepP rfl h6, keepP rfl h7, keepP rfl h8, keepP rfl h9, keepP rfl h10, keepP rfl h11, newP, keepP rfl h13, keepP rfl h14, keepP rfl h18, by simpa [setB, setV, d8, d9, d10, d11, hDi, Bool.false_eq_true, if_false, if_true, ite_true, ite_false] using M⟩⟩
        · intro Dd φ1 dv ω1 ⟨h0, h1, h2, h3, h4, h5, h6, h7, h8, h9, h10, h11, h12, h13, h14, h18, M⟩ hDi hdep hcl F1 hdone hold
          have F := (F1.cons (F.was hold (s := 7) rfl rfl))
          try simp only [hDi, Bool.false_eq_true, if_false, if_true, ite_true, ite_false] at M
          exact ⟨wt0 rfl, ow_run ((pu_field rfl (F.ev rfl) fo40_2) ω1) ⟨_, rfl, keepP rfl h0, keepP rfl h1, keepP rfl h2, keepP rfl h3, keepP rfl h4, keepP rfl h5, keepP rfl h6, keepP rfl h7, keepP rfl h8, keepP rfl h9, keepP rfl h10, keepP rfl h11, keepP rfl h12, newP, keepP rfl h14, keepP rfl h18, by simpa [setB, setV, hDi, Bool.false_eq_true, if_false, if_true, ite_true, ite_false] using M⟩⟩
        · intro Dd φ1 dv ω1 ⟨h0, h1, h2, h3, h4, h5, h6, h7, h8, h9, h10, h11, h12, h13, h14, h18, M⟩ hDi hdep hcl F1 hdone hold
          have d13 : Dd 13 = true := hdep 13 (by kernel_rfl)
          have F := (F1.cons (k := 37) (hdone 13 _ _ d13 rfl rfl |>.trans (h13 d13)))
          try simp only [d13, hDi, Bool.false_eq_true, if_false, if_true, ite_true, ite_false] at M
          exact ⟨wt0 rfl, ow_run ((ld_sub rfl (F.ev rfl) agg38 (M.rd (i := 3) rfl) rfl rfl) ω1 rfl) ⟨_, rfl, keepP rfl h0, keepP rfl h1, keepP rfl h2, keepP rfl h3, keepP rfl h4, keepP rfl h5, keepP rfl h6, keepP rfl h7, keepP rfl h8, keepP rfl h9, keepP rfl h10, keepP rfl h11, keepP rfl h12, keepP rfl h13, newP, keepP rfl h18, by simpa [setB, setV, d13, hDi, Bool.false_eq_true, if_false, if_true, ite_true, ite_false] using M⟩⟩
        · intro Dd φ1 dv ω1 ⟨h0, h1, h2, h3, h4, h5, h6, h7, h8, h9, h10, h11, h12, h13, h14, h18, M⟩ hDi hdep hcl F1 hdone hold
          have d12 : Dd 12 = true := hdep 12 (by kernel_rfl)
          have d14 : Dd 14 = true := hdep 14 (by kernel_rfl)
          have d11 : Dd 11 = true := hcl _ 11 d12 (by kernel_rfl)
          have d13 : Dd 13 = true := hcl _ 13 d14 (by kernel_rfl)
          have d8 : Dd 8 = true := hcl _ 8 d11 (by kernel_rfl)
          have d10 : Dd 10 = true := hcl _ 10 d11 (by kernel_rfl)
          have d9 : Dd 9 = true := hcl _ 9 d10 (by kernel_rfl)
          have F := ((F1.cons (k := 36) (hdone 12 _ _ d12 rfl rfl |>.trans (h12 d12))).cons (k := 38) (hdone 14 _ _ d14 rfl rfl |>.trans (h14 d14)))
          have f16 : Dd 16 = false := notYet hcl (i := 15) (by kernel_rfl) hDi
          have f17 : Dd 17 = false := notYet hcl (i := 16) (by kernel_rfl) f16
          try simp only [d8, d9, d10, d11, d12, d13, d14, hDi, f16, f17, Bool.false_eq_true, if_false, if_true, ite_true, ite_false] at M
          exact ⟨wt0 rfl, ow_callZ rfl en38 (evc (F.ev rfl) (evc (F.ev rfl) evn)) (Z := fun x w2 => Below ω1.heap.size ω1 w2 ∧ w2.ownsRow ω1.heap.size 38 2 x ((sumsP (atR (rowE E (rowP E n i.toNat r.toNat) k.toNat) (((atG E k.toNat).f).toNat)) [(atG E k.toNat).p]).length) (cS (sumsP (atR (rowE E (rowP E n i.toNat r.toNat) k.toNat) (((atG E k.toNat).f).toNat)) [(atG E k.toNat).p]))) (sums_any (atR (rowE E (rowP E n i.toNat r.toNat) k.toNat) (((atG E k.toNat).f).toNat)) ((atG E k.toNat).p) _ _ (rows_other (M.pv (i := 4) rfl) (by omega) (by omega) (by omega) (by omega)) (by omega)) (fun x w2 ⟨hb2, ho2⟩ => by have M2 := M.freshRow (i := 0) rfl hb2 ho2; exact ⟨_, rfl, keepP rfl h0, keepP rfl h1, keepP rfl h2, keepP rfl h3, keepP rfl h4, keepP rfl h5, keepP rfl h6, keepP rfl h7, keepP rfl h8, keepP rfl h9, keepP rfl h10, keepP rfl h11, keepP rfl h12, keepP rfl h13, keepP rfl h14, keepP rfl h18, by simpa [setB, setV, d8, d9, d10, d11, d12, d13, d14, hDi, f16, f17, Bool.false_eq_true, if_false, if_true, ite_true, ite_false] using M2⟩)⟩
        · intro Dd φ1 dv ω1 ⟨h0, h1, h2, h3, h4, h5, h6, h7, h8, h9, h10, h11, h12, h13, h14, h18, M⟩ hDi hdep hcl F1 hdone hold
          have d7 : Dd 7 = true := hdep 7 (by kernel_rfl)
          have d15 : Dd 15 = true := hdep 15 (by kernel_rfl)
          have d6 : Dd 6 = true := hcl _ 6 d7 (by kernel_rfl)
          have d12 : Dd 12 = true := hcl _ 12 d15 (by kernel_rfl)
          have d14 : Dd 14 = true := hcl _ 14 d15 (by kernel_rfl)
          have d3 : Dd 3 = true := hcl _ 3 d6 (by kernel_rfl)
          have d5 : Dd 5 = true := hcl _ 5 d6 (by kernel_rfl)
          have d11 : Dd 11 = true := hcl _ 11 d12 (by kernel_rfl)
          have d13 : Dd 13 = true := hcl _ 13 d14 (by kernel_rfl)
          have d4 : Dd 4 = true := hcl _ 4 d5 (by kernel_rfl)
          have d8 : Dd 8 = true := hcl _ 8 d11 (by kernel_rfl)
          have d10 : Dd 10 = true := hcl _ 10 d11 (by kernel_rfl)
          have d9 : Dd 9 = true := hcl _ 9 d10 (by kernel_rfl)
          have F := ((F1.cons (k := 31) (hdone 7 _ _ d7 rfl rfl |>.trans (h7 d7))).cons (k := 39) (hdone 15 _ _ d15 rfl rfl))
          try simp only [d3, d4, d5, d6, d7, d8, d9, d10, d11, d12, d13, d14, d15, hDi, Bool.false_eq_true, if_false, if_true, ite_true, ite_false] at M
          refine ⟨wt0 rfl, ow_app M rfl sl44.1 el38 (F.ev rfl) (i := 2) rfl (F.ev rfl) (M.rv (i := 0) rfl) (cS_ones _) (by first | omega | (simp only [List.length_append, List.length_take, List.length_drop, List.length_cons, List.length_nil]; omega)) (by omega) (fun x w2 M2 => ?_)⟩
          rw [← cS_app, show ((atR (rowE E (rowP E n i.toNat r.toNat) k.toNat) (((atG E k.toNat).t).toNat)).length) + ((sumsP (atR (rowE E (rowP E n i.toNat r.toNat) k.toNat) (((atG E k.toNat).f).toNat)) [(atG E k.toNat).p]).length) = ((atR (rowE E (rowP E n i.toNat r.toNat) k.toNat) (((atG E k.toNat).t).toNat)) ++ (sumsP (atR (rowE E (rowP E n i.toNat r.toNat) k.toNat) (((atG E k.toNat).f).toNat)) [(atG E k.toNat).p])).length from by first | rfl | (simp; done) | (simp; omega)] at M2
          exact ⟨_, rfl, keepP rfl h0, keepP rfl h1, keepP rfl h2, keepP rfl h3, keepP rfl h4, keepP rfl h5, keepP rfl h6, keepP rfl h7, keepP rfl h8, keepP rfl h9, keepP rfl h10, keepP rfl h11, keepP rfl h12, keepP rfl h13, keepP rfl h14, keepP rfl h18, by simpa [setB, setV, d3, d4, d5, d6, d7, d8, d9, d10, d11, d12, d13, d14, d15, hDi, Bool.false_eq_true, if_false, if_true, ite_true, ite_false] using M2⟩
        · intro Dd φ1 dv ω1 ⟨h0, h1, h2, h3, h4, h5, h6, h7, h8, h9, h10, h11, h12, h13, h14, h18, M⟩ hDi hdep hcl F1 hdone hold
          have d16 : Dd 16 = true := hdep 16 (by kernel_rfl)
          have d7 : Dd 7 = true := hcl _ 7 d16 (by kernel_rfl)
          have d15 : Dd 15 = true := hcl _ 15 d16 (by kernel_rfl)
          have d6 : Dd 6 = true := hcl _ 6 d7 (by kernel_rfl)
          have d12 : Dd 12 = true := hcl _ 12 d15 (by kernel_rfl)
          have d14 : Dd 14 = true := hcl _ 14 d15 (by kernel_rfl)
          have d3 : Dd 3 = true := hcl _ 3 d6 (by kernel_rfl)
          have d5 : Dd 5 = true := hcl _ 5 d6 (by kernel_rfl)
          have d11 : Dd 11 = true := hcl _ 11 d12 (by kernel_rfl)
          have d13 : Dd 13 = true := hcl _ 13 d14 (by kernel_rfl)
          have d4 : Dd 4 = true := hcl _ 4 d5 (by kernel_rfl)
          have d8 : Dd 8 = true := hcl _ 8 d11 (by kernel_rfl)
          have d10 : Dd 10 = true := hcl _ 10 d11 (by kernel_rfl)
          have d9 : Dd 9 = true := hcl _ 9 d10 (by kernel_rfl)
          have F := (F1.cons (k := 40) (hdone 16 _ _ d16 rfl rfl))
          try simp only [d3, d4, d5, d6, d7, d8, d9, d10, d11, d12, d13, d14, d15, d16, hDi, Bool.false_eq_true, if_false, if_true, ite_true, ite_false] at M
          exact ⟨wt0 rfl, ow_callZ rfl en37 (evc (F.ev rfl) evn) (Z := fun x w2 => Below ω1.heap.size ω1 w2 ∧ w2.ownsRow ω1.heap.size 38 2 x ((minL ((atR (rowE E (rowP E n i.toNat r.toNat) k.toNat) (((atG E k.toNat).t).toNat)) ++ (sumsP (atR (rowE E (rowP E n i.toNat r.toNat) k.toNat) (((atG E k.toNat).f).toNat)) [(atG E k.toNat).p]))).length) (cS (minL ((atR (rowE E (rowP E n i.toNat r.toNat) k.toNat) (((atG E k.toNat).t).toNat)) ++ (sumsP (atR (rowE E (rowP E n i.toNat r.toNat) k.toNat) (((atG E k.toNat).f).toNat)) [(atG E k.toNat).p]))))) (path_min_any ((atR (rowE E (rowP E n i.toNat r.toNat) k.toNat) (((atG E k.toNat).t).toNat)) ++ (sumsP (atR (rowE E (rowP E n i.toNat r.toNat) k.toNat) (((atG E k.toNat).f).toNat)) [(atG E k.toNat).p])) _ _ (M.rv (i := 2) rfl) (by first | omega | (simp; done) | (simp; omega) | (refine Nat.le_trans (minL_len _) ?_; omega) | (refine Nat.le_trans (eachL_len _ _) ?_; omega))) (fun x w2 ⟨hb2, ho2⟩ => by have M2 := M.freshRow (i := 1) rfl hb2 ho2; exact ⟨_, rfl, keepP rfl h0, keepP rfl h1, keepP rfl h2, keepP rfl h3, keepP rfl h4, keepP rfl h5, keepP rfl h6, keepP rfl h7, keepP rfl h8, keepP rfl h9, keepP rfl h10, keepP rfl h11, keepP rfl h12, keepP rfl h13, keepP rfl h14, keepP rfl h18, by simpa [setB, setV, d3, d4, d5, d6, d7, d8, d9, d10, d11, d12, d13, d14, d15, d16, hDi, Bool.false_eq_true, if_false, if_true, ite_true, ite_false] using M2⟩)⟩
        · intro Dd φ1 dv ω1 ⟨h0, h1, h2, h3, h4, h5, h6, h7, h8, h9, h10, h11, h12, h13, h14, h18, M⟩ hDi hdep hcl F1 hdone hold
          have d0 : Dd 0 = true := hdep 0 (by kernel_rfl)
          have d2 : Dd 2 = true := hdep 2 (by kernel_rfl)
          have d1 : Dd 1 = true := hcl _ 1 d2 (by kernel_rfl)
          have F := ((F1.cons (k := 24) (hdone 0 _ _ d0 rfl rfl |>.trans (h0 d0))).cons (k := 26) (hdone 2 _ _ d2 rfl rfl |>.trans (h2 d2)))
          try simp only [d0, d1, d2, hDi, Bool.false_eq_true, if_false, if_true, ite_true, ite_false] at M
          exact ⟨wt0 rfl, ow_run ((pu_ix rfl (F.ev rfl) (F.ev rfl) sl45 (win_rdv (M.at (i := 5) rfl) (mid_win hA (by first | assumption | (simp only [List.length_set, List.length_replicate]; first | done | assumption))) (by first | assumption | (simp only [List.length_set, List.length_replicate]; first | done | assumption)) (by omega)) (by omega) (by omega)) ω1) ⟨_, rfl, keepP rfl h0, keepP rfl h1, keepP rfl h2, keepP rfl h3, keepP rfl h4, keepP rfl h5, keepP rfl h6, keepP rfl h7, keepP rfl h8, keepP rfl h9, keepP rfl h10, keepP rfl h11, keepP rfl h12, keepP rfl h13, keepP rfl h14, newP, by simpa [setB, setV, d0, d1, d2, hDi, Bool.false_eq_true, if_false, if_true, ite_true, ite_false] using M⟩⟩
        clear M; rintro dv φ ω ⟨h0, h1, h2, h3, h4, h5, h6, h7, h8, h9, h10, h11, h12, h13, h14, h18, M⟩ F
        simp only [hvL, List.take_succ_cons, List.take_zero] at F
        rw [h18 (by simp)] at F
        rw [h14 (by simp)] at F
        rw [h13 (by simp)] at F
        rw [h12 (by simp)] at F
        rw [h11 (by simp)] at F
        rw [h10 (by simp)] at F
        rw [h9 (by simp)] at F
        rw [h8 (by simp)] at F
        rw [h7 (by simp)] at F
        rw [h6 (by simp)] at F
        rw [h5 (by simp)] at F
        rw [h4 (by simp)] at F
        rw [h3 (by simp)] at F
        rw [h2 (by simp)] at F
        rw [h1 (by simp)] at F
        rw [h0 (by simp)] at F
        replace M : Mm [g] w ω [.row 38 2 (dv 15) ((sumsP (atR (rowE E (rowP E n i.toNat r.toNat) k.toNat) (((atG E k.toNat).f).toNat)) [(atG E k.toNat).p]).length) (cS (sumsP (atR (rowE E (rowP E n i.toNat r.toNat) k.toNat) (((atG E k.toNat).f).toNat)) [(atG E k.toNat).p])), .row 38 2 (dv 17) ((minL ((atR (rowE E (rowP E n i.toNat r.toNat) k.toNat) (((atG E k.toNat).t).toNat)) ++ (sumsP (atR (rowE E (rowP E n i.toNat r.toNat) k.toNat) (((atG E k.toNat).f).toNat)) [(atG E k.toNat).p]))).length) (cS (minL ((atR (rowE E (rowP E n i.toNat r.toNat) k.toNat) (((atG E k.toNat).t).toNat)) ++ (sumsP (atR (rowE E (rowP E n i.toNat r.toNat) k.toNat) (((atG E k.toNat).f).toNat)) [(atG E k.toNat).p])))), .row 38 2 (dv 16) (((atR (rowE E (rowP E n i.toNat r.toNat) k.toNat) (((atG E k.toNat).t).toNat)) ++ (sumsP (atR (rowE E (rowP E n i.toNat r.toNat) k.toNat) (((atG E k.toNat).f).toNat)) [(atG E k.toNat).p])).length) (cS ((atR (rowE E (rowP E n i.toNat r.toNat) k.toNat) (((atG E k.toNat).t).toNat)) ++ (sumsP (atR (rowE E (rowP E n i.toNat r.toNat) k.toNat) (((atG E k.toNat).f).toNat)) [(atG E k.toNat).p]))), .blk g2 40 #[.int .i64 ((atG E k.toNat).f), .int .i64 ((atG E k.toNat).t), .int .i64 ((atG E k.toNat).p.e), .int .i64 ((atG E k.toNat).p.r)], .own (fpR (vs.set (((atG E k.toNat).t).toNat) nilV)) (RowsV 38 (vs.set (((atG E k.toNat).t).toNat) nilV) ((rowE E (rowP E n i.toNat r.toNat) k.toNat).set (((atG E k.toNat).t).toNat) [])), .blk g 44 (List.toArray (cV (A ++ vs ++ C))), .arg 4 ev E.length (cG E)] := by simpa using M
        clear h0 h1 h2 h3 h4 h5 h6 h7 h8 h9 h10 h11 h12 h13 h14 h18
        generalize dv 15 = v1 at F M
        generalize dv 16 = v2 at F M
        generalize dv 17 = v3 at F M
        refine sq_stW (j := ((atG E k.toNat).t).toNat) (A := A) (V := vs) (C := C) F M (wt0 rfl) rfl (F.ev rfl) (F.ev rfl) (i := 5) rfl hA (by first | omega | (simp only [List.length_set, List.length_replicate]; omega)) si44 (slc_one (M.rv (i := 1) rfl)).1 (slc_one (M.rv (i := 1) rfl)).2 rfl ?_; clear M; intro ω M
        replace M : Mm [g] w ω [.row 38 2 v1 ((sumsP (atR (rowE E (rowP E n i.toNat r.toNat) k.toNat) (((atG E k.toNat).f).toNat)) [(atG E k.toNat).p]).length) (cS (sumsP (atR (rowE E (rowP E n i.toNat r.toNat) k.toNat) (((atG E k.toNat).f).toNat)) [(atG E k.toNat).p])), .row 38 2 v3 ((minL ((atR (rowE E (rowP E n i.toNat r.toNat) k.toNat) (((atG E k.toNat).t).toNat)) ++ (sumsP (atR (rowE E (rowP E n i.toNat r.toNat) k.toNat) (((atG E k.toNat).f).toNat)) [(atG E k.toNat).p]))).length) (cS (minL ((atR (rowE E (rowP E n i.toNat r.toNat) k.toNat) (((atG E k.toNat).t).toNat)) ++ (sumsP (atR (rowE E (rowP E n i.toNat r.toNat) k.toNat) (((atG E k.toNat).f).toNat)) [(atG E k.toNat).p])))), .row 38 2 v2 (((atR (rowE E (rowP E n i.toNat r.toNat) k.toNat) (((atG E k.toNat).t).toNat)) ++ (sumsP (atR (rowE E (rowP E n i.toNat r.toNat) k.toNat) (((atG E k.toNat).f).toNat)) [(atG E k.toNat).p])).length) (cS ((atR (rowE E (rowP E n i.toNat r.toNat) k.toNat) (((atG E k.toNat).t).toNat)) ++ (sumsP (atR (rowE E (rowP E n i.toNat r.toNat) k.toNat) (((atG E k.toNat).f).toNat)) [(atG E k.toNat).p]))), .blk g2 40 #[.int .i64 ((atG E k.toNat).f), .int .i64 ((atG E k.toNat).t), .int .i64 ((atG E k.toNat).p.e), .int .i64 ((atG E k.toNat).p.r)], .own (fpR (vs.set (((atG E k.toNat).t).toNat) nilV)) (RowsV 38 (vs.set (((atG E k.toNat).t).toNat) nilV) ((rowE E (rowP E n i.toNat r.toNat) k.toNat).set (((atG E k.toNat).t).toNat) [])), .blk g 44 (List.toArray (cV (A ++ (vs.set (((atG E k.toNat).t).toNat) v3) ++ C))), .arg 4 ev E.length (cG E)] := M
        replace M := M.putRow (i := 4) (k := 1) (j := ((atG E k.toNat).t).toNat) (l := (minL ((atR (rowE E (rowP E n i.toNat r.toNat) k.toNat) (((atG E k.toNat).t).toNat)) ++ (sumsP (atR (rowE E (rowP E n i.toNat r.toNat) k.toNat) (((atG E k.toNat).f).toNat)) [(atG E k.toNat).p])))) rfl rfl (by first | omega | (simp only [List.length_set, List.length_replicate]; omega))
        rw [List.set_set, List.set_set] at M
        replace M : Mm [g] w ω [.row 38 2 v1 ((sumsP (atR (rowE E (rowP E n i.toNat r.toNat) k.toNat) (((atG E k.toNat).f).toNat)) [(atG E k.toNat).p]).length) (cS (sumsP (atR (rowE E (rowP E n i.toNat r.toNat) k.toNat) (((atG E k.toNat).f).toNat)) [(atG E k.toNat).p])), .arg 1 (.slice none 0 0) 0 [], .row 38 2 v2 (((atR (rowE E (rowP E n i.toNat r.toNat) k.toNat) (((atG E k.toNat).t).toNat)) ++ (sumsP (atR (rowE E (rowP E n i.toNat r.toNat) k.toNat) (((atG E k.toNat).f).toNat)) [(atG E k.toNat).p])).length) (cS ((atR (rowE E (rowP E n i.toNat r.toNat) k.toNat) (((atG E k.toNat).t).toNat)) ++ (sumsP (atR (rowE E (rowP E n i.toNat r.toNat) k.toNat) (((atG E k.toNat).f).toNat)) [(atG E k.toNat).p]))), .blk g2 40 #[.int .i64 ((atG E k.toNat).f), .int .i64 ((atG E k.toNat).t), .int .i64 ((atG E k.toNat).p.e), .int .i64 ((atG E k.toNat).p.r)], .own (fpR (vs.set (((atG E k.toNat).t).toNat) v3)) (RowsV 38 (vs.set (((atG E k.toNat).t).toNat) v3) ((rowE E (rowP E n i.toNat r.toNat) k.toNat).set (((atG E k.toNat).t).toNat) (minL ((atR (rowE E (rowP E n i.toNat r.toNat) k.toNat) (((atG E k.toNat).t).toNat)) ++ (sumsP (atR (rowE E (rowP E n i.toNat r.toNat) k.toNat) (((atG E k.toNat).f).toNat)) [(atG E k.toNat).p]))))), .blk g 44 (List.toArray (cV (A ++ (vs.set (((atG E k.toNat).t).toNat) v3) ++ C))), .arg 4 ev E.length (cG E)] := M
        refine wpList_nil ?_
        refine nxb ?_
        refine nxq ?_
        -- region 7
        refine wp_region_lit ?_
        refine sq_pure F (wt0 rfl) (pu_add rfl (F.ev rfl) (evk) (by omega) (by omega)) rfl rfl ?_; clear F; intro φ F
        refine sq_pure F (wt0 rfl) (pu_move rfl (F.ev rfl)) rfl rfl ?_; clear F; intro φ F
        refine wpList_nil ?_
        exact ⟨k + 1, by omega, (vs.set (((atG E k.toNat).t).toNat) v3), (((((((F.nil.cons (F.get (k := 20) rfl)).cons (F.get (k := 19) rfl)).cons (F.get (k := 18) rfl)).cons (F.get (k := 16) rfl)).cons (F.get (k := 15) rfl)).cons (F.get (k := 2) rfl)).cons (F.get (k := 0) rfl)), (by rw [rowE_step hp3_0 (by omega)]; exact (M.sub (.cons _ (.cons _ (.cons _ (.cons _ (.cons_cons _ (.cons_cons _ (.cons_cons _ (.slnil)))))))))), by omega, by omega, (by rw [List.length_set]; exact hp3_2)⟩
      · skip
        have hs5i := of_decide_eq_true hs5
        refine sq_pure F (wt0 rfl) (pu_ix rfl (F.ev rfl) (F.ev rfl) sl22 (M.av (i := 2) rfl) (by omega) (by omega)) rfl rfl ?_; clear F; intro φ F
        refine sq_rd F (wt0 rfl) (ld_el rfl (F.ev rfl) agg40 (fun _ e => e ▸ (M.av (i := 2) rfl)) (by omega) (cG_at (by first | omega | (simp; done) | (simp; omega))) rfl) rfl rfl ?_; clear F; intro φ F
        refine sq_alloc F M (wt0 rfl) rfl z40 rfl rfl ?_; clear F M; intro φ ω g3 F M
        refine sq_stA F M (wt0 rfl) rfl (F.ev rfl) (F.ev rfl) (i := 0) rfl agg40 rfl rfl rfl rfl ?_; clear M; intro ω M
        refine nx ?_
        have hx := fit_t hF (atG_mem (L := E) (i := k.toNat) (by omega))
        have hok := rowE_ok hF (rowP_ok hF hi2 r.toNat) k.toNat (by omega)
        have hts := ok_small hok (((atG E k.toNat).t).toNat)
        have hfs := ok_small hok (((atG E k.toNat).f).toNat)
        have hll := hok.len
        have hss := sums1_all (atR (rowE E (rowP E n i.toNat r.toNat) k.toNat) (((atG E k.toNat).f).toNat)) (atG E k.toNat).p
        have heq : (((atG E k.toNat).f).toNat) = (((atG E k.toNat).t).toNat) := by omega
        replace M := M.takeRow (i := 1) (j := ((atG E k.toNat).t).toNat) rfl (by first | omega | (simp only [List.length_set, List.length_replicate]; omega))
        replace M : Mm [g] w ω [.row 38 2 (atV vs (((atG E k.toNat).t).toNat)) ((atR (rowE E (rowP E n i.toNat r.toNat) k.toNat) (((atG E k.toNat).t).toNat)).length) (cS (atR (rowE E (rowP E n i.toNat r.toNat) k.toNat) (((atG E k.toNat).t).toNat))), .blk g3 40 #[.int .i64 ((atG E k.toNat).f), .int .i64 ((atG E k.toNat).t), .int .i64 ((atG E k.toNat).p.e), .int .i64 ((atG E k.toNat).p.r)], .own (fpR (vs.set (((atG E k.toNat).t).toNat) nilV)) (RowsV 38 (vs.set (((atG E k.toNat).t).toNat) nilV) ((rowE E (rowP E n i.toNat r.toNat) k.toNat).set (((atG E k.toNat).t).toNat) [])), .blk g 44 (List.toArray (cV (A ++ vs ++ C))), .arg 4 ev E.length (cG E)] := M
        -- region 6
        refine rg_J F 19 (fun Dd dv w' => (Dd 0 = true → dv 0 = (.slice (some ⟨g, s, none⟩) n n)) ∧ (Dd 1 = true → dv 1 = .pointer (some ⟨g3, 1, none⟩)) ∧ (Dd 2 = true → dv 2 = .int .i64 ((atG E k.toNat).t)) ∧ (Dd 3 = true → dv 3 = (.slice (some ⟨g, s, none⟩) n n)) ∧ (Dd 4 = true → dv 4 = .pointer (some ⟨g3, 1, none⟩)) ∧ (Dd 5 = true → dv 5 = .int .i64 ((atG E k.toNat).t)) ∧ (Dd 6 = true → dv 6 = .pointer (some ⟨gof (.slice (some ⟨g, s, none⟩) n n), oof (.slice (some ⟨g, s, none⟩) n n) + (((atG E k.toNat).t).toNat * 1), none⟩)) ∧ (Dd 7 = true → dv 7 = (atV vs (((atG E k.toNat).t).toNat))) ∧ (Dd 8 = true → dv 8 = (.slice (some ⟨g, s, none⟩) n n)) ∧ (Dd 9 = true → dv 9 = .pointer (some ⟨g3, 0, none⟩)) ∧ (Dd 10 = true → dv 10 = .int .i64 ((atG E k.toNat).f)) ∧ (Dd 11 = true → dv 11 = .pointer (some ⟨gof (.slice (some ⟨g, s, none⟩) n n), oof (.slice (some ⟨g, s, none⟩) n n) + (((atG E k.toNat).f).toNat * 1), none⟩)) ∧ (Dd 12 = true → dv 12 = (atV vs (((atG E k.toNat).f).toNat))) ∧ (Dd 13 = true → dv 13 = .pointer (some ⟨g3, 2, none⟩)) ∧ (Dd 14 = true → dv 14 = .agg #[.int .i64 ((atG E k.toNat).p.e), .int .i64 ((atG E k.toNat).p.r)]) ∧ (Dd 18 = true → dv 18 = .pointer (some ⟨gof (.slice (some ⟨g, s, none⟩) n n), oof (.slice (some ⟨g, s, none⟩) n n) + (((atG E k.toNat).t).toNat * 1), none⟩)) ∧ Mm [g] w w' [(if Dd 15 = true then .row 38 2 (dv 15) ((sumsP (atR (rowE E (rowP E n i.toNat r.toNat) k.toNat) (((atG E k.toNat).f).toNat)) [(atG E k.toNat).p]).length) (cS (sumsP (atR (rowE E (rowP E n i.toNat r.toNat) k.toNat) (((atG E k.toNat).f).toNat)) [(atG E k.toNat).p])) else .arg 1 (.slice none 0 0) 0 []), (if Dd 17 = true then .row 38 2 (dv 17) ((minL ((atR (rowE E (rowP E n i.toNat r.toNat) k.toNat) (((atG E k.toNat).t).toNat)) ++ (sumsP (atR (rowE E (rowP E n i.toNat r.toNat) k.toNat) (((atG E k.toNat).f).toNat)) [(atG E k.toNat).p]))).length) (cS (minL ((atR (rowE E (rowP E n i.toNat r.toNat) k.toNat) (((atG E k.toNat).t).toNat)) ++ (sumsP (atR (rowE E (rowP E n i.toNat r.toNat) k.toNat) (((atG E k.toNat).f).toNat)) [(atG E k.toNat).p])))) else .arg 1 (.slice none 0 0) 0 []), (if Dd 16 = true then .row 38 2 (dv 16) (((atR (rowE E (rowP E n i.toNat r.toNat) k.toNat) (((atG E k.toNat).t).toNat)) ++ (sumsP (atR (rowE E (rowP E n i.toNat r.toNat) k.toNat) (((atG E k.toNat).f).toNat)) [(atG E k.toNat).p])).length) (cS ((atR (rowE E (rowP E n i.toNat r.toNat) k.toNat) (((atG E k.toNat).t).toNat)) ++ (sumsP (atR (rowE E (rowP E n i.toNat r.toNat) k.toNat) (((atG E k.toNat).f).toNat)) [(atG E k.toNat).p]))) else .row 38 2 (atV vs (((atG E k.toNat).t).toNat)) ((atR (rowE E (rowP E n i.toNat r.toNat) k.toNat) (((atG E k.toNat).t).toNat)).length) (cS (atR (rowE E (rowP E n i.toNat r.toNat) k.toNat) (((atG E k.toNat).t).toNat)))), .blk g3 40 #[.int .i64 ((atG E k.toNat).f), .int .i64 ((atG E k.toNat).t), .int .i64 ((atG E k.toNat).p.e), .int .i64 ((atG E k.toNat).p.r)], .own (fpR (vs.set (((atG E k.toNat).t).toNat) nilV)) (RowsV 38 (vs.set (((atG E k.toNat).t).toNat) nilV) ((rowE E (rowP E n i.toNat r.toNat) k.toNat).set (((atG E k.toNat).t).toNat) [])), .blk g 44 (List.toArray (cV (A ++ vs ++ C))), .arg 4 ev E.length (cG E)]) (fun dv => ⟨(fun h => by cases h), (fun h => by cases h), (fun h => by cases h), (fun h => by cases h), (fun h => by cases h), (fun h => by cases h), (fun h => by cases h), (fun h => by cases h), (fun h => by cases h), (fun h => by cases h), (fun h => by cases h), (fun h => by cases h), (fun h => by cases h), (fun h => by cases h), (fun h => by cases h), (fun h => by cases h), by simpa using ((M.drew).dead).dead⟩) mixedOK (by kernel_rfl) rfl ⟨?_, ?_, ?_, ?_, ?_, ?_, ?_, ?_, ?_, ?_, ?_, ?_, ?_, ?_, ?_, ?_, ?_, ?_, ?_, trivial⟩ ?_
        · intro Dd φ1 dv ω1 ⟨h0, h1, h2, h3, h4, h5, h6, h7, h8, h9, h10, h11, h12, h13, h14, h18, M⟩ hDi hdep hcl F1 hdone hold
          have F := (F1.cons (F.was hold (s := 0) rfl rfl))
          try simp only [hDi, Bool.false_eq_true, if_false, if_true, ite_true, ite_false] at M
          exact ⟨wt0 rfl, ow_run ((pu_move rfl (F.ev rfl)) ω1) ⟨_, rfl, newP, keepP rfl h1, keepP rfl h2, keepP rfl h3, keepP rfl h4, keepP rfl h5, keepP rfl h6, keepP rfl h7, keepP rfl h8, keepP rfl h9, keepP rfl h10, keepP rfl h11, keepP rfl h12, keepP rfl h13, keepP rfl h14, keepP rfl h18, by simpa [setB, setV, hDi, Bool.false_eq_true, if_false, if_true, ite_true, ite_false] using M⟩⟩
        · intro Dd φ1 dv ω1 ⟨h0, h1, h2, h3, h4, h5, h6, h7, h8, h9, h10, h11, h12, h13, h14, h18, M⟩ hDi hdep hcl F1 hdone hold
          have F := (F1.cons (F.was hold (s := 7) rfl rfl))
          try simp only [hDi, Bool.false_eq_true, if_false, if_true, ite_true, ite_false] at M
          exact ⟨wt0 rfl, ow_run ((pu_field rfl (F.ev rfl) fo40_1) ω1) ⟨_, rfl, keepP rfl h0, newP, keepP rfl h2, keepP rfl h3, keepP rfl h4, keepP rfl h5, keepP rfl h6, keepP rfl h7, keepP rfl h8, keepP rfl h9, keepP rfl h10, keepP rfl h11, keepP rfl h12, keepP rfl h13, keepP rfl h14, keepP rfl h18, by simpa [setB, setV, hDi, Bool.false_eq_true, if_false, if_true, ite_true, ite_false] using M⟩⟩
        · intro Dd φ1 dv ω1 ⟨h0, h1, h2, h3, h4, h5, h6, h7, h8, h9, h10, h11, h12, h13, h14, h18, M⟩ hDi hdep hcl F1 hdone hold
          have d1 : Dd 1 = true := hdep 1 (by kernel_rfl)
          have F := (F1.cons (k := 25) (hdone 1 _ _ d1 rfl rfl |>.trans (h1 d1)))
          try simp only [d1, hDi, Bool.false_eq_true, if_false, if_true, ite_true, ite_false] at M
          exact ⟨wt0 rfl, ow_run ((ld_cell rfl (F.ev rfl) one3 (M.rd (i := 3) rfl) rfl) ω1 rfl) ⟨_, rfl, keepP rfl h0, keepP rfl h1, newP, keepP rfl h3, keepP rfl h4, keepP rfl h5, keepP rfl h6, keepP rfl h7, keepP rfl h8, keepP rfl h9, keepP rfl h10, keepP rfl h11, keepP rfl h12, keepP rfl h13, keepP rfl h14, keepP rfl h18, by simpa [setB, setV, d1, hDi, Bool.false_eq_true, if_false, if_true, ite_true, ite_false] using M⟩⟩
        · intro Dd φ1 dv ω1 ⟨h0, h1, h2, h3, h4, h5, h6, h7, h8, h9, h10, h11, h12, h13, h14, h18, M⟩ hDi hdep hcl F1 hdone hold
          have F := (F1.cons (F.was hold (s := 0) rfl rfl))
          try simp only [hDi, Bool.false_eq_true, if_false, if_true, ite_true, ite_false] at M
          exact ⟨wt0 rfl, ow_run ((pu_move rfl (F.ev rfl)) ω1) ⟨_, rfl, keepP rfl h0, keepP rfl h1, keepP rfl h2, newP, keepP rfl h4, keepP rfl h5, keepP rfl h6, keepP rfl h7, keepP rfl h8, keepP rfl h9, keepP rfl h10, keepP rfl h11, keepP rfl h12, keepP rfl h13, keepP rfl h14, keepP rfl h18, by simpa [setB, setV, hDi, Bool.false_eq_true, if_false, if_true, ite_true, ite_false] using M⟩⟩
        · intro Dd φ1 dv ω1 ⟨h0, h1, h2, h3, h4, h5, h6, h7, h8, h9, h10, h11, h12, h13, h14, h18, M⟩ hDi hdep hcl F1 hdone hold
          have F := (F1.cons (F.was hold (s := 7) rfl rfl))
          try simp only [hDi, Bool.false_eq_true, if_false, if_true, ite_true, ite_false] at M
          exact ⟨wt0 rfl, ow_run ((pu_field rfl (F.ev rfl) fo40_1) ω1) ⟨_, rfl, keepP rfl h0, keepP rfl h1, keepP rfl h2, keepP rfl h3, newP, keepP rfl h5, keepP rfl h6, keepP rfl h7, keepP rfl h8, keepP rfl h9, keepP rfl h10, keepP rfl h11, keepP rfl h12, keepP rfl h13, keepP rfl h14, keepP rfl h18, by simpa [setB, setV, hDi, Bool.false_eq_true, if_false, if_true, ite_true, ite_false] using M⟩⟩
        · intro Dd φ1 dv ω1 ⟨h0, h1, h2, h3, h4, h5, h6, h7, h8, h9, h10, h11, h12, h13, h14, h18, M⟩ hDi hdep hcl F1 hdone hold
          have d4 : Dd 4 = true := hdep 4 (by kernel_rfl)
          have F := (F1.cons (k := 28) (hdone 4 _ _ d4 rfl rfl |>.trans (h4 d4)))
          try simp only [d4, hDi, Bool.false_eq_true, if_false, if_true, ite_true, ite_false] at M
          exact ⟨wt0 rfl, ow_run ((ld_cell rfl (F.ev rfl) one3 (M.rd (i := 3) rfl) rfl) ω1 rfl) ⟨_, rfl, keepP rfl h0, keepP rfl h1, keepP rfl h2, keepP rfl h3, keepP rfl h4, newP, keepP rfl h6, keepP rfl h7, keepP rfl h8, keepP rfl h9, keepP rfl h10, keepP rfl h11, keepP rfl h12, keepP rfl h13, keepP rfl h14, keepP rfl h18, by simpa [setB, setV, d4, hDi, Bool.false_eq_true, if_false, if_true, ite_true, ite_false] using M⟩⟩
        · intro Dd φ1 dv ω1 ⟨h0, h1, h2, h3, h4, h5, h6, h7, h8, h9, h10, h11, h12, h13, h14, h18, M⟩ hDi hdep hcl F1 hdone hold
          have d3 : Dd 3 = true := hdep 3 (by kernel_rfl)
          have d5 : Dd 5 = true := hdep 5 (by kernel_rfl)
          have d4 : Dd 4 = true := hcl _ 4 d5 (by kernel_rfl)
          have F := ((F1.cons (k := 27) (hdone 3 _ _ d3 rfl rfl |>.trans (h3 d3))).cons (k := 29) (hdone 5 _ _ d5 rfl rfl |>.trans (h5 d5)))
          try simp only [d3, d4, d5, hDi, Bool.false_eq_true, if_false, if_true, ite_true, ite_false] at M
          exact ⟨wt0 rfl, ow_run ((pu_ix rfl (F.ev rfl) (F.ev rfl) sl45 (win_rdv (M.at (i := 5) rfl) (mid_win hA (by first | assumption | (simp only [List.length_set, List.length_replicate]; first | done | assumption))) (by first | assumption | (simp only [List.length_set, List.length_replicate]; first | done | assumption)) (by omega)) (by omega) (by omega)) ω1) ⟨_, rfl, keepP rfl h0, keepP rfl h1, keepP rfl h2, keepP rfl h3, keepP rfl h4, keepP rfl h5, newP, keepP rfl h7, keepP rfl h8, keepP rfl h9, keepP rfl h10, keepP rfl h11, keepP rfl h12, keepP rfl h13, keepP rfl h14, keepP rfl h18, by simpa [setB, setV, d3, d4, d5, hDi, Bool.false_eq_true, if_false, if_true, ite_true, ite_false] using M⟩⟩
        · intro Dd φ1 dv ω1 ⟨h0, h1, h2, h3, h4, h5, h6, h7, h8, h9, h10, h11, h12, h13, h14, h18, M⟩ hDi hdep hcl F1 hdone hold
          have d6 : Dd 6 = true := hdep 6 (by kernel_rfl)
          have d3 : Dd 3 = true := hcl _ 3 d6 (by kernel_rfl)
          have d5 : Dd 5 = true := hcl _ 5 d6 (by kernel_rfl)
          have d4 : Dd 4 = true := hcl _ 4 d5 (by kernel_rfl)
          have F := (F1.cons (k := 30) (hdone 6 _ _ d6 rfl rfl |>.trans (h6 d6)))
          try simp only [d3, d4, d5, d6, hDi, Bool.false_eq_true, if_false, if_true, ite_true, ite_false] at M
          exact ⟨wt0 rfl, ow_run ((ld_el1 rfl (F.ev rfl) one44 (fun _ e => e ▸ (win_rdv (M.at (i := 5) rfl) (mid_win hA (by first | assumption | (simp only [List.length_set, List.length_replicate]; first | done | assumption))) (by first | assumption | (simp only [List.length_set, List.length_replicate]; first | done | assumption)) (by omega))) (by omega) (cV_at (L := vs) (by first | omega | (simp; done) | (simp; omega)))) ω1 rfl) ⟨_, rfl, keepP rfl h0, keepP rfl h1, keepP rfl h2, keepP rfl h3, keepP rfl h4, keepP rfl h5, keepP rfl h6, newP, keepP rfl h8, keepP rfl h9, keepP rfl h10, keepP rfl h11, keepP rfl h12, keepP rfl h13, keepP rfl h14, keepP rfl h18, by simpa [setB, setV, d3, d4, d5, d6, hDi, Bool.false_eq_true, if_false, if_true, ite_true, ite_false] using M⟩⟩
        · intro Dd φ1 dv ω1 ⟨h0, h1, h2, h3, h4, h5, h6, h7, h8, h9, h10, h11, h12, h13, h14, h18, M⟩ hDi hdep hcl F1 hdone hold
          have F := (F1.cons (F.was hold (s := 0) rfl rfl))
          try simp only [hDi, Bool.false_eq_true, if_false, if_true, ite_true, ite_false] at M
          exact ⟨wt0 rfl, ow_run ((pu_move rfl (F.ev rfl)) ω1) ⟨_, rfl, keepP rfl h0, keepP rfl h1, keepP rfl h2, keepP rfl h3, keepP rfl h4, keepP rfl h5, keepP rfl h6, keepP rfl h7, newP, keepP rfl h9, keepP rfl h10, keepP rfl h11, keepP rfl h12, keepP rfl h13, keepP rfl h14, keepP rfl h18, by simpa [setB, setV, hDi, Bool.false_eq_true, if_false, if_true, ite_true, ite_false] using M⟩⟩
        · intro Dd φ1 dv ω1 ⟨h0, h1, h2, h3, h4, h5, h6, h7, h8, h9, h10, h11, h12, h13, h14, h18, M⟩ hDi hdep hcl F1 hdone hold
          have F := (F1.cons (F.was hold (s := 7) rfl rfl))
          try simp only [hDi, Bool.false_eq_true, if_false, if_true, ite_true, ite_false] at M
          exact ⟨wt0 rfl, ow_run ((pu_field rfl (F.ev rfl) fo40_0) ω1) ⟨_, rfl, keepP rfl h0, keepP rfl h1, keepP rfl h2, keepP rfl h3, keepP rfl h4, keepP rfl h5, keepP rfl h6, keepP rfl h7, keepP rfl h8, newP, keepP rfl h10, keepP rfl h11, keepP rfl h12, keepP rfl h13, keepP rfl h14, keepP rfl h18, by simpa [setB, setV, hDi, Bool.false_eq_true, if_false, if_true, ite_true, ite_false] using M⟩⟩
        · intro Dd φ1 dv ω1 ⟨h0, h1, h2, h3, h4, h5, h6, h7, h8, h9, h10, h11, h12, h13, h14, h18, M⟩ hDi hdep hcl F1 hdone hold
          have d9 : Dd 9 = true := hdep 9 (by kernel_rfl)
          have F := (F1.cons (k := 33) (hdone 9 _ _ d9 rfl rfl |>.trans (h9 d9)))
          try simp only [d9, hDi, Bool.false_eq_true, if_false, if_true, ite_true, ite_false] at M
          exact ⟨wt0 rfl, ow_run ((ld_cell rfl (F.ev rfl) one3 (M.rd (i := 3) rfl) rfl) ω1 rfl) ⟨_, rfl, keepP rfl h0, keepP rfl h1, keepP rfl h2, keepP rfl h3, keepP rfl h4, keepP rfl h5, keepP rfl h6, keepP rfl h7, keepP rfl h8, keepP rfl h9, newP, keepP rfl h11, keepP rfl h12, keepP rfl h13, keepP rfl h14, keepP rfl h18, by simpa [setB, setV, d9, hDi, Bool.false_eq_true, if_false, if_true, ite_true, ite_false] using M⟩⟩
        · intro Dd φ1 dv ω1 ⟨h0, h1, h2, h3, h4, h5, h6, h7, h8, h9, h10, h11, h12, h13, h14, h18, M⟩ hDi hdep hcl F1 hdone hold
          have d8 : Dd 8 = true := hdep 8 (by kernel_rfl)
          have d10 : Dd 10 = true := hdep 10 (by kernel_rfl)
          have d9 : Dd 9 = true := hcl _ 9 d10 (by kernel_rfl)
          have F := ((F1.cons (k := 32) (hdone 8 _ _ d8 rfl rfl |>.trans (h8 d8))).cons (k := 34) (hdone 10 _ _ d10 rfl rfl |>.trans (h10 d10)))
          try simp only [d8, d9, d10, hDi, Bool.false_eq_true, if_false, if_true, ite_true, ite_false] at M
          exact ⟨wt0 rfl, ow_run ((pu_ix rfl (F.ev rfl) (F.ev rfl) sl45 (win_rdv (M.at (i := 5) rfl) (mid_win hA (by first | assumption | (simp only [List.length_set, List.length_replicate]; first | done | assumption))) (by first | assumption | (simp only [List.length_set, List.length_replicate]; first | done | assumption)) (by omega)) (by omega) (by omega)) ω1) ⟨_, rfl, keepP rfl h0, keepP rfl h1, keepP rfl h2, keepP rfl h3, keepP rfl h4, keepP rfl h5, keepP rfl h6, keepP rfl h7, keepP rfl h8, keepP rfl h9, keepP rfl h10, newP, keepP rfl h12, keepP rfl h13, keepP rfl h14, keepP rfl h18, by simpa [setB, setV, d8, d9, d10, hDi, Bool.false_eq_true, if_false, if_true, ite_true, ite_false] using M⟩⟩
        · intro Dd φ1 dv ω1 ⟨h0, h1, h2, h3, h4, h5, h6, h7, h8, h9, h10, h11, h12, h13, h14, h18, M⟩ hDi hdep hcl F1 hdone hold
          have d11 : Dd 11 = true := hdep 11 (by kernel_rfl)
          have d8 : Dd 8 = true := hcl _ 8 d11 (by kernel_rfl)
          have d10 : Dd 10 = true := hcl _ 10 d11 (by kernel_rfl)
          have d9 : Dd 9 = true := hcl _ 9 d10 (by kernel_rfl)
          have F := (F1.cons (k := 35) (hdone 11 _ _ d11 rfl rfl |>.trans (h11 d11)))
          try simp only [d8, d9, d10, d11, hDi, Bool.false_eq_true, if_false, if_true, ite_true, ite_false] at M
          exact ⟨wt0 rfl, ow_run ((ld_el1 rfl (F.ev rfl) one44 (fun _ e => e ▸ (win_rdv (M.at (i := 5) rfl) (mid_win hA (by first | assumption | (simp only [List.length_set, List.length_replicate]; first | done | assumption))) (by first | assumption | (simp only [List.length_set, List.length_replicate]; first | done | assumption)) (by omega))) (by omega) (cV_at (L := vs) (by first | omega | (simp; done) | (simp; omega)))) ω1 rfl) ⟨_, rfl, keepP rfl h0, keepP rfl h1, keepP rfl h2, keepP rfl h3, keepP rfl h4, keepP rfl h5, keepP rfl h6, keepP rfl h7, keepP rfl h8, keepP rfl h9, keepP rfl h10, keepP rfl h11, newP, keepP rfl h13, keepP rfl h14, keepP rfl h18, by simpa [setB, setV, d8, d9, d10, d11, hDi, Bool.false_eq_true, if_false, if_true, ite_true, ite_false] using M⟩⟩
        · intro Dd φ1 dv ω1 ⟨h0, h1, h2, h3, h4, h5, h6, h7, h8, h9, h10, h11, h12, h13, h14, h18, M⟩ hDi hdep hcl F1 hdone hold
          have F := (F1.cons (F.was hold (s := 7) rfl rfl))
          try simp only [hDi, Bool.false_eq_true, if_false, if_true, ite_true, ite_false] at M
          exact ⟨wt0 rfl, ow_run ((pu_field rfl (F.ev rfl) fo40_2) ω1) ⟨_, rfl, keepP rfl h0, keepP rfl h1, keepP rfl h2, keepP rfl h3, keepP rfl h4, keepP rfl h5, keepP rfl h6, keepP rfl h7, keepP rfl h8, keepP rfl h9, keepP rfl h10, keepP rfl h11, keepP rfl h12, newP, keepP rfl h14, keepP rfl h18, by simpa [setB, setV, hDi, Bool.false_eq_true, if_false, if_true, ite_true, ite_false] using M⟩⟩
        · intro Dd φ1 dv ω1 ⟨h0, h1, h2, h3, h4, h5, h6, h7, h8, h9, h10, h11, h12, h13, h14, h18, M⟩ hDi hdep hcl F1 hdone hold
          have d13 : Dd 13 = true := hdep 13 (by kernel_rfl)
          have F := (F1.cons (k := 37) (hdone 13 _ _ d13 rfl rfl |>.trans (h13 d13)))
          try simp only [d13, hDi, Bool.false_eq_true, if_false, if_true, ite_true, ite_false] at M
          exact ⟨wt0 rfl, ow_run ((ld_sub rfl (F.ev rfl) agg38 (M.rd (i := 3) rfl) rfl rfl) ω1 rfl) ⟨_, rfl, keepP rfl h0, keepP rfl h1, keepP rfl h2, keepP rfl h3, keepP rfl h4, keepP rfl h5, keepP rfl h6, keepP rfl h7, keepP rfl h8, keepP rfl h9, keepP rfl h10, keepP rfl h11, keepP rfl h12, keepP rfl h13, newP, keepP rfl h18, by simpa [setB, setV, d13, hDi, Bool.false_eq_true, if_false, if_true, ite_true, ite_false] using M⟩⟩
        · intro Dd φ1 dv ω1 ⟨h0, h1, h2, h3, h4, h5, h6, h7, h8, h9, h10, h11, h12, h13, h14, h18, M⟩ hDi hdep hcl F1 hdone hold
          have d12 : Dd 12 = true := hdep 12 (by kernel_rfl)
          have d14 : Dd 14 = true := hdep 14 (by kernel_rfl)
          have d11 : Dd 11 = true := hcl _ 11 d12 (by kernel_rfl)
          have d13 : Dd 13 = true := hcl _ 13 d14 (by kernel_rfl)
          have d8 : Dd 8 = true := hcl _ 8 d11 (by kernel_rfl)
          have d10 : Dd 10 = true := hcl _ 10 d11 (by kernel_rfl)
          have d9 : Dd 9 = true := hcl _ 9 d10 (by kernel_rfl)
          have F := ((F1.cons (k := 36) (hdone 12 _ _ d12 rfl rfl |>.trans (h12 d12))).cons (k := 38) (hdone 14 _ _ d14 rfl rfl |>.trans (h14 d14)))
          have f16 : Dd 16 = false := notYet hcl (i := 15) (by kernel_rfl) hDi
          have f17 : Dd 17 = false := notYet hcl (i := 16) (by kernel_rfl) f16
          try simp only [d8, d9, d10, d11, d12, d13, d14, hDi, f16, f17, Bool.false_eq_true, if_false, if_true, ite_true, ite_false] at M
          exact ⟨wt0 rfl, ow_callZ rfl en38 (evc (F.ev rfl) (evc (F.ev rfl) evn)) (Z := fun x w2 => Below ω1.heap.size ω1 w2 ∧ w2.ownsRow ω1.heap.size 38 2 x ((sumsP (atR (rowE E (rowP E n i.toNat r.toNat) k.toNat) (((atG E k.toNat).f).toNat)) [(atG E k.toNat).p]).length) (cS (sumsP (atR (rowE E (rowP E n i.toNat r.toNat) k.toNat) (((atG E k.toNat).f).toNat)) [(atG E k.toNat).p]))) (sums_any (atR (rowE E (rowP E n i.toNat r.toNat) k.toNat) (((atG E k.toNat).f).toNat)) ((atG E k.toNat).p) _ _ (by rw [heq]; exact M.rv (i := 2) rfl) (by omega)) (fun x w2 ⟨hb2, ho2⟩ => by have M2 := M.freshRow (i := 0) rfl hb2 ho2; exact ⟨_, rfl, keepP rfl h0, keepP rfl h1, keepP rfl h2, keepP rfl h3, keepP rfl h4, keepP rfl h5, keepP rfl h6, keepP rfl h7, keepP rfl h8, keepP rfl h9, keepP rfl h10, keepP rfl h11, keepP rfl h12, keepP rfl h13, keepP rfl h14, keepP rfl h18, by simpa [setB, setV, d8, d9, d10, d11, d12, d13, d14, hDi, f16, f17, Bool.false_eq_true, if_false, if_true, ite_true, ite_false] using M2⟩)⟩
        · intro Dd φ1 dv ω1 ⟨h0, h1, h2, h3, h4, h5, h6, h7, h8, h9, h10, h11, h12, h13, h14, h18, M⟩ hDi hdep hcl F1 hdone hold
          have d7 : Dd 7 = true := hdep 7 (by kernel_rfl)
          have d15 : Dd 15 = true := hdep 15 (by kernel_rfl)
          have d6 : Dd 6 = true := hcl _ 6 d7 (by kernel_rfl)
          have d12 : Dd 12 = true := hcl _ 12 d15 (by kernel_rfl)
          have d14 : Dd 14 = true := hcl _ 14 d15 (by kernel_rfl)
          have d3 : Dd 3 = true := hcl _ 3 d6 (by kernel_rfl)
          have d5 : Dd 5 = true := hcl _ 5 d6 (by kernel_rfl)
          have d11 : Dd 11 = true := hcl _ 11 d12 (by kernel_rfl)
          have d13 : Dd 13 = true := hcl _ 13 d14 (by kernel_rfl)
          have d4 : Dd 4 = true := hcl _ 4 d5 (by kernel_rfl)
          have d8 : Dd 8 = true := hcl _ 8 d11 (by kernel_rfl)
          have d10 : Dd 10 = true := hcl _ 10 d11 (by kernel_rfl)
          have d9 : Dd 9 = true := hcl _ 9 d10 (by kernel_rfl)
          have F := ((F1.cons (k := 31) (hdone 7 _ _ d7 rfl rfl |>.trans (h7 d7))).cons (k := 39) (hdone 15 _ _ d15 rfl rfl))
          try simp only [d3, d4, d5, d6, d7, d8, d9, d10, d11, d12, d13, d14, d15, hDi, Bool.false_eq_true, if_false, if_true, ite_true, ite_false] at M
          refine ⟨wt0 rfl, ow_app M rfl sl44.1 el38 (F.ev rfl) (i := 2) rfl (F.ev rfl) (M.rv (i := 0) rfl) (cS_ones _) (by first | omega | (simp only [List.length_append, List.length_take, List.length_drop, List.length_cons, List.length_nil]; omega)) (by omega) (fun x w2 M2 => ?_)⟩
          rw [← cS_app, show ((atR (rowE E (rowP E n i.toNat r.toNat) k.toNat) (((atG E k.toNat).t).toNat)).length) + ((sumsP (atR (rowE E (rowP E n i.toNat r.toNat) k.toNat) (((atG E k.toNat).f).toNat)) [(atG E k.toNat).p]).length) = ((atR (rowE E (rowP E n i.toNat r.toNat) k.toNat) (((atG E k.toNat).t).toNat)) ++ (sumsP (atR (rowE E (rowP E n i.toNat r.toNat) k.toNat) (((atG E k.toNat).f).toNat)) [(atG E k.toNat).p])).length from by first | rfl | (simp; done) | (simp; omega)] at M2
          exact ⟨_, rfl, keepP rfl h0, keepP rfl h1, keepP rfl h2, keepP rfl h3, keepP rfl h4, keepP rfl h5, keepP rfl h6, keepP rfl h7, keepP rfl h8, keepP rfl h9, keepP rfl h10, keepP rfl h11, keepP rfl h12, keepP rfl h13, keepP rfl h14, keepP rfl h18, by simpa [setB, setV, d3, d4, d5, d6, d7, d8, d9, d10, d11, d12, d13, d14, d15, hDi, Bool.false_eq_true, if_false, if_true, ite_true, ite_false] using M2⟩
        · intro Dd φ1 dv ω1 ⟨h0, h1, h2, h3, h4, h5, h6, h7, h8, h9, h10, h11, h12, h13, h14, h18, M⟩ hDi hdep hcl F1 hdone hold
          have d16 : Dd 16 = true := hdep 16 (by kernel_rfl)
          have d7 : Dd 7 = true := hcl _ 7 d16 (by kernel_rfl)
          have d15 : Dd 15 = true := hcl _ 15 d16 (by kernel_rfl)
          have d6 : Dd 6 = true := hcl _ 6 d7 (by kernel_rfl)
          have d12 : Dd 12 = true := hcl _ 12 d15 (by kernel_rfl)
          have d14 : Dd 14 = true := hcl _ 14 d15 (by kernel_rfl)
          have d3 : Dd 3 = true := hcl _ 3 d6 (by kernel_rfl)
          have d5 : Dd 5 = true := hcl _ 5 d6 (by kernel_rfl)
          have d11 : Dd 11 = true := hcl _ 11 d12 (by kernel_rfl)
          have d13 : Dd 13 = true := hcl _ 13 d14 (by kernel_rfl)
          have d4 : Dd 4 = true := hcl _ 4 d5 (by kernel_rfl)
          have d8 : Dd 8 = true := hcl _ 8 d11 (by kernel_rfl)
          have d10 : Dd 10 = true := hcl _ 10 d11 (by kernel_rfl)
          have d9 : Dd 9 = true := hcl _ 9 d10 (by kernel_rfl)
          have F := (F1.cons (k := 40) (hdone 16 _ _ d16 rfl rfl))
          try simp only [d3, d4, d5, d6, d7, d8, d9, d10, d11, d12, d13, d14, d15, d16, hDi, Bool.false_eq_true, if_false, if_true, ite_true, ite_false] at M
          exact ⟨wt0 rfl, ow_callZ rfl en37 (evc (F.ev rfl) evn) (Z := fun x w2 => Below ω1.heap.size ω1 w2 ∧ w2.ownsRow ω1.heap.size 38 2 x ((minL ((atR (rowE E (rowP E n i.toNat r.toNat) k.toNat) (((atG E k.toNat).t).toNat)) ++ (sumsP (atR (rowE E (rowP E n i.toNat r.toNat) k.toNat) (((atG E k.toNat).f).toNat)) [(atG E k.toNat).p]))).length) (cS (minL ((atR (rowE E (rowP E n i.toNat r.toNat) k.toNat) (((atG E k.toNat).t).toNat)) ++ (sumsP (atR (rowE E (rowP E n i.toNat r.toNat) k.toNat) (((atG E k.toNat).f).toNat)) [(atG E k.toNat).p]))))) (path_min_any ((atR (rowE E (rowP E n i.toNat r.toNat) k.toNat) (((atG E k.toNat).t).toNat)) ++ (sumsP (atR (rowE E (rowP E n i.toNat r.toNat) k.toNat) (((atG E k.toNat).f).toNat)) [(atG E k.toNat).p])) _ _ (M.rv (i := 2) rfl) (by first | omega | (simp; done) | (simp; omega) | (refine Nat.le_trans (minL_len _) ?_; omega) | (refine Nat.le_trans (eachL_len _ _) ?_; omega))) (fun x w2 ⟨hb2, ho2⟩ => by have M2 := M.freshRow (i := 1) rfl hb2 ho2; exact ⟨_, rfl, keepP rfl h0, keepP rfl h1, keepP rfl h2, keepP rfl h3, keepP rfl h4, keepP rfl h5, keepP rfl h6, keepP rfl h7, keepP rfl h8, keepP rfl h9, keepP rfl h10, keepP rfl h11, keepP rfl h12, keepP rfl h13, keepP rfl h14, keepP rfl h18, by simpa [setB, setV, d3, d4, d5, d6, d7, d8, d9, d10, d11, d12, d13, d14, d15, d16, hDi, Bool.false_eq_true, if_false, if_true, ite_true, ite_false] using M2⟩)⟩
        · intro Dd φ1 dv ω1 ⟨h0, h1, h2, h3, h4, h5, h6, h7, h8, h9, h10, h11, h12, h13, h14, h18, M⟩ hDi hdep hcl F1 hdone hold
          have d0 : Dd 0 = true := hdep 0 (by kernel_rfl)
          have d2 : Dd 2 = true := hdep 2 (by kernel_rfl)
          have d1 : Dd 1 = true := hcl _ 1 d2 (by kernel_rfl)
          have F := ((F1.cons (k := 24) (hdone 0 _ _ d0 rfl rfl |>.trans (h0 d0))).cons (k := 26) (hdone 2 _ _ d2 rfl rfl |>.trans (h2 d2)))
          try simp only [d0, d1, d2, hDi, Bool.false_eq_true, if_false, if_true, ite_true, ite_false] at M
          exact ⟨wt0 rfl, ow_run ((pu_ix rfl (F.ev rfl) (F.ev rfl) sl45 (win_rdv (M.at (i := 5) rfl) (mid_win hA (by first | assumption | (simp only [List.length_set, List.length_replicate]; first | done | assumption))) (by first | assumption | (simp only [List.length_set, List.length_replicate]; first | done | assumption)) (by omega)) (by omega) (by omega)) ω1) ⟨_, rfl, keepP rfl h0, keepP rfl h1, keepP rfl h2, keepP rfl h3, keepP rfl h4, keepP rfl h5, keepP rfl h6, keepP rfl h7, keepP rfl h8, keepP rfl h9, keepP rfl h10, keepP rfl h11, keepP rfl h12, keepP rfl h13, keepP rfl h14, newP, by simpa [setB, setV, d0, d1, d2, hDi, Bool.false_eq_true, if_false, if_true, ite_true, ite_false] using M⟩⟩
        clear M; rintro dv φ ω ⟨h0, h1, h2, h3, h4, h5, h6, h7, h8, h9, h10, h11, h12, h13, h14, h18, M⟩ F
        simp only [hvL, List.take_succ_cons, List.take_zero] at F
        rw [h18 (by simp)] at F
        rw [h14 (by simp)] at F
        rw [h13 (by simp)] at F
        rw [h12 (by simp)] at F
        rw [h11 (by simp)] at F
        rw [h10 (by simp)] at F
        rw [h9 (by simp)] at F
        rw [h8 (by simp)] at F
        rw [h7 (by simp)] at F
        rw [h6 (by simp)] at F
        rw [h5 (by simp)] at F
        rw [h4 (by simp)] at F
        rw [h3 (by simp)] at F
        rw [h2 (by simp)] at F
        rw [h1 (by simp)] at F
        rw [h0 (by simp)] at F
        replace M : Mm [g] w ω [.row 38 2 (dv 15) ((sumsP (atR (rowE E (rowP E n i.toNat r.toNat) k.toNat) (((atG E k.toNat).f).toNat)) [(atG E k.toNat).p]).length) (cS (sumsP (atR (rowE E (rowP E n i.toNat r.toNat) k.toNat) (((atG E k.toNat).f).toNat)) [(atG E k.toNat).p])), .row 38 2 (dv 17) ((minL ((atR (rowE E (rowP E n i.toNat r.toNat) k.toNat) (((atG E k.toNat).t).toNat)) ++ (sumsP (atR (rowE E (rowP E n i.toNat r.toNat) k.toNat) (((atG E k.toNat).f).toNat)) [(atG E k.toNat).p]))).length) (cS (minL ((atR (rowE E (rowP E n i.toNat r.toNat) k.toNat) (((atG E k.toNat).t).toNat)) ++ (sumsP (atR (rowE E (rowP E n i.toNat r.toNat) k.toNat) (((atG E k.toNat).f).toNat)) [(atG E k.toNat).p])))), .row 38 2 (dv 16) (((atR (rowE E (rowP E n i.toNat r.toNat) k.toNat) (((atG E k.toNat).t).toNat)) ++ (sumsP (atR (rowE E (rowP E n i.toNat r.toNat) k.toNat) (((atG E k.toNat).f).toNat)) [(atG E k.toNat).p])).length) (cS ((atR (rowE E (rowP E n i.toNat r.toNat) k.toNat) (((atG E k.toNat).t).toNat)) ++ (sumsP (atR (rowE E (rowP E n i.toNat r.toNat) k.toNat) (((atG E k.toNat).f).toNat)) [(atG E k.toNat).p]))), .blk g3 40 #[.int .i64 ((atG E k.toNat).f), .int .i64 ((atG E k.toNat).t), .int .i64 ((atG E k.toNat).p.e), .int .i64 ((atG E k.toNat).p.r)], .own (fpR (vs.set (((atG E k.toNat).t).toNat) nilV)) (RowsV 38 (vs.set (((atG E k.toNat).t).toNat) nilV) ((rowE E (rowP E n i.toNat r.toNat) k.toNat).set (((atG E k.toNat).t).toNat) [])), .blk g 44 (List.toArray (cV (A ++ vs ++ C))), .arg 4 ev E.length (cG E)] := by simpa using M
        clear h0 h1 h2 h3 h4 h5 h6 h7 h8 h9 h10 h11 h12 h13 h14 h18
        generalize dv 15 = v4 at F M
        generalize dv 16 = v5 at F M
        generalize dv 17 = v6 at F M
        refine sq_stW (j := ((atG E k.toNat).t).toNat) (A := A) (V := vs) (C := C) F M (wt0 rfl) rfl (F.ev rfl) (F.ev rfl) (i := 5) rfl hA (by first | omega | (simp only [List.length_set, List.length_replicate]; omega)) si44 (slc_one (M.rv (i := 1) rfl)).1 (slc_one (M.rv (i := 1) rfl)).2 rfl ?_; clear M; intro ω M
        replace M : Mm [g] w ω [.row 38 2 v4 ((sumsP (atR (rowE E (rowP E n i.toNat r.toNat) k.toNat) (((atG E k.toNat).f).toNat)) [(atG E k.toNat).p]).length) (cS (sumsP (atR (rowE E (rowP E n i.toNat r.toNat) k.toNat) (((atG E k.toNat).f).toNat)) [(atG E k.toNat).p])), .row 38 2 v6 ((minL ((atR (rowE E (rowP E n i.toNat r.toNat) k.toNat) (((atG E k.toNat).t).toNat)) ++ (sumsP (atR (rowE E (rowP E n i.toNat r.toNat) k.toNat) (((atG E k.toNat).f).toNat)) [(atG E k.toNat).p]))).length) (cS (minL ((atR (rowE E (rowP E n i.toNat r.toNat) k.toNat) (((atG E k.toNat).t).toNat)) ++ (sumsP (atR (rowE E (rowP E n i.toNat r.toNat) k.toNat) (((atG E k.toNat).f).toNat)) [(atG E k.toNat).p])))), .row 38 2 v5 (((atR (rowE E (rowP E n i.toNat r.toNat) k.toNat) (((atG E k.toNat).t).toNat)) ++ (sumsP (atR (rowE E (rowP E n i.toNat r.toNat) k.toNat) (((atG E k.toNat).f).toNat)) [(atG E k.toNat).p])).length) (cS ((atR (rowE E (rowP E n i.toNat r.toNat) k.toNat) (((atG E k.toNat).t).toNat)) ++ (sumsP (atR (rowE E (rowP E n i.toNat r.toNat) k.toNat) (((atG E k.toNat).f).toNat)) [(atG E k.toNat).p]))), .blk g3 40 #[.int .i64 ((atG E k.toNat).f), .int .i64 ((atG E k.toNat).t), .int .i64 ((atG E k.toNat).p.e), .int .i64 ((atG E k.toNat).p.r)], .own (fpR (vs.set (((atG E k.toNat).t).toNat) nilV)) (RowsV 38 (vs.set (((atG E k.toNat).t).toNat) nilV) ((rowE E (rowP E n i.toNat r.toNat) k.toNat).set (((atG E k.toNat).t).toNat) [])), .blk g 44 (List.toArray (cV (A ++ (vs.set (((atG E k.toNat).t).toNat) v6) ++ C))), .arg 4 ev E.length (cG E)] := M
        replace M := M.putRow (i := 4) (k := 1) (j := ((atG E k.toNat).t).toNat) (l := (minL ((atR (rowE E (rowP E n i.toNat r.toNat) k.toNat) (((atG E k.toNat).t).toNat)) ++ (sumsP (atR (rowE E (rowP E n i.toNat r.toNat) k.toNat) (((atG E k.toNat).f).toNat)) [(atG E k.toNat).p])))) rfl rfl (by first | omega | (simp only [List.length_set, List.length_replicate]; omega))
        rw [List.set_set, List.set_set] at M
        replace M : Mm [g] w ω [.row 38 2 v4 ((sumsP (atR (rowE E (rowP E n i.toNat r.toNat) k.toNat) (((atG E k.toNat).f).toNat)) [(atG E k.toNat).p]).length) (cS (sumsP (atR (rowE E (rowP E n i.toNat r.toNat) k.toNat) (((atG E k.toNat).f).toNat)) [(atG E k.toNat).p])), .arg 1 (.slice none 0 0) 0 [], .row 38 2 v5 (((atR (rowE E (rowP E n i.toNat r.toNat) k.toNat) (((atG E k.toNat).t).toNat)) ++ (sumsP (atR (rowE E (rowP E n i.toNat r.toNat) k.toNat) (((atG E k.toNat).f).toNat)) [(atG E k.toNat).p])).length) (cS ((atR (rowE E (rowP E n i.toNat r.toNat) k.toNat) (((atG E k.toNat).t).toNat)) ++ (sumsP (atR (rowE E (rowP E n i.toNat r.toNat) k.toNat) (((atG E k.toNat).f).toNat)) [(atG E k.toNat).p]))), .blk g3 40 #[.int .i64 ((atG E k.toNat).f), .int .i64 ((atG E k.toNat).t), .int .i64 ((atG E k.toNat).p.e), .int .i64 ((atG E k.toNat).p.r)], .own (fpR (vs.set (((atG E k.toNat).t).toNat) v6)) (RowsV 38 (vs.set (((atG E k.toNat).t).toNat) v6) ((rowE E (rowP E n i.toNat r.toNat) k.toNat).set (((atG E k.toNat).t).toNat) (minL ((atR (rowE E (rowP E n i.toNat r.toNat) k.toNat) (((atG E k.toNat).t).toNat)) ++ (sumsP (atR (rowE E (rowP E n i.toNat r.toNat) k.toNat) (((atG E k.toNat).f).toNat)) [(atG E k.toNat).p]))))), .blk g 44 (List.toArray (cV (A ++ (vs.set (((atG E k.toNat).t).toNat) v6) ++ C))), .arg 4 ev E.length (cG E)] := M
        refine wpList_nil ?_
        refine nxb ?_
        refine nxq ?_
        -- region 7
        refine wp_region_lit ?_
        refine sq_pure F (wt0 rfl) (pu_add rfl (F.ev rfl) (evk) (by omega) (by omega)) rfl rfl ?_; clear F; intro φ F
        refine sq_pure F (wt0 rfl) (pu_move rfl (F.ev rfl)) rfl rfl ?_; clear F; intro φ F
        refine wpList_nil ?_
        exact ⟨k + 1, by omega, (vs.set (((atG E k.toNat).t).toNat) v6), (((((((F.nil.cons (F.get (k := 20) rfl)).cons (F.get (k := 19) rfl)).cons (F.get (k := 18) rfl)).cons (F.get (k := 16) rfl)).cons (F.get (k := 15) rfl)).cons (F.get (k := 2) rfl)).cons (F.get (k := 0) rfl)), (by rw [rowE_step hp3_0 (by omega)]; exact (M.sub (.cons _ (.cons _ (.cons _ (.cons _ (.cons_cons _ (.cons_cons _ (.cons_cons _ (.slnil)))))))))), by omega, by omega, (by rw [List.length_set]; exact hp3_2)⟩

set_option maxRecDepth 100000 in
set_option maxHeartbeats 4000000 in
theorem graph_closure_any (n : Int) (ev : Value) (E : List Ed) (w : World) (hr : RdG w ev E) (hlen : E.length ≤ 20000000) :
    Calls Try.prog 15 #[.agg #[.int .i64 n, ev]] w (MakesE w fun u x' => ∃ v rs vss, u = .tuple #[v, .int .i64 (cloG n E).2] ∧ x' = .own (fp3 v rs vss (cloG n E).1) (Rd3 v rs vss (cloG n E).1)) := by
  refine enterF Try.func15 rfl 62 Try.ntmps15 [.agg #[.int .i64 n, ev]] rfl [(0, .agg #[.int .i64 n, ev])] rfl ?_
  intro φ F
  have M := Mm.start [] w
  replace M := M.addArg (hr) (fun h_ => by first | (simp; done) | assumption | exact d3 h_ | (simp_all; done))
  refine wp_seq ?_
  -- region 0
  refine wp_region_lit ?_
  refine sq_box F M (wt0 rfl) rfl (F.ev rfl) (cs := #[.int .i64 n, ev]) rfl rfl rfl ?_; clear F M; intro φ ω g1 F M
  refine sq_pure F (wt0 rfl) (pu_assign rfl (evk)) rfl rfl ?_; clear F; intro φ F
  refine sq_pure F (wt0 rfl) (pu_assign rfl (evk)) rfl rfl ?_; clear F; intro φ F
  refine nx ?_
  refine wp_seq ?_
  refine wp_seq ?_
  -- region 1
  refine wp_region_lit ?_
  refine sq_rd F (wt0 rfl) (ld_agg rfl (F.ev rfl) agg24 (M.rd (i := 0) rfl) rfl) rfl rfl ?_; clear F; intro φ F
  refine sq_call F M (wt0 rfl) rfl en11 (evc (F.ev rfl) evn) (graph_check_any n ev E _ (M.av (i := 1) rfl) (by first | omega | (simp; done) | (simp; omega) | (refine Nat.le_trans (minL_len _) ?_; omega) | (refine Nat.le_trans (eachL_len _ _) ?_; omega))) rfl rfl ?_; clear F M; intro φ ω F M
  refine sq_pure F (wt0 rfl) (pu_move rfl (F.ev rfl)) rfl rfl ?_; clear F; intro φ F
  refine sq_pure F (wt0 rfl) (pu_extract rfl (F.ev rfl) rfl) rfl rfl ?_; clear F; intro φ F
  refine sq_pure F (wt0 rfl) (pu_extract rfl (F.ev rfl) rfl) rfl rfl ?_; clear F; intro φ F
  refine sq_pure F (wt0 rfl) (pu_assign rfl (F.ev rfl)) rfl rfl ?_; clear F; intro φ F
  refine sq_pure F (wt0 rfl) (pu_assign rfl (F.ev rfl)) rfl rfl ?_; clear F; intro φ F
  refine nx ?_
  refine wp_seq ?_
  -- region 2
  refine wp_region_lit ?_
  refine sq_pure F (wt0 rfl) (pu_move rfl (F.ev rfl)) rfl rfl ?_; clear F; intro φ F
  cases hs1 : (decide ((checkG n E).1 = 0))
  · skip
    have hs1i := of_decide_eq_false hs1
    refine sq_pure F (wt0 rfl) (pu_neqI rfl (F.ev rfl) (evk)) rfl rfl ?_; clear F; intro φ F
    rw [hs1, show (!false) = true from rfl] at F
    refine nx ?_
    refine wp_cond_true (F.ev rfl) ?_
    refine wp_seq ?_
    -- region 3
    refine wp_region_lit ?_
    refine sq_pure F (wt0 rfl) (pu_move rfl (F.ev rfl)) rfl rfl ?_; clear F; intro φ F
    refine sq_pure F (wt0 rfl) (pu_assign rfl (evk)) rfl rfl ?_; clear F; intro φ F
    refine sq_pure F (wt0 rfl) (pu_assign rfl (F.ev rfl)) rfl rfl ?_; clear F; intro φ F
    refine nx ?_
    refine wp_ret ?_
    refine nxr ?_
    refine rt_tmp2 F rfl rfl rfl ?_
    rw [clo_bad hs1i]
    exact ⟨_, .own (fp3 nilV [] [] []) (Rd3 nilV [] [] []), rfl, M.bel, ⟨rd3_nil _, Rd3.loc _ _ _ _⟩, (fun g hg => by cases hg), rfl, nilV, [], [], rfl, rfl⟩
  · skip
    have hs1i := of_decide_eq_true hs1
    refine sq_pure F (wt0 rfl) (pu_neqI rfl (F.ev rfl) (evk)) rfl rfl ?_; clear F; intro φ F
    rw [hs1, show (!true) = false from rfl] at F
    refine nx ?_
    refine wp_cond_false (F.ev rfl) ?_
    refine wp_skip ?_
    refine nxq ?_
    refine wp_seq ?_
    have hok : (checkG n E).1 = 0 := by have z := hs1; first | exact of_decide_eq_true z | omega | simpa using z
    obtain ⟨hn1, hn8, hE16, hfit, -, -⟩ := check_ok hok
    have hF : Fits ((n.toNat : Nat) : Int) E := by rw [show ((n.toNat : Nat) : Int) = n by omega]; exact hfit
    -- region 4
    refine wp_region_lit ?_
    refine sq_pure F (wt0 rfl) (pu_field rfl (F.ev rfl) fo24_0) rfl rfl ?_; clear F; intro φ F
    refine sq_rd F (wt0 rfl) (ld_cell rfl (F.ev rfl) one3 (M.rd (i := 0) rfl) rfl) rfl rfl ?_; clear F; intro φ F
    refine sq_pure F (wt0 rfl) (pu_assign rfl (F.ev rfl)) rfl rfl ?_; clear F; intro φ F
    refine nx ?_
    refine wp_seq ?_
    have hnn := mul_small (a := n) (b := n) (by omega) (by omega) (by omega) (by omega)
    -- region 5
    refine wp_region_lit ?_
    refine sq_pure F (wt0 rfl) (pu_move rfl (F.ev rfl)) rfl rfl ?_; clear F; intro φ F
    refine sq_pure F (wt0 rfl) (pu_move rfl (F.ev rfl)) rfl rfl ?_; clear F; intro φ F
    refine sq_pure F (wt0 rfl) (pu_mul rfl (F.ev rfl) (F.ev rfl) (by omega) (by omega)) rfl rfl ?_; clear F; intro φ F
    refine sq_make1 F M (wt0 rfl) rfl (F.ev rfl) (F.ev rfl) sl45.1 ((.slice none 0 0)) rfl mk44 (by omega) (by omega) (by omega) rfl rfl ?_; clear F M; intro φ ω g2 F M
    replace M : Mm [] w ω [.blk g2 44 (List.toArray (cV (List.replicate (n * n).toNat nilV))), .blk g1 24 #[.int .i64 n, ev], .arg 4 ev E.length (cG E)] := M
    replace M := M.rowsNew 38 (n * n).toNat
    replace M : Mm [] w ω [.own (fpR (List.replicate (n * n).toNat nilV)) (RowsV 38 (List.replicate (n * n).toNat nilV) (List.replicate (n * n).toNat [])), .blk g2 44 (List.toArray (cV (List.replicate (n * n).toNat nilV))), .blk g1 24 #[.int .i64 n, ev], .arg 4 ev E.length (cG E)] := M
    refine sq_pure F (wt0 rfl) (pu_assign rfl (F.ev rfl)) rfl rfl ?_; clear F; intro φ F
    refine nx ?_
    refine wp_seq ?_
    -- region 6
    refine wp_region_lit ?_
    refine sq_pure F (wt0 rfl) (pu_move rfl (F.ev rfl)) rfl rfl ?_; clear F; intro φ F
    refine sq_make1 F M (wt0 rfl) rfl (F.ev rfl) (F.ev rfl) sl32.1 ((.slice none 0 0)) rfl mk45 (by omega) (by omega) (by omega) rfl rfl ?_; clear F M; intro φ ω g3 F M
    replace M : Mm [] w ω [.blk g3 45 (List.toArray (cV (List.replicate n.toNat nilV))), .own (fpR (List.replicate (n * n).toNat nilV)) (RowsV 38 (List.replicate (n * n).toNat nilV) (List.replicate (n * n).toNat [])), .blk g2 44 (List.toArray (cV (List.replicate (n * n).toNat nilV))), .blk g1 24 #[.int .i64 n, ev], .arg 4 ev E.length (cG E)] := M
    refine sq_pure F (wt0 rfl) (pu_assign rfl (F.ev rfl)) rfl rfl ?_; clear F; intro φ F
    refine nx ?_
    refine wp_seq ?_
    refine wp_seq ?_
    -- region 7
    refine wp_region_lit ?_
    refine sq_pure F (wt0 rfl) (pu_move rfl (F.ev rfl)) rfl rfl ?_; clear F; intro φ F
    refine sq_pure F (wt0 rfl) (pu_len rfl (F.ev rfl) sl32 (blk_rdv (m := 1) (M.at (i := 0) rfl) (by first | rfl | assumption | (simp only [List.size_toArray, cB_len, cV, rsF_len, List.length_set, List.length_replicate, Nat.mul_one]; first | done | rfl | assumption | omega)) (by omega))) rfl rfl ?_; clear F; intro φ F
    refine sq_pure F (wt0 rfl) (pu_move rfl (evk)) rfl rfl ?_; clear F; intro φ F
    refine nx ?_
    refine wp_block ?_
    refine lp (σ := Int) (fun i φ' w' => ∃ vss : List (List Value), Fr φ' 62 [(1, .pointer (some ⟨g1, 0, none⟩)), (6, .int .i64 n), (7, (.slice (some ⟨g2, 0, none⟩) (n * n).toNat (n * n).toNat)), (8, (.slice (some ⟨g3, 0, none⟩) n.toNat n.toNat)), (26, (.slice (some ⟨g3, 0, none⟩) n.toNat n.toNat)), (27, .int .i64 ((n.toNat : Nat) : Int)), (28, .int .i64 i)] ∧ Mm [] w w' [.blk g2 44 (List.toArray (cV (vss.flatten ++ (List.replicate ((n.toNat - i.toNat) * n.toNat) nilV)))), .own (fpD vss (cloT E n.toNat i.toNat)) (DoneV vss (cloT E n.toNat i.toNat)), .blk g3 45 (List.toArray (cV (rsF g2 n.toNat i.toNat))), .blk g1 24 #[.int .i64 n, ev], .arg 4 ev E.length (cG E)] ∧ (0 ≤ i) ∧ (i ≤ n) ∧ (vss.length = i.toNat) ∧ (∀ u ∈ vss, u.length = n.toNat) ∧ (∀ p, p < i.toNat → ∀ q, (atR (rowM E n.toNat p n.toNat) q).length ≤ 64)) (fun i => (n - i).toNat) (0) ⟨([] : List (List Value)), (((((((F.nil.cons (F.get (k := 28) rfl)).cons (F.get (k := 27) rfl)).cons (F.get (k := 26) rfl)).cons (F.get (k := 8) rfl)).cons (F.get (k := 7) rfl)).cons (F.get (k := 6) rfl)).cons (F.get (k := 1) rfl)), (by have z := (M.sub (.cons_cons _ (.cons_cons _ (.cons_cons _ (.cons_cons _ (.cons_cons _ (.slnil))))))).done0; rw [(show List.replicate (n * n).toNat nilV = ([] : List (List Value)).flatten ++ (List.replicate ((n.toNat - (0 : Int).toNat) * n.toNat) nilV) by rw [mul_toNat (by omega) (by omega)]; simp), rsF_zero g2 n.toNat] at z; exact z), Int.le_refl _, by omega, rfl, (fun u hu => by cases hu), all_none⟩ ?_
    clear F M
    rintro i φ ω ⟨vss, F, M, hp2_0, hp2_1, hp2_2, hp2_3, hp2_4⟩
    refine wp_seq ?_
    -- region 8
    refine wp_region_lit ?_
    refine sq_pure F (wt0 rfl) (pu_lss rfl (F.ev rfl) (F.ev rfl)) rfl rfl ?_; clear F; intro φ F
    refine nx ?_
    refine wp_seq ?_
    cases hs3 : (decide (i < ((n.toNat : Nat) : Int)))
    · rw [hs3] at F
      have hs3i := of_decide_eq_false hs3
      refine wp_cond_false (F.ev rfl) ?_
      refine wp_exit ?_
      refine nxe ?_
      refine nxe ?_
      refine nxm ?_
      refine nxq ?_
      refine wp_seq ?_
      -- region 15
      refine wp_region_lit ?_
      refine sq_pure F (wt0 rfl) (pu_move rfl (F.ev rfl)) rfl rfl ?_; clear F; intro φ F
      refine sq_pure F (wt0 rfl) (pu_assign rfl (F.ev rfl)) rfl rfl ?_; clear F; intro φ F
      refine sq_pure F (wt0 rfl) (pu_assign rfl (evk)) rfl rfl ?_; clear F; intro φ F
      refine nx ?_
      refine wp_ret ?_
      refine rt_tmp2 F rfl rfl rfl ?_
      rw [clo_ok hok (fun p hp q hq => hp2_4 p (by omega) q)]
      have hin : i.toNat = n.toNat := by omega
      rw [hin] at M
      have z := rd3_tab M hp2_3 (cloT_len E n.toNat n.toNat) (by omega)
      exact ⟨_, .own (fp3 (.slice (some ⟨g3, 0, none⟩) n.toNat n.toNat) (rsF g2 n.toNat n.toNat) vss (cloT E n.toNat n.toNat)) (Rd3 (.slice (some ⟨g3, 0, none⟩) n.toNat n.toNat) (rsF g2 n.toNat n.toNat) vss (cloT E n.toNat n.toNat)), rfl, M.bel, ⟨z.1, Rd3.loc _ _ _ _⟩, (fun g hg => (z.2 g hg).elim id (fun h => by cases h)), rfl, (.slice (some ⟨g3, 0, none⟩) n.toNat n.toNat), rsF g2 n.toNat n.toNat, vss, rfl, rfl⟩
    · rw [hs3] at F
      have hs3i := of_decide_eq_true hs3
      refine wp_cond_true (F.ev rfl) ?_
      refine wp_skip ?_
      refine nxq ?_
      refine wp_seq ?_
      refine wp_block ?_
      refine wp_seq ?_
      -- region 9
      refine wp_region_lit ?_
      refine sq_pure F (wt0 rfl) (pu_move rfl (F.ev rfl)) rfl rfl ?_; clear F; intro φ F
      refine sq_pure F (wt0 rfl) (pu_assign rfl (F.ev rfl)) rfl rfl ?_; clear F; intro φ F
      refine nx ?_
      refine wp_seq ?_
      have hm1 := mul_small (a := i) (b := n) (by omega) (by omega) (by omega) (by omega)
      have hm2 := mul_small (a := i + 1) (b := n) (by omega) (by omega) (by omega) (by omega)
      have hw1 : (i * n).toNat = i.toNat * n.toNat := mul_toNat (by omega) (by omega)
      have hw2 : ((i + 1) * n).toNat = i.toNat * n.toNat + n.toNat := by rw [mul_toNat (by omega) (by omega), show (i + 1).toNat = i.toNat + 1 by omega, Nat.succ_mul]
      have hw3 : i.toNat * n.toNat + n.toNat ≤ (n * n).toNat := by rw [mul_toNat (by omega) (by omega), ← Nat.succ_mul]; exact Nat.mul_le_mul_right _ (by omega)
      have hfl : vss.flatten.length = i.toNat * n.toNat := by rw [flat_len hp2_3, hp2_2]
      have hrl := rsF_len g2 n.toNat i.toNat
      -- region 10
      refine wp_region_lit ?_
      refine sq_pure F (wt0 rfl) (pu_move rfl (F.ev rfl)) rfl rfl ?_; clear F; intro φ F
      refine sq_pure F (wt0 rfl) (pu_move rfl (F.ev rfl)) rfl rfl ?_; clear F; intro φ F
      refine sq_pure F (wt0 rfl) (pu_move rfl (F.ev rfl)) rfl rfl ?_; clear F; intro φ F
      refine sq_pure F (wt0 rfl) (pu_move rfl (F.ev rfl)) rfl rfl ?_; clear F; intro φ F
      refine sq_pure F (wt0 rfl) (pu_move rfl (F.ev rfl)) rfl rfl ?_; clear F; intro φ F
      refine sq_pure F (wt0 rfl) (pu_mul rfl (F.ev rfl) (F.ev rfl) (by omega) (by omega)) rfl rfl ?_; clear F; intro φ F
      refine sq_pure F (wt0 rfl) (pu_move rfl (F.ev rfl)) rfl rfl ?_; clear F; intro φ F
      refine sq_pure F (wt0 rfl) (pu_add rfl (F.ev rfl) (evk) (by omega) (by omega)) rfl rfl ?_; clear F; intro φ F
      refine sq_pure F (wt0 rfl) (pu_move rfl (F.ev rfl)) rfl rfl ?_; clear F; intro φ F
      refine sq_pure F (wt0 rfl) (pu_mul rfl (F.ev rfl) (F.ev rfl) (by omega) (by omega)) rfl rfl ?_; clear F; intro φ F
      refine sq_pure F (wt0 rfl) (pu_move rfl (F.ev rfl)) rfl rfl ?_; clear F; intro φ F
      refine sq_pure F (wt0 rfl) (pu_add rfl (F.ev rfl) (evk) (by omega) (by omega)) rfl rfl ?_; clear F; intro φ F
      refine sq_pure F (wt0 rfl) (pu_move rfl (F.ev rfl)) rfl rfl ?_; clear F; intro φ F
      refine sq_pure F (wt0 rfl) (pu_mul rfl (F.ev rfl) (F.ev rfl) (by omega) (by omega)) rfl rfl ?_; clear F; intro φ F
      refine sq_pure F (wt0 rfl) (pu_slice3 (s := i.toNat * n.toNat) (m := n.toNat) rfl (F.ev rfl) (F.ev rfl) (F.ev rfl) (F.ev rfl) sl45 (by omega) hw1 hw2 rfl (by omega) hw3) rfl rfl ?_; clear F; intro φ F
      refine sq_pure F (wt0 rfl) (pu_ix rfl (F.ev rfl) (F.ev rfl) sl32 (blk_rdv (m := 1) (M.at (i := 2) rfl) (by first | rfl | assumption | (simp only [List.size_toArray, cB_len, cV, rsF_len, List.length_set, List.length_replicate, Nat.mul_one]; first | done | rfl | assumption | omega)) (by omega)) (by omega) (by omega)) rfl rfl ?_; clear F; intro φ F
      refine sq_st1 (j := i.toNat) F M (wt0 rfl) rfl (F.ev rfl) (F.ev rfl) (i := 2) rfl (by simp only [cV]; omega) si45 rfl rfl rfl ?_; clear M; intro ω M
      rw [show (cV (rsF g2 n.toNat i.toNat)).set i.toNat (.slice (some ⟨g2, i.toNat * n.toNat, none⟩) n.toNat n.toNat) = cV (rsF g2 n.toNat (i + 1).toNat) from rsF_set (by omega) (by omega)] at M
      replace M : Mm [] w ω [.blk g2 44 (List.toArray (cV (vss.flatten ++ (List.replicate ((n.toNat - i.toNat) * n.toNat) nilV)))), .own (fpD vss (cloT E n.toNat i.toNat)) (DoneV vss (cloT E n.toNat i.toNat)), .blk g3 45 (List.toArray (cV (rsF g2 n.toNat (i + 1).toNat))), .blk g1 24 #[.int .i64 n, ev], .arg 4 ev E.length (cG E)] := M
      refine nx ?_
      refine wp_seq ?_
      have hrl2 := rsF_len g2 n.toNat (i + 1).toNat
      replace M := M.tabIn (k := 0) (A := vss.flatten) (n := n.toNat) (C := (List.replicate ((n.toNat - (i + 1).toNat) * n.toNat) nilV)) rfl 38 (by rw [rep_splitI (by omega) (by omega), ← List.append_assoc])
      replace M : Mm [] w ω [.own [g2] (TabV 44 38 g2 vss.flatten (List.replicate n.toNat nilV) (List.replicate ((n.toNat - (i + 1).toNat) * n.toNat) nilV) (List.replicate n.toNat [])), .own (fpD vss (cloT E n.toNat i.toNat)) (DoneV vss (cloT E n.toNat i.toNat)), .blk g3 45 (List.toArray (cV (rsF g2 n.toNat (i + 1).toNat))), .blk g1 24 #[.int .i64 n, ev], .arg 4 ev E.length (cG E)] := M
      -- region 11
      refine rg_heads0 F M 7 [.val ((.slice (some ⟨g3, 0, none⟩) n.toNat n.toNat)), .val (.int .i64 i), .val (.pointer (some ⟨gof (.slice (some ⟨g3, 0, none⟩) n.toNat n.toNat), oof (.slice (some ⟨g3, 0, none⟩) n.toNat n.toNat) + (i.toNat * 1), none⟩)), .val ((atV (rsF g2 n.toNat (i + 1).toNat) i.toNat)), .val (.int .i64 i), .val (.pointer (some ⟨g1, 1, none⟩)), .val (ev)] rfl mixedOK (by kernel_rfl) rfl rfl ⟨?_, ?_, ?_, ?_, ?_, ?_, ?_, trivial⟩ ?_
      · intro φ1 ω1 hb F1 hdep hold; have F := (F1.cons (F.was hold (s := 8) rfl rfl)); have M := M.below hb; exact ob_rd (wt0 rfl) (Pure.rdy (pu_move rfl (F.ev rfl))) rfl
      · intro φ1 ω1 hb F1 hdep hold; have F := (F1.cons (F.was hold (s := 9) rfl rfl)); have M := M.below hb; exact ob_rd (wt0 rfl) (Pure.rdy (pu_move rfl (F.ev rfl))) rfl
      · intro φ1 ω1 hb F1 hdep hold; have F := ((F1.cons (F1.dep hdep 0 (by kernel_rfl) rfl rfl rfl)).cons (F1.dep hdep 1 (by kernel_rfl) rfl rfl rfl)); have M := M.below hb; exact ob_rd (wt0 rfl) (Pure.rdy (pu_ix rfl (F.ev rfl) (F.ev rfl) sl32 (blk_rdv (m := 1) (M.at (i := 2) rfl) (by first | rfl | assumption | (simp only [List.size_toArray, cB_len, cV, rsF_len, List.length_set, List.length_replicate, Nat.mul_one]; first | done | rfl | assumption | omega)) (by omega)) (by omega) (by omega))) rfl
      · intro φ1 ω1 hb F1 hdep hold; have F := (F1.cons (F1.dep hdep 2 (by kernel_rfl) rfl rfl rfl)); have M := M.below hb; exact ob_rd (wt0 rfl) (ld_el1 rfl (F.ev rfl) one45 (fun _ e => e ▸ (blk_rdv (m := 1) (M.at (i := 2) rfl) (by first | rfl | assumption | (simp only [List.size_toArray, cB_len, cV, rsF_len, List.length_set, List.length_replicate, Nat.mul_one]; first | done | rfl | assumption | omega)) (by omega))) (by omega) (cV_at (L := (rsF g2 n.toNat (i + 1).toNat)) (by first | omega | (simp; done) | (simp; omega)))) rfl
      · intro φ1 ω1 hb F1 hdep hold; have F := (F1.cons (F.was hold (s := 9) rfl rfl)); have M := M.below hb; exact ob_rd (wt0 rfl) (Pure.rdy (pu_move rfl (F.ev rfl))) rfl
      · intro φ1 ω1 hb F1 hdep hold; have F := (F1.cons (F.was hold (s := 1) rfl rfl)); have M := M.below hb; exact ob_rd (wt0 rfl) (Pure.rdy (pu_field rfl (F.ev rfl) fo24_1)) rfl
      · intro φ1 ω1 hb F1 hdep hold; have F := (F1.cons (F1.dep hdep 5 (by kernel_rfl) rfl rfl rfl)); have M := M.below hb; exact ob_rd (wt0 rfl) (ld_cell rfl (F.ev rfl) one22 (M.rd (i := 3) rfl) rfl) rfl
      clear F M; intro φ ω F M
      simp only [headL, List.take_succ_cons, List.take_zero, HV.value] at F
      refine sq_callT (Z := (fun u x' => u = .tuple #[] ∧ ∃ V, V.length = n.toNat ∧ x' = .own (g2 :: fpR V) (TabV 44 38 g2 vss.flatten V (List.replicate ((n.toNat - (i + 1).toNat) * n.toNat) nilV) (rowM E n.toNat i.toNat n.toNat)))) F M (wt0 rfl) rfl en28 (evc (F.ev rfl) (evc (F.ev rfl) (evc (F.ev rfl) evn))) (i := 0) rfl ((by rw [show (atV (rsF g2 n.toNat (i + 1).toNat) i.toNat) = winV g2 (i.toNat * n.toNat) n.toNat from rsF_at (by omega) (by omega)]; exact spread_any n.toNat i g2 (i.toNat * n.toNat) ev E vss.flatten (List.replicate ((n.toNat - (i + 1).toNat) * n.toNat) nilV) _ hfl (by omega) hE16 (by omega) (by omega) hF (M.pv (i := 0) rfl) (M.av (i := 4) rfl) (arg_apart M (i := 4) (k := 0) rfl rfl (by simp)))) rfl rfl ?_; clear F M; rintro φ ω _ _ ⟨rfl, V1, hV1, rfl⟩ F M
      replace M : Mm [] w ω [.own (g2 :: fpR V1) (TabV 44 38 g2 vss.flatten V1 (List.replicate ((n.toNat - (i + 1).toNat) * n.toNat) nilV) (rowM E n.toNat i.toNat n.toNat)), .own (fpD vss (cloT E n.toNat i.toNat)) (DoneV vss (cloT E n.toNat i.toNat)), .blk g3 45 (List.toArray (cV (rsF g2 n.toNat (i + 1).toNat))), .blk g1 24 #[.int .i64 n, ev], .arg 4 ev E.length (cG E)] := M
      refine nx ?_
      refine wp_seq ?_
      -- region 12
      refine wp_region_lit ?_
      refine sq_pure F (wt0 rfl) (pu_move rfl (F.ev rfl)) rfl rfl ?_; clear F; intro φ F
      refine sq_pure F (wt0 rfl) (pu_move rfl (F.ev rfl)) rfl rfl ?_; clear F; intro φ F
      refine sq_pure F (wt0 rfl) (pu_ix rfl (F.ev rfl) (F.ev rfl) sl32 (blk_rdv (m := 1) (M.at (i := 2) rfl) (by first | rfl | assumption | (simp only [List.size_toArray, cB_len, cV, rsF_len, List.length_set, List.length_replicate, Nat.mul_one]; first | done | rfl | assumption | omega)) (by omega)) (by omega) (by omega)) rfl rfl ?_; clear F; intro φ F
      refine sq_rd F (wt0 rfl) (ld_el1 rfl (F.ev rfl) one45 (fun _ e => e ▸ (blk_rdv (m := 1) (M.at (i := 2) rfl) (by first | rfl | assumption | (simp only [List.size_toArray, cB_len, cV, rsF_len, List.length_set, List.length_replicate, Nat.mul_one]; first | done | rfl | assumption | omega)) (by omega))) (by omega) (cV_at (L := (rsF g2 n.toNat (i + 1).toNat)) (by first | omega | (simp; done) | (simp; omega)))) rfl rfl ?_; clear F; intro φ F
      refine sq_call F M (wt0 rfl) rfl en29 (evc (F.ev rfl) evn) (overfull_any V1 (rowM E n.toNat i.toNat n.toNat) (atV (rsF g2 n.toNat (i + 1).toNat) i.toNat) _ (by rw [show (atV (rsF g2 n.toNat (i + 1).toNat) i.toNat) = winV g2 (i.toNat * n.toNat) n.toNat from rsF_at (by omega) (by omega), hV1]; exact TabV.rd (M.pv (i := 0) rfl) hfl hV1 (by omega)) (TabV.rows (M.pv (i := 0) rfl)).len (fun j hj => (TabV.rows (M.pv (i := 0) rfl)).rd hj) (by omega)) rfl rfl ?_; clear F M; intro φ ω F M
      refine nx ?_
      cases hs4 : (overB (rowM E n.toNat i.toNat n.toNat))
      · rw [hs4] at F
        refine wp_cond_false (F.ev rfl) ?_
        refine wp_skip ?_
        refine nxb ?_
        refine nxq ?_
        -- region 14
        refine wp_region_lit ?_
        refine sq_pure F (wt0 rfl) (pu_add rfl (F.ev rfl) (evk) (by omega) (by omega)) rfl rfl ?_; clear F; intro φ F
        refine sq_pure F (wt0 rfl) (pu_move rfl (F.ev rfl)) rfl rfl ?_; clear F; intro φ F
        refine wpList_nil ?_
        exact ⟨i + 1, by omega, (vss ++ [V1]), (((((((F.nil.cons (F.get (k := 28) rfl)).cons (F.get (k := 27) rfl)).cons (F.get (k := 26) rfl)).cons (F.get (k := 8) rfl)).cons (F.get (k := 7) rfl)).cons (F.get (k := 6) rfl)).cons (F.get (k := 1) rfl)), (by have z := (M.sub (.cons_cons _ (.cons_cons _ (.cons_cons _ (.cons_cons _ (.cons_cons _ (.slnil))))))).tabOut; rw [flat_push, cloT_succ hp2_0] at z; exact z), by omega, by omega, (by rw [List.length_append, hp2_2, List.length_singleton]; omega), (all_push hp2_3 hV1), (all_succ hp2_4 hp2_0 (over_no hs4))⟩
      · rw [hs4] at F
        refine wp_cond_true (F.ev rfl) ?_
        refine wp_seq ?_
        -- region 13
        refine wp_region_lit ?_
        refine sq_pure F (wt0 rfl) (pu_assign rfl (evk)) rfl rfl ?_; clear F; intro φ F
        refine sq_pure F (wt0 rfl) (pu_assign rfl (evk)) rfl rfl ?_; clear F; intro φ F
        refine nx ?_
        refine wp_ret ?_
        refine nxrb ?_
        refine nxr ?_
        refine nxr ?_
        refine nxrb ?_
        refine nxr ?_
        refine rt_tmp2 F rfl rfl rfl ?_
        obtain ⟨jj, hj1, hj2⟩ := over_yes hs4
        rw [row_len] at hj1
        rw [clo_full (i := i.toNat) (j := jj) hok (by omega) hj1 hj2]
        exact ⟨_, .own (fp3 nilV [] [] []) (Rd3 nilV [] [] []), rfl, M.bel, ⟨rd3_nil _, Rd3.loc _ _ _ _⟩, (fun g hg => by cases hg), rfl, nilV, [], [], rfl, rfl⟩

end Go.Proofs.Ytbleefegobmboaa
