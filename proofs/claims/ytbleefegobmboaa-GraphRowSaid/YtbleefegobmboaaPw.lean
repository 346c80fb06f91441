/- Package path. Made by walks/path.py. -/
import Derived.Test.YtbleefegobmboaaRp
import Derived.Test.YtbleefegobmboaaAn
import Derived.Test.YtbleefegobmboaaMk
namespace Go.Proofs.Ytbleefegobmboaa
open Go.RowKit
set_option maxRecDepth 100000
set_option linter.unusedSimpArgs false
set_option linter.unusedVariables false

theorem zel38 : (Try.prog.info? 38).map (fun i => (i.zero, i.size, i.bytes)) = some (some (.agg #[.int .i64 0, .int .i64 0]), 2, 16) := by kernel_rfl
set_option maxHeartbeats 1000000 in
theorem as_stamps_any (L : List St) (v : Value) (w : World) (hr : RdS w v L) (hlen : L.length ≤ 20000000) :
    Calls Try.prog 53 #[v] w (fun e w' => ∃ v, e = .returned v ∧ Below w.heap.size w w' ∧ w'.ownsRow w.heap.size 50 2 v (L).length (cS (L))) := by
  refine enterF Try.func53 rfl 22 Try.ntmps53 [v] rfl [(0, v)] rfl ?_
  intro φ F
  have M := Mm.start [] w
  replace M := M.addArg (hr) (fun h_ => by first | (simp; done) | assumption | exact d3 h_ | (simp_all; done))
  refine wp_seq ?_
  -- region 0
  refine wp_region_lit ?_
  refine sq_pure F (wt0 rfl) (pu_assign rfl (evk)) rfl rfl ?_; clear F; intro φ F
  refine nx ?_
  refine wp_seq ?_
  -- region 1
  refine wp_region_lit ?_
  refine sq_pure F (wt0 rfl) (pu_move rfl (F.ev rfl)) rfl rfl ?_; clear F; intro φ F
  refine sq_pure F (wt0 rfl) (pu_len rfl (F.ev rfl) sl71 (M.av (i := 0) rfl)) rfl rfl ?_; clear F; intro φ F
  refine sq_makeS F M (wt0 rfl) rfl (F.ev rfl) (F.ev rfl) sl76.1 zel50 hlen rfl rfl ?_; clear F M; intro φ ω g1 F M
  refine sq_pure F (wt0 rfl) (pu_assign rfl (F.ev rfl)) rfl rfl ?_; clear F; intro φ F
  refine nx ?_
  refine wp_seq ?_
  refine wp_seq ?_
  -- region 2
  refine wp_region_lit ?_
  refine sq_pure F (wt0 rfl) (pu_move rfl (F.ev rfl)) rfl rfl ?_; clear F; intro φ F
  refine sq_pure F (wt0 rfl) (pu_len rfl (F.ev rfl) sl71 (M.av (i := 1) rfl)) rfl rfl ?_; clear F; intro φ F
  refine sq_pure F (wt0 rfl) (pu_move rfl (evk)) rfl rfl ?_; clear F; intro φ F
  refine nx ?_
  refine wp_block ?_
  refine lp (σ := Int) (fun i φ' w' => ∃ K : List St, Fr φ' 22 [(3, (.slice (some ⟨g1, 0, none⟩) L.length L.length)), (9, v), (10, .int .i64 ((L.length : Nat) : Int)), (11, .int .i64 i)] ∧ Mm [] w w' [.blk g1 50 (cL K), .arg 2 v L.length (cS L)] ∧ (0 ≤ i) ∧ (i ≤ ((L.length : Nat) : Int)) ∧ (K.length = L.length) ∧ (∀ k, k < i.toNat → atS K k = atS L k)) (fun i => (((L.length : Nat) : Int) - i).toNat) (0) ⟨(List.replicate L.length St.zero), ((((F.nil.cons (F.get (k := 11) rfl)).cons (F.get (k := 10) rfl)).cons (F.get (k := 9) rfl)).cons (F.get (k := 3) rfl)), M, Int.le_refl _, by omega, List.length_replicate, fun k hk => absurd hk (by simp)⟩ ?_
  clear F M
  rintro i φ ω ⟨K, F, M, hp1_0, hp1_1, hp1_2, hp1_3⟩
  refine wp_seq ?_
  -- region 3
  refine wp_region_lit ?_
  refine sq_pure F (wt0 rfl) (pu_lss rfl (F.ev rfl) (F.ev rfl)) rfl rfl ?_; clear F; intro φ F
  refine nx ?_
  refine wp_seq ?_
  cases hs2 : (decide (i < ((L.length : Nat) : Int)))
  · rw [hs2] at F
    have hs2i := of_decide_eq_false hs2
    refine wp_cond_false (F.ev rfl) ?_
    refine wp_exit ?_
    refine nxe ?_
    refine nxe ?_
    refine nxm ?_
    refine nxq ?_
    refine wp_seq ?_
    -- region 7
    refine wp_region_lit ?_
    refine sq_pure F (wt0 rfl) (pu_move rfl (F.ev rfl)) rfl rfl ?_; clear F; intro φ F
    refine sq_pure F (wt0 rfl) (pu_assign rfl (F.ev rfl)) rfl rfl ?_; clear F; intro φ F
    refine nx ?_
    refine wp_ret ?_
    refine rt_tmp F rfl rfl ?_
    have ze := eq_of_at (i := i.toNat) hp1_2 (by omega) hp1_3
    subst ze
    exact ⟨_, rfl, M.bel, (M.blkRow (i := 0) rfl rfl (by omega)).owB (i := 0) rfl⟩
  · rw [hs2] at F
    have hs2i := of_decide_eq_true hs2
    refine wp_cond_true (F.ev rfl) ?_
    refine wp_skip ?_
    refine nxq ?_
    refine wp_seq ?_
    refine wp_block ?_
    refine wp_seq ?_
    -- region 4
    refine wp_region_lit ?_
    refine sq_pure F (wt0 rfl) (pu_move rfl (F.ev rfl)) rfl rfl ?_; clear F; intro φ F
    refine sq_pure F (wt0 rfl) (pu_ix rfl (F.ev rfl) (F.ev rfl) sl71 (M.av (i := 1) rfl) (by omega) (by omega)) rfl rfl ?_; clear F; intro φ F
    refine sq_rd F (wt0 rfl) (ld_el rfl (F.ev rfl) agg38 (fun _ e => e ▸ (M.av (i := 1) rfl)) (by omega) (cS_at (by first | omega | (simp; done) | (simp; omega))) rfl) rfl rfl ?_; clear F; intro φ F
    refine sq_alloc F M (wt0 rfl) rfl z38 rfl rfl ?_; clear F M; intro φ ω g2 F M
    refine sq_pure F (wt0 rfl) (pu_assign rfl (F.ev rfl)) rfl rfl ?_; clear F; intro φ F
    refine sq_stA F M (wt0 rfl) rfl (F.ev rfl) (F.ev rfl) (i := 0) rfl agg38 rfl rfl rfl rfl ?_; clear M; intro ω M
    refine nx ?_
    -- region 5
    refine wp_region_lit ?_
    refine sq_pure F (wt0 rfl) (pu_move rfl (F.ev rfl)) rfl rfl ?_; clear F; intro φ F
    refine sq_pure F (wt0 rfl) (pu_move rfl (F.ev rfl)) rfl rfl ?_; clear F; intro φ F
    refine sq_rd F (wt0 rfl) (ld_agg rfl (F.ev rfl) agg38 (M.rd (i := 0) rfl) rfl) rfl rfl ?_; clear F; intro φ F
    refine sq_pure F (wt0 rfl) (pu_ix rfl (F.ev rfl) (F.ev rfl) sl76 (blk_rdS (M.at (i := 1) rfl) (by first | assumption | (simp only [List.length_set]; assumption)) (by omega)) (by omega) (by omega)) rfl rfl ?_; clear F; intro φ F
    refine sq_stL (s := (atS L i.toNat)) (j := i.toNat) F M (wt0 rfl) rfl (F.ev rfl) (F.ev rfl) (i := 1) rfl (by have := hp1_2; omega) agg50 rfl ?_; clear M; intro ω M
    refine wpList_nil ?_
    refine nxb ?_
    refine nxq ?_
    -- region 6
    refine wp_region_lit ?_
    refine sq_pure F (wt0 rfl) (pu_add rfl (F.ev rfl) (evk) (by omega) (by omega)) rfl rfl ?_; clear F; intro φ F
    refine sq_pure F (wt0 rfl) (pu_move rfl (F.ev rfl)) rfl rfl ?_; clear F; intro φ F
    refine wpList_nil ?_
    exact ⟨i + 1, by omega, (K.set i.toNat (atS L i.toNat)), ((((F.nil.cons (F.get (k := 11) rfl)).cons (F.get (k := 10) rfl)).cons (F.get (k := 9) rfl)).cons (F.get (k := 3) rfl)), (M.sub (.cons _ (List.Sublist.refl _))), by omega, by omega, by rw [List.length_set]; assumption, by rw [show (i + 1).toNat = i.toNat + 1 by omega]; exact set_same hp1_2 (by omega) hp1_3⟩

set_option maxHeartbeats 1000000 in
theorem as_paths_any (L : List St) (v : Value) (w : World) (hr : RdS w v L) (hlen : L.length ≤ 20000000) :
    Calls Try.prog 51 #[v] w (fun e w' => ∃ v, e = .returned v ∧ Below w.heap.size w w' ∧ w'.ownsRow w.heap.size 38 2 v (L).length (cS (L))) := by
  refine enterF Try.func51 rfl 22 Try.ntmps51 [v] rfl [(0, v)] rfl ?_
  intro φ F
  have M := Mm.start [] w
  replace M := M.addArg (hr) (fun h_ => by first | (simp; done) | assumption | exact d3 h_ | (simp_all; done))
  refine wp_seq ?_
  -- region 0
  refine wp_region_lit ?_
  refine sq_pure F (wt0 rfl) (pu_assign rfl (evk)) rfl rfl ?_; clear F; intro φ F
  refine nx ?_
  refine wp_seq ?_
  -- region 1
  refine wp_region_lit ?_
  refine sq_pure F (wt0 rfl) (pu_move rfl (F.ev rfl)) rfl rfl ?_; clear F; intro φ F
  refine sq_pure F (wt0 rfl) (pu_len rfl (F.ev rfl) sl76 (M.av (i := 0) rfl)) rfl rfl ?_; clear F; intro φ F
  refine sq_makeS F M (wt0 rfl) rfl (F.ev rfl) (F.ev rfl) sl71.1 zel38 hlen rfl rfl ?_; clear F M; intro φ ω g1 F M
  refine sq_pure F (wt0 rfl) (pu_assign rfl (F.ev rfl)) rfl rfl ?_; clear F; intro φ F
  refine nx ?_
  refine wp_seq ?_
  refine wp_seq ?_
  -- region 2
  refine wp_region_lit ?_
  refine sq_pure F (wt0 rfl) (pu_move rfl (F.ev rfl)) rfl rfl ?_; clear F; intro φ F
  refine sq_pure F (wt0 rfl) (pu_len rfl (F.ev rfl) sl76 (M.av (i := 1) rfl)) rfl rfl ?_; clear F; intro φ F
  refine sq_pure F (wt0 rfl) (pu_move rfl (evk)) rfl rfl ?_; clear F; intro φ F
  refine nx ?_
  refine wp_block ?_
  refine lp (σ := Int) (fun i φ' w' => ∃ K : List St, Fr φ' 22 [(3, (.slice (some ⟨g1, 0, none⟩) L.length L.length)), (9, v), (10, .int .i64 ((L.length : Nat) : Int)), (11, .int .i64 i)] ∧ Mm [] w w' [.blk g1 38 (cL K), .arg 2 v L.length (cS L)] ∧ (0 ≤ i) ∧ (i ≤ ((L.length : Nat) : Int)) ∧ (K.length = L.length) ∧ (∀ k, k < i.toNat → atS K k = atS L k)) (fun i => (((L.length : Nat) : Int) - i).toNat) (0) ⟨(List.replicate L.length St.zero), ((((F.nil.cons (F.get (k := 11) rfl)).cons (F.get (k := 10) rfl)).cons (F.get (k := 9) rfl)).cons (F.get (k := 3) rfl)), M, Int.le_refl _, by omega, List.length_replicate, fun k hk => absurd hk (by simp)⟩ ?_
  clear F M
  rintro i φ ω ⟨K, F, M, hp1_0, hp1_1, hp1_2, hp1_3⟩
  refine wp_seq ?_
  -- region 3
  refine wp_region_lit ?_
  refine sq_pure F (wt0 rfl) (pu_lss rfl (F.ev rfl) (F.ev rfl)) rfl rfl ?_; clear F; intro φ F
  refine nx ?_
  refine wp_seq ?_
  cases hs2 : (decide (i < ((L.length : Nat) : Int)))
  · rw [hs2] at F
    have hs2i := of_decide_eq_false hs2
    refine wp_cond_false (F.ev rfl) ?_
    refine wp_exit ?_
    refine nxe ?_
    refine nxe ?_
    refine nxm ?_
    refine nxq ?_
    refine wp_seq ?_
    -- region 7
    refine wp_region_lit ?_
    refine sq_pure F (wt0 rfl) (pu_move rfl (F.ev rfl)) rfl rfl ?_; clear F; intro φ F
    refine sq_pure F (wt0 rfl) (pu_assign rfl (F.ev rfl)) rfl rfl ?_; clear F; intro φ F
    refine nx ?_
    refine wp_ret ?_
    refine rt_tmp F rfl rfl ?_
    have ze := eq_of_at (i := i.toNat) hp1_2 (by omega) hp1_3
    subst ze
    exact ⟨_, rfl, M.bel, (M.blkRow (i := 0) rfl rfl (by omega)).owB (i := 0) rfl⟩
  · rw [hs2] at F
    have hs2i := of_decide_eq_true hs2
    refine wp_cond_true (F.ev rfl) ?_
    refine wp_skip ?_
    refine nxq ?_
    refine wp_seq ?_
    refine wp_block ?_
    refine wp_seq ?_
    -- region 4
    refine wp_region_lit ?_
    refine sq_pure F (wt0 rfl) (pu_move rfl (F.ev rfl)) rfl rfl ?_; clear F; intro φ F
    refine sq_pure F (wt0 rfl) (pu_ix rfl (F.ev rfl) (F.ev rfl) sl76 (M.av (i := 1) rfl) (by omega) (by omega)) rfl rfl ?_; clear F; intro φ F
    refine sq_rd F (wt0 rfl) (ld_el rfl (F.ev rfl) agg50 (fun _ e => e ▸ (M.av (i := 1) rfl)) (by omega) (cS_at (by first | omega | (simp; done) | (simp; omega))) rfl) rfl rfl ?_; clear F; intro φ F
    refine sq_alloc F M (wt0 rfl) rfl z50 rfl rfl ?_; clear F M; intro φ ω g2 F M
    refine sq_pure F (wt0 rfl) (pu_assign rfl (F.ev rfl)) rfl rfl ?_; clear F; intro φ F
    refine sq_stA F M (wt0 rfl) rfl (F.ev rfl) (F.ev rfl) (i := 0) rfl agg50 rfl rfl rfl rfl ?_; clear M; intro ω M
    refine nx ?_
    -- region 5
    refine wp_region_lit ?_
    refine sq_pure F (wt0 rfl) (pu_move rfl (F.ev rfl)) rfl rfl ?_; clear F; intro φ F
    refine sq_pure F (wt0 rfl) (pu_move rfl (F.ev rfl)) rfl rfl ?_; clear F; intro φ F
    refine sq_rd F (wt0 rfl) (ld_agg rfl (F.ev rfl) agg50 (M.rd (i := 0) rfl) rfl) rfl rfl ?_; clear F; intro φ F
    refine sq_pure F (wt0 rfl) (pu_ix rfl (F.ev rfl) (F.ev rfl) sl71 (blk_rdS (M.at (i := 1) rfl) (by first | assumption | (simp only [List.length_set]; assumption)) (by omega)) (by omega) (by omega)) rfl rfl ?_; clear F; intro φ F
    refine sq_stL (s := (atS L i.toNat)) (j := i.toNat) F M (wt0 rfl) rfl (F.ev rfl) (F.ev rfl) (i := 1) rfl (by have := hp1_2; omega) agg38 rfl ?_; clear M; intro ω M
    refine wpList_nil ?_
    refine nxb ?_
    refine nxq ?_
    -- region 6
    refine wp_region_lit ?_
    refine sq_pure F (wt0 rfl) (pu_add rfl (F.ev rfl) (evk) (by omega) (by omega)) rfl rfl ?_; clear F; intro φ F
    refine sq_pure F (wt0 rfl) (pu_move rfl (F.ev rfl)) rfl rfl ?_; clear F; intro φ F
    refine wpList_nil ?_
    exact ⟨i + 1, by omega, (K.set i.toNat (atS L i.toNat)), ((((F.nil.cons (F.get (k := 11) rfl)).cons (F.get (k := 10) rfl)).cons (F.get (k := 9) rfl)).cons (F.get (k := 3) rfl)), (M.sub (.cons _ (List.Sublist.refl _))), by omega, by omega, by rw [List.length_set]; assumption, by rw [show (i + 1).toNat = i.toNat + 1 by omega]; exact set_same hp1_2 (by omega) hp1_3⟩

set_option maxHeartbeats 1000000 in
theorem least_any (L : List St) (v : Value) (w : World) (hr : RdS w v L) (hlen : L.length ≤ 20000000) :
    Calls Try.prog 45 #[v] w (fun e w' => ∃ v, e = .returned v ∧ Below w.heap.size w w' ∧ w'.ownsRow w.heap.size 38 2 v (minL L).length (cS (minL L))) := by
  have zl := minL_len L
  refine enterF Try.func45 rfl 7 Try.ntmps45 [v] rfl [(0, v)] rfl ?_
  intro φ F
  have M := Mm.start [] w
  replace M := M.addArg (hr) (fun h_ => by first | (simp; done) | assumption | exact d3 h_ | (simp_all; done))
  refine wp_seq ?_
  -- region 0
  refine wp_region_lit ?_
  refine sq_pure F (wt0 rfl) (pu_assign rfl (evk)) rfl rfl ?_; clear F; intro φ F
  refine nx ?_
  refine wp_seq ?_
  -- region 1
  refine wp_region_lit ?_
  refine sq_pure F (wt0 rfl) (pu_move rfl (F.ev rfl)) rfl rfl ?_; clear F; intro φ F
  refine sq_callN F M (wt0 rfl) rfl en53 (evc (F.ev rfl) evn) (as_stamps_any L _ _ (M.av (i := 0) rfl) (by first | omega | (simp; done) | (simp; omega) | (refine Nat.le_trans (minL_len _) ?_; omega) | (refine Nat.le_trans (eachL_len _ _) ?_; omega))) rfl rfl ?_; clear F M; intro φ ω v1 F M
  refine sq_callN F M (wt0 rfl) rfl en52 (evc (F.ev rfl) evn) (min_any (L) _ _ (M.rv (i := 0) rfl) (by first | omega | (simp; done) | (simp; omega) | (refine Nat.le_trans (minL_len _) ?_; omega) | (refine Nat.le_trans (eachL_len _ _) ?_; omega))) rfl rfl ?_; clear F M; intro φ ω v2 F M
  refine sq_callN F M (wt0 rfl) rfl en51 (evc (F.ev rfl) evn) (as_paths_any (minL (L)) _ _ (M.rv (i := 0) rfl) (by first | omega | (simp; done) | (simp; omega) | (refine Nat.le_trans (minL_len _) ?_; omega) | (refine Nat.le_trans (eachL_len _ _) ?_; omega))) rfl rfl ?_; clear F M; intro φ ω v3 F M
  refine sq_pure F (wt0 rfl) (pu_assign rfl (F.ev rfl)) rfl rfl ?_; clear F; intro φ F
  refine nx ?_
  refine wp_ret ?_
  refine rt_tmp F rfl rfl ?_
  exact ⟨_, rfl, M.bel, M.owB (i := 0) rfl⟩

set_option maxHeartbeats 1000000 in
theorem path_right_any (p : St) (w : World) :
    Calls Try.prog 25 #[.agg #[.int .i64 p.e, .int .i64 p.r]] w (fun e w' => e = .returned ((.bool p.rightB)) ∧ Below w.heap.size w w') := by
  refine enterF Try.func25 rfl 5 Try.ntmps25 [.agg #[.int .i64 p.e, .int .i64 p.r]] rfl [(0, .agg #[.int .i64 p.e, .int .i64 p.r])] rfl ?_
  intro φ F
  have M := Mm.start [] w
  refine wp_seq ?_
  -- region 0
  refine wp_region_lit ?_
  refine sq_box F M (wt0 rfl) rfl (F.ev rfl) (cs := #[.int .i64 p.e, .int .i64 p.r]) rfl rfl rfl ?_; clear F M; intro φ ω g1 F M
  refine sq_pure F (wt0 rfl) (pu_assign rfl (evk)) rfl rfl ?_; clear F; intro φ F
  refine nx ?_
  refine wp_seq ?_
  -- region 1
  refine wp_region_lit ?_
  refine sq_rd F (wt0 rfl) (ld_agg rfl (F.ev rfl) agg38 (M.rd (i := 0) rfl) rfl) rfl rfl ?_; clear F; intro φ F
  refine sq_call F M (wt0 rfl) rfl en34 (evc (F.ev rfl) evn) (right_any p _) rfl rfl ?_; clear F M; intro φ ω F M
  refine sq_pure F (wt0 rfl) (pu_assign rfl (F.ev rfl)) rfl rfl ?_; clear F; intro φ F
  refine nx ?_
  refine wp_ret ?_
  refine rt_tmp F rfl rfl ?_
  exact ⟨rfl, M.bel⟩

set_option maxHeartbeats 1000000 in
theorem path_then_any (p q : St) (w : World) :
    Calls Try.prog 46 #[.agg #[.int .i64 p.e, .int .i64 p.r], .agg #[.int .i64 q.e, .int .i64 q.r]] w (fun e w' => e = .returned ((.tuple #[.agg #[.int .i64 (p.after q).e, .int .i64 (p.after q).r], .bool (p.afterB q)])) ∧ Below w.heap.size w w') := by
  refine enterF Try.func46 rfl 16 Try.ntmps46 [.agg #[.int .i64 p.e, .int .i64 p.r], .agg #[.int .i64 q.e, .int .i64 q.r]] rfl [(0, .agg #[.int .i64 p.e, .int .i64 p.r]), (1, .agg #[.int .i64 q.e, .int .i64 q.r])] rfl ?_
  intro φ F
  have M := Mm.start [] w
  refine wp_seq ?_
  -- region 0
  refine wp_region_lit ?_
  refine sq_box F M (wt0 rfl) rfl (F.ev rfl) (cs := #[.int .i64 p.e, .int .i64 p.r]) rfl rfl rfl ?_; clear F M; intro φ ω g1 F M
  refine sq_box F M (wt0 rfl) rfl (F.ev rfl) (cs := #[.int .i64 q.e, .int .i64 q.r]) rfl rfl rfl ?_; clear F M; intro φ ω g2 F M
  refine sq_alloc F M (wt0 rfl) rfl z38 rfl rfl ?_; clear F M; intro φ ω g3 F M
  refine sq_pure F (wt0 rfl) (pu_assign rfl (evk)) rfl rfl ?_; clear F; intro φ F
  refine nx ?_
  refine wp_seq ?_
  -- region 1
  refine wp_region_lit ?_
  refine sq_rd F (wt0 rfl) (ld_agg rfl (F.ev rfl) agg38 (M.rd (i := 2) rfl) rfl) rfl rfl ?_; clear F; intro φ F
  refine sq_rd F (wt0 rfl) (ld_agg rfl (F.ev rfl) agg38 (M.rd (i := 1) rfl) rfl) rfl rfl ?_; clear F; intro φ F
  refine sq_call F M (wt0 rfl) rfl en54 (evc (F.ev rfl) (evc (F.ev rfl) evn)) (after_any p q _) rfl rfl ?_; clear F M; intro φ ω F M
  refine sq_pure F (wt0 rfl) (pu_move rfl (F.ev rfl)) rfl rfl ?_; clear F; intro φ F
  refine sq_pure F (wt0 rfl) (pu_extract rfl (F.ev rfl) rfl) rfl rfl ?_; clear F; intro φ F
  refine sq_pure F (wt0 rfl) (pu_extract rfl (F.ev rfl) rfl) rfl rfl ?_; clear F; intro φ F
  refine sq_alloc F M (wt0 rfl) rfl z50 rfl rfl ?_; clear F M; intro φ ω g4 F M
  refine sq_stA F M (wt0 rfl) rfl (F.ev rfl) (F.ev rfl) (i := 0) rfl agg50 rfl rfl rfl rfl ?_; clear M; intro ω M
  refine sq_pure F (wt0 rfl) (pu_assign rfl (F.ev rfl)) rfl rfl ?_; clear F; intro φ F
  refine nx ?_
  refine wp_seq ?_
  -- region 2
  refine wp_region_lit ?_
  refine sq_rd F (wt0 rfl) (ld_agg rfl (F.ev rfl) agg50 (M.rd (i := 0) rfl) rfl) rfl rfl ?_; clear F; intro φ F
  refine sq_pure F (wt0 rfl) (pu_move rfl (F.ev rfl)) rfl rfl ?_; clear F; intro φ F
  refine sq_stA F M (wt0 rfl) rfl (F.ev rfl) (F.ev rfl) (i := 1) rfl agg38 rfl rfl rfl rfl ?_; clear M; intro ω M
  refine sq_pure F (wt0 rfl) (pu_assign rfl (F.ev rfl)) rfl rfl ?_; clear F; intro φ F
  refine nx ?_
  refine wp_ret ?_
  refine rt_cell_tmp F M rfl rfl rfl (i := 1) rfl agg38 rfl ?_
  exact ⟨rfl, M.bel⟩

set_option maxHeartbeats 1000000 in
theorem path_min_any (L : List St) (v : Value) (w : World) (hr : RdS w v L) (hlen : L.length ≤ 20000000) :
    Calls Try.prog 37 #[v] w (fun e w' => ∃ v, e = .returned v ∧ Below w.heap.size w w' ∧ w'.ownsRow w.heap.size 38 2 v (minL L).length (cS (minL L))) := by
  refine enterF Try.func37 rfl 5 Try.ntmps37 [v] rfl [(0, v)] rfl ?_
  intro φ F
  have M := Mm.start [] w
  replace M := M.addArg (hr) (fun h_ => by first | (simp; done) | assumption | exact d3 h_ | (simp_all; done))
  refine wp_seq ?_
  -- region 0
  refine wp_region_lit ?_
  refine sq_pure F (wt0 rfl) (pu_assign rfl (evk)) rfl rfl ?_; clear F; intro φ F
  refine nx ?_
  refine wp_seq ?_
  -- region 1
  refine wp_region_lit ?_
  refine sq_pure F (wt0 rfl) (pu_move rfl (F.ev rfl)) rfl rfl ?_; clear F; intro φ F
  refine sq_callN F M (wt0 rfl) rfl en45 (evc (F.ev rfl) evn) (least_any L _ _ (M.av (i := 0) rfl) (by first | omega | (simp; done) | (simp; omega) | (refine Nat.le_trans (minL_len _) ?_; omega) | (refine Nat.le_trans (eachL_len _ _) ?_; omega))) rfl rfl ?_; clear F M; intro φ ω v1 F M
  refine sq_pure F (wt0 rfl) (pu_assign rfl (F.ev rfl)) rfl rfl ?_; clear F; intro φ F
  refine nx ?_
  refine wp_ret ?_
  refine rt_tmp F rfl rfl ?_
  exact ⟨_, rfl, M.bel, M.owB (i := 0) rfl⟩

end Go.Proofs.Ytbleefegobmboaa
