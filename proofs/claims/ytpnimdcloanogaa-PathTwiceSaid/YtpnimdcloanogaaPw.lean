/- Package path. Made by walks/path.py. -/
import Derived.Test.YtpnimdcloanogaaRp
import Derived.Test.YtpnimdcloanogaaAn
import Derived.Test.YtpnimdcloanogaaMk
namespace Go.Proofs.Ytpnimdcloanogaa
open Go.RowKit

theorem zel23 : (Try.prog.info? 23).map (fun i => (i.zero, i.size, i.bytes)) = some (some (.agg #[.int .i64 0, .int .i64 0]), 2, 16) := by kernel_rfl
set_option maxHeartbeats 1000000 in
theorem as_stamps_any (L : List St) (v : Value) (w : World) (hr : RdS w v L) (hlen : L.length ≤ 20000000) :
    Calls Try.prog 31 #[v] w (fun e w' => ∃ v, e = .returned v ∧ Below w.heap.size w w' ∧ w'.ownsRow w.heap.size 35 2 v (L).length (cS (L))) := by
  refine enterF Try.func31 rfl 22 Try.ntmps31 [v] rfl [(0, v)] rfl ?_
  intro φ F
  have M := Mm.start [] w
  replace M := M.addArg (hr) (fun _ => by first | (simp; done) | (simp_all; done) | assumption)
  refine wp_seq ?_
  -- region 0
  refine wp_region_lit ?_
  refine sq_pure F (wt0 rfl) (pu_assign rfl (evk)) rfl rfl ?_; clear F; intro φ F
  refine nx ?_
  refine wp_seq ?_
  -- region 1
  refine wp_region_lit ?_
  refine sq_pure F (wt0 rfl) (pu_move rfl (F.ev rfl)) rfl rfl ?_; clear F; intro φ F
  refine sq_pure F (wt0 rfl) (pu_len rfl (F.ev rfl) sl42 (M.av (i := 0) rfl)) rfl rfl ?_; clear F; intro φ F
  refine sq_makeS F M (wt0 rfl) rfl (F.ev rfl) (F.ev rfl) sl48.1 zel35 hlen rfl rfl ?_; clear F M; intro φ ω g1 F M
  refine sq_pure F (wt0 rfl) (pu_assign rfl (F.ev rfl)) rfl rfl ?_; clear F; intro φ F
  refine nx ?_
  refine wp_seq ?_
  refine wp_seq ?_
  -- region 2
  refine wp_region_lit ?_
  refine sq_pure F (wt0 rfl) (pu_move rfl (F.ev rfl)) rfl rfl ?_; clear F; intro φ F
  refine sq_pure F (wt0 rfl) (pu_len rfl (F.ev rfl) sl42 (M.av (i := 1) rfl)) rfl rfl ?_; clear F; intro φ F
  refine sq_pure F (wt0 rfl) (pu_move rfl (evk)) rfl rfl ?_; clear F; intro φ F
  refine nx ?_
  refine wp_block ?_
  refine lp (σ := Int) (fun i φ' w' => ∃ K : List St, Fr φ' 22 [(3, (.slice (some ⟨g1, 0, none⟩) L.length L.length)), (9, v), (10, .int .i64 ((L.length : Nat) : Int)), (11, .int .i64 i)] ∧ Mm [] w w' [.blk g1 35 (cL K), .arg 2 v L.length (cS L)] ∧ (0 ≤ i) ∧ (i ≤ ((L.length : Nat) : Int)) ∧ (K.length = L.length) ∧ (∀ k, k < i.toNat → atS K k = atS L k)) (fun i => (((L.length : Nat) : Int) - i).toNat) (0) ⟨(List.replicate L.length St.zero), ((((F.nil.cons (F.get (k := 11) rfl)).cons (F.get (k := 10) rfl)).cons (F.get (k := 9) rfl)).cons (F.get (k := 3) rfl)), M, Int.le_refl _, by omega, List.length_replicate, fun k hk => absurd hk (by simp)⟩ ?_
  clear F M
  rintro i φ ω ⟨K, F, M, hp1_0, hp1_1, hp1_2, hp1_3⟩
  refine wp_seq ?_
  -- region 3
  refine wp_region_lit ?_
  refine sq_pure F (wt0 rfl) (pu_lss rfl (F.ev rfl) (F.ev rfl)) rfl rfl ?_; clear F; intro φ F
  refine nx ?_
  refine wp_seq ?_
  cases hs2 : (decide (i < ((L.length : Nat) : Int)))
  · rw [hs2] at F
    have hs2i := of_decide_eq_false hs2
    refine wp_cond_false (F.ev rfl) ?_
    refine wp_exit ?_
    refine nxe ?_
    refine nxe ?_
    refine nxm ?_
    refine nxq ?_
    refine wp_seq ?_
    -- region 7
    refine wp_region_lit ?_
    refine sq_pure F (wt0 rfl) (pu_move rfl (F.ev rfl)) rfl rfl ?_; clear F; intro φ F
    refine sq_pure F (wt0 rfl) (pu_assign rfl (F.ev rfl)) rfl rfl ?_; clear F; intro φ F
    refine nx ?_
    refine wp_ret ?_
    refine rt_tmp F rfl rfl ?_
    have ze := eq_of_at (i := i.toNat) hp1_2 (by omega) hp1_3
    subst ze
    exact ⟨_, rfl, M.bel, (M.blkRow (i := 0) rfl rfl (by omega)).owB (i := 0) rfl⟩
  · rw [hs2] at F
    have hs2i := of_decide_eq_true hs2
    refine wp_cond_true (F.ev rfl) ?_
    refine wp_skip ?_
    refine nxq ?_
    refine wp_seq ?_
    refine wp_block ?_
    refine wp_seq ?_
    -- region 4
    refine wp_region_lit ?_
    refine sq_pure F (wt0 rfl) (pu_move rfl (F.ev rfl)) rfl rfl ?_; clear F; intro φ F
    refine sq_pure F (wt0 rfl) (pu_ix rfl (F.ev rfl) (F.ev rfl) sl42 (M.av (i := 1) rfl) (by omega) (by omega)) rfl rfl ?_; clear F; intro φ F
    refine sq_rd F (wt0 rfl) (ld_el rfl (F.ev rfl) agg23 (fun _ e => e ▸ (M.av (i := 1) rfl)) (by omega) (cS_at (by first | omega | (simp; done) | (simp; omega))) rfl) rfl rfl ?_; clear F; intro φ F
    refine sq_alloc F M (wt0 rfl) rfl z23 rfl rfl ?_; clear F M; intro φ ω g2 F M
    refine sq_pure F (wt0 rfl) (pu_assign rfl (F.ev rfl)) rfl rfl ?_; clear F; intro φ F
    refine sq_stA F M (wt0 rfl) rfl (F.ev rfl) (F.ev rfl) (i := 0) rfl agg23 rfl rfl rfl rfl ?_; clear M; intro ω M
    refine nx ?_
    -- region 5
    refine wp_region_lit ?_
    refine sq_pure F (wt0 rfl) (pu_move rfl (F.ev rfl)) rfl rfl ?_; clear F; intro φ F
    refine sq_pure F (wt0 rfl) (pu_move rfl (F.ev rfl)) rfl rfl ?_; clear F; intro φ F
    refine sq_rd F (wt0 rfl) (ld_agg rfl (F.ev rfl) agg23 (M.rd (i := 0) rfl) rfl) rfl rfl ?_; clear F; intro φ F
    refine sq_pure F (wt0 rfl) (pu_ix rfl (F.ev rfl) (F.ev rfl) sl48 (blk_rdS (M.at (i := 1) rfl) (by first | assumption | (simp only [List.length_set]; assumption)) (by omega)) (by omega) (by omega)) rfl rfl ?_; clear F; intro φ F
    refine sq_stL (s := (atS L i.toNat)) (j := i.toNat) F M (wt0 rfl) rfl (F.ev rfl) (F.ev rfl) (i := 1) rfl (by have := hp1_2; omega) agg35 rfl ?_; clear M; intro ω M
    refine wpList_nil ?_
    refine nxb ?_
    refine nxq ?_
    -- region 6
    refine wp_region_lit ?_
    refine sq_pure F (wt0 rfl) (pu_add rfl (F.ev rfl) (evk) (by omega) (by omega)) rfl rfl ?_; clear F; intro φ F
    refine sq_pure F (wt0 rfl) (pu_move rfl (F.ev rfl)) rfl rfl ?_; clear F; intro φ F
    refine wpList_nil ?_
    exact ⟨i + 1, by omega, (K.set i.toNat (atS L i.toNat)), ((((F.nil.cons (F.get (k := 11) rfl)).cons (F.get (k := 10) rfl)).cons (F.get (k := 9) rfl)).cons (F.get (k := 3) rfl)), (M.sub (.cons _ (List.Sublist.refl _))), by omega, by omega, by rw [List.length_set]; assumption, by rw [show (i + 1).toNat = i.toNat + 1 by omega]; exact set_same hp1_2 (by omega) hp1_3⟩

set_option maxHeartbeats 1000000 in
theorem as_paths_any (L : List St) (v : Value) (w : World) (hr : RdS w v L) (hlen : L.length ≤ 20000000) :
    Calls Try.prog 29 #[v] w (fun e w' => ∃ v, e = .returned v ∧ Below w.heap.size w w' ∧ w'.ownsRow w.heap.size 23 2 v (L).length (cS (L))) := by
  refine enterF Try.func29 rfl 22 Try.ntmps29 [v] rfl [(0, v)] rfl ?_
  intro φ F
  have M := Mm.start [] w
  replace M := M.addArg (hr) (fun _ => by first | (simp; done) | (simp_all; done) | assumption)
  refine wp_seq ?_
  -- region 0
  refine wp_region_lit ?_
  refine sq_pure F (wt0 rfl) (pu_assign rfl (evk)) rfl rfl ?_; clear F; intro φ F
  refine nx ?_
  refine wp_seq ?_
  -- region 1
  refine wp_region_lit ?_
  refine sq_pure F (wt0 rfl) (pu_move rfl (F.ev rfl)) rfl rfl ?_; clear F; intro φ F
  refine sq_pure F (wt0 rfl) (pu_len rfl (F.ev rfl) sl48 (M.av (i := 0) rfl)) rfl rfl ?_; clear F; intro φ F
  refine sq_makeS F M (wt0 rfl) rfl (F.ev rfl) (F.ev rfl) sl42.1 zel23 hlen rfl rfl ?_; clear F M; intro φ ω g1 F M
  refine sq_pure F (wt0 rfl) (pu_assign rfl (F.ev rfl)) rfl rfl ?_; clear F; intro φ F
  refine nx ?_
  refine wp_seq ?_
  refine wp_seq ?_
  -- region 2
  refine wp_region_lit ?_
  refine sq_pure F (wt0 rfl) (pu_move rfl (F.ev rfl)) rfl rfl ?_; clear F; intro φ F
  refine sq_pure F (wt0 rfl) (pu_len rfl (F.ev rfl) sl48 (M.av (i := 1) rfl)) rfl rfl ?_; clear F; intro φ F
  refine sq_pure F (wt0 rfl) (pu_move rfl (evk)) rfl rfl ?_; clear F; intro φ F
  refine nx ?_
  refine wp_block ?_
  refine lp (σ := Int) (fun i φ' w' => ∃ K : List St, Fr φ' 22 [(3, (.slice (some ⟨g1, 0, none⟩) L.length L.length)), (9, v), (10, .int .i64 ((L.length : Nat) : Int)), (11, .int .i64 i)] ∧ Mm [] w w' [.blk g1 23 (cL K), .arg 2 v L.length (cS L)] ∧ (0 ≤ i) ∧ (i ≤ ((L.length : Nat) : Int)) ∧ (K.length = L.length) ∧ (∀ k, k < i.toNat → atS K k = atS L k)) (fun i => (((L.length : Nat) : Int) - i).toNat) (0) ⟨(List.replicate L.length St.zero), ((((F.nil.cons (F.get (k := 11) rfl)).cons (F.get (k := 10) rfl)).cons (F.get (k := 9) rfl)).cons (F.get (k := 3) rfl)), M, Int.le_refl _, by omega, List.length_replicate, fun k hk => absurd hk (by simp)⟩ ?_
  clear F M
  rintro i φ ω ⟨K, F, M, hp1_0, hp1_1, hp1_2, hp1_3⟩
  refine wp_seq ?_
  -- region 3
  refine wp_region_lit ?_
  refine sq_pure F (wt0 rfl) (pu_lss rfl (F.ev rfl) (F.ev rfl)) rfl rfl ?_; clear F; intro φ F
  refine nx ?_
  refine wp_seq ?_
  cases hs2 : (decide (i < ((L.length : Nat) : Int)))
  · rw [hs2] at F
    have hs2i := of_decide_eq_false hs2
    refine wp_cond_false (F.ev rfl) ?_
    refine wp_exit ?_
    refine nxe ?_
    refine nxe ?_
    refine nxm ?_
    refine nxq ?_
    refine wp_seq ?_
    -- region 7
    refine wp_region_lit ?_
    refine sq_pure F (wt0 rfl) (pu_move rfl (F.ev rfl)) rfl rfl ?_; clear F; intro φ F
    refine sq_pure F (wt0 rfl) (pu_assign rfl (F.ev rfl)) rfl rfl ?_; clear F; intro φ F
    refine nx ?_
    refine wp_ret ?_
    refine rt_tmp F rfl rfl ?_
    have ze := eq_of_at (i := i.toNat) hp1_2 (by omega) hp1_3
    subst ze
    exact ⟨_, rfl, M.bel, (M.blkRow (i := 0) rfl rfl (by omega)).owB (i := 0) rfl⟩
  · rw [hs2] at F
    have hs2i := of_decide_eq_true hs2
    refine wp_cond_true (F.ev rfl) ?_
    refine wp_skip ?_
    refine nxq ?_
    refine wp_seq ?_
    refine wp_block ?_
    refine wp_seq ?_
    -- region 4
    refine wp_region_lit ?_
    refine sq_pure F (wt0 rfl) (pu_move rfl (F.ev rfl)) rfl rfl ?_; clear F; intro φ F
    refine sq_pure F (wt0 rfl) (pu_ix rfl (F.ev rfl) (F.ev rfl) sl48 (M.av (i := 1) rfl) (by omega) (by omega)) rfl rfl ?_; clear F; intro φ F
    refine sq_rd F (wt0 rfl) (ld_el rfl (F.ev rfl) agg35 (fun _ e => e ▸ (M.av (i := 1) rfl)) (by omega) (cS_at (by first | omega | (simp; done) | (simp; omega))) rfl) rfl rfl ?_; clear F; intro φ F
    refine sq_alloc F M (wt0 rfl) rfl z35 rfl rfl ?_; clear F M; intro φ ω g2 F M
    refine sq_pure F (wt0 rfl) (pu_assign rfl (F.ev rfl)) rfl rfl ?_; clear F; intro φ F
    refine sq_stA F M (wt0 rfl) rfl (F.ev rfl) (F.ev rfl) (i := 0) rfl agg35 rfl rfl rfl rfl ?_; clear M; intro ω M
    refine nx ?_
    -- region 5
    refine wp_region_lit ?_
    refine sq_pure F (wt0 rfl) (pu_move rfl (F.ev rfl)) rfl rfl ?_; clear F; intro φ F
    refine sq_pure F (wt0 rfl) (pu_move rfl (F.ev rfl)) rfl rfl ?_; clear F; intro φ F
    refine sq_rd F (wt0 rfl) (ld_agg rfl (F.ev rfl) agg35 (M.rd (i := 0) rfl) rfl) rfl rfl ?_; clear F; intro φ F
    refine sq_pure F (wt0 rfl) (pu_ix rfl (F.ev rfl) (F.ev rfl) sl42 (blk_rdS (M.at (i := 1) rfl) (by first | assumption | (simp only [List.length_set]; assumption)) (by omega)) (by omega) (by omega)) rfl rfl ?_; clear F; intro φ F
    refine sq_stL (s := (atS L i.toNat)) (j := i.toNat) F M (wt0 rfl) rfl (F.ev rfl) (F.ev rfl) (i := 1) rfl (by have := hp1_2; omega) agg23 rfl ?_; clear M; intro ω M
    refine wpList_nil ?_
    refine nxb ?_
    refine nxq ?_
    -- region 6
    refine wp_region_lit ?_
    refine sq_pure F (wt0 rfl) (pu_add rfl (F.ev rfl) (evk) (by omega) (by omega)) rfl rfl ?_; clear F; intro φ F
    refine sq_pure F (wt0 rfl) (pu_move rfl (F.ev rfl)) rfl rfl ?_; clear F; intro φ F
    refine wpList_nil ?_
    exact ⟨i + 1, by omega, (K.set i.toNat (atS L i.toNat)), ((((F.nil.cons (F.get (k := 11) rfl)).cons (F.get (k := 10) rfl)).cons (F.get (k := 9) rfl)).cons (F.get (k := 3) rfl)), (M.sub (.cons _ (List.Sublist.refl _))), by omega, by omega, by rw [List.length_set]; assumption, by rw [show (i + 1).toNat = i.toNat + 1 by omega]; exact set_same hp1_2 (by omega) hp1_3⟩

set_option maxHeartbeats 1000000 in
theorem least_any (L : List St) (v : Value) (w : World) (hr : RdS w v L) (hlen : L.length ≤ 20000000) :
    Calls Try.prog 23 #[v] w (fun e w' => ∃ v, e = .returned v ∧ Below w.heap.size w w' ∧ w'.ownsRow w.heap.size 23 2 v (minL L).length (cS (minL L))) := by
  have zl := minL_len L
  refine enterF Try.func23 rfl 7 Try.ntmps23 [v] rfl [(0, v)] rfl ?_
  intro φ F
  have M := Mm.start [] w
  replace M := M.addArg (hr) (fun _ => by first | (simp; done) | (simp_all; done) | assumption)
  refine wp_seq ?_
  -- region 0
  refine wp_region_lit ?_
  refine sq_pure F (wt0 rfl) (pu_assign rfl (evk)) rfl rfl ?_; clear F; intro φ F
  refine nx ?_
  refine wp_seq ?_
  -- region 1
  refine wp_region_lit ?_
  refine sq_pure F (wt0 rfl) (pu_move rfl (F.ev rfl)) rfl rfl ?_; clear F; intro φ F
  refine sq_callN F M (wt0 rfl) rfl en31 (evc (F.ev rfl) evn) (as_stamps_any L _ _ (M.av (i := 0) rfl) (by first | omega | (simp; done) | (simp; omega) | (refine Nat.le_trans (minL_len _) ?_; omega) | (refine Nat.le_trans (eachL_len _ _) ?_; omega))) rfl rfl ?_; clear F M; intro φ ω v1 F M
  refine sq_callN F M (wt0 rfl) rfl en30 (evc (F.ev rfl) evn) (min_any (L) _ _ (M.rv (i := 0) rfl) (by first | omega | (simp; done) | (simp; omega) | (refine Nat.le_trans (minL_len _) ?_; omega) | (refine Nat.le_trans (eachL_len _ _) ?_; omega))) rfl rfl ?_; clear F M; intro φ ω v2 F M
  refine sq_callN F M (wt0 rfl) rfl en29 (evc (F.ev rfl) evn) (as_paths_any (minL (L)) _ _ (M.rv (i := 0) rfl) (by first | omega | (simp; done) | (simp; omega) | (refine Nat.le_trans (minL_len _) ?_; omega) | (refine Nat.le_trans (eachL_len _ _) ?_; omega))) rfl rfl ?_; clear F M; intro φ ω v3 F M
  refine sq_pure F (wt0 rfl) (pu_assign rfl (F.ev rfl)) rfl rfl ?_; clear F; intro φ F
  refine nx ?_
  refine wp_ret ?_
  refine rt_tmp F rfl rfl ?_
  exact ⟨_, rfl, M.bel, M.owB (i := 0) rfl⟩

set_option maxHeartbeats 1000000 in
theorem path_right_any (p : St) (w : World) :
    Calls Try.prog 11 #[.agg #[.int .i64 p.e, .int .i64 p.r]] w (fun e w' => e = .returned ((.bool p.rightB)) ∧ Below w.heap.size w w') := by
  refine enterF Try.func11 rfl 5 Try.ntmps11 [.agg #[.int .i64 p.e, .int .i64 p.r]] rfl [(0, .agg #[.int .i64 p.e, .int .i64 p.r])] rfl ?_
  intro φ F
  have M := Mm.start [] w
  refine wp_seq ?_
  -- region 0
  refine wp_region_lit ?_
  refine sq_box F M (wt0 rfl) rfl (F.ev rfl) (cs := #[.int .i64 p.e, .int .i64 p.r]) rfl rfl rfl ?_; clear F M; intro φ ω g1 F M
  refine sq_pure F (wt0 rfl) (pu_assign rfl (evk)) rfl rfl ?_; clear F; intro φ F
  refine nx ?_
  refine wp_seq ?_
  -- region 1
  refine wp_region_lit ?_
  refine sq_rd F (wt0 rfl) (ld_agg rfl (F.ev rfl) agg23 (M.rd (i := 0) rfl) rfl) rfl rfl ?_; clear F; intro φ F
  refine sq_call F M (wt0 rfl) rfl en21 (evc (F.ev rfl) evn) (right_any p _) rfl rfl ?_; clear F M; intro φ ω F M
  refine sq_pure F (wt0 rfl) (pu_assign rfl (F.ev rfl)) rfl rfl ?_; clear F; intro φ F
  refine nx ?_
  refine wp_ret ?_
  refine rt_tmp F rfl rfl ?_
  exact ⟨rfl, M.bel⟩

set_option maxHeartbeats 1000000 in
theorem path_then_any (p q : St) (w : World) :
    Calls Try.prog 12 #[.agg #[.int .i64 p.e, .int .i64 p.r], .agg #[.int .i64 q.e, .int .i64 q.r]] w (fun e w' => e = .returned ((.tuple #[.agg #[.int .i64 (p.after q).e, .int .i64 (p.after q).r], .bool (p.afterB q)])) ∧ Below w.heap.size w w') := by
  refine enterF Try.func12 rfl 16 Try.ntmps12 [.agg #[.int .i64 p.e, .int .i64 p.r], .agg #[.int .i64 q.e, .int .i64 q.r]] rfl [(0, .agg #[.int .i64 p.e, .int .i64 p.r]), (1, .agg #[.int .i64 q.e, .int .i64 q.r])] rfl ?_
  intro φ F
  have M := Mm.start [] w
  refine wp_seq ?_
  -- region 0
  refine wp_region_lit ?_
  refine sq_box F M (wt0 rfl) rfl (F.ev rfl) (cs := #[.int .i64 p.e, .int .i64 p.r]) rfl rfl rfl ?_; clear F M; intro φ ω g1 F M
  refine sq_box F M (wt0 rfl) rfl (F.ev rfl) (cs := #[.int .i64 q.e, .int .i64 q.r]) rfl rfl rfl ?_; clear F M; intro φ ω g2 F M
  refine sq_alloc F M (wt0 rfl) rfl z23 rfl rfl ?_; clear F M; intro φ ω g3 F M
  refine sq_pure F (wt0 rfl) (pu_assign rfl (evk)) rfl rfl ?_; clear F; intro φ F
  refine nx ?_
  refine wp_seq ?_
  -- region 1
  refine wp_region_lit ?_
  refine sq_rd F (wt0 rfl) (ld_agg rfl (F.ev rfl) agg23 (M.rd (i := 2) rfl) rfl) rfl rfl ?_; clear F; intro φ F
  refine sq_rd F (wt0 rfl) (ld_agg rfl (F.ev rfl) agg23 (M.rd (i := 1) rfl) rfl) rfl rfl ?_; clear F; intro φ F
  refine sq_call F M (wt0 rfl) rfl en20 (evc (F.ev rfl) (evc (F.ev rfl) evn)) (after_any p q _) rfl rfl ?_; clear F M; intro φ ω F M
  refine sq_pure F (wt0 rfl) (pu_move rfl (F.ev rfl)) rfl rfl ?_; clear F; intro φ F
  refine sq_pure F (wt0 rfl) (pu_extract rfl (F.ev rfl) rfl) rfl rfl ?_; clear F; intro φ F
  refine sq_pure F (wt0 rfl) (pu_extract rfl (F.ev rfl) rfl) rfl rfl ?_; clear F; intro φ F
  refine sq_alloc F M (wt0 rfl) rfl z35 rfl rfl ?_; clear F M; intro φ ω g4 F M
  refine sq_stA F M (wt0 rfl) rfl (F.ev rfl) (F.ev rfl) (i := 0) rfl agg35 rfl rfl rfl rfl ?_; clear M; intro ω M
  refine sq_pure F (wt0 rfl) (pu_assign rfl (F.ev rfl)) rfl rfl ?_; clear F; intro φ F
  refine nx ?_
  refine wp_seq ?_
  -- region 2
  refine wp_region_lit ?_
  refine sq_rd F (wt0 rfl) (ld_agg rfl (F.ev rfl) agg35 (M.rd (i := 0) rfl) rfl) rfl rfl ?_; clear F; intro φ F
  refine sq_pure F (wt0 rfl) (pu_move rfl (F.ev rfl)) rfl rfl ?_; clear F; intro φ F
  refine sq_stA F M (wt0 rfl) rfl (F.ev rfl) (F.ev rfl) (i := 1) rfl agg23 rfl rfl rfl rfl ?_; clear M; intro ω M
  refine sq_pure F (wt0 rfl) (pu_assign rfl (F.ev rfl)) rfl rfl ?_; clear F; intro φ F
  refine nx ?_
  refine wp_ret ?_
  refine rt_cell_tmp F M rfl rfl rfl (i := 1) rfl agg23 rfl ?_
  exact ⟨rfl, M.bel⟩

set_option maxHeartbeats 1000000 in
theorem path_min_any (L : List St) (v : Value) (w : World) (hr : RdS w v L) (hlen : L.length ≤ 20000000) :
    Calls Try.prog 16 #[v] w (fun e w' => ∃ v, e = .returned v ∧ Below w.heap.size w w' ∧ w'.ownsRow w.heap.size 23 2 v (minL L).length (cS (minL L))) := by
  refine enterF Try.func16 rfl 5 Try.ntmps16 [v] rfl [(0, v)] rfl ?_
  intro φ F
  have M := Mm.start [] w
  replace M := M.addArg (hr) (fun _ => by first | (simp; done) | (simp_all; done) | assumption)
  refine wp_seq ?_
  -- region 0
  refine wp_region_lit ?_
  refine sq_pure F (wt0 rfl) (pu_assign rfl (evk)) rfl rfl ?_; clear F; intro φ F
  refine nx ?_
  refine wp_seq ?_
  -- region 1
  refine wp_region_lit ?_
  refine sq_pure F (wt0 rfl) (pu_move rfl (F.ev rfl)) rfl rfl ?_; clear F; intro φ F
  refine sq_callN F M (wt0 rfl) rfl en23 (evc (F.ev rfl) evn) (least_any L _ _ (M.av (i := 0) rfl) (by first | omega | (simp; done) | (simp; omega) | (refine Nat.le_trans (minL_len _) ?_; omega) | (refine Nat.le_trans (eachL_len _ _) ?_; omega))) rfl rfl ?_; clear F M; intro φ ω v1 F M
  refine sq_pure F (wt0 rfl) (pu_assign rfl (F.ev rfl)) rfl rfl ?_; clear F; intro φ F
  refine nx ?_
  refine wp_ret ?_
  refine rt_tmp F rfl rfl ?_
  exact ⟨_, rfl, M.bel, M.owB (i := 0) rfl⟩

set_option maxHeartbeats 1000000 in
theorem allowed_any (L : List St) (v : Value) (w : World) (hr : RdS w v L) (hlen : L.length ≤ 20000000) :
    Calls Try.prog 25 #[v] w (fun e w' => e = .returned ((.bool (rightsB L))) ∧ Below w.heap.size w w') := by
  refine enterF Try.func25 rfl 18 Try.ntmps25 [v] rfl [(0, v)] rfl ?_
  intro φ F
  have M := Mm.start [] w
  replace M := M.addArg (hr) (fun _ => by first | (simp; done) | (simp_all; done) | assumption)
  refine wp_seq ?_
  -- region 0
  refine wp_region_lit ?_
  refine sq_pure F (wt0 rfl) (pu_assign rfl (evk)) rfl rfl ?_; clear F; intro φ F
  refine nx ?_
  refine wp_seq ?_
  refine wp_seq ?_
  -- region 1
  refine wp_region_lit ?_
  refine sq_pure F (wt0 rfl) (pu_move rfl (F.ev rfl)) rfl rfl ?_; clear F; intro φ F
  refine sq_pure F (wt0 rfl) (pu_len rfl (F.ev rfl) sl29 (M.av (i := 0) rfl)) rfl rfl ?_; clear F; intro φ F
  refine sq_pure F (wt0 rfl) (pu_gtr rfl (F.ev rfl) (evk)) rfl rfl ?_; clear F; intro φ F
  refine nx ?_
  cases hs1 : (decide (64 < ((L.length : Nat) : Int)))
  · rw [hs1] at F
    have hs1i := of_decide_eq_false hs1
    refine wp_cond_false (F.ev rfl) ?_
    refine wp_skip ?_
    refine nxq ?_
    refine wp_seq ?_
    refine wp_seq ?_
    -- region 3
    refine wp_region_lit ?_
    refine sq_pure F (wt0 rfl) (pu_move rfl (F.ev rfl)) rfl rfl ?_; clear F; intro φ F
    refine sq_pure F (wt0 rfl) (pu_len rfl (F.ev rfl) sl29 (M.av (i := 0) rfl)) rfl rfl ?_; clear F; intro φ F
    refine sq_pure F (wt0 rfl) (pu_move rfl (evk)) rfl rfl ?_; clear F; intro φ F
    refine nx ?_
    refine wp_block ?_
    refine lp (σ := Int) (fun i φ' w' => Fr φ' 18 [(8, v), (9, .int .i64 ((L.length : Nat) : Int)), (10, .int .i64 i)] ∧ Mm [] w w' [.arg 2 v L.length (cS L)] ∧ (0 ≤ i) ∧ (i ≤ ((L.length : Nat) : Int)) ∧ (∀ k, k < i.toNat → (atS L k).rightB = true)) (fun i => (((L.length : Nat) : Int) - i).toNat) (0) ⟨(((F.nil.cons (F.get (k := 10) rfl)).cons (F.get (k := 9) rfl)).cons (F.get (k := 8) rfl)), M, Int.le_refl _, by omega, all_none⟩ ?_
    clear F M
    rintro i φ ω ⟨F, M, hp2_0, hp2_1, hp2_2⟩
    refine wp_seq ?_
    -- region 4
    refine wp_region_lit ?_
    refine sq_pure F (wt0 rfl) (pu_lss rfl (F.ev rfl) (F.ev rfl)) rfl rfl ?_; clear F; intro φ F
    refine nx ?_
    refine wp_seq ?_
    cases hs3 : (decide (i < ((L.length : Nat) : Int)))
    · rw [hs3] at F
      have hs3i := of_decide_eq_false hs3
      refine wp_cond_false (F.ev rfl) ?_
      refine wp_exit ?_
      refine nxe ?_
      refine nxe ?_
      refine nxm ?_
      refine nxq ?_
      refine wp_seq ?_
      -- region 9
      refine wp_region_lit ?_
      refine sq_pure F (wt0 rfl) (pu_assign rfl (evk)) rfl rfl ?_; clear F; intro φ F
      refine nx ?_
      refine wp_ret ?_
      refine rt_tmp F rfl rfl ?_
      refine ⟨?_, M.bel⟩
      rw [rights_all hp2_2 hs3i, decide_eq_true (by omega)]
    · rw [hs3] at F
      have hs3i := of_decide_eq_true hs3
      refine wp_cond_true (F.ev rfl) ?_
      refine wp_skip ?_
      refine nxq ?_
      refine wp_seq ?_
      refine wp_block ?_
      refine wp_seq ?_
      -- region 5
      refine wp_region_lit ?_
      refine sq_pure F (wt0 rfl) (pu_ix rfl (F.ev rfl) (F.ev rfl) sl29 (M.av (i := 0) rfl) (by omega) (by omega)) rfl rfl ?_; clear F; intro φ F
      refine sq_rd F (wt0 rfl) (ld_el rfl (F.ev rfl) agg23 (fun _ e => e ▸ (M.av (i := 0) rfl)) (by omega) (cS_at (by first | omega | (simp; done) | (simp; omega))) rfl) rfl rfl ?_; clear F; intro φ F
      refine sq_alloc F M (wt0 rfl) rfl z23 rfl rfl ?_; clear F M; intro φ ω g1 F M
      refine sq_stA F M (wt0 rfl) rfl (F.ev rfl) (F.ev rfl) (i := 0) rfl agg23 rfl rfl rfl rfl ?_; clear M; intro ω M
      refine nx ?_
      refine wp_seq ?_
      -- region 6
      refine wp_region_lit ?_
      refine sq_rd F (wt0 rfl) (ld_agg rfl (F.ev rfl) agg23 (M.rd (i := 0) rfl) rfl) rfl rfl ?_; clear F; intro φ F
      refine sq_call F M (wt0 rfl) rfl en11 (evc (F.ev rfl) evn) (path_right_any (atS L i.toNat) _) rfl rfl ?_; clear F M; intro φ ω F M
      cases hs4 : ((atS L i.toNat).rightB)
      · rw [hs4] at F
        refine sq_pure F (wt0 rfl) (pu_not rfl (F.ev rfl)) rfl rfl ?_; clear F; intro φ F
        rw [show (!false) = true from rfl] at F
        refine nx ?_
        refine wp_cond_true (F.ev rfl) ?_
        refine wp_seq ?_
        -- region 7
        refine wp_region_lit ?_
        refine sq_pure F (wt0 rfl) (pu_assign rfl (evk)) rfl rfl ?_; clear F; intro φ F
        refine nx ?_
        refine wp_ret ?_
        refine nxrb ?_
        refine nxr ?_
        refine nxr ?_
        refine nxrb ?_
        refine nxr ?_
        refine rt_tmp F rfl rfl ?_
        refine ⟨?_, M.bel⟩
        rw [rights_no (by omega) hs4]
      · rw [hs4] at F
        refine sq_pure F (wt0 rfl) (pu_not rfl (F.ev rfl)) rfl rfl ?_; clear F; intro φ F
        rw [show (!true) = false from rfl] at F
        refine nx ?_
        refine wp_cond_false (F.ev rfl) ?_
        refine wp_skip ?_
        refine nxb ?_
        refine nxq ?_
        -- region 8
        refine wp_region_lit ?_
        refine sq_pure F (wt0 rfl) (pu_add rfl (F.ev rfl) (evk) (by omega) (by omega)) rfl rfl ?_; clear F; intro φ F
        refine sq_pure F (wt0 rfl) (pu_move rfl (F.ev rfl)) rfl rfl ?_; clear F; intro φ F
        refine wpList_nil ?_
        exact ⟨i + 1, by omega, (((F.nil.cons (F.get (k := 10) rfl)).cons (F.get (k := 9) rfl)).cons (F.get (k := 8) rfl)), (M.sub (.cons _ (List.Sublist.refl _))), by omega, by omega, all_succ hp2_2 hp2_0 (hs4)⟩
  · rw [hs1] at F
    have hs1i := of_decide_eq_true hs1
    refine wp_cond_true (F.ev rfl) ?_
    refine wp_seq ?_
    -- region 2
    refine wp_region_lit ?_
    refine sq_pure F (wt0 rfl) (pu_assign rfl (evk)) rfl rfl ?_; clear F; intro φ F
    refine nx ?_
    refine wp_ret ?_
    refine nxr ?_
    refine rt_tmp F rfl rfl ?_
    refine ⟨?_, M.bel⟩
    rw [show rightsB L = false by unfold rightsB; rw [decide_eq_false (by omega), Bool.and_false]]

set_option maxHeartbeats 1000000 in
theorem path_each_any (K L : List St) (u v : Value) (w : World) (hk : RdS w u K) (hr : RdS w v L) (hlk : K.length ≤ 20000000) (hlen : L.length ≤ 20000000) :
    Calls Try.prog 18 #[u, v] w (fun e w' => ∃ v, e = .returned (.tuple #[v, .bool (eachB K L)]) ∧ Below w.heap.size w w' ∧ w'.ownsRow w.heap.size 23 2 v (eachL K L).length (cS (eachL K L))) := by
  refine enterF Try.func18 rfl 53 Try.ntmps18 [u, v] rfl [(0, u), (1, v)] rfl ?_
  intro φ F
  have M := Mm.start [] w
  replace M := M.addArg (hr) (fun _ => by first | (simp; done) | (simp_all; done) | assumption)
  replace M := M.addArg (hk) (fun _ => by first | (simp; done) | (simp_all; done) | assumption)
  refine wp_seq ?_
  -- region 0
  refine wp_region_lit ?_
  refine sq_pure F (wt0 rfl) (pu_assign rfl (evk)) rfl rfl ?_; clear F; intro φ F
  refine sq_pure F (wt0 rfl) (pu_assign rfl (evk)) rfl rfl ?_; clear F; intro φ F
  refine nx ?_
  refine wp_seq ?_
  refine wp_seq ?_
  -- region 1
  refine wp_region_lit ?_
  refine sq_pure F (wt0 rfl) (pu_move rfl (F.ev rfl)) rfl rfl ?_; clear F; intro φ F
  refine sq_call F M (wt0 rfl) rfl en25 (evc (F.ev rfl) evn) (allowed_any K _ _ (M.av (i := 0) rfl) (by first | omega | (simp; done) | (simp; omega) | (refine Nat.le_trans (minL_len _) ?_; omega) | (refine Nat.le_trans (eachL_len _ _) ?_; omega))) rfl rfl ?_; clear F M; intro φ ω F M
  cases hs1 : (rightsB K)
  · rw [hs1] at F
    refine sq_pure F (wt0 rfl) (pu_not rfl (F.ev rfl)) rfl rfl ?_; clear F; intro φ F
    rw [show (!false) = true from rfl] at F
    refine sq_pure F (wt0 rfl) (pu_move rfl (F.ev rfl)) rfl rfl ?_; clear F; intro φ F
    refine sq_skip F (wtn F rfl rfl rfl rfl rfl) rfl rfl ?_; clear F; intro φ F
    refine sq_skip F (wtn F rfl rfl rfl rfl rfl) rfl rfl ?_; clear F; intro φ F
    refine sq_skip F (wtn F rfl rfl rfl rfl rfl) rfl rfl ?_; clear F; intro φ F
    refine sq_pure F (wt0 rfl) (pu_pickt rfl (F.ev rfl) (evk)) rfl rfl ?_; clear F; intro φ F
    refine nx ?_
    refine wp_cond_true (F.ev rfl) ?_
    refine wp_seq ?_
    -- region 2
    refine wp_region_lit ?_
    refine sq_pure F (wt0 rfl) (pu_assign rfl (evk)) rfl rfl ?_; clear F; intro φ F
    refine sq_pure F (wt0 rfl) (pu_assign rfl (evk)) rfl rfl ?_; clear F; intro φ F
    refine nx ?_
    refine wp_ret ?_
    refine nxr ?_
    refine rt_tmp2 F rfl rfl rfl ?_
    have z := each_no (A := K) (B := L) (.inl hs1)
    rw [z.1, z.2]
    exact ⟨_, rfl, M.bel, World.ownsRow_nil _ _ _ _⟩
  · rw [hs1] at F
    refine sq_pure F (wt0 rfl) (pu_not rfl (F.ev rfl)) rfl rfl ?_; clear F; intro φ F
    rw [show (!true) = false from rfl] at F
    refine sq_pure F (wt0 rfl) (pu_move rfl (F.ev rfl)) rfl rfl ?_; clear F; intro φ F
    refine sq_pure F (wt1 F rfl rfl rfl rfl rfl) (pu_move rfl (F.ev rfl)) rfl rfl ?_; clear F; intro φ F
    refine sq_call F M (wt1 F rfl rfl rfl rfl rfl) rfl en25 (evc (F.ev rfl) evn) (allowed_any L _ _ (M.av (i := 1) rfl) (by first | omega | (simp; done) | (simp; omega) | (refine Nat.le_trans (minL_len _) ?_; omega) | (refine Nat.le_trans (eachL_len _ _) ?_; omega))) rfl rfl ?_; clear F M; intro φ ω F M
    cases hs2 : (rightsB L)
    · rw [hs2] at F
      refine sq_pure F (wt1 F rfl rfl rfl rfl rfl) (pu_not rfl (F.ev rfl)) rfl rfl ?_; clear F; intro φ F
      rw [show (!false) = true from rfl] at F
      refine sq_pure F (wt0 rfl) (pu_pickf rfl (F.ev rfl) (F.ev rfl)) rfl rfl ?_; clear F; intro φ F
      refine nx ?_
      refine wp_cond_true (F.ev rfl) ?_
      refine wp_seq ?_
      -- region 2
      refine wp_region_lit ?_
      refine sq_pure F (wt0 rfl) (pu_assign rfl (evk)) rfl rfl ?_; clear F; intro φ F
      refine sq_pure F (wt0 rfl) (pu_assign rfl (evk)) rfl rfl ?_; clear F; intro φ F
      refine nx ?_
      refine wp_ret ?_
      refine nxr ?_
      refine rt_tmp2 F rfl rfl rfl ?_
      have z := each_no (A := K) (B := L) (.inr hs2)
      rw [z.1, z.2]
      exact ⟨_, rfl, M.bel, World.ownsRow_nil _ _ _ _⟩
    · rw [hs2] at F
      refine sq_pure F (wt1 F rfl rfl rfl rfl rfl) (pu_not rfl (F.ev rfl)) rfl rfl ?_; clear F; intro φ F
      rw [show (!true) = false from rfl] at F
      refine sq_pure F (wt0 rfl) (pu_pickf rfl (F.ev rfl) (F.ev rfl)) rfl rfl ?_; clear F; intro φ F
      refine nx ?_
      refine wp_cond_false (F.ev rfl) ?_
      refine wp_skip ?_
      refine nxq ?_
      refine wp_seq ?_
      -- region 3
      refine wp_region_lit ?_
      have hA := (rights_iff.1 hs1).2
      have hB := (rights_iff.1 hs2).2
      refine sq_pure F (wt0 rfl) (pu_assign rfl (evk)) rfl rfl ?_; clear F; intro φ F
      refine nx ?_
      refine wp_seq ?_
      refine wp_seq ?_
      -- region 4
      refine wp_region_lit ?_
      refine sq_pure F (wt0 rfl) (pu_move rfl (F.ev rfl)) rfl rfl ?_; clear F; intro φ F
      refine sq_pure F (wt0 rfl) (pu_len rfl (F.ev rfl) sl29 (M.av (i := 0) rfl)) rfl rfl ?_; clear F; intro φ F
      refine sq_pure F (wt0 rfl) (pu_move rfl (evk)) rfl rfl ?_; clear F; intro φ F
      refine nx ?_
      refine wp_block ?_
      refine lp (σ := Int) (fun i φ' w' => ∃ vq : Value, Fr φ' 53 [(1, v), (22, u), (23, .int .i64 ((K.length : Nat) : Int)), (6, vq), (24, .int .i64 i)] ∧ Mm [] w w' [.row 23 2 vq ((partP K L i.toNat (0 : Int).toNat).length) (cS (partP K L i.toNat (0 : Int).toNat)), .arg 2 u K.length (cS K), .arg 2 v L.length (cS L)] ∧ (0 ≤ i) ∧ (i ≤ ((K.length : Nat) : Int))) (fun i => (((K.length : Nat) : Int) - i).toNat) (0) ⟨(.slice none 0 0), (((((F.nil.cons (F.get (k := 24) rfl)).cons (F.get (k := 6) rfl)).cons (F.get (k := 23) rfl)).cons (F.get (k := 22) rfl)).cons (F.get (k := 1) rfl)), (by rw [← part_zero]; exact M.nilRow 23 2), Int.le_refl _, by omega⟩ ?_
      clear F M
      rintro i φ ω ⟨vq, F, M, hp3_0, hp3_1⟩
      refine wp_seq ?_
      -- region 5
      refine wp_region_lit ?_
      refine sq_pure F (wt0 rfl) (pu_lss rfl (F.ev rfl) (F.ev rfl)) rfl rfl ?_; clear F; intro φ F
      refine nx ?_
      refine wp_seq ?_
      cases hs4 : (decide (i < ((K.length : Nat) : Int)))
      · rw [hs4] at F
        have hs4i := of_decide_eq_false hs4
        refine wp_cond_false (F.ev rfl) ?_
        refine wp_exit ?_
        refine nxe ?_
        refine nxe ?_
        refine nxm ?_
        refine nxq ?_
        refine wp_seq ?_
        -- region 15
        refine wp_region_lit ?_
        refine sq_pure F (wt0 rfl) (pu_move rfl (F.ev rfl)) rfl rfl ?_; clear F; intro φ F
        rw [part_end hs4i] at M
        replace M : Mm [] w ω [.row 23 2 vq ((sumsP K L).length) (cS (sumsP K L)), .arg 2 u K.length (cS K), .arg 2 v L.length (cS L)] := M
        have zs : (sumsP K L).length ≤ 5000 := by have z := part_len hA hB K.length 0; rw [show partP K L K.length 0 = sumsP K L by simp [partP]] at z; exact z
        refine sq_callN F M (wt0 rfl) rfl en23 (evc (F.ev rfl) evn) (least_any (sumsP K L) _ _ (M.rv (i := 0) rfl) (by first | omega | (simp; done) | (simp; omega) | (refine Nat.le_trans (minL_len _) ?_; omega) | (refine Nat.le_trans (eachL_len _ _) ?_; omega))) rfl rfl ?_; clear F M; intro φ ω v1 F M
        refine sq_pure F (wt0 rfl) (pu_assign rfl (F.ev rfl)) rfl rfl ?_; clear F; intro φ F
        refine nx ?_
        refine wp_seq ?_
        refine wp_seq ?_
        -- region 16
        refine wp_region_lit ?_
        refine sq_pure F (wt0 rfl) (pu_move rfl (F.ev rfl)) rfl rfl ?_; clear F; intro φ F
        refine sq_pure F (wt0 rfl) (pu_len rfl (F.ev rfl) sl42 (M.rv (i := 0) rfl)) rfl rfl ?_; clear F; intro φ F
        refine sq_pure F (wt0 rfl) (pu_gtr rfl (F.ev rfl) (evk)) rfl rfl ?_; clear F; intro φ F
        refine nx ?_
        cases hs5 : (decide (64 < (((minL (sumsP K L)).length : Nat) : Int)))
        · rw [hs5] at F
          have hs5i := of_decide_eq_false hs5
          refine wp_cond_false (F.ev rfl) ?_
          refine wp_skip ?_
          refine nxq ?_
          refine wp_seq ?_
          -- region 18
          refine wp_region_lit ?_
          refine sq_pure F (wt0 rfl) (pu_move rfl (F.ev rfl)) rfl rfl ?_; clear F; intro φ F
          refine sq_pure F (wt0 rfl) (pu_assign rfl (F.ev rfl)) rfl rfl ?_; clear F; intro φ F
          refine sq_pure F (wt0 rfl) (pu_assign rfl (evk)) rfl rfl ?_; clear F; intro φ F
          refine nx ?_
          refine wp_ret ?_
          refine rt_tmp2 F rfl rfl rfl ?_
          have z := each_yes hs1 hs2 (by omega)
          rw [z.1, z.2]
          exact ⟨_, rfl, M.bel, M.owB (i := 0) rfl⟩
        · rw [hs5] at F
          have hs5i := of_decide_eq_true hs5
          refine wp_cond_true (F.ev rfl) ?_
          refine wp_seq ?_
          -- region 17
          refine wp_region_lit ?_
          refine sq_pure F (wt0 rfl) (pu_assign rfl (evk)) rfl rfl ?_; clear F; intro φ F
          refine sq_pure F (wt0 rfl) (pu_assign rfl (evk)) rfl rfl ?_; clear F; intro φ F
          refine nx ?_
          refine wp_ret ?_
          refine nxr ?_
          refine rt_tmp2 F rfl rfl rfl ?_
          have z := each_many (A := K) (B := L) (by omega)
          rw [z.1, z.2]
          exact ⟨_, rfl, M.bel, World.ownsRow_nil _ _ _ _⟩
      · rw [hs4] at F
        have hs4i := of_decide_eq_true hs4
        refine wp_cond_true (F.ev rfl) ?_
        refine wp_skip ?_
        refine nxq ?_
        refine wp_seq ?_
        refine wp_block ?_
        refine wp_seq ?_
        -- region 6
        refine wp_region_lit ?_
        refine sq_pure F (wt0 rfl) (pu_ix rfl (F.ev rfl) (F.ev rfl) sl29 (M.av (i := 1) rfl) (by omega) (by omega)) rfl rfl ?_; clear F; intro φ F
        refine sq_rd F (wt0 rfl) (ld_el rfl (F.ev rfl) agg23 (fun _ e => e ▸ (M.av (i := 1) rfl)) (by omega) (cS_at (by first | omega | (simp; done) | (simp; omega))) rfl) rfl rfl ?_; clear F; intro φ F
        refine sq_alloc F M (wt0 rfl) rfl z23 rfl rfl ?_; clear F M; intro φ ω g1 F M
        refine sq_stA F M (wt0 rfl) rfl (F.ev rfl) (F.ev rfl) (i := 0) rfl agg23 rfl rfl rfl rfl ?_; clear M; intro ω M
        refine nx ?_
        refine wp_seq ?_
        -- region 7
        refine wp_region_lit ?_
        refine sq_pure F (wt0 rfl) (pu_move rfl (F.ev rfl)) rfl rfl ?_; clear F; intro φ F
        refine sq_pure F (wt0 rfl) (pu_len rfl (F.ev rfl) sl29 (M.av (i := 3) rfl)) rfl rfl ?_; clear F; intro φ F
        refine sq_pure F (wt0 rfl) (pu_move rfl (evk)) rfl rfl ?_; clear F; intro φ F
        refine nx ?_
        refine wp_block ?_
        refine lp (σ := Int) (fun k φ' w' => ∃ vs : Value, Fr φ' 53 [(1, v), (8, .pointer (some ⟨g1, 0, none⟩)), (22, u), (23, .int .i64 ((K.length : Nat) : Int)), (24, .int .i64 i), (28, v), (29, .int .i64 ((L.length : Nat) : Int)), (6, vs), (30, .int .i64 k)] ∧ Mm [] w w' [.blk g1 23 #[.int .i64 ((atS K i.toNat).e), .int .i64 ((atS K i.toNat).r)], .row 23 2 vs ((partP K L i.toNat k.toNat).length) (cS (partP K L i.toNat k.toNat)), .arg 2 u K.length (cS K), .arg 2 v L.length (cS L)] ∧ (0 ≤ k) ∧ (k ≤ ((L.length : Nat) : Int)) ∧ ((partP K L i.toNat k.toNat).length ≤ 5000)) (fun k => (((L.length : Nat) : Int) - k).toNat) (0) ⟨vq, (((((((((F.nil.cons (F.get (k := 30) rfl)).cons (F.get (k := 6) rfl)).cons (F.get (k := 29) rfl)).cons (F.get (k := 28) rfl)).cons (F.get (k := 24) rfl)).cons (F.get (k := 23) rfl)).cons (F.get (k := 22) rfl)).cons (F.get (k := 8) rfl)).cons (F.get (k := 1) rfl)), M, Int.le_refl _, by omega, part_len (by omega) (by omega) _ _⟩ ?_
        clear F M
        rintro k φ ω ⟨vs, F, M, hp6_0, hp6_1, hp6_2⟩
        refine wp_seq ?_
        -- region 8
        refine wp_region_lit ?_
        refine sq_pure F (wt0 rfl) (pu_lss rfl (F.ev rfl) (F.ev rfl)) rfl rfl ?_; clear F; intro φ F
        refine nx ?_
        refine wp_seq ?_
        cases hs7 : (decide (k < ((L.length : Nat) : Int)))
        · rw [hs7] at F
          have hs7i := of_decide_eq_false hs7
          refine wp_cond_false (F.ev rfl) ?_
          refine wp_exit ?_
          refine nxe ?_
          refine nxe ?_
          refine nxm ?_
          refine nxb ?_
          refine nxq ?_
          -- region 14
          refine wp_region_lit ?_
          refine sq_pure F (wt0 rfl) (pu_add rfl (F.ev rfl) (evk) (by omega) (by omega)) rfl rfl ?_; clear F; intro φ F
          refine sq_pure F (wt0 rfl) (pu_move rfl (F.ev rfl)) rfl rfl ?_; clear F; intro φ F
          refine wpList_nil ?_
          exact ⟨i + 1, by omega, vs, (((((F.nil.cons (F.get (k := 24) rfl)).cons (F.get (k := 6) rfl)).cons (F.get (k := 23) rfl)).cons (F.get (k := 22) rfl)).cons (F.get (k := 1) rfl)), (by rw [← part_row (by omega) (by omega) hs7i]; exact (M.sub (.cons _ (List.Sublist.refl _)))), by omega, by omega⟩
        · rw [hs7] at F
          have hs7i := of_decide_eq_true hs7
          refine wp_cond_true (F.ev rfl) ?_
          refine wp_skip ?_
          refine nxq ?_
          refine wp_seq ?_
          refine wp_block ?_
          refine wp_seq ?_
          -- region 9
          refine wp_region_lit ?_
          refine sq_pure F (wt0 rfl) (pu_ix rfl (F.ev rfl) (F.ev rfl) sl29 (M.av (i := 3) rfl) (by omega) (by omega)) rfl rfl ?_; clear F; intro φ F
          refine sq_rd F (wt0 rfl) (ld_el rfl (F.ev rfl) agg23 (fun _ e => e ▸ (M.av (i := 3) rfl)) (by omega) (cS_at (by first | omega | (simp; done) | (simp; omega))) rfl) rfl rfl ?_; clear F; intro φ F
          refine sq_alloc F M (wt0 rfl) rfl z23 rfl rfl ?_; clear F M; intro φ ω g2 F M
          refine sq_stA F M (wt0 rfl) rfl (F.ev rfl) (F.ev rfl) (i := 0) rfl agg23 rfl rfl rfl rfl ?_; clear M; intro ω M
          refine nx ?_
          refine wp_seq ?_
          -- region 10
          refine wp_region_lit ?_
          refine sq_rd F (wt0 rfl) (ld_agg rfl (F.ev rfl) agg23 (M.rd (i := 1) rfl) rfl) rfl rfl ?_; clear F; intro φ F
          refine sq_rd F (wt0 rfl) (ld_agg rfl (F.ev rfl) agg23 (M.rd (i := 0) rfl) rfl) rfl rfl ?_; clear F; intro φ F
          refine sq_call F M (wt0 rfl) rfl en12 (evc (F.ev rfl) (evc (F.ev rfl) evn)) (path_then_any (atS K i.toNat) (atS L k.toNat) _) rfl rfl ?_; clear F M; intro φ ω F M
          refine sq_pure F (wt0 rfl) (pu_move rfl (F.ev rfl)) rfl rfl ?_; clear F; intro φ F
          refine sq_pure F (wt0 rfl) (pu_extract rfl (F.ev rfl) rfl) rfl rfl ?_; clear F; intro φ F
          refine sq_pure F (wt0 rfl) (pu_extract rfl (F.ev rfl) rfl) rfl rfl ?_; clear F; intro φ F
          refine sq_alloc F M (wt0 rfl) rfl z23 rfl rfl ?_; clear F M; intro φ ω g3 F M
          refine sq_stA F M (wt0 rfl) rfl (F.ev rfl) (F.ev rfl) (i := 0) rfl agg23 rfl rfl rfl rfl ?_; clear M; intro ω M
          refine sq_pure F (wt0 rfl) (pu_assign rfl (F.ev rfl)) rfl rfl ?_; clear F; intro φ F
          refine nx ?_
          refine wp_seq ?_
          -- region 11
          refine wp_region_lit ?_
          refine sq_pure F (wt0 rfl) (pu_move rfl (F.ev rfl)) rfl rfl ?_; clear F; intro φ F
          refine nx ?_
          cases hs8 : ((atS K i.toNat).afterB (atS L k.toNat))
          · rw [hs8] at F
            refine wp_cond_false (F.ev rfl) ?_
            refine wp_skip ?_
            refine nxb ?_
            refine nxq ?_
            -- region 13
            refine wp_region_lit ?_
            refine sq_pure F (wt0 rfl) (pu_add rfl (F.ev rfl) (evk) (by omega) (by omega)) rfl rfl ?_; clear F; intro φ F
            refine sq_pure F (wt0 rfl) (pu_move rfl (F.ev rfl)) rfl rfl ?_; clear F; intro φ F
            refine wpList_nil ?_
            exact ⟨k + 1, by omega, vs, (((((((((F.nil.cons (F.get (k := 30) rfl)).cons (F.get (k := 6) rfl)).cons (F.get (k := 29) rfl)).cons (F.get (k := 28) rfl)).cons (F.get (k := 24) rfl)).cons (F.get (k := 23) rfl)).cons (F.get (k := 22) rfl)).cons (F.get (k := 8) rfl)).cons (F.get (k := 1) rfl)), (by rw [← part_no (by omega) (by omega) hs8]; exact (M.sub (.cons _ (.cons _ (List.Sublist.refl _))))), by omega, by omega, part_len (by omega) (by omega) _ _⟩
          · rw [hs8] at F
            refine wp_cond_true (F.ev rfl) ?_
            -- region 12
            refine wp_region_lit ?_
            refine sq_pure F (wt0 rfl) (pu_move rfl (F.ev rfl)) rfl rfl ?_; clear F; intro φ F
            refine sq_rd F (wt0 rfl) (ld_agg rfl (F.ev rfl) agg23 (M.rd (i := 0) rfl) rfl) rfl rfl ?_; clear F; intro φ F
            refine sq_bs (e := 23) (m := 2) (k := 1) (parts := #[]) (cs := #[.int .i64 (((atS K i.toNat).after (atS L k.toNat)).e), .int .i64 (((atS K i.toNat).after (atS L k.toNat)).r)]) F M (wt0 rfl) (bs42_1 rfl (F.ev rfl) _) (by omega) rfl rfl rfl ?_; clear F M; intro φ ω g4 F M
            replace M : Mm [] w ω [.row 23 2 (.slice (some ⟨g4, 0, none⟩) 1 1) 1 (cS [((atS K i.toNat).after (atS L k.toNat))]), .blk g3 23 #[.int .i64 (((atS K i.toNat).after (atS L k.toNat)).e), .int .i64 (((atS K i.toNat).after (atS L k.toNat)).r)], .blk g2 23 #[.int .i64 ((atS L k.toNat).e), .int .i64 ((atS L k.toNat).r)], .blk g1 23 #[.int .i64 ((atS K i.toNat).e), .int .i64 ((atS K i.toNat).r)], .row 23 2 vs ((partP K L i.toNat k.toNat).length) (cS (partP K L i.toNat k.toNat)), .arg 2 u K.length (cS K), .arg 2 v L.length (cS L)] := M
            refine sq_app F M (wt0 rfl) rfl sl42.1 el23 (F.ev rfl) (i := 4) rfl (F.ev rfl) (M.rv (i := 0) rfl) (cS_ones _) (by first | omega | (simp only [List.length_append, List.length_cons, List.length_nil, List.length_singleton]; omega)) (by omega) rfl rfl ?_; clear F M; intro φ ω v2 F M
            replace M : Mm [] w ω [.row 23 2 (.slice (some ⟨g4, 0, none⟩) 1 1) 1 (cS [((atS K i.toNat).after (atS L k.toNat))]), .blk g3 23 #[.int .i64 (((atS K i.toNat).after (atS L k.toNat)).e), .int .i64 (((atS K i.toNat).after (atS L k.toNat)).r)], .blk g2 23 #[.int .i64 ((atS L k.toNat).e), .int .i64 ((atS L k.toNat).r)], .blk g1 23 #[.int .i64 ((atS K i.toNat).e), .int .i64 ((atS K i.toNat).r)], .row 23 2 v2 (((partP K L i.toNat k.toNat).length) + 1) ((cS (partP K L i.toNat k.toNat)) ++ (cS [((atS K i.toNat).after (atS L k.toNat))])), .arg 2 u K.length (cS K), .arg 2 v L.length (cS L)] := M
            rw [← cS_app, show ((partP K L i.toNat k.toNat).length) + 1 = ((partP K L i.toNat k.toNat) ++ [((atS K i.toNat).after (atS L k.toNat))]).length from by first | rfl | (simp; done) | (simp; omega)] at M
            refine sq_pure F (wt0 rfl) (pu_assign rfl (F.ev rfl)) rfl rfl ?_; clear F; intro φ F
            refine wpList_nil ?_
            refine nxb ?_
            refine nxq ?_
            -- region 13
            refine wp_region_lit ?_
            refine sq_pure F (wt0 rfl) (pu_add rfl (F.ev rfl) (evk) (by omega) (by omega)) rfl rfl ?_; clear F; intro φ F
            refine sq_pure F (wt0 rfl) (pu_move rfl (F.ev rfl)) rfl rfl ?_; clear F; intro φ F
            refine wpList_nil ?_
            exact ⟨k + 1, by omega, v2, (((((((((F.nil.cons (F.get (k := 30) rfl)).cons (F.get (k := 6) rfl)).cons (F.get (k := 29) rfl)).cons (F.get (k := 28) rfl)).cons (F.get (k := 24) rfl)).cons (F.get (k := 23) rfl)).cons (F.get (k := 22) rfl)).cons (F.get (k := 8) rfl)).cons (F.get (k := 1) rfl)), (by rw [← part_yes (by omega) (by omega) hs8]; exact (M.sub (.cons _ (.cons _ (.cons _ (List.Sublist.refl _)))))), by omega, by omega, part_len (by omega) (by omega) _ _⟩

end Go.Proofs.Ytpnimdcloanogaa
