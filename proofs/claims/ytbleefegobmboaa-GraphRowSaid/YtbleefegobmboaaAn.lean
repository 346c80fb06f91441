/- Package anti. Made by walks/anti.py. -/
import Derived.Test.YtbleefegobmboaaAm
import Derived.Test.YtbleefegobmboaaSc
import Derived.Test.YtbleefegobmboaaRh
namespace Go.Proofs.Ytbleefegobmboaa
open Go.RowKit Go.Sort
set_option maxRecDepth 100000
set_option linter.unusedSimpArgs false
set_option linter.unusedVariables false

theorem zel50 : (Try.prog.info? 50).map (fun i => (i.zero, i.size, i.bytes)) = some (some (.agg #[.int .i64 0, .int .i64 0]), 2, 16) := by kernel_rfl
set_option maxHeartbeats 1000000 in
theorem compact_any (L : List St) (gb n : Nat) (w : World) (hz : L.length = n) (hn : n ≤ 20000000) (hs : Ord L) (hB : Blk w gb 50 (cL L)) :
    Calls Try.prog 61 #[(.slice (some ⟨gb, 0, none⟩) n n)] w fun e w' => ∃ v K, e = .returned v ∧ Out [gb] w w' ∧ w'.ownsRow 0 50 2 v K.length (cS K) ∧ v.ownBlock = some gb ∧ Asc K ∧ ∀ t, t ∈ K ↔ t ∈ L := by
  refine enterF Try.func61 rfl 61 Try.ntmps61 [(.slice (some ⟨gb, 0, none⟩) n n)] rfl [(0, (.slice (some ⟨gb, 0, none⟩) n n))] rfl ?_
  intro φ F
  have M := Mm.start [gb] w
  replace M := M.addX (hB) (by simp) (by simp [Ent.fp] <;> omega)
  refine wp_seq ?_
  -- region 0
  refine wp_region_lit ?_
  refine sq_pure F (wt0 rfl) (pu_assign rfl (evk)) rfl rfl ?_; clear F; intro φ F
  refine nx ?_
  refine wp_seq ?_
  refine wp_seq ?_
  -- region 1
  refine wp_region_lit ?_
  refine sq_pure F (wt0 rfl) (pu_move rfl (F.ev rfl)) rfl rfl ?_; clear F; intro φ F
  refine sq_pure F (wt0 rfl) (pu_len rfl (F.ev rfl) sl67 (blk_rdS (M.at (i := 0) rfl) (by first | assumption | (simp only [List.length_set]; assumption) | (simp only [List.length_append, List.length_take, List.length_replicate]; omega)) (by omega))) rfl rfl ?_; clear F; intro φ F
  refine sq_pure F (wt0 rfl) (pu_lss rfl (F.ev rfl) (evk)) rfl rfl ?_; clear F; intro φ F
  refine nx ?_
  cases hs1 : (decide (((n : Nat) : Int) < 2))
  · rw [hs1] at F
    have hs1i := of_decide_eq_false hs1
    refine wp_cond_false (F.ev rfl) ?_
    refine wp_skip ?_
    refine nxq ?_
    refine wp_seq ?_
    refine wp_seq ?_
    -- region 3
    refine wp_region_lit ?_
    refine sq_pure F (wt0 rfl) (pu_assign rfl (evk)) rfl rfl ?_; clear F; intro φ F
    refine nx ?_
    refine wp_block ?_
    refine lp (σ := Int) (fun k φ' w' => Fr φ' 61 [(0, (.slice (some ⟨gb, 0, none⟩) n n)), (3, .int .i64 k)] ∧ Mm [gb] w w' [.blk gb 50 (cL L)] ∧ (1 ≤ k) ∧ (k ≤ (n : Int)) ∧ (∀ j, j + 1 < k.toNat → (atS L j).aheadB (atS L (j + 1)) = true)) (fun k => ((n : Int) - k).toNat) (1) ⟨((F.nil.cons (F.get (k := 3) rfl)).cons (F.get (k := 0) rfl)), M, by omega, by omega, fun j hj => absurd hj (by simp)⟩ ?_
    clear F M
    rintro k φ ω ⟨F, M, hp2_0, hp2_1, hp2_2⟩
    refine wp_seq ?_
    refine wp_seq ?_
    -- region 4
    refine wp_region_lit ?_
    refine sq_pure F (wt0 rfl) (pu_move rfl (F.ev rfl)) rfl rfl ?_; clear F; intro φ F
    refine sq_pure F (wt0 rfl) (pu_move rfl (F.ev rfl)) rfl rfl ?_; clear F; intro φ F
    refine sq_pure F (wt0 rfl) (pu_len rfl (F.ev rfl) sl67 (blk_rdS (M.at (i := 0) rfl) (by first | assumption | (simp only [List.length_set]; assumption) | (simp only [List.length_append, List.length_take, List.length_replicate]; omega)) (by omega))) rfl rfl ?_; clear F; intro φ F
    refine sq_pure F (wt0 rfl) (pu_lss rfl (F.ev rfl) (F.ev rfl)) rfl rfl ?_; clear F; intro φ F
    refine nx ?_
    cases hs3 : (decide (k < ((n : Nat) : Int)))
    · rw [hs3] at F
      have hs3i := of_decide_eq_false hs3
      refine wp_cond_false (F.ev rfl) ?_
      refine wp_exit ?_
      refine nxe ?_
      refine nxe ?_
      refine nxm ?_
      refine nxq ?_
      refine wp_seq ?_
      -- region 16
      refine wp_region_lit ?_
      refine sq_pure F (wt0 rfl) (pu_move rfl (F.ev rfl)) rfl rfl ?_; clear F; intro φ F
      refine sq_pure F (wt0 rfl) (pu_assign rfl (F.ev rfl)) rfl rfl ?_; clear F; intro φ F
      refine nx ?_
      refine wp_ret ?_
      refine rt_tmp F rfl rfl ?_
      exact ⟨_, L, rfl, M.out, by rw [hz]; exact own_whole (M.at (i := 0) rfl) hz (by omega), rfl, asc_of (fun j hj => hp2_2 j (by omega)), fun t => Iff.rfl⟩
    · rw [hs3] at F
      have hs3i := of_decide_eq_true hs3
      refine wp_cond_true (F.ev rfl) ?_
      refine wp_skip ?_
      refine nxq ?_
      refine wp_seq ?_
      refine wp_block ?_
      refine wp_seq ?_
      -- region 6
      refine rg_quiet M mixedOK (by kernel_rfl) ?_
      refine qt_pure F (wt0 rfl) (pu_move rfl (F.ev rfl)) rfl rfl ?_; clear F; intro φ F
      refine qt_pure F (wt0 rfl) (pu_move rfl (F.ev rfl)) rfl rfl ?_; clear F; intro φ F
      refine qt_pure F (wt0 rfl) (pu_ix rfl (F.ev rfl) (F.ev rfl) sl67 (blk_rdS (M.at (i := 0) rfl) (by first | assumption | (simp only [List.length_set]; assumption) | (simp only [List.length_append, List.length_take, List.length_replicate]; omega)) (by omega)) (by omega) (by omega)) rfl rfl ?_; clear F; intro φ F
      refine qt_rd F (wt0 rfl) (ld_el rfl (F.ev rfl) agg50 (fun _ h => RdV.below (blk_rdS (M.at (i := 0) rfl) (by first | assumption | (simp only [List.length_set]; assumption) | (simp only [List.length_append, List.length_take, List.length_replicate]; omega)) (by omega)) h) (by omega) (cS_at (by first | omega | (simp; done) | (simp; omega))) rfl) rfl rfl ?_; clear F; intro φ F
      refine qt_pure F (wt0 rfl) (pu_move rfl (F.ev rfl)) rfl rfl ?_; clear F; intro φ F
      refine qt_pure F (wt0 rfl) (pu_move rfl (F.ev rfl)) rfl rfl ?_; clear F; intro φ F
      refine qt_pure F (wt0 rfl) (pu_sub rfl (F.ev rfl) (evk) (by omega) (by omega)) rfl rfl ?_; clear F; intro φ F
      refine qt_pure F (wt0 rfl) (pu_ix rfl (F.ev rfl) (F.ev rfl) sl67 (blk_rdS (M.at (i := 0) rfl) (by first | assumption | (simp only [List.length_set]; assumption) | (simp only [List.length_append, List.length_take, List.length_replicate]; omega)) (by omega)) (by omega) (by omega)) rfl rfl ?_; clear F; intro φ F
      refine qt_rd F (wt0 rfl) (ld_el rfl (F.ev rfl) agg50 (fun _ h => RdV.below (blk_rdS (M.at (i := 0) rfl) (by first | assumption | (simp only [List.length_set]; assumption) | (simp only [List.length_append, List.length_take, List.length_replicate]; omega)) (by omega)) h) (by omega) (cS_at (by first | omega | (simp; done) | (simp; omega))) rfl) rfl rfl ?_; clear F; intro φ F
      refine qt_pure F (wt0 rfl) (pu_eqlA rfl (F.ev rfl) (F.ev rfl) eqg50 (fun w => eqS50 (atS L k.toNat) (atS L ((k - 1).toNat)) w)) rfl rfl ?_; clear F; intro φ F
      refine wpQuiet_nil ?_
      clear M; intro ω M
      refine nxq ?_
      cases hs4 : (decide ((atS L k.toNat) = (atS L ((k - 1).toNat))))
      · rw [hs4] at F
        have hs4i := of_decide_eq_false hs4
        refine wp_cond_false (F.ev rfl) ?_
        refine wp_skip ?_
        refine nxb ?_
        refine nxq ?_
        -- region 5
        refine wp_region_lit ?_
        refine sq_pure F (wt0 rfl) (pu_move rfl (F.ev rfl)) rfl rfl ?_; clear F; intro φ F
        refine sq_pure F (wt0 rfl) (pu_add rfl (F.ev rfl) (evk) (by omega) (by omega)) rfl rfl ?_; clear F; intro φ F
        refine sq_pure F (wt0 rfl) (pu_assign rfl (F.ev rfl)) rfl rfl ?_; clear F; intro φ F
        refine wpList_nil ?_
        exact ⟨k + 1, by omega, ((F.nil.cons (F.get (k := 3) rfl)).cons (F.get (k := 0) rfl)), M, by omega, by omega, ord_go hs (by omega) (by omega) hp2_2 hs4i⟩
      · rw [hs4] at F
        have hs4i := of_decide_eq_true hs4
        refine wp_cond_true (F.ev rfl) ?_
        refine wp_seq ?_
        -- region 7
        refine wp_region_lit ?_
        refine sq_pure F (wt0 rfl) (pu_move rfl (F.ev rfl)) rfl rfl ?_; clear F; intro φ F
        refine sq_pure F (wt0 rfl) (pu_move rfl (F.ev rfl)) rfl rfl ?_; clear F; intro φ F
        refine sq_pure F (wt0 rfl) (pu_slice1 rfl (F.ev rfl) (F.ev rfl) sl67 (blk_rdS (M.at (i := 0) rfl) (by first | assumption | (simp only [List.length_set]; assumption) | (simp only [List.length_append, List.length_take, List.length_replicate]; omega)) (by omega)) (by omega) (by omega)) rfl rfl ?_; clear F; intro φ F
        refine sq_pure F (wt0 rfl) (pu_assign rfl (F.ev rfl)) rfl rfl ?_; clear F; intro φ F
        refine nx ?_
        refine wp_seq ?_
        refine wp_seq ?_
        -- region 8
        refine wp_region_lit ?_
        refine sq_pure F (wt0 rfl) (pu_assign rfl (evk)) rfl rfl ?_; clear F; intro φ F
        refine nx ?_
        refine wp_cut (fun φ' w' => ∃ kk : Int, ∃ k2 : Int, ∃ K : List St, Fr φ' 61 [(0, (.slice (some ⟨gb, 0, none⟩) n n)), (3, .int .i64 kk)] ∧ Mm [gb] w w' [.blk gb 50 (cL K)] ∧ (0 ≤ kk) ∧ (CInv L K k.toNat k2.toNat kk.toNat) ∧ (K.length = n) ∧ ((n : Int) ≤ k + k2) ∧ (kk + 1 ≤ k + k2) ∧ (k + k2 ≤ (n : Int))) ?_ ?_
        · skip
          refine wp_block ?_
          refine lp (σ := Int) (fun k2 φ' w' => ∃ kk : Int, ∃ K : List St, Fr φ' 61 [(0, (.slice (some ⟨gb, 0, none⟩) n n)), (4, (subS 2 k.toNat n (.slice (some ⟨gb, 0, none⟩) n n))), (3, .int .i64 kk), (5, .int .i64 k2)] ∧ Mm [gb] w w' [.blk gb 50 (cL K)] ∧ (1 ≤ k2) ∧ (0 ≤ kk) ∧ (CInv L K k.toNat k2.toNat kk.toNat) ∧ (K.length = n) ∧ (kk + 1 ≤ k + k2) ∧ (k + k2 ≤ (n : Int))) (fun k2 => ((n : Int) - k2).toNat) (1) ⟨k, L, ((((F.nil.cons (F.get (k := 5) rfl)).cons (F.get (k := 3) rfl)).cons (F.get (k := 4) rfl)).cons (F.get (k := 0) rfl)), M, by omega, by omega, by have e := hs4i; rw [show (k - 1).toNat = k.toNat - 1 by omega] at e; exact CInv.start (by omega) (by omega) hp2_2 e, hz, by omega, by omega⟩ ?_
          clear F M
          rintro k2 φ ω ⟨kk, K, F, M, hp5_0, hp5_1, hp5_2, hp5_3, hp5_4, hp5_5⟩
          refine wp_seq ?_
          refine wp_seq ?_
          -- region 9
          refine wp_region_lit ?_
          refine sq_pure F (wt0 rfl) (pu_move rfl (F.ev rfl)) rfl rfl ?_; clear F; intro φ F
          refine sq_pure F (wt0 rfl) (pu_move rfl (F.ev rfl)) rfl rfl ?_; clear F; intro φ F
          refine sq_pure F (wt0 rfl) (pu_len rfl (F.ev rfl) sl67 (sub_rv (blk_rdS (M.at (i := 0) rfl) (by first | assumption | (simp only [List.length_set]; assumption) | (simp only [List.length_append, List.length_take, List.length_replicate]; omega)) (by omega)) (by first | assumption | (simp only [List.length_set]; assumption) | (simp only [List.length_append, List.length_take, List.length_replicate]; omega)) (by omega))) rfl rfl ?_; clear F; intro φ F
          refine sq_pure F (wt0 rfl) (pu_lss rfl (F.ev rfl) (F.ev rfl)) rfl rfl ?_; clear F; intro φ F
          refine nx ?_
          cases hs6 : (decide (k2 < (((n - k.toNat) : Nat) : Int)))
          · rw [hs6] at F
            have hs6i := of_decide_eq_false hs6
            refine wp_cond_false (F.ev rfl) ?_
            refine wp_exit ?_
            refine nxe ?_
            refine nxe ?_
            refine nxm ?_
            exact ⟨kk, k2, K, ((F.nil.cons (F.get (k := 3) rfl)).cons (F.get (k := 0) rfl)), M, by omega, hp5_2, by assumption, by omega, by omega, by omega⟩
          · rw [hs6] at F
            have hs6i := of_decide_eq_true hs6
            refine wp_cond_true (F.ev rfl) ?_
            refine wp_skip ?_
            refine nxq ?_
            refine wp_seq ?_
            refine wp_block ?_
            refine wp_seq ?_
            -- region 11
            refine rg_quiet M mixedOK (by kernel_rfl) ?_
            refine qt_pure F (wt0 rfl) (pu_move rfl (F.ev rfl)) rfl rfl ?_; clear F; intro φ F
            refine qt_pure F (wt0 rfl) (pu_move rfl (F.ev rfl)) rfl rfl ?_; clear F; intro φ F
            refine qt_pure F (wt0 rfl) (pu_ix rfl (F.ev rfl) (F.ev rfl) sl67 (sub_rv (blk_rdS (M.at (i := 0) rfl) (by first | assumption | (simp only [List.length_set]; assumption) | (simp only [List.length_append, List.length_take, List.length_replicate]; omega)) (by omega)) (by first | assumption | (simp only [List.length_set]; assumption) | (simp only [List.length_append, List.length_take, List.length_replicate]; omega)) (by omega)) (by omega) (by omega)) rfl rfl ?_; clear F; intro φ F
            refine qt_rd F (wt0 rfl) (ld_el rfl (F.ev rfl) agg50 (fun _ h => RdV.below (sub_rv (blk_rdS (M.at (i := 0) rfl) (by first | assumption | (simp only [List.length_set]; assumption) | (simp only [List.length_append, List.length_take, List.length_replicate]; omega)) (by omega)) (by first | assumption | (simp only [List.length_set]; assumption) | (simp only [List.length_append, List.length_take, List.length_replicate]; omega)) (by omega)) h) (by omega) (cS_at (by first | omega | (simp; done) | (simp; omega))) rfl) rfl rfl ?_; clear F; intro φ F
            refine qt_pure F (wt0 rfl) (pu_move rfl (F.ev rfl)) rfl rfl ?_; clear F; intro φ F
            refine qt_pure F (wt0 rfl) (pu_move rfl (F.ev rfl)) rfl rfl ?_; clear F; intro φ F
            refine qt_pure F (wt0 rfl) (pu_sub rfl (F.ev rfl) (evk) (by omega) (by omega)) rfl rfl ?_; clear F; intro φ F
            refine qt_pure F (wt0 rfl) (pu_ix rfl (F.ev rfl) (F.ev rfl) sl67 (sub_rv (blk_rdS (M.at (i := 0) rfl) (by first | assumption | (simp only [List.length_set]; assumption) | (simp only [List.length_append, List.length_take, List.length_replicate]; omega)) (by omega)) (by first | assumption | (simp only [List.length_set]; assumption) | (simp only [List.length_append, List.length_take, List.length_replicate]; omega)) (by omega)) (by omega) (by omega)) rfl rfl ?_; clear F; intro φ F
            refine qt_rd F (wt0 rfl) (ld_el rfl (F.ev rfl) agg50 (fun _ h => RdV.below (sub_rv (blk_rdS (M.at (i := 0) rfl) (by first | assumption | (simp only [List.length_set]; assumption) | (simp only [List.length_append, List.length_take, List.length_replicate]; omega)) (by omega)) (by first | assumption | (simp only [List.length_set]; assumption) | (simp only [List.length_append, List.length_take, List.length_replicate]; omega)) (by omega)) h) (by omega) (cS_at (by first | omega | (simp; done) | (simp; omega))) rfl) rfl rfl ?_; clear F; intro φ F
            cases hs7 : (decide ((atS (K.drop k.toNat) k2.toNat) = (atS (K.drop k.toNat) ((k2 - 1).toNat))))
            · skip
              have hs7i := of_decide_eq_false hs7
              refine qt_pure F (wt0 rfl) (pu_neqA rfl (F.ev rfl) (F.ev rfl) eqg50 (fun w => eqS50 (atS (K.drop k.toNat) k2.toNat) (atS (K.drop k.toNat) ((k2 - 1).toNat)) w)) rfl rfl ?_; clear F; intro φ F
              rw [hs7, show (!false) = true from rfl] at F
              refine wpQuiet_nil ?_
              clear M; intro ω M
              refine nxq ?_
              refine wp_cond_true (F.ev rfl) ?_
              refine wp_seq ?_
              -- region 12
              refine wp_region_lit ?_
              refine sq_pure F (wt0 rfl) (pu_move rfl (F.ev rfl)) rfl rfl ?_; clear F; intro φ F
              refine sq_pure F (wt0 rfl) (pu_move rfl (F.ev rfl)) rfl rfl ?_; clear F; intro φ F
              refine sq_pure F (wt0 rfl) (pu_move rfl (F.ev rfl)) rfl rfl ?_; clear F; intro φ F
              refine sq_pure F (wt0 rfl) (pu_move rfl (F.ev rfl)) rfl rfl ?_; clear F; intro φ F
              refine sq_pure F (wt0 rfl) (pu_ix rfl (F.ev rfl) (F.ev rfl) sl67 (sub_rv (blk_rdS (M.at (i := 0) rfl) (by first | assumption | (simp only [List.length_set]; assumption) | (simp only [List.length_append, List.length_take, List.length_replicate]; omega)) (by omega)) (by first | assumption | (simp only [List.length_set]; assumption) | (simp only [List.length_append, List.length_take, List.length_replicate]; omega)) (by omega)) (by omega) (by omega)) rfl rfl ?_; clear F; intro φ F
              refine sq_rd F (wt0 rfl) (ld_el rfl (F.ev rfl) agg50 (fun _ e => e ▸ (sub_rv (blk_rdS (M.at (i := 0) rfl) (by first | assumption | (simp only [List.length_set]; assumption) | (simp only [List.length_append, List.length_take, List.length_replicate]; omega)) (by omega)) (by first | assumption | (simp only [List.length_set]; assumption) | (simp only [List.length_append, List.length_take, List.length_replicate]; omega)) (by omega))) (by omega) (cS_at (by first | omega | (simp; done) | (simp; omega))) rfl) rfl rfl ?_; clear F; intro φ F
              refine sq_pure F (wt0 rfl) (pu_ix rfl (F.ev rfl) (F.ev rfl) sl67 (blk_rdS (M.at (i := 0) rfl) (by first | assumption | (simp only [List.length_set]; assumption) | (simp only [List.length_append, List.length_take, List.length_replicate]; omega)) (by omega)) (by omega) (by omega)) rfl rfl ?_; clear F; intro φ F
              refine sq_stL (s := (atS (K.drop k.toNat) k2.toNat)) (j := kk.toNat) F M (wt0 rfl) rfl (F.ev rfl) (F.ev rfl) (i := 0) rfl (by omega) agg50 rfl ?_; clear M; intro ω M
              refine nx ?_
              -- region 13
              refine wp_region_lit ?_
              refine sq_pure F (wt0 rfl) (pu_move rfl (F.ev rfl)) rfl rfl ?_; clear F; intro φ F
              refine sq_pure F (wt0 rfl) (pu_add rfl (F.ev rfl) (evk) (by omega) (by omega)) rfl rfl ?_; clear F; intro φ F
              refine sq_pure F (wt0 rfl) (pu_assign rfl (F.ev rfl)) rfl rfl ?_; clear F; intro φ F
              refine wpList_nil ?_
              refine nxb ?_
              refine nxq ?_
              -- region 10
              refine wp_region_lit ?_
              refine sq_pure F (wt0 rfl) (pu_move rfl (F.ev rfl)) rfl rfl ?_; clear F; intro φ F
              refine sq_pure F (wt0 rfl) (pu_add rfl (F.ev rfl) (evk) (by omega) (by omega)) rfl rfl ?_; clear F; intro φ F
              refine sq_pure F (wt0 rfl) (pu_assign rfl (F.ev rfl)) rfl rfl ?_; clear F; intro φ F
              refine wpList_nil ?_
              exact ⟨k2 + 1, by omega, kk + 1, _, ((((F.nil.cons (F.get (k := 5) rfl)).cons (F.get (k := 3) rfl)).cons (F.get (k := 4) rfl)).cons (F.get (k := 0) rfl)), M, by omega, by omega, by rw [show (k2 + 1).toNat = k2.toNat + 1 by omega, show (kk + 1).toNat = kk.toNat + 1 by omega, atS_drop]; exact (hp5_2).put hs (by omega) (by have e := hs7i; rw [atS_drop, atS_drop, show (k2 - 1).toNat = k2.toNat - 1 by omega] at e; exact e), by simp only [List.length_set]; assumption, by omega, by omega⟩
            · skip
              have hs7i := of_decide_eq_true hs7
              refine qt_pure F (wt0 rfl) (pu_neqA rfl (F.ev rfl) (F.ev rfl) eqg50 (fun w => eqS50 (atS (K.drop k.toNat) k2.toNat) (atS (K.drop k.toNat) ((k2 - 1).toNat)) w)) rfl rfl ?_; clear F; intro φ F
              rw [hs7, show (!true) = false from rfl] at F
              refine wpQuiet_nil ?_
              clear M; intro ω M
              refine nxq ?_
              refine wp_cond_false (F.ev rfl) ?_
              refine wp_skip ?_
              refine nxb ?_
              refine nxq ?_
              -- region 10
              refine wp_region_lit ?_
              refine sq_pure F (wt0 rfl) (pu_move rfl (F.ev rfl)) rfl rfl ?_; clear F; intro φ F
              refine sq_pure F (wt0 rfl) (pu_add rfl (F.ev rfl) (evk) (by omega) (by omega)) rfl rfl ?_; clear F; intro φ F
              refine sq_pure F (wt0 rfl) (pu_assign rfl (F.ev rfl)) rfl rfl ?_; clear F; intro φ F
              refine wpList_nil ?_
              exact ⟨k2 + 1, by omega, kk, K, ((((F.nil.cons (F.get (k := 5) rfl)).cons (F.get (k := 3) rfl)).cons (F.get (k := 4) rfl)).cons (F.get (k := 0) rfl)), M, by omega, by omega, by rw [show (k2 + 1).toNat = k2.toNat + 1 by omega]; exact (hp5_2).skip (by omega) (by have e := hs7i; rw [atS_drop, atS_drop, show (k2 - 1).toNat = k2.toNat - 1 by omega] at e; exact e), by assumption, by omega, by omega⟩
        · skip
          clear F M
          rintro φ ω ⟨kk, k2, K, F, M, hp8_0, hp8_1, hp8_2, hp8_3, hp8_4, hp8_5⟩
          refine nxq ?_
          refine wp_seq ?_
          -- region 14
          refine wp_region_lit ?_
          refine sq_pure F (wt0 rfl) (pu_move rfl (F.ev rfl)) rfl rfl ?_; clear F; intro φ F
          refine sq_pure F (wt0 rfl) (pu_move rfl (F.ev rfl)) rfl rfl ?_; clear F; intro φ F
          refine sq_pure F (wt0 rfl) (pu_slice1 rfl (F.ev rfl) (F.ev rfl) sl67 (blk_rdS (M.at (i := 0) rfl) (by first | assumption | (simp only [List.length_set]; assumption) | (simp only [List.length_append, List.length_take, List.length_replicate]; omega)) (by omega)) (by omega) (by omega)) rfl rfl ?_; clear F; intro φ F
          refine sq_clear F M (wt0 rfl) rfl (F.ev rfl) (i := 0) rfl (by have := hp8_1.h4; have := hp8_1.h2; omega) (Nat.le_refl _) (by assumption) sl67 zel50 rfl ?_; clear M; intro ω M
          refine nx ?_
          refine wp_seq ?_
          -- region 15
          refine wp_region_lit ?_
          refine sq_pure F (wt0 rfl) (pu_move rfl (F.ev rfl)) rfl rfl ?_; clear F; intro φ F
          refine sq_pure F (wt0 rfl) (pu_move rfl (F.ev rfl)) rfl rfl ?_; clear F; intro φ F
          refine sq_pure F (wt0 rfl) (pu_slice0 rfl (F.ev rfl) (F.ev rfl) sl67 (blk_rdS (M.at (i := 0) rfl) (by first | assumption | (simp only [List.length_set]; assumption) | (simp only [List.length_append, List.length_take, List.length_replicate]; omega)) (by omega)) (by omega) (by omega)) rfl rfl ?_; clear F; intro φ F
          refine sq_pure F (wt0 rfl) (pu_assign rfl (F.ev rfl)) rfl rfl ?_; clear F; intro φ F
          refine nx ?_
          refine wp_ret ?_
          refine nxrb ?_
          refine nxr ?_
          refine nxr ?_
          refine nxrb ?_
          refine nxr ?_
          refine rt_tmp F rfl rfl ?_
          have zz := hp8_1
          have z4 := zz.h4
          have z2 := zz.h2
          have zl : (K.take kk.toNat).length = kk.toNat := by rw [List.length_take]; omega
          exact ⟨_, K.take kk.toNat, rfl, M.out, by rw [zl]; exact own_first (M.at (i := 0) rfl) (by rw [List.length_append, zl, List.length_replicate]; omega) zl (by omega), first_spot _ _ _, (zz.fin (by omega)).1, (zz.fin (by omega)).2⟩
  · rw [hs1] at F
    have hs1i := of_decide_eq_true hs1
    refine wp_cond_true (F.ev rfl) ?_
    refine wp_seq ?_
    -- region 2
    refine wp_region_lit ?_
    refine sq_pure F (wt0 rfl) (pu_move rfl (F.ev rfl)) rfl rfl ?_; clear F; intro φ F
    refine sq_pure F (wt0 rfl) (pu_assign rfl (F.ev rfl)) rfl rfl ?_; clear F; intro φ F
    refine nx ?_
    refine wp_ret ?_
    refine nxr ?_
    refine rt_tmp F rfl rfl ?_
    exact ⟨_, L, rfl, M.out, by rw [hz]; exact own_whole (M.at (i := 0) rfl) hz (by omega), rfl, asc_short (by omega), fun t => Iff.rfl⟩

set_option maxHeartbeats 1000000 in
theorem closure_any (L : List St) (gb Bs n i j : Nat) (w : World) (hz : L.length = n) (hn : n ≤ 20000000) (hi : i < n) (hj : j < n) (hB : Blk w gb 50 (cL L)) (hb : Blk w Bs 67 #[.slice (some ⟨gb, 0, none⟩) n n]) :
    Calls Try.prog 59 #[.int .i64 ((i : Nat) : Int), .int .i64 ((j : Nat) : Int), .pointer (some ⟨Bs, 0, none⟩)] w fun e w' => e = .returned (.bool ((atS L i).aheadB (atS L j))) ∧ Below w.heap.size w w' := by
  refine enterF Try.func59 rfl 16 Try.ntmps59 [.int .i64 ((i : Nat) : Int), .int .i64 ((j : Nat) : Int), .pointer (some ⟨Bs, 0, none⟩)] rfl [(0, .int .i64 ((i : Nat) : Int)), (1, .int .i64 ((j : Nat) : Int)), (2, .pointer (some ⟨Bs, 0, none⟩))] rfl ?_
  intro φ F
  have M := Mm.start [] w
  refine wp_seq ?_
  -- region 0
  refine wp_region_lit ?_
  refine sq_pure F (wt0 rfl) (pu_assign rfl (evk)) rfl rfl ?_; clear F; intro φ F
  refine nx ?_
  refine wp_seq ?_
  -- region 1
  refine rg_quiet M mixedOK (by kernel_rfl) ?_
  refine qt_rd F (wt0 rfl) (ld_cell rfl (F.ev rfl) one67 (fun _ h => (M.out.blk hb (by first | (simp; done) | assumption)).below h (M.out.blk hb (by first | (simp; done) | assumption)).lt) rfl) rfl rfl ?_; clear F; intro φ F
  refine qt_pure F (wt0 rfl) (pu_move rfl (F.ev rfl)) rfl rfl ?_; clear F; intro φ F
  refine qt_pure F (wt0 rfl) (pu_ix rfl (F.ev rfl) (F.ev rfl) sl67 (blk_rdS (M.out.blk hB (by simp)) hz (by omega)) (by omega) (by omega)) rfl rfl ?_; clear F; intro φ F
  refine qt_rd F (wt0 rfl) (ld_el rfl (F.ev rfl) agg50 (fun _ h => RdV.below (blk_rdS (M.out.blk hB (by simp)) hz (by omega)) h) (by omega) (cS_at (by first | omega | (simp; done) | (simp; omega))) rfl) rfl rfl ?_; clear F; intro φ F
  refine qt_rd F (wt0 rfl) (ld_cell rfl (F.ev rfl) one67 (fun _ h => (M.out.blk hb (by first | (simp; done) | assumption)).below h (M.out.blk hb (by first | (simp; done) | assumption)).lt) rfl) rfl rfl ?_; clear F; intro φ F
  refine qt_pure F (wt0 rfl) (pu_move rfl (F.ev rfl)) rfl rfl ?_; clear F; intro φ F
  refine qt_pure F (wt0 rfl) (pu_ix rfl (F.ev rfl) (F.ev rfl) sl67 (blk_rdS (M.out.blk hB (by simp)) hz (by omega)) (by omega) (by omega)) rfl rfl ?_; clear F; intro φ F
  refine qt_rd F (wt0 rfl) (ld_el rfl (F.ev rfl) agg50 (fun _ h => RdV.below (blk_rdS (M.out.blk hB (by simp)) hz (by omega)) h) (by omega) (cS_at (by first | omega | (simp; done) | (simp; omega))) rfl) rfl rfl ?_; clear F; intro φ F
  refine qt_call F (wt0 rfl) rfl en60 (evc (F.ev rfl) (evc (F.ev rfl) evn)) (fun w' h => calls_below h (cmp_any (atS L (((i : Nat) : Int).toNat)) (atS L (((j : Nat) : Int).toNat)) w')) rfl rfl ?_; clear F; intro φ F
  refine qt_pure F (wt0 rfl) (pu_lss rfl (F.ev rfl) (evk)) rfl rfl ?_; clear F; intro φ F
  refine qt_pure F (wt0 rfl) (pu_assign rfl (F.ev rfl)) rfl rfl ?_; clear F; intro φ F
  refine wpQuiet_nil ?_
  clear M; intro ω M
  refine nxq ?_
  refine wp_ret ?_
  refine rt_tmp F rfl rfl ?_
  exact ⟨by simp only [Int.toNat_natCast, cmp_lt], M.bel⟩

theorem less_ok (Bs gb n : Nat) (W0 : World) (hn : n ≤ 20000000) (hne : ¬ Bs ∈ [gb]) (hb : Blk W0 Bs 67 #[.slice (some ⟨gb, 0, none⟩) n n]) : LessOK Try.prog 59 #[.pointer (some ⟨Bs, 0, none⟩)] St.aheadB gb 50 n W0 fA := by
  intro d w i j hs hi hj ho hB
  rw [fA_cL] at hB
  have e : ∀ k, k < n → d[k]! = atS d.toList k := fun k hk => by rw [atS_eq (by simp; omega)]; simp [show k < d.size by omega]
  rw [e i hi, e j hj]
  exact closure_any d.toList gb Bs n i j w (by simpa using hs) hn hi hj hB (ho.blk hb hne)

set_option maxHeartbeats 1000000 in
theorem row_any (L : List St) (v : Value) (w : World) (hr : RdS w v L) (hlen : L.length ≤ 20000000) :
    Calls Try.prog 56 #[v] w fun e w' => ∃ v, e = .returned v ∧ Below w.heap.size w w' ∧ w'.ownsRow w.heap.size 50 2 v (rowL L).length (cS (rowL L)) := by
  refine enterF Try.func56 rfl 16 Try.ntmps56 [v] rfl [(0, v)] rfl ?_
  intro φ F
  have M := Mm.start [] w
  replace M := M.addArg (hr) (fun h_ => by first | (simp; done) | assumption | exact d3 h_ | (simp_all; done))
  refine wp_seq ?_
  -- region 0
  refine wp_region_lit ?_
  refine sq_pure F (wt0 rfl) (pu_assign rfl (evk)) rfl rfl ?_; clear F; intro φ F
  refine nx ?_
  refine wp_seq ?_
  -- region 1
  refine wp_region_lit ?_
  refine sq_pure F (wt0 rfl) (pu_move rfl (F.ev rfl)) rfl rfl ?_; clear F; intro φ F
  refine sq_pure F (wt0 rfl) (pu_len rfl (F.ev rfl) sl67 (M.av (i := 0) rfl)) rfl rfl ?_; clear F; intro φ F
  refine sq_make F M (wt0 rfl) rfl (F.ev rfl) (F.ev rfl) sl67.1 el50 (by omega) (by omega) rfl rfl ?_; clear F M; intro φ ω g1 g1c g1z F M
  refine sq_alloc F M (wt0 rfl) rfl z67 rfl rfl ?_; clear F M; intro φ ω g2 F M
  refine sq_stC F M (wt0 rfl) rfl (F.ev rfl) (F.ev rfl) (i := 0) rfl (by simp) si67 rfl rfl rfl ?_; clear M; intro ω M
  replace M : Mm [] w ω [.blk g2 67 #[(.slice (some ⟨g1, 0, none⟩) L.length L.length)], .blk g1 50 g1c, .arg 2 v L.length (cS L)] := M
  refine nx ?_
  refine wp_seq ?_
  -- region 2
  refine wp_region_lit ?_
  refine sq_rd F (wt0 rfl) (ld_cell rfl (F.ev rfl) one67 (M.rd (i := 0) rfl) rfl) rfl rfl ?_; clear F; intro φ F
  refine sq_pure F (wt0 rfl) (pu_move rfl (F.ev rfl)) rfl rfl ?_; clear F; intro φ F
  refine sq_copy (K := L) F M (wt0 rfl) rfl (F.ev rfl) (F.ev rfl) (i := 1) rfl g1z (M.av (i := 2) rfl) sl67 rfl rfl ?_; clear F M; intro φ ω F M
  refine nx ?_
  refine wp_seq ?_
  -- region 3
  refine wp_region_lit ?_
  refine sq_rd F (wt0 rfl) (ld_cell rfl (F.ev rfl) one67 (M.rd (i := 0) rfl) rfl) rfl rfl ?_; clear F; intro φ F
  refine sq_pure F (wt0 rfl) (pu_iface rfl (F.ev rfl) ⟨_, Try.underlying67, rfl⟩) rfl rfl ?_; clear F; intro φ F
  refine sq_pure F (wt0 rfl) (pu_func rfl (evc (F.ev rfl) evn)) rfl rfl ?_; clear F; intro φ F
  replace M : Mm [] w ω [.blk g2 67 #[(.slice (some ⟨g1, 0, none⟩) L.length L.length)], .blk g1 50 (fA L.toArray), .arg 2 v L.length (cS L)] := by rw [fA_cL]; exact M
  have hne : ¬ g2 ∈ [g1] := fun h => by have h1 := List.pairwise_iff_getElem.1 M.nd 0 1 (by simp) (by simp) (by omega); simp [Ent.fp] at h1; simp at h; omega
  refine sq_callX F M (wt0 rfl) rfl en58 (evc (F.ev rfl) (evc (F.ev rfl) evn)) (i := 1) (cA := fA) (d0 := L.toArray) rfl (sortS 59 #[.pointer (some ⟨g2, 0, none⟩)] St.aheadB swo_ahead en59 g1 L.length L.toArray _ hlen (M.at (i := 1) rfl) (less_ok g2 g1 L.length _ hlen hne (M.at (i := 0) rfl))) rfl rfl ?_; clear F M; rintro φ ω _ d5 ⟨rfl, hz5, hp5, ho5⟩ F M
  have hm5 : ∀ t, t ∈ d5.toList ↔ t ∈ L := fun t => mem_perm hp5 t
  have hr5 : Ord d5.toList := ord_of_sorted (by rw [hz5]; exact ho5)
  replace M : Mm [] w ω [.blk g2 67 #[(.slice (some ⟨g1, 0, none⟩) L.length L.length)], .blk g1 50 (cL d5.toList), .arg 2 v L.length (cS L)] := by rw [← fA_cL]; exact M
  refine nx ?_
  refine wp_seq ?_
  -- region 4
  refine wp_region_lit ?_
  refine sq_rd F (wt0 rfl) (ld_cell rfl (F.ev rfl) one67 (M.rd (i := 0) rfl) rfl) rfl rfl ?_; clear F; intro φ F
  refine sq_callT (Z := fun v x' => ∃ K, x' = .row 50 2 v K.length (cS K) ∧ Asc K ∧ ∀ t, t ∈ K ↔ t ∈ d5.toList) F M (wt0 rfl) rfl en61 (evc (F.ev rfl) evn) (i := 1) rfl (Calls.mono (compact_any d5.toList g1 L.length _ (by simpa using hz5) hlen hr5 (M.at (i := 1) rfl)) (by rintro e w' ⟨v, K, h1, h2, h3, h4, h5, h6⟩; exact ⟨v, .row 50 2 v K.length (cS K), h1, h2, h3, (fun g hg => .inl (by simpa [Ent.fp, h4] using hg)), rfl, K, rfl, h5, h6⟩)) rfl rfl ?_; clear F M; rintro φ ω v5 _ ⟨K5, rfl, ha5, hk5⟩ F M
  have he5 : K5 = rowL L := rowL_of ha5 (fun t => (hk5 t).trans (hm5 t))
  subst he5
  refine sq_pure F (wt0 rfl) (pu_assign rfl (F.ev rfl)) rfl rfl ?_; clear F; intro φ F
  refine nx ?_
  refine wp_ret ?_
  refine rt_tmp F rfl rfl ?_
  exact ⟨_, rfl, M.bel, M.owB (i := 1) rfl⟩

set_option maxHeartbeats 1000000 in
theorem min_any (L : List St) (v : Value) (w : World) (hr : RdS w v L) (hlen : L.length ≤ 20000000) :
    Calls Try.prog 52 #[v] w fun e w' => ∃ v, e = .returned v ∧ Below w.heap.size w w' ∧ w'.ownsRow w.heap.size 50 2 v (minL L).length (cS (minL L)) := by
  have hrl := rowL_len L
  refine enterF Try.func52 rfl 36 Try.ntmps52 [v] rfl [(0, v)] rfl ?_
  intro φ F
  have M := Mm.start [] w
  replace M := M.addArg (hr) (fun h_ => by first | (simp; done) | assumption | exact d3 h_ | (simp_all; done))
  refine wp_seq ?_
  -- region 0
  refine wp_region_lit ?_
  refine sq_pure F (wt0 rfl) (pu_assign rfl (evk)) rfl rfl ?_; clear F; intro φ F
  refine nx ?_
  refine wp_scope_straight ?_
  refine wp_seq ?_
  -- region 1
  refine wp_region_lit ?_
  refine sq_pure F (wt0 rfl) (pu_assign rfl (evk)) rfl rfl ?_; clear F; intro φ F
  refine nx ?_
  refine wp_seq ?_
  -- region 2
  refine wp_region_lit ?_
  refine sq_pure F (wt0 rfl) (pu_move rfl (F.ev rfl)) rfl rfl ?_; clear F; intro φ F
  refine sq_callN F M (wt0 rfl) rfl en56 (evc (F.ev rfl) evn) (row_any L _ _ (M.av (i := 0) rfl) (by omega)) rfl rfl ?_; clear F M; intro φ ω v1 F M
  refine sq_pure F (wt0 rfl) (pu_assign rfl (F.ev rfl)) rfl rfl ?_; clear F; intro φ F
  refine nx ?_
  refine wp_seq ?_
  refine wp_label ?_
  refine nxq ?_
  refine wp_seq ?_
  refine wp_block ?_
  refine lp (σ := Nat) (fun p φ' w' => ∃ vr : Value, ∃ vq : Value, ∃ Q : List St, Fr φ' 36 [(0, v), (3, vq), (4, vr)] ∧ Mm [] w w' [.row 50 2 vq Q.length (cS Q), .got 2 vr ((rowL L).length - p) (cS ((rowL L).drop p)), .arg 2 v L.length (cS L)] ∧ (MInv (rowL L) p Q) ∧ (Q.length ≤ p) ∧ (p ≤ (rowL L).length)) (fun p => (rowL L).length - p) (0) ⟨v1, (.slice none 0 0), [], (((F.nil.cons (F.get (k := 4) rfl)).cons (F.get (k := 3) rfl)).cons (F.get (k := 0) rfl)), (by have := (M.toGot (i := 0) rfl).nilRow 50 2; simpa [cS] using this), MInv.start _, by simp, by omega⟩ ?_
  clear F M
  rintro p φ ω ⟨vr, vq, Q, F, M, hp1_0, hp1_1, hp1_2⟩
  refine wp_seq ?_
  refine wp_seq ?_
  -- region 3
  refine wp_region_lit ?_
  refine sq_pure F (wt0 rfl) (pu_move rfl (F.ev rfl)) rfl rfl ?_; clear F; intro φ F
  refine sq_pure F (wt0 rfl) (pu_len rfl (F.ev rfl) sl67 (M.gv (i := 1) rfl)) rfl rfl ?_; clear F; intro φ F
  refine sq_pure F (wt0 rfl) (pu_gtr rfl (F.ev rfl) (evk)) rfl rfl ?_; clear F; intro φ F
  refine nx ?_
  cases hs2 : (decide (0 < ((((rowL L).length - p) : Nat) : Int)))
  · rw [hs2] at F
    have hs2i := of_decide_eq_false hs2
    refine wp_cond_false (F.ev rfl) ?_
    refine wp_exit ?_
    refine nxe ?_
    refine nxe ?_
    refine nxm ?_
    refine nxq ?_
    refine wp_seq ?_
    -- region 12
    refine wp_region_lit ?_
    refine sq_pure F (wt0 rfl) (pu_move rfl (F.ev rfl)) rfl rfl ?_; clear F; intro φ F
    refine sq_pure F (wt0 rfl) (pu_assign rfl (F.ev rfl)) rfl rfl ?_; clear F; intro φ F
    refine nx ?_
    refine wp_ret ?_
    refine nxsR ?_
    refine rt_tmp F rfl rfl ?_
    have ze := hp1_0.fin (by omega)
    rw [← ze]
    exact ⟨_, rfl, M.bel, M.owB (i := 0) rfl⟩
  · rw [hs2] at F
    have hs2i := of_decide_eq_true hs2
    refine wp_cond_true (F.ev rfl) ?_
    refine wp_skip ?_
    refine nxq ?_
    refine wp_block ?_
    refine wp_seq ?_
    -- region 4
    refine wp_region_lit ?_
    refine sq_pure F (wt0 rfl) (pu_move rfl (F.ev rfl)) rfl rfl ?_; clear F; intro φ F
    refine sq_pure F (wt0 rfl) (pu_ix rfl (F.ev rfl) (evk) sl67 (M.gv (i := 1) rfl) (by omega) (by omega)) rfl rfl ?_; clear F; intro φ F
    refine sq_rd F (wt0 rfl) (ld_el rfl (F.ev rfl) agg50 (fun _ e => e ▸ (M.gv (i := 1) rfl)) (by omega) (cS_at (by first | omega | (simp; done) | (simp; omega))) rfl) rfl rfl ?_; clear F; intro φ F
    refine sq_alloc F M (wt0 rfl) rfl z50 rfl rfl ?_; clear F M; intro φ ω g1 F M
    refine sq_stA F M (wt0 rfl) rfl (F.ev rfl) (F.ev rfl) (i := 0) rfl agg50 rfl rfl rfl rfl ?_; clear M; intro ω M
    refine nx ?_
    refine wp_seq ?_
    -- region 5
    refine wp_region_lit ?_
    refine sq_pure F (wt0 rfl) (pu_move rfl (F.ev rfl)) rfl rfl ?_; clear F; intro φ F
    refine sq_rd F (wt0 rfl) (ld_agg rfl (F.ev rfl) agg50 (M.rd (i := 0) rfl) rfl) rfl rfl ?_; clear F; intro φ F
    refine sq_bs (e := 50) (m := 2) (k := 1) (parts := #[]) (cs := #[.int .i64 ((atS ((rowL L).drop p) 0).e), .int .i64 ((atS ((rowL L).drop p) 0).r)]) F M (wt0 rfl) (bs67_1 rfl (F.ev rfl) _) (by omega) rfl rfl rfl ?_; clear F M; intro φ ω g2 F M
    replace M : Mm [] w ω [.row 50 2 (.slice (some ⟨g2, 0, none⟩) 1 1) 1 (cS [(atS ((rowL L).drop p) 0)]), .blk g1 50 #[.int .i64 ((atS ((rowL L).drop p) 0).e), .int .i64 ((atS ((rowL L).drop p) 0).r)], .row 50 2 vq Q.length (cS Q), .got 2 vr ((rowL L).length - p) (cS ((rowL L).drop p)), .arg 2 v L.length (cS L)] := M
    refine sq_app F M (wt0 rfl) rfl sl67.1 el50 (F.ev rfl) (i := 2) rfl (F.ev rfl) (M.rv (i := 0) rfl) (cS_ones _) (by first | omega | (simp only [List.length_append, List.length_cons, List.length_nil, List.length_singleton]; omega)) (by omega) rfl rfl ?_; clear F M; intro φ ω v2 F M
    replace M : Mm [] w ω [.row 50 2 (.slice (some ⟨g2, 0, none⟩) 1 1) 1 (cS [(atS ((rowL L).drop p) 0)]), .blk g1 50 #[.int .i64 ((atS ((rowL L).drop p) 0).e), .int .i64 ((atS ((rowL L).drop p) 0).r)], .row 50 2 v2 (Q.length + 1) ((cS Q) ++ (cS [(atS ((rowL L).drop p) 0)])), .got 2 vr ((rowL L).length - p) (cS ((rowL L).drop p)), .arg 2 v L.length (cS L)] := M
    rw [← cS_app, show Q.length + 1 = (Q ++ [(atS ((rowL L).drop p) 0)]).length from by first | rfl | (simp; done) | (simp; omega)] at M
    refine sq_pure F (wt0 rfl) (pu_assign rfl (F.ev rfl)) rfl rfl ?_; clear F; intro φ F
    refine nx ?_
    refine wp_seq ?_
    refine wp_seq ?_
    -- region 6
    refine wp_region_lit ?_
    refine sq_pure F (wt0 rfl) (pu_move rfl (F.ev rfl)) rfl rfl ?_; clear F; intro φ F
    refine sq_pure F (wt0 rfl) (pu_len rfl (F.ev rfl) sl67 (M.gv (i := 3) rfl)) rfl rfl ?_; clear F; intro φ F
    refine sq_pure F (wt0 rfl) (pu_move rfl (evk)) rfl rfl ?_; clear F; intro φ F
    refine nx ?_
    refine wp_cut (fun φ' w' => Fr φ' 36 [(0, v), (3, v2), (4, vr)] ∧ Mm [] w w' [.row 50 2 (.slice (some ⟨g2, 0, none⟩) 1 1) 1 (cS [(atS ((rowL L).drop p) 0)]), .blk g1 50 #[.int .i64 ((atS ((rowL L).drop p) 0).e), .int .i64 ((atS ((rowL L).drop p) 0).r)], .row 50 2 v2 ((Q ++ [(atS ((rowL L).drop p) 0)]).length) (cS (Q ++ [(atS ((rowL L).drop p) 0)])), .got 2 vr ((rowL L).length - p) (cS ((rowL L).drop p)), .arg 2 v L.length (cS L)] ∧ (∀ k, k < (rowL L).length - p → (atS ((rowL L).drop p) 0).leB (atS ((rowL L).drop p) k) = true)) ?_ ?_
    · skip
      refine wp_block ?_
      refine lp (σ := Int) (fun i φ' w' => Fr φ' 36 [(0, v), (3, v2), (4, vr), (5, .pointer (some ⟨g1, 0, none⟩)), (20, vr), (21, .int .i64 ((((rowL L).length - p) : Nat) : Int)), (22, .int .i64 i)] ∧ Mm [] w w' [.row 50 2 (.slice (some ⟨g2, 0, none⟩) 1 1) 1 (cS [(atS ((rowL L).drop p) 0)]), .blk g1 50 #[.int .i64 ((atS ((rowL L).drop p) 0).e), .int .i64 ((atS ((rowL L).drop p) 0).r)], .row 50 2 v2 ((Q ++ [(atS ((rowL L).drop p) 0)]).length) (cS (Q ++ [(atS ((rowL L).drop p) 0)])), .got 2 vr ((rowL L).length - p) (cS ((rowL L).drop p)), .arg 2 v L.length (cS L)] ∧ (0 ≤ i) ∧ (i ≤ (((rowL L).length - p : Nat) : Int)) ∧ (∀ k, k < i.toNat → (atS ((rowL L).drop p) 0).leB (atS ((rowL L).drop p) k) = true)) (fun i => ((((rowL L).length - p : Nat) : Int) - i).toNat) (0) ⟨(((((((F.nil.cons (F.get (k := 22) rfl)).cons (F.get (k := 21) rfl)).cons (F.get (k := 20) rfl)).cons (F.get (k := 5) rfl)).cons (F.get (k := 4) rfl)).cons (F.get (k := 3) rfl)).cons (F.get (k := 0) rfl)), M, Int.le_refl _, by omega, all_none⟩ ?_
      clear F M
      rintro i φ ω ⟨F, M, hp3_0, hp3_1, hp3_2⟩
      refine wp_seq ?_
      -- region 7
      refine wp_region_lit ?_
      refine sq_pure F (wt0 rfl) (pu_lss rfl (F.ev rfl) (F.ev rfl)) rfl rfl ?_; clear F; intro φ F
      refine nx ?_
      refine wp_seq ?_
      cases hs4 : (decide (i < ((((rowL L).length - p) : Nat) : Int)))
      · rw [hs4] at F
        have hs4i := of_decide_eq_false hs4
        refine wp_cond_false (F.ev rfl) ?_
        refine wp_exit ?_
        refine nxe ?_
        refine nxe ?_
        refine nxm ?_
        exact ⟨(((F.nil.cons (F.get (k := 4) rfl)).cons (F.get (k := 3) rfl)).cons (F.get (k := 0) rfl)), M, fun k hk => hp3_2 k (by omega)⟩
      · rw [hs4] at F
        have hs4i := of_decide_eq_true hs4
        refine wp_cond_true (F.ev rfl) ?_
        refine wp_skip ?_
        refine nxq ?_
        refine wp_seq ?_
        refine wp_block ?_
        refine wp_seq ?_
        -- region 8
        refine wp_region_lit ?_
        refine sq_pure F (wt0 rfl) (pu_move rfl (F.ev rfl)) rfl rfl ?_; clear F; intro φ F
        refine sq_pure F (wt0 rfl) (pu_ix rfl (F.ev rfl) (F.ev rfl) sl67 (M.gv (i := 3) rfl) (by omega) (by omega)) rfl rfl ?_; clear F; intro φ F
        refine sq_rd F (wt0 rfl) (ld_el rfl (F.ev rfl) agg50 (fun _ e => e ▸ (M.gv (i := 3) rfl)) (by omega) (cS_at (by first | omega | (simp; done) | (simp; omega))) rfl) rfl rfl ?_; clear F; intro φ F
        refine sq_alloc F M (wt0 rfl) rfl z50 rfl rfl ?_; clear F M; intro φ ω g3 F M
        refine sq_pure F (wt0 rfl) (pu_assign rfl (F.ev rfl)) rfl rfl ?_; clear F; intro φ F
        refine sq_stA F M (wt0 rfl) rfl (F.ev rfl) (F.ev rfl) (i := 0) rfl agg50 rfl rfl rfl rfl ?_; clear M; intro ω M
        refine nx ?_
        refine wp_seq ?_
        -- region 9
        refine wp_region_lit ?_
        refine sq_rd F (wt0 rfl) (ld_agg rfl (F.ev rfl) agg50 (M.rd (i := 2) rfl) rfl) rfl rfl ?_; clear F; intro φ F
        refine sq_rd F (wt0 rfl) (ld_agg rfl (F.ev rfl) agg50 (M.rd (i := 0) rfl) rfl) rfl rfl ?_; clear F; intro φ F
        refine sq_call F M (wt0 rfl) rfl en57 (evc (F.ev rfl) (evc (F.ev rfl) evn)) (le_any (atS ((rowL L).drop p) 0) (atS ((rowL L).drop p) i.toNat) _) rfl rfl ?_; clear F M; intro φ ω F M
        cases hs5 : ((atS ((rowL L).drop p) 0).leB (atS ((rowL L).drop p) i.toNat))
        · rw [hs5] at F
          refine sq_pure F (wt0 rfl) (pu_not rfl (F.ev rfl)) rfl rfl ?_; clear F; intro φ F
          rw [show (!false) = true from rfl] at F
          refine nx ?_
          refine wp_cond_true (F.ev rfl) ?_
          refine wp_seq ?_
          -- region 10
          refine wp_region_lit ?_
          refine sq_pure F (wt0 rfl) (pu_move rfl (F.ev rfl)) rfl rfl ?_; clear F; intro φ F
          refine sq_pure F (wt0 rfl) (pu_move rfl (F.ev rfl)) rfl rfl ?_; clear F; intro φ F
          refine sq_pure F (wt0 rfl) (pu_slice1 rfl (F.ev rfl) (F.ev rfl) sl67 (M.gv (i := 4) rfl) (by omega) (by omega)) rfl rfl ?_; clear F; intro φ F
          refine sq_pure F (wt0 rfl) (pu_assign rfl (F.ev rfl)) rfl rfl ?_; clear F; intro φ F
          refine nx ?_
          refine wp_exit ?_
          refine nxo rfl ?_
          refine nxe ?_
          refine nxe ?_
          refine nxo rfl ?_
          refine nxcE ?_
          refine nxe ?_
          refine nxm ?_
          have hi0 : 0 < i.toNat := Nat.pos_of_ne_zero (fun h0 => by have h := hs5; rw [h0, St.le_refl] at h; cases h)
          exact ⟨p + i.toNat, by omega, (subS 2 i.toNat ((rowL L).length - p) vr), v2, Q ++ [atS (rowL L) p], (((F.nil.cons (F.get (k := 4) rfl)).cons (F.get (k := 3) rfl)).cons (F.get (k := 0) rfl)), (by have := M.subGot (i := 4) (j := i.toNat) rfl rfl (by omega); simpa [atS_drop] using this.sub (.cons _ (.cons _ (.cons _ (List.Sublist.refl _))))), hp1_0.next (rowL_asc L) (by omega) (by omega) (by omega) (fun j h1 h2 => by have := hp3_2 (j - p) (by omega); rwa [atS_drop, atS_drop, show p + (j - p) = j by omega, Nat.add_zero] at this) (fun _ => by have := hs5; rwa [atS_drop, atS_drop, Nat.add_zero] at this), by rw [List.length_append, List.length_singleton]; omega, by omega⟩
        · rw [hs5] at F
          refine sq_pure F (wt0 rfl) (pu_not rfl (F.ev rfl)) rfl rfl ?_; clear F; intro φ F
          rw [show (!true) = false from rfl] at F
          refine nx ?_
          refine wp_cond_false (F.ev rfl) ?_
          refine wp_skip ?_
          refine nxb ?_
          refine nxq ?_
          -- region 11
          refine wp_region_lit ?_
          refine sq_pure F (wt0 rfl) (pu_add rfl (F.ev rfl) (evk) (by omega) (by omega)) rfl rfl ?_; clear F; intro φ F
          refine sq_pure F (wt0 rfl) (pu_move rfl (F.ev rfl)) rfl rfl ?_; clear F; intro φ F
          refine wpList_nil ?_
          exact ⟨i + 1, by omega, (((((((F.nil.cons (F.get (k := 22) rfl)).cons (F.get (k := 21) rfl)).cons (F.get (k := 20) rfl)).cons (F.get (k := 5) rfl)).cons (F.get (k := 4) rfl)).cons (F.get (k := 3) rfl)).cons (F.get (k := 0) rfl)), (M.sub (.cons _ (List.Sublist.refl _))), by omega, by omega, all_succ hp3_2 hp3_0 hs5⟩
    · skip
      clear F M
      rintro φ ω ⟨F, M, hp6_0⟩
      refine nxq ?_
      refine wp_exit ?_
      refine nxo rfl ?_
      refine nxe ?_
      refine nxm ?_
      refine nxq ?_
      refine wp_seq ?_
      -- region 12
      refine wp_region_lit ?_
      refine sq_pure F (wt0 rfl) (pu_move rfl (F.ev rfl)) rfl rfl ?_; clear F; intro φ F
      refine sq_pure F (wt0 rfl) (pu_assign rfl (F.ev rfl)) rfl rfl ?_; clear F; intro φ F
      refine nx ?_
      refine wp_ret ?_
      refine nxsR ?_
      refine rt_tmp F rfl rfl ?_
      have ze := (hp1_0.next (rowL_asc L) (p' := (rowL L).length) (by omega) (by omega) (Nat.le_refl _) (fun j h1 h2 => by have := hp6_0 (j - p) (by omega); rwa [atS_drop, atS_drop, show p + (j - p) = j by omega, Nat.add_zero] at this) (fun h => absurd h (by omega))).fin (by omega)
      rw [← ze]
      refine ⟨_, rfl, M.bel, ?_⟩
      have := M.owB (i := 2) rfl
      simpa [atS_drop] using this

end Go.Proofs.Ytbleefegobmboaa
