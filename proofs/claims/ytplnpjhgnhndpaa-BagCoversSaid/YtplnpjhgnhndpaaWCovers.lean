/- Laws of layer 4. Made by walks/baglaws.py. -/
import Derived.Test.YtplnpjhgnhndpaaBa
import Derived.Test.YtplnpjhgnhndpaaRk
namespace Go.Proofs.Ytplnpjhgnhndpaa
open Go.RowKit Go.Sort

set_option maxHeartbeats 4000000 in
theorem bagCovers_walk (L : List Ct) (a : Value) (w : World) (ha : RdC w a L) :
    Calls Try.prog 6 #[a] w fun e w' => e = .returned (.bool true) ∧ Below w.heap.size w w' := by
  refine enterF Try.func6 rfl 124 Try.ntmps6 [a] rfl [(0, a)] rfl ?_
  intro φ F
  have M := Mm.start [] w
  replace M := M.addArg (ha) (fun _ => by first | (simp; done) | (simp_all; done) | assumption)
  refine wp_seq ?_
  -- region 0
  refine wp_region_lit ?_
  refine sq_pure F (wt0 rfl) (pu_assign rfl (evk)) rfl rfl ?_; clear F; intro φ F
  refine nx ?_
  refine wp_seq ?_
  -- region 1
  refine wp_region_lit ?_
  refine sq_call F M (wt0 rfl) rfl en10 evn (awake_any _) rfl rfl ?_; clear F M; intro φ ω F M
  refine sq_pure F (wt0 rfl) (pu_assign rfl (F.ev rfl)) rfl rfl ?_; clear F; intro φ F
  refine nx ?_
  refine wp_seq ?_
  -- region 2
  refine wp_region_lit ?_
  refine sq_callO (Z := (fun v x => ∃ p g, v = .pointer (some ⟨p, 0, none⟩) ∧ x = .own [p, g] (BagV p g []))) F M (wt0 rfl) rfl en11 evn (new_any _) rfl rfl ?_; clear F M; rintro φ ω _ _ ⟨p7, m7, rfl, rfl⟩ F M
  replace M : Mm [] w ω [.own [p7, m7] (BagV p7 m7 ([] : List Ct)), .arg 3 a L.length (cC L)] := M
  refine sq_pure F (wt0 rfl) (pu_assign rfl (F.ev rfl)) rfl rfl ?_; clear F; intro φ F
  refine nx ?_
  refine wp_seq ?_
  refine wp_seq ?_
  -- region 3
  refine wp_region_lit ?_
  refine sq_pure F (wt0 rfl) (pu_move rfl (F.ev rfl)) rfl rfl ?_; clear F; intro φ F
  refine sq_pure F (wt0 rfl) (pu_eqlP rfl (F.ev rfl) (evk) Try.underlying24) rfl rfl ?_; clear F; intro φ F
  refine sq_pure F (wt0 rfl) (pu_move rfl (F.ev rfl)) rfl rfl ?_; clear F; intro φ F
  refine sq_pure F (wt1 F rfl rfl rfl rfl rfl) (pu_move rfl (F.ev rfl)) rfl rfl ?_; clear F; intro φ F
  refine sq_pure F (wt1 F rfl rfl rfl rfl rfl) (pu_len rfl (F.ev rfl) sl22 (M.av (i := 1) rfl)) rfl rfl ?_; clear F; intro φ F
  refine sq_pure F (wt1 F rfl rfl rfl rfl rfl) (pu_gtr rfl (F.ev rfl) (evk)) rfl rfl ?_; clear F; intro φ F
  refine sq_pure F (wt0 rfl) (pu_pickf rfl (F.ev rfl) (F.ev rfl)) rfl rfl ?_; clear F; intro φ F
  refine nx ?_
  cases hs1 : (decide (100 < ((L.length : Nat) : Int)))
  · rw [hs1] at F
    have hs1i := of_decide_eq_false hs1
    refine wp_cond_false (F.ev rfl) ?_
    refine wp_skip ?_
    refine nxq ?_
    refine wp_seq ?_
    refine wp_seq ?_
    -- region 5
    refine wp_region_lit ?_
    refine sq_pure F (wt0 rfl) (pu_assign rfl (evk)) rfl rfl ?_; clear F; intro φ F
    refine nx ?_
    refine wp_block ?_
    refine lp (σ := Int) (fun i φ' w' => Fr φ' 124 [(0, a), (3, .bool true), (4, .pointer (some ⟨p7, 0, none⟩)), (5, .int .i64 i)] ∧ Mm [] w w' [.own [p7, m7] (BagV p7 m7 (sumC (L.take i.toNat))), .arg 3 a L.length (cC L)] ∧ (0 ≤ i) ∧ (i ≤ (L.length : Int))) (fun i => ((L.length : Int) - i).toNat) (0) ⟨((((F.nil.cons (F.get (k := 5) rfl)).cons (F.get (k := 4) rfl)).cons (F.get (k := 3) rfl)).cons (F.get (k := 0) rfl)), (by simpa [sumC, foldC] using M), Int.le_refl _, by omega⟩ ?_
    clear F M
    rintro i φ ω ⟨F, M, hp2_0, hp2_1⟩
    refine wp_seq ?_
    refine wp_seq ?_
    -- region 6
    refine wp_region_lit ?_
    refine sq_pure F (wt0 rfl) (pu_move rfl (F.ev rfl)) rfl rfl ?_; clear F; intro φ F
    refine sq_pure F (wt0 rfl) (pu_move rfl (F.ev rfl)) rfl rfl ?_; clear F; intro φ F
    refine sq_pure F (wt0 rfl) (pu_len rfl (F.ev rfl) sl22 (M.av (i := 1) rfl)) rfl rfl ?_; clear F; intro φ F
    refine sq_pure F (wt0 rfl) (pu_lss rfl (F.ev rfl) (F.ev rfl)) rfl rfl ?_; clear F; intro φ F
    refine nx ?_
    cases hs3 : (decide (i < ((L.length : Nat) : Int)))
    · rw [hs3] at F
      have hs3i := of_decide_eq_false hs3
      refine wp_cond_false (F.ev rfl) ?_
      refine wp_exit ?_
      refine nxe ?_
      refine nxe ?_
      refine nxm ?_
      refine nxq ?_
      refine wp_seq ?_
      -- region 9
      refine wp_region_lit ?_
      obtain ⟨D, hD⟩ : ∃ D, D = sumC (L.take i.toNat) := ⟨_, rfl⟩
      have hok : BagOK D := hD ▸ sum_ok _
      have hl : D.length ≤ 100 := by rw [hD]; exact Nat.le_trans (sum_len _ []) (by simp only [List.length_nil, List.length_take]; omega)
      rw [← hD] at M
      have zl := minL_len (posL D)
      have zp := posL_len D
      replace M : Mm [] w ω [.own [p7, m7] (BagV p7 m7 D), .arg 3 a L.length (cC L)] := M
      refine sq_pure F (wt0 rfl) (pu_move rfl (F.ev rfl)) rfl rfl ?_; clear F; intro φ F
      refine sq_callN F M (wt0 rfl) rfl en18 (evc (F.ev rfl) evn) (front_any D p7 m7 _ (M.pv (i := 0) rfl) (by first | omega | (simp; done) | (simp; omega))) rfl rfl ?_; clear F M; intro φ ω v1 F M
      refine sq_pure F (wt0 rfl) (pu_assign rfl (F.ev rfl)) rfl rfl ?_; clear F; intro φ F
      refine nx ?_
      refine wp_seq ?_
      refine wp_seq ?_
      -- region 10
      refine wp_region_lit ?_
      refine sq_pure F (wt0 rfl) (pu_assign rfl (evk)) rfl rfl ?_; clear F; intro φ F
      refine nx ?_
      refine wp_block ?_
      refine lp (σ := Int) (fun q φ' w' => Fr φ' 124 [(0, a), (3, .bool true), (4, .pointer (some ⟨p7, 0, none⟩)), (6, v1), (7, .int .i64 q)] ∧ Mm [] w w' [.row 30 2 v1 ((minL (posL D)).length) (cS (minL (posL D))), .own [p7, m7] (BagV p7 m7 D), .arg 3 a L.length (cC L)] ∧ (0 ≤ q) ∧ (q ≤ (((minL (posL D)).length : Nat) : Int))) (fun q => ((((minL (posL D)).length : Nat) : Int) - q).toNat) (0) ⟨(((((F.nil.cons (F.get (k := 7) rfl)).cons (F.get (k := 6) rfl)).cons (F.get (k := 4) rfl)).cons (F.get (k := 3) rfl)).cons (F.get (k := 0) rfl)), M, Int.le_refl _, by omega⟩ ?_
      clear F M
      rintro q φ ω ⟨F, M, hp4_0, hp4_1⟩
      refine wp_seq ?_
      refine wp_seq ?_
      -- region 11
      refine wp_region_lit ?_
      refine sq_pure F (wt0 rfl) (pu_move rfl (F.ev rfl)) rfl rfl ?_; clear F; intro φ F
      refine sq_pure F (wt0 rfl) (pu_move rfl (F.ev rfl)) rfl rfl ?_; clear F; intro φ F
      refine sq_pure F (wt0 rfl) (pu_len rfl (F.ev rfl) sl38 (M.rv (i := 0) rfl)) rfl rfl ?_; clear F; intro φ F
      refine sq_pure F (wt0 rfl) (pu_lss rfl (F.ev rfl) (F.ev rfl)) rfl rfl ?_; clear F; intro φ F
      refine nx ?_
      cases hs5 : (decide (q < (((minL (posL D)).length : Nat) : Int)))
      · rw [hs5] at F
        have hs5i := of_decide_eq_false hs5
        refine wp_cond_false (F.ev rfl) ?_
        refine wp_exit ?_
        refine nxe ?_
        refine nxe ?_
        refine nxm ?_
        refine nxq ?_
        refine wp_seq ?_
        -- region 15
        refine wp_region_lit ?_
        refine sq_pure F (wt0 rfl) (pu_move rfl (F.ev rfl)) rfl rfl ?_; clear F; intro φ F
        refine sq_callN F M (wt0 rfl) rfl en16 (evc (F.ev rfl) evn) (all_any D p7 m7 _ (M.pv (i := 1) rfl) (by first | omega | (simp; done) | (simp; omega))) rfl rfl ?_; clear F M; intro φ ω v2 F M
        refine sq_pure F (wt0 rfl) (pu_assign rfl (F.ev rfl)) rfl rfl ?_; clear F; intro φ F
        refine nx ?_
        refine wp_seq ?_
        refine wp_seq ?_
        -- region 16
        refine wp_region_lit ?_
        refine sq_pure F (wt0 rfl) (pu_assign rfl (evk)) rfl rfl ?_; clear F; intro φ F
        refine nx ?_
        refine wp_block ?_
        refine lp (σ := Int) (fun x φ' w' => Fr φ' 124 [(3, .bool true), (4, .pointer (some ⟨p7, 0, none⟩)), (6, v1), (8, v2), (9, .int .i64 x)] ∧ Mm [] w w' [.row 32 3 v2 ((D).length) (cC (D)), .row 30 2 v1 ((minL (posL D)).length) (cS (minL (posL D))), .own [p7, m7] (BagV p7 m7 D), .arg 3 a L.length (cC L)] ∧ (0 ≤ x) ∧ (x ≤ ((D.length : Nat) : Int))) (fun x => (((D.length : Nat) : Int) - x).toNat) (0) ⟨(((((F.nil.cons (F.get (k := 9) rfl)).cons (F.get (k := 8) rfl)).cons (F.get (k := 6) rfl)).cons (F.get (k := 4) rfl)).cons (F.get (k := 3) rfl)), M, Int.le_refl _, by omega⟩ ?_
        clear F M
        rintro x φ ω ⟨F, M, hp6_0, hp6_1⟩
        refine wp_seq ?_
        refine wp_seq ?_
        -- region 17
        refine wp_region_lit ?_
        refine sq_pure F (wt0 rfl) (pu_move rfl (F.ev rfl)) rfl rfl ?_; clear F; intro φ F
        refine sq_pure F (wt0 rfl) (pu_move rfl (F.ev rfl)) rfl rfl ?_; clear F; intro φ F
        refine sq_pure F (wt0 rfl) (pu_len rfl (F.ev rfl) sl22 (M.rv (i := 0) rfl)) rfl rfl ?_; clear F; intro φ F
        refine sq_pure F (wt0 rfl) (pu_lss rfl (F.ev rfl) (F.ev rfl)) rfl rfl ?_; clear F; intro φ F
        refine nx ?_
        cases hs7 : (decide (x < (((D).length : Nat) : Int)))
        · rw [hs7] at F
          have hs7i := of_decide_eq_false hs7
          refine wp_cond_false (F.ev rfl) ?_
          refine wp_exit ?_
          refine nxe ?_
          refine nxe ?_
          refine nxm ?_
          refine nxq ?_
          refine wp_seq ?_
          -- region 24
          refine wp_region_lit ?_
          refine sq_pure F (wt0 rfl) (pu_move rfl (F.ev rfl)) rfl rfl ?_; clear F; intro φ F
          refine sq_pure F (wt0 rfl) (pu_assign rfl (F.ev rfl)) rfl rfl ?_; clear F; intro φ F
          refine nx ?_
          refine wp_ret ?_
          refine rt_tmp F rfl rfl ?_
          exact ⟨rfl, M.bel⟩
        · rw [hs7] at F
          have hs7i := of_decide_eq_true hs7
          refine wp_cond_true (F.ev rfl) ?_
          refine wp_skip ?_
          refine nxq ?_
          refine wp_seq ?_
          refine wp_block ?_
          refine wp_seq ?_
          -- region 19
          refine wp_region_lit ?_
          have z1 := of_at hok (show x.toNat < D.length by omega)
          have z2 := cov_pos (C := D) (i := x.toNat) (by omega)
          have z3 : 0 < x → (atC D (x - 1).toNat).1.aheadB (atC D x.toNat).1 = true := fun h => asc_at hok (by omega) (by omega)
          refine sq_pure F (wt0 rfl) (pu_move rfl (F.ev rfl)) rfl rfl ?_; clear F; intro φ F
          refine sq_pure F (wt0 rfl) (pu_move rfl (F.ev rfl)) rfl rfl ?_; clear F; intro φ F
          refine sq_pure F (wt0 rfl) (pu_move rfl (F.ev rfl)) rfl rfl ?_; clear F; intro φ F
          refine sq_pure F (wt0 rfl) (pu_ix rfl (F.ev rfl) (F.ev rfl) sl22 (M.rv (i := 0) rfl) (by omega) (by omega)) rfl rfl ?_; clear F; intro φ F
          refine sq_pure F (wt0 rfl) (pu_field rfl (F.ev rfl) fo32_0) rfl rfl ?_; clear F; intro φ F
          refine sq_rd F (wt0 rfl) (ld_elP (q := 0) (k := x.toNat * 3) rfl (F.ev rfl) agg30 (fun _ e => e ▸ (M.rv (i := 0) rfl)) (by omega) (cC_at (by first | omega | (simp; done) | (simp; omega))) (by omega) rfl rfl) rfl rfl ?_; clear F; intro φ F
          refine sq_call F M (wt0 rfl) rfl en24 (evc (F.ev rfl) (evc (F.ev rfl) evn)) (rcov_any (minL (posL D)) (atC (D) x.toNat).1 _ _ (M.rv (i := 1) rfl) (by first | omega | (simp; done) | (simp; omega))) rfl rfl ?_; clear F M; intro φ ω F M
          refine sq_pure F (wt0 rfl) (pu_assign rfl (F.ev rfl)) rfl rfl ?_; clear F; intro φ F
          refine nx ?_
          refine wp_seq ?_
          refine wp_seq ?_
          -- region 20
          refine rg_quiet M mixedOK (by kernel_rfl) ?_
          refine qt_pure F (wt0 rfl) (pu_move rfl (F.ev rfl)) rfl rfl ?_; clear F; intro φ F
          refine qt_pure F (wt0 rfl) (pu_move rfl (F.ev rfl)) rfl rfl ?_; clear F; intro φ F
          refine qt_pure F (wt0 rfl) (pu_ix rfl (F.ev rfl) (F.ev rfl) sl22 (M.rv (i := 0) rfl) (by omega) (by omega)) rfl rfl ?_; clear F; intro φ F
          refine qt_pure F (wt0 rfl) (pu_field rfl (F.ev rfl) fo32_1) rfl rfl ?_; clear F; intro φ F
          refine qt_rd F (wt0 rfl) (ld_elP1 (q := 2) (k := x.toNat * 3) rfl (F.ev rfl) one3 (fun _ h => RdV.below (M.rv (i := 0) rfl) h) (by omega) (cC_at (by first | omega | (simp; done) | (simp; omega))) rfl) rfl rfl ?_; clear F; intro φ F
          refine qt_pure F (wt0 rfl) (pu_eqlI rfl (F.ev rfl) (evk)) rfl rfl ?_; clear F; intro φ F
          refine qt_pure F (wt0 rfl) (pu_move rfl (F.ev rfl)) rfl rfl ?_; clear F; intro φ F
          cases hs8 : (decide ((atC (D) x.toNat).2 = 0))
          · rw [hs8] at F
            have hs8i := of_decide_eq_false hs8
            refine qt_pure F (wt1 F rfl rfl rfl rfl rfl) (pu_move rfl (F.ev rfl)) rfl rfl ?_; clear F; intro φ F
            refine qt_pure F (wt1 F rfl rfl rfl rfl rfl) (pu_move rfl (F.ev rfl)) rfl rfl ?_; clear F; intro φ F
            refine qt_pure F (wt1 F rfl rfl rfl rfl rfl) (pu_ix rfl (F.ev rfl) (F.ev rfl) sl22 (M.rv (i := 0) rfl) (by omega) (by omega)) rfl rfl ?_; clear F; intro φ F
            refine qt_pure F (wt1 F rfl rfl rfl rfl rfl) (pu_field rfl (F.ev rfl) fo32_1) rfl rfl ?_; clear F; intro φ F
            refine qt_rd F (wt1 F rfl rfl rfl rfl rfl) (ld_elP1 (q := 2) (k := x.toNat * 3) rfl (F.ev rfl) one3 (fun _ h => RdV.below (M.rv (i := 0) rfl) h) (by omega) (cC_at (by first | omega | (simp; done) | (simp; omega))) rfl) rfl rfl ?_; clear F; intro φ F
            refine qt_pure F (wt1 F rfl rfl rfl rfl rfl) (pu_gtr rfl (F.ev rfl) (evk)) rfl rfl ?_; clear F; intro φ F
            refine qt_pure F (wt1 F rfl rfl rfl rfl rfl) (pu_move rfl (F.ev rfl)) rfl rfl ?_; clear F; intro φ F
            cases hs9 : (decide (0 < (atC (D) x.toNat).2))
            · rw [hs9] at F
              have hs9i := of_decide_eq_false hs9
              refine qt_skip F (wtn F rfl rfl rfl rfl rfl) rfl rfl ?_; clear F; intro φ F
              refine qt_skip F (wtn F rfl rfl rfl rfl rfl) rfl rfl ?_; clear F; intro φ F
              refine qt_pure F (wt1 F rfl rfl rfl rfl rfl) (pu_pickf rfl (F.ev rfl) (evk)) rfl rfl ?_; clear F; intro φ F
              refine qt_pure F (wt0 rfl) (pu_pickf rfl (F.ev rfl) (F.ev rfl)) rfl rfl ?_; clear F; intro φ F
              refine qt_pure F (wt0 rfl) (pu_move rfl (F.ev rfl)) rfl rfl ?_; clear F; intro φ F
              refine qt_pure F (wt1 F rfl rfl rfl rfl rfl) (pu_move rfl (F.ev rfl)) rfl rfl ?_; clear F; intro φ F
              refine qt_pure F (wt1 F rfl rfl rfl rfl rfl) (pu_move rfl (F.ev rfl)) rfl rfl ?_; clear F; intro φ F
              refine qt_pure F (wt1 F rfl rfl rfl rfl rfl) (pu_move rfl (F.ev rfl)) rfl rfl ?_; clear F; intro φ F
              refine qt_pure F (wt1 F rfl rfl rfl rfl rfl) (pu_ix rfl (F.ev rfl) (F.ev rfl) sl22 (M.rv (i := 0) rfl) (by omega) (by omega)) rfl rfl ?_; clear F; intro φ F
              refine qt_pure F (wt1 F rfl rfl rfl rfl rfl) (pu_field rfl (F.ev rfl) fo32_0) rfl rfl ?_; clear F; intro φ F
              refine qt_rd F (wt1 F rfl rfl rfl rfl rfl) (ld_elP (q := 0) (k := x.toNat * 3) rfl (F.ev rfl) agg30 (fun _ h => RdV.below (M.rv (i := 0) rfl) h) (by omega) (cC_at (by first | omega | (simp; done) | (simp; omega))) (by omega) rfl rfl) rfl rfl ?_; clear F; intro φ F
              refine qt_call F (wt1 F rfl rfl rfl rfl rfl) rfl en22 (evc (F.ev rfl) (evc (F.ev rfl) evn)) (fun w' h => calls_below h (of_any D p7 m7 ((atC (D) x.toNat).1) w' (M.pvB (i := 2) rfl _ h))) rfl rfl ?_; clear F; intro φ F
              refine qt_pure F (wt1 F rfl rfl rfl rfl rfl) (pu_move rfl (F.ev rfl)) rfl rfl ?_; clear F; intro φ F
              refine qt_pure F (wt1 F rfl rfl rfl rfl rfl) (pu_move rfl (F.ev rfl)) rfl rfl ?_; clear F; intro φ F
              refine qt_pure F (wt1 F rfl rfl rfl rfl rfl) (pu_ix rfl (F.ev rfl) (F.ev rfl) sl22 (M.rv (i := 0) rfl) (by omega) (by omega)) rfl rfl ?_; clear F; intro φ F
              refine qt_pure F (wt1 F rfl rfl rfl rfl rfl) (pu_field rfl (F.ev rfl) fo32_1) rfl rfl ?_; clear F; intro φ F
              refine qt_rd F (wt1 F rfl rfl rfl rfl rfl) (ld_elP1 (q := 2) (k := x.toNat * 3) rfl (F.ev rfl) one3 (fun _ h => RdV.below (M.rv (i := 0) rfl) h) (by omega) (cC_at (by first | omega | (simp; done) | (simp; omega))) rfl) rfl rfl ?_; clear F; intro φ F
              cases hs10 : (decide (ofC D ((atC (D) x.toNat).1) = (atC (D) x.toNat).2))
              · skip
                have hs10i := of_decide_eq_false hs10
                refine qt_pure F (wt1 F rfl rfl rfl rfl rfl) (pu_neqI rfl (F.ev rfl) (F.ev rfl)) rfl rfl ?_; clear F; intro φ F
                rw [hs10, show (!false) = true from rfl] at F
                refine qt_pure F (wt0 rfl) (pu_pickf rfl (F.ev rfl) (F.ev rfl)) rfl rfl ?_; clear F; intro φ F
                refine wpQuiet_nil ?_
                clear M; intro ω M
                refine nxq ?_
                refine wp_cond_true (F.ev rfl) ?_
                refine wp_seq ?_
                -- region 21
                refine wp_region_lit ?_
                refine sq_pure F (wt0 rfl) (pu_assign rfl (evk)) rfl rfl ?_; clear F; intro φ F
                refine nx ?_
                refine wp_ret ?_
                refine nxr ?_
                refine nxrb ?_
                refine nxr ?_
                refine nxr ?_
                refine nxrb ?_
                refine nxr ?_
                refine rt_tmp F rfl rfl ?_
                exfalso; clear F M; first | omega | (simp_all; done) | (simp_all; omega)
              · skip
                have hs10i := of_decide_eq_true hs10
                refine qt_pure F (wt1 F rfl rfl rfl rfl rfl) (pu_neqI rfl (F.ev rfl) (F.ev rfl)) rfl rfl ?_; clear F; intro φ F
                rw [hs10, show (!true) = false from rfl] at F
                refine qt_pure F (wt0 rfl) (pu_pickf rfl (F.ev rfl) (F.ev rfl)) rfl rfl ?_; clear F; intro φ F
                refine wpQuiet_nil ?_
                clear M; intro ω M
                refine nxq ?_
                refine wp_cond_false (F.ev rfl) ?_
                refine wp_skip ?_
                refine nxq ?_
                refine wp_seq ?_
                -- region 22
                refine rg_quiet M mixedOK (by kernel_rfl) ?_
                refine qt_pure F (wt0 rfl) (pu_move rfl (F.ev rfl)) rfl rfl ?_; clear F; intro φ F
                refine qt_pure F (wt0 rfl) (pu_gtr rfl (F.ev rfl) (evk)) rfl rfl ?_; clear F; intro φ F
                refine qt_pure F (wt0 rfl) (pu_move rfl (F.ev rfl)) rfl rfl ?_; clear F; intro φ F
                cases hs11 : (decide (0 < x))
                · rw [hs11] at F
                  have hs11i := of_decide_eq_false hs11
                  refine qt_skip F (wtn F rfl rfl rfl rfl rfl) rfl rfl ?_; clear F; intro φ F
                  refine qt_skip F (wtn F rfl rfl rfl rfl rfl) rfl rfl ?_; clear F; intro φ F
                  refine qt_skip F (wtn F rfl rfl rfl rfl rfl) rfl rfl ?_; clear F; intro φ F
                  refine qt_skip F (wtn F rfl rfl rfl rfl rfl) rfl rfl ?_; clear F; intro φ F
                  refine qt_skip F (wtn F rfl rfl rfl rfl rfl) rfl rfl ?_; clear F; intro φ F
                  refine qt_skip F (wtn F rfl rfl rfl rfl rfl) rfl rfl ?_; clear F; intro φ F
                  refine qt_skip F (wtn F rfl rfl rfl rfl rfl) rfl rfl ?_; clear F; intro φ F
                  refine qt_skip F (wtn F rfl rfl rfl rfl rfl) rfl rfl ?_; clear F; intro φ F
                  refine qt_skip F (wtn F rfl rfl rfl rfl rfl) rfl rfl ?_; clear F; intro φ F
                  refine qt_skip F (wtn F rfl rfl rfl rfl rfl) rfl rfl ?_; clear F; intro φ F
                  refine qt_skip F (wtn F rfl rfl rfl rfl rfl) rfl rfl ?_; clear F; intro φ F
                  refine qt_skip F (wtn F rfl rfl rfl rfl rfl) rfl rfl ?_; clear F; intro φ F
                  refine qt_skip F (wtn F rfl rfl rfl rfl rfl) rfl rfl ?_; clear F; intro φ F
                  refine qt_pure F (wt0 rfl) (pu_pickf rfl (F.ev rfl) (evk)) rfl rfl ?_; clear F; intro φ F
                  refine wpQuiet_nil ?_
                  clear M; intro ω M
                  refine nxq ?_
                  refine wp_cond_false (F.ev rfl) ?_
                  refine wp_skip ?_
                  refine nxb ?_
                  refine nxq ?_
                  -- region 18
                  refine wp_region_lit ?_
                  refine sq_pure F (wt0 rfl) (pu_move rfl (F.ev rfl)) rfl rfl ?_; clear F; intro φ F
                  refine sq_pure F (wt0 rfl) (pu_add rfl (F.ev rfl) (evk) (by omega) (by omega)) rfl rfl ?_; clear F; intro φ F
                  refine sq_pure F (wt0 rfl) (pu_assign rfl (F.ev rfl)) rfl rfl ?_; clear F; intro φ F
                  refine wpList_nil ?_
                  exact ⟨x + 1, by omega, (((((F.nil.cons (F.get (k := 9) rfl)).cons (F.get (k := 8) rfl)).cons (F.get (k := 6) rfl)).cons (F.get (k := 4) rfl)).cons (F.get (k := 3) rfl)), M, by omega, by omega⟩
                · rw [hs11] at F
                  have hs11i := of_decide_eq_true hs11
                  refine qt_pure F (wt1 F rfl rfl rfl rfl rfl) (pu_move rfl (F.ev rfl)) rfl rfl ?_; clear F; intro φ F
                  refine qt_pure F (wt1 F rfl rfl rfl rfl rfl) (pu_move rfl (F.ev rfl)) rfl rfl ?_; clear F; intro φ F
                  refine qt_pure F (wt1 F rfl rfl rfl rfl rfl) (pu_sub rfl (F.ev rfl) (evk) (by omega) (by omega)) rfl rfl ?_; clear F; intro φ F
                  refine qt_pure F (wt1 F rfl rfl rfl rfl rfl) (pu_ix rfl (F.ev rfl) (F.ev rfl) sl22 (M.rv (i := 0) rfl) (by omega) (by omega)) rfl rfl ?_; clear F; intro φ F
                  refine qt_pure F (wt1 F rfl rfl rfl rfl rfl) (pu_field rfl (F.ev rfl) fo32_0) rfl rfl ?_; clear F; intro φ F
                  refine qt_rd F (wt1 F rfl rfl rfl rfl rfl) (ld_elP (q := 0) (k := (x - 1).toNat * 3) rfl (F.ev rfl) agg30 (fun _ h => RdV.below (M.rv (i := 0) rfl) h) (by omega) (cC_at (by first | omega | (simp; done) | (simp; omega))) (by omega) rfl rfl) rfl rfl ?_; clear F; intro φ F
                  refine qt_pure F (wt1 F rfl rfl rfl rfl rfl) (pu_move rfl (F.ev rfl)) rfl rfl ?_; clear F; intro φ F
                  refine qt_pure F (wt1 F rfl rfl rfl rfl rfl) (pu_move rfl (F.ev rfl)) rfl rfl ?_; clear F; intro φ F
                  refine qt_pure F (wt1 F rfl rfl rfl rfl rfl) (pu_ix rfl (F.ev rfl) (F.ev rfl) sl22 (M.rv (i := 0) rfl) (by omega) (by omega)) rfl rfl ?_; clear F; intro φ F
                  refine qt_pure F (wt1 F rfl rfl rfl rfl rfl) (pu_field rfl (F.ev rfl) fo32_0) rfl rfl ?_; clear F; intro φ F
                  refine qt_rd F (wt1 F rfl rfl rfl rfl rfl) (ld_elP (q := 0) (k := x.toNat * 3) rfl (F.ev rfl) agg30 (fun _ h => RdV.below (M.rv (i := 0) rfl) h) (by omega) (cC_at (by first | omega | (simp; done) | (simp; omega))) (by omega) rfl rfl) rfl rfl ?_; clear F; intro φ F
                  refine qt_call F (wt1 F rfl rfl rfl rfl rfl) rfl en25 (evc (F.ev rfl) (evc (F.ev rfl) evn)) (fun w' h => calls_below h (rahead_any (atC (D) ((x - 1).toNat)).1 (atC (D) x.toNat).1 w')) rfl rfl ?_; clear F; intro φ F
                  cases hs12 : (((atC (D) ((x - 1).toNat)).1).aheadB (atC (D) x.toNat).1)
                  · rw [hs12] at F
                    refine qt_pure F (wt1 F rfl rfl rfl rfl rfl) (pu_not rfl (F.ev rfl)) rfl rfl ?_; clear F; intro φ F
                    rw [show (!false) = true from rfl] at F
                    refine qt_pure F (wt0 rfl) (pu_pickt rfl (F.ev rfl) (F.ev rfl)) rfl rfl ?_; clear F; intro φ F
                    refine wpQuiet_nil ?_
                    clear M; intro ω M
                    refine nxq ?_
                    refine wp_cond_true (F.ev rfl) ?_
                    refine wp_seq ?_
                    -- region 23
                    refine wp_region_lit ?_
                    refine sq_pure F (wt0 rfl) (pu_assign rfl (evk)) rfl rfl ?_; clear F; intro φ F
                    refine nx ?_
                    refine wp_ret ?_
                    refine nxrb ?_
                    refine nxr ?_
                    refine nxr ?_
                    refine nxrb ?_
                    refine nxr ?_
                    refine rt_tmp F rfl rfl ?_
                    exfalso; clear F M; first | omega | (simp_all; done) | (simp_all; omega)
                  · rw [hs12] at F
                    refine qt_pure F (wt1 F rfl rfl rfl rfl rfl) (pu_not rfl (F.ev rfl)) rfl rfl ?_; clear F; intro φ F
                    rw [show (!true) = false from rfl] at F
                    refine qt_pure F (wt0 rfl) (pu_pickt rfl (F.ev rfl) (F.ev rfl)) rfl rfl ?_; clear F; intro φ F
                    refine wpQuiet_nil ?_
                    clear M; intro ω M
                    refine nxq ?_
                    refine wp_cond_false (F.ev rfl) ?_
                    refine wp_skip ?_
                    refine nxb ?_
                    refine nxq ?_
                    -- region 18
                    refine wp_region_lit ?_
                    refine sq_pure F (wt0 rfl) (pu_move rfl (F.ev rfl)) rfl rfl ?_; clear F; intro φ F
                    refine sq_pure F (wt0 rfl) (pu_add rfl (F.ev rfl) (evk) (by omega) (by omega)) rfl rfl ?_; clear F; intro φ F
                    refine sq_pure F (wt0 rfl) (pu_assign rfl (F.ev rfl)) rfl rfl ?_; clear F; intro φ F
                    refine wpList_nil ?_
                    exact ⟨x + 1, by omega, (((((F.nil.cons (F.get (k := 9) rfl)).cons (F.get (k := 8) rfl)).cons (F.get (k := 6) rfl)).cons (F.get (k := 4) rfl)).cons (F.get (k := 3) rfl)), M, by omega, by omega⟩
            · rw [hs9] at F
              have hs9i := of_decide_eq_true hs9
              refine qt_pure F (wt1 F rfl rfl rfl rfl rfl) (pu_move rfl (F.ev rfl)) rfl rfl ?_; clear F; intro φ F
              cases hs13 : (covB (minL (posL D)) ((atC (D) x.toNat).1))
              · rw [hs13] at F
                refine qt_pure F (wt1 F rfl rfl rfl rfl rfl) (pu_not rfl (F.ev rfl)) rfl rfl ?_; clear F; intro φ F
                rw [show (!false) = true from rfl] at F
                refine qt_pure F (wt1 F rfl rfl rfl rfl rfl) (pu_pickt rfl (F.ev rfl) (F.ev rfl)) rfl rfl ?_; clear F; intro φ F
                refine qt_pure F (wt0 rfl) (pu_pickf rfl (F.ev rfl) (F.ev rfl)) rfl rfl ?_; clear F; intro φ F
                refine qt_pure F (wt0 rfl) (pu_move rfl (F.ev rfl)) rfl rfl ?_; clear F; intro φ F
                refine qt_skip F (wtn F rfl rfl rfl rfl rfl) rfl rfl ?_; clear F; intro φ F
                refine qt_skip F (wtn F rfl rfl rfl rfl rfl) rfl rfl ?_; clear F; intro φ F
                refine qt_skip F (wtn F rfl rfl rfl rfl rfl) rfl rfl ?_; clear F; intro φ F
                refine qt_skip F (wtn F rfl rfl rfl rfl rfl) rfl rfl ?_; clear F; intro φ F
                refine qt_skip F (wtn F rfl rfl rfl rfl rfl) rfl rfl ?_; clear F; intro φ F
                refine qt_skip F (wtn F rfl rfl rfl rfl rfl) rfl rfl ?_; clear F; intro φ F
                refine qt_skip F (wtn F rfl rfl rfl rfl rfl) rfl rfl ?_; clear F; intro φ F
                refine qt_skip F (wtn F rfl rfl rfl rfl rfl) rfl rfl ?_; clear F; intro φ F
                refine qt_skip F (wtn F rfl rfl rfl rfl rfl) rfl rfl ?_; clear F; intro φ F
                refine qt_skip F (wtn F rfl rfl rfl rfl rfl) rfl rfl ?_; clear F; intro φ F
                refine qt_skip F (wtn F rfl rfl rfl rfl rfl) rfl rfl ?_; clear F; intro φ F
                refine qt_skip F (wtn F rfl rfl rfl rfl rfl) rfl rfl ?_; clear F; intro φ F
                refine qt_skip F (wtn F rfl rfl rfl rfl rfl) rfl rfl ?_; clear F; intro φ F
                refine qt_pure F (wt0 rfl) (pu_pickt rfl (F.ev rfl) (evk)) rfl rfl ?_; clear F; intro φ F
                refine wpQuiet_nil ?_
                clear M; intro ω M
                refine nxq ?_
                refine wp_cond_true (F.ev rfl) ?_
                refine wp_seq ?_
                -- region 21
                refine wp_region_lit ?_
                refine sq_pure F (wt0 rfl) (pu_assign rfl (evk)) rfl rfl ?_; clear F; intro φ F
                refine nx ?_
                refine wp_ret ?_
                refine nxr ?_
                refine nxrb ?_
                refine nxr ?_
                refine nxr ?_
                refine nxrb ?_
                refine nxr ?_
                refine rt_tmp F rfl rfl ?_
                exfalso; clear F M; first | omega | (simp_all; done) | (simp_all; omega)
              · rw [hs13] at F
                refine qt_pure F (wt1 F rfl rfl rfl rfl rfl) (pu_not rfl (F.ev rfl)) rfl rfl ?_; clear F; intro φ F
                rw [show (!true) = false from rfl] at F
                refine qt_pure F (wt1 F rfl rfl rfl rfl rfl) (pu_pickt rfl (F.ev rfl) (F.ev rfl)) rfl rfl ?_; clear F; intro φ F
                refine qt_pure F (wt0 rfl) (pu_pickf rfl (F.ev rfl) (F.ev rfl)) rfl rfl ?_; clear F; intro φ F
                refine qt_pure F (wt0 rfl) (pu_move rfl (F.ev rfl)) rfl rfl ?_; clear F; intro φ F
                refine qt_pure F (wt1 F rfl rfl rfl rfl rfl) (pu_move rfl (F.ev rfl)) rfl rfl ?_; clear F; intro φ F
                refine qt_pure F (wt1 F rfl rfl rfl rfl rfl) (pu_move rfl (F.ev rfl)) rfl rfl ?_; clear F; intro φ F
                refine qt_pure F (wt1 F rfl rfl rfl rfl rfl) (pu_move rfl (F.ev rfl)) rfl rfl ?_; clear F; intro φ F
                refine qt_pure F (wt1 F rfl rfl rfl rfl rfl) (pu_ix rfl (F.ev rfl) (F.ev rfl) sl22 (M.rv (i := 0) rfl) (by omega) (by omega)) rfl rfl ?_; clear F; intro φ F
                refine qt_pure F (wt1 F rfl rfl rfl rfl rfl) (pu_field rfl (F.ev rfl) fo32_0) rfl rfl ?_; clear F; intro φ F
                refine qt_rd F (wt1 F rfl rfl rfl rfl rfl) (ld_elP (q := 0) (k := x.toNat * 3) rfl (F.ev rfl) agg30 (fun _ h => RdV.below (M.rv (i := 0) rfl) h) (by omega) (cC_at (by first | omega | (simp; done) | (simp; omega))) (by omega) rfl rfl) rfl rfl ?_; clear F; intro φ F
                refine qt_call F (wt1 F rfl rfl rfl rfl rfl) rfl en22 (evc (F.ev rfl) (evc (F.ev rfl) evn)) (fun w' h => calls_below h (of_any D p7 m7 ((atC (D) x.toNat).1) w' (M.pvB (i := 2) rfl _ h))) rfl rfl ?_; clear F; intro φ F
                refine qt_pure F (wt1 F rfl rfl rfl rfl rfl) (pu_move rfl (F.ev rfl)) rfl rfl ?_; clear F; intro φ F
                refine qt_pure F (wt1 F rfl rfl rfl rfl rfl) (pu_move rfl (F.ev rfl)) rfl rfl ?_; clear F; intro φ F
                refine qt_pure F (wt1 F rfl rfl rfl rfl rfl) (pu_ix rfl (F.ev rfl) (F.ev rfl) sl22 (M.rv (i := 0) rfl) (by omega) (by omega)) rfl rfl ?_; clear F; intro φ F
                refine qt_pure F (wt1 F rfl rfl rfl rfl rfl) (pu_field rfl (F.ev rfl) fo32_1) rfl rfl ?_; clear F; intro φ F
                refine qt_rd F (wt1 F rfl rfl rfl rfl rfl) (ld_elP1 (q := 2) (k := x.toNat * 3) rfl (F.ev rfl) one3 (fun _ h => RdV.below (M.rv (i := 0) rfl) h) (by omega) (cC_at (by first | omega | (simp; done) | (simp; omega))) rfl) rfl rfl ?_; clear F; intro φ F
                cases hs14 : (decide (ofC D ((atC (D) x.toNat).1) = (atC (D) x.toNat).2))
                · skip
                  have hs14i := of_decide_eq_false hs14
                  refine qt_pure F (wt1 F rfl rfl rfl rfl rfl) (pu_neqI rfl (F.ev rfl) (F.ev rfl)) rfl rfl ?_; clear F; intro φ F
                  rw [hs14, show (!false) = true from rfl] at F
                  refine qt_pure F (wt0 rfl) (pu_pickf rfl (F.ev rfl) (F.ev rfl)) rfl rfl ?_; clear F; intro φ F
                  refine wpQuiet_nil ?_
                  clear M; intro ω M
                  refine nxq ?_
                  refine wp_cond_true (F.ev rfl) ?_
                  refine wp_seq ?_
                  -- region 21
                  refine wp_region_lit ?_
                  refine sq_pure F (wt0 rfl) (pu_assign rfl (evk)) rfl rfl ?_; clear F; intro φ F
                  refine nx ?_
                  refine wp_ret ?_
                  refine nxr ?_
                  refine nxrb ?_
                  refine nxr ?_
                  refine nxr ?_
                  refine nxrb ?_
                  refine nxr ?_
                  refine rt_tmp F rfl rfl ?_
                  exfalso; clear F M; first | omega | (simp_all; done) | (simp_all; omega)
                · skip
                  have hs14i := of_decide_eq_true hs14
                  refine qt_pure F (wt1 F rfl rfl rfl rfl rfl) (pu_neqI rfl (F.ev rfl) (F.ev rfl)) rfl rfl ?_; clear F; intro φ F
                  rw [hs14, show (!true) = false from rfl] at F
                  refine qt_pure F (wt0 rfl) (pu_pickf rfl (F.ev rfl) (F.ev rfl)) rfl rfl ?_; clear F; intro φ F
                  refine wpQuiet_nil ?_
                  clear M; intro ω M
                  refine nxq ?_
                  refine wp_cond_false (F.ev rfl) ?_
                  refine wp_skip ?_
                  refine nxq ?_
                  refine wp_seq ?_
                  -- region 22
                  refine rg_quiet M mixedOK (by kernel_rfl) ?_
                  refine qt_pure F (wt0 rfl) (pu_move rfl (F.ev rfl)) rfl rfl ?_; clear F; intro φ F
                  refine qt_pure F (wt0 rfl) (pu_gtr rfl (F.ev rfl) (evk)) rfl rfl ?_; clear F; intro φ F
                  refine qt_pure F (wt0 rfl) (pu_move rfl (F.ev rfl)) rfl rfl ?_; clear F; intro φ F
                  cases hs15 : (decide (0 < x))
                  · rw [hs15] at F
                    have hs15i := of_decide_eq_false hs15
                    refine qt_skip F (wtn F rfl rfl rfl rfl rfl) rfl rfl ?_; clear F; intro φ F
                    refine qt_skip F (wtn F rfl rfl rfl rfl rfl) rfl rfl ?_; clear F; intro φ F
                    refine qt_skip F (wtn F rfl rfl rfl rfl rfl) rfl rfl ?_; clear F; intro φ F
                    refine qt_skip F (wtn F rfl rfl rfl rfl rfl) rfl rfl ?_; clear F; intro φ F
                    refine qt_skip F (wtn F rfl rfl rfl rfl rfl) rfl rfl ?_; clear F; intro φ F
                    refine qt_skip F (wtn F rfl rfl rfl rfl rfl) rfl rfl ?_; clear F; intro φ F
                    refine qt_skip F (wtn F rfl rfl rfl rfl rfl) rfl rfl ?_; clear F; intro φ F
                    refine qt_skip F (wtn F rfl rfl rfl rfl rfl) rfl rfl ?_; clear F; intro φ F
                    refine qt_skip F (wtn F rfl rfl rfl rfl rfl) rfl rfl ?_; clear F; intro φ F
                    refine qt_skip F (wtn F rfl rfl rfl rfl rfl) rfl rfl ?_; clear F; intro φ F
                    refine qt_skip F (wtn F rfl rfl rfl rfl rfl) rfl rfl ?_; clear F; intro φ F
                    refine qt_skip F (wtn F rfl rfl rfl rfl rfl) rfl rfl ?_; clear F; intro φ F
                    refine qt_skip F (wtn F rfl rfl rfl rfl rfl) rfl rfl ?_; clear F; intro φ F
                    refine qt_pure F (wt0 rfl) (pu_pickf rfl (F.ev rfl) (evk)) rfl rfl ?_; clear F; intro φ F
                    refine wpQuiet_nil ?_
                    clear M; intro ω M
                    refine nxq ?_
                    refine wp_cond_false (F.ev rfl) ?_
                    refine wp_skip ?_
                    refine nxb ?_
                    refine nxq ?_
                    -- region 18
                    refine wp_region_lit ?_
                    refine sq_pure F (wt0 rfl) (pu_move rfl (F.ev rfl)) rfl rfl ?_; clear F; intro φ F
                    refine sq_pure F (wt0 rfl) (pu_add rfl (F.ev rfl) (evk) (by omega) (by omega)) rfl rfl ?_; clear F; intro φ F
                    refine sq_pure F (wt0 rfl) (pu_assign rfl (F.ev rfl)) rfl rfl ?_; clear F; intro φ F
                    refine wpList_nil ?_
                    exact ⟨x + 1, by omega, (((((F.nil.cons (F.get (k := 9) rfl)).cons (F.get (k := 8) rfl)).cons (F.get (k := 6) rfl)).cons (F.get (k := 4) rfl)).cons (F.get (k := 3) rfl)), M, by omega, by omega⟩
                  · rw [hs15] at F
                    have hs15i := of_decide_eq_true hs15
                    refine qt_pure F (wt1 F rfl rfl rfl rfl rfl) (pu_move rfl (F.ev rfl)) rfl rfl ?_; clear F; intro φ F
                    refine qt_pure F (wt1 F rfl rfl rfl rfl rfl) (pu_move rfl (F.ev rfl)) rfl rfl ?_; clear F; intro φ F
                    refine qt_pure F (wt1 F rfl rfl rfl rfl rfl) (pu_sub rfl (F.ev rfl) (evk) (by omega) (by omega)) rfl rfl ?_; clear F; intro φ F
                    refine qt_pure F (wt1 F rfl rfl rfl rfl rfl) (pu_ix rfl (F.ev rfl) (F.ev rfl) sl22 (M.rv (i := 0) rfl) (by omega) (by omega)) rfl rfl ?_; clear F; intro φ F
                    refine qt_pure F (wt1 F rfl rfl rfl rfl rfl) (pu_field rfl (F.ev rfl) fo32_0) rfl rfl ?_; clear F; intro φ F
                    refine qt_rd F (wt1 F rfl rfl rfl rfl rfl) (ld_elP (q := 0) (k := (x - 1).toNat * 3) rfl (F.ev rfl) agg30 (fun _ h => RdV.below (M.rv (i := 0) rfl) h) (by omega) (cC_at (by first | omega | (simp; done) | (simp; omega))) (by omega) rfl rfl) rfl rfl ?_; clear F; intro φ F
                    refine qt_pure F (wt1 F rfl rfl rfl rfl rfl) (pu_move rfl (F.ev rfl)) rfl rfl ?_; clear F; intro φ F
                    refine qt_pure F (wt1 F rfl rfl rfl rfl rfl) (pu_move rfl (F.ev rfl)) rfl rfl ?_; clear F; intro φ F
                    refine qt_pure F (wt1 F rfl rfl rfl rfl rfl) (pu_ix rfl (F.ev rfl) (F.ev rfl) sl22 (M.rv (i := 0) rfl) (by omega) (by omega)) rfl rfl ?_; clear F; intro φ F
                    refine qt_pure F (wt1 F rfl rfl rfl rfl rfl) (pu_field rfl (F.ev rfl) fo32_0) rfl rfl ?_; clear F; intro φ F
                    refine qt_rd F (wt1 F rfl rfl rfl rfl rfl) (ld_elP (q := 0) (k := x.toNat * 3) rfl (F.ev rfl) agg30 (fun _ h => RdV.below (M.rv (i := 0) rfl) h) (by omega) (cC_at (by first | omega | (simp; done) | (simp; omega))) (by omega) rfl rfl) rfl rfl ?_; clear F; intro φ F
                    refine qt_call F (wt1 F rfl rfl rfl rfl rfl) rfl en25 (evc (F.ev rfl) (evc (F.ev rfl) evn)) (fun w' h => calls_below h (rahead_any (atC (D) ((x - 1).toNat)).1 (atC (D) x.toNat).1 w')) rfl rfl ?_; clear F; intro φ F
                    cases hs16 : (((atC (D) ((x - 1).toNat)).1).aheadB (atC (D) x.toNat).1)
                    · rw [hs16] at F
                      refine qt_pure F (wt1 F rfl rfl rfl rfl rfl) (pu_not rfl (F.ev rfl)) rfl rfl ?_; clear F; intro φ F
                      rw [show (!false) = true from rfl] at F
                      refine qt_pure F (wt0 rfl) (pu_pickt rfl (F.ev rfl) (F.ev rfl)) rfl rfl ?_; clear F; intro φ F
                      refine wpQuiet_nil ?_
                      clear M; intro ω M
                      refine nxq ?_
                      refine wp_cond_true (F.ev rfl) ?_
                      refine wp_seq ?_
                      -- region 23
                      refine wp_region_lit ?_
                      refine sq_pure F (wt0 rfl) (pu_assign rfl (evk)) rfl rfl ?_; clear F; intro φ F
                      refine nx ?_
                      refine wp_ret ?_
                      refine nxrb ?_
                      refine nxr ?_
                      refine nxr ?_
                      refine nxrb ?_
                      refine nxr ?_
                      refine rt_tmp F rfl rfl ?_
                      exfalso; clear F M; first | omega | (simp_all; done) | (simp_all; omega)
                    · rw [hs16] at F
                      refine qt_pure F (wt1 F rfl rfl rfl rfl rfl) (pu_not rfl (F.ev rfl)) rfl rfl ?_; clear F; intro φ F
                      rw [show (!true) = false from rfl] at F
                      refine qt_pure F (wt0 rfl) (pu_pickt rfl (F.ev rfl) (F.ev rfl)) rfl rfl ?_; clear F; intro φ F
                      refine wpQuiet_nil ?_
                      clear M; intro ω M
                      refine nxq ?_
                      refine wp_cond_false (F.ev rfl) ?_
                      refine wp_skip ?_
                      refine nxb ?_
                      refine nxq ?_
                      -- region 18
                      refine wp_region_lit ?_
                      refine sq_pure F (wt0 rfl) (pu_move rfl (F.ev rfl)) rfl rfl ?_; clear F; intro φ F
                      refine sq_pure F (wt0 rfl) (pu_add rfl (F.ev rfl) (evk) (by omega) (by omega)) rfl rfl ?_; clear F; intro φ F
                      refine sq_pure F (wt0 rfl) (pu_assign rfl (F.ev rfl)) rfl rfl ?_; clear F; intro φ F
                      refine wpList_nil ?_
                      exact ⟨x + 1, by omega, (((((F.nil.cons (F.get (k := 9) rfl)).cons (F.get (k := 8) rfl)).cons (F.get (k := 6) rfl)).cons (F.get (k := 4) rfl)).cons (F.get (k := 3) rfl)), M, by omega, by omega⟩
          · rw [hs8] at F
            have hs8i := of_decide_eq_true hs8
            refine qt_skip F (wtn F rfl rfl rfl rfl rfl) rfl rfl ?_; clear F; intro φ F
            refine qt_skip F (wtn F rfl rfl rfl rfl rfl) rfl rfl ?_; clear F; intro φ F
            refine qt_skip F (wtn F rfl rfl rfl rfl rfl) rfl rfl ?_; clear F; intro φ F
            refine qt_skip F (wtn F rfl rfl rfl rfl rfl) rfl rfl ?_; clear F; intro φ F
            refine qt_skip F (wtn F rfl rfl rfl rfl rfl) rfl rfl ?_; clear F; intro φ F
            refine qt_skip F (wtn F rfl rfl rfl rfl rfl) rfl rfl ?_; clear F; intro φ F
            refine qt_skip F (wtn F rfl rfl rfl rfl rfl) rfl rfl ?_; clear F; intro φ F
            refine qt_skip F (wtu F rfl rfl rfl rfl rfl) rfl rfl ?_; clear F; intro φ F
            refine qt_skip F (wtu F rfl rfl rfl rfl rfl) rfl rfl ?_; clear F; intro φ F
            refine qt_skip F (wtn F rfl rfl rfl rfl rfl) rfl rfl ?_; clear F; intro φ F
            refine qt_pure F (wt0 rfl) (pu_pickt rfl (F.ev rfl) (evk)) rfl rfl ?_; clear F; intro φ F
            refine qt_pure F (wt0 rfl) (pu_move rfl (F.ev rfl)) rfl rfl ?_; clear F; intro φ F
            refine qt_skip F (wtn F rfl rfl rfl rfl rfl) rfl rfl ?_; clear F; intro φ F
            refine qt_skip F (wtn F rfl rfl rfl rfl rfl) rfl rfl ?_; clear F; intro φ F
            refine qt_skip F (wtn F rfl rfl rfl rfl rfl) rfl rfl ?_; clear F; intro φ F
            refine qt_skip F (wtn F rfl rfl rfl rfl rfl) rfl rfl ?_; clear F; intro φ F
            refine qt_skip F (wtn F rfl rfl rfl rfl rfl) rfl rfl ?_; clear F; intro φ F
            refine qt_skip F (wtn F rfl rfl rfl rfl rfl) rfl rfl ?_; clear F; intro φ F
            refine qt_skip F (wtn F rfl rfl rfl rfl rfl) rfl rfl ?_; clear F; intro φ F
            refine qt_skip F (wtn F rfl rfl rfl rfl rfl) rfl rfl ?_; clear F; intro φ F
            refine qt_skip F (wtn F rfl rfl rfl rfl rfl) rfl rfl ?_; clear F; intro φ F
            refine qt_skip F (wtn F rfl rfl rfl rfl rfl) rfl rfl ?_; clear F; intro φ F
            refine qt_skip F (wtn F rfl rfl rfl rfl rfl) rfl rfl ?_; clear F; intro φ F
            refine qt_skip F (wtn F rfl rfl rfl rfl rfl) rfl rfl ?_; clear F; intro φ F
            refine qt_skip F (wtn F rfl rfl rfl rfl rfl) rfl rfl ?_; clear F; intro φ F
            refine qt_pure F (wt0 rfl) (pu_pickt rfl (F.ev rfl) (evk)) rfl rfl ?_; clear F; intro φ F
            refine wpQuiet_nil ?_
            clear M; intro ω M
            refine nxq ?_
            refine wp_cond_true (F.ev rfl) ?_
            refine wp_seq ?_
            -- region 21
            refine wp_region_lit ?_
            refine sq_pure F (wt0 rfl) (pu_assign rfl (evk)) rfl rfl ?_; clear F; intro φ F
            refine nx ?_
            refine wp_ret ?_
            refine nxr ?_
            refine nxrb ?_
            refine nxr ?_
            refine nxr ?_
            refine nxrb ?_
            refine nxr ?_
            refine rt_tmp F rfl rfl ?_
            exfalso; clear F M; first | omega | (simp_all; done) | (simp_all; omega)
      · rw [hs5] at F
        have hs5i := of_decide_eq_true hs5
        refine wp_cond_true (F.ev rfl) ?_
        refine wp_skip ?_
        refine nxq ?_
        refine wp_seq ?_
        refine wp_block ?_
        refine wp_seq ?_
        -- region 13
        refine wp_region_lit ?_
        have zf := front_pos (C := D) (i := q.toNat) hok (by omega)
        refine sq_pure F (wt0 rfl) (pu_move rfl (F.ev rfl)) rfl rfl ?_; clear F; intro φ F
        refine sq_pure F (wt0 rfl) (pu_move rfl (F.ev rfl)) rfl rfl ?_; clear F; intro φ F
        refine sq_pure F (wt0 rfl) (pu_move rfl (F.ev rfl)) rfl rfl ?_; clear F; intro φ F
        refine sq_pure F (wt0 rfl) (pu_ix rfl (F.ev rfl) (F.ev rfl) sl38 (M.rv (i := 0) rfl) (by omega) (by omega)) rfl rfl ?_; clear F; intro φ F
        refine sq_rd F (wt0 rfl) (ld_el rfl (F.ev rfl) agg30 (fun _ e => e ▸ (M.rv (i := 0) rfl)) (by omega) (cS_at (by first | omega | (simp; done) | (simp; omega))) rfl) rfl rfl ?_; clear F; intro φ F
        refine sq_call F M (wt0 rfl) rfl en22 (evc (F.ev rfl) (evc (F.ev rfl) evn)) (of_any D p7 m7 (atS (minL (posL D)) q.toNat) _ (M.pv (i := 1) rfl)) rfl rfl ?_; clear F M; intro φ ω F M
        refine sq_pure F (wt0 rfl) (pu_leq rfl (F.ev rfl) (evk)) rfl rfl ?_; clear F; intro φ F
        refine nx ?_
        cases hs17 : (decide (ofC D (atS (minL (posL D)) q.toNat) ≤ 0))
        · rw [hs17] at F
          have hs17i := of_decide_eq_false hs17
          refine wp_cond_false (F.ev rfl) ?_
          refine wp_skip ?_
          refine nxb ?_
          refine nxq ?_
          -- region 12
          refine wp_region_lit ?_
          refine sq_pure F (wt0 rfl) (pu_move rfl (F.ev rfl)) rfl rfl ?_; clear F; intro φ F
          refine sq_pure F (wt0 rfl) (pu_add rfl (F.ev rfl) (evk) (by omega) (by omega)) rfl rfl ?_; clear F; intro φ F
          refine sq_pure F (wt0 rfl) (pu_assign rfl (F.ev rfl)) rfl rfl ?_; clear F; intro φ F
          refine wpList_nil ?_
          exact ⟨q + 1, by omega, (((((F.nil.cons (F.get (k := 7) rfl)).cons (F.get (k := 6) rfl)).cons (F.get (k := 4) rfl)).cons (F.get (k := 3) rfl)).cons (F.get (k := 0) rfl)), M, by omega, by omega⟩
        · rw [hs17] at F
          have hs17i := of_decide_eq_true hs17
          refine wp_cond_true (F.ev rfl) ?_
          refine wp_seq ?_
          -- region 14
          refine wp_region_lit ?_
          refine sq_pure F (wt0 rfl) (pu_assign rfl (evk)) rfl rfl ?_; clear F; intro φ F
          refine nx ?_
          refine wp_ret ?_
          refine nxrb ?_
          refine nxr ?_
          refine nxr ?_
          refine nxrb ?_
          refine nxr ?_
          refine rt_tmp F rfl rfl ?_
          exfalso; clear F M; first | omega | (simp_all; done) | (simp_all; omega)
    · rw [hs3] at F
      have hs3i := of_decide_eq_true hs3
      refine wp_cond_true (F.ev rfl) ?_
      refine wp_skip ?_
      refine nxq ?_
      refine wp_seq ?_
      refine wp_block ?_
      -- region 8
      refine rg_heads0 F M 11 [.val (.pointer (some ⟨p7, 0, none⟩)), .val (a), .val (.int .i64 i), .val (.pointer (some ⟨gof a, oof a + (i.toNat * 3), none⟩)), .val (.pointer (some ⟨gof a, oof a + (i.toNat * 3), none⟩)), .val (.agg #[.int .i64 ((atC L i.toNat).1.e), .int .i64 ((atC L i.toNat).1.r)]), .val (a), .val (.int .i64 i), .val (.pointer (some ⟨gof a, oof a + (i.toNat * 3), none⟩)), .val (.pointer (some ⟨gof a, oof a + (i.toNat * 3) + 2, none⟩)), .val (.int .i64 ((atC L i.toNat).2))] rfl mixedOK (by kernel_rfl) rfl rfl ⟨?_, ?_, ?_, ?_, ?_, ?_, ?_, ?_, ?_, ?_, ?_, trivial⟩ ?_
      · intro φ1 ω1 hb F1 hdep hold; have F := (F1.cons (F.was hold (s := 4) rfl rfl)); have M := M.below hb; exact ob_rd (wt0 rfl) (Pure.rdy (pu_move rfl (F.ev rfl))) rfl
      · intro φ1 ω1 hb F1 hdep hold; have F := (F1.cons (F.was hold (s := 0) rfl rfl)); have M := M.below hb; exact ob_rd (wt0 rfl) (Pure.rdy (pu_move rfl (F.ev rfl))) rfl
      · intro φ1 ω1 hb F1 hdep hold; have F := (F1.cons (F.was hold (s := 5) rfl rfl)); have M := M.below hb; exact ob_rd (wt0 rfl) (Pure.rdy (pu_move rfl (F.ev rfl))) rfl
      · intro φ1 ω1 hb F1 hdep hold; have F := ((F1.cons (F1.dep hdep 1 (by kernel_rfl) rfl rfl rfl)).cons (F1.dep hdep 2 (by kernel_rfl) rfl rfl rfl)); have M := M.below hb; exact ob_rd (wt0 rfl) (Pure.rdy (pu_ix rfl (F.ev rfl) (F.ev rfl) sl22 (M.av (i := 1) rfl) (by omega) (by omega))) rfl
      · intro φ1 ω1 hb F1 hdep hold; have F := (F1.cons (F1.dep hdep 3 (by kernel_rfl) rfl rfl rfl)); have M := M.below hb; exact ob_rd (wt0 rfl) (Pure.rdy (pu_field rfl (F.ev rfl) fo32_0)) rfl
      · intro φ1 ω1 hb F1 hdep hold; have F := (F1.cons (F1.dep hdep 4 (by kernel_rfl) rfl rfl rfl)); have M := M.below hb; exact ob_rd (wt0 rfl) (ld_elP (q := 0) (k := i.toNat * 3) rfl (F.ev rfl) agg30 (fun _ e => e ▸ (M.av (i := 1) rfl)) (by omega) (cC_at (by first | omega | (simp; done) | (simp; omega))) (by omega) rfl rfl) rfl
      · intro φ1 ω1 hb F1 hdep hold; have F := (F1.cons (F.was hold (s := 0) rfl rfl)); have M := M.below hb; exact ob_rd (wt0 rfl) (Pure.rdy (pu_move rfl (F.ev rfl))) rfl
      · intro φ1 ω1 hb F1 hdep hold; have F := (F1.cons (F.was hold (s := 5) rfl rfl)); have M := M.below hb; exact ob_rd (wt0 rfl) (Pure.rdy (pu_move rfl (F.ev rfl))) rfl
      · intro φ1 ω1 hb F1 hdep hold; have F := ((F1.cons (F1.dep hdep 6 (by kernel_rfl) rfl rfl rfl)).cons (F1.dep hdep 7 (by kernel_rfl) rfl rfl rfl)); have M := M.below hb; exact ob_rd (wt0 rfl) (Pure.rdy (pu_ix rfl (F.ev rfl) (F.ev rfl) sl22 (M.av (i := 1) rfl) (by omega) (by omega))) rfl
      · intro φ1 ω1 hb F1 hdep hold; have F := (F1.cons (F1.dep hdep 8 (by kernel_rfl) rfl rfl rfl)); have M := M.below hb; exact ob_rd (wt0 rfl) (Pure.rdy (pu_field rfl (F.ev rfl) fo32_1)) rfl
      · intro φ1 ω1 hb F1 hdep hold; have F := (F1.cons (F1.dep hdep 9 (by kernel_rfl) rfl rfl rfl)); have M := M.below hb; exact ob_rd (wt0 rfl) (ld_elP1 (q := 2) (k := i.toNat * 3) rfl (F.ev rfl) one3 (fun _ e => e ▸ (M.av (i := 1) rfl)) (by omega) (cC_at (by first | omega | (simp; done) | (simp; omega))) rfl) rfl
      clear F M; intro φ ω F M
      simp only [headL, List.take_succ_cons, List.take_zero, HV.value] at F
      refine sq_callT (Z := (fun v x' => v = .int .i64 (addE (sumC (L.take i.toNat)) ((atC L i.toNat).1) ((atC L i.toNat).2)) ∧ x' = .own [p7, m7] (BagV p7 m7 (addC (sumC (L.take i.toNat)) ((atC L i.toNat).1) ((atC L i.toNat).2))))) F M (wt0 rfl) rfl en13 (evc (F.ev rfl) (evc (F.ev rfl) (evc (F.ev rfl) evn))) (i := 0) rfl (add_any (sumC (L.take i.toNat)) p7 m7 ((atC L i.toNat).1) ((atC L i.toNat).2) _ (M.pv (i := 0) rfl)) rfl rfl ?_; clear F M; rintro φ ω _ _ ⟨rfl, rfl⟩ F M
      have hl_p7_17_2 := addC_len (sumC (L.take i.toNat)) ((atC L i.toNat).1) ((atC L i.toNat).2)
      replace M : Mm [] w ω [.own [p7, m7] (BagV p7 m7 (addC (sumC (L.take i.toNat)) ((atC L i.toNat).1) ((atC L i.toNat).2))), .arg 3 a L.length (cC L)] := M
      refine wpList_nil ?_
      refine nxb ?_
      refine nxq ?_
      -- region 7
      refine wp_region_lit ?_
      refine sq_pure F (wt0 rfl) (pu_move rfl (F.ev rfl)) rfl rfl ?_; clear F; intro φ F
      refine sq_pure F (wt0 rfl) (pu_add rfl (F.ev rfl) (evk) (by omega) (by omega)) rfl rfl ?_; clear F; intro φ F
      refine sq_pure F (wt0 rfl) (pu_assign rfl (F.ev rfl)) rfl rfl ?_; clear F; intro φ F
      refine wpList_nil ?_
      exact ⟨i + 1, by omega, ((((F.nil.cons (F.get (k := 5) rfl)).cons (F.get (k := 4) rfl)).cons (F.get (k := 3) rfl)).cons (F.get (k := 0) rfl)), (by rw [← sum_step (by omega) (by omega)]; exact M), by omega, by omega⟩
  · rw [hs1] at F
    have hs1i := of_decide_eq_true hs1
    refine wp_cond_true (F.ev rfl) ?_
    refine wp_seq ?_
    -- region 4
    refine wp_region_lit ?_
    refine sq_pure F (wt0 rfl) (pu_move rfl (F.ev rfl)) rfl rfl ?_; clear F; intro φ F
    refine sq_pure F (wt0 rfl) (pu_move rfl (F.ev rfl)) rfl rfl ?_; clear F; intro φ F
    refine sq_pure F (wt1 F rfl rfl rfl rfl rfl) (pu_move rfl (F.ev rfl)) rfl rfl ?_; clear F; intro φ F
    refine sq_pure F (wt1 F rfl rfl rfl rfl rfl) (pu_neqP rfl (F.ev rfl) (evk) Try.underlying24) rfl rfl ?_; clear F; intro φ F
    refine sq_pure F (wt0 rfl) (pu_pickt rfl (F.ev rfl) (F.ev rfl)) rfl rfl ?_; clear F; intro φ F
    refine sq_pure F (wt0 rfl) (pu_assign rfl (F.ev rfl)) rfl rfl ?_; clear F; intro φ F
    refine nx ?_
    refine wp_ret ?_
    refine nxr ?_
    refine rt_tmp F rfl rfl ?_
    exact ⟨rfl, M.bel⟩

end Go.Proofs.Ytplnpjhgnhndpaa
