/- Laws of layer 5. Made by walks/pathlaws.py. -/
import Derived.Test.YtpnimdcloanogaaPa
import Derived.Test.YtpnimdcloanogaaRk
namespace Go.Proofs.Ytpnimdcloanogaa
open Go.RowKit

set_option maxHeartbeats 4000000 in
theorem pathTwice_walk (J K L : List St) (a b c : Value) (w : World) (ha : RdS w a J) (hb : RdS w b K) (hc : RdS w c L) :
    Calls Try.prog 9 #[a, b, c] w fun e w' => e = .returned (.bool true) ∧ Below w.heap.size w w' := by
  have q1 := @each_twice J K L
  refine enterF Try.func9 rfl 77 Try.ntmps9 [a, b, c] rfl [(0, a), (1, b), (2, c)] rfl ?_
  intro φ F
  have M := Mm.start [] w
  replace M := M.addArg (hc) (fun _ => by first | (simp; done) | (simp_all; done) | assumption)
  replace M := M.addArg (hb) (fun _ => by first | (simp; done) | (simp_all; done) | assumption)
  replace M := M.addArg (ha) (fun _ => by first | (simp; done) | (simp_all; done) | assumption)
  refine wp_seq ?_
  -- region 0
  refine wp_region_lit ?_
  refine sq_pure F (wt0 rfl) (pu_assign rfl (evk)) rfl rfl ?_; clear F; intro φ F
  refine nx ?_
  refine wp_seq ?_
  -- region 1
  refine wp_region_lit ?_
  refine sq_call F M (wt0 rfl) rfl en10 evn (awake_any _) rfl rfl ?_; clear F M; intro φ ω F M
  refine sq_pure F (wt0 rfl) (pu_assign rfl (F.ev rfl)) rfl rfl ?_; clear F; intro φ F
  refine nx ?_
  refine wp_seq ?_
  refine wp_seq ?_
  -- region 2
  refine wp_region_lit ?_
  refine sq_pure F (wt0 rfl) (pu_move rfl (F.ev rfl)) rfl rfl ?_; clear F; intro φ F
  refine sq_pure F (wt0 rfl) (pu_len rfl (F.ev rfl) sl29 (M.av (i := 0) rfl)) rfl rfl ?_; clear F; intro φ F
  refine sq_pure F (wt0 rfl) (pu_gtr rfl (F.ev rfl) (evk)) rfl rfl ?_; clear F; intro φ F
  refine sq_pure F (wt0 rfl) (pu_move rfl (F.ev rfl)) rfl rfl ?_; clear F; intro φ F
  cases hs1 : (decide (9 < ((J.length : Nat) : Int)))
  · rw [hs1] at F
    have hs1i := of_decide_eq_false hs1
    refine sq_pure F (wt1 F rfl rfl rfl rfl rfl) (pu_move rfl (F.ev rfl)) rfl rfl ?_; clear F; intro φ F
    refine sq_pure F (wt1 F rfl rfl rfl rfl rfl) (pu_len rfl (F.ev rfl) sl29 (M.av (i := 1) rfl)) rfl rfl ?_; clear F; intro φ F
    refine sq_pure F (wt1 F rfl rfl rfl rfl rfl) (pu_gtr rfl (F.ev rfl) (evk)) rfl rfl ?_; clear F; intro φ F
    refine sq_pure F (wt0 rfl) (pu_pickf rfl (F.ev rfl) (F.ev rfl)) rfl rfl ?_; clear F; intro φ F
    refine sq_pure F (wt0 rfl) (pu_move rfl (F.ev rfl)) rfl rfl ?_; clear F; intro φ F
    cases hs2 : (decide (9 < ((K.length : Nat) : Int)))
    · rw [hs2] at F
      have hs2i := of_decide_eq_false hs2
      refine sq_pure F (wt1 F rfl rfl rfl rfl rfl) (pu_move rfl (F.ev rfl)) rfl rfl ?_; clear F; intro φ F
      refine sq_pure F (wt1 F rfl rfl rfl rfl rfl) (pu_len rfl (F.ev rfl) sl29 (M.av (i := 2) rfl)) rfl rfl ?_; clear F; intro φ F
      refine sq_pure F (wt1 F rfl rfl rfl rfl rfl) (pu_gtr rfl (F.ev rfl) (evk)) rfl rfl ?_; clear F; intro φ F
      refine sq_pure F (wt0 rfl) (pu_pickf rfl (F.ev rfl) (F.ev rfl)) rfl rfl ?_; clear F; intro φ F
      refine nx ?_
      cases hs3 : (decide (9 < ((L.length : Nat) : Int)))
      · rw [hs3] at F
        have hs3i := of_decide_eq_false hs3
        refine wp_cond_false (F.ev rfl) ?_
        refine wp_skip ?_
        refine nxq ?_
        refine wp_seq ?_
        -- region 4
        refine wp_region_lit ?_
        refine sq_pure F (wt0 rfl) (pu_move rfl (F.ev rfl)) rfl rfl ?_; clear F; intro φ F
        refine sq_pure F (wt0 rfl) (pu_move rfl (F.ev rfl)) rfl rfl ?_; clear F; intro φ F
        refine sq_callN2 F M (wt0 rfl) (fun v_ => .tuple #[v_, .bool (eachB J K)]) rfl en18 (evc (F.ev rfl) (evc (F.ev rfl) evn)) (path_each_any J K _ _ _ (M.av (i := 0) rfl) (M.av (i := 1) rfl) (by first | omega | (simp; done) | (simp; omega) | (refine Nat.le_trans (minL_len _) ?_; omega) | (refine Nat.le_trans (eachL_len _ _) ?_; omega)) (by first | omega | (simp; done) | (simp; omega) | (refine Nat.le_trans (minL_len _) ?_; omega) | (refine Nat.le_trans (eachL_len _ _) ?_; omega))) rfl rfl ?_; clear F M; intro φ ω v1 F M
        refine sq_pure F (wt0 rfl) (pu_move rfl (F.ev rfl)) rfl rfl ?_; clear F; intro φ F
        refine sq_pure F (wt0 rfl) (pu_extract rfl (F.ev rfl) rfl) rfl rfl ?_; clear F; intro φ F
        refine sq_pure F (wt0 rfl) (pu_extract rfl (F.ev rfl) rfl) rfl rfl ?_; clear F; intro φ F
        refine sq_pure F (wt0 rfl) (pu_assign rfl (F.ev rfl)) rfl rfl ?_; clear F; intro φ F
        refine sq_pure F (wt0 rfl) (pu_assign rfl (F.ev rfl)) rfl rfl ?_; clear F; intro φ F
        refine nx ?_
        refine wp_seq ?_
        -- region 5
        refine wp_region_lit ?_
        refine sq_pure F (wt0 rfl) (pu_move rfl (F.ev rfl)) rfl rfl ?_; clear F; intro φ F
        refine sq_pure F (wt0 rfl) (pu_move rfl (F.ev rfl)) rfl rfl ?_; clear F; intro φ F
        refine sq_callN2 F M (wt0 rfl) (fun v_ => .tuple #[v_, .bool (eachB K L)]) rfl en18 (evc (F.ev rfl) (evc (F.ev rfl) evn)) (path_each_any K L _ _ _ (M.av (i := 2) rfl) (M.av (i := 3) rfl) (by first | omega | (simp; done) | (simp; omega) | (refine Nat.le_trans (minL_len _) ?_; omega) | (refine Nat.le_trans (eachL_len _ _) ?_; omega)) (by first | omega | (simp; done) | (simp; omega) | (refine Nat.le_trans (minL_len _) ?_; omega) | (refine Nat.le_trans (eachL_len _ _) ?_; omega))) rfl rfl ?_; clear F M; intro φ ω v2 F M
        refine sq_pure F (wt0 rfl) (pu_move rfl (F.ev rfl)) rfl rfl ?_; clear F; intro φ F
        refine sq_pure F (wt0 rfl) (pu_extract rfl (F.ev rfl) rfl) rfl rfl ?_; clear F; intro φ F
        refine sq_pure F (wt0 rfl) (pu_extract rfl (F.ev rfl) rfl) rfl rfl ?_; clear F; intro φ F
        refine sq_pure F (wt0 rfl) (pu_assign rfl (F.ev rfl)) rfl rfl ?_; clear F; intro φ F
        refine sq_pure F (wt0 rfl) (pu_assign rfl (F.ev rfl)) rfl rfl ?_; clear F; intro φ F
        refine nx ?_
        refine wp_seq ?_
        refine wp_seq ?_
        -- region 6
        refine wp_region_lit ?_
        refine sq_pure F (wt0 rfl) (pu_move rfl (F.ev rfl)) rfl rfl ?_; clear F; intro φ F
        cases hs4 : (eachB J K)
        · rw [hs4] at F
          refine sq_pure F (wt0 rfl) (pu_not rfl (F.ev rfl)) rfl rfl ?_; clear F; intro φ F
          rw [show (!false) = true from rfl] at F
          refine sq_pure F (wt0 rfl) (pu_move rfl (F.ev rfl)) rfl rfl ?_; clear F; intro φ F
          refine sq_skip F (wtn F rfl rfl rfl rfl rfl) rfl rfl ?_; clear F; intro φ F
          refine sq_skip F (wtn F rfl rfl rfl rfl rfl) rfl rfl ?_; clear F; intro φ F
          refine sq_pure F (wt0 rfl) (pu_pickt rfl (F.ev rfl) (evk)) rfl rfl ?_; clear F; intro φ F
          refine nx ?_
          refine wp_cond_true (F.ev rfl) ?_
          refine wp_seq ?_
          -- region 7
          refine wp_region_lit ?_
          refine sq_pure F (wt0 rfl) (pu_move rfl (F.ev rfl)) rfl rfl ?_; clear F; intro φ F
          refine sq_pure F (wt0 rfl) (pu_assign rfl (F.ev rfl)) rfl rfl ?_; clear F; intro φ F
          refine nx ?_
          refine wp_ret ?_
          refine nxr ?_
          refine rt_tmp F rfl rfl ?_
          exact ⟨rfl, M.bel⟩
        · rw [hs4] at F
          refine sq_pure F (wt0 rfl) (pu_not rfl (F.ev rfl)) rfl rfl ?_; clear F; intro φ F
          rw [show (!true) = false from rfl] at F
          refine sq_pure F (wt0 rfl) (pu_move rfl (F.ev rfl)) rfl rfl ?_; clear F; intro φ F
          refine sq_pure F (wt1 F rfl rfl rfl rfl rfl) (pu_move rfl (F.ev rfl)) rfl rfl ?_; clear F; intro φ F
          cases hs5 : (eachB K L)
          · rw [hs5] at F
            refine sq_pure F (wt1 F rfl rfl rfl rfl rfl) (pu_not rfl (F.ev rfl)) rfl rfl ?_; clear F; intro φ F
            rw [show (!false) = true from rfl] at F
            refine sq_pure F (wt0 rfl) (pu_pickf rfl (F.ev rfl) (F.ev rfl)) rfl rfl ?_; clear F; intro φ F
            refine nx ?_
            refine wp_cond_true (F.ev rfl) ?_
            refine wp_seq ?_
            -- region 7
            refine wp_region_lit ?_
            refine sq_pure F (wt0 rfl) (pu_move rfl (F.ev rfl)) rfl rfl ?_; clear F; intro φ F
            refine sq_pure F (wt0 rfl) (pu_assign rfl (F.ev rfl)) rfl rfl ?_; clear F; intro φ F
            refine nx ?_
            refine wp_ret ?_
            refine nxr ?_
            refine rt_tmp F rfl rfl ?_
            exact ⟨rfl, M.bel⟩
          · rw [hs5] at F
            refine sq_pure F (wt1 F rfl rfl rfl rfl rfl) (pu_not rfl (F.ev rfl)) rfl rfl ?_; clear F; intro φ F
            rw [show (!true) = false from rfl] at F
            refine sq_pure F (wt0 rfl) (pu_pickf rfl (F.ev rfl) (F.ev rfl)) rfl rfl ?_; clear F; intro φ F
            refine nx ?_
            refine wp_cond_false (F.ev rfl) ?_
            refine wp_skip ?_
            refine nxq ?_
            refine wp_seq ?_
            -- region 8
            refine wp_region_lit ?_
            refine sq_pure F (wt0 rfl) (pu_move rfl (F.ev rfl)) rfl rfl ?_; clear F; intro φ F
            refine sq_pure F (wt0 rfl) (pu_move rfl (F.ev rfl)) rfl rfl ?_; clear F; intro φ F
            refine sq_callN2 F M (wt0 rfl) (fun v_ => .tuple #[v_, .bool (eachB (eachL J K) L)]) rfl en18 (evc (F.ev rfl) (evc (F.ev rfl) evn)) (path_each_any (eachL J K) L _ _ _ (M.rv (i := 1) rfl) (M.av (i := 4) rfl) (by first | omega | (simp; done) | (simp; omega) | (refine Nat.le_trans (minL_len _) ?_; omega) | (refine Nat.le_trans (eachL_len _ _) ?_; omega)) (by first | omega | (simp; done) | (simp; omega) | (refine Nat.le_trans (minL_len _) ?_; omega) | (refine Nat.le_trans (eachL_len _ _) ?_; omega))) rfl rfl ?_; clear F M; intro φ ω v3 F M
            refine sq_pure F (wt0 rfl) (pu_move rfl (F.ev rfl)) rfl rfl ?_; clear F; intro φ F
            refine sq_pure F (wt0 rfl) (pu_extract rfl (F.ev rfl) rfl) rfl rfl ?_; clear F; intro φ F
            refine sq_pure F (wt0 rfl) (pu_extract rfl (F.ev rfl) rfl) rfl rfl ?_; clear F; intro φ F
            refine sq_pure F (wt0 rfl) (pu_assign rfl (F.ev rfl)) rfl rfl ?_; clear F; intro φ F
            refine sq_pure F (wt0 rfl) (pu_assign rfl (F.ev rfl)) rfl rfl ?_; clear F; intro φ F
            refine nx ?_
            refine wp_seq ?_
            -- region 9
            refine wp_region_lit ?_
            refine sq_pure F (wt0 rfl) (pu_move rfl (F.ev rfl)) rfl rfl ?_; clear F; intro φ F
            refine sq_pure F (wt0 rfl) (pu_move rfl (F.ev rfl)) rfl rfl ?_; clear F; intro φ F
            refine sq_callN2 F M (wt0 rfl) (fun v_ => .tuple #[v_, .bool (eachB J (eachL K L))]) rfl en18 (evc (F.ev rfl) (evc (F.ev rfl) evn)) (path_each_any J (eachL K L) _ _ _ (M.av (i := 3) rfl) (M.rv (i := 1) rfl) (by first | omega | (simp; done) | (simp; omega) | (refine Nat.le_trans (minL_len _) ?_; omega) | (refine Nat.le_trans (eachL_len _ _) ?_; omega)) (by first | omega | (simp; done) | (simp; omega) | (refine Nat.le_trans (minL_len _) ?_; omega) | (refine Nat.le_trans (eachL_len _ _) ?_; omega))) rfl rfl ?_; clear F M; intro φ ω v4 F M
            refine sq_pure F (wt0 rfl) (pu_move rfl (F.ev rfl)) rfl rfl ?_; clear F; intro φ F
            refine sq_pure F (wt0 rfl) (pu_extract rfl (F.ev rfl) rfl) rfl rfl ?_; clear F; intro φ F
            refine sq_pure F (wt0 rfl) (pu_extract rfl (F.ev rfl) rfl) rfl rfl ?_; clear F; intro φ F
            refine sq_pure F (wt0 rfl) (pu_assign rfl (F.ev rfl)) rfl rfl ?_; clear F; intro φ F
            refine sq_pure F (wt0 rfl) (pu_assign rfl (F.ev rfl)) rfl rfl ?_; clear F; intro φ F
            refine nx ?_
            refine wp_seq ?_
            refine wp_seq ?_
            -- region 10
            refine wp_region_lit ?_
            refine sq_pure F (wt0 rfl) (pu_move rfl (F.ev rfl)) rfl rfl ?_; clear F; intro φ F
            cases hs6 : (eachB (eachL J K) L)
            · rw [hs6] at F
              refine sq_pure F (wt0 rfl) (pu_not rfl (F.ev rfl)) rfl rfl ?_; clear F; intro φ F
              rw [show (!false) = true from rfl] at F
              refine sq_pure F (wt0 rfl) (pu_move rfl (F.ev rfl)) rfl rfl ?_; clear F; intro φ F
              refine sq_skip F (wtn F rfl rfl rfl rfl rfl) rfl rfl ?_; clear F; intro φ F
              refine sq_skip F (wtn F rfl rfl rfl rfl rfl) rfl rfl ?_; clear F; intro φ F
              refine sq_pure F (wt0 rfl) (pu_pickt rfl (F.ev rfl) (evk)) rfl rfl ?_; clear F; intro φ F
              refine nx ?_
              refine wp_cond_true (F.ev rfl) ?_
              refine wp_seq ?_
              -- region 11
              refine wp_region_lit ?_
              refine sq_pure F (wt0 rfl) (pu_move rfl (F.ev rfl)) rfl rfl ?_; clear F; intro φ F
              refine sq_pure F (wt0 rfl) (pu_assign rfl (F.ev rfl)) rfl rfl ?_; clear F; intro φ F
              refine nx ?_
              refine wp_ret ?_
              refine nxr ?_
              refine rt_tmp F rfl rfl ?_
              exact ⟨rfl, M.bel⟩
            · rw [hs6] at F
              refine sq_pure F (wt0 rfl) (pu_not rfl (F.ev rfl)) rfl rfl ?_; clear F; intro φ F
              rw [show (!true) = false from rfl] at F
              refine sq_pure F (wt0 rfl) (pu_move rfl (F.ev rfl)) rfl rfl ?_; clear F; intro φ F
              refine sq_pure F (wt1 F rfl rfl rfl rfl rfl) (pu_move rfl (F.ev rfl)) rfl rfl ?_; clear F; intro φ F
              cases hs7 : (eachB J (eachL K L))
              · rw [hs7] at F
                refine sq_pure F (wt1 F rfl rfl rfl rfl rfl) (pu_not rfl (F.ev rfl)) rfl rfl ?_; clear F; intro φ F
                rw [show (!false) = true from rfl] at F
                refine sq_pure F (wt0 rfl) (pu_pickf rfl (F.ev rfl) (F.ev rfl)) rfl rfl ?_; clear F; intro φ F
                refine nx ?_
                refine wp_cond_true (F.ev rfl) ?_
                refine wp_seq ?_
                -- region 11
                refine wp_region_lit ?_
                refine sq_pure F (wt0 rfl) (pu_move rfl (F.ev rfl)) rfl rfl ?_; clear F; intro φ F
                refine sq_pure F (wt0 rfl) (pu_assign rfl (F.ev rfl)) rfl rfl ?_; clear F; intro φ F
                refine nx ?_
                refine wp_ret ?_
                refine nxr ?_
                refine rt_tmp F rfl rfl ?_
                exact ⟨rfl, M.bel⟩
              · rw [hs7] at F
                refine sq_pure F (wt1 F rfl rfl rfl rfl rfl) (pu_not rfl (F.ev rfl)) rfl rfl ?_; clear F; intro φ F
                rw [show (!true) = false from rfl] at F
                refine sq_pure F (wt0 rfl) (pu_pickf rfl (F.ev rfl) (F.ev rfl)) rfl rfl ?_; clear F; intro φ F
                refine nx ?_
                refine wp_cond_false (F.ev rfl) ?_
                refine wp_skip ?_
                refine nxq ?_
                refine wp_seq ?_
                -- region 12
                refine wp_region_lit ?_
                refine sq_pure F (wt0 rfl) (pu_move rfl (F.ev rfl)) rfl rfl ?_; clear F; intro φ F
                refine sq_pure F (wt0 rfl) (pu_move rfl (F.ev rfl)) rfl rfl ?_; clear F; intro φ F
                refine sq_call F M (wt0 rfl) rfl en15 (evc (F.ev rfl) (evc (F.ev rfl) evn)) (psame_any (eachL (eachL J K) L) (eachL J (eachL K L)) _ _ _ (M.rv (i := 1) rfl) (M.rv (i := 0) rfl) (by first | omega | (simp; done) | (simp; omega) | (refine Nat.le_trans (minL_len _) ?_; omega) | (refine Nat.le_trans (eachL_len _ _) ?_; omega)) (by first | omega | (simp; done) | (simp; omega) | (refine Nat.le_trans (minL_len _) ?_; omega) | (refine Nat.le_trans (eachL_len _ _) ?_; omega))) rfl rfl ?_; clear F M; intro φ ω F M
                refine sq_pure F (wt0 rfl) (pu_assign rfl (F.ev rfl)) rfl rfl ?_; clear F; intro φ F
                refine nx ?_
                refine wp_seq ?_
                -- region 13
                refine wp_region_lit ?_
                refine sq_pure F (wt0 rfl) (pu_move rfl (F.ev rfl)) rfl rfl ?_; clear F; intro φ F
                refine sq_pure F (wt0 rfl) (pu_move rfl (F.ev rfl)) rfl rfl ?_; clear F; intro φ F
                refine sq_pure F (wt1 F rfl rfl rfl rfl rfl) (pu_move rfl (F.ev rfl)) rfl rfl ?_; clear F; intro φ F
                refine sq_pure F (wt0 rfl) (pu_pickt rfl (F.ev rfl) (F.ev rfl)) rfl rfl ?_; clear F; intro φ F
                refine sq_pure F (wt0 rfl) (pu_assign rfl (F.ev rfl)) rfl rfl ?_; clear F; intro φ F
                refine nx ?_
                cases hs8 : (decide ((eachL (eachL J K) L) = (eachL J (eachL K L))))
                · rw [hs8] at F
                  have hs8i := of_decide_eq_false hs8
                  refine wp_ret ?_
                  refine rt_tmp F rfl rfl ?_
                  exfalso; clear F M; first | omega | (simp only [St.zero] at *; omega) | (simp_all; done) | (simp_all; omega)
                · rw [hs8] at F
                  have hs8i := of_decide_eq_true hs8
                  refine wp_ret ?_
                  refine rt_tmp F rfl rfl ?_
                  exact ⟨rfl, M.bel⟩
      · rw [hs3] at F
        have hs3i := of_decide_eq_true hs3
        refine wp_cond_true (F.ev rfl) ?_
        refine wp_seq ?_
        -- region 3
        refine wp_region_lit ?_
        refine sq_pure F (wt0 rfl) (pu_move rfl (F.ev rfl)) rfl rfl ?_; clear F; intro φ F
        refine sq_pure F (wt0 rfl) (pu_assign rfl (F.ev rfl)) rfl rfl ?_; clear F; intro φ F
        refine nx ?_
        refine wp_ret ?_
        refine nxr ?_
        refine rt_tmp F rfl rfl ?_
        exact ⟨rfl, M.bel⟩
    · rw [hs2] at F
      have hs2i := of_decide_eq_true hs2
      refine sq_skip F (wtn F rfl rfl rfl rfl rfl) rfl rfl ?_; clear F; intro φ F
      refine sq_skip F (wtn F rfl rfl rfl rfl rfl) rfl rfl ?_; clear F; intro φ F
      refine sq_skip F (wtn F rfl rfl rfl rfl rfl) rfl rfl ?_; clear F; intro φ F
      refine sq_pure F (wt0 rfl) (pu_pickt rfl (F.ev rfl) (evk)) rfl rfl ?_; clear F; intro φ F
      refine nx ?_
      refine wp_cond_true (F.ev rfl) ?_
      refine wp_seq ?_
      -- region 3
      refine wp_region_lit ?_
      refine sq_pure F (wt0 rfl) (pu_move rfl (F.ev rfl)) rfl rfl ?_; clear F; intro φ F
      refine sq_pure F (wt0 rfl) (pu_assign rfl (F.ev rfl)) rfl rfl ?_; clear F; intro φ F
      refine nx ?_
      refine wp_ret ?_
      refine nxr ?_
      refine rt_tmp F rfl rfl ?_
      exact ⟨rfl, M.bel⟩
  · rw [hs1] at F
    have hs1i := of_decide_eq_true hs1
    refine sq_skip F (wtn F rfl rfl rfl rfl rfl) rfl rfl ?_; clear F; intro φ F
    refine sq_skip F (wtn F rfl rfl rfl rfl rfl) rfl rfl ?_; clear F; intro φ F
    refine sq_skip F (wtn F rfl rfl rfl rfl rfl) rfl rfl ?_; clear F; intro φ F
    refine sq_pure F (wt0 rfl) (pu_pickt rfl (F.ev rfl) (evk)) rfl rfl ?_; clear F; intro φ F
    refine sq_pure F (wt0 rfl) (pu_move rfl (F.ev rfl)) rfl rfl ?_; clear F; intro φ F
    refine sq_skip F (wtn F rfl rfl rfl rfl rfl) rfl rfl ?_; clear F; intro φ F
    refine sq_skip F (wtn F rfl rfl rfl rfl rfl) rfl rfl ?_; clear F; intro φ F
    refine sq_skip F (wtn F rfl rfl rfl rfl rfl) rfl rfl ?_; clear F; intro φ F
    refine sq_pure F (wt0 rfl) (pu_pickt rfl (F.ev rfl) (evk)) rfl rfl ?_; clear F; intro φ F
    refine nx ?_
    refine wp_cond_true (F.ev rfl) ?_
    refine wp_seq ?_
    -- region 3
    refine wp_region_lit ?_
    refine sq_pure F (wt0 rfl) (pu_move rfl (F.ev rfl)) rfl rfl ?_; clear F; intro φ F
    refine sq_pure F (wt0 rfl) (pu_assign rfl (F.ev rfl)) rfl rfl ?_; clear F; intro φ F
    refine nx ?_
    refine wp_ret ?_
    refine nxr ?_
    refine rt_tmp F rfl rfl ?_
    exact ⟨rfl, M.bel⟩

end Go.Proofs.Ytpnimdcloanogaa
