/- Laws of layer 3. Made by walks/antilaws.py. -/
import Derived.Test.YtabpnebiannglaaAl
namespace Go.Proofs.Ytabpnebiannglaa
open Go.RowKit Go.Sort

set_option maxHeartbeats 4000000 in
theorem antiJoined_walk (K L : List St) (t : St) (a b : Value) (w : World) (ha : RdS w a K) (hb : RdS w b L) :
    Calls Try.prog 7 #[a, b, .agg #[.int .i64 t.e, .int .i64 t.r]] w fun e w' => e = .returned (.bool true) ∧ Below w.heap.size w w' := by
  have q1 := cov_app K L t
  have z1 := minL_len K
  have z2 := minL_len L
  refine enterF Try.func7 rfl 56 Try.ntmps7 [a, b, .agg #[.int .i64 t.e, .int .i64 t.r]] rfl [(0, a), (1, b), (2, .agg #[.int .i64 t.e, .int .i64 t.r])] rfl ?_
  intro φ F
  have M := Mm.start [] w
  replace M := M.addArg (hb)
  replace M := M.addArg (ha)
  refine wp_seq ?_
  -- region 0
  refine wp_region_lit ?_
  refine sq_box F M (wt0 rfl) rfl (F.ev rfl) (cs := #[.int .i64 t.e, .int .i64 t.r]) rfl rfl rfl ?_; clear F M; intro φ ω g1 F M
  refine sq_pure F (wt0 rfl) (pu_assign rfl (evk)) rfl rfl ?_; clear F; intro φ F
  refine nx ?_
  refine wp_seq ?_
  -- region 1
  refine wp_region_lit ?_
  refine sq_call F M (wt0 rfl) rfl en11 evn (awake_any _) rfl rfl ?_; clear F M; intro φ ω F M
  refine sq_pure F (wt0 rfl) (pu_assign rfl (F.ev rfl)) rfl rfl ?_; clear F; intro φ F
  refine nx ?_
  refine wp_seq ?_
  refine wp_seq ?_
  -- region 2
  refine wp_region_lit ?_
  refine sq_pure F (wt0 rfl) (pu_move rfl (F.ev rfl)) rfl rfl ?_; clear F; intro φ F
  refine sq_pure F (wt0 rfl) (pu_len rfl (F.ev rfl) sl22 (M.av (i := 1) rfl)) rfl rfl ?_; clear F; intro φ F
  refine sq_pure F (wt0 rfl) (pu_gtr rfl (F.ev rfl) (evk)) rfl rfl ?_; clear F; intro φ F
  refine sq_pure F (wt0 rfl) (pu_move rfl (F.ev rfl)) rfl rfl ?_; clear F; intro φ F
  cases hs1 : (decide (200 < ((K.length : Nat) : Int)))
  · rw [hs1] at F
    have hs1i := of_decide_eq_false hs1
    refine sq_pure F (wt1 F rfl rfl rfl rfl rfl) (pu_move rfl (F.ev rfl)) rfl rfl ?_; clear F; intro φ F
    refine sq_pure F (wt1 F rfl rfl rfl rfl rfl) (pu_len rfl (F.ev rfl) sl22 (M.av (i := 2) rfl)) rfl rfl ?_; clear F; intro φ F
    refine sq_pure F (wt1 F rfl rfl rfl rfl rfl) (pu_gtr rfl (F.ev rfl) (evk)) rfl rfl ?_; clear F; intro φ F
    refine sq_pure F (wt0 rfl) (pu_pickf rfl (F.ev rfl) (F.ev rfl)) rfl rfl ?_; clear F; intro φ F
    refine nx ?_
    cases hs2 : (decide (200 < ((L.length : Nat) : Int)))
    · rw [hs2] at F
      have hs2i := of_decide_eq_false hs2
      refine wp_cond_false (F.ev rfl) ?_
      refine wp_skip ?_
      refine nxq ?_
      refine wp_seq ?_
      -- region 4
      refine wp_region_lit ?_
      refine sq_bs (e := 28) (m := 2) (k := 0) (parts := #[]) (cs := #[]) F M (wt0 rfl) (bs22_0 rfl _) (by omega) rfl rfl rfl ?_; clear F M; intro φ ω g2 F M
      replace M : Mm [] w ω [.row 28 2 (.slice (some ⟨g2, 0, none⟩) 0 0) 0 (cS []), .blk g1 28 #[.int .i64 t.e, .int .i64 t.r], .arg 2 a K.length (cS K), .arg 2 b L.length (cS L)] := M
      refine sq_pure F (wt0 rfl) (pu_move rfl (F.ev rfl)) rfl rfl ?_; clear F; intro φ F
      refine sq_app F M (wt0 rfl) rfl sl22.1 el28 (F.ev rfl) (i := 0) rfl (F.ev rfl) (M.av (i := 2) rfl) (cS_ones _) (by omega) (by omega) rfl rfl ?_; clear F M; intro φ ω v1 F M
      replace M : Mm [] w ω [.row 28 2 v1 (0 + K.length) ((cS []) ++ (cS K)), .blk g1 28 #[.int .i64 t.e, .int .i64 t.r], .arg 2 a K.length (cS K), .arg 2 b L.length (cS L)] := M
      simp only [show cS [] = [] from rfl, List.nil_append, show 0 + K.length = K.length from by first | rfl | (simp; done) | (simp; omega)] at M
      refine sq_pure F (wt0 rfl) (pu_move rfl (F.ev rfl)) rfl rfl ?_; clear F; intro φ F
      refine sq_app F M (wt0 rfl) rfl sl22.1 el28 (F.ev rfl) (i := 0) rfl (F.ev rfl) (M.av (i := 3) rfl) (cS_ones _) (by omega) (by omega) rfl rfl ?_; clear F M; intro φ ω v2 F M
      replace M : Mm [] w ω [.row 28 2 v2 (K.length + L.length) ((cS K) ++ (cS L)), .blk g1 28 #[.int .i64 t.e, .int .i64 t.r], .arg 2 a K.length (cS K), .arg 2 b L.length (cS L)] := M
      rw [← cS_app, show K.length + L.length = (K ++ L).length from by first | rfl | (simp; done) | (simp; omega)] at M
      refine sq_pure F (wt0 rfl) (pu_assign rfl (F.ev rfl)) rfl rfl ?_; clear F; intro φ F
      refine nx ?_
      refine wp_seq ?_
      -- region 5
      refine wp_region_lit ?_
      refine sq_bs (e := 28) (m := 2) (k := 0) (parts := #[]) (cs := #[]) F M (wt0 rfl) (bs22_0 rfl _) (by omega) rfl rfl rfl ?_; clear F M; intro φ ω g3 F M
      replace M : Mm [] w ω [.row 28 2 (.slice (some ⟨g3, 0, none⟩) 0 0) 0 (cS []), .row 28 2 v2 ((K ++ L).length) (cS (K ++ L)), .blk g1 28 #[.int .i64 t.e, .int .i64 t.r], .arg 2 a K.length (cS K), .arg 2 b L.length (cS L)] := M
      refine sq_pure F (wt0 rfl) (pu_move rfl (F.ev rfl)) rfl rfl ?_; clear F; intro φ F
      refine sq_callN F M (wt0 rfl) rfl en13 (evc (F.ev rfl) evn) (min_any K _ _ (M.av (i := 3) rfl) (by first | omega | (simp; done) | (simp; omega))) rfl rfl ?_; clear F M; intro φ ω v3 F M
      refine sq_app F M (wt0 rfl) rfl sl22.1 el28 (F.ev rfl) (i := 1) rfl (F.ev rfl) (M.rv (i := 0) rfl) (cS_ones _) (by omega) (by omega) rfl rfl ?_; clear F M; intro φ ω v4 F M
      replace M : Mm [] w ω [.row 28 2 v3 ((minL K).length) (cS (minL K)), .row 28 2 v4 (0 + ((minL K).length)) ((cS []) ++ (cS (minL K))), .row 28 2 v2 ((K ++ L).length) (cS (K ++ L)), .blk g1 28 #[.int .i64 t.e, .int .i64 t.r], .arg 2 a K.length (cS K), .arg 2 b L.length (cS L)] := M
      simp only [show cS [] = [] from rfl, List.nil_append, show 0 + ((minL K).length) = (minL K).length from by first | rfl | (simp; done) | (simp; omega)] at M
      refine sq_pure F (wt0 rfl) (pu_move rfl (F.ev rfl)) rfl rfl ?_; clear F; intro φ F
      refine sq_callN F M (wt0 rfl) rfl en13 (evc (F.ev rfl) evn) (min_any L _ _ (M.av (i := 5) rfl) (by first | omega | (simp; done) | (simp; omega))) rfl rfl ?_; clear F M; intro φ ω v5 F M
      refine sq_app F M (wt0 rfl) rfl sl22.1 el28 (F.ev rfl) (i := 2) rfl (F.ev rfl) (M.rv (i := 0) rfl) (cS_ones _) (by omega) (by omega) rfl rfl ?_; clear F M; intro φ ω v6 F M
      replace M : Mm [] w ω [.row 28 2 v5 ((minL L).length) (cS (minL L)), .row 28 2 v3 ((minL K).length) (cS (minL K)), .row 28 2 v6 (((minL K).length) + ((minL L).length)) ((cS (minL K)) ++ (cS (minL L))), .row 28 2 v2 ((K ++ L).length) (cS (K ++ L)), .blk g1 28 #[.int .i64 t.e, .int .i64 t.r], .arg 2 a K.length (cS K), .arg 2 b L.length (cS L)] := M
      rw [← cS_app, show ((minL K).length) + ((minL L).length) = ((minL K) ++ (minL L)).length from by first | rfl | (simp; done) | (simp; omega)] at M
      refine sq_pure F (wt0 rfl) (pu_assign rfl (F.ev rfl)) rfl rfl ?_; clear F; intro φ F
      refine nx ?_
      refine wp_seq ?_
      -- region 6
      refine wp_region_lit ?_
      refine sq_pure F (wt0 rfl) (pu_move rfl (F.ev rfl)) rfl rfl ?_; clear F; intro φ F
      refine sq_callN F M (wt0 rfl) rfl en13 (evc (F.ev rfl) evn) (min_any (K ++ L) _ _ (M.rv (i := 3) rfl) (by first | omega | (simp; done) | (simp; omega))) rfl rfl ?_; clear F M; intro φ ω v7 F M
      refine sq_pure F (wt0 rfl) (pu_move rfl (F.ev rfl)) rfl rfl ?_; clear F; intro φ F
      refine sq_callN F M (wt0 rfl) rfl en13 (evc (F.ev rfl) evn) (min_any ((minL K) ++ (minL L)) _ _ (M.rv (i := 3) rfl) (by first | omega | (simp; done) | (simp; omega))) rfl rfl ?_; clear F M; intro φ ω v8 F M
      refine sq_call F M (wt0 rfl) rfl en12 (evc (F.ev rfl) (evc (F.ev rfl) evn)) (rsame_any (minL (K ++ L)) (minL ((minL K) ++ (minL L))) _ _ _ (M.rv (i := 1) rfl) (M.rv (i := 0) rfl) (Nat.le_trans (minL_len _) (by first | omega | (simp; omega))) (Nat.le_trans (minL_len _) (by first | omega | (simp; omega)))) rfl rfl ?_; clear F M; intro φ ω F M
      rw [(decide_eq_true (joined K L))] at F
      refine sq_pure F (wt0 rfl) (pu_assign rfl (F.ev rfl)) rfl rfl ?_; clear F; intro φ F
      refine nx ?_
      refine wp_seq ?_
      -- region 7
      refine rg_quiet M mixedOK (by kernel_rfl) ?_
      refine qt_pure F (wt0 rfl) (pu_move rfl (F.ev rfl)) rfl rfl ?_; clear F; intro φ F
      refine qt_pure F (wt0 rfl) (pu_move rfl (F.ev rfl)) rfl rfl ?_; clear F; intro φ F
      refine qt_pure F (wt1 F rfl rfl rfl rfl rfl) (pu_move rfl (F.ev rfl)) rfl rfl ?_; clear F; intro φ F
      refine qt_pure F (wt0 rfl) (pu_pickt rfl (F.ev rfl) (F.ev rfl)) rfl rfl ?_; clear F; intro φ F
      refine qt_pure F (wt0 rfl) (pu_move rfl (F.ev rfl)) rfl rfl ?_; clear F; intro φ F
      refine qt_pure F (wt1 F rfl rfl rfl rfl rfl) (pu_move rfl (F.ev rfl)) rfl rfl ?_; clear F; intro φ F
      refine qt_rd F (wt1 F rfl rfl rfl rfl rfl) (ld_agg rfl (F.ev rfl) agg28 (M.rdB (i := 6) rfl) rfl) rfl rfl ?_; clear F; intro φ F
      refine qt_call F (wt1 F rfl rfl rfl rfl rfl) rfl en17 (evc (F.ev rfl) (evc (F.ev rfl) evn)) (fun w' h => calls_below h (covers_any (K ++ L) t _ w' (RdV.below (M.rv (i := 5) rfl) h) (by first | omega | (simp; done) | (simp; omega)))) rfl rfl ?_; clear F; intro φ F
      refine qt_pure F (wt1 F rfl rfl rfl rfl rfl) (pu_move rfl (F.ev rfl)) rfl rfl ?_; clear F; intro φ F
      refine qt_rd F (wt1 F rfl rfl rfl rfl rfl) (ld_agg rfl (F.ev rfl) agg28 (M.rdB (i := 6) rfl) rfl) rfl rfl ?_; clear F; intro φ F
      refine qt_call F (wt1 F rfl rfl rfl rfl rfl) rfl en17 (evc (F.ev rfl) (evc (F.ev rfl) evn)) (fun w' h => calls_below h (covers_any K t _ w' (RdV.below (M.av (i := 7) rfl) h) (by first | omega | (simp; done) | (simp; omega)))) rfl rfl ?_; clear F; intro φ F
      refine qt_pure F (wt1 F rfl rfl rfl rfl rfl) (pu_move rfl (F.ev rfl)) rfl rfl ?_; clear F; intro φ F
      cases hs3 : (covB K t)
      · rw [hs3] at F
        refine qt_pure F (wt1 F rfl rfl rfl rfl rfl) (pu_move rfl (F.ev rfl)) rfl rfl ?_; clear F; intro φ F
        refine qt_rd F (wt1 F rfl rfl rfl rfl rfl) (ld_agg rfl (F.ev rfl) agg28 (M.rdB (i := 6) rfl) rfl) rfl rfl ?_; clear F; intro φ F
        refine qt_call F (wt1 F rfl rfl rfl rfl rfl) rfl en17 (evc (F.ev rfl) (evc (F.ev rfl) evn)) (fun w' h => calls_below h (covers_any L t _ w' (RdV.below (M.av (i := 8) rfl) h) (by first | omega | (simp; done) | (simp; omega)))) rfl rfl ?_; clear F; intro φ F
        refine qt_pure F (wt1 F rfl rfl rfl rfl rfl) (pu_pickf rfl (F.ev rfl) (F.ev rfl)) rfl rfl ?_; clear F; intro φ F
        cases hs4 : (covB (K ++ L) t)
        · rw [hs4] at F
          cases hs5 : (covB L t)
          · rw [hs5] at F
            refine qt_pure F (wt1 F rfl rfl rfl rfl rfl) (pu_eqlB rfl (F.ev rfl) (F.ev rfl) Try.underlying4) rfl rfl ?_; clear F; intro φ F
            rw [show (false == false) = true from rfl] at F
            refine qt_pure F (wt0 rfl) (pu_pickt rfl (F.ev rfl) (F.ev rfl)) rfl rfl ?_; clear F; intro φ F
            refine qt_pure F (wt0 rfl) (pu_assign rfl (F.ev rfl)) rfl rfl ?_; clear F; intro φ F
            refine wpQuiet_nil ?_
            clear M; intro ω M
            refine nxq ?_
            refine wp_ret ?_
            refine rt_tmp F rfl rfl ?_
            exact ⟨rfl, M.bel⟩
          · rw [hs5] at F
            refine qt_pure F (wt1 F rfl rfl rfl rfl rfl) (pu_eqlB rfl (F.ev rfl) (F.ev rfl) Try.underlying4) rfl rfl ?_; clear F; intro φ F
            rw [show (false == true) = false from rfl] at F
            refine qt_pure F (wt0 rfl) (pu_pickt rfl (F.ev rfl) (F.ev rfl)) rfl rfl ?_; clear F; intro φ F
            refine qt_pure F (wt0 rfl) (pu_assign rfl (F.ev rfl)) rfl rfl ?_; clear F; intro φ F
            refine wpQuiet_nil ?_
            clear M; intro ω M
            refine nxq ?_
            refine wp_ret ?_
            refine rt_tmp F rfl rfl ?_
            exfalso; clear F M; simp_all
        · rw [hs4] at F
          cases hs6 : (covB L t)
          · rw [hs6] at F
            refine qt_pure F (wt1 F rfl rfl rfl rfl rfl) (pu_eqlB rfl (F.ev rfl) (F.ev rfl) Try.underlying4) rfl rfl ?_; clear F; intro φ F
            rw [show (true == false) = false from rfl] at F
            refine qt_pure F (wt0 rfl) (pu_pickt rfl (F.ev rfl) (F.ev rfl)) rfl rfl ?_; clear F; intro φ F
            refine qt_pure F (wt0 rfl) (pu_assign rfl (F.ev rfl)) rfl rfl ?_; clear F; intro φ F
            refine wpQuiet_nil ?_
            clear M; intro ω M
            refine nxq ?_
            refine wp_ret ?_
            refine rt_tmp F rfl rfl ?_
            exfalso; clear F M; simp_all
          · rw [hs6] at F
            refine qt_pure F (wt1 F rfl rfl rfl rfl rfl) (pu_eqlB rfl (F.ev rfl) (F.ev rfl) Try.underlying4) rfl rfl ?_; clear F; intro φ F
            rw [show (true == true) = true from rfl] at F
            refine qt_pure F (wt0 rfl) (pu_pickt rfl (F.ev rfl) (F.ev rfl)) rfl rfl ?_; clear F; intro φ F
            refine qt_pure F (wt0 rfl) (pu_assign rfl (F.ev rfl)) rfl rfl ?_; clear F; intro φ F
            refine wpQuiet_nil ?_
            clear M; intro ω M
            refine nxq ?_
            refine wp_ret ?_
            refine rt_tmp F rfl rfl ?_
            exact ⟨rfl, M.bel⟩
      · rw [hs3] at F
        refine qt_skip F (wtn F rfl rfl rfl rfl rfl) rfl rfl ?_; clear F; intro φ F
        refine qt_skip F (wtn F rfl rfl rfl rfl rfl) rfl rfl ?_; clear F; intro φ F
        refine qt_skip F (wtn F rfl rfl rfl rfl rfl) rfl rfl ?_; clear F; intro φ F
        refine qt_pure F (wt1 F rfl rfl rfl rfl rfl) (pu_pickt rfl (F.ev rfl) (evk)) rfl rfl ?_; clear F; intro φ F
        cases hs7 : (covB (K ++ L) t)
        · rw [hs7] at F
          refine qt_pure F (wt1 F rfl rfl rfl rfl rfl) (pu_eqlB rfl (F.ev rfl) (F.ev rfl) Try.underlying4) rfl rfl ?_; clear F; intro φ F
          rw [show (false == true) = false from rfl] at F
          refine qt_pure F (wt0 rfl) (pu_pickt rfl (F.ev rfl) (F.ev rfl)) rfl rfl ?_; clear F; intro φ F
          refine qt_pure F (wt0 rfl) (pu_assign rfl (F.ev rfl)) rfl rfl ?_; clear F; intro φ F
          refine wpQuiet_nil ?_
          clear M; intro ω M
          refine nxq ?_
          refine wp_ret ?_
          refine rt_tmp F rfl rfl ?_
          exfalso; clear F M; simp_all
        · rw [hs7] at F
          refine qt_pure F (wt1 F rfl rfl rfl rfl rfl) (pu_eqlB rfl (F.ev rfl) (F.ev rfl) Try.underlying4) rfl rfl ?_; clear F; intro φ F
          rw [show (true == true) = true from rfl] at F
          refine qt_pure F (wt0 rfl) (pu_pickt rfl (F.ev rfl) (F.ev rfl)) rfl rfl ?_; clear F; intro φ F
          refine qt_pure F (wt0 rfl) (pu_assign rfl (F.ev rfl)) rfl rfl ?_; clear F; intro φ F
          refine wpQuiet_nil ?_
          clear M; intro ω M
          refine nxq ?_
          refine wp_ret ?_
          refine rt_tmp F rfl rfl ?_
          exact ⟨rfl, M.bel⟩
    · rw [hs2] at F
      have hs2i := of_decide_eq_true hs2
      refine wp_cond_true (F.ev rfl) ?_
      refine wp_seq ?_
      -- region 3
      refine wp_region_lit ?_
      refine sq_pure F (wt0 rfl) (pu_move rfl (F.ev rfl)) rfl rfl ?_; clear F; intro φ F
      refine sq_pure F (wt0 rfl) (pu_assign rfl (F.ev rfl)) rfl rfl ?_; clear F; intro φ F
      refine nx ?_
      refine wp_ret ?_
      refine nxr ?_
      refine rt_tmp F rfl rfl ?_
      exact ⟨rfl, M.bel⟩
  · rw [hs1] at F
    have hs1i := of_decide_eq_true hs1
    refine sq_skip F (wtn F rfl rfl rfl rfl rfl) rfl rfl ?_; clear F; intro φ F
    refine sq_skip F (wtn F rfl rfl rfl rfl rfl) rfl rfl ?_; clear F; intro φ F
    refine sq_skip F (wtn F rfl rfl rfl rfl rfl) rfl rfl ?_; clear F; intro φ F
    refine sq_pure F (wt0 rfl) (pu_pickt rfl (F.ev rfl) (evk)) rfl rfl ?_; clear F; intro φ F
    refine nx ?_
    refine wp_cond_true (F.ev rfl) ?_
    refine wp_seq ?_
    -- region 3
    refine wp_region_lit ?_
    refine sq_pure F (wt0 rfl) (pu_move rfl (F.ev rfl)) rfl rfl ?_; clear F; intro φ F
    refine sq_pure F (wt0 rfl) (pu_assign rfl (F.ev rfl)) rfl rfl ?_; clear F; intro φ F
    refine nx ?_
    refine wp_ret ?_
    refine nxr ?_
    refine rt_tmp F rfl rfl ?_
    exact ⟨rfl, M.bel⟩

end Go.Proofs.Ytabpnebiannglaa
