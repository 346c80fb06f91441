/- Laws of layer 3. Made by walks/antilaws.py. -/
import Derived.Test.YtabpnebiannglaaAl
namespace Go.Proofs.Ytabpnebiannglaa
open Go.RowKit Go.Sort

set_option maxHeartbeats 4000000 in
theorem antiMore_walk (L : List St) (t : St) (a : Value) (w : World) (ha : RdS w a L) :
    Calls Try.prog 9 #[a, .agg #[.int .i64 t.e, .int .i64 t.r]] w fun e w' => e = .returned (.bool true) ∧ Below w.heap.size w w' := by
  have z1 := minL_len L
  have z5 := minL_len (minL L ++ [t])
  rw [List.length_append, List.length_singleton] at z5
  refine enterF Try.func9 rfl 77 Try.ntmps9 [a, .agg #[.int .i64 t.e, .int .i64 t.r]] rfl [(0, a), (1, .agg #[.int .i64 t.e, .int .i64 t.r])] rfl ?_
  intro φ F
  have M := Mm.start [] w
  replace M := M.addArg (ha)
  refine wp_seq ?_
  -- region 0
  refine wp_region_lit ?_
  refine sq_box F M (wt0 rfl) rfl (F.ev rfl) (cs := #[.int .i64 t.e, .int .i64 t.r]) rfl rfl rfl ?_; clear F M; intro φ ω g1 F M
  refine sq_pure F (wt0 rfl) (pu_assign rfl (evk)) rfl rfl ?_; clear F; intro φ F
  refine nx ?_
  refine wp_seq ?_
  -- region 1
  refine wp_region_lit ?_
  refine sq_call F M (wt0 rfl) rfl en11 evn (awake_any _) rfl rfl ?_; clear F M; intro φ ω F M
  refine sq_pure F (wt0 rfl) (pu_assign rfl (F.ev rfl)) rfl rfl ?_; clear F; intro φ F
  refine nx ?_
  refine wp_seq ?_
  refine wp_seq ?_
  -- region 2
  refine wp_region_lit ?_
  refine sq_pure F (wt0 rfl) (pu_move rfl (F.ev rfl)) rfl rfl ?_; clear F; intro φ F
  refine sq_pure F (wt0 rfl) (pu_len rfl (F.ev rfl) sl22 (M.av (i := 1) rfl)) rfl rfl ?_; clear F; intro φ F
  refine sq_pure F (wt0 rfl) (pu_gtr rfl (F.ev rfl) (evk)) rfl rfl ?_; clear F; intro φ F
  refine nx ?_
  cases hs1 : (decide (300 < ((L.length : Nat) : Int)))
  · rw [hs1] at F
    have hs1i := of_decide_eq_false hs1
    refine wp_cond_false (F.ev rfl) ?_
    refine wp_skip ?_
    refine nxq ?_
    refine wp_seq ?_
    -- region 4
    refine wp_region_lit ?_
    refine sq_pure F (wt0 rfl) (pu_move rfl (F.ev rfl)) rfl rfl ?_; clear F; intro φ F
    refine sq_callN F M (wt0 rfl) rfl en13 (evc (F.ev rfl) evn) (min_any L _ _ (M.av (i := 1) rfl) (by first | omega | (simp; done) | (simp; omega))) rfl rfl ?_; clear F M; intro φ ω v1 F M
    refine sq_pure F (wt0 rfl) (pu_assign rfl (F.ev rfl)) rfl rfl ?_; clear F; intro φ F
    refine nx ?_
    refine wp_seq ?_
    -- region 5
    refine rg_J F 7 (fun Dd dv w' => (Dd 1 = true → dv 1 = v1) ∧ (Dd 3 = true → dv 3 = .agg #[.int .i64 t.e, .int .i64 t.r]) ∧ Mm [] w w' [(if Dd 5 = true then .row 28 2 (dv 5) (((minL L) ++ [t]).length) (cS ((minL L) ++ [t])) else (if Dd 2 = true then .row 28 2 (dv 2) ((minL L).length) (cS (minL L)) else (if Dd 0 = true then .row 28 2 (dv 0) 0 (cS []) else .arg 1 (.slice none 0 0) 0 []))), (if Dd 4 = true then .row 28 2 (dv 4) 1 (cS [t]) else .arg 1 (.slice none 0 0) 0 []), (if Dd 6 = true then .row 28 2 (dv 6) ((minL ((minL L) ++ [t])).length) (cS (minL ((minL L) ++ [t]))) else .arg 1 (.slice none 0 0) 0 []), .row 28 2 v1 ((minL L).length) (cS (minL L)), .blk g1 28 #[.int .i64 t.e, .int .i64 t.r], .arg 2 a L.length (cS L)]) (fun dv => ⟨(fun h => by cases h), (fun h => by cases h), by simpa using (((M.drew).dead).dead).dead⟩) mixedOK (by kernel_rfl) rfl ⟨?_, ?_, ?_, ?_, ?_, ?_, ?_, trivial⟩ ?_
    · intro Dd φ1 dv ω1 ⟨h1, h3, M⟩ hDi hdep hcl F1 hdone hold
      have f2 : Dd 2 = false := notYet hcl (i := 0) (by kernel_rfl) hDi
      have f5 : Dd 5 = false := notYet hcl (i := 2) (by kernel_rfl) f2
      have F := F1
      try simp only [hDi, f2, f5, Bool.false_eq_true, if_false, if_true, ite_true, ite_false] at M
      have M2 : Mm [] w _ (([_, _, _, _, _, _]).set 0 (.row 28 2 (.slice (some ⟨ω1.heap.size, 0, none⟩) 0 0) 0 (cS []))) := M.fresh (i := 0) (e := 28) (m := 2) (k := 0) (cs := #[]) rfl (by omega) rfl
      exact ⟨wt0 rfl, ow_run (bs22_0 rfl _) ⟨_, rfl, keepP rfl h1, keepP rfl h3, by simpa [setB, setV, hDi, f2, f5, Bool.false_eq_true, if_false, if_true, ite_true, ite_false] using M2⟩⟩
    · intro Dd φ1 dv ω1 ⟨h1, h3, M⟩ hDi hdep hcl F1 hdone hold
      have F := (F1.cons (F.was hold (s := 6) rfl rfl))
      try simp only [hDi, Bool.false_eq_true, if_false, if_true, ite_true, ite_false] at M
      exact ⟨wt0 rfl, ow_run ((pu_move rfl (F.ev rfl)) ω1) ⟨_, rfl, newP, keepP rfl h3, by simpa [setB, setV, hDi, Bool.false_eq_true, if_false, if_true, ite_true, ite_false] using M⟩⟩
    · intro Dd φ1 dv ω1 ⟨h1, h3, M⟩ hDi hdep hcl F1 hdone hold
      have d0 : Dd 0 = true := hdep 0 (by kernel_rfl)
      have d1 : Dd 1 = true := hdep 1 (by kernel_rfl)
      have f5 : Dd 5 = false := notYet hcl (i := 2) (by kernel_rfl) hDi
      have F := ((F1.cons (k := 20) (hdone 0 _ _ d0 rfl rfl)).cons (k := 21) (hdone 1 _ _ d1 rfl rfl |>.trans (h1 d1)))
      try simp only [d0, d1, hDi, f5, Bool.false_eq_true, if_false, if_true, ite_true, ite_false] at M
      refine ⟨wt0 rfl, ow_app M rfl sl22.1 el28 (F.ev rfl) (i := 0) rfl (F.ev rfl) (M.rv (i := 3) rfl) (cS_ones _) (by first | omega | (simp only [List.length_append, List.length_take, List.length_drop, List.length_cons, List.length_nil]; omega)) (by omega) (fun x w2 M2 => ?_)⟩
      simp only [show cS [] = [] from rfl, List.nil_append, show 0 + ((minL L).length) = (minL L).length from by first | rfl | (simp; done) | (simp; omega)] at M2
      exact ⟨_, rfl, keepP rfl h1, keepP rfl h3, by simpa [setB, setV, d0, d1, hDi, f5, Bool.false_eq_true, if_false, if_true, ite_true, ite_false] using M2⟩
    · intro Dd φ1 dv ω1 ⟨h1, h3, M⟩ hDi hdep hcl F1 hdone hold
      have F := (F1.cons (F.was hold (s := 3) rfl rfl))
      try simp only [hDi, Bool.false_eq_true, if_false, if_true, ite_true, ite_false] at M
      exact ⟨wt0 rfl, ow_run ((ld_agg rfl (F.ev rfl) agg28 (M.rd (i := 4) rfl) rfl) ω1 rfl) ⟨_, rfl, keepP rfl h1, newP, by simpa [setB, setV, hDi, Bool.false_eq_true, if_false, if_true, ite_true, ite_false] using M⟩⟩
    · intro Dd φ1 dv ω1 ⟨h1, h3, M⟩ hDi hdep hcl F1 hdone hold
      have d3 : Dd 3 = true := hdep 3 (by kernel_rfl)
      have F := (F1.cons (k := 23) (hdone 3 _ _ d3 rfl rfl |>.trans (h3 d3)))
      try simp only [d3, hDi, Bool.false_eq_true, if_false, if_true, ite_true, ite_false] at M
      have M2 : Mm [] w _ (([_, _, _, _, _, _]).set 1 (.row 28 2 (.slice (some ⟨ω1.heap.size, 0, none⟩) 1 1) 1 (cS [t]))) := M.fresh (i := 1) (e := 28) (m := 2) (k := 1) (cs := #[.int .i64 t.e, .int .i64 t.r]) rfl (by omega) rfl
      exact ⟨wt0 rfl, ow_run (bs22_1 rfl (F.ev rfl) _) ⟨_, rfl, keepP rfl h1, keepP rfl h3, by simpa [setB, setV, d3, hDi, Bool.false_eq_true, if_false, if_true, ite_true, ite_false] using M2⟩⟩
    · intro Dd φ1 dv ω1 ⟨h1, h3, M⟩ hDi hdep hcl F1 hdone hold
      have d2 : Dd 2 = true := hdep 2 (by kernel_rfl)
      have d4 : Dd 4 = true := hdep 4 (by kernel_rfl)
      have d0 : Dd 0 = true := hcl _ 0 d2 (by kernel_rfl)
      have d1 : Dd 1 = true := hcl _ 1 d2 (by kernel_rfl)
      have d3 : Dd 3 = true := hcl _ 3 d4 (by kernel_rfl)
      have F := ((F1.cons (k := 22) (hdone 2 _ _ d2 rfl rfl)).cons (k := 24) (hdone 4 _ _ d4 rfl rfl))
      try simp only [d0, d1, d2, d3, d4, hDi, Bool.false_eq_true, if_false, if_true, ite_true, ite_false] at M
      refine ⟨wt0 rfl, ow_app M rfl sl22.1 el28 (F.ev rfl) (i := 0) rfl (F.ev rfl) (M.rv (i := 1) rfl) (cS_ones _) (by first | omega | (simp only [List.length_append, List.length_take, List.length_drop, List.length_cons, List.length_nil]; omega)) (by omega) (fun x w2 M2 => ?_)⟩
      rw [← cS_app, show ((minL L).length) + 1 = ((minL L) ++ [t]).length from by first | rfl | (simp; done) | (simp; omega)] at M2
      exact ⟨_, rfl, keepP rfl h1, keepP rfl h3, by simpa [setB, setV, d0, d1, d2, d3, d4, hDi, Bool.false_eq_true, if_false, if_true, ite_true, ite_false] using M2⟩
    · intro Dd φ1 dv ω1 ⟨h1, h3, M⟩ hDi hdep hcl F1 hdone hold
      have d5 : Dd 5 = true := hdep 5 (by kernel_rfl)
      have d2 : Dd 2 = true := hcl _ 2 d5 (by kernel_rfl)
      have d4 : Dd 4 = true := hcl _ 4 d5 (by kernel_rfl)
      have d0 : Dd 0 = true := hcl _ 0 d2 (by kernel_rfl)
      have d1 : Dd 1 = true := hcl _ 1 d2 (by kernel_rfl)
      have d3 : Dd 3 = true := hcl _ 3 d4 (by kernel_rfl)
      have F := (F1.cons (k := 25) (hdone 5 _ _ d5 rfl rfl))
      try simp only [d0, d1, d2, d3, d4, d5, hDi, Bool.false_eq_true, if_false, if_true, ite_true, ite_false] at M
      exact ⟨wt0 rfl, ow_callZ rfl en13 (evc (F.ev rfl) evn) (Z := fun x w2 => Below ω1.heap.size ω1 w2 ∧ w2.ownsRow ω1.heap.size 28 2 x ((minL ((minL L) ++ [t])).length) (cS (minL ((minL L) ++ [t])))) (min_any ((minL L) ++ [t]) _ _ (M.rv (i := 0) rfl) (by first | omega | (simp; done) | (simp; omega))) (fun x w2 ⟨hb2, ho2⟩ => by have M2 := M.freshRow (i := 2) rfl hb2 ho2; exact ⟨_, rfl, keepP rfl h1, keepP rfl h3, by simpa [setB, setV, d0, d1, d2, d3, d4, d5, hDi, Bool.false_eq_true, if_false, if_true, ite_true, ite_false] using M2⟩)⟩
    clear M; rintro dv φ ω ⟨h1, h3, M⟩ F
    simp only [hvL, List.take_succ_cons, List.take_zero] at F
    rw [h3 (by simp)] at F
    rw [h1 (by simp)] at F
    replace M : Mm [] w ω [.row 28 2 (dv 5) (((minL L) ++ [t]).length) (cS ((minL L) ++ [t])), .row 28 2 (dv 4) 1 (cS [t]), .row 28 2 (dv 6) ((minL ((minL L) ++ [t])).length) (cS (minL ((minL L) ++ [t]))), .row 28 2 v1 ((minL L).length) (cS (minL L)), .blk g1 28 #[.int .i64 t.e, .int .i64 t.r], .arg 2 a L.length (cS L)] := by simpa using M
    clear h1 h3
    generalize dv 0 = v2 at F
    generalize dv 2 = v3 at F
    generalize dv 4 = v4 at F M
    generalize dv 5 = v5 at F M
    generalize dv 6 = v6 at F M
    refine sq_pure F (wt0 rfl) (pu_assign rfl (F.ev rfl)) rfl rfl ?_; clear F; intro φ F
    refine nx ?_
    refine wp_seq ?_
    refine wp_seq ?_
    -- region 6
    refine wp_region_lit ?_
    refine sq_pure F (wt0 rfl) (pu_move rfl (F.ev rfl)) rfl rfl ?_; clear F; intro φ F
    refine sq_rd F (wt0 rfl) (ld_agg rfl (F.ev rfl) agg28 (M.rd (i := 4) rfl) rfl) rfl rfl ?_; clear F; intro φ F
    refine sq_call F M (wt0 rfl) rfl en17 (evc (F.ev rfl) (evc (F.ev rfl) evn)) (covers_any (minL L) t _ _ (M.rv (i := 3) rfl) (by first | omega | (simp; done) | (simp; omega))) rfl rfl ?_; clear F M; intro φ ω F M
    refine nx ?_
    cases hs2 : (covB (minL L) t)
    · rw [hs2] at F
      refine wp_cond_false (F.ev rfl) ?_
      refine wp_skip ?_
      refine nxq ?_
      refine wp_seq ?_
      -- region 9
      refine wp_region_lit ?_
      refine sq_pure F (wt0 rfl) (pu_assign rfl (evk)) rfl rfl ?_; clear F; intro φ F
      refine nx ?_
      refine wp_seq ?_
      refine wp_seq ?_
      -- region 10
      refine wp_region_lit ?_
      refine sq_pure F (wt0 rfl) (pu_assign rfl (evk)) rfl rfl ?_; clear F; intro φ F
      refine nx ?_
      refine wp_cut (fun φ' w' => ∃ kp : Int, Fr φ' 77 [(0, a), (3, .pointer (some ⟨g1, 0, none⟩)), (5, .bool true), (6, v1), (7, v6), (9, .int .i64 kp)] ∧ Mm [] w w' [.row 28 2 v5 (((minL L) ++ [t]).length) (cS ((minL L) ++ [t])), .row 28 2 v4 1 (cS [t]), .row 28 2 v6 ((minL ((minL L) ++ [t])).length) (cS (minL ((minL L) ++ [t]))), .row 28 2 v1 ((minL L).length) (cS (minL L)), .blk g1 28 #[.int .i64 t.e, .int .i64 t.r], .arg 2 a L.length (cS L)] ∧ (kp = 1 + (cntS (minL L) t (minL L).length : Int)) ∧ (kp ≤ 400)) ?_ ?_
      · skip
        refine wp_block ?_
        refine lp (σ := Int) (fun i φ' w' => ∃ kp : Int, Fr φ' 77 [(0, a), (3, .pointer (some ⟨g1, 0, none⟩)), (5, .bool true), (6, v1), (7, v6), (9, .int .i64 kp), (10, .int .i64 i)] ∧ Mm [] w w' [.row 28 2 v5 (((minL L) ++ [t]).length) (cS ((minL L) ++ [t])), .row 28 2 v4 1 (cS [t]), .row 28 2 v6 ((minL ((minL L) ++ [t])).length) (cS (minL ((minL L) ++ [t]))), .row 28 2 v1 ((minL L).length) (cS (minL L)), .blk g1 28 #[.int .i64 t.e, .int .i64 t.r], .arg 2 a L.length (cS L)] ∧ (0 ≤ i) ∧ (i ≤ (((minL L).length : Nat) : Int)) ∧ (kp = 1 + (cntS (minL L) t i.toNat : Int)) ∧ (kp ≤ 400)) (fun i => ((((minL L).length : Nat) : Int) - i).toNat) (0) ⟨1, (((((((F.nil.cons (F.get (k := 10) rfl)).cons (F.get (k := 9) rfl)).cons (F.get (k := 7) rfl)).cons (F.get (k := 6) rfl)).cons (F.get (k := 5) rfl)).cons (F.get (k := 3) rfl)).cons (F.get (k := 0) rfl)), M, Int.le_refl _, by omega, by simp [cntS], by omega⟩ ?_
        clear F M
        rintro i φ ω ⟨kp, F, M, hp3_0, hp3_1, hp3_2, hp3_3⟩
        refine wp_seq ?_
        refine wp_seq ?_
        -- region 11
        refine wp_region_lit ?_
        refine sq_pure F (wt0 rfl) (pu_move rfl (F.ev rfl)) rfl rfl ?_; clear F; intro φ F
        refine sq_pure F (wt0 rfl) (pu_move rfl (F.ev rfl)) rfl rfl ?_; clear F; intro φ F
        refine sq_pure F (wt0 rfl) (pu_len rfl (F.ev rfl) sl22 (M.rv (i := 3) rfl)) rfl rfl ?_; clear F; intro φ F
        refine sq_pure F (wt0 rfl) (pu_lss rfl (F.ev rfl) (F.ev rfl)) rfl rfl ?_; clear F; intro φ F
        refine nx ?_
        cases hs4 : (decide (i < (((minL L).length : Nat) : Int)))
        · rw [hs4] at F
          have hs4i := of_decide_eq_false hs4
          refine wp_cond_false (F.ev rfl) ?_
          refine wp_exit ?_
          refine nxe ?_
          refine nxe ?_
          refine nxm ?_
          exact ⟨kp, ((((((F.nil.cons (F.get (k := 9) rfl)).cons (F.get (k := 7) rfl)).cons (F.get (k := 6) rfl)).cons (F.get (k := 5) rfl)).cons (F.get (k := 3) rfl)).cons (F.get (k := 0) rfl)), M, by have := hp3_2; rwa [show i.toNat = (minL L).length by omega] at this, hp3_3⟩
        · rw [hs4] at F
          have hs4i := of_decide_eq_true hs4
          refine wp_cond_true (F.ev rfl) ?_
          refine wp_skip ?_
          refine nxq ?_
          refine wp_seq ?_
          refine wp_block ?_
          refine wp_seq ?_
          -- region 13
          refine rg_quiet M mixedOK (by kernel_rfl) ?_
          refine qt_rd F (wt0 rfl) (ld_agg rfl (F.ev rfl) agg28 (M.rdB (i := 4) rfl) rfl) rfl rfl ?_; clear F; intro φ F
          refine qt_pure F (wt0 rfl) (pu_move rfl (F.ev rfl)) rfl rfl ?_; clear F; intro φ F
          refine qt_pure F (wt0 rfl) (pu_move rfl (F.ev rfl)) rfl rfl ?_; clear F; intro φ F
          refine qt_pure F (wt0 rfl) (pu_ix rfl (F.ev rfl) (F.ev rfl) sl22 (M.rv (i := 3) rfl) (by omega) (by omega)) rfl rfl ?_; clear F; intro φ F
          refine qt_rd F (wt0 rfl) (ld_el rfl (F.ev rfl) agg28 (fun _ h => RdV.below (M.rv (i := 3) rfl) h) (by omega) (cS_at (by first | omega | (simp; done) | (simp; omega))) rfl) rfl rfl ?_; clear F; intro φ F
          refine qt_call F (wt0 rfl) rfl en22 (evc (F.ev rfl) (evc (F.ev rfl) evn)) (fun w' h => calls_below h (rle_any t (atS (minL L) i.toNat) w')) rfl rfl ?_; clear F; intro φ F
          cases hs5 : (t.leB (atS (minL L) i.toNat))
          · rw [hs5] at F
            refine qt_pure F (wt0 rfl) (pu_not rfl (F.ev rfl)) rfl rfl ?_; clear F; intro φ F
            rw [show (!false) = true from rfl] at F
            refine wpQuiet_nil ?_
            clear M; intro ω M
            refine nxq ?_
            refine wp_cond_true (F.ev rfl) ?_
            -- region 14
            refine wp_region_lit ?_
            refine sq_pure F (wt0 rfl) (pu_move rfl (F.ev rfl)) rfl rfl ?_; clear F; intro φ F
            refine sq_pure F (wt0 rfl) (pu_add rfl (F.ev rfl) (evk) (by omega) (by omega)) rfl rfl ?_; clear F; intro φ F
            refine sq_pure F (wt0 rfl) (pu_assign rfl (F.ev rfl)) rfl rfl ?_; clear F; intro φ F
            refine wpList_nil ?_
            refine nxb ?_
            refine nxq ?_
            -- region 12
            refine wp_region_lit ?_
            refine sq_pure F (wt0 rfl) (pu_move rfl (F.ev rfl)) rfl rfl ?_; clear F; intro φ F
            refine sq_pure F (wt0 rfl) (pu_add rfl (F.ev rfl) (evk) (by omega) (by omega)) rfl rfl ?_; clear F; intro φ F
            refine sq_pure F (wt0 rfl) (pu_assign rfl (F.ev rfl)) rfl rfl ?_; clear F; intro φ F
            refine wpList_nil ?_
            exact ⟨i + 1, by omega, kp + 1, (((((((F.nil.cons (F.get (k := 10) rfl)).cons (F.get (k := 9) rfl)).cons (F.get (k := 7) rfl)).cons (F.get (k := 6) rfl)).cons (F.get (k := 5) rfl)).cons (F.get (k := 3) rfl)).cons (F.get (k := 0) rfl)), M, by omega, by omega, cnt_step hp3_0 (by omega) hp3_2 hs5 rfl, by have := cnt_step hp3_0 (by omega) hp3_2 hs5 (k' := kp + 1) rfl; have := cnt_le (minL L) t (i + 1).toNat; omega⟩
          · rw [hs5] at F
            refine qt_pure F (wt0 rfl) (pu_not rfl (F.ev rfl)) rfl rfl ?_; clear F; intro φ F
            rw [show (!true) = false from rfl] at F
            refine wpQuiet_nil ?_
            clear M; intro ω M
            refine nxq ?_
            refine wp_cond_false (F.ev rfl) ?_
            refine wp_skip ?_
            refine nxb ?_
            refine nxq ?_
            -- region 12
            refine wp_region_lit ?_
            refine sq_pure F (wt0 rfl) (pu_move rfl (F.ev rfl)) rfl rfl ?_; clear F; intro φ F
            refine sq_pure F (wt0 rfl) (pu_add rfl (F.ev rfl) (evk) (by omega) (by omega)) rfl rfl ?_; clear F; intro φ F
            refine sq_pure F (wt0 rfl) (pu_assign rfl (F.ev rfl)) rfl rfl ?_; clear F; intro φ F
            refine wpList_nil ?_
            exact ⟨i + 1, by omega, kp, (((((((F.nil.cons (F.get (k := 10) rfl)).cons (F.get (k := 9) rfl)).cons (F.get (k := 7) rfl)).cons (F.get (k := 6) rfl)).cons (F.get (k := 5) rfl)).cons (F.get (k := 3) rfl)).cons (F.get (k := 0) rfl)), M, by omega, by omega, cnt_step hp3_0 (by omega) hp3_2 hs5 rfl, by have := cnt_step hp3_0 (by omega) hp3_2 hs5 (k' := kp) rfl; have := cnt_le (minL L) t (i + 1).toNat; omega⟩
      · skip
        clear F M
        rintro φ ω ⟨kp, F, M, hp6_0, hp6_1⟩
        refine nxq ?_
        refine wp_seq ?_
        -- region 15
        refine wp_region_lit ?_
        refine sq_pure F (wt0 rfl) (pu_assign rfl (evk)) rfl rfl ?_; clear F; intro φ F
        refine nx ?_
        refine wp_seq ?_
        refine wp_seq ?_
        -- region 16
        refine wp_region_lit ?_
        refine sq_pure F (wt0 rfl) (pu_assign rfl (evk)) rfl rfl ?_; clear F; intro φ F
        refine nx ?_
        refine wp_cut (fun φ' w' => ∃ bq : Bool, Fr φ' 77 [(0, a), (3, .pointer (some ⟨g1, 0, none⟩)), (5, .bool true), (6, v1), (7, v6), (9, .int .i64 kp), (11, .bool bq)] ∧ Mm [] w w' [.row 28 2 v5 (((minL L) ++ [t]).length) (cS ((minL L) ++ [t])), .row 28 2 v4 1 (cS [t]), .row 28 2 v6 ((minL ((minL L) ++ [t])).length) (cS (minL ((minL L) ++ [t]))), .row 28 2 v1 ((minL L).length) (cS (minL L)), .blk g1 28 #[.int .i64 t.e, .int .i64 t.r], .arg 2 a L.length (cS L)] ∧ (bq = true ↔ ∃ j, j < (minL ((minL L) ++ [t])).length ∧ atS (minL ((minL L) ++ [t])) j = t)) ?_ ?_
        · skip
          refine wp_block ?_
          refine lp (σ := Int) (fun q φ' w' => ∃ bq : Bool, Fr φ' 77 [(0, a), (3, .pointer (some ⟨g1, 0, none⟩)), (5, .bool true), (6, v1), (7, v6), (9, .int .i64 kp), (11, .bool bq), (12, .int .i64 q)] ∧ Mm [] w w' [.row 28 2 v5 (((minL L) ++ [t]).length) (cS ((minL L) ++ [t])), .row 28 2 v4 1 (cS [t]), .row 28 2 v6 ((minL ((minL L) ++ [t])).length) (cS (minL ((minL L) ++ [t]))), .row 28 2 v1 ((minL L).length) (cS (minL L)), .blk g1 28 #[.int .i64 t.e, .int .i64 t.r], .arg 2 a L.length (cS L)] ∧ (0 ≤ q) ∧ (q ≤ (((minL ((minL L) ++ [t])).length : Nat) : Int)) ∧ (bq = true ↔ ∃ j, j < q.toNat ∧ atS (minL ((minL L) ++ [t])) j = t)) (fun q => ((((minL ((minL L) ++ [t])).length : Nat) : Int) - q).toNat) (0) ⟨false, ((((((((F.nil.cons (F.get (k := 12) rfl)).cons (F.get (k := 11) rfl)).cons (F.get (k := 9) rfl)).cons (F.get (k := 7) rfl)).cons (F.get (k := 6) rfl)).cons (F.get (k := 5) rfl)).cons (F.get (k := 3) rfl)).cons (F.get (k := 0) rfl)), M, Int.le_refl _, by omega, in_none⟩ ?_
          clear F M
          rintro q φ ω ⟨bq, F, M, hp7_0, hp7_1, hp7_2⟩
          refine wp_seq ?_
          refine wp_seq ?_
          -- region 17
          refine wp_region_lit ?_
          refine sq_pure F (wt0 rfl) (pu_move rfl (F.ev rfl)) rfl rfl ?_; clear F; intro φ F
          refine sq_pure F (wt0 rfl) (pu_move rfl (F.ev rfl)) rfl rfl ?_; clear F; intro φ F
          refine sq_pure F (wt0 rfl) (pu_len rfl (F.ev rfl) sl22 (M.rv (i := 2) rfl)) rfl rfl ?_; clear F; intro φ F
          refine sq_pure F (wt0 rfl) (pu_lss rfl (F.ev rfl) (F.ev rfl)) rfl rfl ?_; clear F; intro φ F
          refine nx ?_
          cases hs8 : (decide (q < (((minL ((minL L) ++ [t])).length : Nat) : Int)))
          · rw [hs8] at F
            have hs8i := of_decide_eq_false hs8
            refine wp_cond_false (F.ev rfl) ?_
            refine wp_exit ?_
            refine nxe ?_
            refine nxe ?_
            refine nxm ?_
            exact ⟨bq, (((((((F.nil.cons (F.get (k := 11) rfl)).cons (F.get (k := 9) rfl)).cons (F.get (k := 7) rfl)).cons (F.get (k := 6) rfl)).cons (F.get (k := 5) rfl)).cons (F.get (k := 3) rfl)).cons (F.get (k := 0) rfl)), M, in_end hp7_2 (by omega)⟩
          · rw [hs8] at F
            have hs8i := of_decide_eq_true hs8
            refine wp_cond_true (F.ev rfl) ?_
            refine wp_skip ?_
            refine nxq ?_
            refine wp_seq ?_
            refine wp_block ?_
            -- region 19
            refine rg_quiet M mixedOK (by kernel_rfl) ?_
            refine qt_pure F (wt0 rfl) (pu_move rfl (F.ev rfl)) rfl rfl ?_; clear F; intro φ F
            refine qt_pure F (wt0 rfl) (pu_move rfl (F.ev rfl)) rfl rfl ?_; clear F; intro φ F
            cases hs9 : bq
            · rw [hs9] at F
              refine qt_pure F (wt1 F rfl rfl rfl rfl rfl) (pu_move rfl (F.ev rfl)) rfl rfl ?_; clear F; intro φ F
              refine qt_pure F (wt1 F rfl rfl rfl rfl rfl) (pu_move rfl (F.ev rfl)) rfl rfl ?_; clear F; intro φ F
              refine qt_pure F (wt1 F rfl rfl rfl rfl rfl) (pu_ix rfl (F.ev rfl) (F.ev rfl) sl22 (M.rv (i := 2) rfl) (by omega) (by omega)) rfl rfl ?_; clear F; intro φ F
              refine qt_rd F (wt1 F rfl rfl rfl rfl rfl) (ld_el rfl (F.ev rfl) agg28 (fun _ h => RdV.below (M.rv (i := 2) rfl) h) (by omega) (cS_at (by first | omega | (simp; done) | (simp; omega))) rfl) rfl rfl ?_; clear F; intro φ F
              refine qt_rd F (wt1 F rfl rfl rfl rfl rfl) (ld_agg rfl (F.ev rfl) agg28 (M.rdB (i := 4) rfl) rfl) rfl rfl ?_; clear F; intro φ F
              refine qt_pure F (wt1 F rfl rfl rfl rfl rfl) (pu_eqlA rfl (F.ev rfl) (F.ev rfl) eqg28 (fun w => eqS28 (atS (minL ((minL L) ++ [t])) q.toNat) t w)) rfl rfl ?_; clear F; intro φ F
              refine qt_pure F (wt0 rfl) (pu_pickf rfl (F.ev rfl) (F.ev rfl)) rfl rfl ?_; clear F; intro φ F
              refine qt_pure F (wt0 rfl) (pu_assign rfl (F.ev rfl)) rfl rfl ?_; clear F; intro φ F
              refine wpQuiet_nil ?_
              clear M; intro ω M
              refine nxb ?_
              refine nxq ?_
              -- region 18
              refine wp_region_lit ?_
              refine sq_pure F (wt0 rfl) (pu_move rfl (F.ev rfl)) rfl rfl ?_; clear F; intro φ F
              refine sq_pure F (wt0 rfl) (pu_add rfl (F.ev rfl) (evk) (by omega) (by omega)) rfl rfl ?_; clear F; intro φ F
              refine sq_pure F (wt0 rfl) (pu_assign rfl (F.ev rfl)) rfl rfl ?_; clear F; intro φ F
              refine wpList_nil ?_
              exact ⟨q + 1, by omega, (decide ((atS (minL ((minL L) ++ [t])) q.toNat) = t)), ((((((((F.nil.cons (F.get (k := 12) rfl)).cons (F.get (k := 11) rfl)).cons (F.get (k := 9) rfl)).cons (F.get (k := 7) rfl)).cons (F.get (k := 6) rfl)).cons (F.get (k := 5) rfl)).cons (F.get (k := 3) rfl)).cons (F.get (k := 0) rfl)), M, by omega, by omega, in_step hp7_0 (hs9 ▸ hp7_2) (by simp)⟩
            · rw [hs9] at F
              refine qt_skip F (wtn F rfl rfl rfl rfl rfl) rfl rfl ?_; clear F; intro φ F
              refine qt_skip F (wtn F rfl rfl rfl rfl rfl) rfl rfl ?_; clear F; intro φ F
              refine qt_skip F (wtn F rfl rfl rfl rfl rfl) rfl rfl ?_; clear F; intro φ F
              refine qt_skip F (wtn F rfl rfl rfl rfl rfl) rfl rfl ?_; clear F; intro φ F
              refine qt_skip F (wtn F rfl rfl rfl rfl rfl) rfl rfl ?_; clear F; intro φ F
              refine qt_skip F (wtn F rfl rfl rfl rfl rfl) rfl rfl ?_; clear F; intro φ F
              refine qt_pure F (wt0 rfl) (pu_pickt rfl (F.ev rfl) (evk)) rfl rfl ?_; clear F; intro φ F
              refine qt_pure F (wt0 rfl) (pu_assign rfl (F.ev rfl)) rfl rfl ?_; clear F; intro φ F
              refine wpQuiet_nil ?_
              clear M; intro ω M
              refine nxb ?_
              refine nxq ?_
              -- region 18
              refine wp_region_lit ?_
              refine sq_pure F (wt0 rfl) (pu_move rfl (F.ev rfl)) rfl rfl ?_; clear F; intro φ F
              refine sq_pure F (wt0 rfl) (pu_add rfl (F.ev rfl) (evk) (by omega) (by omega)) rfl rfl ?_; clear F; intro φ F
              refine sq_pure F (wt0 rfl) (pu_assign rfl (F.ev rfl)) rfl rfl ?_; clear F; intro φ F
              refine wpList_nil ?_
              exact ⟨q + 1, by omega, true, ((((((((F.nil.cons (F.get (k := 12) rfl)).cons (F.get (k := 11) rfl)).cons (F.get (k := 9) rfl)).cons (F.get (k := 7) rfl)).cons (F.get (k := 6) rfl)).cons (F.get (k := 5) rfl)).cons (F.get (k := 3) rfl)).cons (F.get (k := 0) rfl)), M, by omega, by omega, in_step hp7_0 (hs9 ▸ hp7_2) (by simp)⟩
        · skip
          clear F M
          rintro φ ω ⟨bq, F, M, hp10_0⟩
          refine nxq ?_
          refine wp_seq ?_
          -- region 20
          refine wp_region_lit ?_
          refine sq_pure F (wt0 rfl) (pu_move rfl (F.ev rfl)) rfl rfl ?_; clear F; intro φ F
          refine sq_pure F (wt0 rfl) (pu_move rfl (F.ev rfl)) rfl rfl ?_; clear F; intro φ F
          refine sq_pure F (wt1 F rfl rfl rfl rfl rfl) (pu_move rfl (F.ev rfl)) rfl rfl ?_; clear F; intro φ F
          refine sq_pure F (wt0 rfl) (pu_pickt rfl (F.ev rfl) (F.ev rfl)) rfl rfl ?_; clear F; intro φ F
          refine sq_pure F (wt0 rfl) (pu_move rfl (F.ev rfl)) rfl rfl ?_; clear F; intro φ F
          cases hs11 : bq
          · rw [hs11] at F
            refine sq_skip F (wtn F rfl rfl rfl rfl rfl) rfl rfl ?_; clear F; intro φ F
            refine sq_skip F (wtn F rfl rfl rfl rfl rfl) rfl rfl ?_; clear F; intro φ F
            refine sq_skip F (wtn F rfl rfl rfl rfl rfl) rfl rfl ?_; clear F; intro φ F
            refine sq_skip F (wtn F rfl rfl rfl rfl rfl) rfl rfl ?_; clear F; intro φ F
            refine sq_pure F (wt0 rfl) (pu_pickf rfl (F.ev rfl) (evk)) rfl rfl ?_; clear F; intro φ F
            refine sq_pure F (wt0 rfl) (pu_assign rfl (F.ev rfl)) rfl rfl ?_; clear F; intro φ F
            refine nx ?_
            refine wp_ret ?_
            refine rt_tmp F rfl rfl ?_
            exfalso; exact more_in (L := L) hs2 hp10_0 hs11
          · rw [hs11] at F
            refine sq_pure F (wt1 F rfl rfl rfl rfl rfl) (pu_move rfl (F.ev rfl)) rfl rfl ?_; clear F; intro φ F
            refine sq_pure F (wt1 F rfl rfl rfl rfl rfl) (pu_len rfl (F.ev rfl) sl22 (M.rv (i := 2) rfl)) rfl rfl ?_; clear F; intro φ F
            refine sq_pure F (wt1 F rfl rfl rfl rfl rfl) (pu_move rfl (F.ev rfl)) rfl rfl ?_; clear F; intro φ F
            refine sq_pure F (wt1 F rfl rfl rfl rfl rfl) (pu_eqlI rfl (F.ev rfl) (F.ev rfl)) rfl rfl ?_; clear F; intro φ F
            refine sq_pure F (wt0 rfl) (pu_pickt rfl (F.ev rfl) (F.ev rfl)) rfl rfl ?_; clear F; intro φ F
            refine sq_pure F (wt0 rfl) (pu_assign rfl (F.ev rfl)) rfl rfl ?_; clear F; intro φ F
            refine nx ?_
            cases hs12 : (decide ((((minL ((minL L) ++ [t])).length : Nat) : Int) = kp))
            · rw [hs12] at F
              have hs12i := of_decide_eq_false hs12
              refine wp_ret ?_
              refine rt_tmp F rfl rfl ?_
              exfalso; have zl := more_len (L := L) (t := t) hs2; have zk := hp6_0; clear F M; omega
            · rw [hs12] at F
              have hs12i := of_decide_eq_true hs12
              refine wp_ret ?_
              refine rt_tmp F rfl rfl ?_
              exact ⟨rfl, M.bel⟩
    · rw [hs2] at F
      refine wp_cond_true (F.ev rfl) ?_
      refine wp_seq ?_
      -- region 7
      refine wp_region_lit ?_
      refine sq_pure F (wt0 rfl) (pu_move rfl (F.ev rfl)) rfl rfl ?_; clear F; intro φ F
      refine sq_pure F (wt0 rfl) (pu_move rfl (F.ev rfl)) rfl rfl ?_; clear F; intro φ F
      refine sq_call F M (wt0 rfl) rfl en12 (evc (F.ev rfl) (evc (F.ev rfl) evn)) (rsame_any (minL L) (minL ((minL L) ++ [t])) _ _ _ (M.rv (i := 3) rfl) (M.rv (i := 2) rfl) (Nat.le_trans (minL_len _) (by first | omega | (simp; omega))) (Nat.le_trans (minL_len _) (by first | omega | (simp; omega)))) rfl rfl ?_; clear F M; intro φ ω F M
      refine sq_pure F (wt0 rfl) (pu_assign rfl (F.ev rfl)) rfl rfl ?_; clear F; intro φ F
      refine nx ?_
      refine wp_seq ?_
      -- region 8
      refine wp_region_lit ?_
      refine sq_pure F (wt0 rfl) (pu_move rfl (F.ev rfl)) rfl rfl ?_; clear F; intro φ F
      refine sq_pure F (wt0 rfl) (pu_move rfl (F.ev rfl)) rfl rfl ?_; clear F; intro φ F
      refine sq_pure F (wt1 F rfl rfl rfl rfl rfl) (pu_move rfl (F.ev rfl)) rfl rfl ?_; clear F; intro φ F
      refine sq_pure F (wt0 rfl) (pu_pickt rfl (F.ev rfl) (F.ev rfl)) rfl rfl ?_; clear F; intro φ F
      refine sq_pure F (wt0 rfl) (pu_assign rfl (F.ev rfl)) rfl rfl ?_; clear F; intro φ F
      refine nx ?_
      cases hs13 : (decide ((minL L) = (minL ((minL L) ++ [t]))))
      · rw [hs13] at F
        have hs13i := of_decide_eq_false hs13
        refine wp_ret ?_
        refine nxr ?_
        refine rt_tmp F rfl rfl ?_
        exfalso; exact hs13i (more_cov hs2)
      · rw [hs13] at F
        have hs13i := of_decide_eq_true hs13
        refine wp_ret ?_
        refine nxr ?_
        refine rt_tmp F rfl rfl ?_
        exact ⟨rfl, M.bel⟩
  · rw [hs1] at F
    have hs1i := of_decide_eq_true hs1
    refine wp_cond_true (F.ev rfl) ?_
    refine wp_seq ?_
    -- region 3
    refine wp_region_lit ?_
    refine sq_pure F (wt0 rfl) (pu_move rfl (F.ev rfl)) rfl rfl ?_; clear F; intro φ F
    refine sq_pure F (wt0 rfl) (pu_assign rfl (F.ev rfl)) rfl rfl ?_; clear F; intro φ F
    refine nx ?_
    refine wp_ret ?_
    refine nxr ?_
    refine rt_tmp F rfl rfl ?_
    exact ⟨rfl, M.bel⟩

end Go.Proofs.Ytabpnebiannglaa
