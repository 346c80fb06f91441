/- Laws of layer 6. Made by walks/graphlaws.py. -/
import Derived.Test.YtbleefegobmboaaGh
import Derived.Test.YtbleefegobmboaaGo
namespace Go.Proofs.Ytbleefegobmboaa
open Go.RowKit
set_option maxRecDepth 100000
set_option linter.unusedSimpArgs false
set_option linter.unusedVariables false

set_option maxHeartbeats 4000000 in
theorem graphMore_walk (n : Int) (ev : Value) (E : List Ed) (ed : Ed) (w : World) (hr : RdG w ev E) :
    Calls Try.prog 7 #[.agg #[.int .i64 n, ev], .agg #[.int .i64 ed.f, .int .i64 ed.t, .int .i64 ed.p.e, .int .i64 ed.p.r]] w fun e w' => e = .returned (.bool true) ∧ Below w.heap.size w w' := by
  refine enterF Try.func7 rfl 176 Try.ntmps7 [.agg #[.int .i64 n, ev], .agg #[.int .i64 ed.f, .int .i64 ed.t, .int .i64 ed.p.e, .int .i64 ed.p.r]] rfl [(0, .agg #[.int .i64 n, ev]), (1, .agg #[.int .i64 ed.f, .int .i64 ed.t, .int .i64 ed.p.e, .int .i64 ed.p.r])] rfl ?_
  intro φ F
  have M := Mm.start [] w
  replace M := M.addArg (hr) (fun h_ => by first | (simp; done) | assumption | exact d3 h_ | (simp_all; done))
  refine wp_seq ?_
  -- region 0
  refine wp_region_lit ?_
  refine sq_box F M (wt0 rfl) rfl (F.ev rfl) (cs := #[.int .i64 n, ev]) rfl rfl rfl ?_; clear F M; intro φ ω g1 F M
  refine sq_box F M (wt0 rfl) rfl (F.ev rfl) (cs := #[.int .i64 ed.f, .int .i64 ed.t, .int .i64 ed.p.e, .int .i64 ed.p.r]) rfl rfl rfl ?_; clear F M; intro φ ω g2 F M
  refine sq_pure F (wt0 rfl) (pu_assign rfl (evk)) rfl rfl ?_; clear F; intro φ F
  refine nx ?_
  refine wp_seq ?_
  -- region 1
  refine wp_region_lit ?_
  refine sq_call F M (wt0 rfl) rfl en10 evn (awake_any _) rfl rfl ?_; clear F M; intro φ ω F M
  refine sq_pure F (wt0 rfl) (pu_assign rfl (F.ev rfl)) rfl rfl ?_; clear F; intro φ F
  refine nx ?_
  refine wp_seq ?_
  refine wp_seq ?_
  -- region 2
  refine wp_region_lit ?_
  refine sq_pure F (wt0 rfl) (pu_field rfl (F.ev rfl) fo24_1) rfl rfl ?_; clear F; intro φ F
  refine sq_rd F (wt0 rfl) (ld_cell rfl (F.ev rfl) one22 (M.rd (i := 1) rfl) rfl) rfl rfl ?_; clear F; intro φ F
  refine sq_pure F (wt0 rfl) (pu_len rfl (F.ev rfl) sl22 (M.av (i := 2) rfl)) rfl rfl ?_; clear F; intro φ F
  refine sq_pure F (wt0 rfl) (pu_gtr rfl (F.ev rfl) (evk)) rfl rfl ?_; clear F; intro φ F
  refine nx ?_
  cases hs1 : (decide (15 < ((E.length : Nat) : Int)))
  · rw [hs1] at F
    have hs1i := of_decide_eq_false hs1
    refine wp_cond_false (F.ev rfl) ?_
    refine wp_skip ?_
    refine nxq ?_
    refine wp_seq ?_
    -- region 4
    refine wp_region_lit ?_
    refine sq_rd F (wt0 rfl) (ld_agg rfl (F.ev rfl) agg24 (M.rd (i := 1) rfl) rfl) rfl rfl ?_; clear F; intro φ F
    refine sq_callO (Z := (fun u x' => ∃ v rs vss, u = .tuple #[v, .int .i64 (cloG n E).2] ∧ x' = .own (fp3 v rs vss (cloG n E).1) (Rd3 v rs vss (cloG n E).1))) F M (wt0 rfl) rfl en15 (evc (F.ev rfl) evn) (graph_closure_any n ev E _ (M.av (i := 2) rfl) (by first | omega | (simp; done) | (simp; omega) | (refine Nat.le_trans (minL_len _) ?_; omega) | (refine Nat.le_trans (eachL_len _ _) ?_; omega))) rfl rfl ?_; clear F M; rintro φ ω _ _ ⟨c1, rs1, vss1, rfl, rfl⟩ F M
    replace M : Mm [] w ω [.own (fp3 c1 rs1 vss1 ((cloG n E).1)) (Rd3 c1 rs1 vss1 ((cloG n E).1)), .blk g2 40 #[.int .i64 ed.f, .int .i64 ed.t, .int .i64 ed.p.e, .int .i64 ed.p.r], .blk g1 24 #[.int .i64 n, ev], .arg 4 ev E.length (cG E)] := M
    refine sq_pure F (wt0 rfl) (pu_move rfl (F.ev rfl)) rfl rfl ?_; clear F; intro φ F
    refine sq_pure F (wt0 rfl) (pu_extract rfl (F.ev rfl) rfl) rfl rfl ?_; clear F; intro φ F
    refine sq_pure F (wt0 rfl) (pu_extract rfl (F.ev rfl) rfl) rfl rfl ?_; clear F; intro φ F
    refine sq_pure F (wt0 rfl) (pu_assign rfl (F.ev rfl)) rfl rfl ?_; clear F; intro φ F
    refine sq_pure F (wt0 rfl) (pu_assign rfl (F.ev rfl)) rfl rfl ?_; clear F; intro φ F
    refine nx ?_
    refine wp_seq ?_
    -- region 5
    refine wp_region_lit ?_
    refine sq_rd F (wt0 rfl) (ld_agg rfl (F.ev rfl) agg24 (M.rd (i := 2) rfl) rfl) rfl rfl ?_; clear F; intro φ F
    refine sq_alloc F M (wt0 rfl) rfl z24 rfl rfl ?_; clear F M; intro φ ω g3 F M
    refine sq_stA F M (wt0 rfl) rfl (F.ev rfl) (F.ev rfl) (i := 0) rfl agg24 rfl rfl (by show (true && (ev.oneCell' && true)) = true; rw [(slc_one (M.av (i := 4) rfl)).1]; rfl) rfl ?_; clear M; intro ω M
    refine nx ?_
    refine wp_seq ?_
    -- region 6
    refine rg_J F 8 (fun Dd dv w' => (Dd 1 = true → dv 1 = .pointer (some ⟨g1, 1, none⟩)) ∧ (Dd 2 = true → dv 2 = ev) ∧ (Dd 4 = true → dv 4 = .agg #[.int .i64 ed.f, .int .i64 ed.t, .int .i64 ed.p.e, .int .i64 ed.p.r]) ∧ (Dd 7 = true → dv 7 = .pointer (some ⟨g3, 1, none⟩)) ∧ Mm [] w w' [(if Dd 6 = true then .row 40 4 (dv 6) ((E ++ [ed]).length) (cG (E ++ [ed])) else (if Dd 3 = true then .row 40 4 (dv 3) E.length (cG E) else (if Dd 0 = true then .row 40 4 (dv 0) 0 (cG []) else .arg 1 (.slice none 0 0) 0 []))), (if Dd 5 = true then .row 40 4 (dv 5) 1 (cG [ed]) else .arg 1 (.slice none 0 0) 0 []), .blk g3 24 #[.int .i64 n, ev], .own (fp3 c1 rs1 vss1 ((cloG n E).1)) (Rd3 c1 rs1 vss1 ((cloG n E).1)), .blk g2 40 #[.int .i64 ed.f, .int .i64 ed.t, .int .i64 ed.p.e, .int .i64 ed.p.r], .blk g1 24 #[.int .i64 n, ev], .arg 4 ev E.length (cG E)]) (fun dv => ⟨(fun h => by cases h), (fun h => by cases h), (fun h => by cases h), (fun h => by cases h), by simpa using ((M.drew).dead).dead⟩) mixedOK (by kernel_rfl) rfl ⟨?_, ?_, ?_, ?_, ?_, ?_, ?_, ?_, trivial⟩ ?_
    · intro Dd φ1 dv ω1 ⟨h1, h2, h4, h7, M⟩ hDi hdep hcl F1 hdone hold
      have f3 : Dd 3 = false := notYet hcl (i := 0) (by kernel_rfl) hDi
      have f6 : Dd 6 = false := notYet hcl (i := 3) (by kernel_rfl) f3
      have F := F1
      try simp only [hDi, f3, f6, Bool.false_eq_true, if_false, if_true, ite_true, ite_false] at M
      have M2 : Mm [] w _ (([_, _, _, _, _, _, _]).set 0 (.row 40 4 (.slice (some ⟨ω1.heap.size, 0, none⟩) 0 0) 0 (cG []))) := M.fresh (i := 0) (e := 40) (m := 4) (k := 0) (cs := #[]) rfl (by omega) rfl
      exact ⟨wt0 rfl, ow_run (bs22_0 rfl _) ⟨_, rfl, keepP rfl h1, keepP rfl h2, keepP rfl h4, keepP rfl h7, by simpa [setB, setV, hDi, f3, f6, Bool.false_eq_true, if_false, if_true, ite_true, ite_false] using M2⟩⟩
    · intro Dd φ1 dv ω1 ⟨h1, h2, h4, h7, M⟩ hDi hdep hcl F1 hdone hold
      have F := (F1.cons (F.was hold (s := 2) rfl rfl))
      try simp only [hDi, Bool.false_eq_true, if_false, if_true, ite_true, ite_false] at M
      exact ⟨wt0 rfl, ow_run ((pu_field rfl (F.ev rfl) fo24_1) ω1) ⟨_, rfl, newP, keepP rfl h2, keepP rfl h4, keepP rfl h7, by simpa [setB, setV, hDi, Bool.false_eq_true, if_false, if_true, ite_true, ite_false] using M⟩⟩
    · intro Dd φ1 dv ω1 ⟨h1, h2, h4, h7, M⟩ hDi hdep hcl F1 hdone hold
      have d1 : Dd 1 = true := hdep 1 (by kernel_rfl)
      have F := (F1.cons (k := 30) (hdone 1 _ _ d1 rfl rfl |>.trans (h1 d1)))
      try simp only [d1, hDi, Bool.false_eq_true, if_false, if_true, ite_true, ite_false] at M
      exact ⟨wt0 rfl, ow_run ((ld_cell rfl (F.ev rfl) one22 (M.rd (i := 5) rfl) rfl) ω1 rfl) ⟨_, rfl, keepP rfl h1, newP, keepP rfl h4, keepP rfl h7, by simpa [setB, setV, d1, hDi, Bool.false_eq_true, if_false, if_true, ite_true, ite_false] using M⟩⟩
    · intro Dd φ1 dv ω1 ⟨h1, h2, h4, h7, M⟩ hDi hdep hcl F1 hdone hold
      have d0 : Dd 0 = true := hdep 0 (by kernel_rfl)
      have d2 : Dd 2 = true := hdep 2 (by kernel_rfl)
      have d1 : Dd 1 = true := hcl _ 1 d2 (by kernel_rfl)
      have f6 : Dd 6 = false := notYet hcl (i := 3) (by kernel_rfl) hDi
      have F := ((F1.cons (k := 29) (hdone 0 _ _ d0 rfl rfl)).cons (k := 31) (hdone 2 _ _ d2 rfl rfl |>.trans (h2 d2)))
      try simp only [d0, d1, d2, hDi, f6, Bool.false_eq_true, if_false, if_true, ite_true, ite_false] at M
      refine ⟨wt0 rfl, ow_app M rfl sl22.1 el40 (F.ev rfl) (i := 0) rfl (F.ev rfl) (M.av (i := 6) rfl) (cG_ones _) (by first | omega | (simp only [List.length_append, List.length_take, List.length_drop, List.length_cons, List.length_nil]; omega)) (by omega) (fun x w2 M2 => ?_)⟩
      simp only [show cG [] = [] from rfl, List.nil_append, show 0 + E.length = E.length from by first | rfl | (simp; done) | (simp; omega)] at M2
      exact ⟨_, rfl, keepP rfl h1, keepP rfl h2, keepP rfl h4, keepP rfl h7, by simpa [setB, setV, d0, d1, d2, hDi, f6, Bool.false_eq_true, if_false, if_true, ite_true, ite_false] using M2⟩
    · intro Dd φ1 dv ω1 ⟨h1, h2, h4, h7, M⟩ hDi hdep hcl F1 hdone hold
      have F := (F1.cons (F.was hold (s := 3) rfl rfl))
      try simp only [hDi, Bool.false_eq_true, if_false, if_true, ite_true, ite_false] at M
      exact ⟨wt0 rfl, ow_run ((ld_agg rfl (F.ev rfl) agg40 (M.rd (i := 4) rfl) rfl) ω1 rfl) ⟨_, rfl, keepP rfl h1, keepP rfl h2, newP, keepP rfl h7, by simpa [setB, setV, hDi, Bool.false_eq_true, if_false, if_true, ite_true, ite_false] using M⟩⟩
    · intro Dd φ1 dv ω1 ⟨h1, h2, h4, h7, M⟩ hDi hdep hcl F1 hdone hold
      have d4 : Dd 4 = true := hdep 4 (by kernel_rfl)
      have F := (F1.cons (k := 33) (hdone 4 _ _ d4 rfl rfl |>.trans (h4 d4)))
      try simp only [d4, hDi, Bool.false_eq_true, if_false, if_true, ite_true, ite_false] at M
      have M2 : Mm [] w _ (([_, _, _, _, _, _, _]).set 1 (.row 40 4 (.slice (some ⟨ω1.heap.size, 0, none⟩) 1 1) 1 (cG [ed]))) := M.fresh (i := 1) (e := 40) (m := 4) (k := 1) (cs := #[.int .i64 ed.f, .int .i64 ed.t, .int .i64 ed.p.e, .int .i64 ed.p.r]) rfl (by omega) rfl
      exact ⟨wt0 rfl, ow_run (bs22_1 rfl (F.ev rfl) _) ⟨_, rfl, keepP rfl h1, keepP rfl h2, keepP rfl h4, keepP rfl h7, by simpa [setB, setV, d4, hDi, Bool.false_eq_true, if_false, if_true, ite_true, ite_false] using M2⟩⟩
    · intro Dd φ1 dv ω1 ⟨h1, h2, h4, h7, M⟩ hDi hdep hcl F1 hdone hold
      have d3 : Dd 3 = true := hdep 3 (by kernel_rfl)
      have d5 : Dd 5 = true := hdep 5 (by kernel_rfl)
      have d0 : Dd 0 = true := hcl _ 0 d3 (by kernel_rfl)
      have d2 : Dd 2 = true := hcl _ 2 d3 (by kernel_rfl)
      have d4 : Dd 4 = true := hcl _ 4 d5 (by kernel_rfl)
      have d1 : Dd 1 = true := hcl _ 1 d2 (by kernel_rfl)
      have F := ((F1.cons (k := 32) (hdone 3 _ _ d3 rfl rfl)).cons (k := 34) (hdone 5 _ _ d5 rfl rfl))
      try simp only [d0, d1, d2, d3, d4, d5, hDi, Bool.false_eq_true, if_false, if_true, ite_true, ite_false] at M
      refine ⟨wt0 rfl, ow_app M rfl sl22.1 el40 (F.ev rfl) (i := 0) rfl (F.ev rfl) (M.rv (i := 1) rfl) (cG_ones _) (by first | omega | (simp only [List.length_append, List.length_take, List.length_drop, List.length_cons, List.length_nil]; omega)) (by omega) (fun x w2 M2 => ?_)⟩
      rw [← cG_app, show E.length + 1 = (E ++ [ed]).length from by first | rfl | (simp; done) | (simp; omega)] at M2
      exact ⟨_, rfl, keepP rfl h1, keepP rfl h2, keepP rfl h4, keepP rfl h7, by simpa [setB, setV, d0, d1, d2, d3, d4, d5, hDi, Bool.false_eq_true, if_false, if_true, ite_true, ite_false] using M2⟩
    · intro Dd φ1 dv ω1 ⟨h1, h2, h4, h7, M⟩ hDi hdep hcl F1 hdone hold
      have F := (F1.cons (F.was hold (s := 8) rfl rfl))
      try simp only [hDi, Bool.false_eq_true, if_false, if_true, ite_true, ite_false] at M
      exact ⟨wt0 rfl, ow_run ((pu_field rfl (F.ev rfl) fo24_1) ω1) ⟨_, rfl, keepP rfl h1, keepP rfl h2, keepP rfl h4, newP, by simpa [setB, setV, hDi, Bool.false_eq_true, if_false, if_true, ite_true, ite_false] using M⟩⟩
    clear M; rintro dv φ ω ⟨h1, h2, h4, h7, M⟩ F
    simp only [hvL, List.take_succ_cons, List.take_zero] at F
    rw [h7 (by simp)] at F
    rw [h4 (by simp)] at F
    rw [h2 (by simp)] at F
    rw [h1 (by simp)] at F
    replace M : Mm [] w ω [.row 40 4 (dv 6) ((E ++ [ed]).length) (cG (E ++ [ed])), .row 40 4 (dv 5) 1 (cG [ed]), .blk g3 24 #[.int .i64 n, ev], .own (fp3 c1 rs1 vss1 ((cloG n E).1)) (Rd3 c1 rs1 vss1 ((cloG n E).1)), .blk g2 40 #[.int .i64 ed.f, .int .i64 ed.t, .int .i64 ed.p.e, .int .i64 ed.p.r], .blk g1 24 #[.int .i64 n, ev], .arg 4 ev E.length (cG E)] := by simpa using M
    clear h1 h2 h4 h7
    generalize dv 0 = v2 at F
    generalize dv 3 = v3 at F
    generalize dv 5 = v4 at F M
    generalize dv 6 = v5 at F M
    refine sq_stC F M (wt0 rfl) rfl (F.ev rfl) (F.ev rfl) (i := 2) rfl (by simp) si22 (slc_one (M.rv (i := 0) rfl)).1 (slc_one (M.rv (i := 0) rfl)).2 rfl ?_; clear M; intro ω M
    replace M : Mm [] w ω [.row 40 4 v5 ((E ++ [ed]).length) (cG (E ++ [ed])), .row 40 4 v4 1 (cG [ed]), .blk g3 24 #[.int .i64 n, v5], .own (fp3 c1 rs1 vss1 ((cloG n E).1)) (Rd3 c1 rs1 vss1 ((cloG n E).1)), .blk g2 40 #[.int .i64 ed.f, .int .i64 ed.t, .int .i64 ed.p.e, .int .i64 ed.p.r], .blk g1 24 #[.int .i64 n, ev], .arg 4 ev E.length (cG E)] := M
    refine nx ?_
    refine wp_seq ?_
    -- region 7
    refine wp_region_lit ?_
    refine sq_rd F (wt0 rfl) (ld_agg rfl (F.ev rfl) agg24 (M.rd (i := 2) rfl) rfl) rfl rfl ?_; clear F; intro φ F
    refine sq_callO (Z := (fun u x' => ∃ v rs vss, u = .tuple #[v, .int .i64 (cloG n (E ++ [ed])).2] ∧ x' = .own (fp3 v rs vss (cloG n (E ++ [ed])).1) (Rd3 v rs vss (cloG n (E ++ [ed])).1))) F M (wt0 rfl) rfl en15 (evc (F.ev rfl) evn) (graph_closure_any n v5 (E ++ [ed]) _ (M.rv (i := 0) rfl) (by first | omega | (simp; done) | (simp; omega) | (refine Nat.le_trans (minL_len _) ?_; omega) | (refine Nat.le_trans (eachL_len _ _) ?_; omega))) rfl rfl ?_; clear F M; rintro φ ω _ _ ⟨c6, rs6, vss6, rfl, rfl⟩ F M
    replace M : Mm [] w ω [.own (fp3 c6 rs6 vss6 ((cloG n (E ++ [ed])).1)) (Rd3 c6 rs6 vss6 ((cloG n (E ++ [ed])).1)), .row 40 4 v5 ((E ++ [ed]).length) (cG (E ++ [ed])), .row 40 4 v4 1 (cG [ed]), .blk g3 24 #[.int .i64 n, v5], .own (fp3 c1 rs1 vss1 ((cloG n E).1)) (Rd3 c1 rs1 vss1 ((cloG n E).1)), .blk g2 40 #[.int .i64 ed.f, .int .i64 ed.t, .int .i64 ed.p.e, .int .i64 ed.p.r], .blk g1 24 #[.int .i64 n, ev], .arg 4 ev E.length (cG E)] := M
    refine sq_pure F (wt0 rfl) (pu_move rfl (F.ev rfl)) rfl rfl ?_; clear F; intro φ F
    refine sq_pure F (wt0 rfl) (pu_extract rfl (F.ev rfl) rfl) rfl rfl ?_; clear F; intro φ F
    refine sq_pure F (wt0 rfl) (pu_extract rfl (F.ev rfl) rfl) rfl rfl ?_; clear F; intro φ F
    refine sq_pure F (wt0 rfl) (pu_assign rfl (F.ev rfl)) rfl rfl ?_; clear F; intro φ F
    refine sq_pure F (wt0 rfl) (pu_assign rfl (F.ev rfl)) rfl rfl ?_; clear F; intro φ F
    refine nx ?_
    refine wp_seq ?_
    refine wp_seq ?_
    -- region 8
    refine wp_region_lit ?_
    refine sq_pure F (wt0 rfl) (pu_move rfl (F.ev rfl)) rfl rfl ?_; clear F; intro φ F
    cases hs2 : (decide ((cloG n E).2 = 0))
    · skip
      have hs2i := of_decide_eq_false hs2
      refine sq_pure F (wt0 rfl) (pu_neqI rfl (F.ev rfl) (evk)) rfl rfl ?_; clear F; intro φ F
      rw [hs2, show (!false) = true from rfl] at F
      refine sq_pure F (wt0 rfl) (pu_move rfl (F.ev rfl)) rfl rfl ?_; clear F; intro φ F
      refine sq_skip F (wtn F rfl rfl rfl rfl rfl) rfl rfl ?_; clear F; intro φ F
      refine sq_skip F (wtn F rfl rfl rfl rfl rfl) rfl rfl ?_; clear F; intro φ F
      refine sq_pure F (wt0 rfl) (pu_pickt rfl (F.ev rfl) (evk)) rfl rfl ?_; clear F; intro φ F
      refine nx ?_
      refine wp_cond_true (F.ev rfl) ?_
      refine wp_seq ?_
      have hme := @moreg_err n E ed
      -- region 9
      refine wp_region_lit ?_
      refine sq_pure F (wt0 rfl) (pu_move rfl (F.ev rfl)) rfl rfl ?_; clear F; intro φ F
      refine sq_pure F (wt0 rfl) (pu_move rfl (F.ev rfl)) rfl rfl ?_; clear F; intro φ F
      refine sq_pure F (wt1 F rfl rfl rfl rfl rfl) (pu_move rfl (F.ev rfl)) rfl rfl ?_; clear F; intro φ F
      refine sq_pure F (wt1 F rfl rfl rfl rfl rfl) (pu_eqlI rfl (F.ev rfl) (evk)) rfl rfl ?_; clear F; intro φ F
      rw [hs2] at F
      refine sq_pure F (wt1 F rfl rfl rfl rfl rfl) (pu_move rfl (F.ev rfl)) rfl rfl ?_; clear F; intro φ F
      refine sq_pure F (wt1 F rfl rfl rfl rfl rfl) (pu_move rfl (F.ev rfl)) rfl rfl ?_; clear F; intro φ F
      cases hs3 : (decide ((cloG n (E ++ [ed])).2 = 0))
      · skip
        have hs3i := of_decide_eq_false hs3
        refine sq_pure F (wt1 F rfl rfl rfl rfl rfl) (pu_neqI rfl (F.ev rfl) (evk)) rfl rfl ?_; clear F; intro φ F
        rw [hs3, show (!false) = true from rfl] at F
        refine sq_pure F (wt1 F rfl rfl rfl rfl rfl) (pu_pickf rfl (F.ev rfl) (F.ev rfl)) rfl rfl ?_; clear F; intro φ F
        refine sq_pure F (wt1 F rfl rfl rfl rfl rfl) (pu_move rfl (F.ev rfl)) rfl rfl ?_; clear F; intro φ F
        refine sq_skip F (wtn F rfl rfl rfl rfl rfl) rfl rfl ?_; clear F; intro φ F
        refine sq_skip F (wtn F rfl rfl rfl rfl rfl) rfl rfl ?_; clear F; intro φ F
        refine sq_pure F (wt1 F rfl rfl rfl rfl rfl) (pu_pickt rfl (F.ev rfl) (evk)) rfl rfl ?_; clear F; intro φ F
        refine sq_pure F (wt0 rfl) (pu_pickt rfl (F.ev rfl) (F.ev rfl)) rfl rfl ?_; clear F; intro φ F
        refine sq_pure F (wt0 rfl) (pu_assign rfl (F.ev rfl)) rfl rfl ?_; clear F; intro φ F
        refine nx ?_
        refine wp_ret ?_
        refine nxr ?_
        refine rt_tmp F rfl rfl ?_
        exact ⟨rfl, M.bel⟩
      · skip
        have hs3i := of_decide_eq_true hs3
        refine sq_pure F (wt1 F rfl rfl rfl rfl rfl) (pu_neqI rfl (F.ev rfl) (evk)) rfl rfl ?_; clear F; intro φ F
        rw [hs3, show (!true) = false from rfl] at F
        refine sq_pure F (wt1 F rfl rfl rfl rfl rfl) (pu_pickf rfl (F.ev rfl) (F.ev rfl)) rfl rfl ?_; clear F; intro φ F
        refine sq_pure F (wt1 F rfl rfl rfl rfl rfl) (pu_move rfl (F.ev rfl)) rfl rfl ?_; clear F; intro φ F
        refine sq_pure F (wt1 F rfl rfl rfl rfl rfl) (pu_move rfl (F.ev rfl)) rfl rfl ?_; clear F; intro φ F
        refine sq_pure F (wt1 F rfl rfl rfl rfl rfl) (pu_eqlI rfl (F.ev rfl) (evk)) rfl rfl ?_; clear F; intro φ F
        refine sq_pure F (wt1 F rfl rfl rfl rfl rfl) (pu_pickf rfl (F.ev rfl) (F.ev rfl)) rfl rfl ?_; clear F; intro φ F
        refine sq_pure F (wt0 rfl) (pu_pickt rfl (F.ev rfl) (F.ev rfl)) rfl rfl ?_; clear F; intro φ F
        refine sq_pure F (wt0 rfl) (pu_assign rfl (F.ev rfl)) rfl rfl ?_; clear F; intro φ F
        refine nx ?_
        cases hs4 : (decide ((cloG n E).2 = 10))
        · rw [hs4] at F
          have hs4i := of_decide_eq_false hs4
          refine wp_ret ?_
          refine nxr ?_
          refine rt_tmp F rfl rfl ?_
          exfalso; clear F M; first | omega | (simp_all; done) | (simp_all; omega)
        · rw [hs4] at F
          have hs4i := of_decide_eq_true hs4
          refine wp_ret ?_
          refine nxr ?_
          refine rt_tmp F rfl rfl ?_
          exact ⟨rfl, M.bel⟩
    · skip
      have hs2i := of_decide_eq_true hs2
      refine sq_pure F (wt0 rfl) (pu_neqI rfl (F.ev rfl) (evk)) rfl rfl ?_; clear F; intro φ F
      rw [hs2, show (!true) = false from rfl] at F
      refine sq_pure F (wt0 rfl) (pu_move rfl (F.ev rfl)) rfl rfl ?_; clear F; intro φ F
      refine sq_pure F (wt1 F rfl rfl rfl rfl rfl) (pu_move rfl (F.ev rfl)) rfl rfl ?_; clear F; intro φ F
      cases hs5 : (decide ((cloG n (E ++ [ed])).2 = 0))
      · skip
        have hs5i := of_decide_eq_false hs5
        refine sq_pure F (wt1 F rfl rfl rfl rfl rfl) (pu_neqI rfl (F.ev rfl) (evk)) rfl rfl ?_; clear F; intro φ F
        rw [hs5, show (!false) = true from rfl] at F
        refine sq_pure F (wt0 rfl) (pu_pickf rfl (F.ev rfl) (F.ev rfl)) rfl rfl ?_; clear F; intro φ F
        refine nx ?_
        refine wp_cond_true (F.ev rfl) ?_
        refine wp_seq ?_
        have hme := @moreg_err n E ed
        -- region 9
        refine wp_region_lit ?_
        refine sq_pure F (wt0 rfl) (pu_move rfl (F.ev rfl)) rfl rfl ?_; clear F; intro φ F
        refine sq_pure F (wt0 rfl) (pu_move rfl (F.ev rfl)) rfl rfl ?_; clear F; intro φ F
        refine sq_pure F (wt1 F rfl rfl rfl rfl rfl) (pu_move rfl (F.ev rfl)) rfl rfl ?_; clear F; intro φ F
        refine sq_pure F (wt1 F rfl rfl rfl rfl rfl) (pu_eqlI rfl (F.ev rfl) (evk)) rfl rfl ?_; clear F; intro φ F
        rw [hs2] at F
        refine sq_pure F (wt1 F rfl rfl rfl rfl rfl) (pu_move rfl (F.ev rfl)) rfl rfl ?_; clear F; intro φ F
        refine sq_skip F (wtn F rfl rfl rfl rfl rfl) rfl rfl ?_; clear F; intro φ F
        refine sq_skip F (wtn F rfl rfl rfl rfl rfl) rfl rfl ?_; clear F; intro φ F
        refine sq_pure F (wt1 F rfl rfl rfl rfl rfl) (pu_pickt rfl (F.ev rfl) (evk)) rfl rfl ?_; clear F; intro φ F
        refine sq_pure F (wt1 F rfl rfl rfl rfl rfl) (pu_move rfl (F.ev rfl)) rfl rfl ?_; clear F; intro φ F
        refine sq_skip F (wtn F rfl rfl rfl rfl rfl) rfl rfl ?_; clear F; intro φ F
        refine sq_skip F (wtn F rfl rfl rfl rfl rfl) rfl rfl ?_; clear F; intro φ F
        refine sq_pure F (wt1 F rfl rfl rfl rfl rfl) (pu_pickt rfl (F.ev rfl) (evk)) rfl rfl ?_; clear F; intro φ F
        refine sq_pure F (wt0 rfl) (pu_pickt rfl (F.ev rfl) (F.ev rfl)) rfl rfl ?_; clear F; intro φ F
        refine sq_pure F (wt0 rfl) (pu_assign rfl (F.ev rfl)) rfl rfl ?_; clear F; intro φ F
        refine nx ?_
        refine wp_ret ?_
        refine nxr ?_
        refine rt_tmp F rfl rfl ?_
        exact ⟨rfl, M.bel⟩
      · skip
        have hs5i := of_decide_eq_true hs5
        refine sq_pure F (wt1 F rfl rfl rfl rfl rfl) (pu_neqI rfl (F.ev rfl) (evk)) rfl rfl ?_; clear F; intro φ F
        rw [hs5, show (!true) = false from rfl] at F
        refine sq_pure F (wt0 rfl) (pu_pickf rfl (F.ev rfl) (F.ev rfl)) rfl rfl ?_; clear F; intro φ F
        refine nx ?_
        refine wp_cond_false (F.ev rfl) ?_
        refine wp_skip ?_
        refine nxq ?_
        refine wp_seq ?_
        have hza : (cloG n E).2 = 0 := by have z := hs2; first | exact of_decide_eq_true z | simpa using z
        obtain ⟨⟨hn1a, hn8a, hE16a, hfita, horda, hcka⟩, hcla, hs64a⟩ := (clo_cases n E).resolve_left (fun z => z.2 hza)
        rw [hcla] at M
        replace M : Mm [] w ω [.own (fp3 c6 rs6 vss6 ((cloG n (E ++ [ed])).1)) (Rd3 c6 rs6 vss6 ((cloG n (E ++ [ed])).1)), .row 40 4 v5 ((E ++ [ed]).length) (cG (E ++ [ed])), .row 40 4 v4 1 (cG [ed]), .blk g3 24 #[.int .i64 n, v5], .own (fp3 c1 rs1 vss1 (cloT E n.toNat n.toNat)) (Rd3 c1 rs1 vss1 (cloT E n.toNat n.toNat)), .blk g2 40 #[.int .i64 ed.f, .int .i64 ed.t, .int .i64 ed.p.e, .int .i64 ed.p.r], .blk g1 24 #[.int .i64 n, ev], .arg 4 ev E.length (cG E)] := M
        have hlra : rs1.length = n.toNat := (In3.lr (Rd3.inn (M.pv (i := 4) rfl))).trans (cloT_len E n.toNat n.toNat)
        have hS3a : Sm3 (cloT E n.toNat n.toNat) := by have z := clo_sm n E; rw [hcla] at z; exact z
        have hlca := cloT_len E n.toNat n.toNat
        have hFa : Fits ((n.toNat : Nat) : Int) E := by rw [show ((n.toNat : Nat) : Int) = n by omega]; exact hfita
        have hrowa : ∀ i, i < n.toNat → (at3 (cloT E n.toNat n.toNat) i).length = n.toNat := fun i hi => by rw [cloT_at hi, row_len]
        have hvva : ∀ i, i < n.toNat → (atW vss1 i).length = n.toNat := fun i hi => (In3.lv (Rd3.inn (M.pv (i := 4) rfl)) i (by rw [cloT_len]; exact hi)).trans (hrowa i hi)
        have h64a : ∀ i j, i < n.toNat → (atR (at3 (cloT E n.toNat n.toNat) i) j).length ≤ 64 := fun i j hi => by rw [cloT_at hi]; exact hs64a i hi j
        have hzb : (cloG n (E ++ [ed])).2 = 0 := by have z := hs5; first | exact of_decide_eq_true z | simpa using z
        obtain ⟨⟨hn1b, hn8b, hE16b, hfitb, hordb, hckb⟩, hclb, hs64b⟩ := (clo_cases n (E ++ [ed])).resolve_left (fun z => z.2 hzb)
        rw [hclb] at M
        replace M : Mm [] w ω [.own (fp3 c6 rs6 vss6 (cloT (E ++ [ed]) n.toNat n.toNat)) (Rd3 c6 rs6 vss6 (cloT (E ++ [ed]) n.toNat n.toNat)), .row 40 4 v5 ((E ++ [ed]).length) (cG (E ++ [ed])), .row 40 4 v4 1 (cG [ed]), .blk g3 24 #[.int .i64 n, v5], .own (fp3 c1 rs1 vss1 (cloT E n.toNat n.toNat)) (Rd3 c1 rs1 vss1 (cloT E n.toNat n.toNat)), .blk g2 40 #[.int .i64 ed.f, .int .i64 ed.t, .int .i64 ed.p.e, .int .i64 ed.p.r], .blk g1 24 #[.int .i64 n, ev], .arg 4 ev E.length (cG E)] := M
        have hlrb : rs6.length = n.toNat := (In3.lr (Rd3.inn (M.pv (i := 0) rfl))).trans (cloT_len (E ++ [ed]) n.toNat n.toNat)
        have hS3b : Sm3 (cloT (E ++ [ed]) n.toNat n.toNat) := by have z := clo_sm n (E ++ [ed]); rw [hclb] at z; exact z
        have hlcb := cloT_len (E ++ [ed]) n.toNat n.toNat
        have hFb : Fits ((n.toNat : Nat) : Int) (E ++ [ed]) := by rw [show ((n.toNat : Nat) : Int) = n by omega]; exact hfitb
        have hrowb : ∀ i, i < n.toNat → (at3 (cloT (E ++ [ed]) n.toNat n.toNat) i).length = n.toNat := fun i hi => by rw [cloT_at hi, row_len]
        have hvvb : ∀ i, i < n.toNat → (atW vss6 i).length = n.toNat := fun i hi => (In3.lv (Rd3.inn (M.pv (i := 0) rfl)) i (by rw [cloT_len]; exact hi)).trans (hrowb i hi)
        have h64b : ∀ i j, i < n.toNat → (atR (at3 (cloT (E ++ [ed]) n.toNat n.toNat) i) j).length ≤ 64 := fun i j hi => by rw [cloT_at hi]; exact hs64b i hi j
        -- region 10
        refine wp_region_lit ?_
        refine sq_pure F (wt0 rfl) (pu_move rfl (F.ev rfl)) rfl rfl ?_; clear F; intro φ F
        refine sq_pure F (wt0 rfl) (pu_field rfl (F.ev rfl) fo24_0) rfl rfl ?_; clear F; intro φ F
        refine sq_rd F (wt0 rfl) (ld_cell rfl (F.ev rfl) one3 (M.rd (i := 6) rfl) rfl) rfl rfl ?_; clear F; intro φ F
        refine sq_call F M (wt0 rfl) rfl en18 (evc (F.ev rfl) (evc (F.ev rfl) evn)) (whole_any (cloT E n.toNat n.toNat) _ _ _ _ _ (M.pv (i := 4) rfl) (by omega) (by intro q hq; rw [cloT_len] at hq; rw [cloT_at hq, row_len]; omega) (by first | exact hS3 | exact hS3a | exact hS3b)) rfl rfl ?_; clear F M; intro φ ω F M
        refine sq_pure F (wt0 rfl) (pu_assign rfl (F.ev rfl)) rfl rfl ?_; clear F; intro φ F
        refine nx ?_
        refine wp_seq ?_
        -- region 11
        refine wp_region_lit ?_
        refine sq_pure F (wt0 rfl) (pu_move rfl (F.ev rfl)) rfl rfl ?_; clear F; intro φ F
        refine sq_pure F (wt0 rfl) (pu_field rfl (F.ev rfl) fo24_0) rfl rfl ?_; clear F; intro φ F
        refine sq_rd F (wt0 rfl) (ld_cell rfl (F.ev rfl) one3 (M.rd (i := 6) rfl) rfl) rfl rfl ?_; clear F; intro φ F
        refine sq_call F M (wt0 rfl) rfl en18 (evc (F.ev rfl) (evc (F.ev rfl) evn)) (whole_any (cloT (E ++ [ed]) n.toNat n.toNat) _ _ _ _ _ (M.pv (i := 0) rfl) (by omega) (by intro q hq; rw [cloT_len] at hq; rw [cloT_at hq, row_len]; omega) (by first | exact hS3 | exact hS3a | exact hS3b)) rfl rfl ?_; clear F M; intro φ ω F M
        refine sq_pure F (wt0 rfl) (pu_assign rfl (F.ev rfl)) rfl rfl ?_; clear F; intro φ F
        refine nx ?_
        refine wp_seq ?_
        refine wp_seq ?_
        -- region 12
        refine wp_region_lit ?_
        refine sq_pure F (wt0 rfl) (pu_move rfl (F.ev rfl)) rfl rfl ?_; clear F; intro φ F
        refine sq_pure F (wt0 rfl) (pu_not rfl (F.ev rfl)) rfl rfl ?_; clear F; intro φ F
        rw [show (!true) = false from rfl] at F
        refine sq_pure F (wt0 rfl) (pu_move rfl (F.ev rfl)) rfl rfl ?_; clear F; intro φ F
        refine sq_pure F (wt1 F rfl rfl rfl rfl rfl) (pu_move rfl (F.ev rfl)) rfl rfl ?_; clear F; intro φ F
        refine sq_pure F (wt1 F rfl rfl rfl rfl rfl) (pu_not rfl (F.ev rfl)) rfl rfl ?_; clear F; intro φ F
        rw [show (!true) = false from rfl] at F
        refine sq_pure F (wt0 rfl) (pu_pickf rfl (F.ev rfl) (F.ev rfl)) rfl rfl ?_; clear F; intro φ F
        refine nx ?_
        refine wp_cond_false (F.ev rfl) ?_
        refine wp_skip ?_
        refine nxq ?_
        refine wp_seq ?_
        refine wp_seq ?_
        -- region 14
        refine wp_region_lit ?_
        refine sq_pure F (wt0 rfl) (pu_assign rfl (evk)) rfl rfl ?_; clear F; intro φ F
        refine nx ?_
        refine wp_block ?_
        refine lp (σ := Int) (fun i φ' w' => Fr φ' 176 [(2, .pointer (some ⟨g1, 0, none⟩)), (3, .pointer (some ⟨g2, 0, none⟩)), (5, .bool true), (6, c1), (9, c6), (13, .int .i64 i)] ∧ Mm [] w w' [.own (fp3 c6 rs6 vss6 (cloT (E ++ [ed]) n.toNat n.toNat)) (Rd3 c6 rs6 vss6 (cloT (E ++ [ed]) n.toNat n.toNat)), .blk g3 24 #[.int .i64 n, v5], .own (fp3 c1 rs1 vss1 (cloT E n.toNat n.toNat)) (Rd3 c1 rs1 vss1 (cloT E n.toNat n.toNat)), .blk g2 40 #[.int .i64 ed.f, .int .i64 ed.t, .int .i64 ed.p.e, .int .i64 ed.p.r], .blk g1 24 #[.int .i64 n, ev], .arg 4 ev E.length (cG E)] ∧ (0 ≤ i) ∧ (i ≤ n)) (fun i => (n - i).toNat) (0) ⟨((((((F.nil.cons (F.get (k := 13) rfl)).cons (F.get (k := 9) rfl)).cons (F.get (k := 6) rfl)).cons (F.get (k := 5) rfl)).cons (F.get (k := 3) rfl)).cons (F.get (k := 2) rfl)), (M.sub (.cons_cons _ (.cons _ (.cons _ (.cons_cons _ (.cons_cons _ (.cons_cons _ (.cons_cons _ (.cons_cons _ (.slnil)))))))))), Int.le_refl _, by omega⟩ ?_
        clear F M
        rintro i φ ω ⟨F, M, hp6_0, hp6_1⟩
        refine wp_seq ?_
        refine wp_seq ?_
        -- region 15
        refine wp_region_lit ?_
        refine sq_pure F (wt0 rfl) (pu_move rfl (F.ev rfl)) rfl rfl ?_; clear F; intro φ F
        refine sq_pure F (wt0 rfl) (pu_field rfl (F.ev rfl) fo24_0) rfl rfl ?_; clear F; intro φ F
        refine sq_rd F (wt0 rfl) (ld_cell rfl (F.ev rfl) one3 (M.rd (i := 4) rfl) rfl) rfl rfl ?_; clear F; intro φ F
        refine sq_pure F (wt0 rfl) (pu_lss rfl (F.ev rfl) (F.ev rfl)) rfl rfl ?_; clear F; intro φ F
        refine nx ?_
        cases hs7 : (decide (i < n))
        · rw [hs7] at F
          have hs7i := of_decide_eq_false hs7
          refine wp_cond_false (F.ev rfl) ?_
          refine wp_exit ?_
          refine nxe ?_
          refine nxe ?_
          refine nxm ?_
          refine nxq ?_
          refine wp_seq ?_
          -- region 26
          refine wp_region_lit ?_
          refine sq_pure F (wt0 rfl) (pu_move rfl (F.ev rfl)) rfl rfl ?_; clear F; intro φ F
          refine sq_pure F (wt0 rfl) (pu_assign rfl (F.ev rfl)) rfl rfl ?_; clear F; intro φ F
          refine nx ?_
          refine wp_ret ?_
          refine rt_tmp F rfl rfl ?_
          exact ⟨rfl, M.bel⟩
        · rw [hs7] at F
          have hs7i := of_decide_eq_true hs7
          refine wp_cond_true (F.ev rfl) ?_
          refine wp_skip ?_
          refine nxq ?_
          refine wp_seq ?_
          refine wp_block ?_
          refine wp_seq ?_
          -- region 17
          refine wp_region_lit ?_
          refine sq_pure F (wt0 rfl) (pu_assign rfl (evk)) rfl rfl ?_; clear F; intro φ F
          refine nx ?_
          refine wp_block ?_
          refine lp (σ := Int) (fun j φ' w' => Fr φ' 176 [(2, .pointer (some ⟨g1, 0, none⟩)), (3, .pointer (some ⟨g2, 0, none⟩)), (5, .bool true), (6, c1), (9, c6), (13, .int .i64 i), (14, .int .i64 j)] ∧ Mm [] w w' [.own (fp3 c6 rs6 vss6 (cloT (E ++ [ed]) n.toNat n.toNat)) (Rd3 c6 rs6 vss6 (cloT (E ++ [ed]) n.toNat n.toNat)), .blk g3 24 #[.int .i64 n, v5], .own (fp3 c1 rs1 vss1 (cloT E n.toNat n.toNat)) (Rd3 c1 rs1 vss1 (cloT E n.toNat n.toNat)), .blk g2 40 #[.int .i64 ed.f, .int .i64 ed.t, .int .i64 ed.p.e, .int .i64 ed.p.r], .blk g1 24 #[.int .i64 n, ev], .arg 4 ev E.length (cG E)] ∧ (0 ≤ j) ∧ (j ≤ n)) (fun j => (n - j).toNat) (0) ⟨(((((((F.nil.cons (F.get (k := 14) rfl)).cons (F.get (k := 13) rfl)).cons (F.get (k := 9) rfl)).cons (F.get (k := 6) rfl)).cons (F.get (k := 5) rfl)).cons (F.get (k := 3) rfl)).cons (F.get (k := 2) rfl)), (M.sub (.cons_cons _ (.cons_cons _ (.cons_cons _ (.cons_cons _ (.cons_cons _ (.cons_cons _ (.slnil)))))))), Int.le_refl _, by omega⟩ ?_
          clear F M
          rintro j φ ω ⟨F, M, hp8_0, hp8_1⟩
          refine wp_seq ?_
          refine wp_seq ?_
          -- region 18
          refine wp_region_lit ?_
          refine sq_pure F (wt0 rfl) (pu_move rfl (F.ev rfl)) rfl rfl ?_; clear F; intro φ F
          refine sq_pure F (wt0 rfl) (pu_field rfl (F.ev rfl) fo24_0) rfl rfl ?_; clear F; intro φ F
          refine sq_rd F (wt0 rfl) (ld_cell rfl (F.ev rfl) one3 (M.rd (i := 4) rfl) rfl) rfl rfl ?_; clear F; intro φ F
          refine sq_pure F (wt0 rfl) (pu_lss rfl (F.ev rfl) (F.ev rfl)) rfl rfl ?_; clear F; intro φ F
          refine nx ?_
          cases hs9 : (decide (j < n))
          · rw [hs9] at F
            have hs9i := of_decide_eq_false hs9
            refine wp_cond_false (F.ev rfl) ?_
            refine wp_exit ?_
            refine nxe ?_
            refine nxe ?_
            refine nxm ?_
            refine nxb ?_
            refine nxq ?_
            -- region 16
            refine wp_region_lit ?_
            refine sq_pure F (wt0 rfl) (pu_move rfl (F.ev rfl)) rfl rfl ?_; clear F; intro φ F
            refine sq_pure F (wt0 rfl) (pu_add rfl (F.ev rfl) (evk) (by omega) (by omega)) rfl rfl ?_; clear F; intro φ F
            refine sq_pure F (wt0 rfl) (pu_assign rfl (F.ev rfl)) rfl rfl ?_; clear F; intro φ F
            refine wpList_nil ?_
            exact ⟨i + 1, by omega, ((((((F.nil.cons (F.get (k := 13) rfl)).cons (F.get (k := 9) rfl)).cons (F.get (k := 6) rfl)).cons (F.get (k := 5) rfl)).cons (F.get (k := 3) rfl)).cons (F.get (k := 2) rfl)), (M.sub (.cons_cons _ (.cons_cons _ (.cons_cons _ (.cons_cons _ (.cons_cons _ (.cons_cons _ (.slnil)))))))), by omega, by omega⟩
          · rw [hs9] at F
            have hs9i := of_decide_eq_true hs9
            refine wp_cond_true (F.ev rfl) ?_
            refine wp_skip ?_
            refine nxq ?_
            refine wp_seq ?_
            refine wp_block ?_
            refine wp_seq ?_
            have hx1 := hvva i.toNat (by omega)
            have hy1 := hrowa i.toNat (by omega)
            have hw1 := h64a i.toNat j.toNat (by omega)
            -- region 20
            refine wp_region_lit ?_
            refine sq_pure F (wt0 rfl) (pu_assign rfl (evk)) rfl rfl ?_; clear F; intro φ F
            refine nx ?_
            refine wp_block ?_
            refine lp (σ := Int) (fun m φ' w' => Fr φ' 176 [(2, .pointer (some ⟨g1, 0, none⟩)), (3, .pointer (some ⟨g2, 0, none⟩)), (5, .bool true), (6, c1), (9, c6), (13, .int .i64 i), (14, .int .i64 j), (15, .int .i64 m)] ∧ Mm [] w w' [.own (fp3 c6 rs6 vss6 (cloT (E ++ [ed]) n.toNat n.toNat)) (Rd3 c6 rs6 vss6 (cloT (E ++ [ed]) n.toNat n.toNat)), .blk g3 24 #[.int .i64 n, v5], .own (fp3 c1 rs1 vss1 (cloT E n.toNat n.toNat)) (Rd3 c1 rs1 vss1 (cloT E n.toNat n.toNat)), .blk g2 40 #[.int .i64 ed.f, .int .i64 ed.t, .int .i64 ed.p.e, .int .i64 ed.p.r], .blk g1 24 #[.int .i64 n, ev], .arg 4 ev E.length (cG E)] ∧ (0 ≤ m) ∧ (m ≤ (((atR (at3 (cloT E n.toNat n.toNat) i.toNat) j.toNat).length : Nat) : Int))) (fun m => ((((atR (at3 (cloT E n.toNat n.toNat) i.toNat) j.toNat).length : Nat) : Int) - m).toNat) (0) ⟨((((((((F.nil.cons (F.get (k := 15) rfl)).cons (F.get (k := 14) rfl)).cons (F.get (k := 13) rfl)).cons (F.get (k := 9) rfl)).cons (F.get (k := 6) rfl)).cons (F.get (k := 5) rfl)).cons (F.get (k := 3) rfl)).cons (F.get (k := 2) rfl)), (M.sub (.cons_cons _ (.cons_cons _ (.cons_cons _ (.cons_cons _ (.cons_cons _ (.cons_cons _ (.slnil)))))))), Int.le_refl _, by omega⟩ ?_
            clear F M
            rintro m φ ω ⟨F, M, hp10_0, hp10_1⟩
            refine wp_seq ?_
            refine wp_seq ?_
            -- region 21
            refine wp_region_lit ?_
            refine sq_pure F (wt0 rfl) (pu_move rfl (F.ev rfl)) rfl rfl ?_; clear F; intro φ F
            refine sq_pure F (wt0 rfl) (pu_move rfl (F.ev rfl)) rfl rfl ?_; clear F; intro φ F
            refine sq_pure F (wt0 rfl) (pu_move rfl (F.ev rfl)) rfl rfl ?_; clear F; intro φ F
            refine sq_pure F (wt0 rfl) (pu_ix rfl (F.ev rfl) (F.ev rfl) sl32 (Rd3.top (M.pv (i := 2) rfl)) (by omega) (by omega)) rfl rfl ?_; clear F; intro φ F
            refine sq_rd F (wt0 rfl) (ld_el1 rfl (F.ev rfl) one45 (fun _ e => e ▸ (Rd3.top (M.pv (i := 2) rfl))) (by omega) (cV_at (L := rs1) (by first | omega | (simp; done) | (simp; omega)))) rfl rfl ?_; clear F; intro φ F
            refine sq_pure F (wt0 rfl) (pu_move rfl (F.ev rfl)) rfl rfl ?_; clear F; intro φ F
            refine sq_pure F (wt0 rfl) (pu_ix rfl (F.ev rfl) (F.ev rfl) sl45 (In3.row (Rd3.inn (M.pv (i := 2) rfl)) i.toNat (by first | omega | assumption)) (by omega) (by omega)) rfl rfl ?_; clear F; intro φ F
            refine sq_rd F (wt0 rfl) (ld_el1 rfl (F.ev rfl) one44 (fun _ e => e ▸ (In3.row (Rd3.inn (M.pv (i := 2) rfl)) i.toNat (by first | omega | assumption))) (by omega) (cV_at (L := (atW vss1 i.toNat)) (by first | omega | (simp; done) | (simp; omega)))) rfl rfl ?_; clear F; intro φ F
            refine sq_pure F (wt0 rfl) (pu_len rfl (F.ev rfl) sl44 (In3.one (Rd3.inn (M.pv (i := 2) rfl)) i.toNat j.toNat (by first | omega | assumption) (by first | omega | assumption))) rfl rfl ?_; clear F; intro φ F
            refine sq_pure F (wt0 rfl) (pu_lss rfl (F.ev rfl) (F.ev rfl)) rfl rfl ?_; clear F; intro φ F
            refine nx ?_
            cases hs11 : (decide (m < (((atR (at3 (cloT E n.toNat n.toNat) i.toNat) j.toNat).length : Nat) : Int)))
            · rw [hs11] at F
              have hs11i := of_decide_eq_false hs11
              refine wp_cond_false (F.ev rfl) ?_
              refine wp_exit ?_
              refine nxe ?_
              refine nxe ?_
              refine nxm ?_
              refine nxb ?_
              refine nxq ?_
              -- region 19
              refine wp_region_lit ?_
              refine sq_pure F (wt0 rfl) (pu_move rfl (F.ev rfl)) rfl rfl ?_; clear F; intro φ F
              refine sq_pure F (wt0 rfl) (pu_add rfl (F.ev rfl) (evk) (by omega) (by omega)) rfl rfl ?_; clear F; intro φ F
              refine sq_pure F (wt0 rfl) (pu_assign rfl (F.ev rfl)) rfl rfl ?_; clear F; intro φ F
              refine wpList_nil ?_
              exact ⟨j + 1, by omega, (((((((F.nil.cons (F.get (k := 14) rfl)).cons (F.get (k := 13) rfl)).cons (F.get (k := 9) rfl)).cons (F.get (k := 6) rfl)).cons (F.get (k := 5) rfl)).cons (F.get (k := 3) rfl)).cons (F.get (k := 2) rfl)), (M.sub (.cons_cons _ (.cons_cons _ (.cons_cons _ (.cons_cons _ (.cons_cons _ (.cons_cons _ (.slnil)))))))), by omega, by omega⟩
            · rw [hs11] at F
              have hs11i := of_decide_eq_true hs11
              refine wp_cond_true (F.ev rfl) ?_
              refine wp_skip ?_
              refine nxq ?_
              refine wp_seq ?_
              refine wp_block ?_
              refine wp_seq ?_
              have hx2 := hvvb i.toNat (by omega)
              have hy2 := hrowb i.toNat (by omega)
              have hw2 := h64b i.toNat j.toNat (by omega)
              have hcv : covB (atR (at3 (cloT (E ++ [ed]) n.toNat n.toNat) i.toNat) j.toNat) (atS (atR (at3 (cloT E n.toNat n.toNat) i.toNat) j.toNat) m.toNat) = true := moreg_cov hFa hFb (by omega) (by omega) (atS_mem (by omega))
              -- region 23
              refine rg_quiet M mixedOK (by kernel_rfl) ?_
              refine qt_pure F (wt0 rfl) (pu_move rfl (F.ev rfl)) rfl rfl ?_; clear F; intro φ F
              refine qt_pure F (wt0 rfl) (pu_move rfl (F.ev rfl)) rfl rfl ?_; clear F; intro φ F
              refine qt_pure F (wt0 rfl) (pu_ix rfl (F.ev rfl) (F.ev rfl) sl32 (Rd3.top (M.pv (i := 0) rfl)) (by omega) (by omega)) rfl rfl ?_; clear F; intro φ F
              refine qt_rd F (wt0 rfl) (ld_el1 rfl (F.ev rfl) one45 (fun _ h => RdV.below (Rd3.top (M.pv (i := 0) rfl)) h) (by omega) (cV_at (L := rs6) (by first | omega | (simp; done) | (simp; omega)))) rfl rfl ?_; clear F; intro φ F
              refine qt_pure F (wt0 rfl) (pu_move rfl (F.ev rfl)) rfl rfl ?_; clear F; intro φ F
              refine qt_pure F (wt0 rfl) (pu_ix rfl (F.ev rfl) (F.ev rfl) sl45 (In3.row (Rd3.inn (M.pv (i := 0) rfl)) i.toNat (by first | omega | assumption)) (by omega) (by omega)) rfl rfl ?_; clear F; intro φ F
              refine qt_rd F (wt0 rfl) (ld_el1 rfl (F.ev rfl) one44 (fun _ h => RdV.below (In3.row (Rd3.inn (M.pv (i := 0) rfl)) i.toNat (by first | omega | assumption)) h) (by omega) (cV_at (L := (atW vss6 i.toNat)) (by first | omega | (simp; done) | (simp; omega)))) rfl rfl ?_; clear F; intro φ F
              refine qt_pure F (wt0 rfl) (pu_move rfl (F.ev rfl)) rfl rfl ?_; clear F; intro φ F
              refine qt_pure F (wt0 rfl) (pu_move rfl (F.ev rfl)) rfl rfl ?_; clear F; intro φ F
              refine qt_pure F (wt0 rfl) (pu_ix rfl (F.ev rfl) (F.ev rfl) sl32 (Rd3.top (M.pv (i := 2) rfl)) (by omega) (by omega)) rfl rfl ?_; clear F; intro φ F
              refine qt_rd F (wt0 rfl) (ld_el1 rfl (F.ev rfl) one45 (fun _ h => RdV.below (Rd3.top (M.pv (i := 2) rfl)) h) (by omega) (cV_at (L := rs1) (by first | omega | (simp; done) | (simp; omega)))) rfl rfl ?_; clear F; intro φ F
              refine qt_pure F (wt0 rfl) (pu_move rfl (F.ev rfl)) rfl rfl ?_; clear F; intro φ F
              refine qt_pure F (wt0 rfl) (pu_ix rfl (F.ev rfl) (F.ev rfl) sl45 (In3.row (Rd3.inn (M.pv (i := 2) rfl)) i.toNat (by first | omega | assumption)) (by omega) (by omega)) rfl rfl ?_; clear F; intro φ F
              refine qt_rd F (wt0 rfl) (ld_el1 rfl (F.ev rfl) one44 (fun _ h => RdV.below (In3.row (Rd3.inn (M.pv (i := 2) rfl)) i.toNat (by first | omega | assumption)) h) (by omega) (cV_at (L := (atW vss1 i.toNat)) (by first | omega | (simp; done) | (simp; omega)))) rfl rfl ?_; clear F; intro φ F
              refine qt_pure F (wt0 rfl) (pu_move rfl (F.ev rfl)) rfl rfl ?_; clear F; intro φ F
              refine qt_pure F (wt0 rfl) (pu_ix rfl (F.ev rfl) (F.ev rfl) sl44 (In3.one (Rd3.inn (M.pv (i := 2) rfl)) i.toNat j.toNat (by first | omega | assumption) (by first | omega | assumption)) (by omega) (by omega)) rfl rfl ?_; clear F; intro φ F
              refine qt_rd F (wt0 rfl) (ld_el rfl (F.ev rfl) agg38 (fun _ h => RdV.below (In3.one (Rd3.inn (M.pv (i := 2) rfl)) i.toNat j.toNat (by first | omega | assumption) (by first | omega | assumption)) h) (by omega) (cS_at (by first | omega | (simp; done) | (simp; omega))) rfl) rfl rfl ?_; clear F; intro φ F
              refine qt_call F (wt0 rfl) rfl en20 (evc (F.ev rfl) (evc (F.ev rfl) evn)) (fun w' h => calls_below h (gcov_any (atR (at3 (cloT (E ++ [ed]) n.toNat n.toNat) i.toNat) j.toNat) (atS (atR (at3 (cloT E n.toNat n.toNat) i.toNat) j.toNat) m.toNat) _ w' (RdV.below (In3.one (Rd3.inn (M.pv (i := 0) rfl)) i.toNat j.toNat (by first | omega | assumption) (by first | omega | assumption)) h) (by first | omega | (simp; done) | (simp; omega) | (refine Nat.le_trans (minL_len _) ?_; omega) | (refine Nat.le_trans (eachL_len _ _) ?_; omega)))) rfl rfl ?_; clear F; intro φ F
              rw [hcv] at F
              refine qt_pure F (wt0 rfl) (pu_assign rfl (F.ev rfl)) rfl rfl ?_; clear F; intro φ F
              refine wpQuiet_nil ?_
              clear M; intro ω M
              refine nxq ?_
              refine wp_seq ?_
              have hah : 0 < m → (atS (atR (at3 (cloT E n.toNat n.toNat) i.toNat) j.toNat) (m - 1).toNat).aheadB (atS (atR (at3 (cloT E n.toNat n.toNat) i.toNat) j.toNat) m.toNat) = true := fun h0 => clo_ahead (by omega) (by omega) h0 (by omega)
              -- region 24
              refine rg_quiet M mixedOK (by kernel_rfl) ?_
              refine qt_pure F (wt0 rfl) (pu_move rfl (F.ev rfl)) rfl rfl ?_; clear F; intro φ F
              refine qt_pure F (wt0 rfl) (pu_not rfl (F.ev rfl)) rfl rfl ?_; clear F; intro φ F
              rw [show (!true) = false from rfl] at F
              refine qt_pure F (wt0 rfl) (pu_move rfl (F.ev rfl)) rfl rfl ?_; clear F; intro φ F
              refine qt_pure F (wt1 F rfl rfl rfl rfl rfl) (pu_move rfl (F.ev rfl)) rfl rfl ?_; clear F; intro φ F
              refine qt_pure F (wt1 F rfl rfl rfl rfl rfl) (pu_gtr rfl (F.ev rfl) (evk)) rfl rfl ?_; clear F; intro φ F
              refine qt_pure F (wt1 F rfl rfl rfl rfl rfl) (pu_move rfl (F.ev rfl)) rfl rfl ?_; clear F; intro φ F
              cases hs12 : (decide (0 < m))
              · rw [hs12] at F
                have hs12i := of_decide_eq_false hs12
                refine qt_skip F (wtn F rfl rfl rfl rfl rfl) rfl rfl ?_; clear F; intro φ F
                refine qt_skip F (wtn F rfl rfl rfl rfl rfl) rfl rfl ?_; clear F; intro φ F
                refine qt_skip F (wtn F rfl rfl rfl rfl rfl) rfl rfl ?_; clear F; intro φ F
                refine qt_skip F (wtn F rfl rfl rfl rfl rfl) rfl rfl ?_; clear F; intro φ F
                refine qt_skip F (wtn F rfl rfl rfl rfl rfl) rfl rfl ?_; clear F; intro φ F
                refine qt_skip F (wtn F rfl rfl rfl rfl rfl) rfl rfl ?_; clear F; intro φ F
                refine qt_skip F (wtn F rfl rfl rfl rfl rfl) rfl rfl ?_; clear F; intro φ F
                refine qt_skip F (wtn F rfl rfl rfl rfl rfl) rfl rfl ?_; clear F; intro φ F
                refine qt_skip F (wtn F rfl rfl rfl rfl rfl) rfl rfl ?_; clear F; intro φ F
                refine qt_skip F (wtn F rfl rfl rfl rfl rfl) rfl rfl ?_; clear F; intro φ F
                refine qt_skip F (wtn F rfl rfl rfl rfl rfl) rfl rfl ?_; clear F; intro φ F
                refine qt_skip F (wtn F rfl rfl rfl rfl rfl) rfl rfl ?_; clear F; intro φ F
                refine qt_skip F (wtn F rfl rfl rfl rfl rfl) rfl rfl ?_; clear F; intro φ F
                refine qt_skip F (wtn F rfl rfl rfl rfl rfl) rfl rfl ?_; clear F; intro φ F
                refine qt_skip F (wtn F rfl rfl rfl rfl rfl) rfl rfl ?_; clear F; intro φ F
                refine qt_skip F (wtn F rfl rfl rfl rfl rfl) rfl rfl ?_; clear F; intro φ F
                refine qt_skip F (wtn F rfl rfl rfl rfl rfl) rfl rfl ?_; clear F; intro φ F
                refine qt_skip F (wtn F rfl rfl rfl rfl rfl) rfl rfl ?_; clear F; intro φ F
                refine qt_skip F (wtn F rfl rfl rfl rfl rfl) rfl rfl ?_; clear F; intro φ F
                refine qt_skip F (wtn F rfl rfl rfl rfl rfl) rfl rfl ?_; clear F; intro φ F
                refine qt_skip F (wtn F rfl rfl rfl rfl rfl) rfl rfl ?_; clear F; intro φ F
                refine qt_skip F (wtn F rfl rfl rfl rfl rfl) rfl rfl ?_; clear F; intro φ F
                refine qt_skip F (wtn F rfl rfl rfl rfl rfl) rfl rfl ?_; clear F; intro φ F
                refine qt_skip F (wtn F rfl rfl rfl rfl rfl) rfl rfl ?_; clear F; intro φ F
                refine qt_skip F (wtn F rfl rfl rfl rfl rfl) rfl rfl ?_; clear F; intro φ F
                refine qt_skip F (wtn F rfl rfl rfl rfl rfl) rfl rfl ?_; clear F; intro φ F
                refine qt_skip F (wtn F rfl rfl rfl rfl rfl) rfl rfl ?_; clear F; intro φ F
                refine qt_skip F (wtn F rfl rfl rfl rfl rfl) rfl rfl ?_; clear F; intro φ F
                refine qt_skip F (wtn F rfl rfl rfl rfl rfl) rfl rfl ?_; clear F; intro φ F
                refine qt_skip F (wtn F rfl rfl rfl rfl rfl) rfl rfl ?_; clear F; intro φ F
                refine qt_skip F (wtn F rfl rfl rfl rfl rfl) rfl rfl ?_; clear F; intro φ F
                refine qt_skip F (wtn F rfl rfl rfl rfl rfl) rfl rfl ?_; clear F; intro φ F
                refine qt_skip F (wtn F rfl rfl rfl rfl rfl) rfl rfl ?_; clear F; intro φ F
                refine qt_skip F (wtn F rfl rfl rfl rfl rfl) rfl rfl ?_; clear F; intro φ F
                refine qt_skip F (wtn F rfl rfl rfl rfl rfl) rfl rfl ?_; clear F; intro φ F
                refine qt_skip F (wtn F rfl rfl rfl rfl rfl) rfl rfl ?_; clear F; intro φ F
                refine qt_skip F (wtn F rfl rfl rfl rfl rfl) rfl rfl ?_; clear F; intro φ F
                refine qt_skip F (wtn F rfl rfl rfl rfl rfl) rfl rfl ?_; clear F; intro φ F
                refine qt_skip F (wtn F rfl rfl rfl rfl rfl) rfl rfl ?_; clear F; intro φ F
                refine qt_skip F (wtn F rfl rfl rfl rfl rfl) rfl rfl ?_; clear F; intro φ F
                refine qt_skip F (wtn F rfl rfl rfl rfl rfl) rfl rfl ?_; clear F; intro φ F
                refine qt_skip F (wtn F rfl rfl rfl rfl rfl) rfl rfl ?_; clear F; intro φ F
                refine qt_skip F (wtn F rfl rfl rfl rfl rfl) rfl rfl ?_; clear F; intro φ F
                refine qt_skip F (wtn F rfl rfl rfl rfl rfl) rfl rfl ?_; clear F; intro φ F
                refine qt_skip F (wtn F rfl rfl rfl rfl rfl) rfl rfl ?_; clear F; intro φ F
                refine qt_skip F (wtn F rfl rfl rfl rfl rfl) rfl rfl ?_; clear F; intro φ F
                refine qt_skip F (wtn F rfl rfl rfl rfl rfl) rfl rfl ?_; clear F; intro φ F
                refine qt_skip F (wtn F rfl rfl rfl rfl rfl) rfl rfl ?_; clear F; intro φ F
                refine qt_skip F (wtn F rfl rfl rfl rfl rfl) rfl rfl ?_; clear F; intro φ F
                refine qt_skip F (wtn F rfl rfl rfl rfl rfl) rfl rfl ?_; clear F; intro φ F
                refine qt_pure F (wt1 F rfl rfl rfl rfl rfl) (pu_pickf rfl (F.ev rfl) (evk)) rfl rfl ?_; clear F; intro φ F
                refine qt_pure F (wt0 rfl) (pu_pickf rfl (F.ev rfl) (F.ev rfl)) rfl rfl ?_; clear F; intro φ F
                refine wpQuiet_nil ?_
                clear M; intro ω M
                refine nxq ?_
                refine wp_cond_false (F.ev rfl) ?_
                refine wp_skip ?_
                refine nxb ?_
                refine nxq ?_
                -- region 22
                refine wp_region_lit ?_
                refine sq_pure F (wt0 rfl) (pu_move rfl (F.ev rfl)) rfl rfl ?_; clear F; intro φ F
                refine sq_pure F (wt0 rfl) (pu_add rfl (F.ev rfl) (evk) (by omega) (by omega)) rfl rfl ?_; clear F; intro φ F
                refine sq_pure F (wt0 rfl) (pu_assign rfl (F.ev rfl)) rfl rfl ?_; clear F; intro φ F
                refine wpList_nil ?_
                exact ⟨m + 1, by omega, ((((((((F.nil.cons (F.get (k := 15) rfl)).cons (F.get (k := 14) rfl)).cons (F.get (k := 13) rfl)).cons (F.get (k := 9) rfl)).cons (F.get (k := 6) rfl)).cons (F.get (k := 5) rfl)).cons (F.get (k := 3) rfl)).cons (F.get (k := 2) rfl)), (M.sub (.cons_cons _ (.cons_cons _ (.cons_cons _ (.cons_cons _ (.cons_cons _ (.cons_cons _ (.slnil)))))))), by omega, by omega⟩
              · rw [hs12] at F
                have hs12i := of_decide_eq_true hs12
                refine qt_pure F (wt1 F rfl rfl rfl rfl rfl) (pu_move rfl (F.ev rfl)) rfl rfl ?_; clear F; intro φ F
                refine qt_pure F (wt1 F rfl rfl rfl rfl rfl) (pu_move rfl (F.ev rfl)) rfl rfl ?_; clear F; intro φ F
                refine qt_pure F (wt1 F rfl rfl rfl rfl rfl) (pu_ix rfl (F.ev rfl) (F.ev rfl) sl32 (Rd3.top (M.pv (i := 2) rfl)) (by omega) (by omega)) rfl rfl ?_; clear F; intro φ F
                refine qt_rd F (wt1 F rfl rfl rfl rfl rfl) (ld_el1 rfl (F.ev rfl) one45 (fun _ h => RdV.below (Rd3.top (M.pv (i := 2) rfl)) h) (by omega) (cV_at (L := rs1) (by first | omega | (simp; done) | (simp; omega)))) rfl rfl ?_; clear F; intro φ F
                refine qt_pure F (wt1 F rfl rfl rfl rfl rfl) (pu_move rfl (F.ev rfl)) rfl rfl ?_; clear F; intro φ F
                refine qt_pure F (wt1 F rfl rfl rfl rfl rfl) (pu_ix rfl (F.ev rfl) (F.ev rfl) sl45 (In3.row (Rd3.inn (M.pv (i := 2) rfl)) i.toNat (by first | omega | assumption)) (by omega) (by omega)) rfl rfl ?_; clear F; intro φ F
                refine qt_rd F (wt1 F rfl rfl rfl rfl rfl) (ld_el1 rfl (F.ev rfl) one44 (fun _ h => RdV.below (In3.row (Rd3.inn (M.pv (i := 2) rfl)) i.toNat (by first | omega | assumption)) h) (by omega) (cV_at (L := (atW vss1 i.toNat)) (by first | omega | (simp; done) | (simp; omega)))) rfl rfl ?_; clear F; intro φ F
                refine qt_pure F (wt1 F rfl rfl rfl rfl rfl) (pu_move rfl (F.ev rfl)) rfl rfl ?_; clear F; intro φ F
                refine qt_pure F (wt1 F rfl rfl rfl rfl rfl) (pu_sub rfl (F.ev rfl) (evk) (by omega) (by omega)) rfl rfl ?_; clear F; intro φ F
                refine qt_pure F (wt1 F rfl rfl rfl rfl rfl) (pu_ix rfl (F.ev rfl) (F.ev rfl) sl44 (In3.one (Rd3.inn (M.pv (i := 2) rfl)) i.toNat j.toNat (by first | omega | assumption) (by first | omega | assumption)) (by omega) (by omega)) rfl rfl ?_; clear F; intro φ F
                refine qt_pure F (wt1 F rfl rfl rfl rfl rfl) (pu_field rfl (F.ev rfl) fo38_0) rfl rfl ?_; clear F; intro φ F
                refine qt_rd F (wt1 F rfl rfl rfl rfl rfl) (ld_elP1 (q := 0) (k := (m - 1).toNat * 2) rfl (F.ev rfl) one3 (fun _ h => RdV.below (In3.one (Rd3.inn (M.pv (i := 2) rfl)) i.toNat j.toNat (by first | omega | assumption) (by first | omega | assumption)) h) (by omega) (cS_at (by first | omega | (simp; done) | (simp; omega))) rfl) rfl rfl ?_; clear F; intro φ F
                refine qt_pure F (wt1 F rfl rfl rfl rfl rfl) (pu_move rfl (F.ev rfl)) rfl rfl ?_; clear F; intro φ F
                refine qt_pure F (wt1 F rfl rfl rfl rfl rfl) (pu_move rfl (F.ev rfl)) rfl rfl ?_; clear F; intro φ F
                refine qt_pure F (wt1 F rfl rfl rfl rfl rfl) (pu_ix rfl (F.ev rfl) (F.ev rfl) sl32 (Rd3.top (M.pv (i := 2) rfl)) (by omega) (by omega)) rfl rfl ?_; clear F; intro φ F
                refine qt_rd F (wt1 F rfl rfl rfl rfl rfl) (ld_el1 rfl (F.ev rfl) one45 (fun _ h => RdV.below (Rd3.top (M.pv (i := 2) rfl)) h) (by omega) (cV_at (L := rs1) (by first | omega | (simp; done) | (simp; omega)))) rfl rfl ?_; clear F; intro φ F
                refine qt_pure F (wt1 F rfl rfl rfl rfl rfl) (pu_move rfl (F.ev rfl)) rfl rfl ?_; clear F; intro φ F
                refine qt_pure F (wt1 F rfl rfl rfl rfl rfl) (pu_ix rfl (F.ev rfl) (F.ev rfl) sl45 (In3.row (Rd3.inn (M.pv (i := 2) rfl)) i.toNat (by first | omega | assumption)) (by omega) (by omega)) rfl rfl ?_; clear F; intro φ F
                refine qt_rd F (wt1 F rfl rfl rfl rfl rfl) (ld_el1 rfl (F.ev rfl) one44 (fun _ h => RdV.below (In3.row (Rd3.inn (M.pv (i := 2) rfl)) i.toNat (by first | omega | assumption)) h) (by omega) (cV_at (L := (atW vss1 i.toNat)) (by first | omega | (simp; done) | (simp; omega)))) rfl rfl ?_; clear F; intro φ F
                refine qt_pure F (wt1 F rfl rfl rfl rfl rfl) (pu_move rfl (F.ev rfl)) rfl rfl ?_; clear F; intro φ F
                refine qt_pure F (wt1 F rfl rfl rfl rfl rfl) (pu_sub rfl (F.ev rfl) (evk) (by omega) (by omega)) rfl rfl ?_; clear F; intro φ F
                refine qt_pure F (wt1 F rfl rfl rfl rfl rfl) (pu_ix rfl (F.ev rfl) (F.ev rfl) sl44 (In3.one (Rd3.inn (M.pv (i := 2) rfl)) i.toNat j.toNat (by first | omega | assumption) (by first | omega | assumption)) (by omega) (by omega)) rfl rfl ?_; clear F; intro φ F
                refine qt_pure F (wt1 F rfl rfl rfl rfl rfl) (pu_field rfl (F.ev rfl) fo38_1) rfl rfl ?_; clear F; intro φ F
                refine qt_rd F (wt1 F rfl rfl rfl rfl rfl) (ld_elP1 (q := 1) (k := (m - 1).toNat * 2) rfl (F.ev rfl) one3 (fun _ h => RdV.below (In3.one (Rd3.inn (M.pv (i := 2) rfl)) i.toNat j.toNat (by first | omega | assumption) (by first | omega | assumption)) h) (by omega) (cS_at (by first | omega | (simp; done) | (simp; omega))) rfl) rfl rfl ?_; clear F; intro φ F
                refine qt_pure F (wt1 F rfl rfl rfl rfl rfl) (bu50_0_1 rfl (F.ev rfl) (F.ev rfl)) rfl rfl ?_; clear F; intro φ F
                refine qt_pure F (wt1 F rfl rfl rfl rfl rfl) (pu_move rfl (F.ev rfl)) rfl rfl ?_; clear F; intro φ F
                refine qt_pure F (wt1 F rfl rfl rfl rfl rfl) (pu_move rfl (F.ev rfl)) rfl rfl ?_; clear F; intro φ F
                refine qt_pure F (wt1 F rfl rfl rfl rfl rfl) (pu_ix rfl (F.ev rfl) (F.ev rfl) sl32 (Rd3.top (M.pv (i := 2) rfl)) (by omega) (by omega)) rfl rfl ?_; clear F; intro φ F
                refine qt_rd F (wt1 F rfl rfl rfl rfl rfl) (ld_el1 rfl (F.ev rfl) one45 (fun _ h => RdV.below (Rd3.top (M.pv (i := 2) rfl)) h) (by omega) (cV_at (L := rs1) (by first | omega | (simp; done) | (simp; omega)))) rfl rfl ?_; clear F; intro φ F
                refine qt_pure F (wt1 F rfl rfl rfl rfl rfl) (pu_move rfl (F.ev rfl)) rfl rfl ?_; clear F; intro φ F
                refine qt_pure F (wt1 F rfl rfl rfl rfl rfl) (pu_ix rfl (F.ev rfl) (F.ev rfl) sl45 (In3.row (Rd3.inn (M.pv (i := 2) rfl)) i.toNat (by first | omega | assumption)) (by omega) (by omega)) rfl rfl ?_; clear F; intro φ F
                refine qt_rd F (wt1 F rfl rfl rfl rfl rfl) (ld_el1 rfl (F.ev rfl) one44 (fun _ h => RdV.below (In3.row (Rd3.inn (M.pv (i := 2) rfl)) i.toNat (by first | omega | assumption)) h) (by omega) (cV_at (L := (atW vss1 i.toNat)) (by first | omega | (simp; done) | (simp; omega)))) rfl rfl ?_; clear F; intro φ F
                refine qt_pure F (wt1 F rfl rfl rfl rfl rfl) (pu_move rfl (F.ev rfl)) rfl rfl ?_; clear F; intro φ F
                refine qt_pure F (wt1 F rfl rfl rfl rfl rfl) (pu_ix rfl (F.ev rfl) (F.ev rfl) sl44 (In3.one (Rd3.inn (M.pv (i := 2) rfl)) i.toNat j.toNat (by first | omega | assumption) (by first | omega | assumption)) (by omega) (by omega)) rfl rfl ?_; clear F; intro φ F
                refine qt_pure F (wt1 F rfl rfl rfl rfl rfl) (pu_field rfl (F.ev rfl) fo38_0) rfl rfl ?_; clear F; intro φ F
                refine qt_rd F (wt1 F rfl rfl rfl rfl rfl) (ld_elP1 (q := 0) (k := m.toNat * 2) rfl (F.ev rfl) one3 (fun _ h => RdV.below (In3.one (Rd3.inn (M.pv (i := 2) rfl)) i.toNat j.toNat (by first | omega | assumption) (by first | omega | assumption)) h) (by omega) (cS_at (by first | omega | (simp; done) | (simp; omega))) rfl) rfl rfl ?_; clear F; intro φ F
                refine qt_pure F (wt1 F rfl rfl rfl rfl rfl) (pu_move rfl (F.ev rfl)) rfl rfl ?_; clear F; intro φ F
                refine qt_pure F (wt1 F rfl rfl rfl rfl rfl) (pu_move rfl (F.ev rfl)) rfl rfl ?_; clear F; intro φ F
                refine qt_pure F (wt1 F rfl rfl rfl rfl rfl) (pu_ix rfl (F.ev rfl) (F.ev rfl) sl32 (Rd3.top (M.pv (i := 2) rfl)) (by omega) (by omega)) rfl rfl ?_; clear F; intro φ F
                refine qt_rd F (wt1 F rfl rfl rfl rfl rfl) (ld_el1 rfl (F.ev rfl) one45 (fun _ h => RdV.below (Rd3.top (M.pv (i := 2) rfl)) h) (by omega) (cV_at (L := rs1) (by first | omega | (simp; done) | (simp; omega)))) rfl rfl ?_; clear F; intro φ F
                refine qt_pure F (wt1 F rfl rfl rfl rfl rfl) (pu_move rfl (F.ev rfl)) rfl rfl ?_; clear F; intro φ F
                refine qt_pure F (wt1 F rfl rfl rfl rfl rfl) (pu_ix rfl (F.ev rfl) (F.ev rfl) sl45 (In3.row (Rd3.inn (M.pv (i := 2) rfl)) i.toNat (by first | omega | assumption)) (by omega) (by omega)) rfl rfl ?_; clear F; intro φ F
                refine qt_rd F (wt1 F rfl rfl rfl rfl rfl) (ld_el1 rfl (F.ev rfl) one44 (fun _ h => RdV.below (In3.row (Rd3.inn (M.pv (i := 2) rfl)) i.toNat (by first | omega | assumption)) h) (by omega) (cV_at (L := (atW vss1 i.toNat)) (by first | omega | (simp; done) | (simp; omega)))) rfl rfl ?_; clear F; intro φ F
                refine qt_pure F (wt1 F rfl rfl rfl rfl rfl) (pu_move rfl (F.ev rfl)) rfl rfl ?_; clear F; intro φ F
                refine qt_pure F (wt1 F rfl rfl rfl rfl rfl) (pu_ix rfl (F.ev rfl) (F.ev rfl) sl44 (In3.one (Rd3.inn (M.pv (i := 2) rfl)) i.toNat j.toNat (by first | omega | assumption) (by first | omega | assumption)) (by omega) (by omega)) rfl rfl ?_; clear F; intro φ F
                refine qt_pure F (wt1 F rfl rfl rfl rfl rfl) (pu_field rfl (F.ev rfl) fo38_1) rfl rfl ?_; clear F; intro φ F
                refine qt_rd F (wt1 F rfl rfl rfl rfl rfl) (ld_elP1 (q := 1) (k := m.toNat * 2) rfl (F.ev rfl) one3 (fun _ h => RdV.below (In3.one (Rd3.inn (M.pv (i := 2) rfl)) i.toNat j.toNat (by first | omega | assumption) (by first | omega | assumption)) h) (by omega) (cS_at (by first | omega | (simp; done) | (simp; omega))) rfl) rfl rfl ?_; clear F; intro φ F
                refine qt_pure F (wt1 F rfl rfl rfl rfl rfl) (bu50_0_1 rfl (F.ev rfl) (F.ev rfl)) rfl rfl ?_; clear F; intro φ F
                refine qt_call F (wt1 F rfl rfl rfl rfl rfl) rfl en22 (evc (F.ev rfl) (evc (F.ev rfl) evn)) (fun w' h => calls_below h (rahead_any (atS (atR (at3 (cloT E n.toNat n.toNat) i.toNat) j.toNat) ((m - 1).toNat)) (atS (atR (at3 (cloT E n.toNat n.toNat) i.toNat) j.toNat) m.toNat) w')) rfl rfl ?_; clear F; intro φ F
                cases hs13 : ((atS (atR (at3 (cloT E n.toNat n.toNat) i.toNat) j.toNat) ((m - 1).toNat)).aheadB (atS (atR (at3 (cloT E n.toNat n.toNat) i.toNat) j.toNat) m.toNat))
                · rw [hs13] at F
                  refine qt_pure F (wt1 F rfl rfl rfl rfl rfl) (pu_not rfl (F.ev rfl)) rfl rfl ?_; clear F; intro φ F
                  rw [show (!false) = true from rfl] at F
                  refine qt_pure F (wt1 F rfl rfl rfl rfl rfl) (pu_pickt rfl (F.ev rfl) (F.ev rfl)) rfl rfl ?_; clear F; intro φ F
                  refine qt_pure F (wt0 rfl) (pu_pickf rfl (F.ev rfl) (F.ev rfl)) rfl rfl ?_; clear F; intro φ F
                  refine wpQuiet_nil ?_
                  clear M; intro ω M
                  refine nxq ?_
                  refine wp_cond_true (F.ev rfl) ?_
                  refine wp_seq ?_
                  -- region 25
                  refine wp_region_lit ?_
                  refine sq_pure F (wt0 rfl) (pu_assign rfl (evk)) rfl rfl ?_; clear F; intro φ F
                  refine nx ?_
                  refine wp_ret ?_
                  refine nxrb ?_
                  refine nxr ?_
                  refine nxr ?_
                  refine nxrb ?_
                  refine nxrb ?_
                  refine nxr ?_
                  refine nxr ?_
                  refine nxrb ?_
                  refine nxrb ?_
                  refine nxr ?_
                  refine nxr ?_
                  refine nxrb ?_
                  refine nxr ?_
                  refine rt_tmp F rfl rfl ?_
                  exfalso; clear F M; first | omega | (simp_all; done) | (simp_all; omega)
                · rw [hs13] at F
                  refine qt_pure F (wt1 F rfl rfl rfl rfl rfl) (pu_not rfl (F.ev rfl)) rfl rfl ?_; clear F; intro φ F
                  rw [show (!true) = false from rfl] at F
                  refine qt_pure F (wt1 F rfl rfl rfl rfl rfl) (pu_pickt rfl (F.ev rfl) (F.ev rfl)) rfl rfl ?_; clear F; intro φ F
                  refine qt_pure F (wt0 rfl) (pu_pickf rfl (F.ev rfl) (F.ev rfl)) rfl rfl ?_; clear F; intro φ F
                  refine wpQuiet_nil ?_
                  clear M; intro ω M
                  refine nxq ?_
                  refine wp_cond_false (F.ev rfl) ?_
                  refine wp_skip ?_
                  refine nxb ?_
                  refine nxq ?_
                  -- region 22
                  refine wp_region_lit ?_
                  refine sq_pure F (wt0 rfl) (pu_move rfl (F.ev rfl)) rfl rfl ?_; clear F; intro φ F
                  refine sq_pure F (wt0 rfl) (pu_add rfl (F.ev rfl) (evk) (by omega) (by omega)) rfl rfl ?_; clear F; intro φ F
                  refine sq_pure F (wt0 rfl) (pu_assign rfl (F.ev rfl)) rfl rfl ?_; clear F; intro φ F
                  refine wpList_nil ?_
                  exact ⟨m + 1, by omega, ((((((((F.nil.cons (F.get (k := 15) rfl)).cons (F.get (k := 14) rfl)).cons (F.get (k := 13) rfl)).cons (F.get (k := 9) rfl)).cons (F.get (k := 6) rfl)).cons (F.get (k := 5) rfl)).cons (F.get (k := 3) rfl)).cons (F.get (k := 2) rfl)), (M.sub (.cons_cons _ (.cons_cons _ (.cons_cons _ (.cons_cons _ (.cons_cons _ (.cons_cons _ (.slnil)))))))), by omega, by omega⟩
  · rw [hs1] at F
    have hs1i := of_decide_eq_true hs1
    refine wp_cond_true (F.ev rfl) ?_
    refine wp_seq ?_
    -- region 3
    refine wp_region_lit ?_
    refine sq_pure F (wt0 rfl) (pu_move rfl (F.ev rfl)) rfl rfl ?_; clear F; intro φ F
    refine sq_pure F (wt0 rfl) (pu_assign rfl (F.ev rfl)) rfl rfl ?_; clear F; intro φ F
    refine nx ?_
    refine wp_ret ?_
    refine nxr ?_
    refine rt_tmp F rfl rfl ?_
    exact ⟨rfl, M.bel⟩

end Go.Proofs.Ytbleefegobmboaa
