/- The reference of layer 3. Made by walks/ref03.py. -/
import Derived.Test.YtbleefegobmboaaSc
import Derived.Test.YtbleefegobmboaaSt
import Derived.Test.YtbleefegobmboaaRj
import Derived.Test.YtbleefegobmboaaAo
import Derived.Test.YtbleefegobmboaaEk
namespace Go.Proofs.Ytbleefegobmboaa
open Go.RowKit
set_option maxRecDepth 100000
set_option linter.unusedSimpArgs false
set_option linter.unusedVariables false

set_option maxHeartbeats 1000000 in
theorem has_any (L : List St) (t : St) (v : Value) (w : World) (hr : RdS w v L) (hlen : L.length ≤ 20000000) :
    Calls Try.prog 55 #[v, .agg #[.int .i64 t.e, .int .i64 t.r]] w fun e w' => e = .returned (.bool (decide (t ∈ L))) ∧ Below w.heap.size w w' := by
  refine enterF Try.func55 rfl 18 Try.ntmps55 [v, .agg #[.int .i64 t.e, .int .i64 t.r]] rfl [(0, v), (1, .agg #[.int .i64 t.e, .int .i64 t.r])] rfl ?_
  intro φ F
  have M := Mm.start [] w
  replace M := M.addArg (hr) (fun h_ => by first | (simp; done) | assumption | exact d3 h_ | (simp_all; done))
  refine wp_seq ?_
  -- region 0
  refine wp_region_lit ?_
  refine sq_box F M (wt0 rfl) rfl (F.ev rfl) (cs := #[.int .i64 t.e, .int .i64 t.r]) rfl rfl rfl ?_; clear F M; intro φ ω g1 F M
  refine sq_pure F (wt0 rfl) (pu_assign rfl (evk)) rfl rfl ?_; clear F; intro φ F
  refine nx ?_
  refine wp_seq ?_
  refine wp_seq ?_
  -- region 1
  refine wp_region_lit ?_
  refine sq_pure F (wt0 rfl) (pu_assign rfl (evk)) rfl rfl ?_; clear F; intro φ F
  refine nx ?_
  refine wp_block ?_
  refine lp (σ := Int) (fun i φ' w' => Fr φ' 18 [(0, v), (1, .agg #[.int .i64 t.e, .int .i64 t.r]), (3, .pointer (some ⟨g1, 0, none⟩)), (5, .int .i64 i)] ∧ Mm [] w w' [.blk g1 50 #[.int .i64 t.e, .int .i64 t.r], .arg 2 v L.length (cS L)] ∧ (0 ≤ i) ∧ (i ≤ (L.length : Int)) ∧ (∀ k, k < i.toNat → ¬ atS L k = t)) (fun i => ((L.length : Int) - i).toNat) (0) ⟨((((F.nil.cons (F.get (k := 5) rfl)).cons (F.get (k := 3) rfl)).cons (F.get (k := 1) rfl)).cons (F.get (k := 0) rfl)), M, Int.le_refl _, by omega, all_none⟩ ?_
  clear F M
  rintro i φ ω ⟨F, M, hp1_0, hp1_1, hp1_2⟩
  refine wp_seq ?_
  refine wp_seq ?_
  -- region 2
  refine wp_region_lit ?_
  refine sq_pure F (wt0 rfl) (pu_move rfl (F.ev rfl)) rfl rfl ?_; clear F; intro φ F
  refine sq_pure F (wt0 rfl) (pu_move rfl (F.ev rfl)) rfl rfl ?_; clear F; intro φ F
  refine sq_pure F (wt0 rfl) (pu_len rfl (F.ev rfl) sl67 (M.av (i := 1) rfl)) rfl rfl ?_; clear F; intro φ F
  refine sq_pure F (wt0 rfl) (pu_lss rfl (F.ev rfl) (F.ev rfl)) rfl rfl ?_; clear F; intro φ F
  refine nx ?_
  cases hs2 : (decide (i < ((L.length : Nat) : Int)))
  · rw [hs2] at F
    have hs2i := of_decide_eq_false hs2
    refine wp_cond_false (F.ev rfl) ?_
    refine wp_exit ?_
    refine nxe ?_
    refine nxe ?_
    refine nxm ?_
    refine nxq ?_
    refine wp_seq ?_
    -- region 6
    refine wp_region_lit ?_
    refine sq_pure F (wt0 rfl) (pu_assign rfl (evk)) rfl rfl ?_; clear F; intro φ F
    refine nx ?_
    refine wp_ret ?_
    refine rt_tmp F rfl rfl ?_
    refine ⟨?_, M.bel⟩
    rw [decide_eq_false (not_mem_of hp1_2 hs2i)]
  · rw [hs2] at F
    have hs2i := of_decide_eq_true hs2
    refine wp_cond_true (F.ev rfl) ?_
    refine wp_skip ?_
    refine nxq ?_
    refine wp_seq ?_
    refine wp_block ?_
    refine wp_seq ?_
    -- region 4
    refine rg_quiet M mixedOK (by kernel_rfl) ?_
    refine qt_pure F (wt0 rfl) (pu_move rfl (F.ev rfl)) rfl rfl ?_; clear F; intro φ F
    refine qt_pure F (wt0 rfl) (pu_move rfl (F.ev rfl)) rfl rfl ?_; clear F; intro φ F
    refine qt_pure F (wt0 rfl) (pu_ix rfl (F.ev rfl) (F.ev rfl) sl67 (M.av (i := 1) rfl) (by omega) (by omega)) rfl rfl ?_; clear F; intro φ F
    refine qt_rd F (wt0 rfl) (ld_el rfl (F.ev rfl) agg50 (fun _ h => RdV.below (M.av (i := 1) rfl) h) (by omega) (cS_at (by first | omega | (simp; done) | (simp; omega))) rfl) rfl rfl ?_; clear F; intro φ F
    refine qt_rd F (wt0 rfl) (ld_agg rfl (F.ev rfl) agg50 (M.rdB (i := 0) rfl) rfl) rfl rfl ?_; clear F; intro φ F
    refine qt_pure F (wt0 rfl) (pu_eqlA rfl (F.ev rfl) (F.ev rfl) eqg50 (fun w => eqS50 (atS L i.toNat) t w)) rfl rfl ?_; clear F; intro φ F
    refine wpQuiet_nil ?_
    clear M; intro ω M
    refine nxq ?_
    cases hs3 : (decide ((atS L i.toNat) = t))
    · rw [hs3] at F
      have hs3i := of_decide_eq_false hs3
      refine wp_cond_false (F.ev rfl) ?_
      refine wp_skip ?_
      refine nxb ?_
      refine nxq ?_
      -- region 3
      refine wp_region_lit ?_
      refine sq_pure F (wt0 rfl) (pu_move rfl (F.ev rfl)) rfl rfl ?_; clear F; intro φ F
      refine sq_pure F (wt0 rfl) (pu_add rfl (F.ev rfl) (evk) (by omega) (by omega)) rfl rfl ?_; clear F; intro φ F
      refine sq_pure F (wt0 rfl) (pu_assign rfl (F.ev rfl)) rfl rfl ?_; clear F; intro φ F
      refine wpList_nil ?_
      exact ⟨i + 1, by omega, ((((F.nil.cons (F.get (k := 5) rfl)).cons (F.get (k := 3) rfl)).cons (F.get (k := 1) rfl)).cons (F.get (k := 0) rfl)), M, by omega, by omega, all_succ hp1_2 hp1_0 (hs3i)⟩
    · rw [hs3] at F
      have hs3i := of_decide_eq_true hs3
      refine wp_cond_true (F.ev rfl) ?_
      refine wp_seq ?_
      -- region 5
      refine wp_region_lit ?_
      refine sq_pure F (wt0 rfl) (pu_assign rfl (evk)) rfl rfl ?_; clear F; intro φ F
      refine nx ?_
      refine wp_ret ?_
      refine nxrb ?_
      refine nxr ?_
      refine nxr ?_
      refine nxrb ?_
      refine nxr ?_
      refine rt_tmp F rfl rfl ?_
      refine ⟨?_, M.bel⟩
      rw [decide_eq_true (mem_of_at (by omega) hs3i)]

set_option maxHeartbeats 2000000 in
theorem put_any (L : List St) (t : St) (v : Value) (w : World) (hr : RdS w v L) (hlen : L.length ≤ 20000000) (hL : Asc L) :
    Calls Try.prog 49 #[v, .agg #[.int .i64 t.e, .int .i64 t.r]] w fun e w' => ∃ x, e = .returned x ∧ Below w.heap.size w w' ∧ ((x = v ∧ putL L t = L) ∨ w'.ownsRow w.heap.size 50 2 x (putL L t).length (cS (putL L t))) := by
  refine enterF Try.func49 rfl 36 Try.ntmps49 [v, .agg #[.int .i64 t.e, .int .i64 t.r]] rfl [(0, v), (1, .agg #[.int .i64 t.e, .int .i64 t.r])] rfl ?_
  intro φ F
  have M := Mm.start [] w
  replace M := M.addArg (hr) (fun h_ => by first | (simp; done) | assumption | exact d3 h_ | (simp_all; done))
  refine wp_seq ?_
  -- region 0
  refine wp_region_lit ?_
  refine sq_box F M (wt0 rfl) rfl (F.ev rfl) (cs := #[.int .i64 t.e, .int .i64 t.r]) rfl rfl rfl ?_; clear F M; intro φ ω g1 F M
  refine sq_pure F (wt0 rfl) (pu_assign rfl (evk)) rfl rfl ?_; clear F; intro φ F
  refine nx ?_
  refine wp_seq ?_
  -- region 1
  refine wp_region_lit ?_
  refine sq_pure F (wt0 rfl) (pu_assign rfl (evk)) rfl rfl ?_; clear F; intro φ F
  refine nx ?_
  refine wp_seq ?_
  refine wp_cut (fun φ' w' => ∃ j : Int, Fr φ' 36 [(0, v), (3, .pointer (some ⟨g1, 0, none⟩)), (4, (.slice none 0 0)), (5, .int .i64 j)] ∧ Mm [] w w' [.blk g1 50 #[.int .i64 t.e, .int .i64 t.r], .arg 2 v L.length (cS L)] ∧ (0 ≤ j) ∧ (j ≤ (L.length : Int)) ∧ (∀ k, k < j.toNat → (atS L k).aheadB t = true) ∧ (j.toNat < L.length → (atS L j.toNat).aheadB t = false)) ?_ ?_
  · skip
    refine wp_block ?_
    refine lp (σ := Int) (fun i φ' w' => Fr φ' 36 [(0, v), (3, .pointer (some ⟨g1, 0, none⟩)), (4, (.slice none 0 0)), (5, .int .i64 i)] ∧ Mm [] w w' [.blk g1 50 #[.int .i64 t.e, .int .i64 t.r], .arg 2 v L.length (cS L)] ∧ (0 ≤ i) ∧ (i ≤ (L.length : Int)) ∧ (∀ k, k < i.toNat → (atS L k).aheadB t = true)) (fun i => ((L.length : Int) - i).toNat) (0) ⟨((((F.nil.cons (F.get (k := 5) rfl)).cons (F.get (k := 4) rfl)).cons (F.get (k := 3) rfl)).cons (F.get (k := 0) rfl)), M, Int.le_refl _, by omega, all_none⟩ ?_
    clear F M
    rintro i φ ω ⟨F, M, hp1_0, hp1_1, hp1_2⟩
    refine wp_seq ?_
    refine wp_seq ?_
    -- region 2
    refine rg_quiet M mixedOK (by kernel_rfl) ?_
    refine qt_pure F (wt0 rfl) (pu_move rfl (F.ev rfl)) rfl rfl ?_; clear F; intro φ F
    refine qt_pure F (wt0 rfl) (pu_move rfl (F.ev rfl)) rfl rfl ?_; clear F; intro φ F
    refine qt_pure F (wt0 rfl) (pu_len rfl (F.ev rfl) sl67 (M.av (i := 1) rfl)) rfl rfl ?_; clear F; intro φ F
    refine qt_pure F (wt0 rfl) (pu_lss rfl (F.ev rfl) (F.ev rfl)) rfl rfl ?_; clear F; intro φ F
    refine qt_pure F (wt0 rfl) (pu_move rfl (F.ev rfl)) rfl rfl ?_; clear F; intro φ F
    cases hs2 : (decide (i < ((L.length : Nat) : Int)))
    · rw [hs2] at F
      have hs2i := of_decide_eq_false hs2
      refine qt_skip F (wtn F rfl rfl rfl rfl rfl) rfl rfl ?_; clear F; intro φ F
      refine qt_skip F (wtn F rfl rfl rfl rfl rfl) rfl rfl ?_; clear F; intro φ F
      refine qt_skip F (wtn F rfl rfl rfl rfl rfl) rfl rfl ?_; clear F; intro φ F
      refine qt_skip F (wtn F rfl rfl rfl rfl rfl) rfl rfl ?_; clear F; intro φ F
      refine qt_skip F (wtn F rfl rfl rfl rfl rfl) rfl rfl ?_; clear F; intro φ F
      refine qt_skip F (wtn F rfl rfl rfl rfl rfl) rfl rfl ?_; clear F; intro φ F
      refine qt_pure F (wt0 rfl) (pu_pickf rfl (F.ev rfl) (evk)) rfl rfl ?_; clear F; intro φ F
      refine wpQuiet_nil ?_
      clear M; intro ω M
      refine nxq ?_
      refine wp_cond_false (F.ev rfl) ?_
      refine wp_exit ?_
      refine nxe ?_
      refine nxe ?_
      refine nxm ?_
      exact ⟨i, ((((F.nil.cons (F.get (k := 5) rfl)).cons (F.get (k := 4) rfl)).cons (F.get (k := 3) rfl)).cons (F.get (k := 0) rfl)), M, by omega, by omega, hp1_2, fun h => absurd h (by omega)⟩
    · rw [hs2] at F
      have hs2i := of_decide_eq_true hs2
      refine qt_pure F (wt1 F rfl rfl rfl rfl rfl) (pu_move rfl (F.ev rfl)) rfl rfl ?_; clear F; intro φ F
      refine qt_pure F (wt1 F rfl rfl rfl rfl rfl) (pu_move rfl (F.ev rfl)) rfl rfl ?_; clear F; intro φ F
      refine qt_pure F (wt1 F rfl rfl rfl rfl rfl) (pu_ix rfl (F.ev rfl) (F.ev rfl) sl67 (M.av (i := 1) rfl) (by omega) (by omega)) rfl rfl ?_; clear F; intro φ F
      refine qt_rd F (wt1 F rfl rfl rfl rfl rfl) (ld_el rfl (F.ev rfl) agg50 (fun _ h => RdV.below (M.av (i := 1) rfl) h) (by omega) (cS_at (by first | omega | (simp; done) | (simp; omega))) rfl) rfl rfl ?_; clear F; intro φ F
      refine qt_rd F (wt1 F rfl rfl rfl rfl rfl) (ld_agg rfl (F.ev rfl) agg50 (M.rdB (i := 0) rfl) rfl) rfl rfl ?_; clear F; intro φ F
      refine qt_call F (wt1 F rfl rfl rfl rfl rfl) rfl en22 (evc (F.ev rfl) (evc (F.ev rfl) evn)) (fun w' h => calls_below h (rahead_any (atS L i.toNat) t w')) rfl rfl ?_; clear F; intro φ F
      refine qt_pure F (wt0 rfl) (pu_pickt rfl (F.ev rfl) (F.ev rfl)) rfl rfl ?_; clear F; intro φ F
      refine wpQuiet_nil ?_
      clear M; intro ω M
      refine nxq ?_
      cases hs3 : ((atS L i.toNat).aheadB t)
      · rw [hs3] at F
        refine wp_cond_false (F.ev rfl) ?_
        refine wp_exit ?_
        refine nxe ?_
        refine nxe ?_
        refine nxm ?_
        exact ⟨i, ((((F.nil.cons (F.get (k := 5) rfl)).cons (F.get (k := 4) rfl)).cons (F.get (k := 3) rfl)).cons (F.get (k := 0) rfl)), M, by omega, by omega, hp1_2, fun _ => hs3⟩
      · rw [hs3] at F
        refine wp_cond_true (F.ev rfl) ?_
        refine wp_skip ?_
        refine nxq ?_
        refine wp_block ?_
        -- region 3
        refine wp_region_lit ?_
        refine sq_pure F (wt0 rfl) (pu_move rfl (F.ev rfl)) rfl rfl ?_; clear F; intro φ F
        refine sq_pure F (wt0 rfl) (pu_add rfl (F.ev rfl) (evk) (by omega) (by omega)) rfl rfl ?_; clear F; intro φ F
        refine sq_pure F (wt0 rfl) (pu_assign rfl (F.ev rfl)) rfl rfl ?_; clear F; intro φ F
        refine wpList_nil ?_
        refine nxb ?_
        exact ⟨i + 1, by omega, ((((F.nil.cons (F.get (k := 5) rfl)).cons (F.get (k := 4) rfl)).cons (F.get (k := 3) rfl)).cons (F.get (k := 0) rfl)), M, by omega, by omega, all_succ hp1_2 hp1_0 hs3⟩
  · skip
    clear F M
    rintro φ ω ⟨j, F, M, hp4_0, hp4_1, hp4_2, hp4_3⟩
    refine nxq ?_
    refine wp_seq ?_
    refine wp_seq ?_
    -- region 4
    refine wp_region_lit ?_
    refine sq_pure F (wt0 rfl) (pu_move rfl (F.ev rfl)) rfl rfl ?_; clear F; intro φ F
    refine sq_rd F (wt0 rfl) (ld_agg rfl (F.ev rfl) agg50 (M.rd (i := 0) rfl) rfl) rfl rfl ?_; clear F; intro φ F
    refine sq_call F M (wt0 rfl) rfl en55 (evc (F.ev rfl) (evc (F.ev rfl) evn)) (has_any L t _ _ (M.av (i := 1) rfl) (by omega)) rfl rfl ?_; clear F M; intro φ ω F M
    refine nx ?_
    cases hs5 : (decide (t ∈ L))
    · rw [hs5] at F
      have hs5i := of_decide_eq_false hs5
      refine wp_cond_false (F.ev rfl) ?_
      refine wp_skip ?_
      refine nxq ?_
      refine wp_seq ?_
      -- region 6
      refine rg_J F 12 (fun Dd dv w' => (Dd 1 = true → dv 1 = v) ∧ (Dd 2 = true → dv 2 = .int .i64 j) ∧ (Dd 3 = true → dv 3 = (subS 2 0 j.toNat v)) ∧ (Dd 5 = true → dv 5 = .agg #[.int .i64 t.e, .int .i64 t.r]) ∧ (Dd 8 = true → dv 8 = v) ∧ (Dd 9 = true → dv 9 = .int .i64 j) ∧ (Dd 10 = true → dv 10 = (subS 2 j.toNat L.length v)) ∧ Mm [] w w' [(if Dd 11 = true then .row 50 2 (dv 11) ((((L.take j.toNat) ++ [t]) ++ (L.drop j.toNat)).length) (cS (((L.take j.toNat) ++ [t]) ++ (L.drop j.toNat))) else (if Dd 7 = true then .row 50 2 (dv 7) (((L.take j.toNat) ++ [t]).length) (cS ((L.take j.toNat) ++ [t])) else (if Dd 4 = true then .row 50 2 (dv 4) ((L.take j.toNat).length) (cS (L.take j.toNat)) else (if Dd 0 = true then .row 50 2 (dv 0) 0 (cS []) else .arg 1 (.slice none 0 0) 0 [])))), (if Dd 6 = true then .row 50 2 (dv 6) 1 (cS [t]) else .arg 1 (.slice none 0 0) 0 []), .blk g1 50 #[.int .i64 t.e, .int .i64 t.r], .arg 2 v L.length (cS L)]) (fun dv => ⟨(fun h => by cases h), (fun h => by cases h), (fun h => by cases h), (fun h => by cases h), (fun h => by cases h), (fun h => by cases h), (fun h => by cases h), by simpa using ((M.drew).dead).dead⟩) mixedOK (by kernel_rfl) rfl ⟨?_, ?_, ?_, ?_, ?_, ?_, ?_, ?_, ?_, ?_, ?_, ?_, trivial⟩ ?_
      · intro Dd φ1 dv ω1 ⟨h1, h2, h3, h5, h8, h9, h10, M⟩ hDi hdep hcl F1 hdone hold
        have f4 : Dd 4 = false := notYet hcl (i := 0) (by kernel_rfl) hDi
        have f7 : Dd 7 = false := notYet hcl (i := 4) (by kernel_rfl) f4
        have f11 : Dd 11 = false := notYet hcl (i := 7) (by kernel_rfl) f7
        have F := F1
        try simp only [hDi, f4, f7, f11, Bool.false_eq_true, if_false, if_true, ite_true, ite_false] at M
        have M2 : Mm [] w _ (([_, _, _, _]).set 0 (.row 50 2 (.slice (some ⟨ω1.heap.size, 0, none⟩) 0 0) 0 (cS []))) := M.fresh (i := 0) (e := 50) (m := 2) (k := 0) (cs := #[]) rfl (by omega) rfl
        exact ⟨wt0 rfl, ow_run (bs67_0 rfl _) ⟨_, rfl, keepP rfl h1, keepP rfl h2, keepP rfl h3, keepP rfl h5, keepP rfl h8, keepP rfl h9, keepP rfl h10, by simpa [setB, setV, hDi, f4, f7, f11, Bool.false_eq_true, if_false, if_true, ite_true, ite_false] using M2⟩⟩
      · intro Dd φ1 dv ω1 ⟨h1, h2, h3, h5, h8, h9, h10, M⟩ hDi hdep hcl F1 hdone hold
        have F := (F1.cons (F.was hold (s := 0) rfl rfl))
        try simp only [hDi, Bool.false_eq_true, if_false, if_true, ite_true, ite_false] at M
        exact ⟨wt0 rfl, ow_run ((pu_move rfl (F.ev rfl)) ω1) ⟨_, rfl, newP, keepP rfl h2, keepP rfl h3, keepP rfl h5, keepP rfl h8, keepP rfl h9, keepP rfl h10, by simpa [setB, setV, hDi, Bool.false_eq_true, if_false, if_true, ite_true, ite_false] using M⟩⟩
      · intro Dd φ1 dv ω1 ⟨h1, h2, h3, h5, h8, h9, h10, M⟩ hDi hdep hcl F1 hdone hold
        have F := (F1.cons (F.was hold (s := 5) rfl rfl))
        try simp only [hDi, Bool.false_eq_true, if_false, if_true, ite_true, ite_false] at M
        exact ⟨wt0 rfl, ow_run ((pu_move rfl (F.ev rfl)) ω1) ⟨_, rfl, keepP rfl h1, newP, keepP rfl h3, keepP rfl h5, keepP rfl h8, keepP rfl h9, keepP rfl h10, by simpa [setB, setV, hDi, Bool.false_eq_true, if_false, if_true, ite_true, ite_false] using M⟩⟩
      · intro Dd φ1 dv ω1 ⟨h1, h2, h3, h5, h8, h9, h10, M⟩ hDi hdep hcl F1 hdone hold
        have d1 : Dd 1 = true := hdep 1 (by kernel_rfl)
        have d2 : Dd 2 = true := hdep 2 (by kernel_rfl)
        have F := ((F1.cons (k := 25) (hdone 1 _ _ d1 rfl rfl |>.trans (h1 d1))).cons (k := 26) (hdone 2 _ _ d2 rfl rfl |>.trans (h2 d2)))
        try simp only [d1, d2, hDi, Bool.false_eq_true, if_false, if_true, ite_true, ite_false] at M
        exact ⟨wt0 rfl, ow_run ((pu_slice0 rfl (F.ev rfl) (F.ev rfl) sl67 (M.av (i := 3) rfl) (by omega) (by omega)) ω1) ⟨_, rfl, keepP rfl h1, keepP rfl h2, newP, keepP rfl h5, keepP rfl h8, keepP rfl h9, keepP rfl h10, by simpa [setB, setV, d1, d2, hDi, Bool.false_eq_true, if_false, if_true, ite_true, ite_false] using M⟩⟩
      · intro Dd φ1 dv ω1 ⟨h1, h2, h3, h5, h8, h9, h10, M⟩ hDi hdep hcl F1 hdone hold
        have d0 : Dd 0 = true := hdep 0 (by kernel_rfl)
        have d3 : Dd 3 = true := hdep 3 (by kernel_rfl)
        have d1 : Dd 1 = true := hcl _ 1 d3 (by kernel_rfl)
        have d2 : Dd 2 = true := hcl _ 2 d3 (by kernel_rfl)
        have f7 : Dd 7 = false := notYet hcl (i := 4) (by kernel_rfl) hDi
        have f11 : Dd 11 = false := notYet hcl (i := 7) (by kernel_rfl) f7
        have F := ((F1.cons (k := 24) (hdone 0 _ _ d0 rfl rfl)).cons (k := 27) (hdone 3 _ _ d3 rfl rfl |>.trans (h3 d3)))
        try simp only [d0, d1, d2, d3, hDi, f7, f11, Bool.false_eq_true, if_false, if_true, ite_true, ite_false] at M
        refine ⟨wt0 rfl, ow_app M rfl sl67.1 el50 (F.ev rfl) (i := 0) rfl (F.ev rfl) (take_rv (k := j.toNat) (M.av (i := 3) rfl) (by first | assumption | (simp only [List.length_set]; assumption) | (simp only [List.length_append, List.length_take, List.length_replicate]; omega) | rfl) (by omega)) (cS_ones _) (by first | omega | (simp only [List.length_append, List.length_take, List.length_drop, List.length_cons, List.length_nil]; omega)) (by omega) (fun x w2 M2 => ?_)⟩
        simp only [show cS [] = [] from rfl, List.nil_append, show 0 + j.toNat = (L.take j.toNat).length from by first | rfl | (simp; done) | (simp; omega)] at M2
        exact ⟨_, rfl, keepP rfl h1, keepP rfl h2, keepP rfl h3, keepP rfl h5, keepP rfl h8, keepP rfl h9, keepP rfl h10, by simpa [setB, setV, d0, d1, d2, d3, hDi, f7, f11, Bool.false_eq_true, if_false, if_true, ite_true, ite_false] using M2⟩
      · intro Dd φ1 dv ω1 ⟨h1, h2, h3, h5, h8, h9, h10, M⟩ hDi hdep hcl F1 hdone hold
        have F := (F1.cons (F.was hold (s := 3) rfl rfl))
        try simp only [hDi, Bool.false_eq_true, if_false, if_true, ite_true, ite_false] at M
        exact ⟨wt0 rfl, ow_run ((ld_agg rfl (F.ev rfl) agg50 (M.rd (i := 2) rfl) rfl) ω1 rfl) ⟨_, rfl, keepP rfl h1, keepP rfl h2, keepP rfl h3, newP, keepP rfl h8, keepP rfl h9, keepP rfl h10, by simpa [setB, setV, hDi, Bool.false_eq_true, if_false, if_true, ite_true, ite_false] using M⟩⟩
      · intro Dd φ1 dv ω1 ⟨h1, h2, h3, h5, h8, h9, h10, M⟩ hDi hdep hcl F1 hdone hold
        have d5 : Dd 5 = true := hdep 5 (by kernel_rfl)
        have F := (F1.cons (k := 29) (hdone 5 _ _ d5 rfl rfl |>.trans (h5 d5)))
        try simp only [d5, hDi, Bool.false_eq_true, if_false, if_true, ite_true, ite_false] at M
        have M2 : Mm [] w _ (([_, _, _, _]).set 1 (.row 50 2 (.slice (some ⟨ω1.heap.size, 0, none⟩) 1 1) 1 (cS [t]))) := M.fresh (i := 1) (e := 50) (m := 2) (k := 1) (cs := #[.int .i64 t.e, .int .i64 t.r]) rfl (by omega) rfl
        exact ⟨wt0 rfl, ow_run (bs67_1 rfl (F.ev rfl) _) ⟨_, rfl, keepP rfl h1, keepP rfl h2, keepP rfl h3, keepP rfl h5, keepP rfl h8, keepP rfl h9, keepP rfl h10, by simpa [setB, setV, d5, hDi, Bool.false_eq_true, if_false, if_true, ite_true, ite_false] using M2⟩⟩
      · intro Dd φ1 dv ω1 ⟨h1, h2, h3, h5, h8, h9, h10, M⟩ hDi hdep hcl F1 hdone hold
        have d4 : Dd 4 = true := hdep 4 (by kernel_rfl)
        have d6 : Dd 6 = true := hdep 6 (by kernel_rfl)
        have d0 : Dd 0 = true := hcl _ 0 d4 (by kernel_rfl)
        have d3 : Dd 3 = true := hcl _ 3 d4 (by kernel_rfl)
        have d5 : Dd 5 = true := hcl _ 5 d6 (by kernel_rfl)
        have d1 : Dd 1 = true := hcl _ 1 d3 (by kernel_rfl)
        have d2 : Dd 2 = true := hcl _ 2 d3 (by kernel_rfl)
        have f11 : Dd 11 = false := notYet hcl (i := 7) (by kernel_rfl) hDi
        have F := ((F1.cons (k := 28) (hdone 4 _ _ d4 rfl rfl)).cons (k := 30) (hdone 6 _ _ d6 rfl rfl))
        try simp only [d0, d1, d2, d3, d4, d5, d6, hDi, f11, Bool.false_eq_true, if_false, if_true, ite_true, ite_false] at M
        refine ⟨wt0 rfl, ow_app M rfl sl67.1 el50 (F.ev rfl) (i := 0) rfl (F.ev rfl) (M.rv (i := 1) rfl) (cS_ones _) (by first | omega | (simp only [List.length_append, List.length_take, List.length_drop, List.length_cons, List.length_nil]; omega)) (by omega) (fun x w2 M2 => ?_)⟩
        rw [← cS_app, show ((L.take j.toNat).length) + 1 = ((L.take j.toNat) ++ [t]).length from by first | rfl | (simp; done) | (simp; omega)] at M2
        exact ⟨_, rfl, keepP rfl h1, keepP rfl h2, keepP rfl h3, keepP rfl h5, keepP rfl h8, keepP rfl h9, keepP rfl h10, by simpa [setB, setV, d0, d1, d2, d3, d4, d5, d6, hDi, f11, Bool.false_eq_true, if_false, if_true, ite_true, ite_false] using M2⟩
      · intro Dd φ1 dv ω1 ⟨h1, h2, h3, h5, h8, h9, h10, M⟩ hDi hdep hcl F1 hdone hold
        have F := (F1.cons (F.was hold (s := 0) rfl rfl))
        try simp only [hDi, Bool.false_eq_true, if_false, if_true, ite_true, ite_false] at M
        exact ⟨wt0 rfl, ow_run ((pu_move rfl (F.ev rfl)) ω1) ⟨_, rfl, keepP rfl h1, keepP rfl h2, keepP rfl h3, keepP rfl h5, newP, keepP rfl h9, keepP rfl h10, by simpa [setB, setV, hDi, Bool.false_eq_true, if_false, if_true, ite_true, ite_false] using M⟩⟩
      · intro Dd φ1 dv ω1 ⟨h1, h2, h3, h5, h8, h9, h10, M⟩ hDi hdep hcl F1 hdone hold
        have F := (F1.cons (F.was hold (s := 5) rfl rfl))
        try simp only [hDi, Bool.false_eq_true, if_false, if_true, ite_true, ite_false] at M
        exact ⟨wt0 rfl, ow_run ((pu_move rfl (F.ev rfl)) ω1) ⟨_, rfl, keepP rfl h1, keepP rfl h2, keepP rfl h3, keepP rfl h5, keepP rfl h8, newP, keepP rfl h10, by simpa [setB, setV, hDi, Bool.false_eq_true, if_false, if_true, ite_true, ite_false] using M⟩⟩
      · intro Dd φ1 dv ω1 ⟨h1, h2, h3, h5, h8, h9, h10, M⟩ hDi hdep hcl F1 hdone hold
        have d8 : Dd 8 = true := hdep 8 (by kernel_rfl)
        have d9 : Dd 9 = true := hdep 9 (by kernel_rfl)
        have F := ((F1.cons (k := 32) (hdone 8 _ _ d8 rfl rfl |>.trans (h8 d8))).cons (k := 33) (hdone 9 _ _ d9 rfl rfl |>.trans (h9 d9)))
        try simp only [d8, d9, hDi, Bool.false_eq_true, if_false, if_true, ite_true, ite_false] at M
        exact ⟨wt0 rfl, ow_run ((pu_slice1 rfl (F.ev rfl) (F.ev rfl) sl67 (M.av (i := 3) rfl) (by omega) (by omega)) ω1) ⟨_, rfl, keepP rfl h1, keepP rfl h2, keepP rfl h3, keepP rfl h5, keepP rfl h8, keepP rfl h9, newP, by simpa [setB, setV, d8, d9, hDi, Bool.false_eq_true, if_false, if_true, ite_true, ite_false] using M⟩⟩
      · intro Dd φ1 dv ω1 ⟨h1, h2, h3, h5, h8, h9, h10, M⟩ hDi hdep hcl F1 hdone hold
        have d7 : Dd 7 = true := hdep 7 (by kernel_rfl)
        have d10 : Dd 10 = true := hdep 10 (by kernel_rfl)
        have d4 : Dd 4 = true := hcl _ 4 d7 (by kernel_rfl)
        have d6 : Dd 6 = true := hcl _ 6 d7 (by kernel_rfl)
        have d8 : Dd 8 = true := hcl _ 8 d10 (by kernel_rfl)
        have d9 : Dd 9 = true := hcl _ 9 d10 (by kernel_rfl)
        have d0 : Dd 0 = true := hcl _ 0 d4 (by kernel_rfl)
        have d3 : Dd 3 = true := hcl _ 3 d4 (by kernel_rfl)
        have d5 : Dd 5 = true := hcl _ 5 d6 (by kernel_rfl)
        have d1 : Dd 1 = true := hcl _ 1 d3 (by kernel_rfl)
        have d2 : Dd 2 = true := hcl _ 2 d3 (by kernel_rfl)
        have F := ((F1.cons (k := 31) (hdone 7 _ _ d7 rfl rfl)).cons (k := 34) (hdone 10 _ _ d10 rfl rfl |>.trans (h10 d10)))
        try simp only [d0, d1, d2, d3, d4, d5, d6, d7, d8, d9, d10, hDi, Bool.false_eq_true, if_false, if_true, ite_true, ite_false] at M
        refine ⟨wt0 rfl, ow_app M rfl sl67.1 el50 (F.ev rfl) (i := 0) rfl (F.ev rfl) (sub_rv (k := j.toNat) (M.av (i := 3) rfl) (by first | assumption | (simp only [List.length_set]; assumption) | (simp only [List.length_append, List.length_take, List.length_replicate]; omega) | rfl) (by omega)) (cS_ones _) (by first | omega | (simp only [List.length_append, List.length_take, List.length_drop, List.length_cons, List.length_nil]; omega)) (by omega) (fun x w2 M2 => ?_)⟩
        rw [← cS_app, show (((L.take j.toNat) ++ [t]).length) + (L.length - j.toNat) = (((L.take j.toNat) ++ [t]) ++ (L.drop j.toNat)).length from by first | rfl | (simp; done) | (simp; omega)] at M2
        exact ⟨_, rfl, keepP rfl h1, keepP rfl h2, keepP rfl h3, keepP rfl h5, keepP rfl h8, keepP rfl h9, keepP rfl h10, by simpa [setB, setV, d0, d1, d2, d3, d4, d5, d6, d7, d8, d9, d10, hDi, Bool.false_eq_true, if_false, if_true, ite_true, ite_false] using M2⟩
      clear M; rintro dv φ ω ⟨h1, h2, h3, h5, h8, h9, h10, M⟩ F
      simp only [hvL, List.take_succ_cons, List.take_zero] at F
      rw [h10 (by simp)] at F
      rw [h9 (by simp)] at F
      rw [h8 (by simp)] at F
      rw [h5 (by simp)] at F
      rw [h3 (by simp)] at F
      rw [h2 (by simp)] at F
      rw [h1 (by simp)] at F
      replace M : Mm [] w ω [.row 50 2 (dv 11) ((((L.take j.toNat) ++ [t]) ++ (L.drop j.toNat)).length) (cS (((L.take j.toNat) ++ [t]) ++ (L.drop j.toNat))), .row 50 2 (dv 6) 1 (cS [t]), .blk g1 50 #[.int .i64 t.e, .int .i64 t.r], .arg 2 v L.length (cS L)] := by simpa using M
      clear h1 h2 h3 h5 h8 h9 h10
      generalize dv 0 = v1 at F
      generalize dv 4 = v2 at F
      generalize dv 6 = v3 at F M
      generalize dv 7 = v4 at F
      generalize dv 11 = v5 at F M
      refine sq_pure F (wt0 rfl) (pu_assign rfl (F.ev rfl)) rfl rfl ?_; clear F; intro φ F
      refine nx ?_
      refine wp_ret ?_
      refine rt_tmp F rfl rfl ?_
      refine ⟨_, rfl, M.bel, .inr ?_⟩
      rw [putL_spec hL (by omega) hp4_2 hp4_3, if_neg hs5i]
      exact M.owB (i := 0) rfl
    · rw [hs5] at F
      have hs5i := of_decide_eq_true hs5
      refine wp_cond_true (F.ev rfl) ?_
      refine wp_seq ?_
      -- region 5
      refine wp_region_lit ?_
      refine sq_pure F (wt0 rfl) (pu_move rfl (F.ev rfl)) rfl rfl ?_; clear F; intro φ F
      refine sq_pure F (wt0 rfl) (pu_assign rfl (F.ev rfl)) rfl rfl ?_; clear F; intro φ F
      refine nx ?_
      refine wp_ret ?_
      refine nxr ?_
      refine rt_tmp F rfl rfl ?_
      exact ⟨_, rfl, M.bel, .inl ⟨rfl, by rw [putL_spec hL (by omega) hp4_2 hp4_3, if_pos hs5i]⟩⟩

set_option maxHeartbeats 2000000 in
theorem rmin_any (L : List St) (v : Value) (w : World) (hr : RdS w v L) (hlen : L.length ≤ 20000000) :
    Calls Try.prog 41 #[v] w fun e w' => ∃ v, e = .returned v ∧ Below w.heap.size w w' ∧ w'.ownsRow w.heap.size 50 2 v (minL L).length (cS (minL L)) := by
  refine enterF Try.func41 rfl 47 Try.ntmps41 [v] rfl [(0, v)] rfl ?_
  intro φ F
  have M := Mm.start [] w
  replace M := M.addArg (hr) (fun h_ => by first | (simp; done) | assumption | exact d3 h_ | (simp_all; done))
  refine wp_seq ?_
  -- region 0
  refine wp_region_lit ?_
  refine sq_pure F (wt0 rfl) (pu_assign rfl (evk)) rfl rfl ?_; clear F; intro φ F
  refine nx ?_
  refine wp_seq ?_
  -- region 1
  refine wp_region_lit ?_
  refine sq_pure F (wt0 rfl) (pu_assign rfl (evk)) rfl rfl ?_; clear F; intro φ F
  refine nx ?_
  refine wp_seq ?_
  refine wp_seq ?_
  -- region 2
  refine wp_region_lit ?_
  refine sq_pure F (wt0 rfl) (pu_assign rfl (evk)) rfl rfl ?_; clear F; intro φ F
  refine nx ?_
  refine wp_block ?_
  refine lp (σ := Int) (fun i φ' w' => ∃ vq : Value, Fr φ' 47 [(0, v), (2, (.slice none 0 0)), (3, vq), (4, .int .i64 i)] ∧ Mm [] w w' [.row 50 2 vq ((filt L i.toNat).length) (cS (filt L i.toNat)), .arg 2 v L.length (cS L)] ∧ (0 ≤ i) ∧ (i ≤ (L.length : Int)) ∧ ((filt L i.toNat).length ≤ 20000000)) (fun i => ((L.length : Int) - i).toNat) (0) ⟨(.slice none 0 0), ((((F.nil.cons (F.get (k := 4) rfl)).cons (F.get (k := 3) rfl)).cons (F.get (k := 2) rfl)).cons (F.get (k := 0) rfl)), (by simpa [filt, rowL, cS] using M.nilRow 50 2), Int.le_refl _, by omega, by simp [filt, rowL]⟩ ?_
  clear F M
  rintro i φ ω ⟨vq, F, M, hp1_0, hp1_1, hp1_2⟩
  refine wp_seq ?_
  refine wp_seq ?_
  -- region 3
  refine wp_region_lit ?_
  refine sq_pure F (wt0 rfl) (pu_move rfl (F.ev rfl)) rfl rfl ?_; clear F; intro φ F
  refine sq_pure F (wt0 rfl) (pu_move rfl (F.ev rfl)) rfl rfl ?_; clear F; intro φ F
  refine sq_pure F (wt0 rfl) (pu_len rfl (F.ev rfl) sl67 (M.av (i := 1) rfl)) rfl rfl ?_; clear F; intro φ F
  refine sq_pure F (wt0 rfl) (pu_lss rfl (F.ev rfl) (F.ev rfl)) rfl rfl ?_; clear F; intro φ F
  refine nx ?_
  cases hs2 : (decide (i < ((L.length : Nat) : Int)))
  · rw [hs2] at F
    have hs2i := of_decide_eq_false hs2
    refine wp_cond_false (F.ev rfl) ?_
    refine wp_exit ?_
    refine nxe ?_
    refine nxe ?_
    refine nxm ?_
    refine nxq ?_
    refine wp_seq ?_
    -- region 13
    refine wp_region_lit ?_
    refine sq_pure F (wt0 rfl) (pu_move rfl (F.ev rfl)) rfl rfl ?_; clear F; intro φ F
    refine sq_pure F (wt0 rfl) (pu_assign rfl (F.ev rfl)) rfl rfl ?_; clear F; intro φ F
    refine nx ?_
    refine wp_ret ?_
    refine rt_tmp F rfl rfl ?_
    refine ⟨_, rfl, M.bel, ?_⟩
    have zz := M.owB (i := 0) rfl
    rwa [filt_end (by omega)] at zz
  · rw [hs2] at F
    have hs2i := of_decide_eq_true hs2
    refine wp_cond_true (F.ev rfl) ?_
    refine wp_skip ?_
    refine nxq ?_
    refine wp_seq ?_
    refine wp_block ?_
    refine wp_seq ?_
    -- region 5
    refine wp_region_lit ?_
    refine sq_pure F (wt0 rfl) (pu_assign rfl (evk)) rfl rfl ?_; clear F; intro φ F
    refine nx ?_
    refine wp_seq ?_
    refine wp_seq ?_
    -- region 6
    refine wp_region_lit ?_
    refine sq_pure F (wt0 rfl) (pu_assign rfl (evk)) rfl rfl ?_; clear F; intro φ F
    refine nx ?_
    refine wp_cut (fun φ' w' => ∃ bq : Bool, Fr φ' 47 [(0, v), (2, (.slice none 0 0)), (3, vq), (4, .int .i64 i), (5, .bool bq)] ∧ Mm [] w w' [.row 50 2 vq ((filt L i.toNat).length) (cS (filt L i.toNat)), .arg 2 v L.length (cS L)] ∧ (bq = true ↔ ∀ j, j < L.length → atS L j = atS L i.toNat ∨ (atS L j).leB (atS L i.toNat) = false)) ?_ ?_
    · skip
      refine wp_block ?_
      refine lp (σ := Int) (fun k φ' w' => ∃ bq : Bool, Fr φ' 47 [(0, v), (2, (.slice none 0 0)), (3, vq), (4, .int .i64 i), (5, .bool bq), (6, .int .i64 k)] ∧ Mm [] w w' [.row 50 2 vq ((filt L i.toNat).length) (cS (filt L i.toNat)), .arg 2 v L.length (cS L)] ∧ (0 ≤ k) ∧ (k ≤ (L.length : Int)) ∧ (bq = true ↔ ∀ j, j < k.toNat → atS L j = atS L i.toNat ∨ (atS L j).leB (atS L i.toNat) = false)) (fun k => ((L.length : Int) - k).toNat) (0) ⟨true, ((((((F.nil.cons (F.get (k := 6) rfl)).cons (F.get (k := 5) rfl)).cons (F.get (k := 4) rfl)).cons (F.get (k := 3) rfl)).cons (F.get (k := 2) rfl)).cons (F.get (k := 0) rfl)), M, Int.le_refl _, by omega, ⟨fun _ j hj => absurd hj (by simp), fun _ => rfl⟩⟩ ?_
      clear F M
      rintro k φ ω ⟨bq, F, M, hp3_0, hp3_1, hp3_2⟩
      refine wp_seq ?_
      refine wp_seq ?_
      -- region 7
      refine wp_region_lit ?_
      refine sq_pure F (wt0 rfl) (pu_move rfl (F.ev rfl)) rfl rfl ?_; clear F; intro φ F
      refine sq_pure F (wt0 rfl) (pu_move rfl (F.ev rfl)) rfl rfl ?_; clear F; intro φ F
      refine sq_pure F (wt0 rfl) (pu_len rfl (F.ev rfl) sl67 (M.av (i := 1) rfl)) rfl rfl ?_; clear F; intro φ F
      refine sq_pure F (wt0 rfl) (pu_lss rfl (F.ev rfl) (F.ev rfl)) rfl rfl ?_; clear F; intro φ F
      refine nx ?_
      cases hs4 : (decide (k < ((L.length : Nat) : Int)))
      · rw [hs4] at F
        have hs4i := of_decide_eq_false hs4
        refine wp_cond_false (F.ev rfl) ?_
        refine wp_exit ?_
        refine nxe ?_
        refine nxe ?_
        refine nxm ?_
        exact ⟨bq, (((((F.nil.cons (F.get (k := 5) rfl)).cons (F.get (k := 4) rfl)).cons (F.get (k := 3) rfl)).cons (F.get (k := 2) rfl)).cons (F.get (k := 0) rfl)), M, ⟨fun h j hj => hp3_2.1 h j (by omega), fun h => hp3_2.2 (fun j hj => h j (by omega))⟩⟩
      · rw [hs4] at F
        have hs4i := of_decide_eq_true hs4
        refine wp_cond_true (F.ev rfl) ?_
        refine wp_skip ?_
        refine nxq ?_
        refine wp_seq ?_
        refine wp_block ?_
        refine wp_seq ?_
        -- region 9
        refine rg_quiet M mixedOK (by kernel_rfl) ?_
        refine qt_pure F (wt0 rfl) (pu_move rfl (F.ev rfl)) rfl rfl ?_; clear F; intro φ F
        refine qt_pure F (wt0 rfl) (pu_move rfl (F.ev rfl)) rfl rfl ?_; clear F; intro φ F
        refine qt_pure F (wt0 rfl) (pu_ix rfl (F.ev rfl) (F.ev rfl) sl67 (M.av (i := 1) rfl) (by omega) (by omega)) rfl rfl ?_; clear F; intro φ F
        refine qt_rd F (wt0 rfl) (ld_el rfl (F.ev rfl) agg50 (fun _ h => RdV.below (M.av (i := 1) rfl) h) (by omega) (cS_at (by first | omega | (simp; done) | (simp; omega))) rfl) rfl rfl ?_; clear F; intro φ F
        refine qt_pure F (wt0 rfl) (pu_move rfl (F.ev rfl)) rfl rfl ?_; clear F; intro φ F
        refine qt_pure F (wt0 rfl) (pu_move rfl (F.ev rfl)) rfl rfl ?_; clear F; intro φ F
        refine qt_pure F (wt0 rfl) (pu_ix rfl (F.ev rfl) (F.ev rfl) sl67 (M.av (i := 1) rfl) (by omega) (by omega)) rfl rfl ?_; clear F; intro φ F
        refine qt_rd F (wt0 rfl) (ld_el rfl (F.ev rfl) agg50 (fun _ h => RdV.below (M.av (i := 1) rfl) h) (by omega) (cS_at (by first | omega | (simp; done) | (simp; omega))) rfl) rfl rfl ?_; clear F; intro φ F
        cases hs5 : (decide ((atS L k.toNat) = (atS L i.toNat)))
        · skip
          have hs5i := of_decide_eq_false hs5
          refine qt_pure F (wt0 rfl) (pu_neqA rfl (F.ev rfl) (F.ev rfl) eqg50 (fun w => eqS50 (atS L k.toNat) (atS L i.toNat) w)) rfl rfl ?_; clear F; intro φ F
          rw [hs5, show (!false) = true from rfl] at F
          refine qt_pure F (wt0 rfl) (pu_move rfl (F.ev rfl)) rfl rfl ?_; clear F; intro φ F
          refine qt_pure F (wt1 F rfl rfl rfl rfl rfl) (pu_move rfl (F.ev rfl)) rfl rfl ?_; clear F; intro φ F
          refine qt_pure F (wt1 F rfl rfl rfl rfl rfl) (pu_move rfl (F.ev rfl)) rfl rfl ?_; clear F; intro φ F
          refine qt_pure F (wt1 F rfl rfl rfl rfl rfl) (pu_ix rfl (F.ev rfl) (F.ev rfl) sl67 (M.av (i := 1) rfl) (by omega) (by omega)) rfl rfl ?_; clear F; intro φ F
          refine qt_rd F (wt1 F rfl rfl rfl rfl rfl) (ld_el rfl (F.ev rfl) agg50 (fun _ h => RdV.below (M.av (i := 1) rfl) h) (by omega) (cS_at (by first | omega | (simp; done) | (simp; omega))) rfl) rfl rfl ?_; clear F; intro φ F
          refine qt_pure F (wt1 F rfl rfl rfl rfl rfl) (pu_move rfl (F.ev rfl)) rfl rfl ?_; clear F; intro φ F
          refine qt_pure F (wt1 F rfl rfl rfl rfl rfl) (pu_move rfl (F.ev rfl)) rfl rfl ?_; clear F; intro φ F
          refine qt_pure F (wt1 F rfl rfl rfl rfl rfl) (pu_ix rfl (F.ev rfl) (F.ev rfl) sl67 (M.av (i := 1) rfl) (by omega) (by omega)) rfl rfl ?_; clear F; intro φ F
          refine qt_rd F (wt1 F rfl rfl rfl rfl rfl) (ld_el rfl (F.ev rfl) agg50 (fun _ h => RdV.below (M.av (i := 1) rfl) h) (by omega) (cS_at (by first | omega | (simp; done) | (simp; omega))) rfl) rfl rfl ?_; clear F; intro φ F
          refine qt_call F (wt1 F rfl rfl rfl rfl rfl) rfl en48 (evc (F.ev rfl) (evc (F.ev rfl) evn)) (fun w' h => calls_below h (rle_any (atS L k.toNat) (atS L i.toNat) w')) rfl rfl ?_; clear F; intro φ F
          refine qt_pure F (wt0 rfl) (pu_pickt rfl (F.ev rfl) (F.ev rfl)) rfl rfl ?_; clear F; intro φ F
          refine wpQuiet_nil ?_
          clear M; intro ω M
          refine nxq ?_
          cases hs6 : ((atS L k.toNat).leB (atS L i.toNat))
          · rw [hs6] at F
            refine wp_cond_false (F.ev rfl) ?_
            refine wp_skip ?_
            refine nxb ?_
            refine nxq ?_
            -- region 8
            refine wp_region_lit ?_
            refine sq_pure F (wt0 rfl) (pu_move rfl (F.ev rfl)) rfl rfl ?_; clear F; intro φ F
            refine sq_pure F (wt0 rfl) (pu_add rfl (F.ev rfl) (evk) (by omega) (by omega)) rfl rfl ?_; clear F; intro φ F
            refine sq_pure F (wt0 rfl) (pu_assign rfl (F.ev rfl)) rfl rfl ?_; clear F; intro φ F
            refine wpList_nil ?_
            exact ⟨k + 1, by omega, bq, ((((((F.nil.cons (F.get (k := 6) rfl)).cons (F.get (k := 5) rfl)).cons (F.get (k := 4) rfl)).cons (F.get (k := 3) rfl)).cons (F.get (k := 2) rfl)).cons (F.get (k := 0) rfl)), M, by omega, by omega, flag_step hp3_0 hp3_2 ⟨fun h => ⟨h, (.inr hs6)⟩, fun h => h.1⟩⟩
          · rw [hs6] at F
            refine wp_cond_true (F.ev rfl) ?_
            -- region 10
            refine wp_region_lit ?_
            refine sq_pure F (wt0 rfl) (pu_assign rfl (evk)) rfl rfl ?_; clear F; intro φ F
            refine wpList_nil ?_
            refine nxb ?_
            refine nxq ?_
            -- region 8
            refine wp_region_lit ?_
            refine sq_pure F (wt0 rfl) (pu_move rfl (F.ev rfl)) rfl rfl ?_; clear F; intro φ F
            refine sq_pure F (wt0 rfl) (pu_add rfl (F.ev rfl) (evk) (by omega) (by omega)) rfl rfl ?_; clear F; intro φ F
            refine sq_pure F (wt0 rfl) (pu_assign rfl (F.ev rfl)) rfl rfl ?_; clear F; intro φ F
            refine wpList_nil ?_
            exact ⟨k + 1, by omega, false, ((((((F.nil.cons (F.get (k := 6) rfl)).cons (F.get (k := 5) rfl)).cons (F.get (k := 4) rfl)).cons (F.get (k := 3) rfl)).cons (F.get (k := 2) rfl)).cons (F.get (k := 0) rfl)), M, by omega, by omega, flag_step hp3_0 hp3_2 ⟨(fun h => by cases h), fun h => absurd h.2 (fun h => h.elim hs5i (fun h => by rw [hs6] at h; cases h))⟩⟩
        · skip
          have hs5i := of_decide_eq_true hs5
          refine qt_pure F (wt0 rfl) (pu_neqA rfl (F.ev rfl) (F.ev rfl) eqg50 (fun w => eqS50 (atS L k.toNat) (atS L i.toNat) w)) rfl rfl ?_; clear F; intro φ F
          rw [hs5, show (!true) = false from rfl] at F
          refine qt_pure F (wt0 rfl) (pu_move rfl (F.ev rfl)) rfl rfl ?_; clear F; intro φ F
          refine qt_skip F (wtn F rfl rfl rfl rfl rfl) rfl rfl ?_; clear F; intro φ F
          refine qt_skip F (wtn F rfl rfl rfl rfl rfl) rfl rfl ?_; clear F; intro φ F
          refine qt_skip F (wtn F rfl rfl rfl rfl rfl) rfl rfl ?_; clear F; intro φ F
          refine qt_skip F (wtn F rfl rfl rfl rfl rfl) rfl rfl ?_; clear F; intro φ F
          refine qt_skip F (wtn F rfl rfl rfl rfl rfl) rfl rfl ?_; clear F; intro φ F
          refine qt_skip F (wtn F rfl rfl rfl rfl rfl) rfl rfl ?_; clear F; intro φ F
          refine qt_skip F (wtn F rfl rfl rfl rfl rfl) rfl rfl ?_; clear F; intro φ F
          refine qt_skip F (wtn F rfl rfl rfl rfl rfl) rfl rfl ?_; clear F; intro φ F
          refine qt_skip F (wtn F rfl rfl rfl rfl rfl) rfl rfl ?_; clear F; intro φ F
          refine qt_pure F (wt0 rfl) (pu_pickf rfl (F.ev rfl) (evk)) rfl rfl ?_; clear F; intro φ F
          refine wpQuiet_nil ?_
          clear M; intro ω M
          refine nxq ?_
          refine wp_cond_false (F.ev rfl) ?_
          refine wp_skip ?_
          refine nxb ?_
          refine nxq ?_
          -- region 8
          refine wp_region_lit ?_
          refine sq_pure F (wt0 rfl) (pu_move rfl (F.ev rfl)) rfl rfl ?_; clear F; intro φ F
          refine sq_pure F (wt0 rfl) (pu_add rfl (F.ev rfl) (evk) (by omega) (by omega)) rfl rfl ?_; clear F; intro φ F
          refine sq_pure F (wt0 rfl) (pu_assign rfl (F.ev rfl)) rfl rfl ?_; clear F; intro φ F
          refine wpList_nil ?_
          exact ⟨k + 1, by omega, bq, ((((((F.nil.cons (F.get (k := 6) rfl)).cons (F.get (k := 5) rfl)).cons (F.get (k := 4) rfl)).cons (F.get (k := 3) rfl)).cons (F.get (k := 2) rfl)).cons (F.get (k := 0) rfl)), M, by omega, by omega, flag_step hp3_0 hp3_2 ⟨fun h => ⟨h, (.inl hs5i)⟩, fun h => h.1⟩⟩
    · skip
      clear F M
      rintro φ ω ⟨bq, F, M, hp7_0⟩
      refine nxq ?_
      refine wp_seq ?_
      -- region 11
      refine wp_region_lit ?_
      refine sq_pure F (wt0 rfl) (pu_move rfl (F.ev rfl)) rfl rfl ?_; clear F; intro φ F
      refine nx ?_
      cases hs8 : bq
      · rw [hs8] at F
        refine wp_cond_false (F.ev rfl) ?_
        refine wp_skip ?_
        refine nxb ?_
        refine nxq ?_
        -- region 4
        refine wp_region_lit ?_
        refine sq_pure F (wt0 rfl) (pu_move rfl (F.ev rfl)) rfl rfl ?_; clear F; intro φ F
        refine sq_pure F (wt0 rfl) (pu_add rfl (F.ev rfl) (evk) (by omega) (by omega)) rfl rfl ?_; clear F; intro φ F
        refine sq_pure F (wt0 rfl) (pu_assign rfl (F.ev rfl)) rfl rfl ?_; clear F; intro φ F
        refine wpList_nil ?_
        exact ⟨i + 1, by omega, vq, ((((F.nil.cons (F.get (k := 4) rfl)).cons (F.get (k := 3) rfl)).cons (F.get (k := 2) rfl)).cons (F.get (k := 0) rfl)), (by rw [filt_no (by omega) (by omega) ((least_t hp7_0).trans hs8)]; exact M), by omega, by omega, Nat.le_trans (filt_len _ _) hlen⟩
      · rw [hs8] at F
        refine wp_cond_true (F.ev rfl) ?_
        -- region 12
        refine wp_region_lit ?_
        refine sq_pure F (wt0 rfl) (pu_move rfl (F.ev rfl)) rfl rfl ?_; clear F; intro φ F
        refine sq_pure F (wt0 rfl) (pu_move rfl (F.ev rfl)) rfl rfl ?_; clear F; intro φ F
        refine sq_pure F (wt0 rfl) (pu_move rfl (F.ev rfl)) rfl rfl ?_; clear F; intro φ F
        refine sq_pure F (wt0 rfl) (pu_ix rfl (F.ev rfl) (F.ev rfl) sl67 (M.av (i := 1) rfl) (by omega) (by omega)) rfl rfl ?_; clear F; intro φ F
        refine sq_rd F (wt0 rfl) (ld_el rfl (F.ev rfl) agg50 (fun _ e => e ▸ (M.av (i := 1) rfl)) (by omega) (cS_at (by first | omega | (simp; done) | (simp; omega))) rfl) rfl rfl ?_; clear F; intro φ F
        refine sq_callK F M (wt0 rfl) rfl en49 (evc (F.ev rfl) (evc (F.ev rfl) evn)) (i := 0) rfl (Calls.mono (put_any (filt L i.toNat) (atS L i.toNat) _ _ (M.rv (i := 0) rfl) (by omega) (filt_asc _ _)) (fun e w2 ⟨x, z1, z2, z3⟩ => ⟨x, z1, z2, z3.imp (fun ⟨z4, z5⟩ => ⟨z4, by rw [z5], by rw [z5]⟩) id⟩)) rfl rfl ?_; clear F M; intro φ ω v1 F M
        refine sq_pure F (wt0 rfl) (pu_assign rfl (F.ev rfl)) rfl rfl ?_; clear F; intro φ F
        refine wpList_nil ?_
        refine nxb ?_
        refine nxq ?_
        -- region 4
        refine wp_region_lit ?_
        refine sq_pure F (wt0 rfl) (pu_move rfl (F.ev rfl)) rfl rfl ?_; clear F; intro φ F
        refine sq_pure F (wt0 rfl) (pu_add rfl (F.ev rfl) (evk) (by omega) (by omega)) rfl rfl ?_; clear F; intro φ F
        refine sq_pure F (wt0 rfl) (pu_assign rfl (F.ev rfl)) rfl rfl ?_; clear F; intro φ F
        refine wpList_nil ?_
        exact ⟨i + 1, by omega, v1, ((((F.nil.cons (F.get (k := 4) rfl)).cons (F.get (k := 3) rfl)).cons (F.get (k := 2) rfl)).cons (F.get (k := 0) rfl)), (by rw [filt_yes (by omega) (by omega) ((least_t hp7_0).trans hs8)]; exact M), by omega, by omega, Nat.le_trans (filt_len _ _) hlen⟩

end Go.Proofs.Ytbleefegobmboaa
