/- Laws of layer 4. Made by walks/baglaws.py. -/
import Derived.Test.YtplnpjhgnhndpaaBa
import Derived.Test.YtplnpjhgnhndpaaRk
namespace Go.Proofs.Ytplnpjhgnhndpaa
open Go.RowKit Go.Sort

set_option maxHeartbeats 4000000 in
theorem bagPlays_walk (L : List Ct) (a : Value) (w : World) (ha : RdC w a L) :
    Calls Try.prog 3 #[a] w fun e w' => e = .returned (.bool true) ∧ Below w.heap.size w w' := by
  refine enterF Try.func3 rfl 111 Try.ntmps3 [a] rfl [(0, a)] rfl ?_
  intro φ F
  have M := Mm.start [] w
  replace M := M.addArg (ha) (fun _ => by first | (simp; done) | (simp_all; done) | assumption)
  refine wp_seq ?_
  -- region 0
  refine wp_region_lit ?_
  refine sq_pure F (wt0 rfl) (pu_assign rfl (evk)) rfl rfl ?_; clear F; intro φ F
  refine nx ?_
  refine wp_seq ?_
  -- region 1
  refine wp_region_lit ?_
  refine sq_call F M (wt0 rfl) rfl en10 evn (awake_any _) rfl rfl ?_; clear F M; intro φ ω F M
  refine sq_pure F (wt0 rfl) (pu_assign rfl (F.ev rfl)) rfl rfl ?_; clear F; intro φ F
  refine nx ?_
  refine wp_seq ?_
  -- region 2
  refine wp_region_lit ?_
  refine sq_callO (Z := (fun v x => ∃ p g, v = .pointer (some ⟨p, 0, none⟩) ∧ x = .own [p, g] (BagV p g []))) F M (wt0 rfl) rfl en11 evn (new_any _) rfl rfl ?_; clear F M; rintro φ ω _ _ ⟨p2, m2, rfl, rfl⟩ F M
  replace M : Mm [] w ω [.own [p2, m2] (BagV p2 m2 ([] : List Ct)), .arg 3 a L.length (cC L)] := M
  refine sq_pure F (wt0 rfl) (pu_assign rfl (F.ev rfl)) rfl rfl ?_; clear F; intro φ F
  refine nx ?_
  refine wp_seq ?_
  -- region 3
  refine wp_region_lit ?_
  refine sq_pure F (wt0 rfl) (bu28_ rfl) rfl rfl ?_; clear F; intro φ F
  refine sq_box F M (wt0 rfl) rfl (F.ev rfl) (cs := #[(.slice none 0 0)]) rfl rfl rfl ?_; clear F M; intro φ ω g1 F M
  refine sq_pure F (wt0 rfl) (pu_assign rfl (F.ev rfl)) rfl rfl ?_; clear F; intro φ F
  refine nx ?_
  refine wp_seq ?_
  refine wp_seq ?_
  -- region 4
  refine wp_region_lit ?_
  refine sq_pure F (wt0 rfl) (pu_move rfl (F.ev rfl)) rfl rfl ?_; clear F; intro φ F
  refine sq_pure F (wt0 rfl) (pu_eqlP rfl (F.ev rfl) (evk) Try.underlying24) rfl rfl ?_; clear F; intro φ F
  refine nx ?_
  refine wp_cond_false (F.ev rfl) ?_
  refine wp_skip ?_
  refine nxq ?_
  refine wp_seq ?_
  refine wp_seq ?_
  -- region 6
  refine wp_region_lit ?_
  replace M := M.toRef (i := 0) rfl
  replace M : Mm [] w ω [.own (g1 :: (Value.ownBlock (.slice none 0 0)).toList) (RefV g1 (.slice none 0 0) ([] : List Ct)), .own [p2, m2] (BagV p2 m2 ([] : List Ct)), .arg 3 a L.length (cC L)] := M
  refine sq_pure F (wt0 rfl) (pu_assign rfl (evk)) rfl rfl ?_; clear F; intro φ F
  refine nx ?_
  refine wp_block ?_
  refine lp (σ := Int) (fun i φ' w' => ∃ vq : Value, ∃ Cq : List Ct, Fr φ' 111 [(0, a), (3, .bool true), (4, .pointer (some ⟨p2, 0, none⟩)), (5, .pointer (some ⟨g1, 0, none⟩)), (6, .int .i64 i)] ∧ Mm [] w w' [.own (g1 :: (Value.ownBlock vq).toList) (RefV g1 vq Cq), .own [p2, m2] (BagV p2 m2 Cq), .arg 3 a L.length (cC L)] ∧ (0 ≤ i) ∧ (i ≤ (L.length : Int)) ∧ ((Cq.length : Int) ≤ i) ∧ (i ≤ 150)) (fun i => ((L.length : Int) - i).toNat) (0) ⟨(.slice none 0 0), ([] : List Ct), (((((F.nil.cons (F.get (k := 6) rfl)).cons (F.get (k := 5) rfl)).cons (F.get (k := 4) rfl)).cons (F.get (k := 3) rfl)).cons (F.get (k := 0) rfl)), M, Int.le_refl _, by omega, by simp, by omega⟩ ?_
  clear F M
  rintro i φ ω ⟨vq, Cq, F, M, hp1_0, hp1_1, hp1_2, hp1_3⟩
  refine wp_seq ?_
  refine wp_seq ?_
  -- region 7
  refine wp_region_lit ?_
  refine sq_pure F (wt0 rfl) (pu_move rfl (F.ev rfl)) rfl rfl ?_; clear F; intro φ F
  refine sq_pure F (wt0 rfl) (pu_move rfl (F.ev rfl)) rfl rfl ?_; clear F; intro φ F
  refine sq_pure F (wt0 rfl) (pu_len rfl (F.ev rfl) sl22 (M.av (i := 2) rfl)) rfl rfl ?_; clear F; intro φ F
  refine sq_pure F (wt0 rfl) (pu_lss rfl (F.ev rfl) (F.ev rfl)) rfl rfl ?_; clear F; intro φ F
  refine sq_pure F (wt0 rfl) (pu_move rfl (F.ev rfl)) rfl rfl ?_; clear F; intro φ F
  cases hs2 : (decide (i < ((L.length : Nat) : Int)))
  · rw [hs2] at F
    have hs2i := of_decide_eq_false hs2
    refine sq_skip F (wtn F rfl rfl rfl rfl rfl) rfl rfl ?_; clear F; intro φ F
    refine sq_skip F (wtn F rfl rfl rfl rfl rfl) rfl rfl ?_; clear F; intro φ F
    refine sq_pure F (wt0 rfl) (pu_pickf rfl (F.ev rfl) (evk)) rfl rfl ?_; clear F; intro φ F
    refine nx ?_
    refine wp_cond_false (F.ev rfl) ?_
    refine wp_exit ?_
    refine nxe ?_
    refine nxe ?_
    refine nxm ?_
    refine nxq ?_
    refine wp_seq ?_
    -- region 18
    refine wp_region_lit ?_
    refine sq_pure F (wt0 rfl) (pu_move rfl (F.ev rfl)) rfl rfl ?_; clear F; intro φ F
    refine sq_pure F (wt0 rfl) (pu_assign rfl (F.ev rfl)) rfl rfl ?_; clear F; intro φ F
    refine nx ?_
    refine wp_ret ?_
    refine rt_tmp F rfl rfl ?_
    exact ⟨rfl, M.bel⟩
  · rw [hs2] at F
    have hs2i := of_decide_eq_true hs2
    refine sq_pure F (wt1 F rfl rfl rfl rfl rfl) (pu_move rfl (F.ev rfl)) rfl rfl ?_; clear F; intro φ F
    refine sq_pure F (wt1 F rfl rfl rfl rfl rfl) (pu_lss rfl (F.ev rfl) (evk)) rfl rfl ?_; clear F; intro φ F
    refine sq_pure F (wt0 rfl) (pu_pickt rfl (F.ev rfl) (F.ev rfl)) rfl rfl ?_; clear F; intro φ F
    refine nx ?_
    cases hs3 : (decide (i < 150))
    · rw [hs3] at F
      have hs3i := of_decide_eq_false hs3
      refine wp_cond_false (F.ev rfl) ?_
      refine wp_exit ?_
      refine nxe ?_
      refine nxe ?_
      refine nxm ?_
      refine nxq ?_
      refine wp_seq ?_
      -- region 18
      refine wp_region_lit ?_
      refine sq_pure F (wt0 rfl) (pu_move rfl (F.ev rfl)) rfl rfl ?_; clear F; intro φ F
      refine sq_pure F (wt0 rfl) (pu_assign rfl (F.ev rfl)) rfl rfl ?_; clear F; intro φ F
      refine nx ?_
      refine wp_ret ?_
      refine rt_tmp F rfl rfl ?_
      exact ⟨rfl, M.bel⟩
    · rw [hs3] at F
      have hs3i := of_decide_eq_true hs3
      refine wp_cond_true (F.ev rfl) ?_
      refine wp_skip ?_
      refine nxq ?_
      refine wp_seq ?_
      refine wp_block ?_
      refine wp_seq ?_
      refine wp_seq ?_
      -- region 9
      refine wp_region_lit ?_
      refine sq_pure F (wt0 rfl) (pu_move rfl (F.ev rfl)) rfl rfl ?_; clear F; intro φ F
      refine sq_pure F (wt0 rfl) (pu_move rfl (F.ev rfl)) rfl rfl ?_; clear F; intro φ F
      refine sq_pure F (wt0 rfl) (pu_ix rfl (F.ev rfl) (F.ev rfl) sl22 (M.av (i := 2) rfl) (by omega) (by omega)) rfl rfl ?_; clear F; intro φ F
      refine sq_pure F (wt0 rfl) (pu_field rfl (F.ev rfl) fo32_0) rfl rfl ?_; clear F; intro φ F
      refine sq_rd F (wt0 rfl) (ld_elP (q := 0) (k := i.toNat * 3) rfl (F.ev rfl) agg30 (fun _ e => e ▸ (M.av (i := 2) rfl)) (by omega) (cC_at (by first | omega | (simp; done) | (simp; omega))) (by omega) rfl rfl) rfl rfl ?_; clear F; intro φ F
      refine sq_pure F (wt0 rfl) (bu30_1 rfl (evk)) rfl rfl ?_; clear F; intro φ F
      refine sq_pure F (wt0 rfl) (pu_eqlA rfl (F.ev rfl) (F.ev rfl) eqg30 (fun w => eqS30 (atC L i.toNat).1 (St.mk 0 (-1)) w)) rfl rfl ?_; clear F; intro φ F
      refine nx ?_
      cases hs4 : (decide ((atC L i.toNat).1 = (St.mk 0 (-1))))
      · rw [hs4] at F
        have hs4i := of_decide_eq_false hs4
        refine wp_cond_false (F.ev rfl) ?_
        refine wp_skip ?_
        refine nxq ?_
        refine wp_seq ?_
        -- region 12
        refine rg_heads0 F M 11 [.val (.pointer (some ⟨p2, 0, none⟩)), .val (a), .val (.int .i64 i), .val (.pointer (some ⟨gof a, oof a + (i.toNat * 3), none⟩)), .val (.pointer (some ⟨gof a, oof a + (i.toNat * 3), none⟩)), .val (.agg #[.int .i64 ((atC L i.toNat).1.e), .int .i64 ((atC L i.toNat).1.r)]), .val (a), .val (.int .i64 i), .val (.pointer (some ⟨gof a, oof a + (i.toNat * 3), none⟩)), .val (.pointer (some ⟨gof a, oof a + (i.toNat * 3) + 2, none⟩)), .val (.int .i64 ((atC L i.toNat).2))] rfl mixedOK (by kernel_rfl) rfl rfl ⟨?_, ?_, ?_, ?_, ?_, ?_, ?_, ?_, ?_, ?_, ?_, trivial⟩ ?_
        · intro φ1 ω1 hb F1 hdep hold; have F := (F1.cons (F.was hold (s := 4) rfl rfl)); have M := M.below hb; exact ob_rd (wt0 rfl) (Pure.rdy (pu_move rfl (F.ev rfl))) rfl
        · intro φ1 ω1 hb F1 hdep hold; have F := (F1.cons (F.was hold (s := 0) rfl rfl)); have M := M.below hb; exact ob_rd (wt0 rfl) (Pure.rdy (pu_move rfl (F.ev rfl))) rfl
        · intro φ1 ω1 hb F1 hdep hold; have F := (F1.cons (F.was hold (s := 6) rfl rfl)); have M := M.below hb; exact ob_rd (wt0 rfl) (Pure.rdy (pu_move rfl (F.ev rfl))) rfl
        · intro φ1 ω1 hb F1 hdep hold; have F := ((F1.cons (F1.dep hdep 1 (by kernel_rfl) rfl rfl rfl)).cons (F1.dep hdep 2 (by kernel_rfl) rfl rfl rfl)); have M := M.below hb; exact ob_rd (wt0 rfl) (Pure.rdy (pu_ix rfl (F.ev rfl) (F.ev rfl) sl22 (M.av (i := 2) rfl) (by omega) (by omega))) rfl
        · intro φ1 ω1 hb F1 hdep hold; have F := (F1.cons (F1.dep hdep 3 (by kernel_rfl) rfl rfl rfl)); have M := M.below hb; exact ob_rd (wt0 rfl) (Pure.rdy (pu_field rfl (F.ev rfl) fo32_0)) rfl
        · intro φ1 ω1 hb F1 hdep hold; have F := (F1.cons (F1.dep hdep 4 (by kernel_rfl) rfl rfl rfl)); have M := M.below hb; exact ob_rd (wt0 rfl) (ld_elP (q := 0) (k := i.toNat * 3) rfl (F.ev rfl) agg30 (fun _ e => e ▸ (M.av (i := 2) rfl)) (by omega) (cC_at (by first | omega | (simp; done) | (simp; omega))) (by omega) rfl rfl) rfl
        · intro φ1 ω1 hb F1 hdep hold; have F := (F1.cons (F.was hold (s := 0) rfl rfl)); have M := M.below hb; exact ob_rd (wt0 rfl) (Pure.rdy (pu_move rfl (F.ev rfl))) rfl
        · intro φ1 ω1 hb F1 hdep hold; have F := (F1.cons (F.was hold (s := 6) rfl rfl)); have M := M.below hb; exact ob_rd (wt0 rfl) (Pure.rdy (pu_move rfl (F.ev rfl))) rfl
        · intro φ1 ω1 hb F1 hdep hold; have F := ((F1.cons (F1.dep hdep 6 (by kernel_rfl) rfl rfl rfl)).cons (F1.dep hdep 7 (by kernel_rfl) rfl rfl rfl)); have M := M.below hb; exact ob_rd (wt0 rfl) (Pure.rdy (pu_ix rfl (F.ev rfl) (F.ev rfl) sl22 (M.av (i := 2) rfl) (by omega) (by omega))) rfl
        · intro φ1 ω1 hb F1 hdep hold; have F := (F1.cons (F1.dep hdep 8 (by kernel_rfl) rfl rfl rfl)); have M := M.below hb; exact ob_rd (wt0 rfl) (Pure.rdy (pu_field rfl (F.ev rfl) fo32_1)) rfl
        · intro φ1 ω1 hb F1 hdep hold; have F := (F1.cons (F1.dep hdep 9 (by kernel_rfl) rfl rfl rfl)); have M := M.below hb; exact ob_rd (wt0 rfl) (ld_elP1 (q := 2) (k := i.toNat * 3) rfl (F.ev rfl) one3 (fun _ e => e ▸ (M.av (i := 2) rfl)) (by omega) (cC_at (by first | omega | (simp; done) | (simp; omega))) rfl) rfl
        clear F M; intro φ ω F M
        simp only [headL, List.take_succ_cons, List.take_zero, HV.value] at F
        refine sq_callT (Z := (fun v x' => v = .int .i64 (addE Cq ((atC L i.toNat).1) ((atC L i.toNat).2)) ∧ x' = .own [p2, m2] (BagV p2 m2 (addC Cq ((atC L i.toNat).1) ((atC L i.toNat).2))))) F M (wt0 rfl) rfl en13 (evc (F.ev rfl) (evc (F.ev rfl) (evc (F.ev rfl) evn))) (i := 1) rfl (add_any Cq p2 m2 ((atC L i.toNat).1) ((atC L i.toNat).2) _ (M.pv (i := 1) rfl)) rfl rfl ?_; clear F M; rintro φ ω _ _ ⟨rfl, rfl⟩ F M
        have hl_p2_4_0 := addC_len Cq ((atC L i.toNat).1) ((atC L i.toNat).2)
        replace M : Mm [] w ω [.own (g1 :: (Value.ownBlock vq).toList) (RefV g1 vq Cq), .own [p2, m2] (BagV p2 m2 (addC Cq ((atC L i.toNat).1) ((atC L i.toNat).2))), .arg 3 a L.length (cC L)] := M
        refine sq_pure F (wt0 rfl) (pu_assign rfl (F.ev rfl)) rfl rfl ?_; clear F; intro φ F
        refine nx ?_
        refine wp_seq ?_
        -- region 13
        refine rg_heads0 F M 11 [.val (.pointer (some ⟨g1, 0, none⟩)), .val (a), .val (.int .i64 i), .val (.pointer (some ⟨gof a, oof a + (i.toNat * 3), none⟩)), .val (.pointer (some ⟨gof a, oof a + (i.toNat * 3), none⟩)), .val (.agg #[.int .i64 ((atC L i.toNat).1.e), .int .i64 ((atC L i.toNat).1.r)]), .val (a), .val (.int .i64 i), .val (.pointer (some ⟨gof a, oof a + (i.toNat * 3), none⟩)), .val (.pointer (some ⟨gof a, oof a + (i.toNat * 3) + 2, none⟩)), .val (.int .i64 ((atC L i.toNat).2))] rfl mixedOK (by kernel_rfl) rfl rfl ⟨?_, ?_, ?_, ?_, ?_, ?_, ?_, ?_, ?_, ?_, ?_, trivial⟩ ?_
        · intro φ1 ω1 hb F1 hdep hold; have F := (F1.cons (F.was hold (s := 5) rfl rfl)); have M := M.below hb; exact ob_rd (wt0 rfl) (Pure.rdy (pu_move rfl (F.ev rfl))) rfl
        · intro φ1 ω1 hb F1 hdep hold; have F := (F1.cons (F.was hold (s := 0) rfl rfl)); have M := M.below hb; exact ob_rd (wt0 rfl) (Pure.rdy (pu_move rfl (F.ev rfl))) rfl
        · intro φ1 ω1 hb F1 hdep hold; have F := (F1.cons (F.was hold (s := 6) rfl rfl)); have M := M.below hb; exact ob_rd (wt0 rfl) (Pure.rdy (pu_move rfl (F.ev rfl))) rfl
        · intro φ1 ω1 hb F1 hdep hold; have F := ((F1.cons (F1.dep hdep 1 (by kernel_rfl) rfl rfl rfl)).cons (F1.dep hdep 2 (by kernel_rfl) rfl rfl rfl)); have M := M.below hb; exact ob_rd (wt0 rfl) (Pure.rdy (pu_ix rfl (F.ev rfl) (F.ev rfl) sl22 (M.av (i := 2) rfl) (by omega) (by omega))) rfl
        · intro φ1 ω1 hb F1 hdep hold; have F := (F1.cons (F1.dep hdep 3 (by kernel_rfl) rfl rfl rfl)); have M := M.below hb; exact ob_rd (wt0 rfl) (Pure.rdy (pu_field rfl (F.ev rfl) fo32_0)) rfl
        · intro φ1 ω1 hb F1 hdep hold; have F := (F1.cons (F1.dep hdep 4 (by kernel_rfl) rfl rfl rfl)); have M := M.below hb; exact ob_rd (wt0 rfl) (ld_elP (q := 0) (k := i.toNat * 3) rfl (F.ev rfl) agg30 (fun _ e => e ▸ (M.av (i := 2) rfl)) (by omega) (cC_at (by first | omega | (simp; done) | (simp; omega))) (by omega) rfl rfl) rfl
        · intro φ1 ω1 hb F1 hdep hold; have F := (F1.cons (F.was hold (s := 0) rfl rfl)); have M := M.below hb; exact ob_rd (wt0 rfl) (Pure.rdy (pu_move rfl (F.ev rfl))) rfl
        · intro φ1 ω1 hb F1 hdep hold; have F := (F1.cons (F.was hold (s := 6) rfl rfl)); have M := M.below hb; exact ob_rd (wt0 rfl) (Pure.rdy (pu_move rfl (F.ev rfl))) rfl
        · intro φ1 ω1 hb F1 hdep hold; have F := ((F1.cons (F1.dep hdep 6 (by kernel_rfl) rfl rfl rfl)).cons (F1.dep hdep 7 (by kernel_rfl) rfl rfl rfl)); have M := M.below hb; exact ob_rd (wt0 rfl) (Pure.rdy (pu_ix rfl (F.ev rfl) (F.ev rfl) sl22 (M.av (i := 2) rfl) (by omega) (by omega))) rfl
        · intro φ1 ω1 hb F1 hdep hold; have F := (F1.cons (F1.dep hdep 8 (by kernel_rfl) rfl rfl rfl)); have M := M.below hb; exact ob_rd (wt0 rfl) (Pure.rdy (pu_field rfl (F.ev rfl) fo32_1)) rfl
        · intro φ1 ω1 hb F1 hdep hold; have F := (F1.cons (F1.dep hdep 9 (by kernel_rfl) rfl rfl rfl)); have M := M.below hb; exact ob_rd (wt0 rfl) (ld_elP1 (q := 2) (k := i.toNat * 3) rfl (F.ev rfl) one3 (fun _ e => e ▸ (M.av (i := 2) rfl)) (by omega) (cC_at (by first | omega | (simp; done) | (simp; omega))) rfl) rfl
        clear F M; intro φ ω F M
        simp only [headL, List.take_succ_cons, List.take_zero, HV.value] at F
        refine sq_callT (Z := (fun u x' => ∃ v', u = .int .i64 (addE Cq ((atC L i.toNat).1) ((atC L i.toNat).2)) ∧ x' = .own (g1 :: v'.ownBlock.toList) (RefV g1 v' (addC Cq ((atC L i.toNat).1) ((atC L i.toNat).2))))) F M (wt0 rfl) rfl en14 (evc (F.ev rfl) (evc (F.ev rfl) (evc (F.ev rfl) evn))) (i := 0) rfl (radd_any Cq g1 vq ((atC L i.toNat).1) ((atC L i.toNat).2) _ (M.pv (i := 0) rfl) (by first | omega | (simp; done) | (simp; omega))) rfl rfl ?_; clear F M; rintro φ ω _ _ ⟨rv3, rfl, rfl⟩ F M
        replace M : Mm [] w ω [.own (g1 :: (Value.ownBlock rv3).toList) (RefV g1 rv3 (addC Cq ((atC L i.toNat).1) ((atC L i.toNat).2))), .own [p2, m2] (BagV p2 m2 (addC Cq ((atC L i.toNat).1) ((atC L i.toNat).2))), .arg 3 a L.length (cC L)] := M
        refine sq_pure F (wt0 rfl) (pu_assign rfl (F.ev rfl)) rfl rfl ?_; clear F; intro φ F
        refine nx ?_
        refine wp_seq ?_
        -- region 14
        refine rg_J F 7 (fun Dd dv w' => (Dd 0 = true → dv 0 = .pointer (some ⟨p2, 0, none⟩)) ∧ (Dd 2 = true → dv 2 = .pointer (some ⟨g1, 0, none⟩)) ∧ (Dd 3 = true → dv 3 = .pointer (some ⟨g1, 0, none⟩)) ∧ (Dd 4 = true → dv 4 = .pointer (some ⟨g1, 0, none⟩)) ∧ (Dd 5 = true → dv 5 = rv3) ∧ (Dd 6 = true → dv 6 = .bool (decide (((addC Cq ((atC L i.toNat).1) ((atC L i.toNat).2))) = (addC Cq ((atC L i.toNat).1) ((atC L i.toNat).2))))) ∧ Mm [] w w' [(if Dd 1 = true then .row 32 3 (dv 1) (((addC Cq ((atC L i.toNat).1) ((atC L i.toNat).2))).length) (cC ((addC Cq ((atC L i.toNat).1) ((atC L i.toNat).2)))) else .arg 1 (.slice none 0 0) 0 []), .own (g1 :: (Value.ownBlock rv3).toList) (RefV g1 rv3 (addC Cq ((atC L i.toNat).1) ((atC L i.toNat).2))), .own [p2, m2] (BagV p2 m2 (addC Cq ((atC L i.toNat).1) ((atC L i.toNat).2))), .arg 3 a L.length (cC L)]) (fun dv => ⟨(fun h => by cases h), (fun h => by cases h), (fun h => by cases h), (fun h => by cases h), (fun h => by cases h), (fun h => by cases h), by simpa using (M.drew).dead⟩) mixedOK (by kernel_rfl) rfl ⟨?_, ?_, ?_, ?_, ?_, ?_, ?_, trivial⟩ ?_
        · intro Dd φ1 dv ω1 ⟨h0, h2, h3, h4, h5, h6, M⟩ hDi hdep hcl F1 hdone hold
          have F := (F1.cons (F.was hold (s := 4) rfl rfl))
          try simp only [hDi, Bool.false_eq_true, if_false, if_true, ite_true, ite_false] at M
          exact ⟨wt0 rfl, ow_run ((pu_move rfl (F.ev rfl)) ω1) ⟨_, rfl, newP, keepP rfl h2, keepP rfl h3, keepP rfl h4, keepP rfl h5, keepP rfl h6, by simpa [setB, setV, hDi, Bool.false_eq_true, if_false, if_true, ite_true, ite_false] using M⟩⟩
        · intro Dd φ1 dv ω1 ⟨h0, h2, h3, h4, h5, h6, M⟩ hDi hdep hcl F1 hdone hold
          have d0 : Dd 0 = true := hdep 0 (by kernel_rfl)
          have F := (F1.cons (k := 63) (hdone 0 _ _ d0 rfl rfl |>.trans (h0 d0)))
          try simp only [d0, hDi, Bool.false_eq_true, if_false, if_true, ite_true, ite_false] at M
          exact ⟨wt0 rfl, ow_callZ rfl en16 (evc (F.ev rfl) evn) (Z := fun x w2 => Below ω1.heap.size ω1 w2 ∧ w2.ownsRow ω1.heap.size 32 3 x (((addC Cq ((atC L i.toNat).1) ((atC L i.toNat).2))).length) (cC ((addC Cq ((atC L i.toNat).1) ((atC L i.toNat).2))))) (all_any (addC Cq ((atC L i.toNat).1) ((atC L i.toNat).2)) p2 m2 _ (M.pv (i := 2) rfl) (by first | omega | (simp; done) | (simp; omega))) (fun x w2 ⟨hb2, ho2⟩ => by have M2 := M.freshRow (i := 0) rfl hb2 ho2; exact ⟨_, rfl, keepP rfl h0, keepP rfl h2, keepP rfl h3, keepP rfl h4, keepP rfl h5, keepP rfl h6, by simpa [setB, setV, d0, hDi, Bool.false_eq_true, if_false, if_true, ite_true, ite_false] using M2⟩)⟩
        · intro Dd φ1 dv ω1 ⟨h0, h2, h3, h4, h5, h6, M⟩ hDi hdep hcl F1 hdone hold
          have F := (F1.cons (F.was hold (s := 5) rfl rfl))
          try simp only [hDi, Bool.false_eq_true, if_false, if_true, ite_true, ite_false] at M
          exact ⟨wt0 rfl, ow_run ((pu_move rfl (F.ev rfl)) ω1) ⟨_, rfl, keepP rfl h0, newP, keepP rfl h3, keepP rfl h4, keepP rfl h5, keepP rfl h6, by simpa [setB, setV, hDi, Bool.false_eq_true, if_false, if_true, ite_true, ite_false] using M⟩⟩
        · intro Dd φ1 dv ω1 ⟨h0, h2, h3, h4, h5, h6, M⟩ hDi hdep hcl F1 hdone hold
          have d2 : Dd 2 = true := hdep 2 (by kernel_rfl)
          have F := (F1.cons (k := 65) (hdone 2 _ _ d2 rfl rfl |>.trans (h2 d2)))
          try simp only [d2, hDi, Bool.false_eq_true, if_false, if_true, ite_true, ite_false] at M
          exact ⟨wt0 rfl, ow_run ((pu_nilCheck rfl (F.ev rfl)) ω1) ⟨_, rfl, keepP rfl h0, keepP rfl h2, newP, keepP rfl h4, keepP rfl h5, keepP rfl h6, by simpa [setB, setV, d2, hDi, Bool.false_eq_true, if_false, if_true, ite_true, ite_false] using M⟩⟩
        · intro Dd φ1 dv ω1 ⟨h0, h2, h3, h4, h5, h6, M⟩ hDi hdep hcl F1 hdone hold
          have d3 : Dd 3 = true := hdep 3 (by kernel_rfl)
          have d2 : Dd 2 = true := hcl _ 2 d3 (by kernel_rfl)
          have F := (F1.cons (k := 66) (hdone 3 _ _ d3 rfl rfl |>.trans (h3 d3)))
          try simp only [d2, d3, hDi, Bool.false_eq_true, if_false, if_true, ite_true, ite_false] at M
          exact ⟨wt0 rfl, ow_run ((pu_field rfl (F.ev rfl) fo28_0) ω1) ⟨_, rfl, keepP rfl h0, keepP rfl h2, keepP rfl h3, newP, keepP rfl h5, keepP rfl h6, by simpa [setB, setV, d2, d3, hDi, Bool.false_eq_true, if_false, if_true, ite_true, ite_false] using M⟩⟩
        · intro Dd φ1 dv ω1 ⟨h0, h2, h3, h4, h5, h6, M⟩ hDi hdep hcl F1 hdone hold
          have d4 : Dd 4 = true := hdep 4 (by kernel_rfl)
          have d3 : Dd 3 = true := hcl _ 3 d4 (by kernel_rfl)
          have d2 : Dd 2 = true := hcl _ 2 d3 (by kernel_rfl)
          have F := (F1.cons (k := 67) (hdone 4 _ _ d4 rfl rfl |>.trans (h4 d4)))
          try simp only [d2, d3, d4, hDi, Bool.false_eq_true, if_false, if_true, ite_true, ite_false] at M
          exact ⟨wt0 rfl, ow_run ((ld_cell rfl (F.ev rfl) one22 (fun w_ h_ => (M.pvE (i := 1) rfl w_ h_).1) rfl) ω1 rfl) ⟨_, rfl, keepP rfl h0, keepP rfl h2, keepP rfl h3, keepP rfl h4, newP, keepP rfl h6, by simpa [setB, setV, d2, d3, d4, hDi, Bool.false_eq_true, if_false, if_true, ite_true, ite_false] using M⟩⟩
        · intro Dd φ1 dv ω1 ⟨h0, h2, h3, h4, h5, h6, M⟩ hDi hdep hcl F1 hdone hold
          have d1 : Dd 1 = true := hdep 1 (by kernel_rfl)
          have d5 : Dd 5 = true := hdep 5 (by kernel_rfl)
          have d0 : Dd 0 = true := hcl _ 0 d1 (by kernel_rfl)
          have d4 : Dd 4 = true := hcl _ 4 d5 (by kernel_rfl)
          have d3 : Dd 3 = true := hcl _ 3 d4 (by kernel_rfl)
          have d2 : Dd 2 = true := hcl _ 2 d3 (by kernel_rfl)
          have F := ((F1.cons (k := 64) (hdone 1 _ _ d1 rfl rfl)).cons (k := 68) (hdone 5 _ _ d5 rfl rfl |>.trans (h5 d5)))
          try simp only [d0, d1, d2, d3, d4, d5, hDi, Bool.false_eq_true, if_false, if_true, ite_true, ite_false] at M
          exact ⟨wt0 rfl, ow_callZ rfl en15 (evc (F.ev rfl) (evc (F.ev rfl) evn)) (Z := fun x w2 => x = .bool (decide (((addC Cq ((atC L i.toNat).1) ((atC L i.toNat).2))) = (addC Cq ((atC L i.toNat).1) ((atC L i.toNat).2)))) ∧ Below ω1.heap.size ω1 w2) (Calls.mono (csame_any ((addC Cq ((atC L i.toNat).1) ((atC L i.toNat).2))) (addC Cq ((atC L i.toNat).1) ((atC L i.toNat).2)) _ _ _ (M.rv (i := 0) rfl) ((own_rdv (M.pv (i := 1) rfl).2.1)) (by first | omega | (simp; done) | (simp; omega)) (by first | omega | (simp; done) | (simp; omega))) (fun e w2 h => ⟨_, h.1, rfl, h.2⟩)) (fun x w2 ⟨hx2, hb2⟩ => by subst hx2; have M2 := M.below hb2; exact ⟨_, rfl, keepP rfl h0, keepP rfl h2, keepP rfl h3, keepP rfl h4, keepP rfl h5, newP, by simpa [setB, setV, d0, d1, d2, d3, d4, d5, hDi, Bool.false_eq_true, if_false, if_true, ite_true, ite_false] using M2⟩)⟩
        clear M; rintro dv φ ω ⟨h0, h2, h3, h4, h5, h6, M⟩ F
        simp only [hvL, List.take_succ_cons, List.take_zero] at F
        rw [h6 (by simp)] at F
        rw [h5 (by simp)] at F
        rw [h4 (by simp)] at F
        rw [h3 (by simp)] at F
        rw [h2 (by simp)] at F
        rw [h0 (by simp)] at F
        replace M : Mm [] w ω [.row 32 3 (dv 1) (((addC Cq ((atC L i.toNat).1) ((atC L i.toNat).2))).length) (cC ((addC Cq ((atC L i.toNat).1) ((atC L i.toNat).2)))), .own (g1 :: (Value.ownBlock rv3).toList) (RefV g1 rv3 (addC Cq ((atC L i.toNat).1) ((atC L i.toNat).2))), .own [p2, m2] (BagV p2 m2 (addC Cq ((atC L i.toNat).1) ((atC L i.toNat).2))), .arg 3 a L.length (cC L)] := by simpa using M
        clear h0 h2 h3 h4 h5 h6
        generalize dv 1 = v1 at F M
        refine sq_pure F (wt0 rfl) (pu_assign rfl (F.ev rfl)) rfl rfl ?_; clear F; intro φ F
        rw [(show decide (((addC Cq ((atC L i.toNat).1) ((atC L i.toNat).2))) = (addC Cq ((atC L i.toNat).1) ((atC L i.toNat).2))) = true by simp)] at F
        refine nx ?_
        refine wp_seq ?_
        -- region 15
        refine wp_region_lit ?_
        refine sq_pure F (wt0 rfl) (pu_move rfl (F.ev rfl)) rfl rfl ?_; clear F; intro φ F
        refine sq_callN F M (wt0 rfl) rfl en18 (evc (F.ev rfl) evn) (front_any (addC Cq ((atC L i.toNat).1) ((atC L i.toNat).2)) p2 m2 _ (M.pv (i := 2) rfl) (by first | omega | (simp; done) | (simp; omega))) rfl rfl ?_; clear F M; intro φ ω v2 F M
        refine sq_pure F (wt0 rfl) (pu_move rfl (F.ev rfl)) rfl rfl ?_; clear F; intro φ F
        refine sq_callN F M (wt0 rfl) rfl en19 (evc (F.ev rfl) evn) (rfront_any (addC Cq ((atC L i.toNat).1) ((atC L i.toNat).2)) g1 rv3 _ (M.pv (i := 2) rfl).1 ((own_rdv (M.pv (i := 2) rfl).2.1)) (by first | omega | (simp; done) | (simp; omega))) rfl rfl ?_; clear F M; intro φ ω v3 F M
        refine sq_call F M (wt0 rfl) rfl en17 (evc (F.ev rfl) (evc (F.ev rfl) evn)) (rsame_any (minL (posL (addC Cq ((atC L i.toNat).1) ((atC L i.toNat).2)))) (minL (posL (addC Cq ((atC L i.toNat).1) ((atC L i.toNat).2)))) _ _ _ (M.rv (i := 1) rfl) (M.rv (i := 0) rfl) (Nat.le_trans (minL_len _) (Nat.le_trans (posL_len _) (by omega))) (Nat.le_trans (minL_len _) (Nat.le_trans (posL_len _) (by omega)))) rfl rfl ?_; clear F M; intro φ ω F M
        rw [(show decide ((minL (posL (addC Cq ((atC L i.toNat).1) ((atC L i.toNat).2)))) = (minL (posL (addC Cq ((atC L i.toNat).1) ((atC L i.toNat).2))))) = true by simp)] at F
        refine sq_pure F (wt0 rfl) (pu_assign rfl (F.ev rfl)) rfl rfl ?_; clear F; intro φ F
        refine nx ?_
        refine wp_seq ?_
        -- region 16
        refine rg_quiet M mixedOK (by kernel_rfl) ?_
        refine qt_pure F (wt0 rfl) (pu_move rfl (F.ev rfl)) rfl rfl ?_; clear F; intro φ F
        refine qt_pure F (wt0 rfl) (pu_move rfl (F.ev rfl)) rfl rfl ?_; clear F; intro φ F
        refine qt_pure F (wt0 rfl) (pu_neqI rfl (F.ev rfl) (F.ev rfl)) rfl rfl ?_; clear F; intro φ F
        rw [(show decide (addE Cq ((atC L i.toNat).1) ((atC L i.toNat).2) = addE Cq ((atC L i.toNat).1) ((atC L i.toNat).2)) = true by simp), show (!true) = false from rfl] at F
        refine qt_pure F (wt0 rfl) (pu_move rfl (F.ev rfl)) rfl rfl ?_; clear F; intro φ F
        refine qt_pure F (wt1 F rfl rfl rfl rfl rfl) (pu_move rfl (F.ev rfl)) rfl rfl ?_; clear F; intro φ F
        refine qt_pure F (wt1 F rfl rfl rfl rfl rfl) (pu_not rfl (F.ev rfl)) rfl rfl ?_; clear F; intro φ F
        rw [show (!true) = false from rfl] at F
        refine qt_pure F (wt0 rfl) (pu_pickf rfl (F.ev rfl) (F.ev rfl)) rfl rfl ?_; clear F; intro φ F
        refine qt_pure F (wt0 rfl) (pu_move rfl (F.ev rfl)) rfl rfl ?_; clear F; intro φ F
        refine qt_pure F (wt1 F rfl rfl rfl rfl rfl) (pu_move rfl (F.ev rfl)) rfl rfl ?_; clear F; intro φ F
        refine qt_pure F (wt1 F rfl rfl rfl rfl rfl) (pu_not rfl (F.ev rfl)) rfl rfl ?_; clear F; intro φ F
        rw [show (!true) = false from rfl] at F
        refine qt_pure F (wt0 rfl) (pu_pickf rfl (F.ev rfl) (F.ev rfl)) rfl rfl ?_; clear F; intro φ F
        refine qt_pure F (wt0 rfl) (pu_move rfl (F.ev rfl)) rfl rfl ?_; clear F; intro φ F
        refine qt_pure F (wt1 F rfl rfl rfl rfl rfl) (pu_move rfl (F.ev rfl)) rfl rfl ?_; clear F; intro φ F
        refine qt_call F (wt1 F rfl rfl rfl rfl rfl) rfl en20 (evc (F.ev rfl) evn) (fun w' h => calls_below h (lacks_any (addC Cq ((atC L i.toNat).1) ((atC L i.toNat).2)) p2 m2 w' (M.pvB (i := 4) rfl _ h))) rfl rfl ?_; clear F; intro φ F
        refine qt_pure F (wt1 F rfl rfl rfl rfl rfl) (pu_move rfl (F.ev rfl)) rfl rfl ?_; clear F; intro φ F
        refine qt_call F (wt1 F rfl rfl rfl rfl rfl) rfl en21 (evc (F.ev rfl) evn) (fun w' h => calls_below h (rlacks_any (addC Cq ((atC L i.toNat).1) ((atC L i.toNat).2)) g1 rv3 w' (M.pvB (i := 3) rfl _ h).1 (RdV.below ((own_rdv (M.pv (i := 3) rfl).2.1)) h) (by first | omega | (simp; done) | (simp; omega)))) rfl rfl ?_; clear F; intro φ F
        cases hs5 : (lackB (addC Cq ((atC L i.toNat).1) ((atC L i.toNat).2)))
        · rw [hs5] at F
          refine qt_pure F (wt1 F rfl rfl rfl rfl rfl) (pu_neqB rfl (F.ev rfl) (F.ev rfl) Try.underlying4) rfl rfl ?_; clear F; intro φ F
          rw [show (false != false) = false from rfl] at F
          refine qt_pure F (wt0 rfl) (pu_pickf rfl (F.ev rfl) (F.ev rfl)) rfl rfl ?_; clear F; intro φ F
          refine qt_pure F (wt0 rfl) (pu_move rfl (F.ev rfl)) rfl rfl ?_; clear F; intro φ F
          refine qt_pure F (wt1 F rfl rfl rfl rfl rfl) (pu_move rfl (F.ev rfl)) rfl rfl ?_; clear F; intro φ F
          refine qt_pure F (wt1 F rfl rfl rfl rfl rfl) (pu_move rfl (F.ev rfl)) rfl rfl ?_; clear F; intro φ F
          refine qt_pure F (wt1 F rfl rfl rfl rfl rfl) (pu_move rfl (F.ev rfl)) rfl rfl ?_; clear F; intro φ F
          refine qt_pure F (wt1 F rfl rfl rfl rfl rfl) (pu_ix rfl (F.ev rfl) (F.ev rfl) sl22 (M.av (i := 5) rfl) (by omega) (by omega)) rfl rfl ?_; clear F; intro φ F
          refine qt_pure F (wt1 F rfl rfl rfl rfl rfl) (pu_field rfl (F.ev rfl) fo32_0) rfl rfl ?_; clear F; intro φ F
          refine qt_rd F (wt1 F rfl rfl rfl rfl rfl) (ld_elP (q := 0) (k := i.toNat * 3) rfl (F.ev rfl) agg30 (fun _ h => RdV.below (M.av (i := 5) rfl) h) (by omega) (cC_at (by first | omega | (simp; done) | (simp; omega))) (by omega) rfl rfl) rfl rfl ?_; clear F; intro φ F
          refine qt_call F (wt1 F rfl rfl rfl rfl rfl) rfl en22 (evc (F.ev rfl) (evc (F.ev rfl) evn)) (fun w' h => calls_below h (of_any (addC Cq ((atC L i.toNat).1) ((atC L i.toNat).2)) p2 m2 ((atC L i.toNat).1) w' (M.pvB (i := 4) rfl _ h))) rfl rfl ?_; clear F; intro φ F
          refine qt_pure F (wt1 F rfl rfl rfl rfl rfl) (pu_move rfl (F.ev rfl)) rfl rfl ?_; clear F; intro φ F
          refine qt_pure F (wt1 F rfl rfl rfl rfl rfl) (pu_move rfl (F.ev rfl)) rfl rfl ?_; clear F; intro φ F
          refine qt_pure F (wt1 F rfl rfl rfl rfl rfl) (pu_move rfl (F.ev rfl)) rfl rfl ?_; clear F; intro φ F
          refine qt_pure F (wt1 F rfl rfl rfl rfl rfl) (pu_ix rfl (F.ev rfl) (F.ev rfl) sl22 (M.av (i := 5) rfl) (by omega) (by omega)) rfl rfl ?_; clear F; intro φ F
          refine qt_pure F (wt1 F rfl rfl rfl rfl rfl) (pu_field rfl (F.ev rfl) fo32_0) rfl rfl ?_; clear F; intro φ F
          refine qt_rd F (wt1 F rfl rfl rfl rfl rfl) (ld_elP (q := 0) (k := i.toNat * 3) rfl (F.ev rfl) agg30 (fun _ h => RdV.below (M.av (i := 5) rfl) h) (by omega) (cC_at (by first | omega | (simp; done) | (simp; omega))) (by omega) rfl rfl) rfl rfl ?_; clear F; intro φ F
          refine qt_call F (wt1 F rfl rfl rfl rfl rfl) rfl en23 (evc (F.ev rfl) (evc (F.ev rfl) evn)) (fun w' h => calls_below h (rof_any (addC Cq ((atC L i.toNat).1) ((atC L i.toNat).2)) g1 rv3 ((atC L i.toNat).1) w' (M.pvB (i := 3) rfl _ h).1 (RdV.below ((own_rdv (M.pv (i := 3) rfl).2.1)) h) (by first | omega | (simp; done) | (simp; omega)))) rfl rfl ?_; clear F; intro φ F
          refine qt_pure F (wt1 F rfl rfl rfl rfl rfl) (pu_neqI rfl (F.ev rfl) (F.ev rfl)) rfl rfl ?_; clear F; intro φ F
          rw [(show decide (ofC (addC Cq ((atC L i.toNat).1) ((atC L i.toNat).2)) ((atC L i.toNat).1) = ofC (addC Cq ((atC L i.toNat).1) ((atC L i.toNat).2)) ((atC L i.toNat).1)) = true by simp), show (!true) = false from rfl] at F
          refine qt_pure F (wt0 rfl) (pu_pickf rfl (F.ev rfl) (F.ev rfl)) rfl rfl ?_; clear F; intro φ F
          refine wpQuiet_nil ?_
          clear M; intro ω M
          refine nxq ?_
          refine wp_cond_false (F.ev rfl) ?_
          refine wp_skip ?_
          refine nxb ?_
          refine nxq ?_
          -- region 8
          refine wp_region_lit ?_
          refine sq_pure F (wt0 rfl) (pu_move rfl (F.ev rfl)) rfl rfl ?_; clear F; intro φ F
          refine sq_pure F (wt0 rfl) (pu_add rfl (F.ev rfl) (evk) (by omega) (by omega)) rfl rfl ?_; clear F; intro φ F
          refine sq_pure F (wt0 rfl) (pu_assign rfl (F.ev rfl)) rfl rfl ?_; clear F; intro φ F
          refine wpList_nil ?_
          exact ⟨i + 1, by omega, rv3, (addC Cq ((atC L i.toNat).1) ((atC L i.toNat).2)), (((((F.nil.cons (F.get (k := 6) rfl)).cons (F.get (k := 5) rfl)).cons (F.get (k := 4) rfl)).cons (F.get (k := 3) rfl)).cons (F.get (k := 0) rfl)), (M.sub (.cons _ (.cons _ (.cons _ (List.Sublist.refl _))))), by omega, by omega, by have z := addC_len Cq (atC L i.toNat).1 (atC L i.toNat).2; omega, by omega⟩
        · rw [hs5] at F
          refine qt_pure F (wt1 F rfl rfl rfl rfl rfl) (pu_neqB rfl (F.ev rfl) (F.ev rfl) Try.underlying4) rfl rfl ?_; clear F; intro φ F
          rw [show (true != true) = false from rfl] at F
          refine qt_pure F (wt0 rfl) (pu_pickf rfl (F.ev rfl) (F.ev rfl)) rfl rfl ?_; clear F; intro φ F
          refine qt_pure F (wt0 rfl) (pu_move rfl (F.ev rfl)) rfl rfl ?_; clear F; intro φ F
          refine qt_pure F (wt1 F rfl rfl rfl rfl rfl) (pu_move rfl (F.ev rfl)) rfl rfl ?_; clear F; intro φ F
          refine qt_pure F (wt1 F rfl rfl rfl rfl rfl) (pu_move rfl (F.ev rfl)) rfl rfl ?_; clear F; intro φ F
          refine qt_pure F (wt1 F rfl rfl rfl rfl rfl) (pu_move rfl (F.ev rfl)) rfl rfl ?_; clear F; intro φ F
          refine qt_pure F (wt1 F rfl rfl rfl rfl rfl) (pu_ix rfl (F.ev rfl) (F.ev rfl) sl22 (M.av (i := 5) rfl) (by omega) (by omega)) rfl rfl ?_; clear F; intro φ F
          refine qt_pure F (wt1 F rfl rfl rfl rfl rfl) (pu_field rfl (F.ev rfl) fo32_0) rfl rfl ?_; clear F; intro φ F
          refine qt_rd F (wt1 F rfl rfl rfl rfl rfl) (ld_elP (q := 0) (k := i.toNat * 3) rfl (F.ev rfl) agg30 (fun _ h => RdV.below (M.av (i := 5) rfl) h) (by omega) (cC_at (by first | omega | (simp; done) | (simp; omega))) (by omega) rfl rfl) rfl rfl ?_; clear F; intro φ F
          refine qt_call F (wt1 F rfl rfl rfl rfl rfl) rfl en22 (evc (F.ev rfl) (evc (F.ev rfl) evn)) (fun w' h => calls_below h (of_any (addC Cq ((atC L i.toNat).1) ((atC L i.toNat).2)) p2 m2 ((atC L i.toNat).1) w' (M.pvB (i := 4) rfl _ h))) rfl rfl ?_; clear F; intro φ F
          refine qt_pure F (wt1 F rfl rfl rfl rfl rfl) (pu_move rfl (F.ev rfl)) rfl rfl ?_; clear F; intro φ F
          refine qt_pure F (wt1 F rfl rfl rfl rfl rfl) (pu_move rfl (F.ev rfl)) rfl rfl ?_; clear F; intro φ F
          refine qt_pure F (wt1 F rfl rfl rfl rfl rfl) (pu_move rfl (F.ev rfl)) rfl rfl ?_; clear F; intro φ F
          refine qt_pure F (wt1 F rfl rfl rfl rfl rfl) (pu_ix rfl (F.ev rfl) (F.ev rfl) sl22 (M.av (i := 5) rfl) (by omega) (by omega)) rfl rfl ?_; clear F; intro φ F
          refine qt_pure F (wt1 F rfl rfl rfl rfl rfl) (pu_field rfl (F.ev rfl) fo32_0) rfl rfl ?_; clear F; intro φ F
          refine qt_rd F (wt1 F rfl rfl rfl rfl rfl) (ld_elP (q := 0) (k := i.toNat * 3) rfl (F.ev rfl) agg30 (fun _ h => RdV.below (M.av (i := 5) rfl) h) (by omega) (cC_at (by first | omega | (simp; done) | (simp; omega))) (by omega) rfl rfl) rfl rfl ?_; clear F; intro φ F
          refine qt_call F (wt1 F rfl rfl rfl rfl rfl) rfl en23 (evc (F.ev rfl) (evc (F.ev rfl) evn)) (fun w' h => calls_below h (rof_any (addC Cq ((atC L i.toNat).1) ((atC L i.toNat).2)) g1 rv3 ((atC L i.toNat).1) w' (M.pvB (i := 3) rfl _ h).1 (RdV.below ((own_rdv (M.pv (i := 3) rfl).2.1)) h) (by first | omega | (simp; done) | (simp; omega)))) rfl rfl ?_; clear F; intro φ F
          refine qt_pure F (wt1 F rfl rfl rfl rfl rfl) (pu_neqI rfl (F.ev rfl) (F.ev rfl)) rfl rfl ?_; clear F; intro φ F
          rw [(show decide (ofC (addC Cq ((atC L i.toNat).1) ((atC L i.toNat).2)) ((atC L i.toNat).1) = ofC (addC Cq ((atC L i.toNat).1) ((atC L i.toNat).2)) ((atC L i.toNat).1)) = true by simp), show (!true) = false from rfl] at F
          refine qt_pure F (wt0 rfl) (pu_pickf rfl (F.ev rfl) (F.ev rfl)) rfl rfl ?_; clear F; intro φ F
          refine wpQuiet_nil ?_
          clear M; intro ω M
          refine nxq ?_
          refine wp_cond_false (F.ev rfl) ?_
          refine wp_skip ?_
          refine nxb ?_
          refine nxq ?_
          -- region 8
          refine wp_region_lit ?_
          refine sq_pure F (wt0 rfl) (pu_move rfl (F.ev rfl)) rfl rfl ?_; clear F; intro φ F
          refine sq_pure F (wt0 rfl) (pu_add rfl (F.ev rfl) (evk) (by omega) (by omega)) rfl rfl ?_; clear F; intro φ F
          refine sq_pure F (wt0 rfl) (pu_assign rfl (F.ev rfl)) rfl rfl ?_; clear F; intro φ F
          refine wpList_nil ?_
          exact ⟨i + 1, by omega, rv3, (addC Cq ((atC L i.toNat).1) ((atC L i.toNat).2)), (((((F.nil.cons (F.get (k := 6) rfl)).cons (F.get (k := 5) rfl)).cons (F.get (k := 4) rfl)).cons (F.get (k := 3) rfl)).cons (F.get (k := 0) rfl)), (M.sub (.cons _ (.cons _ (.cons _ (List.Sublist.refl _))))), by omega, by omega, by have z := addC_len Cq (atC L i.toNat).1 (atC L i.toNat).2; omega, by omega⟩
      · rw [hs4] at F
        have hs4i := of_decide_eq_true hs4
        refine wp_cond_true (F.ev rfl) ?_
        refine wp_seq ?_
        -- region 10
        refine wp_region_lit ?_
        refine sq_pure F (wt0 rfl) (pu_move rfl (F.ev rfl)) rfl rfl ?_; clear F; intro φ F
        refine sq_callT (Z := (fun v x' => v = .tuple #[] ∧ x' = .own [p2, m2] (BagV p2 m2 []))) F M (wt0 rfl) rfl en12 (evc (F.ev rfl) evn) (i := 1) rfl (empty_any Cq p2 m2 _ (M.pv (i := 1) rfl)) rfl rfl ?_; clear F M; rintro φ ω _ _ ⟨rfl, rfl⟩ F M
        replace M : Mm [] w ω [.own (g1 :: (Value.ownBlock vq).toList) (RefV g1 vq Cq), .own [p2, m2] (BagV p2 m2 ([] : List Ct)), .arg 3 a L.length (cC L)] := M
        refine nx ?_
        refine wp_seq ?_
        -- region 11
        refine wp_region_lit ?_
        refine sq_pure F (wt0 rfl) (pu_move rfl (F.ev rfl)) rfl rfl ?_; clear F; intro φ F
        refine sq_pure F (wt0 rfl) (pu_nilCheck rfl (F.ev rfl)) rfl rfl ?_; clear F; intro φ F
        refine sq_pure F (wt0 rfl) (pu_field rfl (F.ev rfl) fo28_0) rfl rfl ?_; clear F; intro φ F
        replace M := M.refBlk (i := 0) rfl
        replace M : Mm [] w ω [.blk g1 28 #[vq], .own [p2, m2] (BagV p2 m2 ([] : List Ct)), .arg 3 a L.length (cC L)] := M
        refine sq_stC F M (wt0 rfl) rfl (F.ev rfl) (evk) (i := 0) rfl (by simp) si22 rfl rfl rfl ?_; clear M; intro ω M
        replace M : Mm [] w ω [.blk g1 28 #[(.slice none 0 0)], .own [p2, m2] (BagV p2 m2 ([] : List Ct)), .arg 3 a L.length (cC L)] := M
        replace M := M.toRef (i := 0) rfl
        replace M : Mm [] w ω [.own (g1 :: (Value.ownBlock (.slice none 0 0)).toList) (RefV g1 (.slice none 0 0) ([] : List Ct)), .own [p2, m2] (BagV p2 m2 ([] : List Ct)), .arg 3 a L.length (cC L)] := M
        refine nx ?_
        refine wp_exit ?_
        refine nxe ?_
        refine nxm ?_
        refine nxq ?_
        -- region 8
        refine wp_region_lit ?_
        refine sq_pure F (wt0 rfl) (pu_move rfl (F.ev rfl)) rfl rfl ?_; clear F; intro φ F
        refine sq_pure F (wt0 rfl) (pu_add rfl (F.ev rfl) (evk) (by omega) (by omega)) rfl rfl ?_; clear F; intro φ F
        refine sq_pure F (wt0 rfl) (pu_assign rfl (F.ev rfl)) rfl rfl ?_; clear F; intro φ F
        refine wpList_nil ?_
        exact ⟨i + 1, by omega, (.slice none 0 0), ([] : List Ct), (((((F.nil.cons (F.get (k := 6) rfl)).cons (F.get (k := 5) rfl)).cons (F.get (k := 4) rfl)).cons (F.get (k := 3) rfl)).cons (F.get (k := 0) rfl)), M, by omega, by omega, by simp; omega, by omega⟩

end Go.Proofs.Ytplnpjhgnhndpaa
