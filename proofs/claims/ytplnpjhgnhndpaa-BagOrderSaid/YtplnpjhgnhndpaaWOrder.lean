/- Laws of layer 4. Made by walks/baglaws.py. -/
import Derived.Test.YtplnpjhgnhndpaaBa
import Derived.Test.YtplnpjhgnhndpaaRk
namespace Go.Proofs.Ytplnpjhgnhndpaa
open Go.RowKit Go.Sort

set_option maxHeartbeats 4000000 in
theorem bagOrder_walk (L : List Ct) (n : Int) (hn : n ≤ 9223372036854775807) (a : Value) (w : World) (ha : RdC w a L) :
    Calls Try.prog 4 #[a, .int .i64 n] w fun e w' => e = .returned (.bool true) ∧ Below w.heap.size w w' := by
  refine enterF Try.func4 rfl 124 Try.ntmps4 [a, .int .i64 n] rfl [(0, a), (1, .int .i64 n)] rfl ?_
  intro φ F
  have M := Mm.start [] w
  replace M := M.addArg (ha) (fun _ => by first | (simp; done) | (simp_all; done) | assumption)
  refine wp_seq ?_
  -- region 0
  refine wp_region_lit ?_
  refine sq_pure F (wt0 rfl) (pu_assign rfl (evk)) rfl rfl ?_; clear F; intro φ F
  refine nx ?_
  refine wp_seq ?_
  -- region 1
  refine wp_region_lit ?_
  refine sq_call F M (wt0 rfl) rfl en10 evn (awake_any _) rfl rfl ?_; clear F M; intro φ ω F M
  refine sq_pure F (wt0 rfl) (pu_assign rfl (F.ev rfl)) rfl rfl ?_; clear F; intro φ F
  refine nx ?_
  refine wp_seq ?_
  -- region 2
  refine wp_region_lit ?_
  refine sq_callO (Z := (fun v x => ∃ p g, v = .pointer (some ⟨p, 0, none⟩) ∧ x = .own [p, g] (BagV p g []))) F M (wt0 rfl) rfl en11 evn (new_any _) rfl rfl ?_; clear F M; rintro φ ω _ _ ⟨p4, m4, rfl, rfl⟩ F M
  replace M : Mm [] w ω [.own [p4, m4] (BagV p4 m4 ([] : List Ct)), .arg 3 a L.length (cC L)] := M
  refine sq_pure F (wt0 rfl) (pu_assign rfl (F.ev rfl)) rfl rfl ?_; clear F; intro φ F
  refine nx ?_
  refine wp_seq ?_
  -- region 3
  refine wp_region_lit ?_
  refine sq_callO (Z := (fun v x => ∃ p g, v = .pointer (some ⟨p, 0, none⟩) ∧ x = .own [p, g] (BagV p g []))) F M (wt0 rfl) rfl en11 evn (new_any _) rfl rfl ?_; clear F M; rintro φ ω _ _ ⟨p5, m5, rfl, rfl⟩ F M
  replace M : Mm [] w ω [.own [p5, m5] (BagV p5 m5 ([] : List Ct)), .own [p4, m4] (BagV p4 m4 ([] : List Ct)), .arg 3 a L.length (cC L)] := M
  refine sq_pure F (wt0 rfl) (pu_assign rfl (F.ev rfl)) rfl rfl ?_; clear F; intro φ F
  refine nx ?_
  refine wp_seq ?_
  refine wp_seq ?_
  -- region 4
  refine wp_region_lit ?_
  refine sq_pure F (wt0 rfl) (pu_move rfl (F.ev rfl)) rfl rfl ?_; clear F; intro φ F
  refine sq_pure F (wt0 rfl) (pu_eqlP rfl (F.ev rfl) (evk) Try.underlying24) rfl rfl ?_; clear F; intro φ F
  refine sq_pure F (wt0 rfl) (pu_move rfl (F.ev rfl)) rfl rfl ?_; clear F; intro φ F
  refine sq_pure F (wt1 F rfl rfl rfl rfl rfl) (pu_move rfl (F.ev rfl)) rfl rfl ?_; clear F; intro φ F
  refine sq_pure F (wt1 F rfl rfl rfl rfl rfl) (pu_eqlP rfl (F.ev rfl) (evk) Try.underlying24) rfl rfl ?_; clear F; intro φ F
  refine sq_pure F (wt0 rfl) (pu_pickf rfl (F.ev rfl) (F.ev rfl)) rfl rfl ?_; clear F; intro φ F
  refine sq_pure F (wt0 rfl) (pu_move rfl (F.ev rfl)) rfl rfl ?_; clear F; intro φ F
  refine sq_pure F (wt1 F rfl rfl rfl rfl rfl) (pu_move rfl (F.ev rfl)) rfl rfl ?_; clear F; intro φ F
  refine sq_pure F (wt1 F rfl rfl rfl rfl rfl) (pu_len rfl (F.ev rfl) sl22 (M.av (i := 2) rfl)) rfl rfl ?_; clear F; intro φ F
  refine sq_pure F (wt1 F rfl rfl rfl rfl rfl) (pu_eqlI rfl (F.ev rfl) (evk)) rfl rfl ?_; clear F; intro φ F
  refine sq_pure F (wt0 rfl) (pu_pickf rfl (F.ev rfl) (F.ev rfl)) rfl rfl ?_; clear F; intro φ F
  refine sq_pure F (wt0 rfl) (pu_move rfl (F.ev rfl)) rfl rfl ?_; clear F; intro φ F
  cases hs1 : (decide (((L.length : Nat) : Int) = 0))
  · rw [hs1] at F
    have hs1i := of_decide_eq_false hs1
    refine sq_pure F (wt1 F rfl rfl rfl rfl rfl) (pu_move rfl (F.ev rfl)) rfl rfl ?_; clear F; intro φ F
    refine sq_pure F (wt1 F rfl rfl rfl rfl rfl) (pu_len rfl (F.ev rfl) sl22 (M.av (i := 2) rfl)) rfl rfl ?_; clear F; intro φ F
    refine sq_pure F (wt1 F rfl rfl rfl rfl rfl) (pu_gtr rfl (F.ev rfl) (evk)) rfl rfl ?_; clear F; intro φ F
    refine sq_pure F (wt0 rfl) (pu_pickf rfl (F.ev rfl) (F.ev rfl)) rfl rfl ?_; clear F; intro φ F
    refine sq_pure F (wt0 rfl) (pu_move rfl (F.ev rfl)) rfl rfl ?_; clear F; intro φ F
    cases hs2 : (decide (100 < ((L.length : Nat) : Int)))
    · rw [hs2] at F
      have hs2i := of_decide_eq_false hs2
      refine sq_pure F (wt1 F rfl rfl rfl rfl rfl) (pu_move rfl (F.ev rfl)) rfl rfl ?_; clear F; intro φ F
      refine sq_pure F (wt1 F rfl rfl rfl rfl rfl) (pu_lss rfl (F.ev rfl) (evk)) rfl rfl ?_; clear F; intro φ F
      refine sq_pure F (wt0 rfl) (pu_pickf rfl (F.ev rfl) (F.ev rfl)) rfl rfl ?_; clear F; intro φ F
      refine nx ?_
      cases hs3 : (decide (n < 0))
      · rw [hs3] at F
        have hs3i := of_decide_eq_false hs3
        refine wp_cond_false (F.ev rfl) ?_
        refine wp_skip ?_
        refine nxq ?_
        refine wp_seq ?_
        refine wp_seq ?_
        -- region 6
        refine wp_region_lit ?_
        obtain ⟨k, hk⟩ : ∃ k, k = n % ((L.length : Nat) : Int) := ⟨_, rfl⟩
        have hk0 : 0 ≤ k := by rw [hk]; exact Int.emod_nonneg _ (by omega)
        have hk1 : k < ((L.length : Nat) : Int) := by rw [hk]; exact Int.emod_lt_of_pos _ (by omega)
        refine sq_pure F (wt0 rfl) (pu_assign rfl (evk)) rfl rfl ?_; clear F; intro φ F
        refine nx ?_
        refine wp_block ?_
        refine lp (σ := Int) (fun i φ' w' => Fr φ' 124 [(0, a), (1, .int .i64 n), (5, .bool true), (6, .pointer (some ⟨p4, 0, none⟩)), (7, .pointer (some ⟨p5, 0, none⟩)), (8, .int .i64 i)] ∧ Mm [] w w' [.own [p5, m5] (BagV p5 m5 (sumC ((rotC L k.toNat).take i.toNat))), .own [p4, m4] (BagV p4 m4 (sumC (L.take i.toNat))), .arg 3 a L.length (cC L)] ∧ (0 ≤ i) ∧ (i ≤ (L.length : Int)) ∧ (∀ k, k < i.toNat → -1000000 ≤ (atC L k).2 ∧ (atC L k).2 ≤ 1000000)) (fun i => ((L.length : Int) - i).toNat) (0) ⟨((((((F.nil.cons (F.get (k := 8) rfl)).cons (F.get (k := 7) rfl)).cons (F.get (k := 6) rfl)).cons (F.get (k := 5) rfl)).cons (F.get (k := 1) rfl)).cons (F.get (k := 0) rfl)), (by simpa [sumC, foldC] using M), Int.le_refl _, by omega, all_none⟩ ?_
        clear F M
        rintro i φ ω ⟨F, M, hp4_0, hp4_1, hp4_2⟩
        refine wp_seq ?_
        refine wp_seq ?_
        -- region 7
        refine wp_region_lit ?_
        refine sq_pure F (wt0 rfl) (pu_move rfl (F.ev rfl)) rfl rfl ?_; clear F; intro φ F
        refine sq_pure F (wt0 rfl) (pu_move rfl (F.ev rfl)) rfl rfl ?_; clear F; intro φ F
        refine sq_pure F (wt0 rfl) (pu_len rfl (F.ev rfl) sl22 (M.av (i := 2) rfl)) rfl rfl ?_; clear F; intro φ F
        refine sq_pure F (wt0 rfl) (pu_lss rfl (F.ev rfl) (F.ev rfl)) rfl rfl ?_; clear F; intro φ F
        refine nx ?_
        cases hs5 : (decide (i < ((L.length : Nat) : Int)))
        · rw [hs5] at F
          have hs5i := of_decide_eq_false hs5
          refine wp_cond_false (F.ev rfl) ?_
          refine wp_exit ?_
          refine nxe ?_
          refine nxe ?_
          refine nxm ?_
          refine nxq ?_
          refine wp_seq ?_
          refine wp_seq ?_
          -- region 14
          refine wp_region_lit ?_
          have hE := order_eq (k := k) (by omega) hp4_2 hs5i
          rw [hE] at M
          replace M : Mm [] w ω [.own [p5, m5] (BagV p5 m5 (sumC (L.take i.toNat))), .own [p4, m4] (BagV p4 m4 (sumC (L.take i.toNat))), .arg 3 a L.length (cC L)] := M
          have hl : (sumC (L.take i.toNat)).length ≤ 100 := Nat.le_trans (sum_len _ []) (by simp only [List.length_nil, List.length_take]; omega)
          refine sq_pure F (wt0 rfl) (pu_assign rfl (evk)) rfl rfl ?_; clear F; intro φ F
          refine nx ?_
          refine wp_block ?_
          refine lp (σ := Int) (fun q φ' w' => Fr φ' 124 [(0, a), (5, .bool true), (6, .pointer (some ⟨p4, 0, none⟩)), (7, .pointer (some ⟨p5, 0, none⟩)), (10, .int .i64 q)] ∧ Mm [] w w' [.own [p5, m5] (BagV p5 m5 (sumC (L.take i.toNat))), .own [p4, m4] (BagV p4 m4 (sumC (L.take i.toNat))), .arg 3 a L.length (cC L)] ∧ (0 ≤ q) ∧ (q ≤ (L.length : Int))) (fun q => ((L.length : Int) - q).toNat) (0) ⟨(((((F.nil.cons (F.get (k := 10) rfl)).cons (F.get (k := 7) rfl)).cons (F.get (k := 6) rfl)).cons (F.get (k := 5) rfl)).cons (F.get (k := 0) rfl)), M, Int.le_refl _, by omega⟩ ?_
          clear F M
          rintro q φ ω ⟨F, M, hp6_0, hp6_1⟩
          refine wp_seq ?_
          refine wp_seq ?_
          -- region 15
          refine wp_region_lit ?_
          refine sq_pure F (wt0 rfl) (pu_move rfl (F.ev rfl)) rfl rfl ?_; clear F; intro φ F
          refine sq_pure F (wt0 rfl) (pu_move rfl (F.ev rfl)) rfl rfl ?_; clear F; intro φ F
          refine sq_pure F (wt0 rfl) (pu_len rfl (F.ev rfl) sl22 (M.av (i := 2) rfl)) rfl rfl ?_; clear F; intro φ F
          refine sq_pure F (wt0 rfl) (pu_lss rfl (F.ev rfl) (F.ev rfl)) rfl rfl ?_; clear F; intro φ F
          refine nx ?_
          cases hs7 : (decide (q < ((L.length : Nat) : Int)))
          · rw [hs7] at F
            have hs7i := of_decide_eq_false hs7
            refine wp_cond_false (F.ev rfl) ?_
            refine wp_exit ?_
            refine nxe ?_
            refine nxe ?_
            refine nxm ?_
            refine nxq ?_
            refine wp_seq ?_
            -- region 19
            refine wp_region_lit ?_
            refine sq_pure F (wt0 rfl) (pu_move rfl (F.ev rfl)) rfl rfl ?_; clear F; intro φ F
            refine sq_callN F M (wt0 rfl) rfl en16 (evc (F.ev rfl) evn) (all_any (sumC (L.take i.toNat)) p4 m4 _ (M.pv (i := 1) rfl) (by first | omega | (simp; done) | (simp; omega))) rfl rfl ?_; clear F M; intro φ ω v1 F M
            refine sq_pure F (wt0 rfl) (pu_move rfl (F.ev rfl)) rfl rfl ?_; clear F; intro φ F
            refine sq_callN F M (wt0 rfl) rfl en16 (evc (F.ev rfl) evn) (all_any (sumC (L.take i.toNat)) p5 m5 _ (M.pv (i := 1) rfl) (by first | omega | (simp; done) | (simp; omega))) rfl rfl ?_; clear F M; intro φ ω v2 F M
            refine sq_call F M (wt0 rfl) rfl en15 (evc (F.ev rfl) (evc (F.ev rfl) evn)) (csame_any ((sumC (L.take i.toNat))) ((sumC (L.take i.toNat))) _ _ _ (M.rv (i := 1) rfl) (M.rv (i := 0) rfl) (by first | omega | (simp; done) | (simp; omega)) (by first | omega | (simp; done) | (simp; omega))) rfl rfl ?_; clear F M; intro φ ω F M
            rw [(show decide (((sumC (L.take i.toNat))) = ((sumC (L.take i.toNat)))) = true by simp)] at F
            refine sq_pure F (wt0 rfl) (pu_assign rfl (F.ev rfl)) rfl rfl ?_; clear F; intro φ F
            refine nx ?_
            refine wp_seq ?_
            -- region 20
            refine wp_region_lit ?_
            refine sq_pure F (wt0 rfl) (pu_move rfl (F.ev rfl)) rfl rfl ?_; clear F; intro φ F
            refine sq_pure F (wt0 rfl) (pu_move rfl (F.ev rfl)) rfl rfl ?_; clear F; intro φ F
            refine sq_pure F (wt1 F rfl rfl rfl rfl rfl) (pu_move rfl (F.ev rfl)) rfl rfl ?_; clear F; intro φ F
            refine sq_pure F (wt0 rfl) (pu_pickt rfl (F.ev rfl) (F.ev rfl)) rfl rfl ?_; clear F; intro φ F
            refine sq_pure F (wt0 rfl) (pu_assign rfl (F.ev rfl)) rfl rfl ?_; clear F; intro φ F
            refine nx ?_
            refine wp_ret ?_
            refine rt_tmp F rfl rfl ?_
            exact ⟨rfl, M.bel⟩
          · rw [hs7] at F
            have hs7i := of_decide_eq_true hs7
            refine wp_cond_true (F.ev rfl) ?_
            refine wp_skip ?_
            refine nxq ?_
            refine wp_seq ?_
            refine wp_block ?_
            refine wp_seq ?_
            -- region 17
            refine rg_quiet M mixedOK (by kernel_rfl) ?_
            refine qt_pure F (wt0 rfl) (pu_move rfl (F.ev rfl)) rfl rfl ?_; clear F; intro φ F
            refine qt_pure F (wt0 rfl) (pu_move rfl (F.ev rfl)) rfl rfl ?_; clear F; intro φ F
            refine qt_pure F (wt0 rfl) (pu_move rfl (F.ev rfl)) rfl rfl ?_; clear F; intro φ F
            refine qt_pure F (wt0 rfl) (pu_ix rfl (F.ev rfl) (F.ev rfl) sl22 (M.av (i := 2) rfl) (by omega) (by omega)) rfl rfl ?_; clear F; intro φ F
            refine qt_pure F (wt0 rfl) (pu_field rfl (F.ev rfl) fo32_0) rfl rfl ?_; clear F; intro φ F
            refine qt_rd F (wt0 rfl) (ld_elP (q := 0) (k := q.toNat * 3) rfl (F.ev rfl) agg30 (fun _ h => RdV.below (M.av (i := 2) rfl) h) (by omega) (cC_at (by first | omega | (simp; done) | (simp; omega))) (by omega) rfl rfl) rfl rfl ?_; clear F; intro φ F
            refine qt_call F (wt0 rfl) rfl en22 (evc (F.ev rfl) (evc (F.ev rfl) evn)) (fun w' h => calls_below h (of_any (sumC (L.take i.toNat)) p4 m4 ((atC L q.toNat).1) w' (M.pvB (i := 1) rfl _ h))) rfl rfl ?_; clear F; intro φ F
            refine qt_pure F (wt0 rfl) (pu_move rfl (F.ev rfl)) rfl rfl ?_; clear F; intro φ F
            refine qt_pure F (wt0 rfl) (pu_move rfl (F.ev rfl)) rfl rfl ?_; clear F; intro φ F
            refine qt_pure F (wt0 rfl) (pu_move rfl (F.ev rfl)) rfl rfl ?_; clear F; intro φ F
            refine qt_pure F (wt0 rfl) (pu_ix rfl (F.ev rfl) (F.ev rfl) sl22 (M.av (i := 2) rfl) (by omega) (by omega)) rfl rfl ?_; clear F; intro φ F
            refine qt_pure F (wt0 rfl) (pu_field rfl (F.ev rfl) fo32_0) rfl rfl ?_; clear F; intro φ F
            refine qt_rd F (wt0 rfl) (ld_elP (q := 0) (k := q.toNat * 3) rfl (F.ev rfl) agg30 (fun _ h => RdV.below (M.av (i := 2) rfl) h) (by omega) (cC_at (by first | omega | (simp; done) | (simp; omega))) (by omega) rfl rfl) rfl rfl ?_; clear F; intro φ F
            refine qt_call F (wt0 rfl) rfl en22 (evc (F.ev rfl) (evc (F.ev rfl) evn)) (fun w' h => calls_below h (of_any (sumC (L.take i.toNat)) p5 m5 ((atC L q.toNat).1) w' (M.pvB (i := 0) rfl _ h))) rfl rfl ?_; clear F; intro φ F
            refine qt_pure F (wt0 rfl) (pu_neqI rfl (F.ev rfl) (F.ev rfl)) rfl rfl ?_; clear F; intro φ F
            rw [(show decide (ofC (sumC (L.take i.toNat)) ((atC L q.toNat).1) = ofC (sumC (L.take i.toNat)) ((atC L q.toNat).1)) = true by simp), show (!true) = false from rfl] at F
            refine wpQuiet_nil ?_
            clear M; intro ω M
            refine nxq ?_
            refine wp_cond_false (F.ev rfl) ?_
            refine wp_skip ?_
            refine nxb ?_
            refine nxq ?_
            -- region 16
            refine wp_region_lit ?_
            refine sq_pure F (wt0 rfl) (pu_move rfl (F.ev rfl)) rfl rfl ?_; clear F; intro φ F
            refine sq_pure F (wt0 rfl) (pu_add rfl (F.ev rfl) (evk) (by omega) (by omega)) rfl rfl ?_; clear F; intro φ F
            refine sq_pure F (wt0 rfl) (pu_assign rfl (F.ev rfl)) rfl rfl ?_; clear F; intro φ F
            refine wpList_nil ?_
            exact ⟨q + 1, by omega, (((((F.nil.cons (F.get (k := 10) rfl)).cons (F.get (k := 7) rfl)).cons (F.get (k := 6) rfl)).cons (F.get (k := 5) rfl)).cons (F.get (k := 0) rfl)), M, by omega, by omega⟩
        · rw [hs5] at F
          have hs5i := of_decide_eq_true hs5
          refine wp_cond_true (F.ev rfl) ?_
          refine wp_skip ?_
          refine nxq ?_
          refine wp_seq ?_
          refine wp_block ?_
          refine wp_seq ?_
          refine wp_seq ?_
          -- region 9
          refine wp_region_lit ?_
          refine sq_pure F (wt0 rfl) (pu_move rfl (F.ev rfl)) rfl rfl ?_; clear F; intro φ F
          refine sq_pure F (wt0 rfl) (pu_move rfl (F.ev rfl)) rfl rfl ?_; clear F; intro φ F
          refine sq_pure F (wt0 rfl) (pu_ix rfl (F.ev rfl) (F.ev rfl) sl22 (M.av (i := 2) rfl) (by omega) (by omega)) rfl rfl ?_; clear F; intro φ F
          refine sq_pure F (wt0 rfl) (pu_field rfl (F.ev rfl) fo32_1) rfl rfl ?_; clear F; intro φ F
          refine sq_rd F (wt0 rfl) (ld_elP1 (q := 2) (k := i.toNat * 3) rfl (F.ev rfl) one3 (fun _ e => e ▸ (M.av (i := 2) rfl)) (by omega) (cC_at (by first | omega | (simp; done) | (simp; omega))) rfl) rfl rfl ?_; clear F; intro φ F
          refine sq_pure F (wt0 rfl) (pu_gtr rfl (F.ev rfl) (evk)) rfl rfl ?_; clear F; intro φ F
          refine sq_pure F (wt0 rfl) (pu_move rfl (F.ev rfl)) rfl rfl ?_; clear F; intro φ F
          cases hs8 : (decide (1000000 < (atC L i.toNat).2))
          · rw [hs8] at F
            have hs8i := of_decide_eq_false hs8
            refine sq_pure F (wt1 F rfl rfl rfl rfl rfl) (pu_move rfl (F.ev rfl)) rfl rfl ?_; clear F; intro φ F
            refine sq_pure F (wt1 F rfl rfl rfl rfl rfl) (pu_move rfl (F.ev rfl)) rfl rfl ?_; clear F; intro φ F
            refine sq_pure F (wt1 F rfl rfl rfl rfl rfl) (pu_ix rfl (F.ev rfl) (F.ev rfl) sl22 (M.av (i := 2) rfl) (by omega) (by omega)) rfl rfl ?_; clear F; intro φ F
            refine sq_pure F (wt1 F rfl rfl rfl rfl rfl) (pu_field rfl (F.ev rfl) fo32_1) rfl rfl ?_; clear F; intro φ F
            refine sq_rd F (wt1 F rfl rfl rfl rfl rfl) (ld_elP1 (q := 2) (k := i.toNat * 3) rfl (F.ev rfl) one3 (fun _ e => e ▸ (M.av (i := 2) rfl)) (by omega) (cC_at (by first | omega | (simp; done) | (simp; omega))) rfl) rfl rfl ?_; clear F; intro φ F
            refine sq_pure F (wt1 F rfl rfl rfl rfl rfl) (pu_lss rfl (F.ev rfl) (evk)) rfl rfl ?_; clear F; intro φ F
            refine sq_pure F (wt0 rfl) (pu_pickf rfl (F.ev rfl) (F.ev rfl)) rfl rfl ?_; clear F; intro φ F
            refine nx ?_
            cases hs9 : (decide ((atC L i.toNat).2 < -1000000))
            · rw [hs9] at F
              have hs9i := of_decide_eq_false hs9
              refine wp_cond_false (F.ev rfl) ?_
              refine wp_skip ?_
              refine nxq ?_
              refine wp_seq ?_
              -- region 11
              refine rg_heads0 F M 11 [.val (.pointer (some ⟨p4, 0, none⟩)), .val (a), .val (.int .i64 i), .val (.pointer (some ⟨gof a, oof a + (i.toNat * 3), none⟩)), .val (.pointer (some ⟨gof a, oof a + (i.toNat * 3), none⟩)), .val (.agg #[.int .i64 ((atC L i.toNat).1.e), .int .i64 ((atC L i.toNat).1.r)]), .val (a), .val (.int .i64 i), .val (.pointer (some ⟨gof a, oof a + (i.toNat * 3), none⟩)), .val (.pointer (some ⟨gof a, oof a + (i.toNat * 3) + 2, none⟩)), .val (.int .i64 ((atC L i.toNat).2))] rfl mixedOK (by kernel_rfl) rfl rfl ⟨?_, ?_, ?_, ?_, ?_, ?_, ?_, ?_, ?_, ?_, ?_, trivial⟩ ?_
              · intro φ1 ω1 hb F1 hdep hold; have F := (F1.cons (F.was hold (s := 6) rfl rfl)); have M := M.below hb; exact ob_rd (wt0 rfl) (Pure.rdy (pu_move rfl (F.ev rfl))) rfl
              · intro φ1 ω1 hb F1 hdep hold; have F := (F1.cons (F.was hold (s := 0) rfl rfl)); have M := M.below hb; exact ob_rd (wt0 rfl) (Pure.rdy (pu_move rfl (F.ev rfl))) rfl
              · intro φ1 ω1 hb F1 hdep hold; have F := (F1.cons (F.was hold (s := 8) rfl rfl)); have M := M.below hb; exact ob_rd (wt0 rfl) (Pure.rdy (pu_move rfl (F.ev rfl))) rfl
              · intro φ1 ω1 hb F1 hdep hold; have F := ((F1.cons (F1.dep hdep 1 (by kernel_rfl) rfl rfl rfl)).cons (F1.dep hdep 2 (by kernel_rfl) rfl rfl rfl)); have M := M.below hb; exact ob_rd (wt0 rfl) (Pure.rdy (pu_ix rfl (F.ev rfl) (F.ev rfl) sl22 (M.av (i := 2) rfl) (by omega) (by omega))) rfl
              · intro φ1 ω1 hb F1 hdep hold; have F := (F1.cons (F1.dep hdep 3 (by kernel_rfl) rfl rfl rfl)); have M := M.below hb; exact ob_rd (wt0 rfl) (Pure.rdy (pu_field rfl (F.ev rfl) fo32_0)) rfl
              · intro φ1 ω1 hb F1 hdep hold; have F := (F1.cons (F1.dep hdep 4 (by kernel_rfl) rfl rfl rfl)); have M := M.below hb; exact ob_rd (wt0 rfl) (ld_elP (q := 0) (k := i.toNat * 3) rfl (F.ev rfl) agg30 (fun _ e => e ▸ (M.av (i := 2) rfl)) (by omega) (cC_at (by first | omega | (simp; done) | (simp; omega))) (by omega) rfl rfl) rfl
              · intro φ1 ω1 hb F1 hdep hold; have F := (F1.cons (F.was hold (s := 0) rfl rfl)); have M := M.below hb; exact ob_rd (wt0 rfl) (Pure.rdy (pu_move rfl (F.ev rfl))) rfl
              · intro φ1 ω1 hb F1 hdep hold; have F := (F1.cons (F.was hold (s := 8) rfl rfl)); have M := M.below hb; exact ob_rd (wt0 rfl) (Pure.rdy (pu_move rfl (F.ev rfl))) rfl
              · intro φ1 ω1 hb F1 hdep hold; have F := ((F1.cons (F1.dep hdep 6 (by kernel_rfl) rfl rfl rfl)).cons (F1.dep hdep 7 (by kernel_rfl) rfl rfl rfl)); have M := M.below hb; exact ob_rd (wt0 rfl) (Pure.rdy (pu_ix rfl (F.ev rfl) (F.ev rfl) sl22 (M.av (i := 2) rfl) (by omega) (by omega))) rfl
              · intro φ1 ω1 hb F1 hdep hold; have F := (F1.cons (F1.dep hdep 8 (by kernel_rfl) rfl rfl rfl)); have M := M.below hb; exact ob_rd (wt0 rfl) (Pure.rdy (pu_field rfl (F.ev rfl) fo32_1)) rfl
              · intro φ1 ω1 hb F1 hdep hold; have F := (F1.cons (F1.dep hdep 9 (by kernel_rfl) rfl rfl rfl)); have M := M.below hb; exact ob_rd (wt0 rfl) (ld_elP1 (q := 2) (k := i.toNat * 3) rfl (F.ev rfl) one3 (fun _ e => e ▸ (M.av (i := 2) rfl)) (by omega) (cC_at (by first | omega | (simp; done) | (simp; omega))) rfl) rfl
              clear F M; intro φ ω F M
              simp only [headL, List.take_succ_cons, List.take_zero, HV.value] at F
              refine sq_callT (Z := (fun v x' => v = .int .i64 (addE (sumC (L.take i.toNat)) ((atC L i.toNat).1) ((atC L i.toNat).2)) ∧ x' = .own [p4, m4] (BagV p4 m4 (addC (sumC (L.take i.toNat)) ((atC L i.toNat).1) ((atC L i.toNat).2))))) F M (wt0 rfl) rfl en13 (evc (F.ev rfl) (evc (F.ev rfl) (evc (F.ev rfl) evn))) (i := 1) rfl (add_any (sumC (L.take i.toNat)) p4 m4 ((atC L i.toNat).1) ((atC L i.toNat).2) _ (M.pv (i := 1) rfl)) rfl rfl ?_; clear F M; rintro φ ω _ _ ⟨rfl, rfl⟩ F M
              have hl_p4_9_2 := addC_len (sumC (L.take i.toNat)) ((atC L i.toNat).1) ((atC L i.toNat).2)
              replace M : Mm [] w ω [.own [p5, m5] (BagV p5 m5 (sumC ((rotC L k.toNat).take i.toNat))), .own [p4, m4] (BagV p4 m4 (addC (sumC (L.take i.toNat)) ((atC L i.toNat).1) ((atC L i.toNat).2))), .arg 3 a L.length (cC L)] := M
              refine nx ?_
              refine wp_seq ?_
              -- region 12
              refine wp_region_lit ?_
              refine sq_pure F (wt0 rfl) (pu_move rfl (F.ev rfl)) rfl rfl ?_; clear F; intro φ F
              refine sq_pure F (wt0 rfl) (pu_move rfl (F.ev rfl)) rfl rfl ?_; clear F; intro φ F
              refine sq_pure F (wt0 rfl) (pu_move rfl (F.ev rfl)) rfl rfl ?_; clear F; intro φ F
              refine sq_pure F (wt0 rfl) (pu_len rfl (F.ev rfl) sl22 (M.av (i := 2) rfl)) rfl rfl ?_; clear F; intro φ F
              refine sq_pure F (wt0 rfl) (pu_rem rfl (F.ev rfl) (F.ev rfl) (by omega) (by omega) (by omega)) rfl rfl ?_; clear F; intro φ F
              rw [← hk] at F
              refine sq_pure F (wt0 rfl) (pu_add rfl (F.ev rfl) (F.ev rfl) (by omega) (by omega)) rfl rfl ?_; clear F; intro φ F
              refine sq_pure F (wt0 rfl) (pu_move rfl (F.ev rfl)) rfl rfl ?_; clear F; intro φ F
              refine sq_pure F (wt0 rfl) (pu_len rfl (F.ev rfl) sl22 (M.av (i := 2) rfl)) rfl rfl ?_; clear F; intro φ F
              refine sq_pure F (wt0 rfl) (pu_rem rfl (F.ev rfl) (F.ev rfl) (by omega) (by omega) (by omega)) rfl rfl ?_; clear F; intro φ F
              obtain ⟨j, hj⟩ : ∃ j, j = (i + k) % ((L.length : Nat) : Int) := ⟨_, rfl⟩
              rw [← hj] at F
              have hj0 : 0 ≤ j := by rw [hj]; exact Int.emod_nonneg _ (by omega)
              have hj1 : j < ((L.length : Nat) : Int) := by rw [hj]; exact Int.emod_lt_of_pos _ (by omega)
              refine sq_pure F (wt0 rfl) (pu_assign rfl (F.ev rfl)) rfl rfl ?_; clear F; intro φ F
              refine nx ?_
              -- region 13
              refine rg_heads0 F M 11 [.val (.pointer (some ⟨p5, 0, none⟩)), .val (a), .val (.int .i64 j), .val (.pointer (some ⟨gof a, oof a + (j.toNat * 3), none⟩)), .val (.pointer (some ⟨gof a, oof a + (j.toNat * 3), none⟩)), .val (.agg #[.int .i64 ((atC L j.toNat).1.e), .int .i64 ((atC L j.toNat).1.r)]), .val (a), .val (.int .i64 j), .val (.pointer (some ⟨gof a, oof a + (j.toNat * 3), none⟩)), .val (.pointer (some ⟨gof a, oof a + (j.toNat * 3) + 2, none⟩)), .val (.int .i64 ((atC L j.toNat).2))] rfl mixedOK (by kernel_rfl) rfl rfl ⟨?_, ?_, ?_, ?_, ?_, ?_, ?_, ?_, ?_, ?_, ?_, trivial⟩ ?_
              · intro φ1 ω1 hb F1 hdep hold; have F := (F1.cons (F.was hold (s := 7) rfl rfl)); have M := M.below hb; exact ob_rd (wt0 rfl) (Pure.rdy (pu_move rfl (F.ev rfl))) rfl
              · intro φ1 ω1 hb F1 hdep hold; have F := (F1.cons (F.was hold (s := 0) rfl rfl)); have M := M.below hb; exact ob_rd (wt0 rfl) (Pure.rdy (pu_move rfl (F.ev rfl))) rfl
              · intro φ1 ω1 hb F1 hdep hold; have F := (F1.cons (F.was hold (s := 9) rfl rfl)); have M := M.below hb; exact ob_rd (wt0 rfl) (Pure.rdy (pu_move rfl (F.ev rfl))) rfl
              · intro φ1 ω1 hb F1 hdep hold; have F := ((F1.cons (F1.dep hdep 1 (by kernel_rfl) rfl rfl rfl)).cons (F1.dep hdep 2 (by kernel_rfl) rfl rfl rfl)); have M := M.below hb; exact ob_rd (wt0 rfl) (Pure.rdy (pu_ix rfl (F.ev rfl) (F.ev rfl) sl22 (M.av (i := 2) rfl) (by omega) (by omega))) rfl
              · intro φ1 ω1 hb F1 hdep hold; have F := (F1.cons (F1.dep hdep 3 (by kernel_rfl) rfl rfl rfl)); have M := M.below hb; exact ob_rd (wt0 rfl) (Pure.rdy (pu_field rfl (F.ev rfl) fo32_0)) rfl
              · intro φ1 ω1 hb F1 hdep hold; have F := (F1.cons (F1.dep hdep 4 (by kernel_rfl) rfl rfl rfl)); have M := M.below hb; exact ob_rd (wt0 rfl) (ld_elP (q := 0) (k := j.toNat * 3) rfl (F.ev rfl) agg30 (fun _ e => e ▸ (M.av (i := 2) rfl)) (by omega) (cC_at (by first | omega | (simp; done) | (simp; omega))) (by omega) rfl rfl) rfl
              · intro φ1 ω1 hb F1 hdep hold; have F := (F1.cons (F.was hold (s := 0) rfl rfl)); have M := M.below hb; exact ob_rd (wt0 rfl) (Pure.rdy (pu_move rfl (F.ev rfl))) rfl
              · intro φ1 ω1 hb F1 hdep hold; have F := (F1.cons (F.was hold (s := 9) rfl rfl)); have M := M.below hb; exact ob_rd (wt0 rfl) (Pure.rdy (pu_move rfl (F.ev rfl))) rfl
              · intro φ1 ω1 hb F1 hdep hold; have F := ((F1.cons (F1.dep hdep 6 (by kernel_rfl) rfl rfl rfl)).cons (F1.dep hdep 7 (by kernel_rfl) rfl rfl rfl)); have M := M.below hb; exact ob_rd (wt0 rfl) (Pure.rdy (pu_ix rfl (F.ev rfl) (F.ev rfl) sl22 (M.av (i := 2) rfl) (by omega) (by omega))) rfl
              · intro φ1 ω1 hb F1 hdep hold; have F := (F1.cons (F1.dep hdep 8 (by kernel_rfl) rfl rfl rfl)); have M := M.below hb; exact ob_rd (wt0 rfl) (Pure.rdy (pu_field rfl (F.ev rfl) fo32_1)) rfl
              · intro φ1 ω1 hb F1 hdep hold; have F := (F1.cons (F1.dep hdep 9 (by kernel_rfl) rfl rfl rfl)); have M := M.below hb; exact ob_rd (wt0 rfl) (ld_elP1 (q := 2) (k := j.toNat * 3) rfl (F.ev rfl) one3 (fun _ e => e ▸ (M.av (i := 2) rfl)) (by omega) (cC_at (by first | omega | (simp; done) | (simp; omega))) rfl) rfl
              clear F M; intro φ ω F M
              simp only [headL, List.take_succ_cons, List.take_zero, HV.value] at F
              refine sq_callT (Z := (fun v x' => v = .int .i64 (addE (sumC ((rotC L k.toNat).take i.toNat)) ((atC L j.toNat).1) ((atC L j.toNat).2)) ∧ x' = .own [p5, m5] (BagV p5 m5 (addC (sumC ((rotC L k.toNat).take i.toNat)) ((atC L j.toNat).1) ((atC L j.toNat).2))))) F M (wt0 rfl) rfl en13 (evc (F.ev rfl) (evc (F.ev rfl) (evc (F.ev rfl) evn))) (i := 0) rfl (add_any (sumC ((rotC L k.toNat).take i.toNat)) p5 m5 ((atC L j.toNat).1) ((atC L j.toNat).2) _ (M.pv (i := 0) rfl)) rfl rfl ?_; clear F M; rintro φ ω _ _ ⟨rfl, rfl⟩ F M
              have hl_p5_9_2 := addC_len (sumC ((rotC L k.toNat).take i.toNat)) ((atC L j.toNat).1) ((atC L j.toNat).2)
              replace M : Mm [] w ω [.own [p5, m5] (BagV p5 m5 (addC (sumC ((rotC L k.toNat).take i.toNat)) ((atC L j.toNat).1) ((atC L j.toNat).2))), .own [p4, m4] (BagV p4 m4 (addC (sumC (L.take i.toNat)) ((atC L i.toNat).1) ((atC L i.toNat).2))), .arg 3 a L.length (cC L)] := M
              refine wpList_nil ?_
              refine nxb ?_
              refine nxq ?_
              -- region 8
              refine wp_region_lit ?_
              refine sq_pure F (wt0 rfl) (pu_move rfl (F.ev rfl)) rfl rfl ?_; clear F; intro φ F
              refine sq_pure F (wt0 rfl) (pu_add rfl (F.ev rfl) (evk) (by omega) (by omega)) rfl rfl ?_; clear F; intro φ F
              refine sq_pure F (wt0 rfl) (pu_assign rfl (F.ev rfl)) rfl rfl ?_; clear F; intro φ F
              refine wpList_nil ?_
              exact ⟨i + 1, by omega, ((((((F.nil.cons (F.get (k := 8) rfl)).cons (F.get (k := 7) rfl)).cons (F.get (k := 6) rfl)).cons (F.get (k := 5) rfl)).cons (F.get (k := 1) rfl)).cons (F.get (k := 0) rfl)), (by rw [← sum_step (L := L) (by omega) (by omega), ← rot_step (by omega) (by omega) hk0 hk1 hj]; exact M), by omega, by omega, all_succ hp4_2 hp4_0 ⟨by omega, by omega⟩⟩
            · rw [hs9] at F
              have hs9i := of_decide_eq_true hs9
              refine wp_cond_true (F.ev rfl) ?_
              refine wp_seq ?_
              -- region 10
              refine wp_region_lit ?_
              refine sq_pure F (wt0 rfl) (pu_move rfl (F.ev rfl)) rfl rfl ?_; clear F; intro φ F
              refine sq_pure F (wt0 rfl) (pu_assign rfl (F.ev rfl)) rfl rfl ?_; clear F; intro φ F
              refine nx ?_
              refine wp_ret ?_
              refine nxr ?_
              refine nxrb ?_
              refine nxr ?_
              refine nxr ?_
              refine nxrb ?_
              refine nxr ?_
              refine rt_tmp F rfl rfl ?_
              exact ⟨rfl, M.bel⟩
          · rw [hs8] at F
            have hs8i := of_decide_eq_true hs8
            refine sq_skip F (wtn F rfl rfl rfl rfl rfl) rfl rfl ?_; clear F; intro φ F
            refine sq_skip F (wtn F rfl rfl rfl rfl rfl) rfl rfl ?_; clear F; intro φ F
            refine sq_skip F (wtn F rfl rfl rfl rfl rfl) rfl rfl ?_; clear F; intro φ F
            refine sq_skip F (wtn F rfl rfl rfl rfl rfl) rfl rfl ?_; clear F; intro φ F
            refine sq_skip F (wtn F rfl rfl rfl rfl rfl) rfl rfl ?_; clear F; intro φ F
            refine sq_skip F (wtn F rfl rfl rfl rfl rfl) rfl rfl ?_; clear F; intro φ F
            refine sq_pure F (wt0 rfl) (pu_pickt rfl (F.ev rfl) (evk)) rfl rfl ?_; clear F; intro φ F
            refine nx ?_
            refine wp_cond_true (F.ev rfl) ?_
            refine wp_seq ?_
            -- region 10
            refine wp_region_lit ?_
            refine sq_pure F (wt0 rfl) (pu_move rfl (F.ev rfl)) rfl rfl ?_; clear F; intro φ F
            refine sq_pure F (wt0 rfl) (pu_assign rfl (F.ev rfl)) rfl rfl ?_; clear F; intro φ F
            refine nx ?_
            refine wp_ret ?_
            refine nxr ?_
            refine nxrb ?_
            refine nxr ?_
            refine nxr ?_
            refine nxrb ?_
            refine nxr ?_
            refine rt_tmp F rfl rfl ?_
            exact ⟨rfl, M.bel⟩
      · rw [hs3] at F
        have hs3i := of_decide_eq_true hs3
        refine wp_cond_true (F.ev rfl) ?_
        refine wp_seq ?_
        -- region 5
        refine wp_region_lit ?_
        refine sq_pure F (wt0 rfl) (pu_move rfl (F.ev rfl)) rfl rfl ?_; clear F; intro φ F
        refine sq_pure F (wt0 rfl) (pu_move rfl (F.ev rfl)) rfl rfl ?_; clear F; intro φ F
        refine sq_pure F (wt1 F rfl rfl rfl rfl rfl) (pu_move rfl (F.ev rfl)) rfl rfl ?_; clear F; intro φ F
        refine sq_pure F (wt1 F rfl rfl rfl rfl rfl) (pu_neqP rfl (F.ev rfl) (evk) Try.underlying24) rfl rfl ?_; clear F; intro φ F
        refine sq_pure F (wt0 rfl) (pu_pickt rfl (F.ev rfl) (F.ev rfl)) rfl rfl ?_; clear F; intro φ F
        refine sq_pure F (wt0 rfl) (pu_assign rfl (F.ev rfl)) rfl rfl ?_; clear F; intro φ F
        refine nx ?_
        refine wp_ret ?_
        refine nxr ?_
        refine rt_tmp F rfl rfl ?_
        exact ⟨rfl, M.bel⟩
    · rw [hs2] at F
      have hs2i := of_decide_eq_true hs2
      refine sq_skip F (wtn F rfl rfl rfl rfl rfl) rfl rfl ?_; clear F; intro φ F
      refine sq_skip F (wtn F rfl rfl rfl rfl rfl) rfl rfl ?_; clear F; intro φ F
      refine sq_pure F (wt0 rfl) (pu_pickt rfl (F.ev rfl) (evk)) rfl rfl ?_; clear F; intro φ F
      refine nx ?_
      refine wp_cond_true (F.ev rfl) ?_
      refine wp_seq ?_
      -- region 5
      refine wp_region_lit ?_
      refine sq_pure F (wt0 rfl) (pu_move rfl (F.ev rfl)) rfl rfl ?_; clear F; intro φ F
      refine sq_pure F (wt0 rfl) (pu_move rfl (F.ev rfl)) rfl rfl ?_; clear F; intro φ F
      refine sq_pure F (wt1 F rfl rfl rfl rfl rfl) (pu_move rfl (F.ev rfl)) rfl rfl ?_; clear F; intro φ F
      refine sq_pure F (wt1 F rfl rfl rfl rfl rfl) (pu_neqP rfl (F.ev rfl) (evk) Try.underlying24) rfl rfl ?_; clear F; intro φ F
      refine sq_pure F (wt0 rfl) (pu_pickt rfl (F.ev rfl) (F.ev rfl)) rfl rfl ?_; clear F; intro φ F
      refine sq_pure F (wt0 rfl) (pu_assign rfl (F.ev rfl)) rfl rfl ?_; clear F; intro φ F
      refine nx ?_
      refine wp_ret ?_
      refine nxr ?_
      refine rt_tmp F rfl rfl ?_
      exact ⟨rfl, M.bel⟩
  · rw [hs1] at F
    have hs1i := of_decide_eq_true hs1
    refine sq_skip F (wtn F rfl rfl rfl rfl rfl) rfl rfl ?_; clear F; intro φ F
    refine sq_skip F (wtn F rfl rfl rfl rfl rfl) rfl rfl ?_; clear F; intro φ F
    refine sq_skip F (wtn F rfl rfl rfl rfl rfl) rfl rfl ?_; clear F; intro φ F
    refine sq_pure F (wt0 rfl) (pu_pickt rfl (F.ev rfl) (evk)) rfl rfl ?_; clear F; intro φ F
    refine sq_pure F (wt0 rfl) (pu_move rfl (F.ev rfl)) rfl rfl ?_; clear F; intro φ F
    refine sq_skip F (wtn F rfl rfl rfl rfl rfl) rfl rfl ?_; clear F; intro φ F
    refine sq_skip F (wtn F rfl rfl rfl rfl rfl) rfl rfl ?_; clear F; intro φ F
    refine sq_pure F (wt0 rfl) (pu_pickt rfl (F.ev rfl) (evk)) rfl rfl ?_; clear F; intro φ F
    refine nx ?_
    refine wp_cond_true (F.ev rfl) ?_
    refine wp_seq ?_
    -- region 5
    refine wp_region_lit ?_
    refine sq_pure F (wt0 rfl) (pu_move rfl (F.ev rfl)) rfl rfl ?_; clear F; intro φ F
    refine sq_pure F (wt0 rfl) (pu_move rfl (F.ev rfl)) rfl rfl ?_; clear F; intro φ F
    refine sq_pure F (wt1 F rfl rfl rfl rfl rfl) (pu_move rfl (F.ev rfl)) rfl rfl ?_; clear F; intro φ F
    refine sq_pure F (wt1 F rfl rfl rfl rfl rfl) (pu_neqP rfl (F.ev rfl) (evk) Try.underlying24) rfl rfl ?_; clear F; intro φ F
    refine sq_pure F (wt0 rfl) (pu_pickt rfl (F.ev rfl) (F.ev rfl)) rfl rfl ?_; clear F; intro φ F
    refine sq_pure F (wt0 rfl) (pu_assign rfl (F.ev rfl)) rfl rfl ?_; clear F; intro φ F
    refine nx ?_
    refine wp_ret ?_
    refine nxr ?_
    refine rt_tmp F rfl rfl ?_
    exact ⟨rfl, M.bel⟩

end Go.Proofs.Ytplnpjhgnhndpaa
