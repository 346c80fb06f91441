/- Laws of layer 4. Made by walks/baglaws.py. -/
import Derived.Test.YtplnpjhgnhndpaaBa
import Derived.Test.YtplnpjhgnhndpaaRk
namespace Go.Proofs.Ytplnpjhgnhndpaa
open Go.RowKit Go.Sort

set_option maxHeartbeats 4000000 in
theorem bagOne_walk (t : St) (L : List Int) (a : Value) (w : World) (ha : RdI w a L) :
    Calls Try.prog 9 #[.agg #[.int .i64 t.e, .int .i64 t.r], a] w fun e w' => e = .returned (.bool true) ∧ Below w.heap.size w w' := by
  refine enterF Try.func9 rfl 97 Try.ntmps9 [.agg #[.int .i64 t.e, .int .i64 t.r], a] rfl [(0, .agg #[.int .i64 t.e, .int .i64 t.r]), (1, a)] rfl ?_
  intro φ F
  have M := Mm.start [] w
  replace M := M.addArg (ha) (fun _ => by first | (simp; done) | (simp_all; done) | assumption)
  refine wp_seq ?_
  -- region 0
  refine wp_region_lit ?_
  refine sq_box F M (wt0 rfl) rfl (F.ev rfl) (cs := #[.int .i64 t.e, .int .i64 t.r]) rfl rfl rfl ?_; clear F M; intro φ ω g1 F M
  refine sq_pure F (wt0 rfl) (pu_assign rfl (evk)) rfl rfl ?_; clear F; intro φ F
  refine nx ?_
  refine wp_seq ?_
  -- region 1
  refine wp_region_lit ?_
  refine sq_call F M (wt0 rfl) rfl en10 evn (awake_any _) rfl rfl ?_; clear F M; intro φ ω F M
  refine sq_pure F (wt0 rfl) (pu_assign rfl (F.ev rfl)) rfl rfl ?_; clear F; intro φ F
  refine nx ?_
  refine wp_seq ?_
  -- region 2
  refine wp_region_lit ?_
  refine sq_callO (Z := (fun v x => ∃ p g, v = .pointer (some ⟨p, 0, none⟩) ∧ x = .own [p, g] (BagV p g []))) F M (wt0 rfl) rfl en11 evn (new_any _) rfl rfl ?_; clear F M; rintro φ ω _ _ ⟨p11, m11, rfl, rfl⟩ F M
  replace M : Mm [] w ω [.own [p11, m11] (BagV p11 m11 ([] : List Ct)), .blk g1 30 #[.int .i64 t.e, .int .i64 t.r], .arg 1 a L.length (cI L)] := M
  refine sq_pure F (wt0 rfl) (pu_assign rfl (F.ev rfl)) rfl rfl ?_; clear F; intro φ F
  refine nx ?_
  refine wp_seq ?_
  -- region 3
  refine wp_region_lit ?_
  refine sq_rd F (wt0 rfl) (ld_agg rfl (F.ev rfl) agg30 (M.rd (i := 1) rfl) rfl) rfl rfl ?_; clear F; intro φ F
  refine sq_call F M (wt0 rfl) rfl en26 (evc (F.ev rfl) evn) (rright_any t _) rfl rfl ?_; clear F M; intro φ ω F M
  refine sq_pure F (wt0 rfl) (pu_assign rfl (F.ev rfl)) rfl rfl ?_; clear F; intro φ F
  refine nx ?_
  refine wp_seq ?_
  refine wp_seq ?_
  -- region 4
  refine wp_region_lit ?_
  refine sq_pure F (wt0 rfl) (pu_move rfl (F.ev rfl)) rfl rfl ?_; clear F; intro φ F
  refine sq_pure F (wt0 rfl) (pu_eqlP rfl (F.ev rfl) (evk) Try.underlying24) rfl rfl ?_; clear F; intro φ F
  refine sq_pure F (wt0 rfl) (pu_move rfl (F.ev rfl)) rfl rfl ?_; clear F; intro φ F
  refine sq_pure F (wt1 F rfl rfl rfl rfl rfl) (pu_move rfl (F.ev rfl)) rfl rfl ?_; clear F; intro φ F
  cases hs1 : t.rightB
  · rw [hs1] at F
    refine sq_pure F (wt1 F rfl rfl rfl rfl rfl) (pu_not rfl (F.ev rfl)) rfl rfl ?_; clear F; intro φ F
    rw [show (!false) = true from rfl] at F
    refine sq_pure F (wt0 rfl) (pu_pickf rfl (F.ev rfl) (F.ev rfl)) rfl rfl ?_; clear F; intro φ F
    refine sq_pure F (wt0 rfl) (pu_move rfl (F.ev rfl)) rfl rfl ?_; clear F; intro φ F
    refine sq_skip F (wtn F rfl rfl rfl rfl rfl) rfl rfl ?_; clear F; intro φ F
    refine sq_skip F (wtn F rfl rfl rfl rfl rfl) rfl rfl ?_; clear F; intro φ F
    refine sq_skip F (wtn F rfl rfl rfl rfl rfl) rfl rfl ?_; clear F; intro φ F
    refine sq_pure F (wt0 rfl) (pu_pickt rfl (F.ev rfl) (evk)) rfl rfl ?_; clear F; intro φ F
    refine nx ?_
    refine wp_cond_true (F.ev rfl) ?_
    refine wp_seq ?_
    -- region 5
    refine wp_region_lit ?_
    refine sq_pure F (wt0 rfl) (pu_move rfl (F.ev rfl)) rfl rfl ?_; clear F; intro φ F
    refine sq_pure F (wt0 rfl) (pu_move rfl (F.ev rfl)) rfl rfl ?_; clear F; intro φ F
    refine sq_pure F (wt1 F rfl rfl rfl rfl rfl) (pu_move rfl (F.ev rfl)) rfl rfl ?_; clear F; intro φ F
    refine sq_pure F (wt1 F rfl rfl rfl rfl rfl) (pu_neqP rfl (F.ev rfl) (evk) Try.underlying24) rfl rfl ?_; clear F; intro φ F
    refine sq_pure F (wt0 rfl) (pu_pickt rfl (F.ev rfl) (F.ev rfl)) rfl rfl ?_; clear F; intro φ F
    refine sq_pure F (wt0 rfl) (pu_assign rfl (F.ev rfl)) rfl rfl ?_; clear F; intro φ F
    refine nx ?_
    refine wp_ret ?_
    refine nxr ?_
    refine rt_tmp F rfl rfl ?_
    exact ⟨rfl, M.bel⟩
  · rw [hs1] at F
    refine sq_pure F (wt1 F rfl rfl rfl rfl rfl) (pu_not rfl (F.ev rfl)) rfl rfl ?_; clear F; intro φ F
    rw [show (!true) = false from rfl] at F
    refine sq_pure F (wt0 rfl) (pu_pickf rfl (F.ev rfl) (F.ev rfl)) rfl rfl ?_; clear F; intro φ F
    refine sq_pure F (wt0 rfl) (pu_move rfl (F.ev rfl)) rfl rfl ?_; clear F; intro φ F
    refine sq_pure F (wt1 F rfl rfl rfl rfl rfl) (pu_move rfl (F.ev rfl)) rfl rfl ?_; clear F; intro φ F
    refine sq_pure F (wt1 F rfl rfl rfl rfl rfl) (pu_len rfl (F.ev rfl) sl47 (M.av (i := 2) rfl)) rfl rfl ?_; clear F; intro φ F
    refine sq_pure F (wt1 F rfl rfl rfl rfl rfl) (pu_gtr rfl (F.ev rfl) (evk)) rfl rfl ?_; clear F; intro φ F
    refine sq_pure F (wt0 rfl) (pu_pickf rfl (F.ev rfl) (F.ev rfl)) rfl rfl ?_; clear F; intro φ F
    refine nx ?_
    cases hs2 : (decide (100 < ((L.length : Nat) : Int)))
    · rw [hs2] at F
      have hs2i := of_decide_eq_false hs2
      refine wp_cond_false (F.ev rfl) ?_
      refine wp_skip ?_
      refine nxq ?_
      refine wp_seq ?_
      -- region 6
      refine wp_region_lit ?_
      refine sq_pure F (wt0 rfl) (pu_assign rfl (evk)) rfl rfl ?_; clear F; intro φ F
      refine nx ?_
      refine wp_seq ?_
      refine wp_seq ?_
      -- region 7
      refine wp_region_lit ?_
      refine sq_pure F (wt0 rfl) (pu_assign rfl (evk)) rfl rfl ?_; clear F; intro φ F
      refine nx ?_
      refine wp_block ?_
      refine lp (σ := Int) (fun i φ' w' => ∃ s : Int, Fr φ' 97 [(1, a), (2, .pointer (some ⟨g1, 0, none⟩)), (5, .bool true), (6, .pointer (some ⟨p11, 0, none⟩)), (8, .int .i64 s), (9, .int .i64 i)] ∧ Mm [] w w' [.own [p11, m11] (BagV p11 m11 (oneC t s)), .blk g1 30 #[.int .i64 t.e, .int .i64 t.r], .arg 1 a L.length (cI L)] ∧ (0 ≤ i) ∧ (i ≤ (L.length : Int)) ∧ (-(1000000 * i) ≤ s) ∧ (s ≤ 1000000 * i)) (fun i => ((L.length : Int) - i).toNat) (0) ⟨0, ((((((F.nil.cons (F.get (k := 9) rfl)).cons (F.get (k := 8) rfl)).cons (F.get (k := 6) rfl)).cons (F.get (k := 5) rfl)).cons (F.get (k := 2) rfl)).cons (F.get (k := 1) rfl)), (by simpa [oneC] using M), Int.le_refl _, by omega, by omega, by omega⟩ ?_
      clear F M
      rintro i φ ω ⟨s, F, M, hp3_0, hp3_1, hp3_2, hp3_3⟩
      refine wp_seq ?_
      refine wp_seq ?_
      -- region 8
      refine wp_region_lit ?_
      refine sq_pure F (wt0 rfl) (pu_move rfl (F.ev rfl)) rfl rfl ?_; clear F; intro φ F
      refine sq_pure F (wt0 rfl) (pu_move rfl (F.ev rfl)) rfl rfl ?_; clear F; intro φ F
      refine sq_pure F (wt0 rfl) (pu_len rfl (F.ev rfl) sl47 (M.av (i := 2) rfl)) rfl rfl ?_; clear F; intro φ F
      refine sq_pure F (wt0 rfl) (pu_lss rfl (F.ev rfl) (F.ev rfl)) rfl rfl ?_; clear F; intro φ F
      refine nx ?_
      cases hs4 : (decide (i < ((L.length : Nat) : Int)))
      · rw [hs4] at F
        have hs4i := of_decide_eq_false hs4
        refine wp_cond_false (F.ev rfl) ?_
        refine wp_exit ?_
        refine nxe ?_
        refine nxe ?_
        refine nxm ?_
        refine nxq ?_
        refine wp_seq ?_
        -- region 14
        refine wp_region_lit ?_
        have o1 := of_one t s
        have o2 : 0 < s → (((minL (posL (oneC t s))).length : Nat) : Int) = 1 := fun h => by rw [one_front, if_pos h]
        have o3 : ¬ 0 < s → (((minL (posL (oneC t s))).length : Nat) : Int) = 0 := fun h => by rw [one_front, if_neg h]
        have o4 : s = 0 → (((oneC t s).length : Nat) : Int) = 0 := fun h => by rw [one_len, if_pos h]
        have o5 : ¬ s = 0 → (((oneC t s).length : Nat) : Int) = 1 := fun h => by rw [one_len, if_neg h]
        have o6 := one_lack t s
        refine sq_pure F (wt0 rfl) (pu_move rfl (F.ev rfl)) rfl rfl ?_; clear F; intro φ F
        refine sq_callN F M (wt0 rfl) rfl en18 (evc (F.ev rfl) evn) (front_any (oneC t s) p11 m11 _ (M.pv (i := 0) rfl) (by first | omega | (simp; done) | (simp; omega))) rfl rfl ?_; clear F M; intro φ ω v1 F M
        refine sq_pure F (wt0 rfl) (pu_assign rfl (F.ev rfl)) rfl rfl ?_; clear F; intro φ F
        refine nx ?_
        refine wp_seq ?_
        -- region 15
        refine wp_region_lit ?_
        refine sq_pure F (wt0 rfl) (pu_move rfl (F.ev rfl)) rfl rfl ?_; clear F; intro φ F
        refine sq_pure F (wt0 rfl) (pu_move rfl (F.ev rfl)) rfl rfl ?_; clear F; intro φ F
        refine sq_pure F (wt1 F rfl rfl rfl rfl rfl) (pu_move rfl (F.ev rfl)) rfl rfl ?_; clear F; intro φ F
        refine sq_rd F (wt1 F rfl rfl rfl rfl rfl) (ld_agg rfl (F.ev rfl) agg30 (M.rd (i := 2) rfl) rfl) rfl rfl ?_; clear F; intro φ F
        refine sq_call F M (wt1 F rfl rfl rfl rfl rfl) rfl en22 (evc (F.ev rfl) (evc (F.ev rfl) evn)) (of_any (oneC t s) p11 m11 t _ (M.pv (i := 1) rfl)) rfl rfl ?_; clear F M; intro φ ω F M
        refine sq_pure F (wt1 F rfl rfl rfl rfl rfl) (pu_move rfl (F.ev rfl)) rfl rfl ?_; clear F; intro φ F
        refine sq_pure F (wt1 F rfl rfl rfl rfl rfl) (pu_eqlI rfl (F.ev rfl) (F.ev rfl)) rfl rfl ?_; clear F; intro φ F
        refine sq_pure F (wt0 rfl) (pu_pickt rfl (F.ev rfl) (F.ev rfl)) rfl rfl ?_; clear F; intro φ F
        refine sq_pure F (wt0 rfl) (pu_move rfl (F.ev rfl)) rfl rfl ?_; clear F; intro φ F
        cases hs5 : (decide (ofC (oneC t s) t = s))
        · rw [hs5] at F
          have hs5i := of_decide_eq_false hs5
          refine sq_skip F (wtn F rfl rfl rfl rfl rfl) rfl rfl ?_; clear F; intro φ F
          refine sq_skip F (wtn F rfl rfl rfl rfl rfl) rfl rfl ?_; clear F; intro φ F
          refine sq_skip F (wtn F rfl rfl rfl rfl rfl) rfl rfl ?_; clear F; intro φ F
          refine sq_skip F (wtn F rfl rfl rfl rfl rfl) rfl rfl ?_; clear F; intro φ F
          refine sq_skip F (wtn F rfl rfl rfl rfl rfl) rfl rfl ?_; clear F; intro φ F
          refine sq_skip F (wtn F rfl rfl rfl rfl rfl) rfl rfl ?_; clear F; intro φ F
          refine sq_pure F (wt0 rfl) (pu_pickf rfl (F.ev rfl) (evk)) rfl rfl ?_; clear F; intro φ F
          refine sq_pure F (wt0 rfl) (pu_move rfl (F.ev rfl)) rfl rfl ?_; clear F; intro φ F
          refine sq_skip F (wtn F rfl rfl rfl rfl rfl) rfl rfl ?_; clear F; intro φ F
          refine sq_skip F (wtn F rfl rfl rfl rfl rfl) rfl rfl ?_; clear F; intro φ F
          refine sq_skip F (wtn F rfl rfl rfl rfl rfl) rfl rfl ?_; clear F; intro φ F
          refine sq_skip F (wtn F rfl rfl rfl rfl rfl) rfl rfl ?_; clear F; intro φ F
          refine sq_skip F (wtn F rfl rfl rfl rfl rfl) rfl rfl ?_; clear F; intro φ F
          refine sq_pure F (wt0 rfl) (pu_pickf rfl (F.ev rfl) (evk)) rfl rfl ?_; clear F; intro φ F
          refine sq_pure F (wt0 rfl) (pu_move rfl (F.ev rfl)) rfl rfl ?_; clear F; intro φ F
          refine sq_skip F (wtn F rfl rfl rfl rfl rfl) rfl rfl ?_; clear F; intro φ F
          refine sq_skip F (wtn F rfl rfl rfl rfl rfl) rfl rfl ?_; clear F; intro φ F
          refine sq_skip F (wtn F rfl rfl rfl rfl rfl) rfl rfl ?_; clear F; intro φ F
          refine sq_skip F (wtn F rfl rfl rfl rfl rfl) rfl rfl ?_; clear F; intro φ F
          refine sq_skip F (wtn F rfl rfl rfl rfl rfl) rfl rfl ?_; clear F; intro φ F
          refine sq_skip F (wtn F rfl rfl rfl rfl rfl) rfl rfl ?_; clear F; intro φ F
          refine sq_skip F (wtn F rfl rfl rfl rfl rfl) rfl rfl ?_; clear F; intro φ F
          refine sq_pure F (wt0 rfl) (pu_pickf rfl (F.ev rfl) (evk)) rfl rfl ?_; clear F; intro φ F
          refine sq_pure F (wt0 rfl) (pu_assign rfl (F.ev rfl)) rfl rfl ?_; clear F; intro φ F
          refine nx ?_
          refine wp_ret ?_
          refine rt_tmp F rfl rfl ?_
          exfalso; clear F M; first | omega | (simp_all; done) | (simp_all; omega)
        · rw [hs5] at F
          have hs5i := of_decide_eq_true hs5
          refine sq_pure F (wt1 F rfl rfl rfl rfl rfl) (pu_move rfl (F.ev rfl)) rfl rfl ?_; clear F; intro φ F
          refine sq_pure F (wt1 F rfl rfl rfl rfl rfl) (pu_len rfl (F.ev rfl) sl38 (M.rv (i := 0) rfl)) rfl rfl ?_; clear F; intro φ F
          refine sq_pure F (wt1 F rfl rfl rfl rfl rfl) (pu_eqlI rfl (F.ev rfl) (evk)) rfl rfl ?_; clear F; intro φ F
          refine sq_pure F (wt1 F rfl rfl rfl rfl rfl) (pu_move rfl (F.ev rfl)) rfl rfl ?_; clear F; intro φ F
          refine sq_pure F (wt1 F rfl rfl rfl rfl rfl) (pu_gtr rfl (F.ev rfl) (evk)) rfl rfl ?_; clear F; intro φ F
          cases hs6 : (decide ((((minL (posL (oneC t s))).length : Nat) : Int) = 1))
          · rw [hs6] at F
            have hs6i := of_decide_eq_false hs6
            cases hs7 : (decide (0 < s))
            · rw [hs7] at F
              have hs7i := of_decide_eq_false hs7
              refine sq_pure F (wt1 F rfl rfl rfl rfl rfl) (pu_eqlB rfl (F.ev rfl) (F.ev rfl) Try.underlying4) rfl rfl ?_; clear F; intro φ F
              rw [show (false == false) = true from rfl] at F
              refine sq_pure F (wt0 rfl) (pu_pickt rfl (F.ev rfl) (F.ev rfl)) rfl rfl ?_; clear F; intro φ F
              refine sq_pure F (wt0 rfl) (pu_move rfl (F.ev rfl)) rfl rfl ?_; clear F; intro φ F
              refine sq_pure F (wt1 F rfl rfl rfl rfl rfl) (pu_move rfl (F.ev rfl)) rfl rfl ?_; clear F; intro φ F
              refine sq_call F M (wt1 F rfl rfl rfl rfl rfl) rfl en20 (evc (F.ev rfl) evn) (lacks_any (oneC t s) p11 m11 _ (M.pv (i := 1) rfl)) rfl rfl ?_; clear F M; intro φ ω F M
              refine sq_pure F (wt1 F rfl rfl rfl rfl rfl) (pu_move rfl (F.ev rfl)) rfl rfl ?_; clear F; intro φ F
              refine sq_pure F (wt1 F rfl rfl rfl rfl rfl) (pu_lss rfl (F.ev rfl) (evk)) rfl rfl ?_; clear F; intro φ F
              cases hs8 : (lackB (oneC t s))
              · rw [hs8] at F
                cases hs9 : (decide (s < 0))
                · rw [hs9] at F
                  have hs9i := of_decide_eq_false hs9
                  refine sq_pure F (wt1 F rfl rfl rfl rfl rfl) (pu_eqlB rfl (F.ev rfl) (F.ev rfl) Try.underlying4) rfl rfl ?_; clear F; intro φ F
                  rw [show (false == false) = true from rfl] at F
                  refine sq_pure F (wt0 rfl) (pu_pickt rfl (F.ev rfl) (F.ev rfl)) rfl rfl ?_; clear F; intro φ F
                  refine sq_pure F (wt0 rfl) (pu_move rfl (F.ev rfl)) rfl rfl ?_; clear F; intro φ F
                  refine sq_pure F (wt1 F rfl rfl rfl rfl rfl) (pu_move rfl (F.ev rfl)) rfl rfl ?_; clear F; intro φ F
                  refine sq_callN F M (wt1 F rfl rfl rfl rfl rfl) rfl en16 (evc (F.ev rfl) evn) (all_any (oneC t s) p11 m11 _ (M.pv (i := 1) rfl) (by first | omega | (simp; done) | (simp; omega))) rfl rfl ?_; clear F M; intro φ ω v2 F M
                  refine sq_pure F (wt1 F rfl rfl rfl rfl rfl) (pu_len rfl (F.ev rfl) sl22 (M.rv (i := 0) rfl)) rfl rfl ?_; clear F; intro φ F
                  refine sq_pure F (wt1 F rfl rfl rfl rfl rfl) (pu_eqlI rfl (F.ev rfl) (evk)) rfl rfl ?_; clear F; intro φ F
                  refine sq_pure F (wt1 F rfl rfl rfl rfl rfl) (pu_move rfl (F.ev rfl)) rfl rfl ?_; clear F; intro φ F
                  refine sq_pure F (wt1 F rfl rfl rfl rfl rfl) (pu_eqlI rfl (F.ev rfl) (evk)) rfl rfl ?_; clear F; intro φ F
                  cases hs10 : (decide (((((oneC t s)).length : Nat) : Int) = 0))
                  · rw [hs10] at F
                    have hs10i := of_decide_eq_false hs10
                    cases hs11 : (decide (s = 0))
                    · rw [hs11] at F
                      have hs11i := of_decide_eq_false hs11
                      refine sq_pure F (wt1 F rfl rfl rfl rfl rfl) (pu_eqlB rfl (F.ev rfl) (F.ev rfl) Try.underlying4) rfl rfl ?_; clear F; intro φ F
                      rw [show (false == false) = true from rfl] at F
                      refine sq_pure F (wt0 rfl) (pu_pickt rfl (F.ev rfl) (F.ev rfl)) rfl rfl ?_; clear F; intro φ F
                      refine sq_pure F (wt0 rfl) (pu_assign rfl (F.ev rfl)) rfl rfl ?_; clear F; intro φ F
                      refine nx ?_
                      refine wp_ret ?_
                      refine rt_tmp F rfl rfl ?_
                      exact ⟨rfl, M.bel⟩
                    · rw [hs11] at F
                      have hs11i := of_decide_eq_true hs11
                      refine sq_pure F (wt1 F rfl rfl rfl rfl rfl) (pu_eqlB rfl (F.ev rfl) (F.ev rfl) Try.underlying4) rfl rfl ?_; clear F; intro φ F
                      rw [show (false == true) = false from rfl] at F
                      refine sq_pure F (wt0 rfl) (pu_pickt rfl (F.ev rfl) (F.ev rfl)) rfl rfl ?_; clear F; intro φ F
                      refine sq_pure F (wt0 rfl) (pu_assign rfl (F.ev rfl)) rfl rfl ?_; clear F; intro φ F
                      refine nx ?_
                      refine wp_ret ?_
                      refine rt_tmp F rfl rfl ?_
                      exfalso; clear F M; first | omega | (simp_all; done) | (simp_all; omega)
                  · rw [hs10] at F
                    have hs10i := of_decide_eq_true hs10
                    cases hs12 : (decide (s = 0))
                    · rw [hs12] at F
                      have hs12i := of_decide_eq_false hs12
                      refine sq_pure F (wt1 F rfl rfl rfl rfl rfl) (pu_eqlB rfl (F.ev rfl) (F.ev rfl) Try.underlying4) rfl rfl ?_; clear F; intro φ F
                      rw [show (true == false) = false from rfl] at F
                      refine sq_pure F (wt0 rfl) (pu_pickt rfl (F.ev rfl) (F.ev rfl)) rfl rfl ?_; clear F; intro φ F
                      refine sq_pure F (wt0 rfl) (pu_assign rfl (F.ev rfl)) rfl rfl ?_; clear F; intro φ F
                      refine nx ?_
                      refine wp_ret ?_
                      refine rt_tmp F rfl rfl ?_
                      exfalso; clear F M; first | omega | (simp_all; done) | (simp_all; omega)
                    · rw [hs12] at F
                      have hs12i := of_decide_eq_true hs12
                      refine sq_pure F (wt1 F rfl rfl rfl rfl rfl) (pu_eqlB rfl (F.ev rfl) (F.ev rfl) Try.underlying4) rfl rfl ?_; clear F; intro φ F
                      rw [show (true == true) = true from rfl] at F
                      refine sq_pure F (wt0 rfl) (pu_pickt rfl (F.ev rfl) (F.ev rfl)) rfl rfl ?_; clear F; intro φ F
                      refine sq_pure F (wt0 rfl) (pu_assign rfl (F.ev rfl)) rfl rfl ?_; clear F; intro φ F
                      refine nx ?_
                      refine wp_ret ?_
                      refine rt_tmp F rfl rfl ?_
                      exact ⟨rfl, M.bel⟩
                · rw [hs9] at F
                  have hs9i := of_decide_eq_true hs9
                  refine sq_pure F (wt1 F rfl rfl rfl rfl rfl) (pu_eqlB rfl (F.ev rfl) (F.ev rfl) Try.underlying4) rfl rfl ?_; clear F; intro φ F
                  rw [show (false == true) = false from rfl] at F
                  refine sq_pure F (wt0 rfl) (pu_pickt rfl (F.ev rfl) (F.ev rfl)) rfl rfl ?_; clear F; intro φ F
                  refine sq_pure F (wt0 rfl) (pu_move rfl (F.ev rfl)) rfl rfl ?_; clear F; intro φ F
                  refine sq_skip F (wtn F rfl rfl rfl rfl rfl) rfl rfl ?_; clear F; intro φ F
                  refine sq_skip F (wtn F rfl rfl rfl rfl rfl) rfl rfl ?_; clear F; intro φ F
                  refine sq_skip F (wtn F rfl rfl rfl rfl rfl) rfl rfl ?_; clear F; intro φ F
                  refine sq_skip F (wtn F rfl rfl rfl rfl rfl) rfl rfl ?_; clear F; intro φ F
                  refine sq_skip F (wtn F rfl rfl rfl rfl rfl) rfl rfl ?_; clear F; intro φ F
                  refine sq_skip F (wtn F rfl rfl rfl rfl rfl) rfl rfl ?_; clear F; intro φ F
                  refine sq_skip F (wtn F rfl rfl rfl rfl rfl) rfl rfl ?_; clear F; intro φ F
                  refine sq_pure F (wt0 rfl) (pu_pickf rfl (F.ev rfl) (evk)) rfl rfl ?_; clear F; intro φ F
                  refine sq_pure F (wt0 rfl) (pu_assign rfl (F.ev rfl)) rfl rfl ?_; clear F; intro φ F
                  refine nx ?_
                  refine wp_ret ?_
                  refine rt_tmp F rfl rfl ?_
                  exfalso; clear F M; first | omega | (simp_all; done) | (simp_all; omega)
              · rw [hs8] at F
                cases hs13 : (decide (s < 0))
                · rw [hs13] at F
                  have hs13i := of_decide_eq_false hs13
                  refine sq_pure F (wt1 F rfl rfl rfl rfl rfl) (pu_eqlB rfl (F.ev rfl) (F.ev rfl) Try.underlying4) rfl rfl ?_; clear F; intro φ F
                  rw [show (true == false) = false from rfl] at F
                  refine sq_pure F (wt0 rfl) (pu_pickt rfl (F.ev rfl) (F.ev rfl)) rfl rfl ?_; clear F; intro φ F
                  refine sq_pure F (wt0 rfl) (pu_move rfl (F.ev rfl)) rfl rfl ?_; clear F; intro φ F
                  refine sq_skip F (wtn F rfl rfl rfl rfl rfl) rfl rfl ?_; clear F; intro φ F
                  refine sq_skip F (wtn F rfl rfl rfl rfl rfl) rfl rfl ?_; clear F; intro φ F
                  refine sq_skip F (wtn F rfl rfl rfl rfl rfl) rfl rfl ?_; clear F; intro φ F
                  refine sq_skip F (wtn F rfl rfl rfl rfl rfl) rfl rfl ?_; clear F; intro φ F
                  refine sq_skip F (wtn F rfl rfl rfl rfl rfl) rfl rfl ?_; clear F; intro φ F
                  refine sq_skip F (wtn F rfl rfl rfl rfl rfl) rfl rfl ?_; clear F; intro φ F
                  refine sq_skip F (wtn F rfl rfl rfl rfl rfl) rfl rfl ?_; clear F; intro φ F
                  refine sq_pure F (wt0 rfl) (pu_pickf rfl (F.ev rfl) (evk)) rfl rfl ?_; clear F; intro φ F
                  refine sq_pure F (wt0 rfl) (pu_assign rfl (F.ev rfl)) rfl rfl ?_; clear F; intro φ F
                  refine nx ?_
                  refine wp_ret ?_
                  refine rt_tmp F rfl rfl ?_
                  exfalso; clear F M; first | omega | (simp_all; done) | (simp_all; omega)
                · rw [hs13] at F
                  have hs13i := of_decide_eq_true hs13
                  refine sq_pure F (wt1 F rfl rfl rfl rfl rfl) (pu_eqlB rfl (F.ev rfl) (F.ev rfl) Try.underlying4) rfl rfl ?_; clear F; intro φ F
                  rw [show (true == true) = true from rfl] at F
                  refine sq_pure F (wt0 rfl) (pu_pickt rfl (F.ev rfl) (F.ev rfl)) rfl rfl ?_; clear F; intro φ F
                  refine sq_pure F (wt0 rfl) (pu_move rfl (F.ev rfl)) rfl rfl ?_; clear F; intro φ F
                  refine sq_pure F (wt1 F rfl rfl rfl rfl rfl) (pu_move rfl (F.ev rfl)) rfl rfl ?_; clear F; intro φ F
                  refine sq_callN F M (wt1 F rfl rfl rfl rfl rfl) rfl en16 (evc (F.ev rfl) evn) (all_any (oneC t s) p11 m11 _ (M.pv (i := 1) rfl) (by first | omega | (simp; done) | (simp; omega))) rfl rfl ?_; clear F M; intro φ ω v3 F M
                  refine sq_pure F (wt1 F rfl rfl rfl rfl rfl) (pu_len rfl (F.ev rfl) sl22 (M.rv (i := 0) rfl)) rfl rfl ?_; clear F; intro φ F
                  refine sq_pure F (wt1 F rfl rfl rfl rfl rfl) (pu_eqlI rfl (F.ev rfl) (evk)) rfl rfl ?_; clear F; intro φ F
                  refine sq_pure F (wt1 F rfl rfl rfl rfl rfl) (pu_move rfl (F.ev rfl)) rfl rfl ?_; clear F; intro φ F
                  refine sq_pure F (wt1 F rfl rfl rfl rfl rfl) (pu_eqlI rfl (F.ev rfl) (evk)) rfl rfl ?_; clear F; intro φ F
                  cases hs14 : (decide (((((oneC t s)).length : Nat) : Int) = 0))
                  · rw [hs14] at F
                    have hs14i := of_decide_eq_false hs14
                    cases hs15 : (decide (s = 0))
                    · rw [hs15] at F
                      have hs15i := of_decide_eq_false hs15
                      refine sq_pure F (wt1 F rfl rfl rfl rfl rfl) (pu_eqlB rfl (F.ev rfl) (F.ev rfl) Try.underlying4) rfl rfl ?_; clear F; intro φ F
                      rw [show (false == false) = true from rfl] at F
                      refine sq_pure F (wt0 rfl) (pu_pickt rfl (F.ev rfl) (F.ev rfl)) rfl rfl ?_; clear F; intro φ F
                      refine sq_pure F (wt0 rfl) (pu_assign rfl (F.ev rfl)) rfl rfl ?_; clear F; intro φ F
                      refine nx ?_
                      refine wp_ret ?_
                      refine rt_tmp F rfl rfl ?_
                      exact ⟨rfl, M.bel⟩
                    · rw [hs15] at F
                      have hs15i := of_decide_eq_true hs15
                      refine sq_pure F (wt1 F rfl rfl rfl rfl rfl) (pu_eqlB rfl (F.ev rfl) (F.ev rfl) Try.underlying4) rfl rfl ?_; clear F; intro φ F
                      rw [show (false == true) = false from rfl] at F
                      refine sq_pure F (wt0 rfl) (pu_pickt rfl (F.ev rfl) (F.ev rfl)) rfl rfl ?_; clear F; intro φ F
                      refine sq_pure F (wt0 rfl) (pu_assign rfl (F.ev rfl)) rfl rfl ?_; clear F; intro φ F
                      refine nx ?_
                      refine wp_ret ?_
                      refine rt_tmp F rfl rfl ?_
                      exfalso; clear F M; first | omega | (simp_all; done) | (simp_all; omega)
                  · rw [hs14] at F
                    have hs14i := of_decide_eq_true hs14
                    cases hs16 : (decide (s = 0))
                    · rw [hs16] at F
                      have hs16i := of_decide_eq_false hs16
                      refine sq_pure F (wt1 F rfl rfl rfl rfl rfl) (pu_eqlB rfl (F.ev rfl) (F.ev rfl) Try.underlying4) rfl rfl ?_; clear F; intro φ F
                      rw [show (true == false) = false from rfl] at F
                      refine sq_pure F (wt0 rfl) (pu_pickt rfl (F.ev rfl) (F.ev rfl)) rfl rfl ?_; clear F; intro φ F
                      refine sq_pure F (wt0 rfl) (pu_assign rfl (F.ev rfl)) rfl rfl ?_; clear F; intro φ F
                      refine nx ?_
                      refine wp_ret ?_
                      refine rt_tmp F rfl rfl ?_
                      exfalso; clear F M; first | omega | (simp_all; done) | (simp_all; omega)
                    · rw [hs16] at F
                      have hs16i := of_decide_eq_true hs16
                      refine sq_pure F (wt1 F rfl rfl rfl rfl rfl) (pu_eqlB rfl (F.ev rfl) (F.ev rfl) Try.underlying4) rfl rfl ?_; clear F; intro φ F
                      rw [show (true == true) = true from rfl] at F
                      refine sq_pure F (wt0 rfl) (pu_pickt rfl (F.ev rfl) (F.ev rfl)) rfl rfl ?_; clear F; intro φ F
                      refine sq_pure F (wt0 rfl) (pu_assign rfl (F.ev rfl)) rfl rfl ?_; clear F; intro φ F
                      refine nx ?_
                      refine wp_ret ?_
                      refine rt_tmp F rfl rfl ?_
                      exact ⟨rfl, M.bel⟩
            · rw [hs7] at F
              have hs7i := of_decide_eq_true hs7
              refine sq_pure F (wt1 F rfl rfl rfl rfl rfl) (pu_eqlB rfl (F.ev rfl) (F.ev rfl) Try.underlying4) rfl rfl ?_; clear F; intro φ F
              rw [show (false == true) = false from rfl] at F
              refine sq_pure F (wt0 rfl) (pu_pickt rfl (F.ev rfl) (F.ev rfl)) rfl rfl ?_; clear F; intro φ F
              refine sq_pure F (wt0 rfl) (pu_move rfl (F.ev rfl)) rfl rfl ?_; clear F; intro φ F
              refine sq_skip F (wtn F rfl rfl rfl rfl rfl) rfl rfl ?_; clear F; intro φ F
              refine sq_skip F (wtn F rfl rfl rfl rfl rfl) rfl rfl ?_; clear F; intro φ F
              refine sq_skip F (wtn F rfl rfl rfl rfl rfl) rfl rfl ?_; clear F; intro φ F
              refine sq_skip F (wtn F rfl rfl rfl rfl rfl) rfl rfl ?_; clear F; intro φ F
              refine sq_skip F (wtn F rfl rfl rfl rfl rfl) rfl rfl ?_; clear F; intro φ F
              refine sq_pure F (wt0 rfl) (pu_pickf rfl (F.ev rfl) (evk)) rfl rfl ?_; clear F; intro φ F
              refine sq_pure F (wt0 rfl) (pu_move rfl (F.ev rfl)) rfl rfl ?_; clear F; intro φ F
              refine sq_skip F (wtn F rfl rfl rfl rfl rfl) rfl rfl ?_; clear F; intro φ F
              refine sq_skip F (wtn F rfl rfl rfl rfl rfl) rfl rfl ?_; clear F; intro φ F
              refine sq_skip F (wtn F rfl rfl rfl rfl rfl) rfl rfl ?_; clear F; intro φ F
              refine sq_skip F (wtn F rfl rfl rfl rfl rfl) rfl rfl ?_; clear F; intro φ F
              refine sq_skip F (wtn F rfl rfl rfl rfl rfl) rfl rfl ?_; clear F; intro φ F
              refine sq_skip F (wtn F rfl rfl rfl rfl rfl) rfl rfl ?_; clear F; intro φ F
              refine sq_skip F (wtn F rfl rfl rfl rfl rfl) rfl rfl ?_; clear F; intro φ F
              refine sq_pure F (wt0 rfl) (pu_pickf rfl (F.ev rfl) (evk)) rfl rfl ?_; clear F; intro φ F
              refine sq_pure F (wt0 rfl) (pu_assign rfl (F.ev rfl)) rfl rfl ?_; clear F; intro φ F
              refine nx ?_
              refine wp_ret ?_
              refine rt_tmp F rfl rfl ?_
              exfalso; clear F M; first | omega | (simp_all; done) | (simp_all; omega)
          · rw [hs6] at F
            have hs6i := of_decide_eq_true hs6
            cases hs17 : (decide (0 < s))
            · rw [hs17] at F
              have hs17i := of_decide_eq_false hs17
              refine sq_pure F (wt1 F rfl rfl rfl rfl rfl) (pu_eqlB rfl (F.ev rfl) (F.ev rfl) Try.underlying4) rfl rfl ?_; clear F; intro φ F
              rw [show (true == false) = false from rfl] at F
              refine sq_pure F (wt0 rfl) (pu_pickt rfl (F.ev rfl) (F.ev rfl)) rfl rfl ?_; clear F; intro φ F
              refine sq_pure F (wt0 rfl) (pu_move rfl (F.ev rfl)) rfl rfl ?_; clear F; intro φ F
              refine sq_skip F (wtn F rfl rfl rfl rfl rfl) rfl rfl ?_; clear F; intro φ F
              refine sq_skip F (wtn F rfl rfl rfl rfl rfl) rfl rfl ?_; clear F; intro φ F
              refine sq_skip F (wtn F rfl rfl rfl rfl rfl) rfl rfl ?_; clear F; intro φ F
              refine sq_skip F (wtn F rfl rfl rfl rfl rfl) rfl rfl ?_; clear F; intro φ F
              refine sq_skip F (wtn F rfl rfl rfl rfl rfl) rfl rfl ?_; clear F; intro φ F
              refine sq_pure F (wt0 rfl) (pu_pickf rfl (F.ev rfl) (evk)) rfl rfl ?_; clear F; intro φ F
              refine sq_pure F (wt0 rfl) (pu_move rfl (F.ev rfl)) rfl rfl ?_; clear F; intro φ F
              refine sq_skip F (wtn F rfl rfl rfl rfl rfl) rfl rfl ?_; clear F; intro φ F
              refine sq_skip F (wtn F rfl rfl rfl rfl rfl) rfl rfl ?_; clear F; intro φ F
              refine sq_skip F (wtn F rfl rfl rfl rfl rfl) rfl rfl ?_; clear F; intro φ F
              refine sq_skip F (wtn F rfl rfl rfl rfl rfl) rfl rfl ?_; clear F; intro φ F
              refine sq_skip F (wtn F rfl rfl rfl rfl rfl) rfl rfl ?_; clear F; intro φ F
              refine sq_skip F (wtn F rfl rfl rfl rfl rfl) rfl rfl ?_; clear F; intro φ F
              refine sq_skip F (wtn F rfl rfl rfl rfl rfl) rfl rfl ?_; clear F; intro φ F
              refine sq_pure F (wt0 rfl) (pu_pickf rfl (F.ev rfl) (evk)) rfl rfl ?_; clear F; intro φ F
              refine sq_pure F (wt0 rfl) (pu_assign rfl (F.ev rfl)) rfl rfl ?_; clear F; intro φ F
              refine nx ?_
              refine wp_ret ?_
              refine rt_tmp F rfl rfl ?_
              exfalso; clear F M; first | omega | (simp_all; done) | (simp_all; omega)
            · rw [hs17] at F
              have hs17i := of_decide_eq_true hs17
              refine sq_pure F (wt1 F rfl rfl rfl rfl rfl) (pu_eqlB rfl (F.ev rfl) (F.ev rfl) Try.underlying4) rfl rfl ?_; clear F; intro φ F
              rw [show (true == true) = true from rfl] at F
              refine sq_pure F (wt0 rfl) (pu_pickt rfl (F.ev rfl) (F.ev rfl)) rfl rfl ?_; clear F; intro φ F
              refine sq_pure F (wt0 rfl) (pu_move rfl (F.ev rfl)) rfl rfl ?_; clear F; intro φ F
              refine sq_pure F (wt1 F rfl rfl rfl rfl rfl) (pu_move rfl (F.ev rfl)) rfl rfl ?_; clear F; intro φ F
              refine sq_call F M (wt1 F rfl rfl rfl rfl rfl) rfl en20 (evc (F.ev rfl) evn) (lacks_any (oneC t s) p11 m11 _ (M.pv (i := 1) rfl)) rfl rfl ?_; clear F M; intro φ ω F M
              refine sq_pure F (wt1 F rfl rfl rfl rfl rfl) (pu_move rfl (F.ev rfl)) rfl rfl ?_; clear F; intro φ F
              refine sq_pure F (wt1 F rfl rfl rfl rfl rfl) (pu_lss rfl (F.ev rfl) (evk)) rfl rfl ?_; clear F; intro φ F
              cases hs18 : (lackB (oneC t s))
              · rw [hs18] at F
                cases hs19 : (decide (s < 0))
                · rw [hs19] at F
                  have hs19i := of_decide_eq_false hs19
                  refine sq_pure F (wt1 F rfl rfl rfl rfl rfl) (pu_eqlB rfl (F.ev rfl) (F.ev rfl) Try.underlying4) rfl rfl ?_; clear F; intro φ F
                  rw [show (false == false) = true from rfl] at F
                  refine sq_pure F (wt0 rfl) (pu_pickt rfl (F.ev rfl) (F.ev rfl)) rfl rfl ?_; clear F; intro φ F
                  refine sq_pure F (wt0 rfl) (pu_move rfl (F.ev rfl)) rfl rfl ?_; clear F; intro φ F
                  refine sq_pure F (wt1 F rfl rfl rfl rfl rfl) (pu_move rfl (F.ev rfl)) rfl rfl ?_; clear F; intro φ F
                  refine sq_callN F M (wt1 F rfl rfl rfl rfl rfl) rfl en16 (evc (F.ev rfl) evn) (all_any (oneC t s) p11 m11 _ (M.pv (i := 1) rfl) (by first | omega | (simp; done) | (simp; omega))) rfl rfl ?_; clear F M; intro φ ω v4 F M
                  refine sq_pure F (wt1 F rfl rfl rfl rfl rfl) (pu_len rfl (F.ev rfl) sl22 (M.rv (i := 0) rfl)) rfl rfl ?_; clear F; intro φ F
                  refine sq_pure F (wt1 F rfl rfl rfl rfl rfl) (pu_eqlI rfl (F.ev rfl) (evk)) rfl rfl ?_; clear F; intro φ F
                  refine sq_pure F (wt1 F rfl rfl rfl rfl rfl) (pu_move rfl (F.ev rfl)) rfl rfl ?_; clear F; intro φ F
                  refine sq_pure F (wt1 F rfl rfl rfl rfl rfl) (pu_eqlI rfl (F.ev rfl) (evk)) rfl rfl ?_; clear F; intro φ F
                  cases hs20 : (decide (((((oneC t s)).length : Nat) : Int) = 0))
                  · rw [hs20] at F
                    have hs20i := of_decide_eq_false hs20
                    cases hs21 : (decide (s = 0))
                    · rw [hs21] at F
                      have hs21i := of_decide_eq_false hs21
                      refine sq_pure F (wt1 F rfl rfl rfl rfl rfl) (pu_eqlB rfl (F.ev rfl) (F.ev rfl) Try.underlying4) rfl rfl ?_; clear F; intro φ F
                      rw [show (false == false) = true from rfl] at F
                      refine sq_pure F (wt0 rfl) (pu_pickt rfl (F.ev rfl) (F.ev rfl)) rfl rfl ?_; clear F; intro φ F
                      refine sq_pure F (wt0 rfl) (pu_assign rfl (F.ev rfl)) rfl rfl ?_; clear F; intro φ F
                      refine nx ?_
                      refine wp_ret ?_
                      refine rt_tmp F rfl rfl ?_
                      exact ⟨rfl, M.bel⟩
                    · rw [hs21] at F
                      have hs21i := of_decide_eq_true hs21
                      refine sq_pure F (wt1 F rfl rfl rfl rfl rfl) (pu_eqlB rfl (F.ev rfl) (F.ev rfl) Try.underlying4) rfl rfl ?_; clear F; intro φ F
                      rw [show (false == true) = false from rfl] at F
                      refine sq_pure F (wt0 rfl) (pu_pickt rfl (F.ev rfl) (F.ev rfl)) rfl rfl ?_; clear F; intro φ F
                      refine sq_pure F (wt0 rfl) (pu_assign rfl (F.ev rfl)) rfl rfl ?_; clear F; intro φ F
                      refine nx ?_
                      refine wp_ret ?_
                      refine rt_tmp F rfl rfl ?_
                      exfalso; clear F M; first | omega | (simp_all; done) | (simp_all; omega)
                  · rw [hs20] at F
                    have hs20i := of_decide_eq_true hs20
                    cases hs22 : (decide (s = 0))
                    · rw [hs22] at F
                      have hs22i := of_decide_eq_false hs22
                      refine sq_pure F (wt1 F rfl rfl rfl rfl rfl) (pu_eqlB rfl (F.ev rfl) (F.ev rfl) Try.underlying4) rfl rfl ?_; clear F; intro φ F
                      rw [show (true == false) = false from rfl] at F
                      refine sq_pure F (wt0 rfl) (pu_pickt rfl (F.ev rfl) (F.ev rfl)) rfl rfl ?_; clear F; intro φ F
                      refine sq_pure F (wt0 rfl) (pu_assign rfl (F.ev rfl)) rfl rfl ?_; clear F; intro φ F
                      refine nx ?_
                      refine wp_ret ?_
                      refine rt_tmp F rfl rfl ?_
                      exfalso; clear F M; first | omega | (simp_all; done) | (simp_all; omega)
                    · rw [hs22] at F
                      have hs22i := of_decide_eq_true hs22
                      refine sq_pure F (wt1 F rfl rfl rfl rfl rfl) (pu_eqlB rfl (F.ev rfl) (F.ev rfl) Try.underlying4) rfl rfl ?_; clear F; intro φ F
                      rw [show (true == true) = true from rfl] at F
                      refine sq_pure F (wt0 rfl) (pu_pickt rfl (F.ev rfl) (F.ev rfl)) rfl rfl ?_; clear F; intro φ F
                      refine sq_pure F (wt0 rfl) (pu_assign rfl (F.ev rfl)) rfl rfl ?_; clear F; intro φ F
                      refine nx ?_
                      refine wp_ret ?_
                      refine rt_tmp F rfl rfl ?_
                      exact ⟨rfl, M.bel⟩
                · rw [hs19] at F
                  have hs19i := of_decide_eq_true hs19
                  refine sq_pure F (wt1 F rfl rfl rfl rfl rfl) (pu_eqlB rfl (F.ev rfl) (F.ev rfl) Try.underlying4) rfl rfl ?_; clear F; intro φ F
                  rw [show (false == true) = false from rfl] at F
                  refine sq_pure F (wt0 rfl) (pu_pickt rfl (F.ev rfl) (F.ev rfl)) rfl rfl ?_; clear F; intro φ F
                  refine sq_pure F (wt0 rfl) (pu_move rfl (F.ev rfl)) rfl rfl ?_; clear F; intro φ F
                  refine sq_skip F (wtn F rfl rfl rfl rfl rfl) rfl rfl ?_; clear F; intro φ F
                  refine sq_skip F (wtn F rfl rfl rfl rfl rfl) rfl rfl ?_; clear F; intro φ F
                  refine sq_skip F (wtn F rfl rfl rfl rfl rfl) rfl rfl ?_; clear F; intro φ F
                  refine sq_skip F (wtn F rfl rfl rfl rfl rfl) rfl rfl ?_; clear F; intro φ F
                  refine sq_skip F (wtn F rfl rfl rfl rfl rfl) rfl rfl ?_; clear F; intro φ F
                  refine sq_skip F (wtn F rfl rfl rfl rfl rfl) rfl rfl ?_; clear F; intro φ F
                  refine sq_skip F (wtn F rfl rfl rfl rfl rfl) rfl rfl ?_; clear F; intro φ F
                  refine sq_pure F (wt0 rfl) (pu_pickf rfl (F.ev rfl) (evk)) rfl rfl ?_; clear F; intro φ F
                  refine sq_pure F (wt0 rfl) (pu_assign rfl (F.ev rfl)) rfl rfl ?_; clear F; intro φ F
                  refine nx ?_
                  refine wp_ret ?_
                  refine rt_tmp F rfl rfl ?_
                  exfalso; clear F M; first | omega | (simp_all; done) | (simp_all; omega)
              · rw [hs18] at F
                cases hs23 : (decide (s < 0))
                · rw [hs23] at F
                  have hs23i := of_decide_eq_false hs23
                  refine sq_pure F (wt1 F rfl rfl rfl rfl rfl) (pu_eqlB rfl (F.ev rfl) (F.ev rfl) Try.underlying4) rfl rfl ?_; clear F; intro φ F
                  rw [show (true == false) = false from rfl] at F
                  refine sq_pure F (wt0 rfl) (pu_pickt rfl (F.ev rfl) (F.ev rfl)) rfl rfl ?_; clear F; intro φ F
                  refine sq_pure F (wt0 rfl) (pu_move rfl (F.ev rfl)) rfl rfl ?_; clear F; intro φ F
                  refine sq_skip F (wtn F rfl rfl rfl rfl rfl) rfl rfl ?_; clear F; intro φ F
                  refine sq_skip F (wtn F rfl rfl rfl rfl rfl) rfl rfl ?_; clear F; intro φ F
                  refine sq_skip F (wtn F rfl rfl rfl rfl rfl) rfl rfl ?_; clear F; intro φ F
                  refine sq_skip F (wtn F rfl rfl rfl rfl rfl) rfl rfl ?_; clear F; intro φ F
                  refine sq_skip F (wtn F rfl rfl rfl rfl rfl) rfl rfl ?_; clear F; intro φ F
                  refine sq_skip F (wtn F rfl rfl rfl rfl rfl) rfl rfl ?_; clear F; intro φ F
                  refine sq_skip F (wtn F rfl rfl rfl rfl rfl) rfl rfl ?_; clear F; intro φ F
                  refine sq_pure F (wt0 rfl) (pu_pickf rfl (F.ev rfl) (evk)) rfl rfl ?_; clear F; intro φ F
                  refine sq_pure F (wt0 rfl) (pu_assign rfl (F.ev rfl)) rfl rfl ?_; clear F; intro φ F
                  refine nx ?_
                  refine wp_ret ?_
                  refine rt_tmp F rfl rfl ?_
                  exfalso; clear F M; first | omega | (simp_all; done) | (simp_all; omega)
                · rw [hs23] at F
                  have hs23i := of_decide_eq_true hs23
                  refine sq_pure F (wt1 F rfl rfl rfl rfl rfl) (pu_eqlB rfl (F.ev rfl) (F.ev rfl) Try.underlying4) rfl rfl ?_; clear F; intro φ F
                  rw [show (true == true) = true from rfl] at F
                  refine sq_pure F (wt0 rfl) (pu_pickt rfl (F.ev rfl) (F.ev rfl)) rfl rfl ?_; clear F; intro φ F
                  refine sq_pure F (wt0 rfl) (pu_move rfl (F.ev rfl)) rfl rfl ?_; clear F; intro φ F
                  refine sq_pure F (wt1 F rfl rfl rfl rfl rfl) (pu_move rfl (F.ev rfl)) rfl rfl ?_; clear F; intro φ F
                  refine sq_callN F M (wt1 F rfl rfl rfl rfl rfl) rfl en16 (evc (F.ev rfl) evn) (all_any (oneC t s) p11 m11 _ (M.pv (i := 1) rfl) (by first | omega | (simp; done) | (simp; omega))) rfl rfl ?_; clear F M; intro φ ω v5 F M
                  refine sq_pure F (wt1 F rfl rfl rfl rfl rfl) (pu_len rfl (F.ev rfl) sl22 (M.rv (i := 0) rfl)) rfl rfl ?_; clear F; intro φ F
                  refine sq_pure F (wt1 F rfl rfl rfl rfl rfl) (pu_eqlI rfl (F.ev rfl) (evk)) rfl rfl ?_; clear F; intro φ F
                  refine sq_pure F (wt1 F rfl rfl rfl rfl rfl) (pu_move rfl (F.ev rfl)) rfl rfl ?_; clear F; intro φ F
                  refine sq_pure F (wt1 F rfl rfl rfl rfl rfl) (pu_eqlI rfl (F.ev rfl) (evk)) rfl rfl ?_; clear F; intro φ F
                  cases hs24 : (decide (((((oneC t s)).length : Nat) : Int) = 0))
                  · rw [hs24] at F
                    have hs24i := of_decide_eq_false hs24
                    cases hs25 : (decide (s = 0))
                    · rw [hs25] at F
                      have hs25i := of_decide_eq_false hs25
                      refine sq_pure F (wt1 F rfl rfl rfl rfl rfl) (pu_eqlB rfl (F.ev rfl) (F.ev rfl) Try.underlying4) rfl rfl ?_; clear F; intro φ F
                      rw [show (false == false) = true from rfl] at F
                      refine sq_pure F (wt0 rfl) (pu_pickt rfl (F.ev rfl) (F.ev rfl)) rfl rfl ?_; clear F; intro φ F
                      refine sq_pure F (wt0 rfl) (pu_assign rfl (F.ev rfl)) rfl rfl ?_; clear F; intro φ F
                      refine nx ?_
                      refine wp_ret ?_
                      refine rt_tmp F rfl rfl ?_
                      exact ⟨rfl, M.bel⟩
                    · rw [hs25] at F
                      have hs25i := of_decide_eq_true hs25
                      refine sq_pure F (wt1 F rfl rfl rfl rfl rfl) (pu_eqlB rfl (F.ev rfl) (F.ev rfl) Try.underlying4) rfl rfl ?_; clear F; intro φ F
                      rw [show (false == true) = false from rfl] at F
                      refine sq_pure F (wt0 rfl) (pu_pickt rfl (F.ev rfl) (F.ev rfl)) rfl rfl ?_; clear F; intro φ F
                      refine sq_pure F (wt0 rfl) (pu_assign rfl (F.ev rfl)) rfl rfl ?_; clear F; intro φ F
                      refine nx ?_
                      refine wp_ret ?_
                      refine rt_tmp F rfl rfl ?_
                      exfalso; clear F M; first | omega | (simp_all; done) | (simp_all; omega)
                  · rw [hs24] at F
                    have hs24i := of_decide_eq_true hs24
                    cases hs26 : (decide (s = 0))
                    · rw [hs26] at F
                      have hs26i := of_decide_eq_false hs26
                      refine sq_pure F (wt1 F rfl rfl rfl rfl rfl) (pu_eqlB rfl (F.ev rfl) (F.ev rfl) Try.underlying4) rfl rfl ?_; clear F; intro φ F
                      rw [show (true == false) = false from rfl] at F
                      refine sq_pure F (wt0 rfl) (pu_pickt rfl (F.ev rfl) (F.ev rfl)) rfl rfl ?_; clear F; intro φ F
                      refine sq_pure F (wt0 rfl) (pu_assign rfl (F.ev rfl)) rfl rfl ?_; clear F; intro φ F
                      refine nx ?_
                      refine wp_ret ?_
                      refine rt_tmp F rfl rfl ?_
                      exfalso; clear F M; first | omega | (simp_all; done) | (simp_all; omega)
                    · rw [hs26] at F
                      have hs26i := of_decide_eq_true hs26
                      refine sq_pure F (wt1 F rfl rfl rfl rfl rfl) (pu_eqlB rfl (F.ev rfl) (F.ev rfl) Try.underlying4) rfl rfl ?_; clear F; intro φ F
                      rw [show (true == true) = true from rfl] at F
                      refine sq_pure F (wt0 rfl) (pu_pickt rfl (F.ev rfl) (F.ev rfl)) rfl rfl ?_; clear F; intro φ F
                      refine sq_pure F (wt0 rfl) (pu_assign rfl (F.ev rfl)) rfl rfl ?_; clear F; intro φ F
                      refine nx ?_
                      refine wp_ret ?_
                      refine rt_tmp F rfl rfl ?_
                      exact ⟨rfl, M.bel⟩
      · rw [hs4] at F
        have hs4i := of_decide_eq_true hs4
        refine wp_cond_true (F.ev rfl) ?_
        refine wp_skip ?_
        refine nxq ?_
        refine wp_seq ?_
        refine wp_block ?_
        refine wp_seq ?_
        refine wp_seq ?_
        -- region 10
        refine wp_region_lit ?_
        refine sq_pure F (wt0 rfl) (pu_move rfl (F.ev rfl)) rfl rfl ?_; clear F; intro φ F
        refine sq_pure F (wt0 rfl) (pu_move rfl (F.ev rfl)) rfl rfl ?_; clear F; intro φ F
        refine sq_pure F (wt0 rfl) (pu_ix rfl (F.ev rfl) (F.ev rfl) sl47 (M.av (i := 2) rfl) (by omega) (by omega)) rfl rfl ?_; clear F; intro φ F
        refine sq_rd F (wt0 rfl) (ld_el1 rfl (F.ev rfl) one3 (fun _ e => e ▸ (M.av (i := 2) rfl)) (by omega) (cI_at (by first | omega | (simp; done) | (simp; omega)))) rfl rfl ?_; clear F; intro φ F
        refine sq_pure F (wt0 rfl) (pu_gtr rfl (F.ev rfl) (evk)) rfl rfl ?_; clear F; intro φ F
        refine sq_pure F (wt0 rfl) (pu_move rfl (F.ev rfl)) rfl rfl ?_; clear F; intro φ F
        cases hs27 : (decide (1000000 < (atI L i.toNat)))
        · rw [hs27] at F
          have hs27i := of_decide_eq_false hs27
          refine sq_pure F (wt1 F rfl rfl rfl rfl rfl) (pu_move rfl (F.ev rfl)) rfl rfl ?_; clear F; intro φ F
          refine sq_pure F (wt1 F rfl rfl rfl rfl rfl) (pu_move rfl (F.ev rfl)) rfl rfl ?_; clear F; intro φ F
          refine sq_pure F (wt1 F rfl rfl rfl rfl rfl) (pu_ix rfl (F.ev rfl) (F.ev rfl) sl47 (M.av (i := 2) rfl) (by omega) (by omega)) rfl rfl ?_; clear F; intro φ F
          refine sq_rd F (wt1 F rfl rfl rfl rfl rfl) (ld_el1 rfl (F.ev rfl) one3 (fun _ e => e ▸ (M.av (i := 2) rfl)) (by omega) (cI_at (by first | omega | (simp; done) | (simp; omega)))) rfl rfl ?_; clear F; intro φ F
          refine sq_pure F (wt1 F rfl rfl rfl rfl rfl) (pu_lss rfl (F.ev rfl) (evk)) rfl rfl ?_; clear F; intro φ F
          refine sq_pure F (wt0 rfl) (pu_pickf rfl (F.ev rfl) (F.ev rfl)) rfl rfl ?_; clear F; intro φ F
          refine nx ?_
          cases hs28 : (decide ((atI L i.toNat) < -1000000))
          · rw [hs28] at F
            have hs28i := of_decide_eq_false hs28
            refine wp_cond_false (F.ev rfl) ?_
            refine wp_skip ?_
            refine nxq ?_
            refine wp_seq ?_
            -- region 12
            refine rg_heads0 F M 6 [.val (.pointer (some ⟨p11, 0, none⟩)), .val (.agg #[.int .i64 t.e, .int .i64 t.r]), .val (a), .val (.int .i64 i), .val (.pointer (some ⟨gof a, oof a + (i.toNat * 1), none⟩)), .val (.int .i64 (atI L i.toNat))] rfl mixedOK (by kernel_rfl) rfl rfl ⟨?_, ?_, ?_, ?_, ?_, ?_, trivial⟩ ?_
            · intro φ1 ω1 hb F1 hdep hold; have F := (F1.cons (F.was hold (s := 6) rfl rfl)); have M := M.below hb; exact ob_rd (wt0 rfl) (Pure.rdy (pu_move rfl (F.ev rfl))) rfl
            · intro φ1 ω1 hb F1 hdep hold; have F := (F1.cons (F.was hold (s := 2) rfl rfl)); have M := M.below hb; exact ob_rd (wt0 rfl) (ld_agg rfl (F.ev rfl) agg30 (M.rd (i := 1) rfl) rfl) rfl
            · intro φ1 ω1 hb F1 hdep hold; have F := (F1.cons (F.was hold (s := 1) rfl rfl)); have M := M.below hb; exact ob_rd (wt0 rfl) (Pure.rdy (pu_move rfl (F.ev rfl))) rfl
            · intro φ1 ω1 hb F1 hdep hold; have F := (F1.cons (F.was hold (s := 9) rfl rfl)); have M := M.below hb; exact ob_rd (wt0 rfl) (Pure.rdy (pu_move rfl (F.ev rfl))) rfl
            · intro φ1 ω1 hb F1 hdep hold; have F := ((F1.cons (F1.dep hdep 2 (by kernel_rfl) rfl rfl rfl)).cons (F1.dep hdep 3 (by kernel_rfl) rfl rfl rfl)); have M := M.below hb; exact ob_rd (wt0 rfl) (Pure.rdy (pu_ix rfl (F.ev rfl) (F.ev rfl) sl47 (M.av (i := 2) rfl) (by omega) (by omega))) rfl
            · intro φ1 ω1 hb F1 hdep hold; have F := (F1.cons (F1.dep hdep 4 (by kernel_rfl) rfl rfl rfl)); have M := M.below hb; exact ob_rd (wt0 rfl) (ld_el1 rfl (F.ev rfl) one3 (fun _ e => e ▸ (M.av (i := 2) rfl)) (by omega) (cI_at (by first | omega | (simp; done) | (simp; omega)))) rfl
            clear F M; intro φ ω F M
            simp only [headL, List.take_succ_cons, List.take_zero, HV.value] at F
            refine sq_callT (Z := (fun v x' => v = .int .i64 (addE (oneC t s) t (atI L i.toNat)) ∧ x' = .own [p11, m11] (BagV p11 m11 (addC (oneC t s) t (atI L i.toNat))))) F M (wt0 rfl) rfl en13 (evc (F.ev rfl) (evc (F.ev rfl) (evc (F.ev rfl) evn))) (i := 0) rfl (add_any (oneC t s) p11 m11 t (atI L i.toNat) _ (M.pv (i := 0) rfl)) rfl rfl ?_; clear F M; rintro φ ω _ _ ⟨rfl, rfl⟩ F M
            have hl_p11_28_5 := addC_len (oneC t s) t (atI L i.toNat)
            replace M : Mm [] w ω [.own [p11, m11] (BagV p11 m11 (addC (oneC t s) t (atI L i.toNat))), .blk g1 30 #[.int .i64 t.e, .int .i64 t.r], .arg 1 a L.length (cI L)] := M
            refine nx ?_
            -- region 13
            refine wp_region_lit ?_
            refine sq_pure F (wt0 rfl) (pu_move rfl (F.ev rfl)) rfl rfl ?_; clear F; intro φ F
            refine sq_pure F (wt0 rfl) (pu_move rfl (F.ev rfl)) rfl rfl ?_; clear F; intro φ F
            refine sq_pure F (wt0 rfl) (pu_move rfl (F.ev rfl)) rfl rfl ?_; clear F; intro φ F
            refine sq_pure F (wt0 rfl) (pu_ix rfl (F.ev rfl) (F.ev rfl) sl47 (M.av (i := 2) rfl) (by omega) (by omega)) rfl rfl ?_; clear F; intro φ F
            refine sq_rd F (wt0 rfl) (ld_el1 rfl (F.ev rfl) one3 (fun _ e => e ▸ (M.av (i := 2) rfl)) (by omega) (cI_at (by first | omega | (simp; done) | (simp; omega)))) rfl rfl ?_; clear F; intro φ F
            refine sq_pure F (wt0 rfl) (pu_add rfl (F.ev rfl) (F.ev rfl) (by omega) (by omega)) rfl rfl ?_; clear F; intro φ F
            refine sq_pure F (wt0 rfl) (pu_assign rfl (F.ev rfl)) rfl rfl ?_; clear F; intro φ F
            refine wpList_nil ?_
            refine nxb ?_
            refine nxq ?_
            -- region 9
            refine wp_region_lit ?_
            refine sq_pure F (wt0 rfl) (pu_move rfl (F.ev rfl)) rfl rfl ?_; clear F; intro φ F
            refine sq_pure F (wt0 rfl) (pu_add rfl (F.ev rfl) (evk) (by omega) (by omega)) rfl rfl ?_; clear F; intro φ F
            refine sq_pure F (wt0 rfl) (pu_assign rfl (F.ev rfl)) rfl rfl ?_; clear F; intro φ F
            refine wpList_nil ?_
            exact ⟨i + 1, by omega, s + atI L i.toNat, ((((((F.nil.cons (F.get (k := 9) rfl)).cons (F.get (k := 8) rfl)).cons (F.get (k := 6) rfl)).cons (F.get (k := 5) rfl)).cons (F.get (k := 2) rfl)).cons (F.get (k := 1) rfl)), (by rw [← add_one hs1 (by omega) (by omega)]; exact M), by omega, by omega, by omega, by omega⟩
          · rw [hs28] at F
            have hs28i := of_decide_eq_true hs28
            refine wp_cond_true (F.ev rfl) ?_
            refine wp_seq ?_
            -- region 11
            refine wp_region_lit ?_
            refine sq_pure F (wt0 rfl) (pu_move rfl (F.ev rfl)) rfl rfl ?_; clear F; intro φ F
            refine sq_pure F (wt0 rfl) (pu_assign rfl (F.ev rfl)) rfl rfl ?_; clear F; intro φ F
            refine nx ?_
            refine wp_ret ?_
            refine nxr ?_
            refine nxrb ?_
            refine nxr ?_
            refine nxr ?_
            refine nxrb ?_
            refine nxr ?_
            refine rt_tmp F rfl rfl ?_
            exact ⟨rfl, M.bel⟩
        · rw [hs27] at F
          have hs27i := of_decide_eq_true hs27
          refine sq_skip F (wtn F rfl rfl rfl rfl rfl) rfl rfl ?_; clear F; intro φ F
          refine sq_skip F (wtn F rfl rfl rfl rfl rfl) rfl rfl ?_; clear F; intro φ F
          refine sq_skip F (wtn F rfl rfl rfl rfl rfl) rfl rfl ?_; clear F; intro φ F
          refine sq_skip F (wtn F rfl rfl rfl rfl rfl) rfl rfl ?_; clear F; intro φ F
          refine sq_skip F (wtn F rfl rfl rfl rfl rfl) rfl rfl ?_; clear F; intro φ F
          refine sq_pure F (wt0 rfl) (pu_pickt rfl (F.ev rfl) (evk)) rfl rfl ?_; clear F; intro φ F
          refine nx ?_
          refine wp_cond_true (F.ev rfl) ?_
          refine wp_seq ?_
          -- region 11
          refine wp_region_lit ?_
          refine sq_pure F (wt0 rfl) (pu_move rfl (F.ev rfl)) rfl rfl ?_; clear F; intro φ F
          refine sq_pure F (wt0 rfl) (pu_assign rfl (F.ev rfl)) rfl rfl ?_; clear F; intro φ F
          refine nx ?_
          refine wp_ret ?_
          refine nxr ?_
          refine nxrb ?_
          refine nxr ?_
          refine nxr ?_
          refine nxrb ?_
          refine nxr ?_
          refine rt_tmp F rfl rfl ?_
          exact ⟨rfl, M.bel⟩
    · rw [hs2] at F
      have hs2i := of_decide_eq_true hs2
      refine wp_cond_true (F.ev rfl) ?_
      refine wp_seq ?_
      -- region 5
      refine wp_region_lit ?_
      refine sq_pure F (wt0 rfl) (pu_move rfl (F.ev rfl)) rfl rfl ?_; clear F; intro φ F
      refine sq_pure F (wt0 rfl) (pu_move rfl (F.ev rfl)) rfl rfl ?_; clear F; intro φ F
      refine sq_pure F (wt1 F rfl rfl rfl rfl rfl) (pu_move rfl (F.ev rfl)) rfl rfl ?_; clear F; intro φ F
      refine sq_pure F (wt1 F rfl rfl rfl rfl rfl) (pu_neqP rfl (F.ev rfl) (evk) Try.underlying24) rfl rfl ?_; clear F; intro φ F
      refine sq_pure F (wt0 rfl) (pu_pickt rfl (F.ev rfl) (F.ev rfl)) rfl rfl ?_; clear F; intro φ F
      refine sq_pure F (wt0 rfl) (pu_assign rfl (F.ev rfl)) rfl rfl ?_; clear F; intro φ F
      refine nx ?_
      refine wp_ret ?_
      refine nxr ?_
      refine rt_tmp F rfl rfl ?_
      exact ⟨rfl, M.bel⟩

end Go.Proofs.Ytplnpjhgnhndpaa
