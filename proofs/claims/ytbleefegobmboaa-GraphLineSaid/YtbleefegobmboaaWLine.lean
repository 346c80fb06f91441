/- Laws of layer 6. Made by walks/graphlaws.py. -/
import Derived.Test.YtbleefegobmboaaGh
import Derived.Test.YtbleefegobmboaaGr
namespace Go.Proofs.Ytbleefegobmboaa
open Go.RowKit
set_option maxRecDepth 100000
set_option linter.unusedSimpArgs false
set_option linter.unusedVariables false

set_option maxHeartbeats 4000000 in
theorem graphLine_walk (P : List St) (pv : Value) (w : World) (hp : RdS w pv P) :
    Calls Try.prog 9 #[pv] w fun e w' => e = .returned (.bool true) ∧ Below w.heap.size w w' := by
  refine enterF Try.func9 rfl 162 Try.ntmps9 [pv] rfl [(0, pv)] rfl ?_
  intro φ F
  have M := Mm.start [] w
  replace M := M.addArg (hp) (fun h_ => by first | (simp; done) | assumption | exact d3 h_ | (simp_all; done))
  refine wp_seq ?_
  -- region 0
  refine wp_region_lit ?_
  refine sq_pure F (wt0 rfl) (pu_assign rfl (evk)) rfl rfl ?_; clear F; intro φ F
  refine nx ?_
  refine wp_seq ?_
  -- region 1
  refine wp_region_lit ?_
  refine sq_call F M (wt0 rfl) rfl en10 evn (awake_any _) rfl rfl ?_; clear F M; intro φ ω F M
  refine sq_pure F (wt0 rfl) (pu_assign rfl (F.ev rfl)) rfl rfl ?_; clear F; intro φ F
  refine nx ?_
  refine wp_seq ?_
  refine wp_seq ?_
  -- region 2
  refine wp_region_lit ?_
  refine sq_pure F (wt0 rfl) (pu_move rfl (F.ev rfl)) rfl rfl ?_; clear F; intro φ F
  refine sq_pure F (wt0 rfl) (pu_len rfl (F.ev rfl) sl44 (M.av (i := 0) rfl)) rfl rfl ?_; clear F; intro φ F
  refine sq_pure F (wt0 rfl) (pu_gtr rfl (F.ev rfl) (evk)) rfl rfl ?_; clear F; intro φ F
  refine nx ?_
  cases hs1 : (decide (7 < ((P.length : Nat) : Int)))
  · rw [hs1] at F
    have hs1i := of_decide_eq_false hs1
    refine wp_cond_false (F.ev rfl) ?_
    refine wp_skip ?_
    refine nxq ?_
    refine wp_seq ?_
    -- region 4
    refine wp_region_lit ?_
    refine sq_pure F (wt0 rfl) (pu_move rfl (F.ev rfl)) rfl rfl ?_; clear F; intro φ F
    refine sq_pure F (wt0 rfl) (pu_len rfl (F.ev rfl) sl44 (M.av (i := 0) rfl)) rfl rfl ?_; clear F; intro φ F
    refine sq_pure F (wt0 rfl) (pu_add rfl (F.ev rfl) (evk) (by omega) (by omega)) rfl rfl ?_; clear F; intro φ F
    refine sq_pure F (wt0 rfl) (bu24_0 rfl (F.ev rfl)) rfl rfl ?_; clear F; intro φ F
    refine sq_alloc F M (wt0 rfl) rfl z24 rfl rfl ?_; clear F M; intro φ ω g1 F M
    refine sq_stA F M (wt0 rfl) rfl (F.ev rfl) (F.ev rfl) (i := 0) rfl agg24 rfl rfl rfl rfl ?_; clear M; intro ω M
    refine nx ?_
    refine wp_seq ?_
    refine wp_seq ?_
    -- region 5
    refine wp_region_lit ?_
    refine sq_pure F (wt0 rfl) (pu_assign rfl (evk)) rfl rfl ?_; clear F; intro φ F
    refine nx ?_
    refine wp_block ?_
    refine lp (σ := Int) (fun i φ' w' => ∃ ve : Value, Fr φ' 162 [(0, pv), (3, .bool true), (4, .pointer (some ⟨g1, 0, none⟩)), (5, .int .i64 i)] ∧ Mm [] w w' [.row 40 4 ve ((lineE P i.toNat).length) (cG (lineE P i.toNat)), .blk g1 24 #[.int .i64 (((P.length : Nat) : Int) + 1), ve], .arg 2 pv P.length (cS P)] ∧ (0 ≤ i) ∧ (i ≤ ((P.length : Nat) : Int)) ∧ (Small P i.toNat)) (fun i => (((P.length : Nat) : Int) - i).toNat) (0) ⟨(.slice none 0 0), ((((F.nil.cons (F.get (k := 5) rfl)).cons (F.get (k := 4) rfl)).cons (F.get (k := 3) rfl)).cons (F.get (k := 0) rfl)), (by rw [← line_zero]; exact ((M.nilRow 40 4).sub (.cons_cons _ (.cons_cons _ (.cons_cons _ (.slnil)))))), Int.le_refl _, by omega, fun k hk => absurd hk (by simp)⟩ ?_
    clear F M
    rintro i φ ω ⟨ve, F, M, hp2_0, hp2_1, hp2_2⟩
    refine wp_seq ?_
    refine wp_seq ?_
    -- region 6
    refine wp_region_lit ?_
    refine sq_pure F (wt0 rfl) (pu_move rfl (F.ev rfl)) rfl rfl ?_; clear F; intro φ F
    refine sq_pure F (wt0 rfl) (pu_move rfl (F.ev rfl)) rfl rfl ?_; clear F; intro φ F
    refine sq_pure F (wt0 rfl) (pu_len rfl (F.ev rfl) sl44 (M.av (i := 2) rfl)) rfl rfl ?_; clear F; intro φ F
    refine sq_pure F (wt0 rfl) (pu_lss rfl (F.ev rfl) (F.ev rfl)) rfl rfl ?_; clear F; intro φ F
    refine nx ?_
    cases hs3 : (decide (i < ((P.length : Nat) : Int)))
    · rw [hs3] at F
      have hs3i := of_decide_eq_false hs3
      refine wp_cond_false (F.ev rfl) ?_
      refine wp_exit ?_
      refine nxe ?_
      refine nxe ?_
      refine nxm ?_
      refine nxq ?_
      refine wp_seq ?_
      have hi : i.toNat = P.length := by omega
      have hsm : Small P P.length := by have z := hp2_2; rwa [hi] at z
      have hm7 : P.length ≤ 7 := by omega
      rw [hi] at M
      have hll := line_len P P.length
      replace M : Mm [] w ω [.row 40 4 ve ((lineE P P.length).length) (cG (lineE P P.length)), .blk g1 24 #[.int .i64 (((P.length : Nat) : Int) + 1), ve], .arg 2 pv P.length (cS P)] := M
      -- region 11
      refine wp_region_lit ?_
      refine sq_rd F (wt0 rfl) (ld_agg rfl (F.ev rfl) agg24 (M.rd (i := 1) rfl) rfl) rfl rfl ?_; clear F; intro φ F
      refine sq_callO (Z := (fun u x' => ∃ v rs vss, u = .tuple #[v, .int .i64 (cloG (((P.length : Nat) : Int) + 1) (lineE P P.length)).2] ∧ x' = .own (fp3 v rs vss (cloG (((P.length : Nat) : Int) + 1) (lineE P P.length)).1) (Rd3 v rs vss (cloG (((P.length : Nat) : Int) + 1) (lineE P P.length)).1))) F M (wt0 rfl) rfl en15 (evc (F.ev rfl) evn) (graph_closure_any (((P.length : Nat) : Int) + 1) ve (lineE P P.length) _ (M.rv (i := 0) rfl) (by first | omega | (simp; done) | (simp; omega) | (refine Nat.le_trans (minL_len _) ?_; omega) | (refine Nat.le_trans (eachL_len _ _) ?_; omega))) rfl rfl ?_; clear F M; rintro φ ω _ _ ⟨c1, rs1, vss1, rfl, rfl⟩ F M
      replace M : Mm [] w ω [.own (fp3 c1 rs1 vss1 ((cloG (((P.length : Nat) : Int) + 1) (lineE P P.length)).1)) (Rd3 c1 rs1 vss1 ((cloG (((P.length : Nat) : Int) + 1) (lineE P P.length)).1)), .row 40 4 ve ((lineE P P.length).length) (cG (lineE P P.length)), .blk g1 24 #[.int .i64 (((P.length : Nat) : Int) + 1), ve], .arg 2 pv P.length (cS P)] := M
      rw [line_clo hm7 hsm] at F M
      replace M : Mm [] w ω [.own (fp3 c1 rs1 vss1 (cloT (lineE P P.length) (P.length + 1) (P.length + 1))) (Rd3 c1 rs1 vss1 (cloT (lineE P P.length) (P.length + 1) (P.length + 1))), .row 40 4 ve ((lineE P P.length).length) (cG (lineE P P.length)), .blk g1 24 #[.int .i64 (((P.length : Nat) : Int) + 1), ve], .arg 2 pv P.length (cS P)] := M
      have hlr : rs1.length = P.length + 1 := (In3.lr (Rd3.inn (M.pv (i := 0) rfl))).trans (cloT_len (lineE P P.length) (P.length + 1) (P.length + 1))
      have hS3 : Sm3 (cloT (lineE P P.length) (P.length + 1) (P.length + 1)) := by have z := clo_sm (((P.length : Nat) : Int) + 1) (lineE P P.length); rw [line_clo hm7 hsm] at z; exact z
      have hlc := cloT_len (lineE P P.length) (P.length + 1) (P.length + 1)
      have hrow : ∀ i, i < P.length + 1 → (at3 (cloT (lineE P P.length) (P.length + 1) (P.length + 1)) i).length = P.length + 1 := fun i hi => by rw [cloT_at hi, row_len]
      have hvv : ∀ i, i < P.length + 1 → (atW vss1 i).length = P.length + 1 := fun i hi => (In3.lv (Rd3.inn (M.pv (i := 0) rfl)) i (by rw [cloT_len]; exact hi)).trans (hrow i hi)
      refine sq_pure F (wt0 rfl) (pu_move rfl (F.ev rfl)) rfl rfl ?_; clear F; intro φ F
      refine sq_pure F (wt0 rfl) (pu_extract rfl (F.ev rfl) rfl) rfl rfl ?_; clear F; intro φ F
      refine sq_pure F (wt0 rfl) (pu_extract rfl (F.ev rfl) rfl) rfl rfl ?_; clear F; intro φ F
      refine sq_pure F (wt0 rfl) (pu_assign rfl (F.ev rfl)) rfl rfl ?_; clear F; intro φ F
      refine sq_pure F (wt0 rfl) (pu_assign rfl (F.ev rfl)) rfl rfl ?_; clear F; intro φ F
      refine nx ?_
      refine wp_seq ?_
      -- region 12
      refine wp_region_lit ?_
      refine sq_pure F (wt0 rfl) (pu_move rfl (F.ev rfl)) rfl rfl ?_; clear F; intro φ F
      refine sq_pure F (wt0 rfl) (pu_field rfl (F.ev rfl) fo24_0) rfl rfl ?_; clear F; intro φ F
      refine sq_rd F (wt0 rfl) (ld_cell rfl (F.ev rfl) one3 (M.rd (i := 2) rfl) rfl) rfl rfl ?_; clear F; intro φ F
      refine sq_call F M (wt0 rfl) rfl en18 (evc (F.ev rfl) (evc (F.ev rfl) evn)) (whole_any (cloT (lineE P P.length) (P.length + 1) (P.length + 1)) _ _ _ _ _ (M.pv (i := 0) rfl) (by omega) (by intro q hq; rw [cloT_len] at hq; rw [cloT_at hq, row_len]; omega) (by first | exact hS3 | exact hS3a | exact hS3b)) rfl rfl ?_; clear F M; intro φ ω F M
      refine sq_pure F (wt0 rfl) (pu_assign rfl (F.ev rfl)) rfl rfl ?_; clear F; intro φ F
      refine nx ?_
      refine wp_seq ?_
      refine wp_seq ?_
      -- region 13
      refine wp_region_lit ?_
      refine sq_pure F (wt0 rfl) (pu_move rfl (F.ev rfl)) rfl rfl ?_; clear F; intro φ F
      refine sq_pure F (wt0 rfl) (pu_neqI rfl (F.ev rfl) (evk)) rfl rfl ?_; clear F; intro φ F
      rw [show (!decide ((0 : Int) = 0)) = false from rfl] at F
      refine sq_pure F (wt0 rfl) (pu_move rfl (F.ev rfl)) rfl rfl ?_; clear F; intro φ F
      refine sq_pure F (wt1 F rfl rfl rfl rfl rfl) (pu_move rfl (F.ev rfl)) rfl rfl ?_; clear F; intro φ F
      refine sq_pure F (wt1 F rfl rfl rfl rfl rfl) (pu_not rfl (F.ev rfl)) rfl rfl ?_; clear F; intro φ F
      rw [show (!true) = false from rfl] at F
      refine sq_pure F (wt0 rfl) (pu_pickf rfl (F.ev rfl) (F.ev rfl)) rfl rfl ?_; clear F; intro φ F
      refine nx ?_
      refine wp_cond_false (F.ev rfl) ?_
      refine wp_skip ?_
      refine nxq ?_
      refine wp_seq ?_
      refine wp_seq ?_
      -- region 15
      refine wp_region_lit ?_
      refine sq_pure F (wt0 rfl) (pu_assign rfl (evk)) rfl rfl ?_; clear F; intro φ F
      refine nx ?_
      refine wp_block ?_
      refine lp (σ := Int) (fun a φ' w' => Fr φ' 162 [(0, pv), (3, .bool true), (4, .pointer (some ⟨g1, 0, none⟩)), (6, c1), (9, .int .i64 a)] ∧ Mm [] w w' [.own (fp3 c1 rs1 vss1 (cloT (lineE P P.length) (P.length + 1) (P.length + 1))) (Rd3 c1 rs1 vss1 (cloT (lineE P P.length) (P.length + 1) (P.length + 1))), .row 40 4 ve ((lineE P P.length).length) (cG (lineE P P.length)), .blk g1 24 #[.int .i64 (((P.length : Nat) : Int) + 1), ve], .arg 2 pv P.length (cS P)] ∧ (0 ≤ a) ∧ (a ≤ ((P.length : Nat) : Int) + 1)) (fun a => (((P.length : Nat) : Int) + 1 - a).toNat) (0) ⟨(((((F.nil.cons (F.get (k := 9) rfl)).cons (F.get (k := 6) rfl)).cons (F.get (k := 4) rfl)).cons (F.get (k := 3) rfl)).cons (F.get (k := 0) rfl)), (M.sub (.cons_cons _ (.cons_cons _ (.cons_cons _ (.cons_cons _ (.slnil)))))), Int.le_refl _, by omega⟩ ?_
      clear F M
      rintro a φ ω ⟨F, M, hp4_0, hp4_1⟩
      refine wp_seq ?_
      refine wp_seq ?_
      -- region 16
      refine wp_region_lit ?_
      refine sq_pure F (wt0 rfl) (pu_move rfl (F.ev rfl)) rfl rfl ?_; clear F; intro φ F
      refine sq_pure F (wt0 rfl) (pu_field rfl (F.ev rfl) fo24_0) rfl rfl ?_; clear F; intro φ F
      refine sq_rd F (wt0 rfl) (ld_cell rfl (F.ev rfl) one3 (M.rd (i := 2) rfl) rfl) rfl rfl ?_; clear F; intro φ F
      refine sq_pure F (wt0 rfl) (pu_lss rfl (F.ev rfl) (F.ev rfl)) rfl rfl ?_; clear F; intro φ F
      refine nx ?_
      cases hs5 : (decide (a < ((P.length : Nat) : Int) + 1))
      · rw [hs5] at F
        have hs5i := of_decide_eq_false hs5
        refine wp_cond_false (F.ev rfl) ?_
        refine wp_exit ?_
        refine nxe ?_
        refine nxe ?_
        refine nxm ?_
        refine nxq ?_
        refine wp_seq ?_
        -- region 27
        refine wp_region_lit ?_
        refine sq_pure F (wt0 rfl) (pu_move rfl (F.ev rfl)) rfl rfl ?_; clear F; intro φ F
        refine sq_pure F (wt0 rfl) (pu_assign rfl (F.ev rfl)) rfl rfl ?_; clear F; intro φ F
        refine nx ?_
        refine wp_ret ?_
        refine rt_tmp F rfl rfl ?_
        exact ⟨rfl, M.bel⟩
      · rw [hs5] at F
        have hs5i := of_decide_eq_true hs5
        refine wp_cond_true (F.ev rfl) ?_
        refine wp_skip ?_
        refine nxq ?_
        refine wp_seq ?_
        refine wp_block ?_
        refine wp_seq ?_
        -- region 18
        refine wp_region_lit ?_
        refine sq_pure F (wt0 rfl) (bu38_ rfl) rfl rfl ?_; clear F; intro φ F
        refine sq_alloc F M (wt0 rfl) rfl z38 rfl rfl ?_; clear F M; intro φ ω g2 F M
        refine sq_stA F M (wt0 rfl) rfl (F.ev rfl) (F.ev rfl) (i := 0) rfl agg38 rfl rfl rfl rfl ?_; clear M; intro ω M
        refine nx ?_
        refine wp_seq ?_
        -- region 19
        refine wp_region_lit ?_
        refine sq_pure F (wt0 rfl) (pu_move rfl (F.ev rfl)) rfl rfl ?_; clear F; intro φ F
        refine sq_pure F (wt0 rfl) (pu_assign rfl (F.ev rfl)) rfl rfl ?_; clear F; intro φ F
        refine nx ?_
        refine wp_block ?_
        refine lp (σ := Int) (fun b φ' w' => Fr φ' 162 [(0, pv), (3, .bool true), (4, .pointer (some ⟨g1, 0, none⟩)), (6, c1), (9, .int .i64 a), (10, .pointer (some ⟨g2, 0, none⟩)), (11, .int .i64 b)] ∧ Mm [] w w' [.blk g2 38 #[.int .i64 ((lsum P a.toNat ((b - a).toNat - 1)).e), .int .i64 ((lsum P a.toNat ((b - a).toNat - 1)).r)], .own (fp3 c1 rs1 vss1 (cloT (lineE P P.length) (P.length + 1) (P.length + 1))) (Rd3 c1 rs1 vss1 (cloT (lineE P P.length) (P.length + 1) (P.length + 1))), .row 40 4 ve ((lineE P P.length).length) (cG (lineE P P.length)), .blk g1 24 #[.int .i64 (((P.length : Nat) : Int) + 1), ve], .arg 2 pv P.length (cS P)] ∧ (a ≤ b) ∧ (b ≤ ((P.length : Nat) : Int) + 1)) (fun b => (((P.length : Nat) : Int) + 1 - b).toNat) (a) ⟨(((((((F.nil.cons (F.get (k := 11) rfl)).cons (F.get (k := 10) rfl)).cons (F.get (k := 9) rfl)).cons (F.get (k := 6) rfl)).cons (F.get (k := 4) rfl)).cons (F.get (k := 3) rfl)).cons (F.get (k := 0) rfl)), (by rw [show (a - a).toNat - 1 = 0 by omega]; exact (M.sub (.cons_cons _ (.cons_cons _ (.cons_cons _ (.cons_cons _ (.cons_cons _ (.slnil)))))))), Int.le_refl _, by omega⟩ ?_
        clear F M
        rintro b φ ω ⟨F, M, hp6_0, hp6_1⟩
        refine wp_seq ?_
        refine wp_seq ?_
        -- region 20
        refine wp_region_lit ?_
        refine sq_pure F (wt0 rfl) (pu_move rfl (F.ev rfl)) rfl rfl ?_; clear F; intro φ F
        refine sq_pure F (wt0 rfl) (pu_field rfl (F.ev rfl) fo24_0) rfl rfl ?_; clear F; intro φ F
        refine sq_rd F (wt0 rfl) (ld_cell rfl (F.ev rfl) one3 (M.rd (i := 3) rfl) rfl) rfl rfl ?_; clear F; intro φ F
        refine sq_pure F (wt0 rfl) (pu_lss rfl (F.ev rfl) (F.ev rfl)) rfl rfl ?_; clear F; intro φ F
        refine nx ?_
        cases hs7 : (decide (b < ((P.length : Nat) : Int) + 1))
        · rw [hs7] at F
          have hs7i := of_decide_eq_false hs7
          refine wp_cond_false (F.ev rfl) ?_
          refine wp_exit ?_
          refine nxe ?_
          refine nxe ?_
          refine nxm ?_
          refine nxb ?_
          refine nxq ?_
          -- region 17
          refine wp_region_lit ?_
          refine sq_pure F (wt0 rfl) (pu_move rfl (F.ev rfl)) rfl rfl ?_; clear F; intro φ F
          refine sq_pure F (wt0 rfl) (pu_add rfl (F.ev rfl) (evk) (by omega) (by omega)) rfl rfl ?_; clear F; intro φ F
          refine sq_pure F (wt0 rfl) (pu_assign rfl (F.ev rfl)) rfl rfl ?_; clear F; intro φ F
          refine wpList_nil ?_
          exact ⟨a + 1, by omega, (((((F.nil.cons (F.get (k := 9) rfl)).cons (F.get (k := 6) rfl)).cons (F.get (k := 4) rfl)).cons (F.get (k := 3) rfl)).cons (F.get (k := 0) rfl)), (M.sub (.cons _ (.cons_cons _ (.cons_cons _ (.cons_cons _ (.cons_cons _ (.slnil))))))), by omega, by omega⟩
        · rw [hs7] at F
          have hs7i := of_decide_eq_true hs7
          refine wp_cond_true (F.ev rfl) ?_
          refine wp_skip ?_
          refine nxq ?_
          refine wp_seq ?_
          refine wp_block ?_
          refine wp_seq ?_
          refine wp_seq ?_
          -- region 22
          refine wp_region_lit ?_
          refine sq_pure F (wt0 rfl) (pu_move rfl (F.ev rfl)) rfl rfl ?_; clear F; intro φ F
          refine sq_pure F (wt0 rfl) (pu_move rfl (F.ev rfl)) rfl rfl ?_; clear F; intro φ F
          refine sq_pure F (wt0 rfl) (pu_gtr rfl (F.ev rfl) (F.ev rfl)) rfl rfl ?_; clear F; intro φ F
          refine nx ?_
          refine wp_cut (fun φ' w' => Fr φ' 162 [(0, pv), (3, .bool true), (4, .pointer (some ⟨g1, 0, none⟩)), (6, c1), (9, .int .i64 a), (10, .pointer (some ⟨g2, 0, none⟩)), (11, .int .i64 b)] ∧ Mm [] w w' [.blk g2 38 #[.int .i64 ((lsum P a.toNat ((b - a).toNat)).e), .int .i64 ((lsum P a.toNat ((b - a).toNat)).r)], .own (fp3 c1 rs1 vss1 (cloT (lineE P P.length) (P.length + 1) (P.length + 1))) (Rd3 c1 rs1 vss1 (cloT (lineE P P.length) (P.length + 1) (P.length + 1))), .row 40 4 ve ((lineE P P.length).length) (cG (lineE P P.length)), .blk g1 24 #[.int .i64 (((P.length : Nat) : Int) + 1), ve], .arg 2 pv P.length (cS P)]) ?_ ?_
          · skip
            cases hs8 : (decide (a < b))
            · rw [hs8] at F
              have hs8i := of_decide_eq_false hs8
              refine wp_cond_false (F.ev rfl) ?_
              refine wp_skip ?_
              exact ⟨(((((((F.nil.cons (F.get (k := 11) rfl)).cons (F.get (k := 10) rfl)).cons (F.get (k := 9) rfl)).cons (F.get (k := 6) rfl)).cons (F.get (k := 4) rfl)).cons (F.get (k := 3) rfl)).cons (F.get (k := 0) rfl)), (by rw [← lsum_same (by omega) hs8i]; exact M)⟩
            · rw [hs8] at F
              have hs8i := of_decide_eq_true hs8
              refine wp_cond_true (F.ev rfl) ?_
              refine wp_seq ?_
              have hb1 := lsum_small hsm (i := a.toNat) ((b - a).toNat - 1) (by omega)
              have hb2 := hsm (b - 1).toNat (by omega)
              -- region 23
              refine rg_heads0 F M 10 [.val (.pointer (some ⟨g2, 0, none⟩)), .val (.int .i64 ((lsum P a.toNat ((b - a).toNat - 1)).e)), .val (pv), .val (.int .i64 b), .val (.int .i64 (b - 1)), .val (.pointer (some ⟨gof pv, oof pv + ((b - 1).toNat * 2), none⟩)), .val (.pointer (some ⟨gof pv, oof pv + ((b - 1).toNat * 2), none⟩)), .val (.int .i64 ((atS P ((b - 1).toNat)).e)), .val (.int .i64 ((lsum P a.toNat ((b - a).toNat - 1)).e + (atS P ((b - 1).toNat)).e)), .val (.pointer (some ⟨g2, 0, none⟩))] rfl mixedOK (by kernel_rfl) rfl rfl ⟨?_, ?_, ?_, ?_, ?_, ?_, ?_, ?_, ?_, ?_, trivial⟩ ?_
              · intro φ1 ω1 hb F1 hdep hold; have F := (F1.cons (F.was hold (s := 10) rfl rfl)); have M := M.below hb; exact ob_rd (wt0 rfl) (Pure.rdy (pu_field rfl (F.ev rfl) fo38_0)) rfl
              · intro φ1 ω1 hb F1 hdep hold; have F := (F1.cons (F1.dep hdep 0 (by kernel_rfl) rfl rfl rfl)); have M := M.below hb; exact ob_rd (wt0 rfl) (ld_cell rfl (F.ev rfl) one3 (M.rd (i := 0) rfl) rfl) rfl
              · intro φ1 ω1 hb F1 hdep hold; have F := (F1.cons (F.was hold (s := 0) rfl rfl)); have M := M.below hb; exact ob_rd (wt0 rfl) (Pure.rdy (pu_move rfl (F.ev rfl))) rfl
              · intro φ1 ω1 hb F1 hdep hold; have F := (F1.cons (F.was hold (s := 11) rfl rfl)); have M := M.below hb; exact ob_rd (wt0 rfl) (Pure.rdy (pu_move rfl (F.ev rfl))) rfl
              · intro φ1 ω1 hb F1 hdep hold; have F := (F1.cons (F1.dep hdep 3 (by kernel_rfl) rfl rfl rfl)); have M := M.below hb; exact ob_rd (wt0 rfl) (Pure.rdy (pu_sub rfl (F.ev rfl) (evk) (by omega) (by omega))) rfl
              · intro φ1 ω1 hb F1 hdep hold; have F := ((F1.cons (F1.dep hdep 2 (by kernel_rfl) rfl rfl rfl)).cons (F1.dep hdep 4 (by kernel_rfl) rfl rfl rfl)); have M := M.below hb; exact ob_rd (wt0 rfl) (Pure.rdy (pu_ix rfl (F.ev rfl) (F.ev rfl) sl44 (M.av (i := 4) rfl) (by omega) (by omega))) rfl
              · intro φ1 ω1 hb F1 hdep hold; have F := (F1.cons (F1.dep hdep 5 (by kernel_rfl) rfl rfl rfl)); have M := M.below hb; exact ob_rd (wt0 rfl) (Pure.rdy (pu_field rfl (F.ev rfl) fo38_0)) rfl
              · intro φ1 ω1 hb F1 hdep hold; have F := (F1.cons (F1.dep hdep 6 (by kernel_rfl) rfl rfl rfl)); have M := M.below hb; exact ob_rd (wt0 rfl) (ld_elP1 (q := 0) (k := (b - 1).toNat * 2) rfl (F.ev rfl) one3 (fun _ e => e ▸ (M.av (i := 4) rfl)) (by omega) (cS_at (by first | omega | (simp; done) | (simp; omega))) rfl) rfl
              · intro φ1 ω1 hb F1 hdep hold; have F := ((F1.cons (F1.dep hdep 1 (by kernel_rfl) rfl rfl rfl)).cons (F1.dep hdep 7 (by kernel_rfl) rfl rfl rfl)); have M := M.below hb; exact ob_rd (wt0 rfl) (Pure.rdy (pu_add rfl (F.ev rfl) (F.ev rfl) (by omega) (by omega))) rfl
              · intro φ1 ω1 hb F1 hdep hold; have F := (F1.cons (F.was hold (s := 10) rfl rfl)); have M := M.below hb; exact ob_rd (wt0 rfl) (Pure.rdy (pu_field rfl (F.ev rfl) fo38_0)) rfl
              clear F M; intro φ ω F M
              simp only [headL, List.take_succ_cons, List.take_zero, HV.value] at F
              refine sq_stC F M (wt0 rfl) rfl (F.ev rfl) (F.ev rfl) (i := 0) rfl (by simp) si3 rfl rfl rfl ?_; clear M; intro ω M
              replace M : Mm [] w ω [.blk g2 38 #[.int .i64 ((lsum P a.toNat ((b - a).toNat - 1)).e + (atS P ((b - 1).toNat)).e), .int .i64 ((lsum P a.toNat ((b - a).toNat - 1)).r)], .own (fp3 c1 rs1 vss1 (cloT (lineE P P.length) (P.length + 1) (P.length + 1))) (Rd3 c1 rs1 vss1 (cloT (lineE P P.length) (P.length + 1) (P.length + 1))), .row 40 4 ve ((lineE P P.length).length) (cG (lineE P P.length)), .blk g1 24 #[.int .i64 (((P.length : Nat) : Int) + 1), ve], .arg 2 pv P.length (cS P)] := M
              refine nx ?_
              -- region 24
              refine rg_heads0 F M 10 [.val (.pointer (some ⟨g2, 1, none⟩)), .val (.int .i64 ((lsum P a.toNat ((b - a).toNat - 1)).r)), .val (pv), .val (.int .i64 b), .val (.int .i64 (b - 1)), .val (.pointer (some ⟨gof pv, oof pv + ((b - 1).toNat * 2), none⟩)), .val (.pointer (some ⟨gof pv, oof pv + ((b - 1).toNat * 2) + 1, none⟩)), .val (.int .i64 ((atS P ((b - 1).toNat)).r)), .val (.int .i64 ((lsum P a.toNat ((b - a).toNat - 1)).r + (atS P ((b - 1).toNat)).r)), .val (.pointer (some ⟨g2, 1, none⟩))] rfl mixedOK (by kernel_rfl) rfl rfl ⟨?_, ?_, ?_, ?_, ?_, ?_, ?_, ?_, ?_, ?_, trivial⟩ ?_
              · intro φ1 ω1 hb F1 hdep hold; have F := (F1.cons (F.was hold (s := 10) rfl rfl)); have M := M.below hb; exact ob_rd (wt0 rfl) (Pure.rdy (pu_field rfl (F.ev rfl) fo38_1)) rfl
              · intro φ1 ω1 hb F1 hdep hold; have F := (F1.cons (F1.dep hdep 0 (by kernel_rfl) rfl rfl rfl)); have M := M.below hb; exact ob_rd (wt0 rfl) (ld_cell rfl (F.ev rfl) one3 (M.rd (i := 0) rfl) rfl) rfl
              · intro φ1 ω1 hb F1 hdep hold; have F := (F1.cons (F.was hold (s := 0) rfl rfl)); have M := M.below hb; exact ob_rd (wt0 rfl) (Pure.rdy (pu_move rfl (F.ev rfl))) rfl
              · intro φ1 ω1 hb F1 hdep hold; have F := (F1.cons (F.was hold (s := 11) rfl rfl)); have M := M.below hb; exact ob_rd (wt0 rfl) (Pure.rdy (pu_move rfl (F.ev rfl))) rfl
              · intro φ1 ω1 hb F1 hdep hold; have F := (F1.cons (F1.dep hdep 3 (by kernel_rfl) rfl rfl rfl)); have M := M.below hb; exact ob_rd (wt0 rfl) (Pure.rdy (pu_sub rfl (F.ev rfl) (evk) (by omega) (by omega))) rfl
              · intro φ1 ω1 hb F1 hdep hold; have F := ((F1.cons (F1.dep hdep 2 (by kernel_rfl) rfl rfl rfl)).cons (F1.dep hdep 4 (by kernel_rfl) rfl rfl rfl)); have M := M.below hb; exact ob_rd (wt0 rfl) (Pure.rdy (pu_ix rfl (F.ev rfl) (F.ev rfl) sl44 (M.av (i := 4) rfl) (by omega) (by omega))) rfl
              · intro φ1 ω1 hb F1 hdep hold; have F := (F1.cons (F1.dep hdep 5 (by kernel_rfl) rfl rfl rfl)); have M := M.below hb; exact ob_rd (wt0 rfl) (Pure.rdy (pu_field rfl (F.ev rfl) fo38_1)) rfl
              · intro φ1 ω1 hb F1 hdep hold; have F := (F1.cons (F1.dep hdep 6 (by kernel_rfl) rfl rfl rfl)); have M := M.below hb; exact ob_rd (wt0 rfl) (ld_elP1 (q := 1) (k := (b - 1).toNat * 2) rfl (F.ev rfl) one3 (fun _ e => e ▸ (M.av (i := 4) rfl)) (by omega) (cS_at (by first | omega | (simp; done) | (simp; omega))) rfl) rfl
              · intro φ1 ω1 hb F1 hdep hold; have F := ((F1.cons (F1.dep hdep 1 (by kernel_rfl) rfl rfl rfl)).cons (F1.dep hdep 7 (by kernel_rfl) rfl rfl rfl)); have M := M.below hb; exact ob_rd (wt0 rfl) (Pure.rdy (pu_add rfl (F.ev rfl) (F.ev rfl) (by omega) (by omega))) rfl
              · intro φ1 ω1 hb F1 hdep hold; have F := (F1.cons (F.was hold (s := 10) rfl rfl)); have M := M.below hb; exact ob_rd (wt0 rfl) (Pure.rdy (pu_field rfl (F.ev rfl) fo38_1)) rfl
              clear F M; intro φ ω F M
              simp only [headL, List.take_succ_cons, List.take_zero, HV.value] at F
              refine sq_stC F M (wt0 rfl) rfl (F.ev rfl) (F.ev rfl) (i := 0) rfl (by simp) si3 rfl rfl rfl ?_; clear M; intro ω M
              replace M : Mm [] w ω [.blk g2 38 #[.int .i64 ((lsum P a.toNat ((b - a).toNat - 1)).e + (atS P ((b - 1).toNat)).e), .int .i64 ((lsum P a.toNat ((b - a).toNat - 1)).r + (atS P ((b - 1).toNat)).r)], .own (fp3 c1 rs1 vss1 (cloT (lineE P P.length) (P.length + 1) (P.length + 1))) (Rd3 c1 rs1 vss1 (cloT (lineE P P.length) (P.length + 1) (P.length + 1))), .row 40 4 ve ((lineE P P.length).length) (cG (lineE P P.length)), .blk g1 24 #[.int .i64 (((P.length : Nat) : Int) + 1), ve], .arg 2 pv P.length (cS P)] := M
              refine wpList_nil ?_
              exact ⟨(((((((F.nil.cons (F.get (k := 11) rfl)).cons (F.get (k := 10) rfl)).cons (F.get (k := 9) rfl)).cons (F.get (k := 6) rfl)).cons (F.get (k := 4) rfl)).cons (F.get (k := 3) rfl)).cons (F.get (k := 0) rfl)), (by rw [lsum_step (by omega) hs8i]; exact M)⟩
          · skip
            clear F M
            rintro φ ω ⟨F, M⟩
            refine nxq ?_
            refine wp_seq ?_
            have hva := hvv a.toNat (by omega)
            have hra := hrow a.toNat (by omega)
            have hvb := hvv b.toNat (by omega)
            have hrb := hrow b.toNat (by omega)
            have hlv := line_vals hm7 hsm (a := a) (b := b) (by omega) (by omega) (by omega)
            have hXl : (atR (at3 (cloT (lineE P P.length) (P.length + 1) (P.length + 1)) a.toNat) b.toNat).length = 1 := by rw [hlv.1]; rfl
            have hX0 : atS (atR (at3 (cloT (lineE P P.length) (P.length + 1) (P.length + 1)) a.toNat) b.toNat) 0 = (lsum P a.toNat ((b - a).toNat)) := by rw [hlv.1]; rfl
            have hYl := hlv.2
            -- region 25
            refine rg_quiet M mixedOK (by kernel_rfl) ?_
            refine qt_pure F (wt0 rfl) (pu_move rfl (F.ev rfl)) rfl rfl ?_; clear F; intro φ F
            refine qt_pure F (wt0 rfl) (pu_move rfl (F.ev rfl)) rfl rfl ?_; clear F; intro φ F
            refine qt_pure F (wt0 rfl) (pu_ix rfl (F.ev rfl) (F.ev rfl) sl32 (Rd3.top (M.pv (i := 1) rfl)) (by omega) (by omega)) rfl rfl ?_; clear F; intro φ F
            refine qt_rd F (wt0 rfl) (ld_el1 rfl (F.ev rfl) one45 (fun _ h => RdV.below (Rd3.top (M.pv (i := 1) rfl)) h) (by omega) (cV_at (L := rs1) (by first | omega | (simp; done) | (simp; omega)))) rfl rfl ?_; clear F; intro φ F
            refine qt_pure F (wt0 rfl) (pu_move rfl (F.ev rfl)) rfl rfl ?_; clear F; intro φ F
            refine qt_pure F (wt0 rfl) (pu_ix rfl (F.ev rfl) (F.ev rfl) sl45 (In3.row (Rd3.inn (M.pv (i := 1) rfl)) a.toNat (by first | omega | assumption)) (by omega) (by omega)) rfl rfl ?_; clear F; intro φ F
            refine qt_rd F (wt0 rfl) (ld_el1 rfl (F.ev rfl) one44 (fun _ h => RdV.below (In3.row (Rd3.inn (M.pv (i := 1) rfl)) a.toNat (by first | omega | assumption)) h) (by omega) (cV_at (L := (atW vss1 a.toNat)) (by first | omega | (simp; done) | (simp; omega)))) rfl rfl ?_; clear F; intro φ F
            refine qt_pure F (wt0 rfl) (pu_len rfl (F.ev rfl) sl44 (In3.one (Rd3.inn (M.pv (i := 1) rfl)) a.toNat b.toNat (by first | omega | assumption) (by first | omega | assumption))) rfl rfl ?_; clear F; intro φ F
            cases hs10 : (decide ((((atR (at3 (cloT (lineE P P.length) (P.length + 1) (P.length + 1)) a.toNat) b.toNat).length : Nat) : Int) = 1))
            · skip
              have hs10i := of_decide_eq_false hs10
              refine qt_pure F (wt0 rfl) (pu_neqI rfl (F.ev rfl) (evk)) rfl rfl ?_; clear F; intro φ F
              rw [hs10, show (!false) = true from rfl] at F
              refine qt_pure F (wt0 rfl) (pu_move rfl (F.ev rfl)) rfl rfl ?_; clear F; intro φ F
              refine qt_skip F (wtn F rfl rfl rfl rfl rfl) rfl rfl ?_; clear F; intro φ F
              refine qt_skip F (wtn F rfl rfl rfl rfl rfl) rfl rfl ?_; clear F; intro φ F
              refine qt_skip F (wtn F rfl rfl rfl rfl rfl) rfl rfl ?_; clear F; intro φ F
              refine qt_skip F (wtn F rfl rfl rfl rfl rfl) rfl rfl ?_; clear F; intro φ F
              refine qt_skip F (wtn F rfl rfl rfl rfl rfl) rfl rfl ?_; clear F; intro φ F
              refine qt_skip F (wtn F rfl rfl rfl rfl rfl) rfl rfl ?_; clear F; intro φ F
              refine qt_skip F (wtn F rfl rfl rfl rfl rfl) rfl rfl ?_; clear F; intro φ F
              refine qt_skip F (wtn F rfl rfl rfl rfl rfl) rfl rfl ?_; clear F; intro φ F
              refine qt_skip F (wtn F rfl rfl rfl rfl rfl) rfl rfl ?_; clear F; intro φ F
              refine qt_skip F (wtn F rfl rfl rfl rfl rfl) rfl rfl ?_; clear F; intro φ F
              refine qt_skip F (wtn F rfl rfl rfl rfl rfl) rfl rfl ?_; clear F; intro φ F
              refine qt_pure F (wt0 rfl) (pu_pickt rfl (F.ev rfl) (evk)) rfl rfl ?_; clear F; intro φ F
              refine qt_pure F (wt0 rfl) (pu_move rfl (F.ev rfl)) rfl rfl ?_; clear F; intro φ F
              refine qt_skip F (wtn F rfl rfl rfl rfl rfl) rfl rfl ?_; clear F; intro φ F
              refine qt_skip F (wtn F rfl rfl rfl rfl rfl) rfl rfl ?_; clear F; intro φ F
              refine qt_skip F (wtn F rfl rfl rfl rfl rfl) rfl rfl ?_; clear F; intro φ F
              refine qt_skip F (wtn F rfl rfl rfl rfl rfl) rfl rfl ?_; clear F; intro φ F
              refine qt_skip F (wtu F rfl rfl rfl rfl rfl) rfl rfl ?_; clear F; intro φ F
              refine qt_skip F (wtu F rfl rfl rfl rfl rfl) rfl rfl ?_; clear F; intro φ F
              refine qt_skip F (wtu F rfl rfl rfl rfl rfl) rfl rfl ?_; clear F; intro φ F
              refine qt_skip F (wtu F rfl rfl rfl rfl rfl) rfl rfl ?_; clear F; intro φ F
              refine qt_skip F (wtu F rfl rfl rfl rfl rfl) rfl rfl ?_; clear F; intro φ F
              refine qt_skip F (wtu F rfl rfl rfl rfl rfl) rfl rfl ?_; clear F; intro φ F
              refine qt_skip F (wtu F rfl rfl rfl rfl rfl) rfl rfl ?_; clear F; intro φ F
              refine qt_skip F (wtu F rfl rfl rfl rfl rfl) rfl rfl ?_; clear F; intro φ F
              refine qt_skip F (wtu F rfl rfl rfl rfl rfl) rfl rfl ?_; clear F; intro φ F
              refine qt_skip F (wtn F rfl rfl rfl rfl rfl) rfl rfl ?_; clear F; intro φ F
              refine qt_pure F (wt0 rfl) (pu_pickt rfl (F.ev rfl) (evk)) rfl rfl ?_; clear F; intro φ F
              refine wpQuiet_nil ?_
              clear M; intro ω M
              refine nxq ?_
              refine wp_cond_true (F.ev rfl) ?_
              refine wp_seq ?_
              -- region 26
              refine wp_region_lit ?_
              refine sq_pure F (wt0 rfl) (pu_assign rfl (evk)) rfl rfl ?_; clear F; intro φ F
              refine nx ?_
              refine wp_ret ?_
              refine nxrb ?_
              refine nxr ?_
              refine nxr ?_
              refine nxrb ?_
              refine nxrb ?_
              refine nxr ?_
              refine nxr ?_
              refine nxrb ?_
              refine nxr ?_
              refine rt_tmp F rfl rfl ?_
              exfalso; clear F M; first | omega | (simp_all; done) | (simp_all; omega)
            · skip
              have hs10i := of_decide_eq_true hs10
              refine qt_pure F (wt0 rfl) (pu_neqI rfl (F.ev rfl) (evk)) rfl rfl ?_; clear F; intro φ F
              rw [hs10, show (!true) = false from rfl] at F
              refine qt_pure F (wt0 rfl) (pu_move rfl (F.ev rfl)) rfl rfl ?_; clear F; intro φ F
              refine qt_pure F (wt1 F rfl rfl rfl rfl rfl) (pu_move rfl (F.ev rfl)) rfl rfl ?_; clear F; intro φ F
              refine qt_pure F (wt1 F rfl rfl rfl rfl rfl) (pu_move rfl (F.ev rfl)) rfl rfl ?_; clear F; intro φ F
              refine qt_pure F (wt1 F rfl rfl rfl rfl rfl) (pu_ix rfl (F.ev rfl) (F.ev rfl) sl32 (Rd3.top (M.pv (i := 1) rfl)) (by omega) (by omega)) rfl rfl ?_; clear F; intro φ F
              refine qt_rd F (wt1 F rfl rfl rfl rfl rfl) (ld_el1 rfl (F.ev rfl) one45 (fun _ h => RdV.below (Rd3.top (M.pv (i := 1) rfl)) h) (by omega) (cV_at (L := rs1) (by first | omega | (simp; done) | (simp; omega)))) rfl rfl ?_; clear F; intro φ F
              refine qt_pure F (wt1 F rfl rfl rfl rfl rfl) (pu_move rfl (F.ev rfl)) rfl rfl ?_; clear F; intro φ F
              refine qt_pure F (wt1 F rfl rfl rfl rfl rfl) (pu_ix rfl (F.ev rfl) (F.ev rfl) sl45 (In3.row (Rd3.inn (M.pv (i := 1) rfl)) a.toNat (by first | omega | assumption)) (by omega) (by omega)) rfl rfl ?_; clear F; intro φ F
              refine qt_rd F (wt1 F rfl rfl rfl rfl rfl) (ld_el1 rfl (F.ev rfl) one44 (fun _ h => RdV.below (In3.row (Rd3.inn (M.pv (i := 1) rfl)) a.toNat (by first | omega | assumption)) h) (by omega) (cV_at (L := (atW vss1 a.toNat)) (by first | omega | (simp; done) | (simp; omega)))) rfl rfl ?_; clear F; intro φ F
              refine qt_pure F (wt1 F rfl rfl rfl rfl rfl) (pu_ix rfl (F.ev rfl) (evk) sl44 (In3.one (Rd3.inn (M.pv (i := 1) rfl)) a.toNat b.toNat (by first | omega | assumption) (by first | omega | assumption)) (by omega) (by omega)) rfl rfl ?_; clear F; intro φ F
              refine qt_rd F (wt1 F rfl rfl rfl rfl rfl) (ld_el rfl (F.ev rfl) agg38 (fun _ h => RdV.below (In3.one (Rd3.inn (M.pv (i := 1) rfl)) a.toNat b.toNat (by first | omega | assumption) (by first | omega | assumption)) h) (by omega) (cS_at (by first | omega | (simp; done) | (simp; omega))) rfl) rfl rfl ?_; clear F; intro φ F
              refine qt_rd F (wt1 F rfl rfl rfl rfl rfl) (ld_agg rfl (F.ev rfl) agg38 (M.rdB (i := 0) rfl) rfl) rfl rfl ?_; clear F; intro φ F
              refine qt_pure F (wt1 F rfl rfl rfl rfl rfl) (pu_neqA rfl (F.ev rfl) (F.ev rfl) eqg38 (fun w => eqS38 (atS (atR (at3 (cloT (lineE P P.length) (P.length + 1) (P.length + 1)) a.toNat) b.toNat) 0) (lsum P a.toNat ((b - a).toNat)) w)) rfl rfl ?_; clear F; intro φ F
              rw [(decide_eq_true hX0), show (!true) = false from rfl] at F
              refine qt_pure F (wt0 rfl) (pu_pickf rfl (F.ev rfl) (F.ev rfl)) rfl rfl ?_; clear F; intro φ F
              refine qt_pure F (wt0 rfl) (pu_move rfl (F.ev rfl)) rfl rfl ?_; clear F; intro φ F
              refine qt_pure F (wt1 F rfl rfl rfl rfl rfl) (pu_move rfl (F.ev rfl)) rfl rfl ?_; clear F; intro φ F
              refine qt_pure F (wt1 F rfl rfl rfl rfl rfl) (pu_move rfl (F.ev rfl)) rfl rfl ?_; clear F; intro φ F
              refine qt_pure F (wt1 F rfl rfl rfl rfl rfl) (pu_gtr rfl (F.ev rfl) (F.ev rfl)) rfl rfl ?_; clear F; intro φ F
              refine qt_pure F (wt1 F rfl rfl rfl rfl rfl) (pu_move rfl (F.ev rfl)) rfl rfl ?_; clear F; intro φ F
              cases hs11 : (decide (a < b))
              · rw [hs11] at F
                have hs11i := of_decide_eq_false hs11
                refine qt_skip F (wtn F rfl rfl rfl rfl rfl) rfl rfl ?_; clear F; intro φ F
                refine qt_skip F (wtn F rfl rfl rfl rfl rfl) rfl rfl ?_; clear F; intro φ F
                refine qt_skip F (wtn F rfl rfl rfl rfl rfl) rfl rfl ?_; clear F; intro φ F
                refine qt_skip F (wtn F rfl rfl rfl rfl rfl) rfl rfl ?_; clear F; intro φ F
                refine qt_skip F (wtn F rfl rfl rfl rfl rfl) rfl rfl ?_; clear F; intro φ F
                refine qt_skip F (wtn F rfl rfl rfl rfl rfl) rfl rfl ?_; clear F; intro φ F
                refine qt_skip F (wtn F rfl rfl rfl rfl rfl) rfl rfl ?_; clear F; intro φ F
                refine qt_skip F (wtn F rfl rfl rfl rfl rfl) rfl rfl ?_; clear F; intro φ F
                refine qt_skip F (wtn F rfl rfl rfl rfl rfl) rfl rfl ?_; clear F; intro φ F
                refine qt_pure F (wt1 F rfl rfl rfl rfl rfl) (pu_pickf rfl (F.ev rfl) (evk)) rfl rfl ?_; clear F; intro φ F
                refine qt_pure F (wt0 rfl) (pu_pickf rfl (F.ev rfl) (F.ev rfl)) rfl rfl ?_; clear F; intro φ F
                refine wpQuiet_nil ?_
                clear M; intro ω M
                refine nxq ?_
                refine wp_cond_false (F.ev rfl) ?_
                refine wp_skip ?_
                refine nxb ?_
                refine nxq ?_
                -- region 21
                refine wp_region_lit ?_
                refine sq_pure F (wt0 rfl) (pu_move rfl (F.ev rfl)) rfl rfl ?_; clear F; intro φ F
                refine sq_pure F (wt0 rfl) (pu_add rfl (F.ev rfl) (evk) (by omega) (by omega)) rfl rfl ?_; clear F; intro φ F
                refine sq_pure F (wt0 rfl) (pu_assign rfl (F.ev rfl)) rfl rfl ?_; clear F; intro φ F
                refine wpList_nil ?_
                exact ⟨b + 1, by omega, (((((((F.nil.cons (F.get (k := 11) rfl)).cons (F.get (k := 10) rfl)).cons (F.get (k := 9) rfl)).cons (F.get (k := 6) rfl)).cons (F.get (k := 4) rfl)).cons (F.get (k := 3) rfl)).cons (F.get (k := 0) rfl)), (by rw [show (b + 1 - a).toNat - 1 = (b - a).toNat by omega]; exact (M.sub (.cons_cons _ (.cons_cons _ (.cons_cons _ (.cons_cons _ (.cons_cons _ (.slnil)))))))), by omega, by omega⟩
              · rw [hs11] at F
                have hs11i := of_decide_eq_true hs11
                refine qt_pure F (wt1 F rfl rfl rfl rfl rfl) (pu_move rfl (F.ev rfl)) rfl rfl ?_; clear F; intro φ F
                refine qt_pure F (wt1 F rfl rfl rfl rfl rfl) (pu_move rfl (F.ev rfl)) rfl rfl ?_; clear F; intro φ F
                refine qt_pure F (wt1 F rfl rfl rfl rfl rfl) (pu_ix rfl (F.ev rfl) (F.ev rfl) sl32 (Rd3.top (M.pv (i := 1) rfl)) (by omega) (by omega)) rfl rfl ?_; clear F; intro φ F
                refine qt_rd F (wt1 F rfl rfl rfl rfl rfl) (ld_el1 rfl (F.ev rfl) one45 (fun _ h => RdV.below (Rd3.top (M.pv (i := 1) rfl)) h) (by omega) (cV_at (L := rs1) (by first | omega | (simp; done) | (simp; omega)))) rfl rfl ?_; clear F; intro φ F
                refine qt_pure F (wt1 F rfl rfl rfl rfl rfl) (pu_move rfl (F.ev rfl)) rfl rfl ?_; clear F; intro φ F
                refine qt_pure F (wt1 F rfl rfl rfl rfl rfl) (pu_ix rfl (F.ev rfl) (F.ev rfl) sl45 (In3.row (Rd3.inn (M.pv (i := 1) rfl)) b.toNat (by first | omega | assumption)) (by omega) (by omega)) rfl rfl ?_; clear F; intro φ F
                refine qt_rd F (wt1 F rfl rfl rfl rfl rfl) (ld_el1 rfl (F.ev rfl) one44 (fun _ h => RdV.below (In3.row (Rd3.inn (M.pv (i := 1) rfl)) b.toNat (by first | omega | assumption)) h) (by omega) (cV_at (L := (atW vss1 b.toNat)) (by first | omega | (simp; done) | (simp; omega)))) rfl rfl ?_; clear F; intro φ F
                refine qt_pure F (wt1 F rfl rfl rfl rfl rfl) (pu_len rfl (F.ev rfl) sl44 (In3.one (Rd3.inn (M.pv (i := 1) rfl)) b.toNat a.toNat (by first | omega | assumption) (by first | omega | assumption))) rfl rfl ?_; clear F; intro φ F
                cases hs12 : (decide ((((atR (at3 (cloT (lineE P P.length) (P.length + 1) (P.length + 1)) b.toNat) a.toNat).length : Nat) : Int) = 0))
                · skip
                  have hs12i := of_decide_eq_false hs12
                  refine qt_pure F (wt1 F rfl rfl rfl rfl rfl) (pu_neqI rfl (F.ev rfl) (evk)) rfl rfl ?_; clear F; intro φ F
                  rw [hs12, show (!false) = true from rfl] at F
                  refine qt_pure F (wt1 F rfl rfl rfl rfl rfl) (pu_pickt rfl (F.ev rfl) (F.ev rfl)) rfl rfl ?_; clear F; intro φ F
                  refine qt_pure F (wt0 rfl) (pu_pickf rfl (F.ev rfl) (F.ev rfl)) rfl rfl ?_; clear F; intro φ F
                  refine wpQuiet_nil ?_
                  clear M; intro ω M
                  refine nxq ?_
                  refine wp_cond_true (F.ev rfl) ?_
                  refine wp_seq ?_
                  -- region 26
                  refine wp_region_lit ?_
                  refine sq_pure F (wt0 rfl) (pu_assign rfl (evk)) rfl rfl ?_; clear F; intro φ F
                  refine nx ?_
                  refine wp_ret ?_
                  refine nxrb ?_
                  refine nxr ?_
                  refine nxr ?_
                  refine nxrb ?_
                  refine nxrb ?_
                  refine nxr ?_
                  refine nxr ?_
                  refine nxrb ?_
                  refine nxr ?_
                  refine rt_tmp F rfl rfl ?_
                  exfalso; clear F M; first | omega | (simp_all; done) | (simp_all; omega)
                · skip
                  have hs12i := of_decide_eq_true hs12
                  refine qt_pure F (wt1 F rfl rfl rfl rfl rfl) (pu_neqI rfl (F.ev rfl) (evk)) rfl rfl ?_; clear F; intro φ F
                  rw [hs12, show (!true) = false from rfl] at F
                  refine qt_pure F (wt1 F rfl rfl rfl rfl rfl) (pu_pickt rfl (F.ev rfl) (F.ev rfl)) rfl rfl ?_; clear F; intro φ F
                  refine qt_pure F (wt0 rfl) (pu_pickf rfl (F.ev rfl) (F.ev rfl)) rfl rfl ?_; clear F; intro φ F
                  refine wpQuiet_nil ?_
                  clear M; intro ω M
                  refine nxq ?_
                  refine wp_cond_false (F.ev rfl) ?_
                  refine wp_skip ?_
                  refine nxb ?_
                  refine nxq ?_
                  -- region 21
                  refine wp_region_lit ?_
                  refine sq_pure F (wt0 rfl) (pu_move rfl (F.ev rfl)) rfl rfl ?_; clear F; intro φ F
                  refine sq_pure F (wt0 rfl) (pu_add rfl (F.ev rfl) (evk) (by omega) (by omega)) rfl rfl ?_; clear F; intro φ F
                  refine sq_pure F (wt0 rfl) (pu_assign rfl (F.ev rfl)) rfl rfl ?_; clear F; intro φ F
                  refine wpList_nil ?_
                  exact ⟨b + 1, by omega, (((((((F.nil.cons (F.get (k := 11) rfl)).cons (F.get (k := 10) rfl)).cons (F.get (k := 9) rfl)).cons (F.get (k := 6) rfl)).cons (F.get (k := 4) rfl)).cons (F.get (k := 3) rfl)).cons (F.get (k := 0) rfl)), (by rw [show (b + 1 - a).toNat - 1 = (b - a).toNat by omega]; exact (M.sub (.cons_cons _ (.cons_cons _ (.cons_cons _ (.cons_cons _ (.cons_cons _ (.slnil)))))))), by omega, by omega⟩
    · rw [hs3] at F
      have hs3i := of_decide_eq_true hs3
      refine wp_cond_true (F.ev rfl) ?_
      refine wp_skip ?_
      refine nxq ?_
      refine wp_seq ?_
      refine wp_block ?_
      refine wp_seq ?_
      refine wp_seq ?_
      -- region 8
      refine wp_region_lit ?_
      refine sq_pure F (wt0 rfl) (pu_move rfl (F.ev rfl)) rfl rfl ?_; clear F; intro φ F
      refine sq_pure F (wt0 rfl) (pu_move rfl (F.ev rfl)) rfl rfl ?_; clear F; intro φ F
      refine sq_pure F (wt0 rfl) (pu_ix rfl (F.ev rfl) (F.ev rfl) sl44 (M.av (i := 2) rfl) (by omega) (by omega)) rfl rfl ?_; clear F; intro φ F
      refine sq_pure F (wt0 rfl) (pu_field rfl (F.ev rfl) fo38_0) rfl rfl ?_; clear F; intro φ F
      refine sq_rd F (wt0 rfl) (ld_elP1 (q := 0) (k := i.toNat * 2) rfl (F.ev rfl) one3 (fun _ e => e ▸ (M.av (i := 2) rfl)) (by omega) (cS_at (by first | omega | (simp; done) | (simp; omega))) rfl) rfl rfl ?_; clear F; intro φ F
      refine sq_pure F (wt0 rfl) (pu_lss rfl (F.ev rfl) (evk)) rfl rfl ?_; clear F; intro φ F
      refine sq_pure F (wt0 rfl) (pu_move rfl (F.ev rfl)) rfl rfl ?_; clear F; intro φ F
      cases hs13 : (decide ((atS P i.toNat).e < 0))
      · rw [hs13] at F
        have hs13i := of_decide_eq_false hs13
        refine sq_pure F (wt1 F rfl rfl rfl rfl rfl) (pu_move rfl (F.ev rfl)) rfl rfl ?_; clear F; intro φ F
        refine sq_pure F (wt1 F rfl rfl rfl rfl rfl) (pu_move rfl (F.ev rfl)) rfl rfl ?_; clear F; intro φ F
        refine sq_pure F (wt1 F rfl rfl rfl rfl rfl) (pu_ix rfl (F.ev rfl) (F.ev rfl) sl44 (M.av (i := 2) rfl) (by omega) (by omega)) rfl rfl ?_; clear F; intro φ F
        refine sq_pure F (wt1 F rfl rfl rfl rfl rfl) (pu_field rfl (F.ev rfl) fo38_0) rfl rfl ?_; clear F; intro φ F
        refine sq_rd F (wt1 F rfl rfl rfl rfl rfl) (ld_elP1 (q := 0) (k := i.toNat * 2) rfl (F.ev rfl) one3 (fun _ e => e ▸ (M.av (i := 2) rfl)) (by omega) (cS_at (by first | omega | (simp; done) | (simp; omega))) rfl) rfl rfl ?_; clear F; intro φ F
        refine sq_pure F (wt1 F rfl rfl rfl rfl rfl) (pu_gtr rfl (F.ev rfl) (evk)) rfl rfl ?_; clear F; intro φ F
        refine sq_pure F (wt0 rfl) (pu_pickf rfl (F.ev rfl) (F.ev rfl)) rfl rfl ?_; clear F; intro φ F
        refine sq_pure F (wt0 rfl) (pu_move rfl (F.ev rfl)) rfl rfl ?_; clear F; intro φ F
        cases hs14 : (decide (100000 < (atS P i.toNat).e))
        · rw [hs14] at F
          have hs14i := of_decide_eq_false hs14
          refine sq_pure F (wt1 F rfl rfl rfl rfl rfl) (pu_move rfl (F.ev rfl)) rfl rfl ?_; clear F; intro φ F
          refine sq_pure F (wt1 F rfl rfl rfl rfl rfl) (pu_move rfl (F.ev rfl)) rfl rfl ?_; clear F; intro φ F
          refine sq_pure F (wt1 F rfl rfl rfl rfl rfl) (pu_ix rfl (F.ev rfl) (F.ev rfl) sl44 (M.av (i := 2) rfl) (by omega) (by omega)) rfl rfl ?_; clear F; intro φ F
          refine sq_pure F (wt1 F rfl rfl rfl rfl rfl) (pu_field rfl (F.ev rfl) fo38_1) rfl rfl ?_; clear F; intro φ F
          refine sq_rd F (wt1 F rfl rfl rfl rfl rfl) (ld_elP1 (q := 1) (k := i.toNat * 2) rfl (F.ev rfl) one3 (fun _ e => e ▸ (M.av (i := 2) rfl)) (by omega) (cS_at (by first | omega | (simp; done) | (simp; omega))) rfl) rfl rfl ?_; clear F; intro φ F
          refine sq_pure F (wt1 F rfl rfl rfl rfl rfl) (pu_lss rfl (F.ev rfl) (evk)) rfl rfl ?_; clear F; intro φ F
          refine sq_pure F (wt0 rfl) (pu_pickf rfl (F.ev rfl) (F.ev rfl)) rfl rfl ?_; clear F; intro φ F
          refine sq_pure F (wt0 rfl) (pu_move rfl (F.ev rfl)) rfl rfl ?_; clear F; intro φ F
          cases hs15 : (decide ((atS P i.toNat).r < 0))
          · rw [hs15] at F
            have hs15i := of_decide_eq_false hs15
            refine sq_pure F (wt1 F rfl rfl rfl rfl rfl) (pu_move rfl (F.ev rfl)) rfl rfl ?_; clear F; intro φ F
            refine sq_pure F (wt1 F rfl rfl rfl rfl rfl) (pu_move rfl (F.ev rfl)) rfl rfl ?_; clear F; intro φ F
            refine sq_pure F (wt1 F rfl rfl rfl rfl rfl) (pu_ix rfl (F.ev rfl) (F.ev rfl) sl44 (M.av (i := 2) rfl) (by omega) (by omega)) rfl rfl ?_; clear F; intro φ F
            refine sq_pure F (wt1 F rfl rfl rfl rfl rfl) (pu_field rfl (F.ev rfl) fo38_1) rfl rfl ?_; clear F; intro φ F
            refine sq_rd F (wt1 F rfl rfl rfl rfl rfl) (ld_elP1 (q := 1) (k := i.toNat * 2) rfl (F.ev rfl) one3 (fun _ e => e ▸ (M.av (i := 2) rfl)) (by omega) (cS_at (by first | omega | (simp; done) | (simp; omega))) rfl) rfl rfl ?_; clear F; intro φ F
            refine sq_pure F (wt1 F rfl rfl rfl rfl rfl) (pu_gtr rfl (F.ev rfl) (evk)) rfl rfl ?_; clear F; intro φ F
            refine sq_pure F (wt0 rfl) (pu_pickf rfl (F.ev rfl) (F.ev rfl)) rfl rfl ?_; clear F; intro φ F
            refine nx ?_
            cases hs16 : (decide (100000 < (atS P i.toNat).r))
            · rw [hs16] at F
              have hs16i := of_decide_eq_false hs16
              refine wp_cond_false (F.ev rfl) ?_
              refine wp_skip ?_
              refine nxq ?_
              have hle := line_len P i.toNat
              -- region 10
              refine rg_J F 13 (fun Dd dv w' => (Dd 0 = true → dv 0 = .pointer (some ⟨g1, 1, none⟩)) ∧ (Dd 1 = true → dv 1 = ve) ∧ (Dd 2 = true → dv 2 = .int .i64 i) ∧ (Dd 3 = true → dv 3 = .int .i64 i) ∧ (Dd 4 = true → dv 4 = .int .i64 (i + 1)) ∧ (Dd 5 = true → dv 5 = pv) ∧ (Dd 6 = true → dv 6 = .int .i64 i) ∧ (Dd 7 = true → dv 7 = .pointer (some ⟨gof pv, oof pv + (i.toNat * 2), none⟩)) ∧ (Dd 8 = true → dv 8 = .agg #[.int .i64 ((atS P i.toNat).e), .int .i64 ((atS P i.toNat).r)]) ∧ (Dd 9 = true → dv 9 = .agg #[.int .i64 i, .int .i64 (i + 1), .int .i64 ((atS P i.toNat).e), .int .i64 ((atS P i.toNat).r)]) ∧ (Dd 12 = true → dv 12 = .pointer (some ⟨g1, 1, none⟩)) ∧ Mm [] w w' [(if Dd 10 = true then .row 40 4 (dv 10) 1 (cG [(Ed.mk i (i + 1) (atS P i.toNat))]) else .arg 1 (.slice none 0 0) 0 []), (if Dd 11 = true then .row 40 4 (dv 11) (((lineE P i.toNat) ++ [(Ed.mk i (i + 1) (atS P i.toNat))]).length) (cG ((lineE P i.toNat) ++ [(Ed.mk i (i + 1) (atS P i.toNat))])) else .row 40 4 ve ((lineE P i.toNat).length) (cG (lineE P i.toNat))), .blk g1 24 #[.int .i64 (((P.length : Nat) : Int) + 1), ve], .arg 2 pv P.length (cS P)]) (fun dv => ⟨(fun h => by cases h), (fun h => by cases h), (fun h => by cases h), (fun h => by cases h), (fun h => by cases h), (fun h => by cases h), (fun h => by cases h), (fun h => by cases h), (fun h => by cases h), (fun h => by cases h), (fun h => by cases h), by simpa using (M.drew).dead⟩) mixedOK (by kernel_rfl) rfl ⟨?_, ?_, ?_, ?_, ?_, ?_, ?_, ?_, ?_, ?_, ?_, ?_, ?_, trivial⟩ ?_
              · intro Dd φ1 dv ω1 ⟨h0, h1, h2, h3, h4, h5, h6, h7, h8, h9, h12, M⟩ hDi hdep hcl F1 hdone hold
                have F := (F1.cons (F.was hold (s := 4) rfl rfl))
                try simp only [hDi, Bool.false_eq_true, if_false, if_true, ite_true, ite_false] at M
                exact ⟨wt0 rfl, ow_run ((pu_field rfl (F.ev rfl) fo24_1) ω1) ⟨_, rfl, newP, keepP rfl h1, keepP rfl h2, keepP rfl h3, keepP rfl h4, keepP rfl h5, keepP rfl h6, keepP rfl h7, keepP rfl h8, keepP rfl h9, keepP rfl h12, by simpa [setB, setV, hDi, Bool.false_eq_true, if_false, if_true, ite_true, ite_false] using M⟩⟩
              · intro Dd φ1 dv ω1 ⟨h0, h1, h2, h3, h4, h5, h6, h7, h8, h9, h12, M⟩ hDi hdep hcl F1 hdone hold
                have d0 : Dd 0 = true := hdep 0 (by kernel_rfl)
                have F := (F1.cons (k := 58) (hdone 0 _ _ d0 rfl rfl |>.trans (h0 d0)))
                try simp only [d0, hDi, Bool.false_eq_true, if_false, if_true, ite_true, ite_false] at M
                exact ⟨wt0 rfl, ow_run ((ld_cell rfl (F.ev rfl) one22 (M.rd (i := 2) rfl) rfl) ω1 rfl) ⟨_, rfl, keepP rfl h0, newP, keepP rfl h2, keepP rfl h3, keepP rfl h4, keepP rfl h5, keepP rfl h6, keepP rfl h7, keepP rfl h8, keepP rfl h9, keepP rfl h12, by simpa [setB, setV, d0, hDi, Bool.false_eq_true, if_false, if_true, ite_true, ite_false] using M⟩⟩
              · intro Dd φ1 dv ω1 ⟨h0, h1, h2, h3, h4, h5, h6, h7, h8, h9, h12, M⟩ hDi hdep hcl F1 hdone hold
                have F := (F1.cons (F.was hold (s := 5) rfl rfl))
                try simp only [hDi, Bool.false_eq_true, if_false, if_true, ite_true, ite_false] at M
                exact ⟨wt0 rfl, ow_run ((pu_move rfl (F.ev rfl)) ω1) ⟨_, rfl, keepP rfl h0, keepP rfl h1, newP, keepP rfl h3, keepP rfl h4, keepP rfl h5, keepP rfl h6, keepP rfl h7, keepP rfl h8, keepP rfl h9, keepP rfl h12, by simpa [setB, setV, hDi, Bool.false_eq_true, if_false, if_true, ite_true, ite_false] using M⟩⟩
              · intro Dd φ1 dv ω1 ⟨h0, h1, h2, h3, h4, h5, h6, h7, h8, h9, h12, M⟩ hDi hdep hcl F1 hdone hold
                have F := (F1.cons (F.was hold (s := 5) rfl rfl))
                try simp only [hDi, Bool.false_eq_true, if_false, if_true, ite_true, ite_false] at M
                exact ⟨wt0 rfl, ow_run ((pu_move rfl (F.ev rfl)) ω1) ⟨_, rfl, keepP rfl h0, keepP rfl h1, keepP rfl h2, newP, keepP rfl h4, keepP rfl h5, keepP rfl h6, keepP rfl h7, keepP rfl h8, keepP rfl h9, keepP rfl h12, by simpa [setB, setV, hDi, Bool.false_eq_true, if_false, if_true, ite_true, ite_false] using M⟩⟩
              · intro Dd φ1 dv ω1 ⟨h0, h1, h2, h3, h4, h5, h6, h7, h8, h9, h12, M⟩ hDi hdep hcl F1 hdone hold
                have d3 : Dd 3 = true := hdep 3 (by kernel_rfl)
                have F := (F1.cons (k := 61) (hdone 3 _ _ d3 rfl rfl |>.trans (h3 d3)))
                try simp only [d3, hDi, Bool.false_eq_true, if_false, if_true, ite_true, ite_false] at M
                exact ⟨wt0 rfl, ow_run ((pu_add rfl (F.ev rfl) (evk) (by omega) (by omega)) ω1) ⟨_, rfl, keepP rfl h0, keepP rfl h1, keepP rfl h2, keepP rfl h3, newP, keepP rfl h5, keepP rfl h6, keepP rfl h7, keepP rfl h8, keepP rfl h9, keepP rfl h12, by simpa [setB, setV, d3, hDi, Bool.false_eq_true, if_false, if_true, ite_true, ite_false] using M⟩⟩
              · intro Dd φ1 dv ω1 ⟨h0, h1, h2, h3, h4, h5, h6, h7, h8, h9, h12, M⟩ hDi hdep hcl F1 hdone hold
                have F := (F1.cons (F.was hold (s := 0) rfl rfl))
                try simp only [hDi, Bool.false_eq_true, if_false, if_true, ite_true, ite_false] at M
                exact ⟨wt0 rfl, ow_run ((pu_move rfl (F.ev rfl)) ω1) ⟨_, rfl, keepP rfl h0, keepP rfl h1, keepP rfl h2, keepP rfl h3, keepP rfl h4, newP, keepP rfl h6, keepP rfl h7, keepP rfl h8, keepP rfl h9, keepP rfl h12, by simpa [setB, setV, hDi, Bool.false_eq_true, if_false, if_true, ite_true, ite_false] using M⟩⟩
              · intro Dd φ1 dv ω1 ⟨h0, h1, h2, h3, h4, h5, h6, h7, h8, h9, h12, M⟩ hDi hdep hcl F1 hdone hold
                have F := (F1.cons (F.was hold (s := 5) rfl rfl))
                try simp only [hDi, Bool.false_eq_true, if_false, if_true, ite_true, ite_false] at M
                exact ⟨wt0 rfl, ow_run ((pu_move rfl (F.ev rfl)) ω1) ⟨_, rfl, keepP rfl h0, keepP rfl h1, keepP rfl h2, keepP rfl h3, keepP rfl h4, keepP rfl h5, newP, keepP rfl h7, keepP rfl h8, keepP rfl h9, keepP rfl h12, by simpa [setB, setV, hDi, Bool.false_eq_true, if_false, if_true, ite_true, ite_false] using M⟩⟩
              · intro Dd φ1 dv ω1 ⟨h0, h1, h2, h3, h4, h5, h6, h7, h8, h9, h12, M⟩ hDi hdep hcl F1 hdone hold
                have d5 : Dd 5 = true := hdep 5 (by kernel_rfl)
                have d6 : Dd 6 = true := hdep 6 (by kernel_rfl)
                have F := ((F1.cons (k := 63) (hdone 5 _ _ d5 rfl rfl |>.trans (h5 d5))).cons (k := 64) (hdone 6 _ _ d6 rfl rfl |>.trans (h6 d6)))
                try simp only [d5, d6, hDi, Bool.false_eq_true, if_false, if_true, ite_true, ite_false] at M
                exact ⟨wt0 rfl, ow_run ((pu_ix rfl (F.ev rfl) (F.ev rfl) sl44 (M.av (i := 3) rfl) (by omega) (by omega)) ω1) ⟨_, rfl, keepP rfl h0, keepP rfl h1, keepP rfl h2, keepP rfl h3, keepP rfl h4, keepP rfl h5, keepP rfl h6, newP, keepP rfl h8, keepP rfl h9, keepP rfl h12, by simpa [setB, setV, d5, d6, hDi, Bool.false_eq_true, if_false, if_true, ite_true, ite_false] using M⟩⟩
              · intro Dd φ1 dv ω1 ⟨h0, h1, h2, h3, h4, h5, h6, h7, h8, h9, h12, M⟩ hDi hdep hcl F1 hdone hold
                have d7 : Dd 7 = true := hdep 7 (by kernel_rfl)
                have d5 : Dd 5 = true := hcl _ 5 d7 (by kernel_rfl)
                have d6 : Dd 6 = true := hcl _ 6 d7 (by kernel_rfl)
                have F := (F1.cons (k := 65) (hdone 7 _ _ d7 rfl rfl |>.trans (h7 d7)))
                try simp only [d5, d6, d7, hDi, Bool.false_eq_true, if_false, if_true, ite_true, ite_false] at M
                exact ⟨wt0 rfl, ow_run ((ld_el rfl (F.ev rfl) agg38 (fun _ e => e ▸ (M.av (i := 3) rfl)) (by omega) (cS_at (by first | omega | (simp; done) | (simp; omega))) rfl) ω1 rfl) ⟨_, rfl, keepP rfl h0, keepP rfl h1, keepP rfl h2, keepP rfl h3, keepP rfl h4, keepP rfl h5, keepP rfl h6, keepP rfl h7, newP, keepP rfl h9, keepP rfl h12, by simpa [setB, setV, d5, d6, d7, hDi, Bool.false_eq_true, if_false, if_true, ite_true, ite_false] using M⟩⟩
              · intro Dd φ1 dv ω1 ⟨h0, h1, h2, h3, h4, h5, h6, h7, h8, h9, h12, M⟩ hDi hdep hcl F1 hdone hold
                have d2 : Dd 2 = true := hdep 2 (by kernel_rfl)
                have d4 : Dd 4 = true := hdep 4 (by kernel_rfl)
                have d8 : Dd 8 = true := hdep 8 (by kernel_rfl)
                have d3 : Dd 3 = true := hcl _ 3 d4 (by kernel_rfl)
                have d7 : Dd 7 = true := hcl _ 7 d8 (by kernel_rfl)
                have d5 : Dd 5 = true := hcl _ 5 d7 (by kernel_rfl)
                have d6 : Dd 6 = true := hcl _ 6 d7 (by kernel_rfl)
                have F := (((F1.cons (k := 60) (hdone 2 _ _ d2 rfl rfl |>.trans (h2 d2))).cons (k := 62) (hdone 4 _ _ d4 rfl rfl |>.trans (h4 d4))).cons (k := 66) (hdone 8 _ _ d8 rfl rfl |>.trans (h8 d8)))
                try simp only [d2, d3, d4, d5, d6, d7, d8, hDi, Bool.false_eq_true, if_false, if_true, ite_true, ite_false] at M
                exact ⟨wt0 rfl, ow_run ((bu40_0_1_2 rfl (F.ev rfl) (F.ev rfl) (F.ev rfl)) ω1) ⟨_, rfl, keepP rfl h0, keepP rfl h1, keepP rfl h2, keepP rfl h3, keepP rfl h4, keepP rfl h5, keepP rfl h6, keepP rfl h7, keepP rfl h8, newP, keepP rfl h12, by simpa [setB, setV, d2, d3, d4, d5, d6, d7, d8, hDi, Bool.false_eq_true, if_false, if_true, ite_true, ite_false] using M⟩⟩
              · intro Dd φ1 dv ω1 ⟨h0, h1, h2, h3, h4, h5, h6, h7, h8, h9, h12, M⟩ hDi hdep hcl F1 hdone hold
                have d9 : Dd 9 = true := hdep 9 (by kernel_rfl)
                have d2 : Dd 2 = true := hcl _ 2 d9 (by kernel_rfl)
                have d4 : Dd 4 = true := hcl _ 4 d9 (by kernel_rfl)
                have d8 : Dd 8 = true := hcl _ 8 d9 (by kernel_rfl)
                have d3 : Dd 3 = true := hcl _ 3 d4 (by kernel_rfl)
                have d7 : Dd 7 = true := hcl _ 7 d8 (by kernel_rfl)
                have d5 : Dd 5 = true := hcl _ 5 d7 (by kernel_rfl)
                have d6 : Dd 6 = true := hcl _ 6 d7 (by kernel_rfl)
                have F := (F1.cons (k := 67) (hdone 9 _ _ d9 rfl rfl |>.trans (h9 d9)))
                try simp only [d2, d3, d4, d5, d6, d7, d8, d9, hDi, Bool.false_eq_true, if_false, if_true, ite_true, ite_false] at M
                have M2 : Mm [] w _ (([_, _, _, _]).set 0 (.row 40 4 (.slice (some ⟨ω1.heap.size, 0, none⟩) 1 1) 1 (cG [(Ed.mk i (i + 1) (atS P i.toNat))]))) := M.fresh (i := 0) (e := 40) (m := 4) (k := 1) (cs := #[.int .i64 i, .int .i64 (i + 1), .int .i64 ((atS P i.toNat).e), .int .i64 ((atS P i.toNat).r)]) rfl (by omega) rfl
                exact ⟨wt0 rfl, ow_run (bs22_1 rfl (F.ev rfl) _) ⟨_, rfl, keepP rfl h0, keepP rfl h1, keepP rfl h2, keepP rfl h3, keepP rfl h4, keepP rfl h5, keepP rfl h6, keepP rfl h7, keepP rfl h8, keepP rfl h9, keepP rfl h12, by simpa [setB, setV, d2, d3, d4, d5, d6, d7, d8, d9, hDi, Bool.false_eq_true, if_false, if_true, ite_true, ite_false] using M2⟩⟩
              · intro Dd φ1 dv ω1 ⟨h0, h1, h2, h3, h4, h5, h6, h7, h8, h9, h12, M⟩ hDi hdep hcl F1 hdone hold
                have d1 : Dd 1 = true := hdep 1 (by kernel_rfl)
                have d10 : Dd 10 = true := hdep 10 (by kernel_rfl)
                have d0 : Dd 0 = true := hcl _ 0 d1 (by kernel_rfl)
                have d9 : Dd 9 = true := hcl _ 9 d10 (by kernel_rfl)
                have d2 : Dd 2 = true := hcl _ 2 d9 (by kernel_rfl)
                have d4 : Dd 4 = true := hcl _ 4 d9 (by kernel_rfl)
                have d8 : Dd 8 = true := hcl _ 8 d9 (by kernel_rfl)
                have d3 : Dd 3 = true := hcl _ 3 d4 (by kernel_rfl)
                have d7 : Dd 7 = true := hcl _ 7 d8 (by kernel_rfl)
                have d5 : Dd 5 = true := hcl _ 5 d7 (by kernel_rfl)
                have d6 : Dd 6 = true := hcl _ 6 d7 (by kernel_rfl)
                have F := ((F1.cons (k := 59) (hdone 1 _ _ d1 rfl rfl |>.trans (h1 d1))).cons (k := 68) (hdone 10 _ _ d10 rfl rfl))
                try simp only [d0, d1, d2, d3, d4, d5, d6, d7, d8, d9, d10, hDi, Bool.false_eq_true, if_false, if_true, ite_true, ite_false] at M
                refine ⟨wt0 rfl, ow_app M rfl sl22.1 el40 (F.ev rfl) (i := 1) rfl (F.ev rfl) (M.rv (i := 0) rfl) (cG_ones _) (by first | omega | (simp only [List.length_append, List.length_take, List.length_drop, List.length_cons, List.length_nil]; omega)) (by omega) (fun x w2 M2 => ?_)⟩
                rw [← cG_app, show ((lineE P i.toNat).length) + 1 = ((lineE P i.toNat) ++ [(Ed.mk i (i + 1) (atS P i.toNat))]).length from by first | rfl | (simp; done) | (simp; omega)] at M2
                exact ⟨_, rfl, keepP rfl h0, keepP rfl h1, keepP rfl h2, keepP rfl h3, keepP rfl h4, keepP rfl h5, keepP rfl h6, keepP rfl h7, keepP rfl h8, keepP rfl h9, keepP rfl h12, by simpa [setB, setV, d0, d1, d2, d3, d4, d5, d6, d7, d8, d9, d10, hDi, Bool.false_eq_true, if_false, if_true, ite_true, ite_false] using M2⟩
              · intro Dd φ1 dv ω1 ⟨h0, h1, h2, h3, h4, h5, h6, h7, h8, h9, h12, M⟩ hDi hdep hcl F1 hdone hold
                have F := (F1.cons (F.was hold (s := 4) rfl rfl))
                try simp only [hDi, Bool.false_eq_true, if_false, if_true, ite_true, ite_false] at M
                exact ⟨wt0 rfl, ow_run ((pu_field rfl (F.ev rfl) fo24_1) ω1) ⟨_, rfl, keepP rfl h0, keepP rfl h1, keepP rfl h2, keepP rfl h3, keepP rfl h4, keepP rfl h5, keepP rfl h6, keepP rfl h7, keepP rfl h8, keepP rfl h9, newP, by simpa [setB, setV, hDi, Bool.false_eq_true, if_false, if_true, ite_true, ite_false] using M⟩⟩
              clear M; rintro dv φ ω ⟨h0, h1, h2, h3, h4, h5, h6, h7, h8, h9, h12, M⟩ F
              simp only [hvL, List.take_succ_cons, List.take_zero] at F
              rw [h12 (by simp)] at F
              rw [h9 (by simp)] at F
              rw [h8 (by simp)] at F
              rw [h7 (by simp)] at F
              rw [h6 (by simp)] at F
              rw [h5 (by simp)] at F
              rw [h4 (by simp)] at F
              rw [h3 (by simp)] at F
              rw [h2 (by simp)] at F
              rw [h1 (by simp)] at F
              rw [h0 (by simp)] at F
              replace M : Mm [] w ω [.row 40 4 (dv 10) 1 (cG [(Ed.mk i (i + 1) (atS P i.toNat))]), .row 40 4 (dv 11) (((lineE P i.toNat) ++ [(Ed.mk i (i + 1) (atS P i.toNat))]).length) (cG ((lineE P i.toNat) ++ [(Ed.mk i (i + 1) (atS P i.toNat))])), .blk g1 24 #[.int .i64 (((P.length : Nat) : Int) + 1), ve], .arg 2 pv P.length (cS P)] := by simpa using M
              clear h0 h1 h2 h3 h4 h5 h6 h7 h8 h9 h12
              generalize dv 10 = v2 at F M
              generalize dv 11 = v3 at F M
              refine sq_stC F M (wt0 rfl) rfl (F.ev rfl) (F.ev rfl) (i := 2) rfl (by simp) si22 (slc_one (M.rv (i := 1) rfl)).1 (slc_one (M.rv (i := 1) rfl)).2 rfl ?_; clear M; intro ω M
              replace M : Mm [] w ω [.row 40 4 v2 1 (cG [(Ed.mk i (i + 1) (atS P i.toNat))]), .row 40 4 v3 (((lineE P i.toNat) ++ [(Ed.mk i (i + 1) (atS P i.toNat))]).length) (cG ((lineE P i.toNat) ++ [(Ed.mk i (i + 1) (atS P i.toNat))])), .blk g1 24 #[.int .i64 (((P.length : Nat) : Int) + 1), v3], .arg 2 pv P.length (cS P)] := M
              refine wpList_nil ?_
              refine nxb ?_
              refine nxq ?_
              -- region 7
              refine wp_region_lit ?_
              refine sq_pure F (wt0 rfl) (pu_move rfl (F.ev rfl)) rfl rfl ?_; clear F; intro φ F
              refine sq_pure F (wt0 rfl) (pu_add rfl (F.ev rfl) (evk) (by omega) (by omega)) rfl rfl ?_; clear F; intro φ F
              refine sq_pure F (wt0 rfl) (pu_assign rfl (F.ev rfl)) rfl rfl ?_; clear F; intro φ F
              refine wpList_nil ?_
              exact ⟨i + 1, by omega, v3, ((((F.nil.cons (F.get (k := 5) rfl)).cons (F.get (k := 4) rfl)).cons (F.get (k := 3) rfl)).cons (F.get (k := 0) rfl)), (by rw [← line_snoc (by omega)]; exact (M.sub (.cons _ (.cons_cons _ (.cons_cons _ (.cons_cons _ (.slnil))))))), by omega, by omega, all_succ hp2_2 hp2_0 (by omega)⟩
            · rw [hs16] at F
              have hs16i := of_decide_eq_true hs16
              refine wp_cond_true (F.ev rfl) ?_
              refine wp_seq ?_
              -- region 9
              refine wp_region_lit ?_
              refine sq_pure F (wt0 rfl) (pu_move rfl (F.ev rfl)) rfl rfl ?_; clear F; intro φ F
              refine sq_pure F (wt0 rfl) (pu_assign rfl (F.ev rfl)) rfl rfl ?_; clear F; intro φ F
              refine nx ?_
              refine wp_ret ?_
              refine nxr ?_
              refine nxrb ?_
              refine nxr ?_
              refine nxr ?_
              refine nxrb ?_
              refine nxr ?_
              refine rt_tmp F rfl rfl ?_
              exact ⟨rfl, M.bel⟩
          · rw [hs15] at F
            have hs15i := of_decide_eq_true hs15
            refine sq_skip F (wtn F rfl rfl rfl rfl rfl) rfl rfl ?_; clear F; intro φ F
            refine sq_skip F (wtn F rfl rfl rfl rfl rfl) rfl rfl ?_; clear F; intro φ F
            refine sq_skip F (wtn F rfl rfl rfl rfl rfl) rfl rfl ?_; clear F; intro φ F
            refine sq_skip F (wtn F rfl rfl rfl rfl rfl) rfl rfl ?_; clear F; intro φ F
            refine sq_skip F (wtn F rfl rfl rfl rfl rfl) rfl rfl ?_; clear F; intro φ F
            refine sq_skip F (wtn F rfl rfl rfl rfl rfl) rfl rfl ?_; clear F; intro φ F
            refine sq_pure F (wt0 rfl) (pu_pickt rfl (F.ev rfl) (evk)) rfl rfl ?_; clear F; intro φ F
            refine nx ?_
            refine wp_cond_true (F.ev rfl) ?_
            refine wp_seq ?_
            -- region 9
            refine wp_region_lit ?_
            refine sq_pure F (wt0 rfl) (pu_move rfl (F.ev rfl)) rfl rfl ?_; clear F; intro φ F
            refine sq_pure F (wt0 rfl) (pu_assign rfl (F.ev rfl)) rfl rfl ?_; clear F; intro φ F
            refine nx ?_
            refine wp_ret ?_
            refine nxr ?_
            refine nxrb ?_
            refine nxr ?_
            refine nxr ?_
            refine nxrb ?_
            refine nxr ?_
            refine rt_tmp F rfl rfl ?_
            exact ⟨rfl, M.bel⟩
        · rw [hs14] at F
          have hs14i := of_decide_eq_true hs14
          refine sq_skip F (wtn F rfl rfl rfl rfl rfl) rfl rfl ?_; clear F; intro φ F
          refine sq_skip F (wtn F rfl rfl rfl rfl rfl) rfl rfl ?_; clear F; intro φ F
          refine sq_skip F (wtn F rfl rfl rfl rfl rfl) rfl rfl ?_; clear F; intro φ F
          refine sq_skip F (wtn F rfl rfl rfl rfl rfl) rfl rfl ?_; clear F; intro φ F
          refine sq_skip F (wtn F rfl rfl rfl rfl rfl) rfl rfl ?_; clear F; intro φ F
          refine sq_skip F (wtn F rfl rfl rfl rfl rfl) rfl rfl ?_; clear F; intro φ F
          refine sq_pure F (wt0 rfl) (pu_pickt rfl (F.ev rfl) (evk)) rfl rfl ?_; clear F; intro φ F
          refine sq_pure F (wt0 rfl) (pu_move rfl (F.ev rfl)) rfl rfl ?_; clear F; intro φ F
          refine sq_skip F (wtn F rfl rfl rfl rfl rfl) rfl rfl ?_; clear F; intro φ F
          refine sq_skip F (wtn F rfl rfl rfl rfl rfl) rfl rfl ?_; clear F; intro φ F
          refine sq_skip F (wtn F rfl rfl rfl rfl rfl) rfl rfl ?_; clear F; intro φ F
          refine sq_skip F (wtn F rfl rfl rfl rfl rfl) rfl rfl ?_; clear F; intro φ F
          refine sq_skip F (wtn F rfl rfl rfl rfl rfl) rfl rfl ?_; clear F; intro φ F
          refine sq_skip F (wtn F rfl rfl rfl rfl rfl) rfl rfl ?_; clear F; intro φ F
          refine sq_pure F (wt0 rfl) (pu_pickt rfl (F.ev rfl) (evk)) rfl rfl ?_; clear F; intro φ F
          refine nx ?_
          refine wp_cond_true (F.ev rfl) ?_
          refine wp_seq ?_
          -- region 9
          refine wp_region_lit ?_
          refine sq_pure F (wt0 rfl) (pu_move rfl (F.ev rfl)) rfl rfl ?_; clear F; intro φ F
          refine sq_pure F (wt0 rfl) (pu_assign rfl (F.ev rfl)) rfl rfl ?_; clear F; intro φ F
          refine nx ?_
          refine wp_ret ?_
          refine nxr ?_
          refine nxrb ?_
          refine nxr ?_
          refine nxr ?_
          refine nxrb ?_
          refine nxr ?_
          refine rt_tmp F rfl rfl ?_
          exact ⟨rfl, M.bel⟩
      · rw [hs13] at F
        have hs13i := of_decide_eq_true hs13
        refine sq_skip F (wtn F rfl rfl rfl rfl rfl) rfl rfl ?_; clear F; intro φ F
        refine sq_skip F (wtn F rfl rfl rfl rfl rfl) rfl rfl ?_; clear F; intro φ F
        refine sq_skip F (wtn F rfl rfl rfl rfl rfl) rfl rfl ?_; clear F; intro φ F
        refine sq_skip F (wtn F rfl rfl rfl rfl rfl) rfl rfl ?_; clear F; intro φ F
        refine sq_skip F (wtn F rfl rfl rfl rfl rfl) rfl rfl ?_; clear F; intro φ F
        refine sq_skip F (wtn F rfl rfl rfl rfl rfl) rfl rfl ?_; clear F; intro φ F
        refine sq_pure F (wt0 rfl) (pu_pickt rfl (F.ev rfl) (evk)) rfl rfl ?_; clear F; intro φ F
        refine sq_pure F (wt0 rfl) (pu_move rfl (F.ev rfl)) rfl rfl ?_; clear F; intro φ F
        refine sq_skip F (wtn F rfl rfl rfl rfl rfl) rfl rfl ?_; clear F; intro φ F
        refine sq_skip F (wtn F rfl rfl rfl rfl rfl) rfl rfl ?_; clear F; intro φ F
        refine sq_skip F (wtn F rfl rfl rfl rfl rfl) rfl rfl ?_; clear F; intro φ F
        refine sq_skip F (wtn F rfl rfl rfl rfl rfl) rfl rfl ?_; clear F; intro φ F
        refine sq_skip F (wtn F rfl rfl rfl rfl rfl) rfl rfl ?_; clear F; intro φ F
        refine sq_skip F (wtn F rfl rfl rfl rfl rfl) rfl rfl ?_; clear F; intro φ F
        refine sq_pure F (wt0 rfl) (pu_pickt rfl (F.ev rfl) (evk)) rfl rfl ?_; clear F; intro φ F
        refine sq_pure F (wt0 rfl) (pu_move rfl (F.ev rfl)) rfl rfl ?_; clear F; intro φ F
        refine sq_skip F (wtn F rfl rfl rfl rfl rfl) rfl rfl ?_; clear F; intro φ F
        refine sq_skip F (wtn F rfl rfl rfl rfl rfl) rfl rfl ?_; clear F; intro φ F
        refine sq_skip F (wtn F rfl rfl rfl rfl rfl) rfl rfl ?_; clear F; intro φ F
        refine sq_skip F (wtn F rfl rfl rfl rfl rfl) rfl rfl ?_; clear F; intro φ F
        refine sq_skip F (wtn F rfl rfl rfl rfl rfl) rfl rfl ?_; clear F; intro φ F
        refine sq_skip F (wtn F rfl rfl rfl rfl rfl) rfl rfl ?_; clear F; intro φ F
        refine sq_pure F (wt0 rfl) (pu_pickt rfl (F.ev rfl) (evk)) rfl rfl ?_; clear F; intro φ F
        refine nx ?_
        refine wp_cond_true (F.ev rfl) ?_
        refine wp_seq ?_
        -- region 9
        refine wp_region_lit ?_
        refine sq_pure F (wt0 rfl) (pu_move rfl (F.ev rfl)) rfl rfl ?_; clear F; intro φ F
        refine sq_pure F (wt0 rfl) (pu_assign rfl (F.ev rfl)) rfl rfl ?_; clear F; intro φ F
        refine nx ?_
        refine wp_ret ?_
        refine nxr ?_
        refine nxrb ?_
        refine nxr ?_
        refine nxr ?_
        refine nxrb ?_
        refine nxr ?_
        refine rt_tmp F rfl rfl ?_
        exact ⟨rfl, M.bel⟩
  · rw [hs1] at F
    have hs1i := of_decide_eq_true hs1
    refine wp_cond_true (F.ev rfl) ?_
    refine wp_seq ?_
    -- region 3
    refine wp_region_lit ?_
    refine sq_pure F (wt0 rfl) (pu_move rfl (F.ev rfl)) rfl rfl ?_; clear F; intro φ F
    refine sq_pure F (wt0 rfl) (pu_assign rfl (F.ev rfl)) rfl rfl ?_; clear F; intro φ F
    refine nx ?_
    refine wp_ret ?_
    refine nxr ?_
    refine rt_tmp F rfl rfl ?_
    exact ⟨rfl, M.bel⟩

end Go.Proofs.Ytbleefegobmboaa
