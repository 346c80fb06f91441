/- Laws of layer 6. Made by walks/graphlaws.py. -/
import Derived.Test.YtbleefegobmboaaGh
namespace Go.Proofs.Ytbleefegobmboaa
open Go.RowKit
set_option maxRecDepth 100000
set_option linter.unusedSimpArgs false
set_option linter.unusedVariables false

set_option maxHeartbeats 4000000 in
theorem graphJoins_walk (n : Int) (ev : Value) (E : List Ed) (w : World) (hr : RdG w ev E) :
    Calls Try.prog 6 #[.agg #[.int .i64 n, ev]] w fun e w' => e = .returned (.bool true) ∧ Below w.heap.size w w' := by
  refine enterF Try.func6 rfl 94 Try.ntmps6 [.agg #[.int .i64 n, ev]] rfl [(0, .agg #[.int .i64 n, ev])] rfl ?_
  intro φ F
  have M := Mm.start [] w
  replace M := M.addArg (hr) (fun h_ => by first | (simp; done) | assumption | exact d3 h_ | (simp_all; done))
  refine wp_seq ?_
  -- region 0
  refine wp_region_lit ?_
  refine sq_box F M (wt0 rfl) rfl (F.ev rfl) (cs := #[.int .i64 n, ev]) rfl rfl rfl ?_; clear F M; intro φ ω g1 F M
  refine sq_pure F (wt0 rfl) (pu_assign rfl (evk)) rfl rfl ?_; clear F; intro φ F
  refine nx ?_
  refine wp_seq ?_
  -- region 1
  refine wp_region_lit ?_
  refine sq_call F M (wt0 rfl) rfl en10 evn (awake_any _) rfl rfl ?_; clear F M; intro φ ω F M
  refine sq_pure F (wt0 rfl) (pu_assign rfl (F.ev rfl)) rfl rfl ?_; clear F; intro φ F
  refine nx ?_
  refine wp_seq ?_
  refine wp_seq ?_
  -- region 2
  refine wp_region_lit ?_
  refine sq_pure F (wt0 rfl) (pu_field rfl (F.ev rfl) fo24_1) rfl rfl ?_; clear F; intro φ F
  refine sq_rd F (wt0 rfl) (ld_cell rfl (F.ev rfl) one22 (M.rd (i := 0) rfl) rfl) rfl rfl ?_; clear F; intro φ F
  refine sq_pure F (wt0 rfl) (pu_len rfl (F.ev rfl) sl22 (M.av (i := 1) rfl)) rfl rfl ?_; clear F; intro φ F
  refine sq_pure F (wt0 rfl) (pu_gtr rfl (F.ev rfl) (evk)) rfl rfl ?_; clear F; intro φ F
  refine nx ?_
  cases hs1 : (decide (16 < ((E.length : Nat) : Int)))
  · rw [hs1] at F
    have hs1i := of_decide_eq_false hs1
    refine wp_cond_false (F.ev rfl) ?_
    refine wp_skip ?_
    refine nxq ?_
    refine wp_seq ?_
    -- region 4
    refine wp_region_lit ?_
    refine sq_rd F (wt0 rfl) (ld_agg rfl (F.ev rfl) agg24 (M.rd (i := 0) rfl) rfl) rfl rfl ?_; clear F; intro φ F
    refine sq_callO (Z := (fun u x' => ∃ v rs vss, u = .tuple #[v, .int .i64 (cloG n E).2] ∧ x' = .own (fp3 v rs vss (cloG n E).1) (Rd3 v rs vss (cloG n E).1))) F M (wt0 rfl) rfl en15 (evc (F.ev rfl) evn) (graph_closure_any n ev E _ (M.av (i := 1) rfl) (by first | omega | (simp; done) | (simp; omega) | (refine Nat.le_trans (minL_len _) ?_; omega) | (refine Nat.le_trans (eachL_len _ _) ?_; omega))) rfl rfl ?_; clear F M; rintro φ ω _ _ ⟨c1, rs1, vss1, rfl, rfl⟩ F M
    replace M : Mm [] w ω [.own (fp3 c1 rs1 vss1 ((cloG n E).1)) (Rd3 c1 rs1 vss1 ((cloG n E).1)), .blk g1 24 #[.int .i64 n, ev], .arg 4 ev E.length (cG E)] := M
    refine sq_pure F (wt0 rfl) (pu_move rfl (F.ev rfl)) rfl rfl ?_; clear F; intro φ F
    refine sq_pure F (wt0 rfl) (pu_extract rfl (F.ev rfl) rfl) rfl rfl ?_; clear F; intro φ F
    refine sq_pure F (wt0 rfl) (pu_extract rfl (F.ev rfl) rfl) rfl rfl ?_; clear F; intro φ F
    refine sq_pure F (wt0 rfl) (pu_assign rfl (F.ev rfl)) rfl rfl ?_; clear F; intro φ F
    refine sq_pure F (wt0 rfl) (pu_assign rfl (F.ev rfl)) rfl rfl ?_; clear F; intro φ F
    refine nx ?_
    refine wp_seq ?_
    refine wp_seq ?_
    -- region 5
    refine wp_region_lit ?_
    refine sq_pure F (wt0 rfl) (pu_move rfl (F.ev rfl)) rfl rfl ?_; clear F; intro φ F
    cases hs2 : (decide ((cloG n E).2 = 0))
    · skip
      have hs2i := of_decide_eq_false hs2
      refine sq_pure F (wt0 rfl) (pu_neqI rfl (F.ev rfl) (evk)) rfl rfl ?_; clear F; intro φ F
      rw [hs2, show (!false) = true from rfl] at F
      refine nx ?_
      refine wp_cond_true (F.ev rfl) ?_
      refine wp_seq ?_
      -- region 6
      refine wp_region_lit ?_
      refine sq_pure F (wt0 rfl) (pu_move rfl (F.ev rfl)) rfl rfl ?_; clear F; intro φ F
      refine sq_pure F (wt0 rfl) (pu_assign rfl (F.ev rfl)) rfl rfl ?_; clear F; intro φ F
      refine nx ?_
      refine wp_ret ?_
      refine nxr ?_
      refine rt_tmp F rfl rfl ?_
      exact ⟨rfl, M.bel⟩
    · skip
      have hs2i := of_decide_eq_true hs2
      refine sq_pure F (wt0 rfl) (pu_neqI rfl (F.ev rfl) (evk)) rfl rfl ?_; clear F; intro φ F
      rw [hs2, show (!true) = false from rfl] at F
      refine nx ?_
      refine wp_cond_false (F.ev rfl) ?_
      refine wp_skip ?_
      refine nxq ?_
      refine wp_seq ?_
      have hz : (cloG n E).2 = 0 := by have z := hs2; first | exact of_decide_eq_true z | simpa using z
      obtain ⟨⟨hn1, hn8, hE16, hfit, hord, hck⟩, hcl, hs64⟩ := (clo_cases n E).resolve_left (fun z => z.2 hz)
      rw [hcl] at M
      replace M : Mm [] w ω [.own (fp3 c1 rs1 vss1 (cloT E n.toNat n.toNat)) (Rd3 c1 rs1 vss1 (cloT E n.toNat n.toNat)), .blk g1 24 #[.int .i64 n, ev], .arg 4 ev E.length (cG E)] := M
      have hlr : rs1.length = n.toNat := (In3.lr (Rd3.inn (M.pv (i := 0) rfl))).trans (cloT_len E n.toNat n.toNat)
      have hS3 : Sm3 (cloT E n.toNat n.toNat) := by have z := clo_sm n E; rw [hcl] at z; exact z
      have hlc := cloT_len E n.toNat n.toNat
      have hF : Fits ((n.toNat : Nat) : Int) E := by rw [show ((n.toNat : Nat) : Int) = n by omega]; exact hfit
      have hrow : ∀ i, i < n.toNat → (at3 (cloT E n.toNat n.toNat) i).length = n.toNat := fun i hi => by rw [cloT_at hi, row_len]
      have hvv : ∀ i, i < n.toNat → (atW vss1 i).length = n.toNat := fun i hi => (In3.lv (Rd3.inn (M.pv (i := 0) rfl)) i (by rw [cloT_len]; exact hi)).trans (hrow i hi)
      have h64 : ∀ i j, i < n.toNat → (atR (at3 (cloT E n.toNat n.toNat) i) j).length ≤ 64 := fun i j hi => by rw [cloT_at hi]; exact hs64 i hi j
      -- region 7
      refine wp_region_lit ?_
      refine sq_pure F (wt0 rfl) (pu_move rfl (F.ev rfl)) rfl rfl ?_; clear F; intro φ F
      refine sq_pure F (wt0 rfl) (pu_field rfl (F.ev rfl) fo24_0) rfl rfl ?_; clear F; intro φ F
      refine sq_rd F (wt0 rfl) (ld_cell rfl (F.ev rfl) one3 (M.rd (i := 1) rfl) rfl) rfl rfl ?_; clear F; intro φ F
      refine sq_call F M (wt0 rfl) rfl en18 (evc (F.ev rfl) (evc (F.ev rfl) evn)) (whole_any (cloT E n.toNat n.toNat) _ _ _ _ _ (M.pv (i := 0) rfl) (by omega) (by intro q hq; rw [cloT_len] at hq; rw [cloT_at hq, row_len]; omega) (by first | exact hS3 | exact hS3a | exact hS3b)) rfl rfl ?_; clear F M; intro φ ω F M
      refine sq_pure F (wt0 rfl) (pu_assign rfl (F.ev rfl)) rfl rfl ?_; clear F; intro φ F
      refine nx ?_
      refine wp_seq ?_
      refine wp_seq ?_
      -- region 8
      refine wp_region_lit ?_
      refine sq_pure F (wt0 rfl) (pu_move rfl (F.ev rfl)) rfl rfl ?_; clear F; intro φ F
      refine sq_pure F (wt0 rfl) (pu_not rfl (F.ev rfl)) rfl rfl ?_; clear F; intro φ F
      rw [show (!true) = false from rfl] at F
      refine nx ?_
      refine wp_cond_false (F.ev rfl) ?_
      refine wp_skip ?_
      refine nxq ?_
      refine wp_seq ?_
      refine wp_seq ?_
      -- region 10
      refine wp_region_lit ?_
      refine sq_pure F (wt0 rfl) (pu_assign rfl (evk)) rfl rfl ?_; clear F; intro φ F
      refine nx ?_
      refine wp_block ?_
      refine lp (σ := Int) (fun i φ' w' => Fr φ' 94 [(1, .pointer (some ⟨g1, 0, none⟩)), (3, .bool true), (4, c1), (7, .int .i64 i)] ∧ Mm [] w w' [.own (fp3 c1 rs1 vss1 (cloT E n.toNat n.toNat)) (Rd3 c1 rs1 vss1 (cloT E n.toNat n.toNat)), .blk g1 24 #[.int .i64 n, ev], .arg 4 ev E.length (cG E)] ∧ (0 ≤ i) ∧ (i ≤ n)) (fun i => (n - i).toNat) (0) ⟨((((F.nil.cons (F.get (k := 7) rfl)).cons (F.get (k := 4) rfl)).cons (F.get (k := 3) rfl)).cons (F.get (k := 1) rfl)), (M.sub (.cons_cons _ (.cons_cons _ (.cons_cons _ (.slnil))))), Int.le_refl _, by omega⟩ ?_
      clear F M
      rintro i φ ω ⟨F, M, hp3_0, hp3_1⟩
      refine wp_seq ?_
      refine wp_seq ?_
      -- region 11
      refine wp_region_lit ?_
      refine sq_pure F (wt0 rfl) (pu_move rfl (F.ev rfl)) rfl rfl ?_; clear F; intro φ F
      refine sq_pure F (wt0 rfl) (pu_field rfl (F.ev rfl) fo24_0) rfl rfl ?_; clear F; intro φ F
      refine sq_rd F (wt0 rfl) (ld_cell rfl (F.ev rfl) one3 (M.rd (i := 1) rfl) rfl) rfl rfl ?_; clear F; intro φ F
      refine sq_pure F (wt0 rfl) (pu_lss rfl (F.ev rfl) (F.ev rfl)) rfl rfl ?_; clear F; intro φ F
      refine nx ?_
      cases hs4 : (decide (i < n))
      · rw [hs4] at F
        have hs4i := of_decide_eq_false hs4
        refine wp_cond_false (F.ev rfl) ?_
        refine wp_exit ?_
        refine nxe ?_
        refine nxe ?_
        refine nxm ?_
        refine nxq ?_
        refine wp_seq ?_
        -- region 26
        refine wp_region_lit ?_
        refine sq_pure F (wt0 rfl) (pu_move rfl (F.ev rfl)) rfl rfl ?_; clear F; intro φ F
        refine sq_pure F (wt0 rfl) (pu_assign rfl (F.ev rfl)) rfl rfl ?_; clear F; intro φ F
        refine nx ?_
        refine wp_ret ?_
        refine rt_tmp F rfl rfl ?_
        exact ⟨rfl, M.bel⟩
      · rw [hs4] at F
        have hs4i := of_decide_eq_true hs4
        refine wp_cond_true (F.ev rfl) ?_
        refine wp_skip ?_
        refine nxq ?_
        refine wp_seq ?_
        refine wp_block ?_
        refine wp_seq ?_
        -- region 13
        refine wp_region_lit ?_
        refine sq_pure F (wt0 rfl) (pu_assign rfl (evk)) rfl rfl ?_; clear F; intro φ F
        refine nx ?_
        refine wp_block ?_
        refine lp (σ := Int) (fun k φ' w' => Fr φ' 94 [(1, .pointer (some ⟨g1, 0, none⟩)), (3, .bool true), (4, c1), (7, .int .i64 i), (8, .int .i64 k)] ∧ Mm [] w w' [.own (fp3 c1 rs1 vss1 (cloT E n.toNat n.toNat)) (Rd3 c1 rs1 vss1 (cloT E n.toNat n.toNat)), .blk g1 24 #[.int .i64 n, ev], .arg 4 ev E.length (cG E)] ∧ (0 ≤ k) ∧ (k ≤ n)) (fun k => (n - k).toNat) (0) ⟨(((((F.nil.cons (F.get (k := 8) rfl)).cons (F.get (k := 7) rfl)).cons (F.get (k := 4) rfl)).cons (F.get (k := 3) rfl)).cons (F.get (k := 1) rfl)), (M.sub (.cons_cons _ (.cons_cons _ (.cons_cons _ (.slnil))))), Int.le_refl _, by omega⟩ ?_
        clear F M
        rintro k φ ω ⟨F, M, hp5_0, hp5_1⟩
        refine wp_seq ?_
        refine wp_seq ?_
        -- region 14
        refine wp_region_lit ?_
        refine sq_pure F (wt0 rfl) (pu_move rfl (F.ev rfl)) rfl rfl ?_; clear F; intro φ F
        refine sq_pure F (wt0 rfl) (pu_field rfl (F.ev rfl) fo24_0) rfl rfl ?_; clear F; intro φ F
        refine sq_rd F (wt0 rfl) (ld_cell rfl (F.ev rfl) one3 (M.rd (i := 1) rfl) rfl) rfl rfl ?_; clear F; intro φ F
        refine sq_pure F (wt0 rfl) (pu_lss rfl (F.ev rfl) (F.ev rfl)) rfl rfl ?_; clear F; intro φ F
        refine nx ?_
        cases hs6 : (decide (k < n))
        · rw [hs6] at F
          have hs6i := of_decide_eq_false hs6
          refine wp_cond_false (F.ev rfl) ?_
          refine wp_exit ?_
          refine nxe ?_
          refine nxe ?_
          refine nxm ?_
          refine nxb ?_
          refine nxq ?_
          -- region 12
          refine wp_region_lit ?_
          refine sq_pure F (wt0 rfl) (pu_move rfl (F.ev rfl)) rfl rfl ?_; clear F; intro φ F
          refine sq_pure F (wt0 rfl) (pu_add rfl (F.ev rfl) (evk) (by omega) (by omega)) rfl rfl ?_; clear F; intro φ F
          refine sq_pure F (wt0 rfl) (pu_assign rfl (F.ev rfl)) rfl rfl ?_; clear F; intro φ F
          refine wpList_nil ?_
          exact ⟨i + 1, by omega, ((((F.nil.cons (F.get (k := 7) rfl)).cons (F.get (k := 4) rfl)).cons (F.get (k := 3) rfl)).cons (F.get (k := 1) rfl)), (M.sub (.cons_cons _ (.cons_cons _ (.cons_cons _ (.slnil))))), by omega, by omega⟩
        · rw [hs6] at F
          have hs6i := of_decide_eq_true hs6
          refine wp_cond_true (F.ev rfl) ?_
          refine wp_skip ?_
          refine nxq ?_
          refine wp_seq ?_
          refine wp_block ?_
          refine wp_seq ?_
          -- region 16
          refine wp_region_lit ?_
          refine sq_pure F (wt0 rfl) (pu_assign rfl (evk)) rfl rfl ?_; clear F; intro φ F
          refine nx ?_
          refine wp_block ?_
          refine lp (σ := Int) (fun j φ' w' => Fr φ' 94 [(1, .pointer (some ⟨g1, 0, none⟩)), (3, .bool true), (4, c1), (7, .int .i64 i), (8, .int .i64 k), (9, .int .i64 j)] ∧ Mm [] w w' [.own (fp3 c1 rs1 vss1 (cloT E n.toNat n.toNat)) (Rd3 c1 rs1 vss1 (cloT E n.toNat n.toNat)), .blk g1 24 #[.int .i64 n, ev], .arg 4 ev E.length (cG E)] ∧ (0 ≤ j) ∧ (j ≤ n)) (fun j => (n - j).toNat) (0) ⟨((((((F.nil.cons (F.get (k := 9) rfl)).cons (F.get (k := 8) rfl)).cons (F.get (k := 7) rfl)).cons (F.get (k := 4) rfl)).cons (F.get (k := 3) rfl)).cons (F.get (k := 1) rfl)), (M.sub (.cons_cons _ (.cons_cons _ (.cons_cons _ (.slnil))))), Int.le_refl _, by omega⟩ ?_
          clear F M
          rintro j φ ω ⟨F, M, hp7_0, hp7_1⟩
          refine wp_seq ?_
          refine wp_seq ?_
          -- region 17
          refine wp_region_lit ?_
          refine sq_pure F (wt0 rfl) (pu_move rfl (F.ev rfl)) rfl rfl ?_; clear F; intro φ F
          refine sq_pure F (wt0 rfl) (pu_field rfl (F.ev rfl) fo24_0) rfl rfl ?_; clear F; intro φ F
          refine sq_rd F (wt0 rfl) (ld_cell rfl (F.ev rfl) one3 (M.rd (i := 1) rfl) rfl) rfl rfl ?_; clear F; intro φ F
          refine sq_pure F (wt0 rfl) (pu_lss rfl (F.ev rfl) (F.ev rfl)) rfl rfl ?_; clear F; intro φ F
          refine nx ?_
          cases hs8 : (decide (j < n))
          · rw [hs8] at F
            have hs8i := of_decide_eq_false hs8
            refine wp_cond_false (F.ev rfl) ?_
            refine wp_exit ?_
            refine nxe ?_
            refine nxe ?_
            refine nxm ?_
            refine nxb ?_
            refine nxq ?_
            -- region 15
            refine wp_region_lit ?_
            refine sq_pure F (wt0 rfl) (pu_move rfl (F.ev rfl)) rfl rfl ?_; clear F; intro φ F
            refine sq_pure F (wt0 rfl) (pu_add rfl (F.ev rfl) (evk) (by omega) (by omega)) rfl rfl ?_; clear F; intro φ F
            refine sq_pure F (wt0 rfl) (pu_assign rfl (F.ev rfl)) rfl rfl ?_; clear F; intro φ F
            refine wpList_nil ?_
            exact ⟨k + 1, by omega, (((((F.nil.cons (F.get (k := 8) rfl)).cons (F.get (k := 7) rfl)).cons (F.get (k := 4) rfl)).cons (F.get (k := 3) rfl)).cons (F.get (k := 1) rfl)), (M.sub (.cons_cons _ (.cons_cons _ (.cons_cons _ (.slnil))))), by omega, by omega⟩
          · rw [hs8] at F
            have hs8i := of_decide_eq_true hs8
            refine wp_cond_true (F.ev rfl) ?_
            refine wp_skip ?_
            refine nxq ?_
            refine wp_seq ?_
            refine wp_block ?_
            refine wp_seq ?_
            have hx1 := hvv i.toNat (by omega)
            have hy1 := hrow i.toNat (by omega)
            have hw1 := h64 i.toNat k.toNat (by omega)
            have hx2 := hvv k.toNat (by omega)
            have hy2 := hrow k.toNat (by omega)
            have hw2 := h64 k.toNat j.toNat (by omega)
            -- region 19
            refine rg_J F 19 (fun Dd dv w' => (Dd 0 = true → dv 0 = c1) ∧ (Dd 1 = true → dv 1 = .int .i64 i) ∧ (Dd 2 = true → dv 2 = .pointer (some ⟨gof c1, oof c1 + (i.toNat * 1), none⟩)) ∧ (Dd 3 = true → dv 3 = (atV rs1 i.toNat)) ∧ (Dd 4 = true → dv 4 = .int .i64 k) ∧ (Dd 5 = true → dv 5 = .pointer (some ⟨gof (atV rs1 i.toNat), oof (atV rs1 i.toNat) + (k.toNat * 1), none⟩)) ∧ (Dd 6 = true → dv 6 = (atV (atW vss1 i.toNat) k.toNat)) ∧ (Dd 7 = true → dv 7 = c1) ∧ (Dd 8 = true → dv 8 = .int .i64 k) ∧ (Dd 9 = true → dv 9 = .pointer (some ⟨gof c1, oof c1 + (k.toNat * 1), none⟩)) ∧ (Dd 10 = true → dv 10 = (atV rs1 k.toNat)) ∧ (Dd 11 = true → dv 11 = .int .i64 j) ∧ (Dd 12 = true → dv 12 = .pointer (some ⟨gof (atV rs1 k.toNat), oof (atV rs1 k.toNat) + (j.toNat * 1), none⟩)) ∧ (Dd 13 = true → dv 13 = (atV (atW vss1 k.toNat) j.toNat)) ∧ (Dd 14 = true → dv 14 = .tuple #[(tfst (dv 14)), .bool (eachB (atR (at3 (cloT E n.toNat n.toNat) i.toNat) k.toNat) (atR (at3 (cloT E n.toNat n.toNat) k.toNat) j.toNat))]) ∧ (Dd 15 = true → dv 15 = .tuple #[(tfst (dv 14)), .bool (eachB (atR (at3 (cloT E n.toNat n.toNat) i.toNat) k.toNat) (atR (at3 (cloT E n.toNat n.toNat) k.toNat) j.toNat))]) ∧ (Dd 16 = true → dv 16 = (tfst (dv 14))) ∧ (Dd 17 = true → dv 17 = .bool (eachB (atR (at3 (cloT E n.toNat n.toNat) i.toNat) k.toNat) (atR (at3 (cloT E n.toNat n.toNat) k.toNat) j.toNat))) ∧ (Dd 18 = true → dv 18 = (tfst (dv 14))) ∧ Mm [] w w' [(if Dd 14 = true then .row 38 2 (tfst (dv 14)) ((eachL (atR (at3 (cloT E n.toNat n.toNat) i.toNat) k.toNat) (atR (at3 (cloT E n.toNat n.toNat) k.toNat) j.toNat)).length) (cS (eachL (atR (at3 (cloT E n.toNat n.toNat) i.toNat) k.toNat) (atR (at3 (cloT E n.toNat n.toNat) k.toNat) j.toNat))) else .arg 1 (.slice none 0 0) 0 []), .own (fp3 c1 rs1 vss1 (cloT E n.toNat n.toNat)) (Rd3 c1 rs1 vss1 (cloT E n.toNat n.toNat)), .blk g1 24 #[.int .i64 n, ev], .arg 4 ev E.length (cG E)]) (fun dv => ⟨(fun h => by cases h), (fun h => by cases h), (fun h => by cases h), (fun h => by cases h), (fun h => by cases h), (fun h => by cases h), (fun h => by cases h), (fun h => by cases h), (fun h => by cases h), (fun h => by cases h), (fun h => by cases h), (fun h => by cases h), (fun h => by cases h), (fun h => by cases h), (fun h => by cases h), (fun h => by cases h), (fun h => by cases h), (fun h => by cases h), (fun h => by cases h), by simpa using (M.drew).dead⟩) mixedOK (by kernel_rfl) rfl ⟨?_, ?_, ?_, ?_, ?_, ?_, ?_, ?_, ?_, ?_, ?_, ?_, ?_, ?_, ?_, ?_, ?_, ?_, ?_, trivial⟩ ?_
            · intro Dd φ1 dv ω1 ⟨h0, h1, h2, h3, h4, h5, h6, h7, h8, h9, h10, h11, h12, h13, h14, h15, h16, h17, h18, M⟩ hDi hdep hcl F1 hdone hold
              have F := (F1.cons (F.was hold (s := 4) rfl rfl))
              try simp only [hDi, Bool.false_eq_true, if_false, if_true, ite_true, ite_false] at M
              exact ⟨wt0 rfl, ow_run ((pu_move rfl (F.ev rfl)) ω1) ⟨_, rfl, newP, keepP rfl h1, keepP rfl h2, keepP rfl h3, keepP rfl h4, keepP rfl h5, keepP rfl h6, keepP rfl h7, keepP rfl h8, keepP rfl h9, keepP rfl h10, keepP rfl h11, keepP rfl h12, keepP rfl h13, keepP rfl h14, keepP rfl h15, keepP rfl h16, keepP rfl h17, keepP rfl h18, by simpa [setB, setV, hDi, Bool.false_eq_true, if_false, if_true, ite_true, ite_false] using M⟩⟩
            · intro Dd φ1 dv ω1 ⟨h0, h1, h2, h3, h4, h5, h6, h7, h8, h9, h10, h11, h12, h13, h14, h15, h16, h17, h18, M⟩ hDi hdep hcl F1 hdone hold
              have F := (F1.cons (F.was hold (s := 7) rfl rfl))
              try simp only [hDi, Bool.false_eq_true, if_false, if_true, ite_true, ite_false] at M
              exact ⟨wt0 rfl, ow_run ((pu_move rfl (F.ev rfl)) ω1) ⟨_, rfl, keepP rfl h0, newP, keepP rfl h2, keepP rfl h3, keepP rfl h4, keepP rfl h5, keepP rfl h6, keepP rfl h7, keepP rfl h8, keepP rfl h9, keepP rfl h10, keepP rfl h11, keepP rfl h12, keepP rfl h13, keepP rfl h14, keepP rfl h15, keepP rfl h16, keepP rfl h17, keepP rfl h18, by simpa [setB, setV, hDi, Bool.false_eq_true, if_false, if_true, ite_true, ite_false] using M⟩⟩
            · intro Dd φ1 dv ω1 ⟨h0, h1, h2, h3, h4, h5, h6, h7, h8, h9, h10, h11, h12, h13, h14, h15, h16, h17, h18, M⟩ hDi hdep hcl F1 hdone hold
              have d0 : Dd 0 = true := hdep 0 (by kernel_rfl)
              have d1 : Dd 1 = true := hdep 1 (by kernel_rfl)
              have F := ((F1.cons (k := 53) (hdone 0 _ _ d0 rfl rfl |>.trans (h0 d0))).cons (k := 54) (hdone 1 _ _ d1 rfl rfl |>.trans (h1 d1)))
              try simp only [d0, d1, hDi, Bool.false_eq_true, if_false, if_true, ite_true, ite_false] at M
              exact ⟨wt0 rfl, ow_run ((pu_ix rfl (F.ev rfl) (F.ev rfl) sl32 (Rd3.top (M.pv (i := 1) rfl)) (by omega) (by omega)) ω1) ⟨_, rfl, keepP rfl h0, keepP rfl h1, newP, keepP rfl h3, keepP rfl h4, keepP rfl h5, keepP rfl h6, keepP rfl h7, keepP rfl h8, keepP rfl h9, keepP rfl h10, keepP rfl h11, keepP rfl h12, keepP rfl h13, keepP rfl h14, keepP rfl h15, keepP rfl h16, keepP rfl h17, keepP rfl h18, by simpa [setB, setV, d0, d1, hDi, Bool.false_eq_true, if_false, if_true, ite_true, ite_false] using M⟩⟩
            · intro Dd φ1 dv ω1 ⟨h0, h1, h2, h3, h4, h5, h6, h7, h8, h9, h10, h11, h12, h13, h14, h15, h16, h17, h18, M⟩ hDi hdep hcl F1 hdone hold
              have d2 : Dd 2 = true := hdep 2 (by kernel_rfl)
              have d0 : Dd 0 = true := hcl _ 0 d2 (by kernel_rfl)
              have d1 : Dd 1 = true := hcl _ 1 d2 (by kernel_rfl)
              have F := (F1.cons (k := 55) (hdone 2 _ _ d2 rfl rfl |>.trans (h2 d2)))
              try simp only [d0, d1, d2, hDi, Bool.false_eq_true, if_false, if_true, ite_true, ite_false] at M
              exact ⟨wt0 rfl, ow_run ((ld_el1 rfl (F.ev rfl) one45 (fun _ e => e ▸ (Rd3.top (M.pv (i := 1) rfl))) (by omega) (cV_at (L := rs1) (by first | omega | (simp; done) | (simp; omega)))) ω1 rfl) ⟨_, rfl, keepP rfl h0, keepP rfl h1, keepP rfl h2, newP, keepP rfl h4, keepP rfl h5, keepP rfl h6, keepP rfl h7, keepP rfl h8, keepP rfl h9, keepP rfl h10, keepP rfl h11, keepP rfl h12, keepP rfl h13, keepP rfl h14, keepP rfl h15, keepP rfl h16, keepP rfl h17, keepP rfl h18, by simpa [setB, setV, d0, d1, d2, hDi, Bool.false_eq_true, if_false, if_true, ite_true, ite_false] using M⟩⟩
            · intro Dd φ1 dv ω1 ⟨h0, h1, h2, h3, h4, h5, h6, h7, h8, h9, h10, h11, h12, h13, h14, h15, h16, h17, h18, M⟩ hDi hdep hcl F1 hdone hold
              have F := (F1.cons (F.was hold (s := 8) rfl rfl))
              try simp only [hDi, Bool.false_eq_true, if_false, if_true, ite_true, ite_false] at M
              exact ⟨wt0 rfl, ow_run ((pu_move rfl (F.ev rfl)) ω1) ⟨_, rfl, keepP rfl h0, keepP rfl h1, keepP rfl h2, keepP rfl h3, newP, keepP rfl h5, keepP rfl h6, keepP rfl h7, keepP rfl h8, keepP rfl h9, keepP rfl h10, keepP rfl h11, keepP rfl h12, keepP rfl h13, keepP rfl h14, keepP rfl h15, keepP rfl h16, keepP rfl h17, keepP rfl h18, by simpa [setB, setV, hDi, Bool.false_eq_true, if_false, if_true, ite_true, ite_false] using M⟩⟩
            · intro Dd φ1 dv ω1 ⟨h0, h1, h2, h3, h4, h5, h6, h7, h8, h9, h10, h11, h12, h13, h14, h15, h16, h17, h18, M⟩ hDi hdep hcl F1 hdone hold
              have d3 : Dd 3 = true := hdep 3 (by kernel_rfl)
              have d4 : Dd 4 = true := hdep 4 (by kernel_rfl)
              have d2 : Dd 2 = true := hcl _ 2 d3 (by kernel_rfl)
              have d0 : Dd 0 = true := hcl _ 0 d2 (by kernel_rfl)
              have d1 : Dd 1 = true := hcl _ 1 d2 (by kernel_rfl)
              have F := ((F1.cons (k := 56) (hdone 3 _ _ d3 rfl rfl |>.trans (h3 d3))).cons (k := 57) (hdone 4 _ _ d4 rfl rfl |>.trans (h4 d4)))
              try simp only [d0, d1, d2, d3, d4, hDi, Bool.false_eq_true, if_false, if_true, ite_true, ite_false] at M
              exact ⟨wt0 rfl, ow_run ((pu_ix rfl (F.ev rfl) (F.ev rfl) sl45 (In3.row (Rd3.inn (M.pv (i := 1) rfl)) i.toNat (by first | omega | assumption)) (by omega) (by omega)) ω1) ⟨_, rfl, keepP rfl h0, keepP rfl h1, keepP rfl h2, keepP rfl h3, keepP rfl h4, newP, keepP rfl h6, keepP rfl h7, keepP rfl h8, keepP rfl h9, keepP rfl h10, keepP rfl h11, keepP rfl h12, keepP rfl h13, keepP rfl h14, keepP rfl h15, keepP rfl h16, keepP rfl h17, keepP rfl h18, by simpa [setB, setV, d0, d1, d2, d3, d4, hDi, Bool.false_eq_true, if_false, if_true, ite_true, ite_false] using M⟩⟩
            · intro Dd φ1 dv ω1 ⟨h0, h1, h2, h3, h4, h5, h6, h7, h8, h9, h10, h11, h12, h13, h14, h15, h16, h17, h18, M⟩ hDi hdep hcl F1 hdone hold
              have d5 : Dd 5 = true := hdep 5 (by kernel_rfl)
              have d3 : Dd 3 = true := hcl _ 3 d5 (by kernel_rfl)
              have d4 : Dd 4 = true := hcl _ 4 d5 (by kernel_rfl)
              have d2 : Dd 2 = true := hcl _ 2 d3 (by kernel_rfl)
              have d0 : Dd 0 = true := hcl _ 0 d2 (by kernel_rfl)
              have d1 : Dd 1 = true := hcl _ 1 d2 (by kernel_rfl)
              have F := (F1.cons (k := 58) (hdone 5 _ _ d5 rfl rfl |>.trans (h5 d5)))
              try simp only [d0, d1, d2, d3, d4, d5, hDi, Bool.false_eq_true, if_false, if_true, ite_true, ite_false] at M
              exact ⟨wt0 rfl, ow_run ((ld_el1 rfl (F.ev rfl) one44 (fun _ e => e ▸ (In3.row (Rd3.inn (M.pv (i := 1) rfl)) i.toNat (by first | omega | assumption))) (by omega) (cV_at (L := (atW vss1 i.toNat)) (by first | omega | (simp; done) | (simp; omega)))) ω1 rfl) ⟨_, rfl, keepP rfl h0, keepP rfl h1, keepP rfl h2, keepP rfl h3, keepP rfl h4, keepP rfl h5, newP, keepP rfl h7, keepP rfl h8, keepP rfl h9, keepP rfl h10, keepP rfl h11, keepP rfl h12, keepP rfl h13, keepP rfl h14, keepP rfl h15, keepP rfl h16, keepP rfl h17, keepP rfl h18, by simpa [setB, setV, d0, d1, d2, d3, d4, d5, hDi, Bool.false_eq_true, if_false, if_true, ite_true, ite_false] using M⟩⟩
            · intro Dd φ1 dv ω1 ⟨h0, h1, h2, h3, h4, h5, h6, h7, h8, h9, h10, h11, h12, h13, h14, h15, h16, h17, h18, M⟩ hDi hdep hcl F1 hdone hold
              have F := (F1.cons (F.was hold (s := 4) rfl rfl))
              try simp only [hDi, Bool.false_eq_true, if_false, if_true, ite_true, ite_false] at M
              exact ⟨wt0 rfl, ow_run ((pu_move rfl (F.ev rfl)) ω1) ⟨_, rfl, keepP rfl h0, keepP rfl h1, keepP rfl h2, keepP rfl h3, keepP rfl h4, keepP rfl h5, keepP rfl h6, newP, keepP rfl h8, keepP rfl h9, keepP rfl h10, keepP rfl h11, keepP rfl h12, keepP rfl h13, keepP rfl h14, keepP rfl h15, keepP rfl h16, keepP rfl h17, keepP rfl h18, by simpa [setB, setV, hDi, Bool.false_eq_true, if_false, if_true, ite_true, ite_false] using M⟩⟩
            · intro Dd φ1 dv ω1 ⟨h0, h1, h2, h3, h4, h5, h6, h7, h8, h9, h10, h11, h12, h13, h14, h15, h16, h17, h18, M⟩ hDi hdep hcl F1 hdone hold
              have F := (F1.cons (F.was hold (s := 8) rfl rfl))
              try simp only [hDi, Bool.false_eq_true, if_false, if_true, ite_true, ite_false] at M
              exact ⟨wt0 rfl, ow_run ((pu_move rfl (F.ev rfl)) ω1) ⟨_, rfl, keepP rfl h0, keepP rfl h1, keepP rfl h2, keepP rfl h3, keepP rfl h4, keepP rfl h5, keepP rfl h6, keepP rfl h7, newP, keepP rfl h9, keepP rfl h10, keepP rfl h11, keepP rfl h12, keepP rfl h13, keepP rfl h14, keepP rfl h15, keepP rfl h16, keepP rfl h17, keepP rfl h18, by simpa [setB, setV, hDi, Bool.false_eq_true, if_false, if_true, ite_true, ite_false] using M⟩⟩
            · intro Dd φ1 dv ω1 ⟨h0, h1, h2, h3, h4, h5, h6, h7, h8, h9, h10, h11, h12, h13, h14, h15, h16, h17, h18, M⟩ hDi hdep hcl F1 hdone hold
              have d7 : Dd 7 = true := hdep 7 (by kernel_rfl)
              have d8 : Dd 8 = true := hdep 8 (by kernel_rfl)
              have F := ((F1.cons (k := 60) (hdone 7 _ _ d7 rfl rfl |>.trans (h7 d7))).cons (k := 61) (hdone 8 _ _ d8 rfl rfl |>.trans (h8 d8)))
              try simp only [d7, d8, hDi, Bool.false_eq_true, if_false, if_true, ite_true, ite_false] at M
              exact ⟨wt0 rfl, ow_run ((pu_ix rfl (F.ev rfl) (F.ev rfl) sl32 (Rd3.top (M.pv (i := 1) rfl)) (by omega) (by omega)) ω1) ⟨_, rfl, keepP rfl h0, keepP rfl h1, keepP rfl h2, keepP rfl h3, keepP rfl h4, keepP rfl h5, keepP rfl h6, keepP rfl h7, keepP rfl h8, newP, keepP rfl h10, keepP rfl h11, keepP rfl h12, keepP rfl h13, keepP rfl h14, keepP rfl h15, keepP rfl h16, keepP rfl h17, keepP rfl h18, by simpa [setB, setV, d7, d8, hDi, Bool.false_eq_true, if_false, if_true, ite_true, ite_false] using M⟩⟩
            · intro Dd φ1 dv ω1 ⟨h0, h1, h2, h3, h4, h5, h6, h7, h8, h9, h10, h11, h12, h13, h14, h15, h16, h17, h18, M⟩ hDi hdep hcl F1 hdone hold
              have d9 : Dd 9 = true := hdep 9 (by kernel_rfl)
              have d7 : Dd 7 = true := hcl _ 7 d9 (by kernel_rfl)
              have d8 : Dd 8 = true := hcl _ 8 d9 (by kernel_rfl)
              have F := (F1.cons (k := 62) (hdone 9 _ _ d9 rfl rfl |>.trans (h9 d9)))
              try simp only [d7, d8, d9, hDi, Bool.false_eq_true, if_false, if_true, ite_true, ite_false] at M
              exact ⟨wt0 rfl, ow_run ((ld_el1 rfl (F.ev rfl) one45 (fun _ e => e ▸ (Rd3.top (M.pv (i := 1) rfl))) (by omega) (cV_at (L := rs1) (by first | omega | (simp; done) | (simp; omega)))) ω1 rfl) ⟨_, rfl, keepP rfl h0, keepP rfl h1, keepP rfl h2, keepP rfl h3, keepP rfl h4, keepP rfl h5, keepP rfl h6, keepP rfl h7, keepP rfl h8, keepP rfl h9, newP, keepP rfl h11, keepP rfl h12, keepP rfl h13, keepP rfl h14, keepP rfl h15, keepP rfl h16, keepP rfl h17, keepP rfl h18, by simpa [setB, setV, d7, d8, d9, hDi, Bool.false_eq_true, if_false, if_true, ite_true, ite_false] using M⟩⟩
            · intro Dd φ1 dv ω1 ⟨h0, h1, h2, h3, h4, h5, h6, h7, h8, h9, h10, h11, h12, h13, h14, h15, h16, h17, h18, M⟩ hDi hdep hcl F1 hdone hold
              have F := (F1.cons (F.was hold (s := 9) rfl rfl))
              try simp only [hDi, Bool.false_eq_true, if_false, if_true, ite_true, ite_false] at M
              exact ⟨wt0 rfl, ow_run ((pu_move rfl (F.ev rfl)) ω1) ⟨_, rfl, keepP rfl h0, keepP rfl h1, keepP rfl h2, keepP rfl h3, keepP rfl h4, keepP rfl h5, keepP rfl h6, keepP rfl h7, keepP rfl h8, keepP rfl h9, keepP rfl h10, newP, keepP rfl h12, keepP rfl h13, keepP rfl h14, keepP rfl h15, keepP rfl h16, keepP rfl h17, keepP rfl h18, by simpa [setB, setV, hDi, Bool.false_eq_true, if_false, if_true, ite_true, ite_false] using M⟩⟩
            · intro Dd φ1 dv ω1 ⟨h0, h1, h2, h3, h4, h5, h6, h7, h8, h9, h10, h11, h12, h13, h14, h15, h16, h17, h18, M⟩ hDi hdep hcl F1 hdone hold
              have d10 : Dd 10 = true := hdep 10 (by kernel_rfl)
              have d11 : Dd 11 = true := hdep 11 (by kernel_rfl)
              have d9 : Dd 9 = true := hcl _ 9 d10 (by kernel_rfl)
              have d7 : Dd 7 = true := hcl _ 7 d9 (by kernel_rfl)
              have d8 : Dd 8 = true := hcl _ 8 d9 (by kernel_rfl)
              have F := ((F1.cons (k := 63) (hdone 10 _ _ d10 rfl rfl |>.trans (h10 d10))).cons (k := 64) (hdone 11 _ _ d11 rfl rfl |>.trans (h11 d11)))
              try simp only [d7, d8, d9, d10, d11, hDi, Bool.false_eq_true, if_false, if_true, ite_true, ite_false] at M
              exact ⟨wt0 rfl, ow_run ((pu_ix rfl (F.ev rfl) (F.ev rfl) sl45 (In3.row (Rd3.inn (M.pv (i := 1) rfl)) k.toNat (by first | omega | assumption)) (by omega) (by omega)) ω1) ⟨_, rfl, keepP rfl h0, keepP rfl h1, keepP rfl h2, keepP rfl h3, keepP rfl h4, keepP rfl h5, keepP rfl h6, keepP rfl h7, keepP rfl h8, keepP rfl h9, keepP rfl h10, keepP rfl h11, newP, keepP rfl h13, keepP rfl h14, keepP rfl h15, keepP rfl h16, keepP rfl h17, keepP rfl h18, by simpa [setB, setV, d7, d8, d9, d10, d11, hDi, Bool.false_eq_true, if_false, if_true, ite_true, ite_false] using M⟩⟩
            · intro Dd φ1 dv ω1 ⟨h0, h1, h2, h3, h4, h5, h6, h7, h8, h9, h10, h11, h12, h13, h14, h15, h16, h17, h18, M⟩ hDi hdep hcl F1 hdone hold
              have d12 : Dd 12 = true := hdep 12 (by kernel_rfl)
              have d10 : Dd 10 = true := hcl _ 10 d12 (by kernel_rfl)
              have d11 : Dd 11 = true := hcl _ 11 d12 (by kernel_rfl)
              have d9 : Dd 9 = true := hcl _ 9 d10 (by kernel_rfl)
              have d7 : Dd 7 = true := hcl _ 7 d9 (by kernel_rfl)
              have d8 : Dd 8 = true := hcl _ 8 d9 (by kernel_rfl)
              have F := (F1.cons (k := 65) (hdone 12 _ _ d12 rfl rfl |>.trans (h12 d12)))
              try simp only [d7, d8, d9, d10, d11, d12, hDi, Bool.false_eq_true, if_false, if_true, ite_true, ite_false] at M
              exact ⟨wt0 rfl, ow_run ((ld_el1 rfl (F.ev rfl) one44 (fun _ e => e ▸ (In3.row (Rd3.inn (M.pv (i := 1) rfl)) k.toNat (by first | omega | assumption))) (by omega) (cV_at (L := (atW vss1 k.toNat)) (by first | omega | (simp; done) | (simp; omega)))) ω1 rfl) ⟨_, rfl, keepP rfl h0, keepP rfl h1, keepP rfl h2, keepP rfl h3, keepP rfl h4, keepP rfl h5, keepP rfl h6, keepP rfl h7, keepP rfl h8, keepP rfl h9, keepP rfl h10, keepP rfl h11, keepP rfl h12, newP, keepP rfl h14, keepP rfl h15, keepP rfl h16, keepP rfl h17, keepP rfl h18, by simpa [setB, setV, d7, d8, d9, d10, d11, d12, hDi, Bool.false_eq_true, if_false, if_true, ite_true, ite_false] using M⟩⟩
            · intro Dd φ1 dv ω1 ⟨h0, h1, h2, h3, h4, h5, h6, h7, h8, h9, h10, h11, h12, h13, h14, h15, h16, h17, h18, M⟩ hDi hdep hcl F1 hdone hold
              have d6 : Dd 6 = true := hdep 6 (by kernel_rfl)
              have d13 : Dd 13 = true := hdep 13 (by kernel_rfl)
              have d5 : Dd 5 = true := hcl _ 5 d6 (by kernel_rfl)
              have d12 : Dd 12 = true := hcl _ 12 d13 (by kernel_rfl)
              have d3 : Dd 3 = true := hcl _ 3 d5 (by kernel_rfl)
              have d4 : Dd 4 = true := hcl _ 4 d5 (by kernel_rfl)
              have d10 : Dd 10 = true := hcl _ 10 d12 (by kernel_rfl)
              have d11 : Dd 11 = true := hcl _ 11 d12 (by kernel_rfl)
              have d2 : Dd 2 = true := hcl _ 2 d3 (by kernel_rfl)
              have d9 : Dd 9 = true := hcl _ 9 d10 (by kernel_rfl)
              have d0 : Dd 0 = true := hcl _ 0 d2 (by kernel_rfl)
              have d1 : Dd 1 = true := hcl _ 1 d2 (by kernel_rfl)
              have d7 : Dd 7 = true := hcl _ 7 d9 (by kernel_rfl)
              have d8 : Dd 8 = true := hcl _ 8 d9 (by kernel_rfl)
              have F := ((F1.cons (k := 59) (hdone 6 _ _ d6 rfl rfl |>.trans (h6 d6))).cons (k := 66) (hdone 13 _ _ d13 rfl rfl |>.trans (h13 d13)))
              try simp only [d0, d1, d2, d3, d4, d5, d6, d7, d8, d9, d10, d11, d12, d13, hDi, Bool.false_eq_true, if_false, if_true, ite_true, ite_false] at M
              have f15 : Dd 15 = false := notYet hcl (i := 14) (by kernel_rfl) hDi
              have f16 : Dd 16 = false := notYet hcl (i := 15) (by kernel_rfl) f15
              have f17 : Dd 17 = false := notYet hcl (i := 15) (by kernel_rfl) f15
              have f18 : Dd 18 = false := notYet hcl (i := 16) (by kernel_rfl) f16
              exact ⟨wt0 rfl, ow_callZ rfl en21 (evc (F.ev rfl) (evc (F.ev rfl) evn)) (Z := fun x w2 => ∃ v, x = .tuple #[v, .bool (eachB (atR (at3 (cloT E n.toNat n.toNat) i.toNat) k.toNat) (atR (at3 (cloT E n.toNat n.toNat) k.toNat) j.toNat))] ∧ Below ω1.heap.size ω1 w2 ∧ w2.ownsRow ω1.heap.size 38 2 v ((eachL (atR (at3 (cloT E n.toNat n.toNat) i.toNat) k.toNat) (atR (at3 (cloT E n.toNat n.toNat) k.toNat) j.toNat)).length) (cS (eachL (atR (at3 (cloT E n.toNat n.toNat) i.toNat) k.toNat) (atR (at3 (cloT E n.toNat n.toNat) k.toNat) j.toNat)))) (Calls.mono (peach_any (atR (at3 (cloT E n.toNat n.toNat) i.toNat) k.toNat) (atR (at3 (cloT E n.toNat n.toNat) k.toNat) j.toNat) _ _ _ (In3.one (Rd3.inn (M.pv (i := 1) rfl)) i.toNat k.toNat (by first | omega | assumption) (by first | omega | assumption)) (In3.one (Rd3.inn (M.pv (i := 1) rfl)) k.toNat j.toNat (by first | omega | assumption) (by first | omega | assumption)) (by first | omega | (simp; done) | (simp; omega) | (refine Nat.le_trans (minL_len _) ?_; omega) | (refine Nat.le_trans (eachL_len _ _) ?_; omega)) (by first | omega | (simp; done) | (simp; omega) | (refine Nat.le_trans (minL_len _) ?_; omega) | (refine Nat.le_trans (eachL_len _ _) ?_; omega))) (fun e w2 ⟨v, h1, h2, h3⟩ => ⟨_, h1, v, rfl, h2, h3⟩)) (fun x w2 ⟨v, hx2, hb2, ho2⟩ => by subst hx2; have M2 := M.freshRow (i := 0) rfl hb2 ho2; exact ⟨_, rfl, keepP rfl h0, keepP rfl h1, keepP rfl h2, keepP rfl h3, keepP rfl h4, keepP rfl h5, keepP rfl h6, keepP rfl h7, keepP rfl h8, keepP rfl h9, keepP rfl h10, keepP rfl h11, keepP rfl h12, keepP rfl h13, (fun _ => by simp [setV, tfst]), (fun h_ => absurd h_ (by simp [setB, f15])), (fun h_ => absurd h_ (by simp [setB, f16])), (fun h_ => absurd h_ (by simp [setB, f17])), (fun h_ => absurd h_ (by simp [setB, f18])), by simpa [setB, setV, tfst, d0, d1, d2, d3, d4, d5, d6, d7, d8, d9, d10, d11, d12, d13, hDi, Bool.false_eq_true, if_false, if_true, ite_true, ite_false] using M2⟩)⟩
            · intro Dd φ1 dv ω1 ⟨h0, h1, h2, h3, h4, h5, h6, h7, h8, h9, h10, h11, h12, h13, h14, h15, h16, h17, h18, M⟩ hDi hdep hcl F1 hdone hold
              have d14 : Dd 14 = true := hdep 14 (by kernel_rfl)
              have d6 : Dd 6 = true := hcl _ 6 d14 (by kernel_rfl)
              have d13 : Dd 13 = true := hcl _ 13 d14 (by kernel_rfl)
              have d5 : Dd 5 = true := hcl _ 5 d6 (by kernel_rfl)
              have d12 : Dd 12 = true := hcl _ 12 d13 (by kernel_rfl)
              have d3 : Dd 3 = true := hcl _ 3 d5 (by kernel_rfl)
              have d4 : Dd 4 = true := hcl _ 4 d5 (by kernel_rfl)
              have d10 : Dd 10 = true := hcl _ 10 d12 (by kernel_rfl)
              have d11 : Dd 11 = true := hcl _ 11 d12 (by kernel_rfl)
              have d2 : Dd 2 = true := hcl _ 2 d3 (by kernel_rfl)
              have d9 : Dd 9 = true := hcl _ 9 d10 (by kernel_rfl)
              have d0 : Dd 0 = true := hcl _ 0 d2 (by kernel_rfl)
              have d1 : Dd 1 = true := hcl _ 1 d2 (by kernel_rfl)
              have d7 : Dd 7 = true := hcl _ 7 d9 (by kernel_rfl)
              have d8 : Dd 8 = true := hcl _ 8 d9 (by kernel_rfl)
              have F := (F1.cons (k := 67) (hdone 14 _ _ d14 rfl rfl |>.trans (h14 d14)))
              try simp only [d0, d1, d2, d3, d4, d5, d6, d7, d8, d9, d10, d11, d12, d13, d14, hDi, Bool.false_eq_true, if_false, if_true, ite_true, ite_false] at M
              exact ⟨wt0 rfl, ow_run ((pu_move rfl (F.ev rfl)) ω1) ⟨_, rfl, keepP rfl h0, keepP rfl h1, keepP rfl h2, keepP rfl h3, keepP rfl h4, keepP rfl h5, keepP rfl h6, keepP rfl h7, keepP rfl h8, keepP rfl h9, keepP rfl h10, keepP rfl h11, keepP rfl h12, keepP rfl h13, keepP rfl h14, newP, keepP rfl h16, keepP rfl h17, keepP rfl h18, by simpa [setB, setV, d0, d1, d2, d3, d4, d5, d6, d7, d8, d9, d10, d11, d12, d13, d14, hDi, Bool.false_eq_true, if_false, if_true, ite_true, ite_false] using M⟩⟩
            · intro Dd φ1 dv ω1 ⟨h0, h1, h2, h3, h4, h5, h6, h7, h8, h9, h10, h11, h12, h13, h14, h15, h16, h17, h18, M⟩ hDi hdep hcl F1 hdone hold
              have d15 : Dd 15 = true := hdep 15 (by kernel_rfl)
              have d14 : Dd 14 = true := hcl _ 14 d15 (by kernel_rfl)
              have d6 : Dd 6 = true := hcl _ 6 d14 (by kernel_rfl)
              have d13 : Dd 13 = true := hcl _ 13 d14 (by kernel_rfl)
              have d5 : Dd 5 = true := hcl _ 5 d6 (by kernel_rfl)
              have d12 : Dd 12 = true := hcl _ 12 d13 (by kernel_rfl)
              have d3 : Dd 3 = true := hcl _ 3 d5 (by kernel_rfl)
              have d4 : Dd 4 = true := hcl _ 4 d5 (by kernel_rfl)
              have d10 : Dd 10 = true := hcl _ 10 d12 (by kernel_rfl)
              have d11 : Dd 11 = true := hcl _ 11 d12 (by kernel_rfl)
              have d2 : Dd 2 = true := hcl _ 2 d3 (by kernel_rfl)
              have d9 : Dd 9 = true := hcl _ 9 d10 (by kernel_rfl)
              have d0 : Dd 0 = true := hcl _ 0 d2 (by kernel_rfl)
              have d1 : Dd 1 = true := hcl _ 1 d2 (by kernel_rfl)
              have d7 : Dd 7 = true := hcl _ 7 d9 (by kernel_rfl)
              have d8 : Dd 8 = true := hcl _ 8 d9 (by kernel_rfl)
              have F := (F1.cons (k := 52) (hdone 15 _ _ d15 rfl rfl |>.trans (h15 d15)))
              try simp only [d0, d1, d2, d3, d4, d5, d6, d7, d8, d9, d10, d11, d12, d13, d14, d15, hDi, Bool.false_eq_true, if_false, if_true, ite_true, ite_false] at M
              exact ⟨wt0 rfl, ow_run ((pu_extract rfl (F.ev rfl) rfl) ω1) ⟨_, rfl, keepP rfl h0, keepP rfl h1, keepP rfl h2, keepP rfl h3, keepP rfl h4, keepP rfl h5, keepP rfl h6, keepP rfl h7, keepP rfl h8, keepP rfl h9, keepP rfl h10, keepP rfl h11, keepP rfl h12, keepP rfl h13, keepP rfl h14, keepP rfl h15, newP, keepP rfl h17, keepP rfl h18, by simpa [setB, setV, d0, d1, d2, d3, d4, d5, d6, d7, d8, d9, d10, d11, d12, d13, d14, d15, hDi, Bool.false_eq_true, if_false, if_true, ite_true, ite_false] using M⟩⟩
            · intro Dd φ1 dv ω1 ⟨h0, h1, h2, h3, h4, h5, h6, h7, h8, h9, h10, h11, h12, h13, h14, h15, h16, h17, h18, M⟩ hDi hdep hcl F1 hdone hold
              have d15 : Dd 15 = true := hdep 15 (by kernel_rfl)
              have d14 : Dd 14 = true := hcl _ 14 d15 (by kernel_rfl)
              have d6 : Dd 6 = true := hcl _ 6 d14 (by kernel_rfl)
              have d13 : Dd 13 = true := hcl _ 13 d14 (by kernel_rfl)
              have d5 : Dd 5 = true := hcl _ 5 d6 (by kernel_rfl)
              have d12 : Dd 12 = true := hcl _ 12 d13 (by kernel_rfl)
              have d3 : Dd 3 = true := hcl _ 3 d5 (by kernel_rfl)
              have d4 : Dd 4 = true := hcl _ 4 d5 (by kernel_rfl)
              have d10 : Dd 10 = true := hcl _ 10 d12 (by kernel_rfl)
              have d11 : Dd 11 = true := hcl _ 11 d12 (by kernel_rfl)
              have d2 : Dd 2 = true := hcl _ 2 d3 (by kernel_rfl)
              have d9 : Dd 9 = true := hcl _ 9 d10 (by kernel_rfl)
              have d0 : Dd 0 = true := hcl _ 0 d2 (by kernel_rfl)
              have d1 : Dd 1 = true := hcl _ 1 d2 (by kernel_rfl)
              have d7 : Dd 7 = true := hcl _ 7 d9 (by kernel_rfl)
              have d8 : Dd 8 = true := hcl _ 8 d9 (by kernel_rfl)
              have F := (F1.cons (k := 52) (hdone 15 _ _ d15 rfl rfl |>.trans (h15 d15)))
              try simp only [d0, d1, d2, d3, d4, d5, d6, d7, d8, d9, d10, d11, d12, d13, d14, d15, hDi, Bool.false_eq_true, if_false, if_true, ite_true, ite_false] at M
              exact ⟨wt0 rfl, ow_run ((pu_extract rfl (F.ev rfl) rfl) ω1) ⟨_, rfl, keepP rfl h0, keepP rfl h1, keepP rfl h2, keepP rfl h3, keepP rfl h4, keepP rfl h5, keepP rfl h6, keepP rfl h7, keepP rfl h8, keepP rfl h9, keepP rfl h10, keepP rfl h11, keepP rfl h12, keepP rfl h13, keepP rfl h14, keepP rfl h15, keepP rfl h16, newP, keepP rfl h18, by simpa [setB, setV, d0, d1, d2, d3, d4, d5, d6, d7, d8, d9, d10, d11, d12, d13, d14, d15, hDi, Bool.false_eq_true, if_false, if_true, ite_true, ite_false] using M⟩⟩
            · intro Dd φ1 dv ω1 ⟨h0, h1, h2, h3, h4, h5, h6, h7, h8, h9, h10, h11, h12, h13, h14, h15, h16, h17, h18, M⟩ hDi hdep hcl F1 hdone hold
              have d16 : Dd 16 = true := hdep 16 (by kernel_rfl)
              have d15 : Dd 15 = true := hcl _ 15 d16 (by kernel_rfl)
              have d14 : Dd 14 = true := hcl _ 14 d15 (by kernel_rfl)
              have d6 : Dd 6 = true := hcl _ 6 d14 (by kernel_rfl)
              have d13 : Dd 13 = true := hcl _ 13 d14 (by kernel_rfl)
              have d5 : Dd 5 = true := hcl _ 5 d6 (by kernel_rfl)
              have d12 : Dd 12 = true := hcl _ 12 d13 (by kernel_rfl)
              have d3 : Dd 3 = true := hcl _ 3 d5 (by kernel_rfl)
              have d4 : Dd 4 = true := hcl _ 4 d5 (by kernel_rfl)
              have d10 : Dd 10 = true := hcl _ 10 d12 (by kernel_rfl)
              have d11 : Dd 11 = true := hcl _ 11 d12 (by kernel_rfl)
              have d2 : Dd 2 = true := hcl _ 2 d3 (by kernel_rfl)
              have d9 : Dd 9 = true := hcl _ 9 d10 (by kernel_rfl)
              have d0 : Dd 0 = true := hcl _ 0 d2 (by kernel_rfl)
              have d1 : Dd 1 = true := hcl _ 1 d2 (by kernel_rfl)
              have d7 : Dd 7 = true := hcl _ 7 d9 (by kernel_rfl)
              have d8 : Dd 8 = true := hcl _ 8 d9 (by kernel_rfl)
              have F := (F1.cons (k := 68) (hdone 16 _ _ d16 rfl rfl |>.trans (h16 d16)))
              try simp only [d0, d1, d2, d3, d4, d5, d6, d7, d8, d9, d10, d11, d12, d13, d14, d15, d16, hDi, Bool.false_eq_true, if_false, if_true, ite_true, ite_false] at M
              exact ⟨wt0 rfl, ow_run ((pu_assign rfl (F.ev rfl)) ω1) ⟨_, rfl, keepP rfl h0, keepP rfl h1, keepP rfl h2, keepP rfl h3, keepP rfl h4, keepP rfl h5, keepP rfl h6, keepP rfl h7, keepP rfl h8, keepP rfl h9, keepP rfl h10, keepP rfl h11, keepP rfl h12, keepP rfl h13, keepP rfl h14, keepP rfl h15, keepP rfl h16, keepP rfl h17, newP, by simpa [setB, setV, d0, d1, d2, d3, d4, d5, d6, d7, d8, d9, d10, d11, d12, d13, d14, d15, d16, hDi, Bool.false_eq_true, if_false, if_true, ite_true, ite_false] using M⟩⟩
            clear M; rintro dv φ ω ⟨h0, h1, h2, h3, h4, h5, h6, h7, h8, h9, h10, h11, h12, h13, h14, h15, h16, h17, h18, M⟩ F
            simp only [hvL, List.take_succ_cons, List.take_zero] at F
            rw [h18 (by simp)] at F
            rw [h17 (by simp)] at F
            rw [h16 (by simp)] at F
            rw [h15 (by simp)] at F
            have hq14 := h14 (by simp)
            have F14 := F.get (k := 67) rfl
            replace F := F.cons (F14.trans hq14)
            rw [h13 (by simp)] at F
            rw [h12 (by simp)] at F
            rw [h11 (by simp)] at F
            rw [h10 (by simp)] at F
            rw [h9 (by simp)] at F
            rw [h8 (by simp)] at F
            rw [h7 (by simp)] at F
            rw [h6 (by simp)] at F
            rw [h5 (by simp)] at F
            rw [h4 (by simp)] at F
            rw [h3 (by simp)] at F
            rw [h2 (by simp)] at F
            rw [h1 (by simp)] at F
            rw [h0 (by simp)] at F
            replace M : Mm [] w ω [.row 38 2 (tfst (dv 14)) ((eachL (atR (at3 (cloT E n.toNat n.toNat) i.toNat) k.toNat) (atR (at3 (cloT E n.toNat n.toNat) k.toNat) j.toNat)).length) (cS (eachL (atR (at3 (cloT E n.toNat n.toNat) i.toNat) k.toNat) (atR (at3 (cloT E n.toNat n.toNat) k.toNat) j.toNat))), .own (fp3 c1 rs1 vss1 (cloT E n.toNat n.toNat)) (Rd3 c1 rs1 vss1 (cloT E n.toNat n.toNat)), .blk g1 24 #[.int .i64 n, ev], .arg 4 ev E.length (cG E)] := by simpa using M
            clear h0 h1 h2 h3 h4 h5 h6 h7 h8 h9 h10 h11 h12 h13 h14 h15 h16 h17 h18
            generalize tfst (dv 14) = v2 at F M
            refine sq_pure F (wt0 rfl) (pu_assign rfl (F.ev rfl)) rfl rfl ?_; clear F; intro φ F
            refine nx ?_
            refine wp_seq ?_
            -- region 20
            refine wp_region_lit ?_
            refine sq_pure F (wt0 rfl) (pu_assign rfl (evk)) rfl rfl ?_; clear F; intro φ F
            refine nx ?_
            refine wp_block ?_
            refine lp (σ := Int) (fun m φ' w' => Fr φ' 94 [(1, .pointer (some ⟨g1, 0, none⟩)), (3, .bool true), (4, c1), (7, .int .i64 i), (8, .int .i64 k), (9, .int .i64 j), (10, v2), (11, .bool (eachB (atR (at3 (cloT E n.toNat n.toNat) i.toNat) k.toNat) (atR (at3 (cloT E n.toNat n.toNat) k.toNat) j.toNat))), (12, .int .i64 m)] ∧ Mm [] w w' [.row 38 2 v2 ((eachL (atR (at3 (cloT E n.toNat n.toNat) i.toNat) k.toNat) (atR (at3 (cloT E n.toNat n.toNat) k.toNat) j.toNat)).length) (cS (eachL (atR (at3 (cloT E n.toNat n.toNat) i.toNat) k.toNat) (atR (at3 (cloT E n.toNat n.toNat) k.toNat) j.toNat))), .own (fp3 c1 rs1 vss1 (cloT E n.toNat n.toNat)) (Rd3 c1 rs1 vss1 (cloT E n.toNat n.toNat)), .blk g1 24 #[.int .i64 n, ev], .arg 4 ev E.length (cG E)] ∧ (0 ≤ m) ∧ (m ≤ (((eachL (atR (at3 (cloT E n.toNat n.toNat) i.toNat) k.toNat) (atR (at3 (cloT E n.toNat n.toNat) k.toNat) j.toNat)).length : Nat) : Int)) ∧ ((eachL (atR (at3 (cloT E n.toNat n.toNat) i.toNat) k.toNat) (atR (at3 (cloT E n.toNat n.toNat) k.toNat) j.toNat)).length ≤ 64)) (fun m => ((((eachL (atR (at3 (cloT E n.toNat n.toNat) i.toNat) k.toNat) (atR (at3 (cloT E n.toNat n.toNat) k.toNat) j.toNat)).length : Nat) : Int) - m).toNat) (0) ⟨(((((((((F.nil.cons (F.get (k := 12) rfl)).cons (F.get (k := 11) rfl)).cons (F.get (k := 10) rfl)).cons (F.get (k := 9) rfl)).cons (F.get (k := 8) rfl)).cons (F.get (k := 7) rfl)).cons (F.get (k := 4) rfl)).cons (F.get (k := 3) rfl)).cons (F.get (k := 1) rfl)), M, Int.le_refl _, by omega, eachL_len _ _⟩ ?_
            clear F M
            rintro m φ ω ⟨F, M, hp9_0, hp9_1, hp9_2⟩
            refine wp_seq ?_
            refine wp_seq ?_
            -- region 21
            refine wp_region_lit ?_
            refine sq_pure F (wt0 rfl) (pu_move rfl (F.ev rfl)) rfl rfl ?_; clear F; intro φ F
            refine sq_pure F (wt0 rfl) (pu_move rfl (F.ev rfl)) rfl rfl ?_; clear F; intro φ F
            refine sq_pure F (wt0 rfl) (pu_len rfl (F.ev rfl) sl44 (M.rv (i := 0) rfl)) rfl rfl ?_; clear F; intro φ F
            refine sq_pure F (wt0 rfl) (pu_lss rfl (F.ev rfl) (F.ev rfl)) rfl rfl ?_; clear F; intro φ F
            refine sq_pure F (wt0 rfl) (pu_move rfl (F.ev rfl)) rfl rfl ?_; clear F; intro φ F
            cases hs10 : (decide (m < (((eachL (atR (at3 (cloT E n.toNat n.toNat) i.toNat) k.toNat) (atR (at3 (cloT E n.toNat n.toNat) k.toNat) j.toNat)).length : Nat) : Int)))
            · rw [hs10] at F
              have hs10i := of_decide_eq_false hs10
              refine sq_skip F (wtn F rfl rfl rfl rfl rfl) rfl rfl ?_; clear F; intro φ F
              refine sq_pure F (wt0 rfl) (pu_pickf rfl (F.ev rfl) (evk)) rfl rfl ?_; clear F; intro φ F
              refine nx ?_
              refine wp_cond_false (F.ev rfl) ?_
              refine wp_exit ?_
              refine nxe ?_
              refine nxe ?_
              refine nxm ?_
              refine nxb ?_
              refine nxq ?_
              -- region 18
              refine wp_region_lit ?_
              refine sq_pure F (wt0 rfl) (pu_move rfl (F.ev rfl)) rfl rfl ?_; clear F; intro φ F
              refine sq_pure F (wt0 rfl) (pu_add rfl (F.ev rfl) (evk) (by omega) (by omega)) rfl rfl ?_; clear F; intro φ F
              refine sq_pure F (wt0 rfl) (pu_assign rfl (F.ev rfl)) rfl rfl ?_; clear F; intro φ F
              refine wpList_nil ?_
              exact ⟨j + 1, by omega, ((((((F.nil.cons (F.get (k := 9) rfl)).cons (F.get (k := 8) rfl)).cons (F.get (k := 7) rfl)).cons (F.get (k := 4) rfl)).cons (F.get (k := 3) rfl)).cons (F.get (k := 1) rfl)), (M.sub (.cons _ (.cons_cons _ (.cons_cons _ (.cons_cons _ (.slnil)))))), by omega, by omega⟩
            · rw [hs10] at F
              have hs10i := of_decide_eq_true hs10
              refine sq_pure F (wt1 F rfl rfl rfl rfl rfl) (pu_move rfl (F.ev rfl)) rfl rfl ?_; clear F; intro φ F
              refine sq_pure F (wt0 rfl) (pu_pickt rfl (F.ev rfl) (F.ev rfl)) rfl rfl ?_; clear F; intro φ F
              refine nx ?_
              cases hs11 : (eachB (atR (at3 (cloT E n.toNat n.toNat) i.toNat) k.toNat) (atR (at3 (cloT E n.toNat n.toNat) k.toNat) j.toNat))
              · rw [hs11] at F
                refine wp_cond_false (F.ev rfl) ?_
                refine wp_exit ?_
                refine nxe ?_
                refine nxe ?_
                refine nxm ?_
                refine nxb ?_
                refine nxq ?_
                -- region 18
                refine wp_region_lit ?_
                refine sq_pure F (wt0 rfl) (pu_move rfl (F.ev rfl)) rfl rfl ?_; clear F; intro φ F
                refine sq_pure F (wt0 rfl) (pu_add rfl (F.ev rfl) (evk) (by omega) (by omega)) rfl rfl ?_; clear F; intro φ F
                refine sq_pure F (wt0 rfl) (pu_assign rfl (F.ev rfl)) rfl rfl ?_; clear F; intro φ F
                refine wpList_nil ?_
                exact ⟨j + 1, by omega, ((((((F.nil.cons (F.get (k := 9) rfl)).cons (F.get (k := 8) rfl)).cons (F.get (k := 7) rfl)).cons (F.get (k := 4) rfl)).cons (F.get (k := 3) rfl)).cons (F.get (k := 1) rfl)), (M.sub (.cons _ (.cons_cons _ (.cons_cons _ (.cons_cons _ (.slnil)))))), by omega, by omega⟩
              · rw [hs11] at F
                refine wp_cond_true (F.ev rfl) ?_
                refine wp_skip ?_
                refine nxq ?_
                refine wp_seq ?_
                refine wp_block ?_
                refine wp_seq ?_
                have hx3 := hvv i.toNat (by omega)
                have hy3 := hrow i.toNat (by omega)
                have hw3 := h64 i.toNat j.toNat (by omega)
                have hcv : covB (atR (at3 (cloT E n.toNat n.toNat) i.toNat) j.toNat) (atS (eachL (atR (at3 (cloT E n.toNat n.toNat) i.toNat) k.toNat) (atR (at3 (cloT E n.toNat n.toNat) k.toNat) j.toNat)) m.toNat) = true := join_cov hF (by omega) (by omega) (by omega) hs11 (atS_mem (by omega))
                -- region 23
                refine rg_quiet M mixedOK (by kernel_rfl) ?_
                refine qt_pure F (wt0 rfl) (pu_move rfl (F.ev rfl)) rfl rfl ?_; clear F; intro φ F
                refine qt_pure F (wt0 rfl) (pu_move rfl (F.ev rfl)) rfl rfl ?_; clear F; intro φ F
                refine qt_pure F (wt0 rfl) (pu_ix rfl (F.ev rfl) (F.ev rfl) sl32 (Rd3.top (M.pv (i := 1) rfl)) (by omega) (by omega)) rfl rfl ?_; clear F; intro φ F
                refine qt_rd F (wt0 rfl) (ld_el1 rfl (F.ev rfl) one45 (fun _ h => RdV.below (Rd3.top (M.pv (i := 1) rfl)) h) (by omega) (cV_at (L := rs1) (by first | omega | (simp; done) | (simp; omega)))) rfl rfl ?_; clear F; intro φ F
                refine qt_pure F (wt0 rfl) (pu_move rfl (F.ev rfl)) rfl rfl ?_; clear F; intro φ F
                refine qt_pure F (wt0 rfl) (pu_ix rfl (F.ev rfl) (F.ev rfl) sl45 (In3.row (Rd3.inn (M.pv (i := 1) rfl)) i.toNat (by first | omega | assumption)) (by omega) (by omega)) rfl rfl ?_; clear F; intro φ F
                refine qt_rd F (wt0 rfl) (ld_el1 rfl (F.ev rfl) one44 (fun _ h => RdV.below (In3.row (Rd3.inn (M.pv (i := 1) rfl)) i.toNat (by first | omega | assumption)) h) (by omega) (cV_at (L := (atW vss1 i.toNat)) (by first | omega | (simp; done) | (simp; omega)))) rfl rfl ?_; clear F; intro φ F
                refine qt_pure F (wt0 rfl) (pu_move rfl (F.ev rfl)) rfl rfl ?_; clear F; intro φ F
                refine qt_pure F (wt0 rfl) (pu_move rfl (F.ev rfl)) rfl rfl ?_; clear F; intro φ F
                refine qt_pure F (wt0 rfl) (pu_ix rfl (F.ev rfl) (F.ev rfl) sl44 (M.rv (i := 0) rfl) (by omega) (by omega)) rfl rfl ?_; clear F; intro φ F
                refine qt_rd F (wt0 rfl) (ld_el rfl (F.ev rfl) agg38 (fun _ h => RdV.below (M.rv (i := 0) rfl) h) (by omega) (cS_at (by first | omega | (simp; done) | (simp; omega))) rfl) rfl rfl ?_; clear F; intro φ F
                refine qt_call F (wt0 rfl) rfl en20 (evc (F.ev rfl) (evc (F.ev rfl) evn)) (fun w' h => calls_below h (gcov_any (atR (at3 (cloT E n.toNat n.toNat) i.toNat) j.toNat) (atS (eachL (atR (at3 (cloT E n.toNat n.toNat) i.toNat) k.toNat) (atR (at3 (cloT E n.toNat n.toNat) k.toNat) j.toNat)) m.toNat) _ w' (RdV.below (In3.one (Rd3.inn (M.pv (i := 1) rfl)) i.toNat j.toNat (by first | omega | assumption) (by first | omega | assumption)) h) (by first | omega | (simp; done) | (simp; omega) | (refine Nat.le_trans (minL_len _) ?_; omega) | (refine Nat.le_trans (eachL_len _ _) ?_; omega)))) rfl rfl ?_; clear F; intro φ F
                rw [hcv] at F
                refine qt_pure F (wt0 rfl) (pu_assign rfl (F.ev rfl)) rfl rfl ?_; clear F; intro φ F
                refine wpQuiet_nil ?_
                clear M; intro ω M
                refine nxq ?_
                refine wp_seq ?_
                -- region 24
                refine wp_region_lit ?_
                refine sq_pure F (wt0 rfl) (pu_move rfl (F.ev rfl)) rfl rfl ?_; clear F; intro φ F
                refine sq_pure F (wt0 rfl) (pu_not rfl (F.ev rfl)) rfl rfl ?_; clear F; intro φ F
                rw [show (!true) = false from rfl] at F
                refine nx ?_
                refine wp_cond_false (F.ev rfl) ?_
                refine wp_skip ?_
                refine nxb ?_
                refine nxq ?_
                -- region 22
                refine wp_region_lit ?_
                refine sq_pure F (wt0 rfl) (pu_move rfl (F.ev rfl)) rfl rfl ?_; clear F; intro φ F
                refine sq_pure F (wt0 rfl) (pu_add rfl (F.ev rfl) (evk) (by omega) (by omega)) rfl rfl ?_; clear F; intro φ F
                refine sq_pure F (wt0 rfl) (pu_assign rfl (F.ev rfl)) rfl rfl ?_; clear F; intro φ F
                refine wpList_nil ?_
                exact ⟨m + 1, by omega, (((((((((F.nil.cons (F.get (k := 12) rfl)).cons (F.get (k := 11) rfl)).cons (F.get (k := 10) rfl)).cons (F.get (k := 9) rfl)).cons (F.get (k := 8) rfl)).cons (F.get (k := 7) rfl)).cons (F.get (k := 4) rfl)).cons (F.get (k := 3) rfl)).cons (F.get (k := 1) rfl)), M, by omega, by omega, hp9_2⟩
  · rw [hs1] at F
    have hs1i := of_decide_eq_true hs1
    refine wp_cond_true (F.ev rfl) ?_
    refine wp_seq ?_
    -- region 3
    refine wp_region_lit ?_
    refine sq_pure F (wt0 rfl) (pu_move rfl (F.ev rfl)) rfl rfl ?_; clear F; intro φ F
    refine sq_pure F (wt0 rfl) (pu_assign rfl (F.ev rfl)) rfl rfl ?_; clear F; intro φ F
    refine nx ?_
    refine wp_ret ?_
    refine nxr ?_
    refine rt_tmp F rfl rfl ?_
    exact ⟨rfl, M.bel⟩

end Go.Proofs.Ytbleefegobmboaa
