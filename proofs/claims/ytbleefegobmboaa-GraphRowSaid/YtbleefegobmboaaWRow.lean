/- Laws of layer 6. Made by walks/graphlaws.py. -/
import Derived.Test.YtbleefegobmboaaGa
import Derived.Test.YtbleefegobmboaaGr
import Derived.Test.YtbleefegobmboaaRk
namespace Go.Proofs.Ytbleefegobmboaa
open Go.RowKit
set_option maxRecDepth 100000
set_option linter.unusedSimpArgs false
set_option linter.unusedVariables false

set_option maxHeartbeats 4000000 in
theorem graphRow_walk (n : Int) (ev : Value) (E : List Ed) (w : World) (hr : RdG w ev E) :
    Calls Try.prog 8 #[.agg #[.int .i64 n, ev]] w fun e w' => e = .returned (.bool true) ∧ Below w.heap.size w w' := by
  refine enterF Try.func8 rfl 101 Try.ntmps8 [.agg #[.int .i64 n, ev]] rfl [(0, .agg #[.int .i64 n, ev])] rfl ?_
  intro φ F
  have M := Mm.start [] w
  replace M := M.addArg (hr) (fun h_ => by first | (simp; done) | assumption | exact d3 h_ | (simp_all; done))
  refine wp_seq ?_
  -- region 0
  refine wp_region_lit ?_
  refine sq_box F M (wt0 rfl) rfl (F.ev rfl) (cs := #[.int .i64 n, ev]) rfl rfl rfl ?_; clear F M; intro φ ω g1 F M
  refine sq_pure F (wt0 rfl) (pu_assign rfl (evk)) rfl rfl ?_; clear F; intro φ F
  refine nx ?_
  refine wp_seq ?_
  -- region 1
  refine wp_region_lit ?_
  refine sq_call F M (wt0 rfl) rfl en10 evn (awake_any _) rfl rfl ?_; clear F M; intro φ ω F M
  refine sq_pure F (wt0 rfl) (pu_assign rfl (F.ev rfl)) rfl rfl ?_; clear F; intro φ F
  refine nx ?_
  refine wp_seq ?_
  refine wp_seq ?_
  -- region 2
  refine wp_region_lit ?_
  refine sq_pure F (wt0 rfl) (pu_field rfl (F.ev rfl) fo24_1) rfl rfl ?_; clear F; intro φ F
  refine sq_rd F (wt0 rfl) (ld_cell rfl (F.ev rfl) one22 (M.rd (i := 0) rfl) rfl) rfl rfl ?_; clear F; intro φ F
  refine sq_pure F (wt0 rfl) (pu_len rfl (F.ev rfl) sl22 (M.av (i := 1) rfl)) rfl rfl ?_; clear F; intro φ F
  refine sq_pure F (wt0 rfl) (pu_gtr rfl (F.ev rfl) (evk)) rfl rfl ?_; clear F; intro φ F
  refine nx ?_
  cases hs1 : (decide (16 < ((E.length : Nat) : Int)))
  · rw [hs1] at F
    have hs1i := of_decide_eq_false hs1
    refine wp_cond_false (F.ev rfl) ?_
    refine wp_skip ?_
    refine nxq ?_
    refine wp_seq ?_
    -- region 4
    refine wp_region_lit ?_
    refine sq_rd F (wt0 rfl) (ld_agg rfl (F.ev rfl) agg24 (M.rd (i := 0) rfl) rfl) rfl rfl ?_; clear F; intro φ F
    refine sq_call F M (wt0 rfl) rfl en12 (evc (F.ev rfl) evn) (gcheck_any n ev E _ (M.av (i := 1) rfl) (by first | omega | (simp; done) | (simp; omega) | (refine Nat.le_trans (minL_len _) ?_; omega) | (refine Nat.le_trans (eachL_len _ _) ?_; omega))) rfl rfl ?_; clear F M; intro φ ω F M
    refine sq_pure F (wt0 rfl) (pu_move rfl (F.ev rfl)) rfl rfl ?_; clear F; intro φ F
    refine sq_pure F (wt0 rfl) (pu_extract rfl (F.ev rfl) rfl) rfl rfl ?_; clear F; intro φ F
    refine sq_pure F (wt0 rfl) (pu_extract rfl (F.ev rfl) rfl) rfl rfl ?_; clear F; intro φ F
    refine sq_pure F (wt0 rfl) (pu_assign rfl (F.ev rfl)) rfl rfl ?_; clear F; intro φ F
    refine sq_pure F (wt0 rfl) (pu_assign rfl (F.ev rfl)) rfl rfl ?_; clear F; intro φ F
    refine nx ?_
    refine wp_seq ?_
    -- region 5
    refine wp_region_lit ?_
    refine sq_rd F (wt0 rfl) (ld_agg rfl (F.ev rfl) agg24 (M.rd (i := 0) rfl) rfl) rfl rfl ?_; clear F; intro φ F
    refine sq_callN F M (wt0 rfl) rfl en13 (evc (F.ev rfl) evn) (graph_order_any n ev E _ (M.av (i := 1) rfl) (by first | omega | (simp; done) | (simp; omega) | (refine Nat.le_trans (minL_len _) ?_; omega) | (refine Nat.le_trans (eachL_len _ _) ?_; omega))) rfl rfl ?_; clear F M; intro φ ω v1 F M
    refine sq_pure F (wt0 rfl) (pu_assign rfl (F.ev rfl)) rfl rfl ?_; clear F; intro φ F
    refine nx ?_
    refine wp_seq ?_
    refine wp_seq ?_
    -- region 6
    refine wp_region_lit ?_
    refine sq_pure F (wt0 rfl) (pu_move rfl (F.ev rfl)) rfl rfl ?_; clear F; intro φ F
    cases hs2 : (decide ((checkG n E).1 = 0))
    · skip
      have hs2i := of_decide_eq_false hs2
      refine sq_pure F (wt0 rfl) (pu_neqI rfl (F.ev rfl) (evk)) rfl rfl ?_; clear F; intro φ F
      rw [hs2, show (!false) = true from rfl] at F
      refine nx ?_
      refine wp_cond_true (F.ev rfl) ?_
      refine wp_seq ?_
      rw [ord_no hs2i] at M
      replace M := M.nilRow 3 1
      replace M : Mm [] w ω [.row 3 1 (.slice none 0 0) (([] : List Int).length) (cI ([] : List Int)), .row 3 1 v1 (([] : List Int).length) (cI ([] : List Int)), .blk g1 24 #[.int .i64 n, ev], .arg 4 ev E.length (cG E)] := M
      have hz : ([] : List Int).length = 0 := rfl
      -- region 7
      refine wp_region_lit ?_
      refine sq_pure F (wt0 rfl) (pu_move rfl (F.ev rfl)) rfl rfl ?_; clear F; intro φ F
      refine sq_pure F (wt0 rfl) (pu_move rfl (F.ev rfl)) rfl rfl ?_; clear F; intro φ F
      refine sq_pure F (wt1 F rfl rfl rfl rfl rfl) (pu_move rfl (F.ev rfl)) rfl rfl ?_; clear F; intro φ F
      refine sq_pure F (wt1 F rfl rfl rfl rfl rfl) (pu_len rfl (F.ev rfl) sl29 (M.rv (i := 1) rfl)) rfl rfl ?_; clear F; intro φ F
      refine sq_pure F (wt1 F rfl rfl rfl rfl rfl) (pu_eqlI rfl (F.ev rfl) (evk)) rfl rfl ?_; clear F; intro φ F
      refine sq_pure F (wt0 rfl) (pu_pickt rfl (F.ev rfl) (F.ev rfl)) rfl rfl ?_; clear F; intro φ F
      refine sq_pure F (wt0 rfl) (pu_assign rfl (F.ev rfl)) rfl rfl ?_; clear F; intro φ F
      refine nx ?_
      cases hs3 : (decide (((([] : List Int).length : Nat) : Int) = 0))
      · rw [hs3] at F
        have hs3i := of_decide_eq_false hs3
        refine wp_ret ?_
        refine nxr ?_
        refine rt_tmp F rfl rfl ?_
        exfalso; clear F M; first | omega | (simp_all; done) | (simp_all; omega)
      · rw [hs3] at F
        have hs3i := of_decide_eq_true hs3
        refine wp_ret ?_
        refine nxr ?_
        refine rt_tmp F rfl rfl ?_
        exact ⟨rfl, M.bel⟩
    · skip
      have hs2i := of_decide_eq_true hs2
      refine sq_pure F (wt0 rfl) (pu_neqI rfl (F.ev rfl) (evk)) rfl rfl ?_; clear F; intro φ F
      rw [hs2, show (!true) = false from rfl] at F
      refine nx ?_
      refine wp_cond_false (F.ev rfl) ?_
      refine wp_skip ?_
      refine nxq ?_
      refine wp_seq ?_
      have hok : (checkG n E).1 = 0 := by have z := hs2; first | exact of_decide_eq_true z | omega | simpa using z
      obtain ⟨hn1, hn8, hE16, hfit, hord, hck⟩ := check_ok hok
      rw [ord_yes hok] at M
      replace M : Mm [] w ω [.row 3 1 v1 ((orderL E n.toNat).length) (cI (orderL E n.toNat)), .blk g1 24 #[.int .i64 n, ev], .arg 4 ev E.length (cG E)] := M
      have hol := order_len hok
      -- region 8
      refine wp_region_lit ?_
      refine sq_alloc F M (wt0 rfl) rfl z52 rfl rfl ?_; clear F M; intro φ ω g2 F M
      refine nx ?_
      refine wp_seq ?_
      refine wp_seq ?_
      have hF : Fits ((n.toNat : Nat) : Int) E := by rw [show ((n.toNat : Nat) : Int) = n by omega]; exact hfit
      have hnd := row_nd hF
      replace M : Mm [] w ω [.blk g2 52 (List.toArray (cI (List.replicate 8 0))), .row 3 1 v1 ((orderL E n.toNat).length) (cI (orderL E n.toNat)), .blk g1 24 #[.int .i64 n, ev], .arg 4 ev E.length (cG E)] := M
      -- region 9
      refine wp_region_lit ?_
      refine sq_pure F (wt0 rfl) (pu_move rfl (F.ev rfl)) rfl rfl ?_; clear F; intro φ F
      refine sq_pure F (wt0 rfl) (pu_len rfl (F.ev rfl) sl29 (M.rv (i := 1) rfl)) rfl rfl ?_; clear F; intro φ F
      refine sq_pure F (wt0 rfl) (pu_field rfl (F.ev rfl) fo24_0) rfl rfl ?_; clear F; intro φ F
      refine sq_rd F (wt0 rfl) (ld_cell rfl (F.ev rfl) one3 (M.rd (i := 2) rfl) rfl) rfl rfl ?_; clear F; intro φ F
      cases hs4 : (decide ((((orderL E n.toNat).length : Nat) : Int) = n))
      · skip
        have hs4i := of_decide_eq_false hs4
        refine sq_pure F (wt0 rfl) (pu_neqI rfl (F.ev rfl) (F.ev rfl)) rfl rfl ?_; clear F; intro φ F
        rw [hs4, show (!false) = true from rfl] at F
        refine nx ?_
        refine wp_cond_true (F.ev rfl) ?_
        refine wp_seq ?_
        -- region 10
        refine wp_region_lit ?_
        refine sq_pure F (wt0 rfl) (pu_assign rfl (evk)) rfl rfl ?_; clear F; intro φ F
        refine nx ?_
        refine wp_ret ?_
        refine nxr ?_
        refine rt_tmp F rfl rfl ?_
        exfalso; clear F M; first | omega | (simp_all; done) | (simp_all; omega)
      · skip
        have hs4i := of_decide_eq_true hs4
        refine sq_pure F (wt0 rfl) (pu_neqI rfl (F.ev rfl) (F.ev rfl)) rfl rfl ?_; clear F; intro φ F
        rw [hs4, show (!true) = false from rfl] at F
        refine nx ?_
        refine wp_cond_false (F.ev rfl) ?_
        refine wp_skip ?_
        refine nxq ?_
        refine wp_seq ?_
        refine wp_seq ?_
        -- region 11
        refine wp_region_lit ?_
        refine sq_pure F (wt0 rfl) (pu_assign rfl (evk)) rfl rfl ?_; clear F; intro φ F
        refine nx ?_
        refine wp_block ?_
        refine lp (σ := Int) (fun i φ' w' => Fr φ' 101 [(1, .pointer (some ⟨g1, 0, none⟩)), (3, .bool true), (6, v1), (7, .pointer (some ⟨g2, 0, none⟩)), (8, .int .i64 i)] ∧ Mm [] w w' [.blk g2 52 (List.toArray (cI (posO (orderL E n.toNat) i.toNat))), .row 3 1 v1 ((orderL E n.toNat).length) (cI (orderL E n.toNat)), .blk g1 24 #[.int .i64 n, ev], .arg 4 ev E.length (cG E)] ∧ (0 ≤ i) ∧ (i ≤ (((orderL E n.toNat).length : Nat) : Int))) (fun i => ((((orderL E n.toNat).length : Nat) : Int) - i).toNat) (0) ⟨(((((F.nil.cons (F.get (k := 8) rfl)).cons (F.get (k := 7) rfl)).cons (F.get (k := 6) rfl)).cons (F.get (k := 3) rfl)).cons (F.get (k := 1) rfl)), (by rw [← pos_zero]; exact M), Int.le_refl _, by omega⟩ ?_
        clear F M
        rintro i φ ω ⟨F, M, hp5_0, hp5_1⟩
        refine wp_seq ?_
        refine wp_seq ?_
        -- region 12
        refine wp_region_lit ?_
        refine sq_pure F (wt0 rfl) (pu_move rfl (F.ev rfl)) rfl rfl ?_; clear F; intro φ F
        refine sq_pure F (wt0 rfl) (pu_move rfl (F.ev rfl)) rfl rfl ?_; clear F; intro φ F
        refine sq_pure F (wt0 rfl) (pu_len rfl (F.ev rfl) sl29 (M.rv (i := 1) rfl)) rfl rfl ?_; clear F; intro φ F
        refine sq_pure F (wt0 rfl) (pu_lss rfl (F.ev rfl) (F.ev rfl)) rfl rfl ?_; clear F; intro φ F
        refine nx ?_
        cases hs6 : (decide (i < (((orderL E n.toNat).length : Nat) : Int)))
        · rw [hs6] at F
          have hs6i := of_decide_eq_false hs6
          refine wp_cond_false (F.ev rfl) ?_
          refine wp_exit ?_
          refine nxe ?_
          refine nxe ?_
          refine nxm ?_
          refine nxq ?_
          refine wp_seq ?_
          refine wp_seq ?_
          -- region 17
          refine wp_region_lit ?_
          refine sq_pure F (wt0 rfl) (pu_assign rfl (evk)) rfl rfl ?_; clear F; intro φ F
          refine nx ?_
          refine wp_block ?_
          refine lp (σ := Int) (fun k φ' w' => Fr φ' 101 [(1, .pointer (some ⟨g1, 0, none⟩)), (3, .bool true), (7, .pointer (some ⟨g2, 0, none⟩)), (9, .int .i64 k)] ∧ Mm [] w w' [.blk g2 52 (List.toArray (cI (posO (orderL E n.toNat) i.toNat))), .row 3 1 v1 ((orderL E n.toNat).length) (cI (orderL E n.toNat)), .blk g1 24 #[.int .i64 n, ev], .arg 4 ev E.length (cG E)] ∧ (0 ≤ k) ∧ (k ≤ ((E.length : Nat) : Int))) (fun k => (((E.length : Nat) : Int) - k).toNat) (0) ⟨((((F.nil.cons (F.get (k := 9) rfl)).cons (F.get (k := 7) rfl)).cons (F.get (k := 3) rfl)).cons (F.get (k := 1) rfl)), M, Int.le_refl _, by omega⟩ ?_
          clear F M
          rintro k φ ω ⟨F, M, hp7_0, hp7_1⟩
          refine wp_seq ?_
          refine wp_seq ?_
          -- region 18
          refine wp_region_lit ?_
          refine sq_pure F (wt0 rfl) (pu_move rfl (F.ev rfl)) rfl rfl ?_; clear F; intro φ F
          refine sq_pure F (wt0 rfl) (pu_field rfl (F.ev rfl) fo24_1) rfl rfl ?_; clear F; intro φ F
          refine sq_rd F (wt0 rfl) (ld_cell rfl (F.ev rfl) one22 (M.rd (i := 2) rfl) rfl) rfl rfl ?_; clear F; intro φ F
          refine sq_pure F (wt0 rfl) (pu_len rfl (F.ev rfl) sl22 (M.av (i := 3) rfl)) rfl rfl ?_; clear F; intro φ F
          refine sq_pure F (wt0 rfl) (pu_lss rfl (F.ev rfl) (F.ev rfl)) rfl rfl ?_; clear F; intro φ F
          refine nx ?_
          cases hs8 : (decide (k < ((E.length : Nat) : Int)))
          · rw [hs8] at F
            have hs8i := of_decide_eq_false hs8
            refine wp_cond_false (F.ev rfl) ?_
            refine wp_exit ?_
            refine nxe ?_
            refine nxe ?_
            refine nxm ?_
            refine nxq ?_
            refine wp_seq ?_
            -- region 23
            refine wp_region_lit ?_
            refine sq_pure F (wt0 rfl) (pu_move rfl (F.ev rfl)) rfl rfl ?_; clear F; intro φ F
            refine sq_pure F (wt0 rfl) (pu_assign rfl (F.ev rfl)) rfl rfl ?_; clear F; intro φ F
            refine nx ?_
            refine wp_ret ?_
            refine rt_tmp F rfl rfl ?_
            exact ⟨rfl, M.bel⟩
          · rw [hs8] at F
            have hs8i := of_decide_eq_true hs8
            refine wp_cond_true (F.ev rfl) ?_
            refine wp_skip ?_
            refine nxq ?_
            refine wp_seq ?_
            refine wp_block ?_
            refine wp_seq ?_
            -- region 20
            refine wp_region_lit ?_
            refine sq_pure F (wt0 rfl) (pu_field rfl (F.ev rfl) fo24_1) rfl rfl ?_; clear F; intro φ F
            refine sq_rd F (wt0 rfl) (ld_cell rfl (F.ev rfl) one22 (M.rd (i := 2) rfl) rfl) rfl rfl ?_; clear F; intro φ F
            refine sq_pure F (wt0 rfl) (pu_move rfl (F.ev rfl)) rfl rfl ?_; clear F; intro φ F
            refine sq_pure F (wt0 rfl) (pu_ix rfl (F.ev rfl) (F.ev rfl) sl22 (M.av (i := 3) rfl) (by omega) (by omega)) rfl rfl ?_; clear F; intro φ F
            refine sq_rd F (wt0 rfl) (ld_el rfl (F.ev rfl) agg40 (fun _ e => e ▸ (M.av (i := 3) rfl)) (by omega) (cG_at (by first | omega | (simp; done) | (simp; omega))) rfl) rfl rfl ?_; clear F; intro φ F
            refine sq_alloc F M (wt0 rfl) rfl z40 rfl rfl ?_; clear F M; intro φ ω g3 F M
            refine sq_stA F M (wt0 rfl) rfl (F.ev rfl) (F.ev rfl) (i := 0) rfl agg40 rfl rfl rfl rfl ?_; clear M; intro ω M
            refine nx ?_
            refine wp_seq ?_
            have hxm := atG_mem (L := E) (i := k.toNat) (by omega)
            have hxf := fit_t hfit hxm
            have hpl := pos_len (orderL E n.toNat) i.toNat
            have hpf := pos_in (i := i) hs6i (q := (atG E k.toNat).f) (by omega) (by omega) (order_all hF hol (by omega) (by omega))
            have hpt := pos_in (i := i) hs6i (q := (atG E k.toNat).t) (by omega) (by omega) (order_all hF hol (by omega) (by omega))
            have hrk : (atG E k.toNat).p.e = 0 → (atG E k.toNat).p.r = 0 → ((((orderL E n.toNat).idxOf (atG E k.toNat).f : Nat) : Int) < (((orderL E n.toNat).idxOf (atG E k.toNat).t : Nat) : Int)) := fun h1 h2 => by have z := rank_of_order hF hol hxm (St.eq_iff.2 ⟨h1, h2⟩); omega
            -- region 21
            refine rg_quiet M mixedOK (by kernel_rfl) ?_
            refine qt_pure F (wt0 rfl) (pu_field rfl (F.ev rfl) fo40_2) rfl rfl ?_; clear F; intro φ F
            refine qt_rd F (wt0 rfl) (ld_sub rfl (F.ev rfl) agg38 (M.rdB (i := 0) rfl) rfl rfl) rfl rfl ?_; clear F; intro φ F
            refine qt_pure F (wt0 rfl) (bu38_ rfl) rfl rfl ?_; clear F; intro φ F
            refine qt_pure F (wt0 rfl) (pu_eqlA rfl (F.ev rfl) (F.ev rfl) eqg38 (fun w => eqS38 (atG E k.toNat).p (St.mk 0 0) w)) rfl rfl ?_; clear F; intro φ F
            refine qt_pure F (wt0 rfl) (pu_move rfl (F.ev rfl)) rfl rfl ?_; clear F; intro φ F
            cases hs9 : (decide ((atG E k.toNat).p = (St.mk 0 0)))
            · rw [hs9] at F
              have hs9i := eq_f hs9
              refine qt_skip F (wtn F rfl rfl rfl rfl rfl) rfl rfl ?_; clear F; intro φ F
              refine qt_skip F (wtn F rfl rfl rfl rfl rfl) rfl rfl ?_; clear F; intro φ F
              refine qt_skip F (wtn F rfl rfl rfl rfl rfl) rfl rfl ?_; clear F; intro φ F
              refine qt_skip F (wtn F rfl rfl rfl rfl rfl) rfl rfl ?_; clear F; intro φ F
              refine qt_skip F (wtn F rfl rfl rfl rfl rfl) rfl rfl ?_; clear F; intro φ F
              refine qt_skip F (wtn F rfl rfl rfl rfl rfl) rfl rfl ?_; clear F; intro φ F
              refine qt_skip F (wtn F rfl rfl rfl rfl rfl) rfl rfl ?_; clear F; intro φ F
              refine qt_skip F (wtn F rfl rfl rfl rfl rfl) rfl rfl ?_; clear F; intro φ F
              refine qt_skip F (wtn F rfl rfl rfl rfl rfl) rfl rfl ?_; clear F; intro φ F
              refine qt_pure F (wt0 rfl) (pu_pickf rfl (F.ev rfl) (evk)) rfl rfl ?_; clear F; intro φ F
              refine wpQuiet_nil ?_
              clear M; intro ω M
              refine nxq ?_
              refine wp_cond_false (F.ev rfl) ?_
              refine wp_skip ?_
              refine nxb ?_
              refine nxq ?_
              -- region 19
              refine wp_region_lit ?_
              refine sq_pure F (wt0 rfl) (pu_move rfl (F.ev rfl)) rfl rfl ?_; clear F; intro φ F
              refine sq_pure F (wt0 rfl) (pu_add rfl (F.ev rfl) (evk) (by omega) (by omega)) rfl rfl ?_; clear F; intro φ F
              refine sq_pure F (wt0 rfl) (pu_assign rfl (F.ev rfl)) rfl rfl ?_; clear F; intro φ F
              refine wpList_nil ?_
              exact ⟨k + 1, by omega, ((((F.nil.cons (F.get (k := 9) rfl)).cons (F.get (k := 7) rfl)).cons (F.get (k := 3) rfl)).cons (F.get (k := 1) rfl)), (M.sub (.cons _ (List.Sublist.refl _))), by omega, by omega⟩
            · rw [hs9] at F
              have hs9i := eq_t hs9
              refine qt_pure F (wt1 F rfl rfl rfl rfl rfl) (pu_field rfl (F.ev rfl) fo40_0) rfl rfl ?_; clear F; intro φ F
              refine qt_rd F (wt1 F rfl rfl rfl rfl rfl) (ld_cell rfl (F.ev rfl) one3 (M.rdB (i := 0) rfl) rfl) rfl rfl ?_; clear F; intro φ F
              refine qt_pure F (wt1 F rfl rfl rfl rfl rfl) (ixv52 rfl (F.ev rfl) (F.ev rfl) (by omega) (by omega)) rfl rfl ?_; clear F; intro φ F
              refine qt_rd F (wt1 F rfl rfl rfl rfl rfl) (ld_cell rfl (F.ev rfl) one3 (M.rdB (i := 1) rfl) (aI_at (T := (posO (orderL E n.toNat) i.toNat)) (by first | omega | (simp only [List.length_set, pos_len, List.length_replicate]; omega)))) rfl rfl ?_; clear F; intro φ F
              refine qt_pure F (wt1 F rfl rfl rfl rfl rfl) (pu_field rfl (F.ev rfl) fo40_1) rfl rfl ?_; clear F; intro φ F
              refine qt_rd F (wt1 F rfl rfl rfl rfl rfl) (ld_cell rfl (F.ev rfl) one3 (M.rdB (i := 0) rfl) rfl) rfl rfl ?_; clear F; intro φ F
              refine qt_pure F (wt1 F rfl rfl rfl rfl rfl) (ixv52 rfl (F.ev rfl) (F.ev rfl) (by omega) (by omega)) rfl rfl ?_; clear F; intro φ F
              refine qt_rd F (wt1 F rfl rfl rfl rfl rfl) (ld_cell rfl (F.ev rfl) one3 (M.rdB (i := 1) rfl) (aI_at (T := (posO (orderL E n.toNat) i.toNat)) (by first | omega | (simp only [List.length_set, pos_len, List.length_replicate]; omega)))) rfl rfl ?_; clear F; intro φ F
              refine qt_pure F (wt1 F rfl rfl rfl rfl rfl) (pu_geq rfl (F.ev rfl) (F.ev rfl)) rfl rfl ?_; clear F; intro φ F
              refine qt_pure F (wt0 rfl) (pu_pickt rfl (F.ev rfl) (F.ev rfl)) rfl rfl ?_; clear F; intro φ F
              refine wpQuiet_nil ?_
              clear M; intro ω M
              refine nxq ?_
              cases hs10 : (decide (atI (posO (orderL E n.toNat) i.toNat) (((atG E k.toNat).t).toNat) ≤ atI (posO (orderL E n.toNat) i.toNat) (((atG E k.toNat).f).toNat)))
              · rw [hs10] at F
                have hs10i := of_decide_eq_false hs10
                refine wp_cond_false (F.ev rfl) ?_
                refine wp_skip ?_
                refine nxb ?_
                refine nxq ?_
                -- region 19
                refine wp_region_lit ?_
                refine sq_pure F (wt0 rfl) (pu_move rfl (F.ev rfl)) rfl rfl ?_; clear F; intro φ F
                refine sq_pure F (wt0 rfl) (pu_add rfl (F.ev rfl) (evk) (by omega) (by omega)) rfl rfl ?_; clear F; intro φ F
                refine sq_pure F (wt0 rfl) (pu_assign rfl (F.ev rfl)) rfl rfl ?_; clear F; intro φ F
                refine wpList_nil ?_
                exact ⟨k + 1, by omega, ((((F.nil.cons (F.get (k := 9) rfl)).cons (F.get (k := 7) rfl)).cons (F.get (k := 3) rfl)).cons (F.get (k := 1) rfl)), (M.sub (.cons _ (List.Sublist.refl _))), by omega, by omega⟩
              · rw [hs10] at F
                have hs10i := of_decide_eq_true hs10
                refine wp_cond_true (F.ev rfl) ?_
                refine wp_seq ?_
                -- region 22
                refine wp_region_lit ?_
                refine sq_pure F (wt0 rfl) (pu_assign rfl (evk)) rfl rfl ?_; clear F; intro φ F
                refine nx ?_
                refine wp_ret ?_
                refine nxrb ?_
                refine nxr ?_
                refine nxr ?_
                refine nxrb ?_
                refine nxr ?_
                refine rt_tmp F rfl rfl ?_
                exfalso; clear F M; first | omega | (simp_all; done) | (simp_all; omega)
        · rw [hs6] at F
          have hs6i := of_decide_eq_true hs6
          refine wp_cond_true (F.ev rfl) ?_
          refine wp_skip ?_
          refine nxq ?_
          refine wp_seq ?_
          refine wp_block ?_
          refine wp_seq ?_
          refine wp_seq ?_
          have hri := row_rng hF (by omega) (i := i.toNat) (by omega)
          have hpn := pos_new hnd (i := i) (by omega) (by omega) (by omega)
          have hpl := pos_len (orderL E n.toNat) i.toNat
          -- region 14
          refine rg_quiet M mixedOK (by kernel_rfl) ?_
          refine qt_pure F (wt0 rfl) (pu_move rfl (F.ev rfl)) rfl rfl ?_; clear F; intro φ F
          refine qt_pure F (wt0 rfl) (pu_move rfl (F.ev rfl)) rfl rfl ?_; clear F; intro φ F
          refine qt_pure F (wt0 rfl) (pu_ix rfl (F.ev rfl) (F.ev rfl) sl29 (M.rv (i := 1) rfl) (by omega) (by omega)) rfl rfl ?_; clear F; intro φ F
          refine qt_rd F (wt0 rfl) (ld_el1 rfl (F.ev rfl) one3 (fun _ h => RdV.below (M.rv (i := 1) rfl) h) (by omega) (cI_at (by first | omega | (simp; done) | (simp; omega)))) rfl rfl ?_; clear F; intro φ F
          refine qt_pure F (wt0 rfl) (pu_lss rfl (F.ev rfl) (evk)) rfl rfl ?_; clear F; intro φ F
          refine qt_pure F (wt0 rfl) (pu_move rfl (F.ev rfl)) rfl rfl ?_; clear F; intro φ F
          cases hs11 : (decide ((atI (orderL E n.toNat) i.toNat) < 0))
          · rw [hs11] at F
            have hs11i := of_decide_eq_false hs11
            refine qt_pure F (wt1 F rfl rfl rfl rfl rfl) (pu_move rfl (F.ev rfl)) rfl rfl ?_; clear F; intro φ F
            refine qt_pure F (wt1 F rfl rfl rfl rfl rfl) (pu_move rfl (F.ev rfl)) rfl rfl ?_; clear F; intro φ F
            refine qt_pure F (wt1 F rfl rfl rfl rfl rfl) (pu_ix rfl (F.ev rfl) (F.ev rfl) sl29 (M.rv (i := 1) rfl) (by omega) (by omega)) rfl rfl ?_; clear F; intro φ F
            refine qt_rd F (wt1 F rfl rfl rfl rfl rfl) (ld_el1 rfl (F.ev rfl) one3 (fun _ h => RdV.below (M.rv (i := 1) rfl) h) (by omega) (cI_at (by first | omega | (simp; done) | (simp; omega)))) rfl rfl ?_; clear F; intro φ F
            refine qt_pure F (wt1 F rfl rfl rfl rfl rfl) (pu_field rfl (F.ev rfl) fo24_0) rfl rfl ?_; clear F; intro φ F
            refine qt_rd F (wt1 F rfl rfl rfl rfl rfl) (ld_cell rfl (F.ev rfl) one3 (M.rdB (i := 2) rfl) rfl) rfl rfl ?_; clear F; intro φ F
            refine qt_pure F (wt1 F rfl rfl rfl rfl rfl) (pu_geq rfl (F.ev rfl) (F.ev rfl)) rfl rfl ?_; clear F; intro φ F
            refine qt_pure F (wt0 rfl) (pu_pickf rfl (F.ev rfl) (F.ev rfl)) rfl rfl ?_; clear F; intro φ F
            refine qt_pure F (wt0 rfl) (pu_move rfl (F.ev rfl)) rfl rfl ?_; clear F; intro φ F
            cases hs12 : (decide (n ≤ (atI (orderL E n.toNat) i.toNat)))
            · rw [hs12] at F
              have hs12i := of_decide_eq_false hs12
              refine qt_pure F (wt1 F rfl rfl rfl rfl rfl) (pu_move rfl (F.ev rfl)) rfl rfl ?_; clear F; intro φ F
              refine qt_pure F (wt1 F rfl rfl rfl rfl rfl) (pu_move rfl (F.ev rfl)) rfl rfl ?_; clear F; intro φ F
              refine qt_pure F (wt1 F rfl rfl rfl rfl rfl) (pu_ix rfl (F.ev rfl) (F.ev rfl) sl29 (M.rv (i := 1) rfl) (by omega) (by omega)) rfl rfl ?_; clear F; intro φ F
              refine qt_rd F (wt1 F rfl rfl rfl rfl rfl) (ld_el1 rfl (F.ev rfl) one3 (fun _ h => RdV.below (M.rv (i := 1) rfl) h) (by omega) (cI_at (by first | omega | (simp; done) | (simp; omega)))) rfl rfl ?_; clear F; intro φ F
              refine qt_pure F (wt1 F rfl rfl rfl rfl rfl) (ixv52 rfl (F.ev rfl) (F.ev rfl) (by omega) (by omega)) rfl rfl ?_; clear F; intro φ F
              refine qt_rd F (wt1 F rfl rfl rfl rfl rfl) (ld_cell rfl (F.ev rfl) one3 (M.rdB (i := 0) rfl) (aI_at (T := (posO (orderL E n.toNat) i.toNat)) (by first | omega | (simp only [List.length_set, pos_len, List.length_replicate]; omega)))) rfl rfl ?_; clear F; intro φ F
              refine qt_pure F (wt1 F rfl rfl rfl rfl rfl) (pu_gtr rfl (F.ev rfl) (evk)) rfl rfl ?_; clear F; intro φ F
              refine qt_pure F (wt0 rfl) (pu_pickf rfl (F.ev rfl) (F.ev rfl)) rfl rfl ?_; clear F; intro φ F
              refine wpQuiet_nil ?_
              clear M; intro ω M
              refine nxq ?_
              cases hs13 : (decide (0 < atI (posO (orderL E n.toNat) i.toNat) ((atI (orderL E n.toNat) i.toNat).toNat)))
              · rw [hs13] at F
                have hs13i := of_decide_eq_false hs13
                refine wp_cond_false (F.ev rfl) ?_
                refine wp_skip ?_
                refine nxq ?_
                -- region 16
                refine wp_region_lit ?_
                refine sq_pure F (wt0 rfl) (pu_move rfl (F.ev rfl)) rfl rfl ?_; clear F; intro φ F
                refine sq_pure F (wt0 rfl) (pu_move rfl (F.ev rfl)) rfl rfl ?_; clear F; intro φ F
                refine sq_pure F (wt0 rfl) (pu_ix rfl (F.ev rfl) (F.ev rfl) sl29 (M.rv (i := 1) rfl) (by omega) (by omega)) rfl rfl ?_; clear F; intro φ F
                refine sq_rd F (wt0 rfl) (ld_el1 rfl (F.ev rfl) one3 (fun _ e => e ▸ (M.rv (i := 1) rfl)) (by omega) (cI_at (by first | omega | (simp; done) | (simp; omega)))) rfl rfl ?_; clear F; intro φ F
                refine sq_pure F (wt0 rfl) (pu_move rfl (F.ev rfl)) rfl rfl ?_; clear F; intro φ F
                refine sq_pure F (wt0 rfl) (pu_add rfl (F.ev rfl) (evk) (by omega) (by omega)) rfl rfl ?_; clear F; intro φ F
                refine sq_pure F (wt0 rfl) (ixv52 rfl (F.ev rfl) (F.ev rfl) (by omega) (by omega)) rfl rfl ?_; clear F; intro φ F
                refine sq_stC F M (wt0 rfl) rfl (F.ev rfl) (F.ev rfl) (i := 0) rfl (by rw [aI_size]; first | omega | (simp only [List.length_set, pos_len, List.length_replicate]; omega)) si3 rfl rfl rfl ?_; clear M; intro ω M
                simp only [List.set_cons_zero, List.set_cons_succ, aI_set] at M
                replace M : Mm [] w ω [.blk g2 52 (List.toArray (cI ((posO (orderL E n.toNat) i.toNat).set ((atI (orderL E n.toNat) i.toNat).toNat) (i + 1)))), .row 3 1 v1 ((orderL E n.toNat).length) (cI (orderL E n.toNat)), .blk g1 24 #[.int .i64 n, ev], .arg 4 ev E.length (cG E)] := M
                refine wpList_nil ?_
                refine nxb ?_
                refine nxq ?_
                -- region 13
                refine wp_region_lit ?_
                refine sq_pure F (wt0 rfl) (pu_move rfl (F.ev rfl)) rfl rfl ?_; clear F; intro φ F
                refine sq_pure F (wt0 rfl) (pu_add rfl (F.ev rfl) (evk) (by omega) (by omega)) rfl rfl ?_; clear F; intro φ F
                refine sq_pure F (wt0 rfl) (pu_assign rfl (F.ev rfl)) rfl rfl ?_; clear F; intro φ F
                refine wpList_nil ?_
                exact ⟨i + 1, by omega, (((((F.nil.cons (F.get (k := 8) rfl)).cons (F.get (k := 7) rfl)).cons (F.get (k := 6) rfl)).cons (F.get (k := 3) rfl)).cons (F.get (k := 1) rfl)), (by rw [← pos_step hnd (by omega) (by omega) (by omega)]; exact M), by omega, by omega⟩
              · rw [hs13] at F
                have hs13i := of_decide_eq_true hs13
                refine wp_cond_true (F.ev rfl) ?_
                refine wp_seq ?_
                -- region 15
                refine wp_region_lit ?_
                refine sq_pure F (wt0 rfl) (pu_assign rfl (evk)) rfl rfl ?_; clear F; intro φ F
                refine nx ?_
                refine wp_ret ?_
                refine nxr ?_
                refine nxrb ?_
                refine nxr ?_
                refine nxr ?_
                refine nxrb ?_
                refine nxr ?_
                refine rt_tmp F rfl rfl ?_
                exfalso; clear F M; first | omega | (simp_all; done) | (simp_all; omega)
            · rw [hs12] at F
              have hs12i := of_decide_eq_true hs12
              refine qt_skip F (wtn F rfl rfl rfl rfl rfl) rfl rfl ?_; clear F; intro φ F
              refine qt_skip F (wtn F rfl rfl rfl rfl rfl) rfl rfl ?_; clear F; intro φ F
              refine qt_skip F (wtn F rfl rfl rfl rfl rfl) rfl rfl ?_; clear F; intro φ F
              refine qt_skip F (wtn F rfl rfl rfl rfl rfl) rfl rfl ?_; clear F; intro φ F
              refine qt_skip F (wtn F rfl rfl rfl rfl rfl) rfl rfl ?_; clear F; intro φ F
              refine qt_skip F (wtn F rfl rfl rfl rfl rfl) rfl rfl ?_; clear F; intro φ F
              refine qt_skip F (wtn F rfl rfl rfl rfl rfl) rfl rfl ?_; clear F; intro φ F
              refine qt_pure F (wt0 rfl) (pu_pickt rfl (F.ev rfl) (evk)) rfl rfl ?_; clear F; intro φ F
              refine wpQuiet_nil ?_
              clear M; intro ω M
              refine nxq ?_
              refine wp_cond_true (F.ev rfl) ?_
              refine wp_seq ?_
              -- region 15
              refine wp_region_lit ?_
              refine sq_pure F (wt0 rfl) (pu_assign rfl (evk)) rfl rfl ?_; clear F; intro φ F
              refine nx ?_
              refine wp_ret ?_
              refine nxr ?_
              refine nxrb ?_
              refine nxr ?_
              refine nxr ?_
              refine nxrb ?_
              refine nxr ?_
              refine rt_tmp F rfl rfl ?_
              exfalso; clear F M; first | omega | (simp_all; done) | (simp_all; omega)
          · rw [hs11] at F
            have hs11i := of_decide_eq_true hs11
            refine qt_skip F (wtn F rfl rfl rfl rfl rfl) rfl rfl ?_; clear F; intro φ F
            refine qt_skip F (wtn F rfl rfl rfl rfl rfl) rfl rfl ?_; clear F; intro φ F
            refine qt_skip F (wtn F rfl rfl rfl rfl rfl) rfl rfl ?_; clear F; intro φ F
            refine qt_skip F (wtn F rfl rfl rfl rfl rfl) rfl rfl ?_; clear F; intro φ F
            refine qt_skip F (wtn F rfl rfl rfl rfl rfl) rfl rfl ?_; clear F; intro φ F
            refine qt_skip F (wtn F rfl rfl rfl rfl rfl) rfl rfl ?_; clear F; intro φ F
            refine qt_skip F (wtn F rfl rfl rfl rfl rfl) rfl rfl ?_; clear F; intro φ F
            refine qt_pure F (wt0 rfl) (pu_pickt rfl (F.ev rfl) (evk)) rfl rfl ?_; clear F; intro φ F
            refine qt_pure F (wt0 rfl) (pu_move rfl (F.ev rfl)) rfl rfl ?_; clear F; intro φ F
            refine qt_skip F (wtn F rfl rfl rfl rfl rfl) rfl rfl ?_; clear F; intro φ F
            refine qt_skip F (wtn F rfl rfl rfl rfl rfl) rfl rfl ?_; clear F; intro φ F
            refine qt_skip F (wtn F rfl rfl rfl rfl rfl) rfl rfl ?_; clear F; intro φ F
            refine qt_skip F (wtn F rfl rfl rfl rfl rfl) rfl rfl ?_; clear F; intro φ F
            refine qt_skip F (wtn F rfl rfl rfl rfl rfl) rfl rfl ?_; clear F; intro φ F
            refine qt_skip F (wtn F rfl rfl rfl rfl rfl) rfl rfl ?_; clear F; intro φ F
            refine qt_skip F (wtn F rfl rfl rfl rfl rfl) rfl rfl ?_; clear F; intro φ F
            refine qt_pure F (wt0 rfl) (pu_pickt rfl (F.ev rfl) (evk)) rfl rfl ?_; clear F; intro φ F
            refine wpQuiet_nil ?_
            clear M; intro ω M
            refine nxq ?_
            refine wp_cond_true (F.ev rfl) ?_
            refine wp_seq ?_
            -- region 15
            refine wp_region_lit ?_
            refine sq_pure F (wt0 rfl) (pu_assign rfl (evk)) rfl rfl ?_; clear F; intro φ F
            refine nx ?_
            refine wp_ret ?_
            refine nxr ?_
            refine nxrb ?_
            refine nxr ?_
            refine nxr ?_
            refine nxrb ?_
            refine nxr ?_
            refine rt_tmp F rfl rfl ?_
            exfalso; clear F M; first | omega | (simp_all; done) | (simp_all; omega)
  · rw [hs1] at F
    have hs1i := of_decide_eq_true hs1
    refine wp_cond_true (F.ev rfl) ?_
    refine wp_seq ?_
    -- region 3
    refine wp_region_lit ?_
    refine sq_pure F (wt0 rfl) (pu_move rfl (F.ev rfl)) rfl rfl ?_; clear F; intro φ F
    refine sq_pure F (wt0 rfl) (pu_assign rfl (F.ev rfl)) rfl rfl ?_; clear F; intro φ F
    refine nx ?_
    refine wp_ret ?_
    refine nxr ?_
    refine rt_tmp F rfl rfl ?_
    exact ⟨rfl, M.bel⟩

end Go.Proofs.Ytbleefegobmboaa
