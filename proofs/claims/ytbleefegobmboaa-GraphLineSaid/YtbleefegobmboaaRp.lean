/- The reference of layer 5. Made by walks/ref05.py. -/
import Derived.Test.YtbleefegobmboaaPt
import Derived.Test.YtbleefegobmboaaRr
import Derived.Test.YtbleefegobmboaaMq
import Derived.Test.YtbleefegobmboaaRk
namespace Go.Proofs.Ytbleefegobmboaa
open Go.RowKit
set_option maxRecDepth 100000
set_option linter.unusedSimpArgs false
set_option linter.unusedVariables false

set_option maxHeartbeats 1000000 in
theorem pright_any (p : St) (w : World) :
    Calls Try.prog 32 #[.agg #[.int .i64 p.e, .int .i64 p.r]] w (fun e w' => e = .returned ((.bool p.rightB)) ∧ Below w.heap.size w w') := by
  refine enterF Try.func32 rfl 9 Try.ntmps32 [.agg #[.int .i64 p.e, .int .i64 p.r]] rfl [(0, .agg #[.int .i64 p.e, .int .i64 p.r])] rfl ?_
  intro φ F
  have M := Mm.start [] w
  refine wp_seq ?_
  -- region 0
  refine wp_region_lit ?_
  refine sq_box F M (wt0 rfl) rfl (F.ev rfl) (cs := #[.int .i64 p.e, .int .i64 p.r]) rfl rfl rfl ?_; clear F M; intro φ ω g1 F M
  refine sq_pure F (wt0 rfl) (pu_assign rfl (evk)) rfl rfl ?_; clear F; intro φ F
  refine nx ?_
  refine wp_seq ?_
  -- region 1
  refine wp_region_lit ?_
  refine sq_pure F (wt0 rfl) (pu_field rfl (F.ev rfl) fo38_0) rfl rfl ?_; clear F; intro φ F
  refine sq_rd F (wt0 rfl) (ld_cell rfl (F.ev rfl) one3 (M.rd (i := 0) rfl) rfl) rfl rfl ?_; clear F; intro φ F
  refine sq_pure F (wt0 rfl) (pu_field rfl (F.ev rfl) fo38_1) rfl rfl ?_; clear F; intro φ F
  refine sq_rd F (wt0 rfl) (ld_cell rfl (F.ev rfl) one3 (M.rd (i := 0) rfl) rfl) rfl rfl ?_; clear F; intro φ F
  refine sq_pure F (wt0 rfl) (bu50_0_1 rfl (F.ev rfl) (F.ev rfl)) rfl rfl ?_; clear F; intro φ F
  refine sq_call F M (wt0 rfl) rfl en42 (evc (F.ev rfl) evn) (rright_any p _) rfl rfl ?_; clear F M; intro φ ω F M
  refine sq_pure F (wt0 rfl) (pu_assign rfl (F.ev rfl)) rfl rfl ?_; clear F; intro φ F
  refine nx ?_
  refine wp_ret ?_
  refine rt_tmp F rfl rfl ?_
  exact ⟨rfl, M.bel⟩

set_option maxHeartbeats 1000000 in
theorem pthen_any (p q : St) (w : World) :
    Calls Try.prog 19 #[.agg #[.int .i64 p.e, .int .i64 p.r], .agg #[.int .i64 q.e, .int .i64 q.r]] w (fun e w' => e = .returned ((.tuple #[.agg #[.int .i64 (p.after q).e, .int .i64 (p.after q).r], .bool (p.afterB q)])) ∧ Below w.heap.size w w') := by
  refine enterF Try.func19 rfl 33 Try.ntmps19 [.agg #[.int .i64 p.e, .int .i64 p.r], .agg #[.int .i64 q.e, .int .i64 q.r]] rfl [(0, .agg #[.int .i64 p.e, .int .i64 p.r]), (1, .agg #[.int .i64 q.e, .int .i64 q.r])] rfl ?_
  intro φ F
  have M := Mm.start [] w
  refine wp_seq ?_
  -- region 0
  refine wp_region_lit ?_
  refine sq_box F M (wt0 rfl) rfl (F.ev rfl) (cs := #[.int .i64 p.e, .int .i64 p.r]) rfl rfl rfl ?_; clear F M; intro φ ω g1 F M
  refine sq_box F M (wt0 rfl) rfl (F.ev rfl) (cs := #[.int .i64 q.e, .int .i64 q.r]) rfl rfl rfl ?_; clear F M; intro φ ω g2 F M
  refine sq_alloc F M (wt0 rfl) rfl z38 rfl rfl ?_; clear F M; intro φ ω g3 F M
  refine sq_pure F (wt0 rfl) (pu_assign rfl (evk)) rfl rfl ?_; clear F; intro φ F
  refine nx ?_
  refine wp_seq ?_
  -- region 1
  refine wp_region_lit ?_
  refine sq_pure F (wt0 rfl) (pu_field rfl (F.ev rfl) fo38_0) rfl rfl ?_; clear F; intro φ F
  refine sq_rd F (wt0 rfl) (ld_cell rfl (F.ev rfl) one3 (M.rd (i := 2) rfl) rfl) rfl rfl ?_; clear F; intro φ F
  refine sq_pure F (wt0 rfl) (pu_field rfl (F.ev rfl) fo38_0) rfl rfl ?_; clear F; intro φ F
  refine sq_rd F (wt0 rfl) (ld_cell rfl (F.ev rfl) one3 (M.rd (i := 1) rfl) rfl) rfl rfl ?_; clear F; intro φ F
  refine sq_pure F (wt0 rfl) (pu_addW rfl (F.ev rfl) (F.ev rfl)) rfl rfl ?_; clear F; intro φ F
  refine sq_pure F (wt0 rfl) (pu_field rfl (F.ev rfl) fo38_1) rfl rfl ?_; clear F; intro φ F
  refine sq_rd F (wt0 rfl) (ld_cell rfl (F.ev rfl) one3 (M.rd (i := 2) rfl) rfl) rfl rfl ?_; clear F; intro φ F
  refine sq_pure F (wt0 rfl) (pu_field rfl (F.ev rfl) fo38_1) rfl rfl ?_; clear F; intro φ F
  refine sq_rd F (wt0 rfl) (ld_cell rfl (F.ev rfl) one3 (M.rd (i := 1) rfl) rfl) rfl rfl ?_; clear F; intro φ F
  refine sq_pure F (wt0 rfl) (pu_addW rfl (F.ev rfl) (F.ev rfl)) rfl rfl ?_; clear F; intro φ F
  refine sq_pure F (wt0 rfl) (bu38_0_1 rfl (F.ev rfl) (F.ev rfl)) rfl rfl ?_; clear F; intro φ F
  refine sq_alloc F M (wt0 rfl) rfl z38 rfl rfl ?_; clear F M; intro φ ω g4 F M
  refine sq_stA F M (wt0 rfl) rfl (F.ev rfl) (F.ev rfl) (i := 0) rfl agg38 rfl rfl rfl rfl ?_; clear M; intro ω M
  refine nx ?_
  refine wp_seq ?_
  refine wp_seq ?_
  -- region 2
  refine wp_region_lit ?_
  refine sq_rd F (wt0 rfl) (ld_agg rfl (F.ev rfl) agg38 (M.rd (i := 3) rfl) rfl) rfl rfl ?_; clear F; intro φ F
  refine sq_call F M (wt0 rfl) rfl en32 (evc (F.ev rfl) evn) (pright_any p _) rfl rfl ?_; clear F M; intro φ ω F M
  cases hs1 : p.rightB
  · rw [hs1] at F
    refine sq_pure F (wt0 rfl) (pu_not rfl (F.ev rfl)) rfl rfl ?_; clear F; intro φ F
    rw [show (!false) = true from rfl] at F
    refine sq_pure F (wt0 rfl) (pu_move rfl (F.ev rfl)) rfl rfl ?_; clear F; intro φ F
    refine sq_skip F (wtn F rfl rfl rfl rfl rfl) rfl rfl ?_; clear F; intro φ F
    refine sq_skip F (wtn F rfl rfl rfl rfl rfl) rfl rfl ?_; clear F; intro φ F
    refine sq_skip F (wtn F rfl rfl rfl rfl rfl) rfl rfl ?_; clear F; intro φ F
    refine sq_pure F (wt0 rfl) (pu_pickt rfl (F.ev rfl) (evk)) rfl rfl ?_; clear F; intro φ F
    refine sq_pure F (wt0 rfl) (pu_move rfl (F.ev rfl)) rfl rfl ?_; clear F; intro φ F
    refine sq_skip F (wtn F rfl rfl rfl rfl rfl) rfl rfl ?_; clear F; intro φ F
    refine sq_skip F (wtn F rfl rfl rfl rfl rfl) rfl rfl ?_; clear F; intro φ F
    refine sq_skip F (wtn F rfl rfl rfl rfl rfl) rfl rfl ?_; clear F; intro φ F
    refine sq_pure F (wt0 rfl) (pu_pickt rfl (F.ev rfl) (evk)) rfl rfl ?_; clear F; intro φ F
    refine nx ?_
    refine wp_cond_true (F.ev rfl) ?_
    refine wp_seq ?_
    -- region 3
    refine wp_region_lit ?_
    refine sq_pure F (wt0 rfl) (bu38_ rfl) rfl rfl ?_; clear F; intro φ F
    refine sq_stA F M (wt0 rfl) rfl (F.ev rfl) (F.ev rfl) (i := 1) rfl agg38 rfl rfl rfl rfl ?_; clear M; intro ω M
    refine sq_pure F (wt0 rfl) (pu_assign rfl (evk)) rfl rfl ?_; clear F; intro φ F
    refine nx ?_
    refine wp_ret ?_
    refine nxr ?_
    refine rt_cell_tmp F M rfl rfl rfl (i := 1) rfl agg38 rfl ?_
    have z := then_f (p := p) (q := q) (.inl hs1)
    refine ⟨?_, M.bel⟩
    rw [z, after_no z]; rfl
  · rw [hs1] at F
    refine sq_pure F (wt0 rfl) (pu_not rfl (F.ev rfl)) rfl rfl ?_; clear F; intro φ F
    rw [show (!true) = false from rfl] at F
    refine sq_pure F (wt0 rfl) (pu_move rfl (F.ev rfl)) rfl rfl ?_; clear F; intro φ F
    refine sq_rd F (wt1 F rfl rfl rfl rfl rfl) (ld_agg rfl (F.ev rfl) agg38 (M.rd (i := 2) rfl) rfl) rfl rfl ?_; clear F; intro φ F
    refine sq_call F M (wt1 F rfl rfl rfl rfl rfl) rfl en32 (evc (F.ev rfl) evn) (pright_any q _) rfl rfl ?_; clear F M; intro φ ω F M
    cases hs2 : q.rightB
    · rw [hs2] at F
      refine sq_pure F (wt1 F rfl rfl rfl rfl rfl) (pu_not rfl (F.ev rfl)) rfl rfl ?_; clear F; intro φ F
      rw [show (!false) = true from rfl] at F
      refine sq_pure F (wt0 rfl) (pu_pickf rfl (F.ev rfl) (F.ev rfl)) rfl rfl ?_; clear F; intro φ F
      refine sq_pure F (wt0 rfl) (pu_move rfl (F.ev rfl)) rfl rfl ?_; clear F; intro φ F
      refine sq_skip F (wtn F rfl rfl rfl rfl rfl) rfl rfl ?_; clear F; intro φ F
      refine sq_skip F (wtn F rfl rfl rfl rfl rfl) rfl rfl ?_; clear F; intro φ F
      refine sq_skip F (wtn F rfl rfl rfl rfl rfl) rfl rfl ?_; clear F; intro φ F
      refine sq_pure F (wt0 rfl) (pu_pickt rfl (F.ev rfl) (evk)) rfl rfl ?_; clear F; intro φ F
      refine nx ?_
      refine wp_cond_true (F.ev rfl) ?_
      refine wp_seq ?_
      -- region 3
      refine wp_region_lit ?_
      refine sq_pure F (wt0 rfl) (bu38_ rfl) rfl rfl ?_; clear F; intro φ F
      refine sq_stA F M (wt0 rfl) rfl (F.ev rfl) (F.ev rfl) (i := 1) rfl agg38 rfl rfl rfl rfl ?_; clear M; intro ω M
      refine sq_pure F (wt0 rfl) (pu_assign rfl (evk)) rfl rfl ?_; clear F; intro φ F
      refine nx ?_
      refine wp_ret ?_
      refine nxr ?_
      refine rt_cell_tmp F M rfl rfl rfl (i := 1) rfl agg38 rfl ?_
      have z := then_f (p := p) (q := q) (.inr (.inl hs2))
      refine ⟨?_, M.bel⟩
      rw [z, after_no z]; rfl
    · rw [hs2] at F
      refine sq_pure F (wt1 F rfl rfl rfl rfl rfl) (pu_not rfl (F.ev rfl)) rfl rfl ?_; clear F; intro φ F
      rw [show (!true) = false from rfl] at F
      refine sq_pure F (wt0 rfl) (pu_pickf rfl (F.ev rfl) (F.ev rfl)) rfl rfl ?_; clear F; intro φ F
      refine sq_pure F (wt0 rfl) (pu_move rfl (F.ev rfl)) rfl rfl ?_; clear F; intro φ F
      refine sq_rd F (wt1 F rfl rfl rfl rfl rfl) (ld_agg rfl (F.ev rfl) agg38 (M.rd (i := 0) rfl) rfl) rfl rfl ?_; clear F; intro φ F
      refine sq_call F M (wt1 F rfl rfl rfl rfl rfl) rfl en32 (evc (F.ev rfl) evn) (pright_any (St.mk (IntKind.i64.wrap (p.e + q.e)) (IntKind.i64.wrap (p.r + q.r))) _) rfl rfl ?_; clear F M; intro φ ω F M
      cases hs3 : ((St.mk (IntKind.i64.wrap (p.e + q.e)) (IntKind.i64.wrap (p.r + q.r))).rightB)
      · rw [hs3] at F
        refine sq_pure F (wt1 F rfl rfl rfl rfl rfl) (pu_not rfl (F.ev rfl)) rfl rfl ?_; clear F; intro φ F
        rw [show (!false) = true from rfl] at F
        refine sq_pure F (wt0 rfl) (pu_pickf rfl (F.ev rfl) (F.ev rfl)) rfl rfl ?_; clear F; intro φ F
        refine nx ?_
        refine wp_cond_true (F.ev rfl) ?_
        refine wp_seq ?_
        -- region 3
        refine wp_region_lit ?_
        refine sq_pure F (wt0 rfl) (bu38_ rfl) rfl rfl ?_; clear F; intro φ F
        refine sq_stA F M (wt0 rfl) rfl (F.ev rfl) (F.ev rfl) (i := 1) rfl agg38 rfl rfl rfl rfl ?_; clear M; intro ω M
        refine sq_pure F (wt0 rfl) (pu_assign rfl (evk)) rfl rfl ?_; clear F; intro φ F
        refine nx ?_
        refine wp_ret ?_
        refine nxr ?_
        refine rt_cell_tmp F M rfl rfl rfl (i := 1) rfl agg38 rfl ?_
        have z := then_f (p := p) (q := q) (.inr (.inr ⟨hs1, hs2, hs3⟩))
        refine ⟨?_, M.bel⟩
        rw [z, after_no z]; rfl
      · rw [hs3] at F
        refine sq_pure F (wt1 F rfl rfl rfl rfl rfl) (pu_not rfl (F.ev rfl)) rfl rfl ?_; clear F; intro φ F
        rw [show (!true) = false from rfl] at F
        refine sq_pure F (wt0 rfl) (pu_pickf rfl (F.ev rfl) (F.ev rfl)) rfl rfl ?_; clear F; intro φ F
        refine nx ?_
        refine wp_cond_false (F.ev rfl) ?_
        refine wp_skip ?_
        refine nxq ?_
        refine wp_seq ?_
        -- region 4
        refine wp_region_lit ?_
        refine sq_rd F (wt0 rfl) (ld_agg rfl (F.ev rfl) agg38 (M.rd (i := 0) rfl) rfl) rfl rfl ?_; clear F; intro φ F
        refine sq_stA F M (wt0 rfl) rfl (F.ev rfl) (F.ev rfl) (i := 1) rfl agg38 rfl rfl rfl rfl ?_; clear M; intro ω M
        refine sq_pure F (wt0 rfl) (pu_assign rfl (evk)) rfl rfl ?_; clear F; intro φ F
        refine nx ?_
        refine wp_ret ?_
        refine rt_cell_tmp F M rfl rfl rfl (i := 1) rfl agg38 rfl ?_
        have z := then_t hs1 hs2 hs3
        refine ⟨?_, M.bel⟩
        rw [z.1, z.2.1, z.2.2]

set_option maxHeartbeats 1000000 in
theorem pmin_any (L : List St) (v : Value) (w : World) (hr : RdS w v L) (hlen : L.length ≤ 20000000) :
    Calls Try.prog 30 #[v] w (fun e w' => ∃ v, e = .returned v ∧ Below w.heap.size w w' ∧ w'.ownsRow w.heap.size 38 2 v (minL L).length (cS (minL L))) := by
  refine enterF Try.func30 rfl 51 Try.ntmps30 [v] rfl [(0, v)] rfl ?_
  intro φ F
  have M := Mm.start [] w
  replace M := M.addArg (hr) (fun h_ => by first | (simp; done) | assumption | exact d3 h_ | (simp_all; done))
  refine wp_seq ?_
  -- region 0
  refine wp_region_lit ?_
  refine sq_pure F (wt0 rfl) (pu_assign rfl (evk)) rfl rfl ?_; clear F; intro φ F
  refine nx ?_
  refine wp_seq ?_
  -- region 1
  refine wp_region_lit ?_
  refine sq_pure F (wt0 rfl) (pu_assign rfl (evk)) rfl rfl ?_; clear F; intro φ F
  refine nx ?_
  refine wp_seq ?_
  refine wp_seq ?_
  -- region 2
  refine wp_region_lit ?_
  refine sq_pure F (wt0 rfl) (pu_assign rfl (evk)) rfl rfl ?_; clear F; intro φ F
  refine nx ?_
  refine wp_block ?_
  refine lp (σ := Int) (fun i φ' w' => ∃ vq : Value, Fr φ' 51 [(0, v), (3, vq), (4, .int .i64 i)] ∧ Mm [] w w' [.row 50 2 vq ((L.take i.toNat).length) (cS (L.take i.toNat)), .arg 2 v L.length (cS L)] ∧ (0 ≤ i) ∧ (i ≤ ((L.length : Nat) : Int)) ∧ ((L.take i.toNat).length ≤ 20000000)) (fun i => (((L.length : Nat) : Int) - i).toNat) (0) ⟨(.slice none 0 0), (((F.nil.cons (F.get (k := 4) rfl)).cons (F.get (k := 3) rfl)).cons (F.get (k := 0) rfl)), (by have z := M.nilRow 50 2; exact z.sub (.cons_cons _ (.cons_cons _ (.slnil)))), Int.le_refl _, by omega, by simp⟩ ?_
  clear F M
  rintro i φ ω ⟨vq, F, M, hp1_0, hp1_1, hp1_2⟩
  refine wp_seq ?_
  refine wp_seq ?_
  -- region 3
  refine wp_region_lit ?_
  refine sq_pure F (wt0 rfl) (pu_move rfl (F.ev rfl)) rfl rfl ?_; clear F; intro φ F
  refine sq_pure F (wt0 rfl) (pu_move rfl (F.ev rfl)) rfl rfl ?_; clear F; intro φ F
  refine sq_pure F (wt0 rfl) (pu_len rfl (F.ev rfl) sl44 (M.av (i := 1) rfl)) rfl rfl ?_; clear F; intro φ F
  refine sq_pure F (wt0 rfl) (pu_lss rfl (F.ev rfl) (F.ev rfl)) rfl rfl ?_; clear F; intro φ F
  refine nx ?_
  cases hs2 : (decide (i < ((L.length : Nat) : Int)))
  · rw [hs2] at F
    have hs2i := of_decide_eq_false hs2
    refine wp_cond_false (F.ev rfl) ?_
    refine wp_exit ?_
    refine nxe ?_
    refine nxe ?_
    refine nxm ?_
    refine nxq ?_
    refine wp_seq ?_
    -- region 6
    refine wp_region_lit ?_
    refine sq_pure F (wt0 rfl) (pu_move rfl (F.ev rfl)) rfl rfl ?_; clear F; intro φ F
    rw [List.take_of_length_le (by omega)] at M
    replace M : Mm [] w ω [.row 50 2 vq L.length (cS L), .arg 2 v L.length (cS L)] := M
    refine sq_callN F M (wt0 rfl) rfl en41 (evc (F.ev rfl) evn) (rmin_any L _ _ (M.rv (i := 0) rfl) (by first | omega | (simp; done) | (simp; omega))) rfl rfl ?_; clear F M; intro φ ω v1 F M
    have zl := minL_len L
    refine sq_pure F (wt0 rfl) (pu_assign rfl (F.ev rfl)) rfl rfl ?_; clear F; intro φ F
    refine nx ?_
    refine wp_seq ?_
    -- region 7
    refine wp_region_lit ?_
    refine sq_pure F (wt0 rfl) (pu_assign rfl (evk)) rfl rfl ?_; clear F; intro φ F
    refine nx ?_
    refine wp_seq ?_
    refine wp_seq ?_
    -- region 8
    refine wp_region_lit ?_
    refine sq_pure F (wt0 rfl) (pu_assign rfl (evk)) rfl rfl ?_; clear F; intro φ F
    refine nx ?_
    refine wp_block ?_
    refine lp (σ := Int) (fun i φ' w' => ∃ vq : Value, Fr φ' 51 [(0, v), (5, v1), (6, vq), (7, .int .i64 i)] ∧ Mm [] w w' [.row 38 2 vq (((minL L).take i.toNat).length) (cS ((minL L).take i.toNat)), .row 50 2 v1 ((minL L).length) (cS (minL L))] ∧ (0 ≤ i) ∧ (i ≤ (((minL L).length : Nat) : Int)) ∧ (((minL L).take i.toNat).length ≤ 20000000)) (fun i => ((((minL L).length : Nat) : Int) - i).toNat) (0) ⟨(.slice none 0 0), ((((F.nil.cons (F.get (k := 7) rfl)).cons (F.get (k := 6) rfl)).cons (F.get (k := 5) rfl)).cons (F.get (k := 0) rfl)), (by have z := M.nilRow 38 2; exact z.sub (.cons_cons _ (.cons_cons _ (.cons _ (.cons _ (.slnil)))))), Int.le_refl _, by omega, by simp⟩ ?_
    clear F M
    rintro i φ ω ⟨vq, F, M, hp3_0, hp3_1, hp3_2⟩
    refine wp_seq ?_
    refine wp_seq ?_
    -- region 9
    refine wp_region_lit ?_
    refine sq_pure F (wt0 rfl) (pu_move rfl (F.ev rfl)) rfl rfl ?_; clear F; intro φ F
    refine sq_pure F (wt0 rfl) (pu_move rfl (F.ev rfl)) rfl rfl ?_; clear F; intro φ F
    refine sq_pure F (wt0 rfl) (pu_len rfl (F.ev rfl) sl67 (M.rv (i := 1) rfl)) rfl rfl ?_; clear F; intro φ F
    refine sq_pure F (wt0 rfl) (pu_lss rfl (F.ev rfl) (F.ev rfl)) rfl rfl ?_; clear F; intro φ F
    refine nx ?_
    cases hs4 : (decide (i < (((minL L).length : Nat) : Int)))
    · rw [hs4] at F
      have hs4i := of_decide_eq_false hs4
      refine wp_cond_false (F.ev rfl) ?_
      refine wp_exit ?_
      refine nxe ?_
      refine nxe ?_
      refine nxm ?_
      refine nxq ?_
      refine wp_seq ?_
      -- region 12
      refine wp_region_lit ?_
      refine sq_pure F (wt0 rfl) (pu_move rfl (F.ev rfl)) rfl rfl ?_; clear F; intro φ F
      refine sq_pure F (wt0 rfl) (pu_assign rfl (F.ev rfl)) rfl rfl ?_; clear F; intro φ F
      refine nx ?_
      refine wp_ret ?_
      refine rt_tmp F rfl rfl ?_
      have zz := M.owB (i := 0) rfl
      rw [List.take_of_length_le (by omega)] at zz
      exact ⟨_, rfl, M.bel, zz⟩
    · rw [hs4] at F
      have hs4i := of_decide_eq_true hs4
      refine wp_cond_true (F.ev rfl) ?_
      refine wp_skip ?_
      refine nxq ?_
      refine wp_seq ?_
      refine wp_block ?_
      -- region 11
      refine rg_J F 14 (fun Dd dv w' => (Dd 0 = true → dv 0 = vq) ∧ (Dd 1 = true → dv 1 = v1) ∧ (Dd 2 = true → dv 2 = .int .i64 i) ∧ (Dd 3 = true → dv 3 = .pointer (some ⟨gof v1, oof v1 + (i.toNat * 2), none⟩)) ∧ (Dd 4 = true → dv 4 = .pointer (some ⟨gof v1, oof v1 + (i.toNat * 2), none⟩)) ∧ (Dd 5 = true → dv 5 = .int .i64 ((atS (minL L) i.toNat).e)) ∧ (Dd 6 = true → dv 6 = v1) ∧ (Dd 7 = true → dv 7 = .int .i64 i) ∧ (Dd 8 = true → dv 8 = .pointer (some ⟨gof v1, oof v1 + (i.toNat * 2), none⟩)) ∧ (Dd 9 = true → dv 9 = .pointer (some ⟨gof v1, oof v1 + (i.toNat * 2) + 1, none⟩)) ∧ (Dd 10 = true → dv 10 = .int .i64 ((atS (minL L) i.toNat).r)) ∧ (Dd 11 = true → dv 11 = .agg #[.int .i64 ((atS (minL L) i.toNat).e), .int .i64 ((atS (minL L) i.toNat).r)]) ∧ Mm [] w w' [(if Dd 12 = true then .row 38 2 (dv 12) 1 (cS [(atS (minL L) i.toNat)]) else .arg 1 (.slice none 0 0) 0 []), (if Dd 13 = true then .row 38 2 (dv 13) ((((minL L).take i.toNat) ++ [(atS (minL L) i.toNat)]).length) (cS (((minL L).take i.toNat) ++ [(atS (minL L) i.toNat)])) else .row 38 2 vq (((minL L).take i.toNat).length) (cS ((minL L).take i.toNat))), .row 50 2 v1 ((minL L).length) (cS (minL L))]) (fun dv => ⟨(fun h => by cases h), (fun h => by cases h), (fun h => by cases h), (fun h => by cases h), (fun h => by cases h), (fun h => by cases h), (fun h => by cases h), (fun h => by cases h), (fun h => by cases h), (fun h => by cases h), (fun h => by cases h), (fun h => by cases h), by simpa using (M.drew).dead⟩) mixedOK (by kernel_rfl) rfl ⟨?_, ?_, ?_, ?_, ?_, ?_, ?_, ?_, ?_, ?_, ?_, ?_, ?_, ?_, trivial⟩ ?_
      · intro Dd φ1 dv ω1 ⟨h0, h1, h2, h3, h4, h5, h6, h7, h8, h9, h10, h11, M⟩ hDi hdep hcl F1 hdone hold
        have F := (F1.cons (F.was hold (s := 6) rfl rfl))
        try simp only [hDi, Bool.false_eq_true, if_false, if_true, ite_true, ite_false] at M
        exact ⟨wt0 rfl, ow_run ((pu_move rfl (F.ev rfl)) ω1) ⟨_, rfl, newP, keepP rfl h1, keepP rfl h2, keepP rfl h3, keepP rfl h4, keepP rfl h5, keepP rfl h6, keepP rfl h7, keepP rfl h8, keepP rfl h9, keepP rfl h10, keepP rfl h11, by simpa [setB, setV, hDi, Bool.false_eq_true, if_false, if_true, ite_true, ite_false] using M⟩⟩
      · intro Dd φ1 dv ω1 ⟨h0, h1, h2, h3, h4, h5, h6, h7, h8, h9, h10, h11, M⟩ hDi hdep hcl F1 hdone hold
        have F := (F1.cons (F.was hold (s := 5) rfl rfl))
        try simp only [hDi, Bool.false_eq_true, if_false, if_true, ite_true, ite_false] at M
        exact ⟨wt0 rfl, ow_run ((pu_move rfl (F.ev rfl)) ω1) ⟨_, rfl, keepP rfl h0, newP, keepP rfl h2, keepP rfl h3, keepP rfl h4, keepP rfl h5, keepP rfl h6, keepP rfl h7, keepP rfl h8, keepP rfl h9, keepP rfl h10, keepP rfl h11, by simpa [setB, setV, hDi, Bool.false_eq_true, if_false, if_true, ite_true, ite_false] using M⟩⟩
      · intro Dd φ1 dv ω1 ⟨h0, h1, h2, h3, h4, h5, h6, h7, h8, h9, h10, h11, M⟩ hDi hdep hcl F1 hdone hold
        have F := (F1.cons (F.was hold (s := 7) rfl rfl))
        try simp only [hDi, Bool.false_eq_true, if_false, if_true, ite_true, ite_false] at M
        exact ⟨wt0 rfl, ow_run ((pu_move rfl (F.ev rfl)) ω1) ⟨_, rfl, keepP rfl h0, keepP rfl h1, newP, keepP rfl h3, keepP rfl h4, keepP rfl h5, keepP rfl h6, keepP rfl h7, keepP rfl h8, keepP rfl h9, keepP rfl h10, keepP rfl h11, by simpa [setB, setV, hDi, Bool.false_eq_true, if_false, if_true, ite_true, ite_false] using M⟩⟩
      · intro Dd φ1 dv ω1 ⟨h0, h1, h2, h3, h4, h5, h6, h7, h8, h9, h10, h11, M⟩ hDi hdep hcl F1 hdone hold
        have d1 : Dd 1 = true := hdep 1 (by kernel_rfl)
        have d2 : Dd 2 = true := hdep 2 (by kernel_rfl)
        have F := ((F1.cons (k := 37) (hdone 1 _ _ d1 rfl rfl |>.trans (h1 d1))).cons (k := 38) (hdone 2 _ _ d2 rfl rfl |>.trans (h2 d2)))
        try simp only [d1, d2, hDi, Bool.false_eq_true, if_false, if_true, ite_true, ite_false] at M
        exact ⟨wt0 rfl, ow_run ((pu_ix rfl (F.ev rfl) (F.ev rfl) sl67 (M.rv (i := 2) rfl) (by omega) (by omega)) ω1) ⟨_, rfl, keepP rfl h0, keepP rfl h1, keepP rfl h2, newP, keepP rfl h4, keepP rfl h5, keepP rfl h6, keepP rfl h7, keepP rfl h8, keepP rfl h9, keepP rfl h10, keepP rfl h11, by simpa [setB, setV, d1, d2, hDi, Bool.false_eq_true, if_false, if_true, ite_true, ite_false] using M⟩⟩
      · intro Dd φ1 dv ω1 ⟨h0, h1, h2, h3, h4, h5, h6, h7, h8, h9, h10, h11, M⟩ hDi hdep hcl F1 hdone hold
        have d3 : Dd 3 = true := hdep 3 (by kernel_rfl)
        have d1 : Dd 1 = true := hcl _ 1 d3 (by kernel_rfl)
        have d2 : Dd 2 = true := hcl _ 2 d3 (by kernel_rfl)
        have F := (F1.cons (k := 39) (hdone 3 _ _ d3 rfl rfl |>.trans (h3 d3)))
        try simp only [d1, d2, d3, hDi, Bool.false_eq_true, if_false, if_true, ite_true, ite_false] at M
        exact ⟨wt0 rfl, ow_run ((pu_field rfl (F.ev rfl) fo50_0) ω1) ⟨_, rfl, keepP rfl h0, keepP rfl h1, keepP rfl h2, keepP rfl h3, newP, keepP rfl h5, keepP rfl h6, keepP rfl h7, keepP rfl h8, keepP rfl h9, keepP rfl h10, keepP rfl h11, by simpa [setB, setV, d1, d2, d3, hDi, Bool.false_eq_true, if_false, if_true, ite_true, ite_false] using M⟩⟩
      · intro Dd φ1 dv ω1 ⟨h0, h1, h2, h3, h4, h5, h6, h7, h8, h9, h10, h11, M⟩ hDi hdep hcl F1 hdone hold
        have d4 : Dd 4 = true := hdep 4 (by kernel_rfl)
        have d3 : Dd 3 = true := hcl _ 3 d4 (by kernel_rfl)
        have d1 : Dd 1 = true := hcl _ 1 d3 (by kernel_rfl)
        have d2 : Dd 2 = true := hcl _ 2 d3 (by kernel_rfl)
        have F := (F1.cons (k := 40) (hdone 4 _ _ d4 rfl rfl |>.trans (h4 d4)))
        try simp only [d1, d2, d3, d4, hDi, Bool.false_eq_true, if_false, if_true, ite_true, ite_false] at M
        exact ⟨wt0 rfl, ow_run ((ld_elP1 (q := 0) (k := i.toNat * 2) rfl (F.ev rfl) one3 (fun _ e => e ▸ (M.rv (i := 2) rfl)) (by omega) (cS_at (by first | omega | (simp; done) | (simp; omega))) rfl) ω1 rfl) ⟨_, rfl, keepP rfl h0, keepP rfl h1, keepP rfl h2, keepP rfl h3, keepP rfl h4, newP, keepP rfl h6, keepP rfl h7, keepP rfl h8, keepP rfl h9, keepP rfl h10, keepP rfl h11, by simpa [setB, setV, d1, d2, d3, d4, hDi, Bool.false_eq_true, if_false, if_true, ite_true, ite_false] using M⟩⟩
      · intro Dd φ1 dv ω1 ⟨h0, h1, h2, h3, h4, h5, h6, h7, h8, h9, h10, h11, M⟩ hDi hdep hcl F1 hdone hold
        have F := (F1.cons (F.was hold (s := 5) rfl rfl))
        try simp only [hDi, Bool.false_eq_true, if_false, if_true, ite_true, ite_false] at M
        exact ⟨wt0 rfl, ow_run ((pu_move rfl (F.ev rfl)) ω1) ⟨_, rfl, keepP rfl h0, keepP rfl h1, keepP rfl h2, keepP rfl h3, keepP rfl h4, keepP rfl h5, newP, keepP rfl h7, keepP rfl h8, keepP rfl h9, keepP rfl h10, keepP rfl h11, by simpa [setB, setV, hDi, Bool.false_eq_true, if_false, if_true, ite_true, ite_false] using M⟩⟩
      · intro Dd φ1 dv ω1 ⟨h0, h1, h2, h3, h4, h5, h6, h7, h8, h9, h10, h11, M⟩ hDi hdep hcl F1 hdone hold
        have F := (F1.cons (F.was hold (s := 7) rfl rfl))
        try simp only [hDi, Bool.false_eq_true, if_false, if_true, ite_true, ite_false] at M
        exact ⟨wt0 rfl, ow_run ((pu_move rfl (F.ev rfl)) ω1) ⟨_, rfl, keepP rfl h0, keepP rfl h1, keepP rfl h2, keepP rfl h3, keepP rfl h4, keepP rfl h5, keepP rfl h6, newP, keepP rfl h8, keepP rfl h9, keepP rfl h10, keepP rfl h11, by simpa [setB, setV, hDi, Bool.false_eq_true, if_false, if_true, ite_true, ite_false] using M⟩⟩
      · intro Dd φ1 dv ω1 ⟨h0, h1, h2, h3, h4, h5, h6, h7, h8, h9, h10, h11, M⟩ hDi hdep hcl F1 hdone hold
        have d6 : Dd 6 = true := hdep 6 (by kernel_rfl)
        have d7 : Dd 7 = true := hdep 7 (by kernel_rfl)
        have F := ((F1.cons (k := 42) (hdone 6 _ _ d6 rfl rfl |>.trans (h6 d6))).cons (k := 43) (hdone 7 _ _ d7 rfl rfl |>.trans (h7 d7)))
        try simp only [d6, d7, hDi, Bool.false_eq_true, if_false, if_true, ite_true, ite_false] at M
        exact ⟨wt0 rfl, ow_run ((pu_ix rfl (F.ev rfl) (F.ev rfl) sl67 (M.rv (i := 2) rfl) (by omega) (by omega)) ω1) ⟨_, rfl, keepP rfl h0, keepP rfl h1, keepP rfl h2, keepP rfl h3, keepP rfl h4, keepP rfl h5, keepP rfl h6, keepP rfl h7, newP, keepP rfl h9, keepP rfl h10, keepP rfl h11, by simpa [setB, setV, d6, d7, hDi, Bool.false_eq_true, if_false, if_true, ite_true, ite_false] using M⟩⟩
      · intro Dd φ1 dv ω1 ⟨h0, h1, h2, h3, h4, h5, h6, h7, h8, h9, h10, h11, M⟩ hDi hdep hcl F1 hdone hold
        have d8 : Dd 8 = true := hdep 8 (by kernel_rfl)
        have d6 : Dd 6 = true := hcl _ 6 d8 (by kernel_rfl)
        have d7 : Dd 7 = true := hcl _ 7 d8 (by kernel_rfl)
        have F := (F1.cons (k := 44) (hdone 8 _ _ d8 rfl rfl |>.trans (h8 d8)))
        try simp only [d6, d7, d8, hDi, Bool.false_eq_true, if_false, if_true, ite_true, ite_false] at M
        exact ⟨wt0 rfl, ow_run ((pu_field rfl (F.ev rfl) fo50_1) ω1) ⟨_, rfl, keepP rfl h0, keepP rfl h1, keepP rfl h2, keepP rfl h3, keepP rfl h4, keepP rfl h5, keepP rfl h6, keepP rfl h7, keepP rfl h8, newP, keepP rfl h10, keepP rfl h11, by simpa [setB, setV, d6, d7, d8, hDi, Bool.false_eq_true, if_false, if_true, ite_true, ite_false] using M⟩⟩
      · intro Dd φ1 dv ω1 ⟨h0, h1, h2, h3, h4, h5, h6, h7, h8, h9, h10, h11, M⟩ hDi hdep hcl F1 hdone hold
        have d9 : Dd 9 = true := hdep 9 (by kernel_rfl)
        have d8 : Dd 8 = true := hcl _ 8 d9 (by kernel_rfl)
        have d6 : Dd 6 = true := hcl _ 6 d8 (by kernel_rfl)
        have d7 : Dd 7 = true := hcl _ 7 d8 (by kernel_rfl)
        have F := (F1.cons (k := 45) (hdone 9 _ _ d9 rfl rfl |>.trans (h9 d9)))
        try simp only [d6, d7, d8, d9, hDi, Bool.false_eq_true, if_false, if_true, ite_true, ite_false] at M
        exact ⟨wt0 rfl, ow_run ((ld_elP1 (q := 1) (k := i.toNat * 2) rfl (F.ev rfl) one3 (fun _ e => e ▸ (M.rv (i := 2) rfl)) (by omega) (cS_at (by first | omega | (simp; done) | (simp; omega))) rfl) ω1 rfl) ⟨_, rfl, keepP rfl h0, keepP rfl h1, keepP rfl h2, keepP rfl h3, keepP rfl h4, keepP rfl h5, keepP rfl h6, keepP rfl h7, keepP rfl h8, keepP rfl h9, newP, keepP rfl h11, by simpa [setB, setV, d6, d7, d8, d9, hDi, Bool.false_eq_true, if_false, if_true, ite_true, ite_false] using M⟩⟩
      · intro Dd φ1 dv ω1 ⟨h0, h1, h2, h3, h4, h5, h6, h7, h8, h9, h10, h11, M⟩ hDi hdep hcl F1 hdone hold
        have d5 : Dd 5 = true := hdep 5 (by kernel_rfl)
        have d10 : Dd 10 = true := hdep 10 (by kernel_rfl)
        have d4 : Dd 4 = true := hcl _ 4 d5 (by kernel_rfl)
        have d9 : Dd 9 = true := hcl _ 9 d10 (by kernel_rfl)
        have d3 : Dd 3 = true := hcl _ 3 d4 (by kernel_rfl)
        have d8 : Dd 8 = true := hcl _ 8 d9 (by kernel_rfl)
        have d1 : Dd 1 = true := hcl _ 1 d3 (by kernel_rfl)
        have d2 : Dd 2 = true := hcl _ 2 d3 (by kernel_rfl)
        have d6 : Dd 6 = true := hcl _ 6 d8 (by kernel_rfl)
        have d7 : Dd 7 = true := hcl _ 7 d8 (by kernel_rfl)
        have F := ((F1.cons (k := 41) (hdone 5 _ _ d5 rfl rfl |>.trans (h5 d5))).cons (k := 46) (hdone 10 _ _ d10 rfl rfl |>.trans (h10 d10)))
        try simp only [d1, d2, d3, d4, d5, d6, d7, d8, d9, d10, hDi, Bool.false_eq_true, if_false, if_true, ite_true, ite_false] at M
        exact ⟨wt0 rfl, ow_run ((bu38_0_1 rfl (F.ev rfl) (F.ev rfl)) ω1) ⟨_, rfl, keepP rfl h0, keepP rfl h1, keepP rfl h2, keepP rfl h3, keepP rfl h4, keepP rfl h5, keepP rfl h6, keepP rfl h7, keepP rfl h8, keepP rfl h9, keepP rfl h10, newP, by simpa [setB, setV, d1, d2, d3, d4, d5, d6, d7, d8, d9, d10, hDi, Bool.false_eq_true, if_false, if_true, ite_true, ite_false] using M⟩⟩
      · intro Dd φ1 dv ω1 ⟨h0, h1, h2, h3, h4, h5, h6, h7, h8, h9, h10, h11, M⟩ hDi hdep hcl F1 hdone hold
        have d11 : Dd 11 = true := hdep 11 (by kernel_rfl)
        have d5 : Dd 5 = true := hcl _ 5 d11 (by kernel_rfl)
        have d10 : Dd 10 = true := hcl _ 10 d11 (by kernel_rfl)
        have d4 : Dd 4 = true := hcl _ 4 d5 (by kernel_rfl)
        have d9 : Dd 9 = true := hcl _ 9 d10 (by kernel_rfl)
        have d3 : Dd 3 = true := hcl _ 3 d4 (by kernel_rfl)
        have d8 : Dd 8 = true := hcl _ 8 d9 (by kernel_rfl)
        have d1 : Dd 1 = true := hcl _ 1 d3 (by kernel_rfl)
        have d2 : Dd 2 = true := hcl _ 2 d3 (by kernel_rfl)
        have d6 : Dd 6 = true := hcl _ 6 d8 (by kernel_rfl)
        have d7 : Dd 7 = true := hcl _ 7 d8 (by kernel_rfl)
        have F := (F1.cons (k := 47) (hdone 11 _ _ d11 rfl rfl |>.trans (h11 d11)))
        try simp only [d1, d2, d3, d4, d5, d6, d7, d8, d9, d10, d11, hDi, Bool.false_eq_true, if_false, if_true, ite_true, ite_false] at M
        have M2 : Mm [] w _ (([_, _, _]).set 0 (.row 38 2 (.slice (some ⟨ω1.heap.size, 0, none⟩) 1 1) 1 (cS [(atS (minL L) i.toNat)]))) := M.fresh (i := 0) (e := 38) (m := 2) (k := 1) (cs := #[.int .i64 ((atS (minL L) i.toNat).e), .int .i64 ((atS (minL L) i.toNat).r)]) rfl (by omega) rfl
        exact ⟨wt0 rfl, ow_run (bs44_1 rfl (F.ev rfl) _) ⟨_, rfl, keepP rfl h0, keepP rfl h1, keepP rfl h2, keepP rfl h3, keepP rfl h4, keepP rfl h5, keepP rfl h6, keepP rfl h7, keepP rfl h8, keepP rfl h9, keepP rfl h10, keepP rfl h11, by simpa [setB, setV, d1, d2, d3, d4, d5, d6, d7, d8, d9, d10, d11, hDi, Bool.false_eq_true, if_false, if_true, ite_true, ite_false] using M2⟩⟩
      · intro Dd φ1 dv ω1 ⟨h0, h1, h2, h3, h4, h5, h6, h7, h8, h9, h10, h11, M⟩ hDi hdep hcl F1 hdone hold
        have d0 : Dd 0 = true := hdep 0 (by kernel_rfl)
        have d12 : Dd 12 = true := hdep 12 (by kernel_rfl)
        have d11 : Dd 11 = true := hcl _ 11 d12 (by kernel_rfl)
        have d5 : Dd 5 = true := hcl _ 5 d11 (by kernel_rfl)
        have d10 : Dd 10 = true := hcl _ 10 d11 (by kernel_rfl)
        have d4 : Dd 4 = true := hcl _ 4 d5 (by kernel_rfl)
        have d9 : Dd 9 = true := hcl _ 9 d10 (by kernel_rfl)
        have d3 : Dd 3 = true := hcl _ 3 d4 (by kernel_rfl)
        have d8 : Dd 8 = true := hcl _ 8 d9 (by kernel_rfl)
        have d1 : Dd 1 = true := hcl _ 1 d3 (by kernel_rfl)
        have d2 : Dd 2 = true := hcl _ 2 d3 (by kernel_rfl)
        have d6 : Dd 6 = true := hcl _ 6 d8 (by kernel_rfl)
        have d7 : Dd 7 = true := hcl _ 7 d8 (by kernel_rfl)
        have F := ((F1.cons (k := 36) (hdone 0 _ _ d0 rfl rfl |>.trans (h0 d0))).cons (k := 48) (hdone 12 _ _ d12 rfl rfl))
        try simp only [d0, d1, d2, d3, d4, d5, d6, d7, d8, d9, d10, d11, d12, hDi, Bool.false_eq_true, if_false, if_true, ite_true, ite_false] at M
        refine ⟨wt0 rfl, ow_app M rfl sl44.1 el38 (F.ev rfl) (i := 1) rfl (F.ev rfl) (M.rv (i := 0) rfl) (cS_ones _) (by first | omega | (simp only [List.length_append, List.length_take, List.length_drop, List.length_cons, List.length_nil]; omega)) (by omega) (fun x w2 M2 => ?_)⟩
        rw [← cS_app, show (((minL L).take i.toNat).length) + 1 = (((minL L).take i.toNat) ++ [(atS (minL L) i.toNat)]).length from by first | rfl | (simp; done) | (simp; omega)] at M2
        exact ⟨_, rfl, keepP rfl h0, keepP rfl h1, keepP rfl h2, keepP rfl h3, keepP rfl h4, keepP rfl h5, keepP rfl h6, keepP rfl h7, keepP rfl h8, keepP rfl h9, keepP rfl h10, keepP rfl h11, by simpa [setB, setV, d0, d1, d2, d3, d4, d5, d6, d7, d8, d9, d10, d11, d12, hDi, Bool.false_eq_true, if_false, if_true, ite_true, ite_false] using M2⟩
      clear M; rintro dv φ ω ⟨h0, h1, h2, h3, h4, h5, h6, h7, h8, h9, h10, h11, M⟩ F
      simp only [hvL, List.take_succ_cons, List.take_zero] at F
      rw [h11 (by simp)] at F
      rw [h10 (by simp)] at F
      rw [h9 (by simp)] at F
      rw [h8 (by simp)] at F
      rw [h7 (by simp)] at F
      rw [h6 (by simp)] at F
      rw [h5 (by simp)] at F
      rw [h4 (by simp)] at F
      rw [h3 (by simp)] at F
      rw [h2 (by simp)] at F
      rw [h1 (by simp)] at F
      rw [h0 (by simp)] at F
      replace M : Mm [] w ω [.row 38 2 (dv 12) 1 (cS [(atS (minL L) i.toNat)]), .row 38 2 (dv 13) ((((minL L).take i.toNat) ++ [(atS (minL L) i.toNat)]).length) (cS (((minL L).take i.toNat) ++ [(atS (minL L) i.toNat)])), .row 50 2 v1 ((minL L).length) (cS (minL L))] := by simpa using M
      clear h0 h1 h2 h3 h4 h5 h6 h7 h8 h9 h10 h11
      generalize dv 12 = v2 at F M
      generalize dv 13 = v3 at F M
      refine sq_pure F (wt0 rfl) (pu_assign rfl (F.ev rfl)) rfl rfl ?_; clear F; intro φ F
      refine wpList_nil ?_
      refine nxb ?_
      refine nxq ?_
      -- region 10
      refine wp_region_lit ?_
      refine sq_pure F (wt0 rfl) (pu_move rfl (F.ev rfl)) rfl rfl ?_; clear F; intro φ F
      refine sq_pure F (wt0 rfl) (pu_add rfl (F.ev rfl) (evk) (by omega) (by omega)) rfl rfl ?_; clear F; intro φ F
      refine sq_pure F (wt0 rfl) (pu_assign rfl (F.ev rfl)) rfl rfl ?_; clear F; intro φ F
      refine wpList_nil ?_
      exact ⟨i + 1, by omega, v3, ((((F.nil.cons (F.get (k := 7) rfl)).cons (F.get (k := 6) rfl)).cons (F.get (k := 5) rfl)).cons (F.get (k := 0) rfl)), (by rw [← take_snocS (by omega) (by omega)]; exact (M.sub (.cons _ (List.Sublist.refl _)))), by omega, by omega, by rw [List.length_take]; omega⟩
  · rw [hs2] at F
    have hs2i := of_decide_eq_true hs2
    refine wp_cond_true (F.ev rfl) ?_
    refine wp_skip ?_
    refine nxq ?_
    refine wp_seq ?_
    refine wp_block ?_
    -- region 5
    refine rg_J F 14 (fun Dd dv w' => (Dd 0 = true → dv 0 = vq) ∧ (Dd 1 = true → dv 1 = v) ∧ (Dd 2 = true → dv 2 = .int .i64 i) ∧ (Dd 3 = true → dv 3 = .pointer (some ⟨gof v, oof v + (i.toNat * 2), none⟩)) ∧ (Dd 4 = true → dv 4 = .pointer (some ⟨gof v, oof v + (i.toNat * 2), none⟩)) ∧ (Dd 5 = true → dv 5 = .int .i64 ((atS L i.toNat).e)) ∧ (Dd 6 = true → dv 6 = v) ∧ (Dd 7 = true → dv 7 = .int .i64 i) ∧ (Dd 8 = true → dv 8 = .pointer (some ⟨gof v, oof v + (i.toNat * 2), none⟩)) ∧ (Dd 9 = true → dv 9 = .pointer (some ⟨gof v, oof v + (i.toNat * 2) + 1, none⟩)) ∧ (Dd 10 = true → dv 10 = .int .i64 ((atS L i.toNat).r)) ∧ (Dd 11 = true → dv 11 = .agg #[.int .i64 ((atS L i.toNat).e), .int .i64 ((atS L i.toNat).r)]) ∧ Mm [] w w' [(if Dd 12 = true then .row 50 2 (dv 12) 1 (cS [(atS L i.toNat)]) else .arg 1 (.slice none 0 0) 0 []), (if Dd 13 = true then .row 50 2 (dv 13) (((L.take i.toNat) ++ [(atS L i.toNat)]).length) (cS ((L.take i.toNat) ++ [(atS L i.toNat)])) else .row 50 2 vq ((L.take i.toNat).length) (cS (L.take i.toNat))), .arg 2 v L.length (cS L)]) (fun dv => ⟨(fun h => by cases h), (fun h => by cases h), (fun h => by cases h), (fun h => by cases h), (fun h => by cases h), (fun h => by cases h), (fun h => by cases h), (fun h => by cases h), (fun h => by cases h), (fun h => by cases h), (fun h => by cases h), (fun h => by cases h), by simpa using (M.drew).dead⟩) mixedOK (by kernel_rfl) rfl ⟨?_, ?_, ?_, ?_, ?_, ?_, ?_, ?_, ?_, ?_, ?_, ?_, ?_, ?_, trivial⟩ ?_
    · intro Dd φ1 dv ω1 ⟨h0, h1, h2, h3, h4, h5, h6, h7, h8, h9, h10, h11, M⟩ hDi hdep hcl F1 hdone hold
      have F := (F1.cons (F.was hold (s := 3) rfl rfl))
      try simp only [hDi, Bool.false_eq_true, if_false, if_true, ite_true, ite_false] at M
      exact ⟨wt0 rfl, ow_run ((pu_move rfl (F.ev rfl)) ω1) ⟨_, rfl, newP, keepP rfl h1, keepP rfl h2, keepP rfl h3, keepP rfl h4, keepP rfl h5, keepP rfl h6, keepP rfl h7, keepP rfl h8, keepP rfl h9, keepP rfl h10, keepP rfl h11, by simpa [setB, setV, hDi, Bool.false_eq_true, if_false, if_true, ite_true, ite_false] using M⟩⟩
    · intro Dd φ1 dv ω1 ⟨h0, h1, h2, h3, h4, h5, h6, h7, h8, h9, h10, h11, M⟩ hDi hdep hcl F1 hdone hold
      have F := (F1.cons (F.was hold (s := 0) rfl rfl))
      try simp only [hDi, Bool.false_eq_true, if_false, if_true, ite_true, ite_false] at M
      exact ⟨wt0 rfl, ow_run ((pu_move rfl (F.ev rfl)) ω1) ⟨_, rfl, keepP rfl h0, newP, keepP rfl h2, keepP rfl h3, keepP rfl h4, keepP rfl h5, keepP rfl h6, keepP rfl h7, keepP rfl h8, keepP rfl h9, keepP rfl h10, keepP rfl h11, by simpa [setB, setV, hDi, Bool.false_eq_true, if_false, if_true, ite_true, ite_false] using M⟩⟩
    · intro Dd φ1 dv ω1 ⟨h0, h1, h2, h3, h4, h5, h6, h7, h8, h9, h10, h11, M⟩ hDi hdep hcl F1 hdone hold
      have F := (F1.cons (F.was hold (s := 4) rfl rfl))
      try simp only [hDi, Bool.false_eq_true, if_false, if_true, ite_true, ite_false] at M
      exact ⟨wt0 rfl, ow_run ((pu_move rfl (F.ev rfl)) ω1) ⟨_, rfl, keepP rfl h0, keepP rfl h1, newP, keepP rfl h3, keepP rfl h4, keepP rfl h5, keepP rfl h6, keepP rfl h7, keepP rfl h8, keepP rfl h9, keepP rfl h10, keepP rfl h11, by simpa [setB, setV, hDi, Bool.false_eq_true, if_false, if_true, ite_true, ite_false] using M⟩⟩
    · intro Dd φ1 dv ω1 ⟨h0, h1, h2, h3, h4, h5, h6, h7, h8, h9, h10, h11, M⟩ hDi hdep hcl F1 hdone hold
      have d1 : Dd 1 = true := hdep 1 (by kernel_rfl)
      have d2 : Dd 2 = true := hdep 2 (by kernel_rfl)
      have F := ((F1.cons (k := 15) (hdone 1 _ _ d1 rfl rfl |>.trans (h1 d1))).cons (k := 16) (hdone 2 _ _ d2 rfl rfl |>.trans (h2 d2)))
      try simp only [d1, d2, hDi, Bool.false_eq_true, if_false, if_true, ite_true, ite_false] at M
      exact ⟨wt0 rfl, ow_run ((pu_ix rfl (F.ev rfl) (F.ev rfl) sl44 (M.av (i := 2) rfl) (by omega) (by omega)) ω1) ⟨_, rfl, keepP rfl h0, keepP rfl h1, keepP rfl h2, newP, keepP rfl h4, keepP rfl h5, keepP rfl h6, keepP rfl h7, keepP rfl h8, keepP rfl h9, keepP rfl h10, keepP rfl h11, by simpa [setB, setV, d1, d2, hDi, Bool.false_eq_true, if_false, if_true, ite_true, ite_false] using M⟩⟩
    · intro Dd φ1 dv ω1 ⟨h0, h1, h2, h3, h4, h5, h6, h7, h8, h9, h10, h11, M⟩ hDi hdep hcl F1 hdone hold
      have d3 : Dd 3 = true := hdep 3 (by kernel_rfl)
      have d1 : Dd 1 = true := hcl _ 1 d3 (by kernel_rfl)
      have d2 : Dd 2 = true := hcl _ 2 d3 (by kernel_rfl)
      have F := (F1.cons (k := 17) (hdone 3 _ _ d3 rfl rfl |>.trans (h3 d3)))
      try simp only [d1, d2, d3, hDi, Bool.false_eq_true, if_false, if_true, ite_true, ite_false] at M
      exact ⟨wt0 rfl, ow_run ((pu_field rfl (F.ev rfl) fo38_0) ω1) ⟨_, rfl, keepP rfl h0, keepP rfl h1, keepP rfl h2, keepP rfl h3, newP, keepP rfl h5, keepP rfl h6, keepP rfl h7, keepP rfl h8, keepP rfl h9, keepP rfl h10, keepP rfl h11, by simpa [setB, setV, d1, d2, d3, hDi, Bool.false_eq_true, if_false, if_true, ite_true, ite_false] using M⟩⟩
    · intro Dd φ1 dv ω1 ⟨h0, h1, h2, h3, h4, h5, h6, h7, h8, h9, h10, h11, M⟩ hDi hdep hcl F1 hdone hold
      have d4 : Dd 4 = true := hdep 4 (by kernel_rfl)
      have d3 : Dd 3 = true := hcl _ 3 d4 (by kernel_rfl)
      have d1 : Dd 1 = true := hcl _ 1 d3 (by kernel_rfl)
      have d2 : Dd 2 = true := hcl _ 2 d3 (by kernel_rfl)
      have F := (F1.cons (k := 18) (hdone 4 _ _ d4 rfl rfl |>.trans (h4 d4)))
      try simp only [d1, d2, d3, d4, hDi, Bool.false_eq_true, if_false, if_true, ite_true, ite_false] at M
      exact ⟨wt0 rfl, ow_run ((ld_elP1 (q := 0) (k := i.toNat * 2) rfl (F.ev rfl) one3 (fun _ e => e ▸ (M.av (i := 2) rfl)) (by omega) (cS_at (by first | omega | (simp; done) | (simp; omega))) rfl) ω1 rfl) ⟨_, rfl, keepP rfl h0, keepP rfl h1, keepP rfl h2, keepP rfl h3, keepP rfl h4, newP, keepP rfl h6, keepP rfl h7, keepP rfl h8, keepP rfl h9, keepP rfl h10, keepP rfl h11, by simpa [setB, setV, d1, d2, d3, d4, hDi, Bool.false_eq_true, if_false, if_true, ite_true, ite_false] using M⟩⟩
    · intro Dd φ1 dv ω1 ⟨h0, h1, h2, h3, h4, h5, h6, h7, h8, h9, h10, h11, M⟩ hDi hdep hcl F1 hdone hold
      have F := (F1.cons (F.was hold (s := 0) rfl rfl))
      try simp only [hDi, Bool.false_eq_true, if_false, if_true, ite_true, ite_false] at M
      exact ⟨wt0 rfl, ow_run ((pu_move rfl (F.ev rfl)) ω1) ⟨_, rfl, keepP rfl h0, keepP rfl h1, keepP rfl h2, keepP rfl h3, keepP rfl h4, keepP rfl h5, newP, keepP rfl h7, keepP rfl h8, keepP rfl h9, keepP rfl h10, keepP rfl h11, by simpa [setB, setV, hDi, Bool.false_eq_true, if_false, if_true, ite_true, ite_false] using M⟩⟩
    · intro Dd φ1 dv ω1 ⟨h0, h1, h2, h3, h4, h5, h6, h7, h8, h9, h10, h11, M⟩ hDi hdep hcl F1 hdone hold
      have F := (F1.cons (F.was hold (s := 4) rfl rfl))
      try simp only [hDi, Bool.false_eq_true, if_false, if_true, ite_true, ite_false] at M
      exact ⟨wt0 rfl, ow_run ((pu_move rfl (F.ev rfl)) ω1) ⟨_, rfl, keepP rfl h0, keepP rfl h1, keepP rfl h2, keepP rfl h3, keepP rfl h4, keepP rfl h5, keepP rfl h6, newP, keepP rfl h8, keepP rfl h9, keepP rfl h10, keepP rfl h11, by simpa [setB, setV, hDi, Bool.false_eq_true, if_false, if_true, ite_true, ite_false] using M⟩⟩
    · intro Dd φ1 dv ω1 ⟨h0, h1, h2, h3, h4, h5, h6, h7, h8, h9, h10, h11, M⟩ hDi hdep hcl F1 hdone hold
      have d6 : Dd 6 = true := hdep 6 (by kernel_rfl)
      have d7 : Dd 7 = true := hdep 7 (by kernel_rfl)
      have F := ((F1.cons (k := 20) (hdone 6 _ _ d6 rfl rfl |>.trans (h6 d6))).cons (k := 21) (hdone 7 _ _ d7 rfl rfl |>.trans (h7 d7)))
      try simp only [d6, d7, hDi, Bool.false_eq_true, if_false, if_true, ite_true, ite_false] at M
      exact ⟨wt0 rfl, ow_run ((pu_ix rfl (F.ev rfl) (F.ev rfl) sl44 (M.av (i := 2) rfl) (by omega) (by omega)) ω1) ⟨_, rfl, keepP rfl h0, keepP rfl h1, keepP rfl h2, keepP rfl h3, keepP rfl h4, keepP rfl h5, keepP rfl h6, keepP rfl h7, newP, keepP rfl h9, keepP rfl h10, keepP rfl h11, by simpa [setB, setV, d6, d7, hDi, Bool.false_eq_true, if_false, if_true, ite_true, ite_false] using M⟩⟩
    · intro Dd φ1 dv ω1 ⟨h0, h1, h2, h3, h4, h5, h6, h7, h8, h9, h10, h11, M⟩ hDi hdep hcl F1 hdone hold
      have d8 : Dd 8 = true := hdep 8 (by kernel_rfl)
      have d6 : Dd 6 = true := hcl _ 6 d8 (by kernel_rfl)
      have d7 : Dd 7 = true := hcl _ 7 d8 (by kernel_rfl)
      have F := (F1.cons (k := 22) (hdone 8 _ _ d8 rfl rfl |>.trans (h8 d8)))
      try simp only [d6, d7, d8, hDi, Bool.false_eq_true, if_false, if_true, ite_true, ite_false] at M
      exact ⟨wt0 rfl, ow_run ((pu_field rfl (F.ev rfl) fo38_1) ω1) ⟨_, rfl, keepP rfl h0, keepP rfl h1, keepP rfl h2, keepP rfl h3, keepP rfl h4, keepP rfl h5, keepP rfl h6, keepP rfl h7, keepP rfl h8, newP, keepP rfl h10, keepP rfl h11, by simpa [setB, setV, d6, d7, d8, hDi, Bool.false_eq_true, if_false, if_true, ite_true, ite_false] using M⟩⟩
    · intro Dd φ1 dv ω1 ⟨h0, h1, h2, h3, h4, h5, h6, h7, h8, h9, h10, h11, M⟩ hDi hdep hcl F1 hdone hold
      have d9 : Dd 9 = true := hdep 9 (by kernel_rfl)
      have d8 : Dd 8 = true := hcl _ 8 d9 (by kernel_rfl)
      have d6 : Dd 6 = true := hcl _ 6 d8 (by kernel_rfl)
      have d7 : Dd 7 = true := hcl _ 7 d8 (by kernel_rfl)
      have F := (F1.cons (k := 23) (hdone 9 _ _ d9 rfl rfl |>.trans (h9 d9)))
      try simp only [d6, d7, d8, d9, hDi, Bool.false_eq_true, if_false, if_true, ite_true, ite_false] at M
      exact ⟨wt0 rfl, ow_run ((ld_elP1 (q := 1) (k := i.toNat * 2) rfl (F.ev rfl) one3 (fun _ e => e ▸ (M.av (i := 2) rfl)) (by omega) (cS_at (by first | omega | (simp; done) | (simp; omega))) rfl) ω1 rfl) ⟨_, rfl, keepP rfl h0, keepP rfl h1, keepP rfl h2, keepP rfl h3, keepP rfl h4, keepP rfl h5, keepP rfl h6, keepP rfl h7, keepP rfl h8, keepP rfl h9, newP, keepP rfl h11, by simpa [setB, setV, d6, d7, d8, d9, hDi, Bool.false_eq_true, if_false, if_true, ite_true, ite_false] using M⟩⟩
    · intro Dd φ1 dv ω1 ⟨h0, h1, h2, h3, h4, h5, h6, h7, h8, h9, h10, h11, M⟩ hDi hdep hcl F1 hdone hold
      have d5 : Dd 5 = true := hdep 5 (by kernel_rfl)
      have d10 : Dd 10 = true := hdep 10 (by kernel_rfl)
      have d4 : Dd 4 = true := hcl _ 4 d5 (by kernel_rfl)
      have d9 : Dd 9 = true := hcl _ 9 d10 (by kernel_rfl)
      have d3 : Dd 3 = true := hcl _ 3 d4 (by kernel_rfl)
      have d8 : Dd 8 = true := hcl _ 8 d9 (by kernel_rfl)
      have d1 : Dd 1 = true := hcl _ 1 d3 (by kernel_rfl)
      have d2 : Dd 2 = true := hcl _ 2 d3 (by kernel_rfl)
      have d6 : Dd 6 = true := hcl _ 6 d8 (by kernel_rfl)
      have d7 : Dd 7 = true := hcl _ 7 d8 (by kernel_rfl)
      have F := ((F1.cons (k := 19) (hdone 5 _ _ d5 rfl rfl |>.trans (h5 d5))).cons (k := 24) (hdone 10 _ _ d10 rfl rfl |>.trans (h10 d10)))
      try simp only [d1, d2, d3, d4, d5, d6, d7, d8, d9, d10, hDi, Bool.false_eq_true, if_false, if_true, ite_true, ite_false] at M
      exact ⟨wt0 rfl, ow_run ((bu50_0_1 rfl (F.ev rfl) (F.ev rfl)) ω1) ⟨_, rfl, keepP rfl h0, keepP rfl h1, keepP rfl h2, keepP rfl h3, keepP rfl h4, keepP rfl h5, keepP rfl h6, keepP rfl h7, keepP rfl h8, keepP rfl h9, keepP rfl h10, newP, by simpa [setB, setV, d1, d2, d3, d4, d5, d6, d7, d8, d9, d10, hDi, Bool.false_eq_true, if_false, if_true, ite_true, ite_false] using M⟩⟩
    · intro Dd φ1 dv ω1 ⟨h0, h1, h2, h3, h4, h5, h6, h7, h8, h9, h10, h11, M⟩ hDi hdep hcl F1 hdone hold
      have d11 : Dd 11 = true := hdep 11 (by kernel_rfl)
      have d5 : Dd 5 = true := hcl _ 5 d11 (by kernel_rfl)
      have d10 : Dd 10 = true := hcl _ 10 d11 (by kernel_rfl)
      have d4 : Dd 4 = true := hcl _ 4 d5 (by kernel_rfl)
      have d9 : Dd 9 = true := hcl _ 9 d10 (by kernel_rfl)
      have d3 : Dd 3 = true := hcl _ 3 d4 (by kernel_rfl)
      have d8 : Dd 8 = true := hcl _ 8 d9 (by kernel_rfl)
      have d1 : Dd 1 = true := hcl _ 1 d3 (by kernel_rfl)
      have d2 : Dd 2 = true := hcl _ 2 d3 (by kernel_rfl)
      have d6 : Dd 6 = true := hcl _ 6 d8 (by kernel_rfl)
      have d7 : Dd 7 = true := hcl _ 7 d8 (by kernel_rfl)
      have F := (F1.cons (k := 25) (hdone 11 _ _ d11 rfl rfl |>.trans (h11 d11)))
      try simp only [d1, d2, d3, d4, d5, d6, d7, d8, d9, d10, d11, hDi, Bool.false_eq_true, if_false, if_true, ite_true, ite_false] at M
      have M2 : Mm [] w _ (([_, _, _]).set 0 (.row 50 2 (.slice (some ⟨ω1.heap.size, 0, none⟩) 1 1) 1 (cS [(atS L i.toNat)]))) := M.fresh (i := 0) (e := 50) (m := 2) (k := 1) (cs := #[.int .i64 ((atS L i.toNat).e), .int .i64 ((atS L i.toNat).r)]) rfl (by omega) rfl
      exact ⟨wt0 rfl, ow_run (bs67_1 rfl (F.ev rfl) _) ⟨_, rfl, keepP rfl h0, keepP rfl h1, keepP rfl h2, keepP rfl h3, keepP rfl h4, keepP rfl h5, keepP rfl h6, keepP rfl h7, keepP rfl h8, keepP rfl h9, keepP rfl h10, keepP rfl h11, by simpa [setB, setV, d1, d2, d3, d4, d5, d6, d7, d8, d9, d10, d11, hDi, Bool.false_eq_true, if_false, if_true, ite_true, ite_false] using M2⟩⟩
    · intro Dd φ1 dv ω1 ⟨h0, h1, h2, h3, h4, h5, h6, h7, h8, h9, h10, h11, M⟩ hDi hdep hcl F1 hdone hold
      have d0 : Dd 0 = true := hdep 0 (by kernel_rfl)
      have d12 : Dd 12 = true := hdep 12 (by kernel_rfl)
      have d11 : Dd 11 = true := hcl _ 11 d12 (by kernel_rfl)
      have d5 : Dd 5 = true := hcl _ 5 d11 (by kernel_rfl)
      have d10 : Dd 10 = true := hcl _ 10 d11 (by kernel_rfl)
      have d4 : Dd 4 = true := hcl _ 4 d5 (by kernel_rfl)
      have d9 : Dd 9 = true := hcl _ 9 d10 (by kernel_rfl)
      have d3 : Dd 3 = true := hcl _ 3 d4 (by kernel_rfl)
      have d8 : Dd 8 = true := hcl _ 8 d9 (by kernel_rfl)
      have d1 : Dd 1 = true := hcl _ 1 d3 (by kernel_rfl)
      have d2 : Dd 2 = true := hcl _ 2 d3 (by kernel_rfl)
      have d6 : Dd 6 = true := hcl _ 6 d8 (by kernel_rfl)
      have d7 : Dd 7 = true := hcl _ 7 d8 (by kernel_rfl)
      have F := ((F1.cons (k := 14) (hdone 0 _ _ d0 rfl rfl |>.trans (h0 d0))).cons (k := 26) (hdone 12 _ _ d12 rfl rfl))
      try simp only [d0, d1, d2, d3, d4, d5, d6, d7, d8, d9, d10, d11, d12, hDi, Bool.false_eq_true, if_false, if_true, ite_true, ite_false] at M
      refine ⟨wt0 rfl, ow_app M rfl sl67.1 el50 (F.ev rfl) (i := 1) rfl (F.ev rfl) (M.rv (i := 0) rfl) (cS_ones _) (by first | omega | (simp only [List.length_append, List.length_take, List.length_drop, List.length_cons, List.length_nil]; omega)) (by omega) (fun x w2 M2 => ?_)⟩
      rw [← cS_app, show ((L.take i.toNat).length) + 1 = ((L.take i.toNat) ++ [(atS L i.toNat)]).length from by first | rfl | (simp; done) | (simp; omega)] at M2
      exact ⟨_, rfl, keepP rfl h0, keepP rfl h1, keepP rfl h2, keepP rfl h3, keepP rfl h4, keepP rfl h5, keepP rfl h6, keepP rfl h7, keepP rfl h8, keepP rfl h9, keepP rfl h10, keepP rfl h11, by simpa [setB, setV, d0, d1, d2, d3, d4, d5, d6, d7, d8, d9, d10, d11, d12, hDi, Bool.false_eq_true, if_false, if_true, ite_true, ite_false] using M2⟩
    clear M; rintro dv φ ω ⟨h0, h1, h2, h3, h4, h5, h6, h7, h8, h9, h10, h11, M⟩ F
    simp only [hvL, List.take_succ_cons, List.take_zero] at F
    rw [h11 (by simp)] at F
    rw [h10 (by simp)] at F
    rw [h9 (by simp)] at F
    rw [h8 (by simp)] at F
    rw [h7 (by simp)] at F
    rw [h6 (by simp)] at F
    rw [h5 (by simp)] at F
    rw [h4 (by simp)] at F
    rw [h3 (by simp)] at F
    rw [h2 (by simp)] at F
    rw [h1 (by simp)] at F
    rw [h0 (by simp)] at F
    replace M : Mm [] w ω [.row 50 2 (dv 12) 1 (cS [(atS L i.toNat)]), .row 50 2 (dv 13) (((L.take i.toNat) ++ [(atS L i.toNat)]).length) (cS ((L.take i.toNat) ++ [(atS L i.toNat)])), .arg 2 v L.length (cS L)] := by simpa using M
    clear h0 h1 h2 h3 h4 h5 h6 h7 h8 h9 h10 h11
    generalize dv 12 = v4 at F M
    generalize dv 13 = v5 at F M
    refine sq_pure F (wt0 rfl) (pu_assign rfl (F.ev rfl)) rfl rfl ?_; clear F; intro φ F
    refine wpList_nil ?_
    refine nxb ?_
    refine nxq ?_
    -- region 4
    refine wp_region_lit ?_
    refine sq_pure F (wt0 rfl) (pu_move rfl (F.ev rfl)) rfl rfl ?_; clear F; intro φ F
    refine sq_pure F (wt0 rfl) (pu_add rfl (F.ev rfl) (evk) (by omega) (by omega)) rfl rfl ?_; clear F; intro φ F
    refine sq_pure F (wt0 rfl) (pu_assign rfl (F.ev rfl)) rfl rfl ?_; clear F; intro φ F
    refine wpList_nil ?_
    exact ⟨i + 1, by omega, v5, (((F.nil.cons (F.get (k := 4) rfl)).cons (F.get (k := 3) rfl)).cons (F.get (k := 0) rfl)), (by rw [← take_snocS (by omega) (by omega)]; exact (M.sub (.cons _ (List.Sublist.refl _)))), by omega, by omega, by rw [List.length_take]; omega⟩

set_option maxHeartbeats 1000000 in
theorem prights_any (L : List St) (v : Value) (w : World) (hr : RdS w v L) (hlen : L.length ≤ 20000000) :
    Calls Try.prog 33 #[v] w (fun e w' => e = .returned ((.bool (rightsB L))) ∧ Below w.heap.size w w') := by
  refine enterF Try.func33 rfl 19 Try.ntmps33 [v] rfl [(0, v)] rfl ?_
  intro φ F
  have M := Mm.start [] w
  replace M := M.addArg (hr) (fun h_ => by first | (simp; done) | assumption | exact d3 h_ | (simp_all; done))
  refine wp_seq ?_
  -- region 0
  refine wp_region_lit ?_
  refine sq_pure F (wt0 rfl) (pu_assign rfl (evk)) rfl rfl ?_; clear F; intro φ F
  refine nx ?_
  refine wp_seq ?_
  refine wp_seq ?_
  -- region 1
  refine wp_region_lit ?_
  refine sq_pure F (wt0 rfl) (pu_assign rfl (evk)) rfl rfl ?_; clear F; intro φ F
  refine nx ?_
  refine wp_block ?_
  refine lp (σ := Int) (fun i φ' w' => Fr φ' 19 [(0, v), (3, .int .i64 i)] ∧ Mm [] w w' [.arg 2 v L.length (cS L)] ∧ (0 ≤ i) ∧ (i ≤ (L.length : Int)) ∧ (∀ k, k < i.toNat → (atS L k).rightB = true)) (fun i => ((L.length : Int) - i).toNat) (0) ⟨((F.nil.cons (F.get (k := 3) rfl)).cons (F.get (k := 0) rfl)), M, Int.le_refl _, by omega, all_none⟩ ?_
  clear F M
  rintro i φ ω ⟨F, M, hp1_0, hp1_1, hp1_2⟩
  refine wp_seq ?_
  refine wp_seq ?_
  -- region 2
  refine wp_region_lit ?_
  refine sq_pure F (wt0 rfl) (pu_move rfl (F.ev rfl)) rfl rfl ?_; clear F; intro φ F
  refine sq_pure F (wt0 rfl) (pu_move rfl (F.ev rfl)) rfl rfl ?_; clear F; intro φ F
  refine sq_pure F (wt0 rfl) (pu_len rfl (F.ev rfl) sl44 (M.av (i := 0) rfl)) rfl rfl ?_; clear F; intro φ F
  refine sq_pure F (wt0 rfl) (pu_lss rfl (F.ev rfl) (F.ev rfl)) rfl rfl ?_; clear F; intro φ F
  refine nx ?_
  cases hs2 : (decide (i < ((L.length : Nat) : Int)))
  · rw [hs2] at F
    have hs2i := of_decide_eq_false hs2
    refine wp_cond_false (F.ev rfl) ?_
    refine wp_exit ?_
    refine nxe ?_
    refine nxe ?_
    refine nxm ?_
    refine nxq ?_
    refine wp_seq ?_
    -- region 6
    refine wp_region_lit ?_
    refine sq_pure F (wt0 rfl) (pu_move rfl (F.ev rfl)) rfl rfl ?_; clear F; intro φ F
    refine sq_pure F (wt0 rfl) (pu_len rfl (F.ev rfl) sl44 (M.av (i := 0) rfl)) rfl rfl ?_; clear F; intro φ F
    refine sq_pure F (wt0 rfl) (pu_leq rfl (F.ev rfl) (evk)) rfl rfl ?_; clear F; intro φ F
    refine sq_pure F (wt0 rfl) (pu_assign rfl (F.ev rfl)) rfl rfl ?_; clear F; intro φ F
    refine nx ?_
    refine wp_ret ?_
    refine rt_tmp F rfl rfl ?_
    refine ⟨?_, M.bel⟩
    rw [rights_all hp1_2 hs2i]
  · rw [hs2] at F
    have hs2i := of_decide_eq_true hs2
    refine wp_cond_true (F.ev rfl) ?_
    refine wp_skip ?_
    refine nxq ?_
    refine wp_seq ?_
    refine wp_block ?_
    refine wp_seq ?_
    -- region 4
    refine wp_region_lit ?_
    refine sq_pure F (wt0 rfl) (pu_move rfl (F.ev rfl)) rfl rfl ?_; clear F; intro φ F
    refine sq_pure F (wt0 rfl) (pu_move rfl (F.ev rfl)) rfl rfl ?_; clear F; intro φ F
    refine sq_pure F (wt0 rfl) (pu_ix rfl (F.ev rfl) (F.ev rfl) sl44 (M.av (i := 0) rfl) (by omega) (by omega)) rfl rfl ?_; clear F; intro φ F
    refine sq_rd F (wt0 rfl) (ld_el rfl (F.ev rfl) agg38 (fun _ e => e ▸ (M.av (i := 0) rfl)) (by omega) (cS_at (by first | omega | (simp; done) | (simp; omega))) rfl) rfl rfl ?_; clear F; intro φ F
    refine sq_call F M (wt0 rfl) rfl en32 (evc (F.ev rfl) evn) (pright_any (atS L i.toNat) _) rfl rfl ?_; clear F M; intro φ ω F M
    cases hs3 : ((atS L i.toNat).rightB)
    · rw [hs3] at F
      refine sq_pure F (wt0 rfl) (pu_not rfl (F.ev rfl)) rfl rfl ?_; clear F; intro φ F
      rw [show (!false) = true from rfl] at F
      refine nx ?_
      refine wp_cond_true (F.ev rfl) ?_
      refine wp_seq ?_
      -- region 5
      refine wp_region_lit ?_
      refine sq_pure F (wt0 rfl) (pu_assign rfl (evk)) rfl rfl ?_; clear F; intro φ F
      refine nx ?_
      refine wp_ret ?_
      refine nxrb ?_
      refine nxr ?_
      refine nxr ?_
      refine nxrb ?_
      refine nxr ?_
      refine rt_tmp F rfl rfl ?_
      refine ⟨?_, M.bel⟩
      rw [rights_no (by omega) hs3]
    · rw [hs3] at F
      refine sq_pure F (wt0 rfl) (pu_not rfl (F.ev rfl)) rfl rfl ?_; clear F; intro φ F
      rw [show (!true) = false from rfl] at F
      refine nx ?_
      refine wp_cond_false (F.ev rfl) ?_
      refine wp_skip ?_
      refine nxb ?_
      refine nxq ?_
      -- region 3
      refine wp_region_lit ?_
      refine sq_pure F (wt0 rfl) (pu_move rfl (F.ev rfl)) rfl rfl ?_; clear F; intro φ F
      refine sq_pure F (wt0 rfl) (pu_add rfl (F.ev rfl) (evk) (by omega) (by omega)) rfl rfl ?_; clear F; intro φ F
      refine sq_pure F (wt0 rfl) (pu_assign rfl (F.ev rfl)) rfl rfl ?_; clear F; intro φ F
      refine wpList_nil ?_
      exact ⟨i + 1, by omega, ((F.nil.cons (F.get (k := 3) rfl)).cons (F.get (k := 0) rfl)), M, by omega, by omega, all_succ hp1_2 hp1_0 (hs3)⟩

set_option maxHeartbeats 1000000 in
theorem psame_any (K L : List St) (u v : Value) (w : World) (hk : RdS w u K) (hr : RdS w v L) (hlk : K.length ≤ 20000000) (hlen : L.length ≤ 20000000) :
    Calls Try.prog 31 #[u, v] w (fun e w' => e = .returned ((.bool (decide (K = L)))) ∧ Below w.heap.size w w') := by
  refine enterF Try.func31 rfl 26 Try.ntmps31 [u, v] rfl [(0, u), (1, v)] rfl ?_
  intro φ F
  have M := Mm.start [] w
  replace M := M.addArg (hr) (fun h_ => by first | (simp; done) | assumption | exact d3 h_ | (simp_all; done))
  replace M := M.addArg (hk) (fun h_ => by first | (simp; done) | assumption | exact d3 h_ | (simp_all; done))
  refine wp_seq ?_
  -- region 0
  refine wp_region_lit ?_
  refine sq_pure F (wt0 rfl) (pu_assign rfl (evk)) rfl rfl ?_; clear F; intro φ F
  refine nx ?_
  refine wp_seq ?_
  refine wp_seq ?_
  -- region 1
  refine wp_region_lit ?_
  refine sq_pure F (wt0 rfl) (pu_move rfl (F.ev rfl)) rfl rfl ?_; clear F; intro φ F
  refine sq_pure F (wt0 rfl) (pu_len rfl (F.ev rfl) sl44 (M.av (i := 0) rfl)) rfl rfl ?_; clear F; intro φ F
  refine sq_pure F (wt0 rfl) (pu_move rfl (F.ev rfl)) rfl rfl ?_; clear F; intro φ F
  refine sq_pure F (wt0 rfl) (pu_len rfl (F.ev rfl) sl44 (M.av (i := 1) rfl)) rfl rfl ?_; clear F; intro φ F
  cases hs1 : (decide (((K.length : Nat) : Int) = ((L.length : Nat) : Int)))
  · skip
    have hs1i := of_decide_eq_false hs1
    refine sq_pure F (wt0 rfl) (pu_neqI rfl (F.ev rfl) (F.ev rfl)) rfl rfl ?_; clear F; intro φ F
    rw [hs1, show (!false) = true from rfl] at F
    refine nx ?_
    refine wp_cond_true (F.ev rfl) ?_
    refine wp_seq ?_
    -- region 2
    refine wp_region_lit ?_
    refine sq_pure F (wt0 rfl) (pu_assign rfl (evk)) rfl rfl ?_; clear F; intro φ F
    refine nx ?_
    refine wp_ret ?_
    refine nxr ?_
    refine rt_tmp F rfl rfl ?_
    refine ⟨?_, M.bel⟩
    rw [decide_eq_false (fun e => hs1i (by rw [e]))]
  · skip
    have hs1i := of_decide_eq_true hs1
    refine sq_pure F (wt0 rfl) (pu_neqI rfl (F.ev rfl) (F.ev rfl)) rfl rfl ?_; clear F; intro φ F
    rw [hs1, show (!true) = false from rfl] at F
    refine nx ?_
    refine wp_cond_false (F.ev rfl) ?_
    refine wp_skip ?_
    refine nxq ?_
    refine wp_seq ?_
    refine wp_seq ?_
    -- region 3
    refine wp_region_lit ?_
    refine sq_pure F (wt0 rfl) (pu_assign rfl (evk)) rfl rfl ?_; clear F; intro φ F
    refine nx ?_
    refine wp_block ?_
    refine lp (σ := Int) (fun i φ' w' => Fr φ' 26 [(0, u), (1, v), (5, .int .i64 i)] ∧ Mm [] w w' [.arg 2 u K.length (cS K), .arg 2 v L.length (cS L)] ∧ (0 ≤ i) ∧ (i ≤ (K.length : Int)) ∧ (∀ k, k < i.toNat → atS K k = atS L k)) (fun i => ((K.length : Int) - i).toNat) (0) ⟨(((F.nil.cons (F.get (k := 5) rfl)).cons (F.get (k := 1) rfl)).cons (F.get (k := 0) rfl)), M, Int.le_refl _, by omega, all_none⟩ ?_
    clear F M
    rintro i φ ω ⟨F, M, hp2_0, hp2_1, hp2_2⟩
    refine wp_seq ?_
    refine wp_seq ?_
    -- region 4
    refine wp_region_lit ?_
    refine sq_pure F (wt0 rfl) (pu_move rfl (F.ev rfl)) rfl rfl ?_; clear F; intro φ F
    refine sq_pure F (wt0 rfl) (pu_move rfl (F.ev rfl)) rfl rfl ?_; clear F; intro φ F
    refine sq_pure F (wt0 rfl) (pu_len rfl (F.ev rfl) sl44 (M.av (i := 0) rfl)) rfl rfl ?_; clear F; intro φ F
    refine sq_pure F (wt0 rfl) (pu_lss rfl (F.ev rfl) (F.ev rfl)) rfl rfl ?_; clear F; intro φ F
    refine nx ?_
    cases hs3 : (decide (i < ((K.length : Nat) : Int)))
    · rw [hs3] at F
      have hs3i := of_decide_eq_false hs3
      refine wp_cond_false (F.ev rfl) ?_
      refine wp_exit ?_
      refine nxe ?_
      refine nxe ?_
      refine nxm ?_
      refine nxq ?_
      refine wp_seq ?_
      -- region 8
      refine wp_region_lit ?_
      refine sq_pure F (wt0 rfl) (pu_assign rfl (evk)) rfl rfl ?_; clear F; intro φ F
      refine nx ?_
      refine wp_ret ?_
      refine rt_tmp F rfl rfl ?_
      refine ⟨?_, M.bel⟩
      rw [decide_eq_true (ext_at (by omega) hp2_2 hs3i)]
    · rw [hs3] at F
      have hs3i := of_decide_eq_true hs3
      refine wp_cond_true (F.ev rfl) ?_
      refine wp_skip ?_
      refine nxq ?_
      refine wp_seq ?_
      refine wp_block ?_
      refine wp_seq ?_
      -- region 6
      refine rg_quiet M mixedOK (by kernel_rfl) ?_
      refine qt_pure F (wt0 rfl) (pu_move rfl (F.ev rfl)) rfl rfl ?_; clear F; intro φ F
      refine qt_pure F (wt0 rfl) (pu_move rfl (F.ev rfl)) rfl rfl ?_; clear F; intro φ F
      refine qt_pure F (wt0 rfl) (pu_ix rfl (F.ev rfl) (F.ev rfl) sl44 (M.av (i := 0) rfl) (by omega) (by omega)) rfl rfl ?_; clear F; intro φ F
      refine qt_rd F (wt0 rfl) (ld_el rfl (F.ev rfl) agg38 (fun _ h => RdV.below (M.av (i := 0) rfl) h) (by omega) (cS_at (by first | omega | (simp; done) | (simp; omega))) rfl) rfl rfl ?_; clear F; intro φ F
      refine qt_pure F (wt0 rfl) (pu_move rfl (F.ev rfl)) rfl rfl ?_; clear F; intro φ F
      refine qt_pure F (wt0 rfl) (pu_move rfl (F.ev rfl)) rfl rfl ?_; clear F; intro φ F
      refine qt_pure F (wt0 rfl) (pu_ix rfl (F.ev rfl) (F.ev rfl) sl44 (M.av (i := 1) rfl) (by omega) (by omega)) rfl rfl ?_; clear F; intro φ F
      refine qt_rd F (wt0 rfl) (ld_el rfl (F.ev rfl) agg38 (fun _ h => RdV.below (M.av (i := 1) rfl) h) (by omega) (cS_at (by first | omega | (simp; done) | (simp; omega))) rfl) rfl rfl ?_; clear F; intro φ F
      cases hs4 : (decide ((atS K i.toNat) = (atS L i.toNat)))
      · skip
        have hs4i := of_decide_eq_false hs4
        refine qt_pure F (wt0 rfl) (pu_neqA rfl (F.ev rfl) (F.ev rfl) eqg38 (fun w => eqS38 (atS K i.toNat) (atS L i.toNat) w)) rfl rfl ?_; clear F; intro φ F
        rw [hs4, show (!false) = true from rfl] at F
        refine wpQuiet_nil ?_
        clear M; intro ω M
        refine nxq ?_
        refine wp_cond_true (F.ev rfl) ?_
        refine wp_seq ?_
        -- region 7
        refine wp_region_lit ?_
        refine sq_pure F (wt0 rfl) (pu_assign rfl (evk)) rfl rfl ?_; clear F; intro φ F
        refine nx ?_
        refine wp_ret ?_
        refine nxrb ?_
        refine nxr ?_
        refine nxr ?_
        refine nxrb ?_
        refine nxr ?_
        refine rt_tmp F rfl rfl ?_
        refine ⟨?_, M.bel⟩
        rw [decide_eq_false (fun e => hs4i (by rw [e]))]
      · skip
        have hs4i := of_decide_eq_true hs4
        refine qt_pure F (wt0 rfl) (pu_neqA rfl (F.ev rfl) (F.ev rfl) eqg38 (fun w => eqS38 (atS K i.toNat) (atS L i.toNat) w)) rfl rfl ?_; clear F; intro φ F
        rw [hs4, show (!true) = false from rfl] at F
        refine wpQuiet_nil ?_
        clear M; intro ω M
        refine nxq ?_
        refine wp_cond_false (F.ev rfl) ?_
        refine wp_skip ?_
        refine nxb ?_
        refine nxq ?_
        -- region 5
        refine wp_region_lit ?_
        refine sq_pure F (wt0 rfl) (pu_move rfl (F.ev rfl)) rfl rfl ?_; clear F; intro φ F
        refine sq_pure F (wt0 rfl) (pu_add rfl (F.ev rfl) (evk) (by omega) (by omega)) rfl rfl ?_; clear F; intro φ F
        refine sq_pure F (wt0 rfl) (pu_assign rfl (F.ev rfl)) rfl rfl ?_; clear F; intro φ F
        refine wpList_nil ?_
        exact ⟨i + 1, by omega, (((F.nil.cons (F.get (k := 5) rfl)).cons (F.get (k := 1) rfl)).cons (F.get (k := 0) rfl)), M, by omega, by omega, all_succ hp2_2 hp2_0 (hs4i)⟩

set_option maxHeartbeats 1000000 in
theorem peach_any (K L : List St) (u v : Value) (w : World) (hk : RdS w u K) (hr : RdS w v L) (hlk : K.length ≤ 20000000) (hlen : L.length ≤ 20000000) :
    Calls Try.prog 21 #[u, v] w (fun e w' => ∃ v, e = .returned (.tuple #[v, .bool (eachB K L)]) ∧ Below w.heap.size w w' ∧ w'.ownsRow w.heap.size 38 2 v (eachL K L).length (cS (eachL K L))) := by
  refine enterF Try.func21 rfl 55 Try.ntmps21 [u, v] rfl [(0, u), (1, v)] rfl ?_
  intro φ F
  have M := Mm.start [] w
  replace M := M.addArg (hr) (fun h_ => by first | (simp; done) | assumption | exact d3 h_ | (simp_all; done))
  replace M := M.addArg (hk) (fun h_ => by first | (simp; done) | assumption | exact d3 h_ | (simp_all; done))
  refine wp_seq ?_
  -- region 0
  refine wp_region_lit ?_
  refine sq_pure F (wt0 rfl) (pu_assign rfl (evk)) rfl rfl ?_; clear F; intro φ F
  refine sq_pure F (wt0 rfl) (pu_assign rfl (evk)) rfl rfl ?_; clear F; intro φ F
  refine nx ?_
  refine wp_seq ?_
  refine wp_seq ?_
  -- region 1
  refine wp_region_lit ?_
  refine sq_pure F (wt0 rfl) (pu_move rfl (F.ev rfl)) rfl rfl ?_; clear F; intro φ F
  refine sq_call F M (wt0 rfl) rfl en33 (evc (F.ev rfl) evn) (prights_any K _ _ (M.av (i := 0) rfl) (by first | omega | (simp; done) | (simp; omega))) rfl rfl ?_; clear F M; intro φ ω F M
  cases hs1 : (rightsB K)
  · rw [hs1] at F
    refine sq_pure F (wt0 rfl) (pu_not rfl (F.ev rfl)) rfl rfl ?_; clear F; intro φ F
    rw [show (!false) = true from rfl] at F
    refine sq_pure F (wt0 rfl) (pu_move rfl (F.ev rfl)) rfl rfl ?_; clear F; intro φ F
    refine sq_skip F (wtn F rfl rfl rfl rfl rfl) rfl rfl ?_; clear F; intro φ F
    refine sq_skip F (wtn F rfl rfl rfl rfl rfl) rfl rfl ?_; clear F; intro φ F
    refine sq_skip F (wtn F rfl rfl rfl rfl rfl) rfl rfl ?_; clear F; intro φ F
    refine sq_pure F (wt0 rfl) (pu_pickt rfl (F.ev rfl) (evk)) rfl rfl ?_; clear F; intro φ F
    refine nx ?_
    refine wp_cond_true (F.ev rfl) ?_
    refine wp_seq ?_
    -- region 2
    refine wp_region_lit ?_
    refine sq_pure F (wt0 rfl) (pu_assign rfl (evk)) rfl rfl ?_; clear F; intro φ F
    refine sq_pure F (wt0 rfl) (pu_assign rfl (evk)) rfl rfl ?_; clear F; intro φ F
    refine nx ?_
    refine wp_ret ?_
    refine nxr ?_
    refine rt_tmp2 F rfl rfl rfl ?_
    have z := each_no (A := K) (B := L) (.inl hs1)
    rw [z.1, z.2]
    exact ⟨_, rfl, M.bel, World.ownsRow_nil _ _ _ _⟩
  · rw [hs1] at F
    refine sq_pure F (wt0 rfl) (pu_not rfl (F.ev rfl)) rfl rfl ?_; clear F; intro φ F
    rw [show (!true) = false from rfl] at F
    refine sq_pure F (wt0 rfl) (pu_move rfl (F.ev rfl)) rfl rfl ?_; clear F; intro φ F
    refine sq_pure F (wt1 F rfl rfl rfl rfl rfl) (pu_move rfl (F.ev rfl)) rfl rfl ?_; clear F; intro φ F
    refine sq_call F M (wt1 F rfl rfl rfl rfl rfl) rfl en33 (evc (F.ev rfl) evn) (prights_any L _ _ (M.av (i := 1) rfl) (by first | omega | (simp; done) | (simp; omega))) rfl rfl ?_; clear F M; intro φ ω F M
    cases hs2 : (rightsB L)
    · rw [hs2] at F
      refine sq_pure F (wt1 F rfl rfl rfl rfl rfl) (pu_not rfl (F.ev rfl)) rfl rfl ?_; clear F; intro φ F
      rw [show (!false) = true from rfl] at F
      refine sq_pure F (wt0 rfl) (pu_pickf rfl (F.ev rfl) (F.ev rfl)) rfl rfl ?_; clear F; intro φ F
      refine nx ?_
      refine wp_cond_true (F.ev rfl) ?_
      refine wp_seq ?_
      -- region 2
      refine wp_region_lit ?_
      refine sq_pure F (wt0 rfl) (pu_assign rfl (evk)) rfl rfl ?_; clear F; intro φ F
      refine sq_pure F (wt0 rfl) (pu_assign rfl (evk)) rfl rfl ?_; clear F; intro φ F
      refine nx ?_
      refine wp_ret ?_
      refine nxr ?_
      refine rt_tmp2 F rfl rfl rfl ?_
      have z := each_no (A := K) (B := L) (.inr hs2)
      rw [z.1, z.2]
      exact ⟨_, rfl, M.bel, World.ownsRow_nil _ _ _ _⟩
    · rw [hs2] at F
      refine sq_pure F (wt1 F rfl rfl rfl rfl rfl) (pu_not rfl (F.ev rfl)) rfl rfl ?_; clear F; intro φ F
      rw [show (!true) = false from rfl] at F
      refine sq_pure F (wt0 rfl) (pu_pickf rfl (F.ev rfl) (F.ev rfl)) rfl rfl ?_; clear F; intro φ F
      refine nx ?_
      refine wp_cond_false (F.ev rfl) ?_
      refine wp_skip ?_
      refine nxq ?_
      refine wp_seq ?_
      -- region 3
      refine wp_region_lit ?_
      have hA := (rights_iff.1 hs1).2
      have hB := (rights_iff.1 hs2).2
      refine sq_pure F (wt0 rfl) (pu_assign rfl (evk)) rfl rfl ?_; clear F; intro φ F
      refine nx ?_
      refine wp_seq ?_
      refine wp_seq ?_
      -- region 4
      refine wp_region_lit ?_
      refine sq_pure F (wt0 rfl) (pu_assign rfl (evk)) rfl rfl ?_; clear F; intro φ F
      refine nx ?_
      refine wp_block ?_
      refine lp (σ := Int) (fun i φ' w' => ∃ vq : Value, Fr φ' 55 [(0, u), (1, v), (6, vq), (7, .int .i64 i)] ∧ Mm [] w w' [.row 38 2 vq ((partP K L i.toNat (0 : Int).toNat).length) (cS (partP K L i.toNat (0 : Int).toNat)), .arg 2 u K.length (cS K), .arg 2 v L.length (cS L)] ∧ (0 ≤ i) ∧ (i ≤ ((K.length : Nat) : Int))) (fun i => (((K.length : Nat) : Int) - i).toNat) (0) ⟨(.slice none 0 0), ((((F.nil.cons (F.get (k := 7) rfl)).cons (F.get (k := 6) rfl)).cons (F.get (k := 1) rfl)).cons (F.get (k := 0) rfl)), (by rw [← part_zero]; exact M.nilRow 38 2), Int.le_refl _, by omega⟩ ?_
      clear F M
      rintro i φ ω ⟨vq, F, M, hp3_0, hp3_1⟩
      refine wp_seq ?_
      refine wp_seq ?_
      -- region 5
      refine wp_region_lit ?_
      refine sq_pure F (wt0 rfl) (pu_move rfl (F.ev rfl)) rfl rfl ?_; clear F; intro φ F
      refine sq_pure F (wt0 rfl) (pu_move rfl (F.ev rfl)) rfl rfl ?_; clear F; intro φ F
      refine sq_pure F (wt0 rfl) (pu_len rfl (F.ev rfl) sl44 (M.av (i := 1) rfl)) rfl rfl ?_; clear F; intro φ F
      refine sq_pure F (wt0 rfl) (pu_lss rfl (F.ev rfl) (F.ev rfl)) rfl rfl ?_; clear F; intro φ F
      refine nx ?_
      cases hs4 : (decide (i < ((K.length : Nat) : Int)))
      · rw [hs4] at F
        have hs4i := of_decide_eq_false hs4
        refine wp_cond_false (F.ev rfl) ?_
        refine wp_exit ?_
        refine nxe ?_
        refine nxe ?_
        refine nxm ?_
        refine nxq ?_
        refine wp_seq ?_
        -- region 13
        refine wp_region_lit ?_
        refine sq_pure F (wt0 rfl) (pu_move rfl (F.ev rfl)) rfl rfl ?_; clear F; intro φ F
        rw [part_end hs4i] at M
        replace M : Mm [] w ω [.row 38 2 vq ((sumsP K L).length) (cS (sumsP K L)), .arg 2 u K.length (cS K), .arg 2 v L.length (cS L)] := M
        have zs : (sumsP K L).length ≤ 5000 := by have z := part_len hA hB K.length 0; rw [show partP K L K.length 0 = sumsP K L by simp [partP]] at z; exact z
        refine sq_callN F M (wt0 rfl) rfl en30 (evc (F.ev rfl) evn) (pmin_any (sumsP K L) _ _ (M.rv (i := 0) rfl) (by first | omega | (simp; done) | (simp; omega))) rfl rfl ?_; clear F M; intro φ ω v1 F M
        refine sq_pure F (wt0 rfl) (pu_assign rfl (F.ev rfl)) rfl rfl ?_; clear F; intro φ F
        refine nx ?_
        refine wp_seq ?_
        refine wp_seq ?_
        -- region 14
        refine wp_region_lit ?_
        refine sq_pure F (wt0 rfl) (pu_move rfl (F.ev rfl)) rfl rfl ?_; clear F; intro φ F
        refine sq_pure F (wt0 rfl) (pu_len rfl (F.ev rfl) sl44 (M.rv (i := 0) rfl)) rfl rfl ?_; clear F; intro φ F
        refine sq_pure F (wt0 rfl) (pu_gtr rfl (F.ev rfl) (evk)) rfl rfl ?_; clear F; intro φ F
        refine nx ?_
        cases hs5 : (decide (64 < (((minL (sumsP K L)).length : Nat) : Int)))
        · rw [hs5] at F
          have hs5i := of_decide_eq_false hs5
          refine wp_cond_false (F.ev rfl) ?_
          refine wp_skip ?_
          refine nxq ?_
          refine wp_seq ?_
          -- region 16
          refine wp_region_lit ?_
          refine sq_pure F (wt0 rfl) (pu_move rfl (F.ev rfl)) rfl rfl ?_; clear F; intro φ F
          refine sq_pure F (wt0 rfl) (pu_assign rfl (F.ev rfl)) rfl rfl ?_; clear F; intro φ F
          refine sq_pure F (wt0 rfl) (pu_assign rfl (evk)) rfl rfl ?_; clear F; intro φ F
          refine nx ?_
          refine wp_ret ?_
          refine rt_tmp2 F rfl rfl rfl ?_
          have z := each_yes hs1 hs2 (by omega)
          rw [z.1, z.2]
          exact ⟨_, rfl, M.bel, M.owB (i := 0) rfl⟩
        · rw [hs5] at F
          have hs5i := of_decide_eq_true hs5
          refine wp_cond_true (F.ev rfl) ?_
          refine wp_seq ?_
          -- region 15
          refine wp_region_lit ?_
          refine sq_pure F (wt0 rfl) (pu_assign rfl (evk)) rfl rfl ?_; clear F; intro φ F
          refine sq_pure F (wt0 rfl) (pu_assign rfl (evk)) rfl rfl ?_; clear F; intro φ F
          refine nx ?_
          refine wp_ret ?_
          refine nxr ?_
          refine rt_tmp2 F rfl rfl rfl ?_
          have z := each_many (A := K) (B := L) (by omega)
          rw [z.1, z.2]
          exact ⟨_, rfl, M.bel, World.ownsRow_nil _ _ _ _⟩
      · rw [hs4] at F
        have hs4i := of_decide_eq_true hs4
        refine wp_cond_true (F.ev rfl) ?_
        refine wp_skip ?_
        refine nxq ?_
        refine wp_seq ?_
        refine wp_block ?_
        refine wp_seq ?_
        -- region 7
        refine wp_region_lit ?_
        refine sq_pure F (wt0 rfl) (pu_assign rfl (evk)) rfl rfl ?_; clear F; intro φ F
        refine nx ?_
        refine wp_block ?_
        refine lp (σ := Int) (fun k φ' w' => ∃ vs : Value, Fr φ' 55 [(0, u), (1, v), (7, .int .i64 i), (6, vs), (8, .int .i64 k)] ∧ Mm [] w w' [.row 38 2 vs ((partP K L i.toNat k.toNat).length) (cS (partP K L i.toNat k.toNat)), .arg 2 u K.length (cS K), .arg 2 v L.length (cS L)] ∧ (0 ≤ k) ∧ (k ≤ ((L.length : Nat) : Int)) ∧ ((partP K L i.toNat k.toNat).length ≤ 5000)) (fun k => (((L.length : Nat) : Int) - k).toNat) (0) ⟨vq, (((((F.nil.cons (F.get (k := 8) rfl)).cons (F.get (k := 6) rfl)).cons (F.get (k := 7) rfl)).cons (F.get (k := 1) rfl)).cons (F.get (k := 0) rfl)), M, Int.le_refl _, by omega, part_len (by omega) (by omega) _ _⟩ ?_
        clear F M
        rintro k φ ω ⟨vs, F, M, hp6_0, hp6_1, hp6_2⟩
        refine wp_seq ?_
        refine wp_seq ?_
        -- region 8
        refine wp_region_lit ?_
        refine sq_pure F (wt0 rfl) (pu_move rfl (F.ev rfl)) rfl rfl ?_; clear F; intro φ F
        refine sq_pure F (wt0 rfl) (pu_move rfl (F.ev rfl)) rfl rfl ?_; clear F; intro φ F
        refine sq_pure F (wt0 rfl) (pu_len rfl (F.ev rfl) sl44 (M.av (i := 2) rfl)) rfl rfl ?_; clear F; intro φ F
        refine sq_pure F (wt0 rfl) (pu_lss rfl (F.ev rfl) (F.ev rfl)) rfl rfl ?_; clear F; intro φ F
        refine nx ?_
        cases hs7 : (decide (k < ((L.length : Nat) : Int)))
        · rw [hs7] at F
          have hs7i := of_decide_eq_false hs7
          refine wp_cond_false (F.ev rfl) ?_
          refine wp_exit ?_
          refine nxe ?_
          refine nxe ?_
          refine nxm ?_
          refine nxb ?_
          refine nxq ?_
          -- region 6
          refine wp_region_lit ?_
          refine sq_pure F (wt0 rfl) (pu_move rfl (F.ev rfl)) rfl rfl ?_; clear F; intro φ F
          refine sq_pure F (wt0 rfl) (pu_add rfl (F.ev rfl) (evk) (by omega) (by omega)) rfl rfl ?_; clear F; intro φ F
          refine sq_pure F (wt0 rfl) (pu_assign rfl (F.ev rfl)) rfl rfl ?_; clear F; intro φ F
          refine wpList_nil ?_
          exact ⟨i + 1, by omega, vs, ((((F.nil.cons (F.get (k := 7) rfl)).cons (F.get (k := 6) rfl)).cons (F.get (k := 1) rfl)).cons (F.get (k := 0) rfl)), (by rw [← part_row (by omega) (by omega) hs7i]; exact M), by omega, by omega⟩
        · rw [hs7] at F
          have hs7i := of_decide_eq_true hs7
          refine wp_cond_true (F.ev rfl) ?_
          refine wp_skip ?_
          refine nxq ?_
          refine wp_seq ?_
          refine wp_block ?_
          refine wp_seq ?_
          -- region 10
          refine rg_J F 14 (fun Dd dv w' => (Dd 0 = true → dv 0 = u) ∧ (Dd 1 = true → dv 1 = .int .i64 i) ∧ (Dd 2 = true → dv 2 = .pointer (some ⟨gof u, oof u + (i.toNat * 2), none⟩)) ∧ (Dd 3 = true → dv 3 = .agg #[.int .i64 ((atS K i.toNat).e), .int .i64 ((atS K i.toNat).r)]) ∧ (Dd 4 = true → dv 4 = v) ∧ (Dd 5 = true → dv 5 = .int .i64 k) ∧ (Dd 6 = true → dv 6 = .pointer (some ⟨gof v, oof v + (k.toNat * 2), none⟩)) ∧ (Dd 7 = true → dv 7 = .agg #[.int .i64 ((atS L k.toNat).e), .int .i64 ((atS L k.toNat).r)]) ∧ (Dd 8 = true → dv 8 = .tuple #[.agg #[.int .i64 (((atS K i.toNat).after (atS L k.toNat)).e), .int .i64 (((atS K i.toNat).after (atS L k.toNat)).r)], .bool ((atS K i.toNat).afterB (atS L k.toNat))]) ∧ (Dd 9 = true → dv 9 = .tuple #[.agg #[.int .i64 (((atS K i.toNat).after (atS L k.toNat)).e), .int .i64 (((atS K i.toNat).after (atS L k.toNat)).r)], .bool ((atS K i.toNat).afterB (atS L k.toNat))]) ∧ (Dd 10 = true → dv 10 = .agg #[.int .i64 (((atS K i.toNat).after (atS L k.toNat)).e), .int .i64 (((atS K i.toNat).after (atS L k.toNat)).r)]) ∧ (Dd 11 = true → dv 11 = .bool ((atS K i.toNat).afterB (atS L k.toNat))) ∧ (Dd 12 = true → dv 12 = .pointer (some ⟨(pof (dv 12)), 0, none⟩)) ∧ Mm [] w w' [(if Dd 13 = true then .blk (pof (dv 12)) 38 #[.int .i64 (((atS K i.toNat).after (atS L k.toNat)).e), .int .i64 (((atS K i.toNat).after (atS L k.toNat)).r)] else (if Dd 12 = true then .blk (pof (dv 12)) 38 #[.int .i64 0, .int .i64 0] else .arg 1 (.slice none 0 0) 0 [])), .row 38 2 vs ((partP K L i.toNat k.toNat).length) (cS (partP K L i.toNat k.toNat)), .arg 2 u K.length (cS K), .arg 2 v L.length (cS L)]) (fun dv => ⟨(fun h => by cases h), (fun h => by cases h), (fun h => by cases h), (fun h => by cases h), (fun h => by cases h), (fun h => by cases h), (fun h => by cases h), (fun h => by cases h), (fun h => by cases h), (fun h => by cases h), (fun h => by cases h), (fun h => by cases h), (fun h => by cases h), by simpa using (M.drew).dead⟩) mixedOK (by kernel_rfl) rfl ⟨?_, ?_, ?_, ?_, ?_, ?_, ?_, ?_, ?_, ?_, ?_, ?_, ?_, ?_, trivial⟩ ?_
          · intro Dd φ1 dv ω1 ⟨h0, h1, h2, h3, h4, h5, h6, h7, h8, h9, h10, h11, h12, M⟩ hDi hdep hcl F1 hdone hold
            have F := (F1.cons (F.was hold (s := 0) rfl rfl))
            try simp only [hDi, Bool.false_eq_true, if_false, if_true, ite_true, ite_false] at M
            exact ⟨wt0 rfl, ow_run ((pu_move rfl (F.ev rfl)) ω1) ⟨_, rfl, newP, keepP rfl h1, keepP rfl h2, keepP rfl h3, keepP rfl h4, keepP rfl h5, keepP rfl h6, keepP rfl h7, keepP rfl h8, keepP rfl h9, keepP rfl h10, keepP rfl h11, keepP rfl h12, by simpa [setB, setV, hDi, Bool.false_eq_true, if_false, if_true, ite_true, ite_false] using M⟩⟩
          · intro Dd φ1 dv ω1 ⟨h0, h1, h2, h3, h4, h5, h6, h7, h8, h9, h10, h11, h12, M⟩ hDi hdep hcl F1 hdone hold
            have F := (F1.cons (F.was hold (s := 7) rfl rfl))
            try simp only [hDi, Bool.false_eq_true, if_false, if_true, ite_true, ite_false] at M
            exact ⟨wt0 rfl, ow_run ((pu_move rfl (F.ev rfl)) ω1) ⟨_, rfl, keepP rfl h0, newP, keepP rfl h2, keepP rfl h3, keepP rfl h4, keepP rfl h5, keepP rfl h6, keepP rfl h7, keepP rfl h8, keepP rfl h9, keepP rfl h10, keepP rfl h11, keepP rfl h12, by simpa [setB, setV, hDi, Bool.false_eq_true, if_false, if_true, ite_true, ite_false] using M⟩⟩
          · intro Dd φ1 dv ω1 ⟨h0, h1, h2, h3, h4, h5, h6, h7, h8, h9, h10, h11, h12, M⟩ hDi hdep hcl F1 hdone hold
            have d0 : Dd 0 = true := hdep 0 (by kernel_rfl)
            have d1 : Dd 1 = true := hdep 1 (by kernel_rfl)
            have F := ((F1.cons (k := 33) (hdone 0 _ _ d0 rfl rfl |>.trans (h0 d0))).cons (k := 34) (hdone 1 _ _ d1 rfl rfl |>.trans (h1 d1)))
            try simp only [d0, d1, hDi, Bool.false_eq_true, if_false, if_true, ite_true, ite_false] at M
            exact ⟨wt0 rfl, ow_run ((pu_ix rfl (F.ev rfl) (F.ev rfl) sl44 (M.av (i := 2) rfl) (by omega) (by omega)) ω1) ⟨_, rfl, keepP rfl h0, keepP rfl h1, newP, keepP rfl h3, keepP rfl h4, keepP rfl h5, keepP rfl h6, keepP rfl h7, keepP rfl h8, keepP rfl h9, keepP rfl h10, keepP rfl h11, keepP rfl h12, by simpa [setB, setV, d0, d1, hDi, Bool.false_eq_true, if_false, if_true, ite_true, ite_false] using M⟩⟩
          · intro Dd φ1 dv ω1 ⟨h0, h1, h2, h3, h4, h5, h6, h7, h8, h9, h10, h11, h12, M⟩ hDi hdep hcl F1 hdone hold
            have d2 : Dd 2 = true := hdep 2 (by kernel_rfl)
            have d0 : Dd 0 = true := hcl _ 0 d2 (by kernel_rfl)
            have d1 : Dd 1 = true := hcl _ 1 d2 (by kernel_rfl)
            have F := (F1.cons (k := 35) (hdone 2 _ _ d2 rfl rfl |>.trans (h2 d2)))
            try simp only [d0, d1, d2, hDi, Bool.false_eq_true, if_false, if_true, ite_true, ite_false] at M
            exact ⟨wt0 rfl, ow_run ((ld_el rfl (F.ev rfl) agg38 (fun _ e => e ▸ (M.av (i := 2) rfl)) (by omega) (cS_at (by first | omega | (simp; done) | (simp; omega))) rfl) ω1 rfl) ⟨_, rfl, keepP rfl h0, keepP rfl h1, keepP rfl h2, newP, keepP rfl h4, keepP rfl h5, keepP rfl h6, keepP rfl h7, keepP rfl h8, keepP rfl h9, keepP rfl h10, keepP rfl h11, keepP rfl h12, by simpa [setB, setV, d0, d1, d2, hDi, Bool.false_eq_true, if_false, if_true, ite_true, ite_false] using M⟩⟩
          · intro Dd φ1 dv ω1 ⟨h0, h1, h2, h3, h4, h5, h6, h7, h8, h9, h10, h11, h12, M⟩ hDi hdep hcl F1 hdone hold
            have F := (F1.cons (F.was hold (s := 1) rfl rfl))
            try simp only [hDi, Bool.false_eq_true, if_false, if_true, ite_true, ite_false] at M
            exact ⟨wt0 rfl, ow_run ((pu_move rfl (F.ev rfl)) ω1) ⟨_, rfl, keepP rfl h0, keepP rfl h1, keepP rfl h2, keepP rfl h3, newP, keepP rfl h5, keepP rfl h6, keepP rfl h7, keepP rfl h8, keepP rfl h9, keepP rfl h10, keepP rfl h11, keepP rfl h12, by simpa [setB, setV, hDi, Bool.false_eq_true, if_false, if_true, ite_true, ite_false] using M⟩⟩
          · intro Dd φ1 dv ω1 ⟨h0, h1, h2, h3, h4, h5, h6, h7, h8, h9, h10, h11, h12, M⟩ hDi hdep hcl F1 hdone hold
            have F := (F1.cons (F.was hold (s := 8) rfl rfl))
            try simp only [hDi, Bool.false_eq_true, if_false, if_true, ite_true, ite_false] at M
            exact ⟨wt0 rfl, ow_run ((pu_move rfl (F.ev rfl)) ω1) ⟨_, rfl, keepP rfl h0, keepP rfl h1, keepP rfl h2, keepP rfl h3, keepP rfl h4, newP, keepP rfl h6, keepP rfl h7, keepP rfl h8, keepP rfl h9, keepP rfl h10, keepP rfl h11, keepP rfl h12, by simpa [setB, setV, hDi, Bool.false_eq_true, if_false, if_true, ite_true, ite_false] using M⟩⟩
          · intro Dd φ1 dv ω1 ⟨h0, h1, h2, h3, h4, h5, h6, h7, h8, h9, h10, h11, h12, M⟩ hDi hdep hcl F1 hdone hold
            have d4 : Dd 4 = true := hdep 4 (by kernel_rfl)
            have d5 : Dd 5 = true := hdep 5 (by kernel_rfl)
            have F := ((F1.cons (k := 37) (hdone 4 _ _ d4 rfl rfl |>.trans (h4 d4))).cons (k := 38) (hdone 5 _ _ d5 rfl rfl |>.trans (h5 d5)))
            try simp only [d4, d5, hDi, Bool.false_eq_true, if_false, if_true, ite_true, ite_false] at M
            exact ⟨wt0 rfl, ow_run ((pu_ix rfl (F.ev rfl) (F.ev rfl) sl44 (M.av (i := 3) rfl) (by omega) (by omega)) ω1) ⟨_, rfl, keepP rfl h0, keepP rfl h1, keepP rfl h2, keepP rfl h3, keepP rfl h4, keepP rfl h5, newP, keepP rfl h7, keepP rfl h8, keepP rfl h9, keepP rfl h10, keepP rfl h11, keepP rfl h12, by simpa [setB, setV, d4, d5, hDi, Bool.false_eq_true, if_false, if_true, ite_true, ite_false] using M⟩⟩
          · intro Dd φ1 dv ω1 ⟨h0, h1, h2, h3, h4, h5, h6, h7, h8, h9, h10, h11, h12, M⟩ hDi hdep hcl F1 hdone hold
            have d6 : Dd 6 = true := hdep 6 (by kernel_rfl)
            have d4 : Dd 4 = true := hcl _ 4 d6 (by kernel_rfl)
            have d5 : Dd 5 = true := hcl _ 5 d6 (by kernel_rfl)
            have F := (F1.cons (k := 39) (hdone 6 _ _ d6 rfl rfl |>.trans (h6 d6)))
            try simp only [d4, d5, d6, hDi, Bool.false_eq_true, if_false, if_true, ite_true, ite_false] at M
            exact ⟨wt0 rfl, ow_run ((ld_el rfl (F.ev rfl) agg38 (fun _ e => e ▸ (M.av (i := 3) rfl)) (by omega) (cS_at (by first | omega | (simp; done) | (simp; omega))) rfl) ω1 rfl) ⟨_, rfl, keepP rfl h0, keepP rfl h1, keepP rfl h2, keepP rfl h3, keepP rfl h4, keepP rfl h5, keepP rfl h6, newP, keepP rfl h8, keepP rfl h9, keepP rfl h10, keepP rfl h11, keepP rfl h12, by simpa [setB, setV, d4, d5, d6, hDi, Bool.false_eq_true, if_false, if_true, ite_true, ite_false] using M⟩⟩
          · intro Dd φ1 dv ω1 ⟨h0, h1, h2, h3, h4, h5, h6, h7, h8, h9, h10, h11, h12, M⟩ hDi hdep hcl F1 hdone hold
            have d3 : Dd 3 = true := hdep 3 (by kernel_rfl)
            have d7 : Dd 7 = true := hdep 7 (by kernel_rfl)
            have d2 : Dd 2 = true := hcl _ 2 d3 (by kernel_rfl)
            have d6 : Dd 6 = true := hcl _ 6 d7 (by kernel_rfl)
            have d0 : Dd 0 = true := hcl _ 0 d2 (by kernel_rfl)
            have d1 : Dd 1 = true := hcl _ 1 d2 (by kernel_rfl)
            have d4 : Dd 4 = true := hcl _ 4 d6 (by kernel_rfl)
            have d5 : Dd 5 = true := hcl _ 5 d6 (by kernel_rfl)
            have F := ((F1.cons (k := 36) (hdone 3 _ _ d3 rfl rfl |>.trans (h3 d3))).cons (k := 40) (hdone 7 _ _ d7 rfl rfl |>.trans (h7 d7)))
            try simp only [d0, d1, d2, d3, d4, d5, d6, d7, hDi, Bool.false_eq_true, if_false, if_true, ite_true, ite_false] at M
            exact ⟨wt0 rfl, ow_callZ rfl en19 (evc (F.ev rfl) (evc (F.ev rfl) evn)) (Z := fun x w2 => x = .tuple #[.agg #[.int .i64 (((atS K i.toNat).after (atS L k.toNat)).e), .int .i64 (((atS K i.toNat).after (atS L k.toNat)).r)], .bool ((atS K i.toNat).afterB (atS L k.toNat))] ∧ Below ω1.heap.size ω1 w2) (Calls.mono (pthen_any (atS K i.toNat) (atS L k.toNat) _) (fun e w2 h => ⟨_, h.1, rfl, h.2⟩)) (fun x w2 ⟨hx2, hb2⟩ => by subst hx2; have M2 := M.below hb2; exact ⟨_, rfl, keepP rfl h0, keepP rfl h1, keepP rfl h2, keepP rfl h3, keepP rfl h4, keepP rfl h5, keepP rfl h6, keepP rfl h7, newP, keepP rfl h9, keepP rfl h10, keepP rfl h11, keepP rfl h12, by simpa [setB, setV, d0, d1, d2, d3, d4, d5, d6, d7, hDi, Bool.false_eq_true, if_false, if_true, ite_true, ite_false] using M2⟩)⟩
          · intro Dd φ1 dv ω1 ⟨h0, h1, h2, h3, h4, h5, h6, h7, h8, h9, h10, h11, h12, M⟩ hDi hdep hcl F1 hdone hold
            have d8 : Dd 8 = true := hdep 8 (by kernel_rfl)
            have d3 : Dd 3 = true := hcl _ 3 d8 (by kernel_rfl)
            have d7 : Dd 7 = true := hcl _ 7 d8 (by kernel_rfl)
            have d2 : Dd 2 = true := hcl _ 2 d3 (by kernel_rfl)
            have d6 : Dd 6 = true := hcl _ 6 d7 (by kernel_rfl)
            have d0 : Dd 0 = true := hcl _ 0 d2 (by kernel_rfl)
            have d1 : Dd 1 = true := hcl _ 1 d2 (by kernel_rfl)
            have d4 : Dd 4 = true := hcl _ 4 d6 (by kernel_rfl)
            have d5 : Dd 5 = true := hcl _ 5 d6 (by kernel_rfl)
            have F := (F1.cons (k := 41) (hdone 8 _ _ d8 rfl rfl |>.trans (h8 d8)))
            try simp only [d0, d1, d2, d3, d4, d5, d6, d7, d8, hDi, Bool.false_eq_true, if_false, if_true, ite_true, ite_false] at M
            exact ⟨wt0 rfl, ow_run ((pu_move rfl (F.ev rfl)) ω1) ⟨_, rfl, keepP rfl h0, keepP rfl h1, keepP rfl h2, keepP rfl h3, keepP rfl h4, keepP rfl h5, keepP rfl h6, keepP rfl h7, keepP rfl h8, newP, keepP rfl h10, keepP rfl h11, keepP rfl h12, by simpa [setB, setV, d0, d1, d2, d3, d4, d5, d6, d7, d8, hDi, Bool.false_eq_true, if_false, if_true, ite_true, ite_false] using M⟩⟩
          · intro Dd φ1 dv ω1 ⟨h0, h1, h2, h3, h4, h5, h6, h7, h8, h9, h10, h11, h12, M⟩ hDi hdep hcl F1 hdone hold
            have d9 : Dd 9 = true := hdep 9 (by kernel_rfl)
            have d8 : Dd 8 = true := hcl _ 8 d9 (by kernel_rfl)
            have d3 : Dd 3 = true := hcl _ 3 d8 (by kernel_rfl)
            have d7 : Dd 7 = true := hcl _ 7 d8 (by kernel_rfl)
            have d2 : Dd 2 = true := hcl _ 2 d3 (by kernel_rfl)
            have d6 : Dd 6 = true := hcl _ 6 d7 (by kernel_rfl)
            have d0 : Dd 0 = true := hcl _ 0 d2 (by kernel_rfl)
            have d1 : Dd 1 = true := hcl _ 1 d2 (by kernel_rfl)
            have d4 : Dd 4 = true := hcl _ 4 d6 (by kernel_rfl)
            have d5 : Dd 5 = true := hcl _ 5 d6 (by kernel_rfl)
            have F := (F1.cons (k := 32) (hdone 9 _ _ d9 rfl rfl |>.trans (h9 d9)))
            try simp only [d0, d1, d2, d3, d4, d5, d6, d7, d8, d9, hDi, Bool.false_eq_true, if_false, if_true, ite_true, ite_false] at M
            exact ⟨wt0 rfl, ow_run ((pu_extract rfl (F.ev rfl) rfl) ω1) ⟨_, rfl, keepP rfl h0, keepP rfl h1, keepP rfl h2, keepP rfl h3, keepP rfl h4, keepP rfl h5, keepP rfl h6, keepP rfl h7, keepP rfl h8, keepP rfl h9, newP, keepP rfl h11, keepP rfl h12, by simpa [setB, setV, d0, d1, d2, d3, d4, d5, d6, d7, d8, d9, hDi, Bool.false_eq_true, if_false, if_true, ite_true, ite_false] using M⟩⟩
          · intro Dd φ1 dv ω1 ⟨h0, h1, h2, h3, h4, h5, h6, h7, h8, h9, h10, h11, h12, M⟩ hDi hdep hcl F1 hdone hold
            have d9 : Dd 9 = true := hdep 9 (by kernel_rfl)
            have d8 : Dd 8 = true := hcl _ 8 d9 (by kernel_rfl)
            have d3 : Dd 3 = true := hcl _ 3 d8 (by kernel_rfl)
            have d7 : Dd 7 = true := hcl _ 7 d8 (by kernel_rfl)
            have d2 : Dd 2 = true := hcl _ 2 d3 (by kernel_rfl)
            have d6 : Dd 6 = true := hcl _ 6 d7 (by kernel_rfl)
            have d0 : Dd 0 = true := hcl _ 0 d2 (by kernel_rfl)
            have d1 : Dd 1 = true := hcl _ 1 d2 (by kernel_rfl)
            have d4 : Dd 4 = true := hcl _ 4 d6 (by kernel_rfl)
            have d5 : Dd 5 = true := hcl _ 5 d6 (by kernel_rfl)
            have F := (F1.cons (k := 32) (hdone 9 _ _ d9 rfl rfl |>.trans (h9 d9)))
            try simp only [d0, d1, d2, d3, d4, d5, d6, d7, d8, d9, hDi, Bool.false_eq_true, if_false, if_true, ite_true, ite_false] at M
            exact ⟨wt0 rfl, ow_run ((pu_extract rfl (F.ev rfl) rfl) ω1) ⟨_, rfl, keepP rfl h0, keepP rfl h1, keepP rfl h2, keepP rfl h3, keepP rfl h4, keepP rfl h5, keepP rfl h6, keepP rfl h7, keepP rfl h8, keepP rfl h9, keepP rfl h10, newP, keepP rfl h12, by simpa [setB, setV, d0, d1, d2, d3, d4, d5, d6, d7, d8, d9, hDi, Bool.false_eq_true, if_false, if_true, ite_true, ite_false] using M⟩⟩
          · intro Dd φ1 dv ω1 ⟨h0, h1, h2, h3, h4, h5, h6, h7, h8, h9, h10, h11, h12, M⟩ hDi hdep hcl F1 hdone hold
            have f13 : Dd 13 = false := notYet hcl (i := 12) (by kernel_rfl) hDi
            have F := F1
            try simp only [hDi, f13, Bool.false_eq_true, if_false, if_true, ite_true, ite_false] at M
            refine ⟨wt0 rfl, ow_allocB M rfl z38 (i := 0) rfl (fun x w2 hx2 M2 => ?_)⟩
            exact ⟨_, rfl, keepP rfl h0, keepP rfl h1, keepP rfl h2, keepP rfl h3, keepP rfl h4, keepP rfl h5, keepP rfl h6, keepP rfl h7, keepP rfl h8, keepP rfl h9, keepP rfl h10, keepP rfl h11, (fun _ => by simpa [setV] using hx2), by simpa [setB, setV, hDi, f13, Bool.false_eq_true, if_false, if_true, ite_true, ite_false] using M2⟩
          · intro Dd φ1 dv ω1 ⟨h0, h1, h2, h3, h4, h5, h6, h7, h8, h9, h10, h11, h12, M⟩ hDi hdep hcl F1 hdone hold
            have d12 : Dd 12 = true := hdep 12 (by kernel_rfl)
            have d10 : Dd 10 = true := hdep 10 (by kernel_rfl)
            have d9 : Dd 9 = true := hcl _ 9 d10 (by kernel_rfl)
            have d8 : Dd 8 = true := hcl _ 8 d9 (by kernel_rfl)
            have d3 : Dd 3 = true := hcl _ 3 d8 (by kernel_rfl)
            have d7 : Dd 7 = true := hcl _ 7 d8 (by kernel_rfl)
            have d2 : Dd 2 = true := hcl _ 2 d3 (by kernel_rfl)
            have d6 : Dd 6 = true := hcl _ 6 d7 (by kernel_rfl)
            have d0 : Dd 0 = true := hcl _ 0 d2 (by kernel_rfl)
            have d1 : Dd 1 = true := hcl _ 1 d2 (by kernel_rfl)
            have d4 : Dd 4 = true := hcl _ 4 d6 (by kernel_rfl)
            have d5 : Dd 5 = true := hcl _ 5 d6 (by kernel_rfl)
            have F := ((F1.cons (k := 9) (hdone 12 _ _ d12 rfl rfl |>.trans (h12 d12))).cons (k := 42) (hdone 10 _ _ d10 rfl rfl |>.trans (h10 d10)))
            try simp only [d0, d1, d2, d3, d4, d5, d6, d7, d8, d9, d10, d12, hDi, Bool.false_eq_true, if_false, if_true, ite_true, ite_false] at M
            exact ⟨wt0 rfl, ow_stA M rfl (F.ev rfl) (F.ev rfl) (i := 0) rfl agg38 rfl rfl rfl rfl (fun x w2 M2 => ⟨x, rfl, keepP rfl h0, keepP rfl h1, keepP rfl h2, keepP rfl h3, keepP rfl h4, keepP rfl h5, keepP rfl h6, keepP rfl h7, keepP rfl h8, keepP rfl h9, keepP rfl h10, keepP rfl h11, keepP rfl h12, by simpa [setB, setV, d0, d1, d2, d3, d4, d5, d6, d7, d8, d9, d10, d12, hDi, Bool.false_eq_true, if_false, if_true, ite_true, ite_false] using M2⟩)⟩
          clear M; rintro dv φ ω ⟨h0, h1, h2, h3, h4, h5, h6, h7, h8, h9, h10, h11, h12, M⟩ F
          simp only [hvL, List.take_succ_cons, List.take_zero] at F
          have hq12 := h12 (by simp)
          have F12 := F.get (k := 9) rfl
          replace F := F.cons (F12.trans hq12)
          rw [h11 (by simp)] at F
          rw [h10 (by simp)] at F
          rw [h9 (by simp)] at F
          rw [h8 (by simp)] at F
          rw [h7 (by simp)] at F
          rw [h6 (by simp)] at F
          rw [h5 (by simp)] at F
          rw [h4 (by simp)] at F
          rw [h3 (by simp)] at F
          rw [h2 (by simp)] at F
          rw [h1 (by simp)] at F
          rw [h0 (by simp)] at F
          replace M : Mm [] w ω [.blk (pof (dv 12)) 38 #[.int .i64 (((atS K i.toNat).after (atS L k.toNat)).e), .int .i64 (((atS K i.toNat).after (atS L k.toNat)).r)], .row 38 2 vs ((partP K L i.toNat k.toNat).length) (cS (partP K L i.toNat k.toNat)), .arg 2 u K.length (cS K), .arg 2 v L.length (cS L)] := by simpa using M
          clear h0 h1 h2 h3 h4 h5 h6 h7 h8 h9 h10 h11 h12
          generalize pof (dv 12) = g1 at F M
          refine sq_pure F (wt0 rfl) (pu_assign rfl (F.ev rfl)) rfl rfl ?_; clear F; intro φ F
          refine nx ?_
          refine wp_seq ?_
          -- region 11
          refine wp_region_lit ?_
          refine sq_pure F (wt0 rfl) (pu_move rfl (F.ev rfl)) rfl rfl ?_; clear F; intro φ F
          refine nx ?_
          cases hs8 : ((atS K i.toNat).afterB (atS L k.toNat))
          · rw [hs8] at F
            refine wp_cond_false (F.ev rfl) ?_
            refine wp_skip ?_
            refine nxb ?_
            refine nxq ?_
            -- region 9
            refine wp_region_lit ?_
            refine sq_pure F (wt0 rfl) (pu_move rfl (F.ev rfl)) rfl rfl ?_; clear F; intro φ F
            refine sq_pure F (wt0 rfl) (pu_add rfl (F.ev rfl) (evk) (by omega) (by omega)) rfl rfl ?_; clear F; intro φ F
            refine sq_pure F (wt0 rfl) (pu_assign rfl (F.ev rfl)) rfl rfl ?_; clear F; intro φ F
            refine wpList_nil ?_
            exact ⟨k + 1, by omega, vs, (((((F.nil.cons (F.get (k := 8) rfl)).cons (F.get (k := 6) rfl)).cons (F.get (k := 7) rfl)).cons (F.get (k := 1) rfl)).cons (F.get (k := 0) rfl)), (by rw [← part_no (by omega) (by omega) hs8]; exact (M.sub (.cons _ (List.Sublist.refl _)))), by omega, by omega, part_len (by omega) (by omega) _ _⟩
          · rw [hs8] at F
            refine wp_cond_true (F.ev rfl) ?_
            -- region 12
            refine wp_region_lit ?_
            refine sq_pure F (wt0 rfl) (pu_move rfl (F.ev rfl)) rfl rfl ?_; clear F; intro φ F
            refine sq_rd F (wt0 rfl) (ld_agg rfl (F.ev rfl) agg38 (M.rd (i := 0) rfl) rfl) rfl rfl ?_; clear F; intro φ F
            refine sq_bs (e := 38) (m := 2) (k := 1) (parts := #[]) (cs := #[.int .i64 (((atS K i.toNat).after (atS L k.toNat)).e), .int .i64 (((atS K i.toNat).after (atS L k.toNat)).r)]) F M (wt0 rfl) (bs44_1 rfl (F.ev rfl) _) (by omega) rfl rfl rfl ?_; clear F M; intro φ ω g2 F M
            replace M : Mm [] w ω [.row 38 2 (.slice (some ⟨g2, 0, none⟩) 1 1) 1 (cS [((atS K i.toNat).after (atS L k.toNat))]), .blk g1 38 #[.int .i64 (((atS K i.toNat).after (atS L k.toNat)).e), .int .i64 (((atS K i.toNat).after (atS L k.toNat)).r)], .row 38 2 vs ((partP K L i.toNat k.toNat).length) (cS (partP K L i.toNat k.toNat)), .arg 2 u K.length (cS K), .arg 2 v L.length (cS L)] := M
            refine sq_app F M (wt0 rfl) rfl sl44.1 el38 (F.ev rfl) (i := 2) rfl (F.ev rfl) (M.rv (i := 0) rfl) (cS_ones _) (by first | omega | (simp only [List.length_append, List.length_cons, List.length_nil, List.length_singleton]; omega)) (by omega) rfl rfl ?_; clear F M; intro φ ω v2 F M
            replace M : Mm [] w ω [.row 38 2 (.slice (some ⟨g2, 0, none⟩) 1 1) 1 (cS [((atS K i.toNat).after (atS L k.toNat))]), .blk g1 38 #[.int .i64 (((atS K i.toNat).after (atS L k.toNat)).e), .int .i64 (((atS K i.toNat).after (atS L k.toNat)).r)], .row 38 2 v2 (((partP K L i.toNat k.toNat).length) + 1) ((cS (partP K L i.toNat k.toNat)) ++ (cS [((atS K i.toNat).after (atS L k.toNat))])), .arg 2 u K.length (cS K), .arg 2 v L.length (cS L)] := M
            rw [← cS_app, show ((partP K L i.toNat k.toNat).length) + 1 = ((partP K L i.toNat k.toNat) ++ [((atS K i.toNat).after (atS L k.toNat))]).length from by first | rfl | (simp; done) | (simp; omega)] at M
            refine sq_pure F (wt0 rfl) (pu_assign rfl (F.ev rfl)) rfl rfl ?_; clear F; intro φ F
            refine wpList_nil ?_
            refine nxb ?_
            refine nxq ?_
            -- region 9
            refine wp_region_lit ?_
            refine sq_pure F (wt0 rfl) (pu_move rfl (F.ev rfl)) rfl rfl ?_; clear F; intro φ F
            refine sq_pure F (wt0 rfl) (pu_add rfl (F.ev rfl) (evk) (by omega) (by omega)) rfl rfl ?_; clear F; intro φ F
            refine sq_pure F (wt0 rfl) (pu_assign rfl (F.ev rfl)) rfl rfl ?_; clear F; intro φ F
            refine wpList_nil ?_
            exact ⟨k + 1, by omega, v2, (((((F.nil.cons (F.get (k := 8) rfl)).cons (F.get (k := 6) rfl)).cons (F.get (k := 7) rfl)).cons (F.get (k := 1) rfl)).cons (F.get (k := 0) rfl)), (by rw [← part_yes (by omega) (by omega) hs8]; exact (M.sub (.cons _ (.cons _ (List.Sublist.refl _))))), by omega, by omega, part_len (by omega) (by omega) _ _⟩

end Go.Proofs.Ytbleefegobmboaa
