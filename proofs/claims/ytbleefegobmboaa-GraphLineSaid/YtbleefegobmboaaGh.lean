/- Laws of layer 6. Made by walks/graphlaws.py. -/
import Derived.Test.YtbleefegobmboaaGa
import Derived.Test.YtbleefegobmboaaRk
namespace Go.Proofs.Ytbleefegobmboaa
open Go.RowKit
set_option maxRecDepth 100000
set_option linter.unusedSimpArgs false
set_option linter.unusedVariables false

set_option maxHeartbeats 4000000 in
theorem whole_any (L : List (List (List St))) (u : Value) (ru : List Value) (su : List (List Value)) (n : Int) (w : World) (h : Rd3 u ru su L w) (hn : (L.length : Int) = n) (hq : ∀ q, q < L.length → ((at3 L q).length : Int) = n) (hs : Sm3 L) :
    Calls Try.prog 18 #[u, .int .i64 n] w fun e w' => e = .returned (.bool true) ∧ Below w.heap.size w w' := by
  refine enterF Try.func18 rfl 22 Try.ntmps18 [u, .int .i64 n] rfl [(0, u), (1, .int .i64 n)] rfl ?_
  intro φ F
  have M := Mm.start [] w
  replace M := M.addExt (fp := (fp3 u ru su L)) (Φ := Rd3 u ru su L) (h) (Rd3.loc _ _ _ _) (by first | (simp; done) | assumption)
  refine wp_seq ?_
  -- region 0
  refine wp_region_lit ?_
  refine sq_pure F (wt0 rfl) (pu_assign rfl (evk)) rfl rfl ?_; clear F; intro φ F
  refine nx ?_
  refine wp_seq ?_
  refine wp_seq ?_
  have hr := h.inn.lr
  have hl := hs.1
  -- region 1
  refine wp_region_lit ?_
  refine sq_pure F (wt0 rfl) (pu_move rfl (F.ev rfl)) rfl rfl ?_; clear F; intro φ F
  refine sq_pure F (wt0 rfl) (pu_len rfl (F.ev rfl) sl32 (Rd3.top (M.xv (i := 0) rfl))) rfl rfl ?_; clear F; intro φ F
  refine sq_pure F (wt0 rfl) (pu_move rfl (F.ev rfl)) rfl rfl ?_; clear F; intro φ F
  cases hs1 : (decide (((L.length : Nat) : Int) = n))
  · skip
    have hs1i := of_decide_eq_false hs1
    refine sq_pure F (wt0 rfl) (pu_neqI rfl (F.ev rfl) (F.ev rfl)) rfl rfl ?_; clear F; intro φ F
    rw [hs1, show (!false) = true from rfl] at F
    refine nx ?_
    refine wp_cond_true (F.ev rfl) ?_
    refine wp_seq ?_
    -- region 2
    refine wp_region_lit ?_
    refine sq_pure F (wt0 rfl) (pu_assign rfl (evk)) rfl rfl ?_; clear F; intro φ F
    refine nx ?_
    refine wp_ret ?_
    refine nxr ?_
    refine rt_tmp F rfl rfl ?_
    exfalso; clear F M; omega
  · skip
    have hs1i := of_decide_eq_true hs1
    refine sq_pure F (wt0 rfl) (pu_neqI rfl (F.ev rfl) (F.ev rfl)) rfl rfl ?_; clear F; intro φ F
    rw [hs1, show (!true) = false from rfl] at F
    refine nx ?_
    refine wp_cond_false (F.ev rfl) ?_
    refine wp_skip ?_
    refine nxq ?_
    refine wp_seq ?_
    refine wp_seq ?_
    -- region 3
    refine wp_region_lit ?_
    refine sq_pure F (wt0 rfl) (pu_assign rfl (evk)) rfl rfl ?_; clear F; intro φ F
    refine nx ?_
    refine wp_block ?_
    refine lp (σ := Int) (fun i φ' w' => Fr φ' 22 [(0, u), (1, .int .i64 n), (5, .int .i64 i)] ∧ Mm [] w w' [.ext (fp3 u ru su L) (Rd3 u ru su L)] ∧ (0 ≤ i) ∧ (i ≤ n)) (fun i => (n - i).toNat) (0) ⟨(((F.nil.cons (F.get (k := 5) rfl)).cons (F.get (k := 1) rfl)).cons (F.get (k := 0) rfl)), M, Int.le_refl _, by omega⟩ ?_
    clear F M
    rintro i φ ω ⟨F, M, hp2_0, hp2_1⟩
    refine wp_seq ?_
    refine wp_seq ?_
    -- region 4
    refine wp_region_lit ?_
    refine sq_pure F (wt0 rfl) (pu_move rfl (F.ev rfl)) rfl rfl ?_; clear F; intro φ F
    refine sq_pure F (wt0 rfl) (pu_move rfl (F.ev rfl)) rfl rfl ?_; clear F; intro φ F
    refine sq_pure F (wt0 rfl) (pu_lss rfl (F.ev rfl) (F.ev rfl)) rfl rfl ?_; clear F; intro φ F
    refine nx ?_
    cases hs3 : (decide (i < n))
    · rw [hs3] at F
      have hs3i := of_decide_eq_false hs3
      refine wp_cond_false (F.ev rfl) ?_
      refine wp_exit ?_
      refine nxe ?_
      refine nxe ?_
      refine nxm ?_
      refine nxq ?_
      refine wp_seq ?_
      -- region 8
      refine wp_region_lit ?_
      refine sq_pure F (wt0 rfl) (pu_assign rfl (evk)) rfl rfl ?_; clear F; intro φ F
      refine nx ?_
      refine wp_ret ?_
      refine rt_tmp F rfl rfl ?_
      exact ⟨rfl, M.bel⟩
    · rw [hs3] at F
      have hs3i := of_decide_eq_true hs3
      refine wp_cond_true (F.ev rfl) ?_
      refine wp_skip ?_
      refine nxq ?_
      refine wp_seq ?_
      refine wp_block ?_
      refine wp_seq ?_
      have hv := h.inn.lv i.toNat (by omega)
      have hm := hs.2.1 i.toNat
      have hq := hq i.toNat (by omega)
      -- region 6
      refine wp_region_lit ?_
      refine sq_pure F (wt0 rfl) (pu_move rfl (F.ev rfl)) rfl rfl ?_; clear F; intro φ F
      refine sq_pure F (wt0 rfl) (pu_move rfl (F.ev rfl)) rfl rfl ?_; clear F; intro φ F
      refine sq_pure F (wt0 rfl) (pu_ix rfl (F.ev rfl) (F.ev rfl) sl32 (Rd3.top (M.xv (i := 0) rfl)) (by omega) (by omega)) rfl rfl ?_; clear F; intro φ F
      refine sq_rd F (wt0 rfl) (ld_el1 rfl (F.ev rfl) one45 (fun _ e => e ▸ (Rd3.top (M.xv (i := 0) rfl))) (by omega) (cV_at (L := ru) (by first | omega | (simp; done) | (simp; omega)))) rfl rfl ?_; clear F; intro φ F
      refine sq_pure F (wt0 rfl) (pu_len rfl (F.ev rfl) sl45 (In3.row (Rd3.inn (M.xv (i := 0) rfl)) i.toNat (by first | omega | assumption))) rfl rfl ?_; clear F; intro φ F
      refine sq_pure F (wt0 rfl) (pu_move rfl (F.ev rfl)) rfl rfl ?_; clear F; intro φ F
      cases hs4 : (decide ((((at3 L i.toNat).length : Nat) : Int) = n))
      · skip
        have hs4i := of_decide_eq_false hs4
        refine sq_pure F (wt0 rfl) (pu_neqI rfl (F.ev rfl) (F.ev rfl)) rfl rfl ?_; clear F; intro φ F
        rw [hs4, show (!false) = true from rfl] at F
        refine nx ?_
        refine wp_cond_true (F.ev rfl) ?_
        refine wp_seq ?_
        -- region 7
        refine wp_region_lit ?_
        refine sq_pure F (wt0 rfl) (pu_assign rfl (evk)) rfl rfl ?_; clear F; intro φ F
        refine nx ?_
        refine wp_ret ?_
        refine nxrb ?_
        refine nxr ?_
        refine nxr ?_
        refine nxrb ?_
        refine nxr ?_
        refine rt_tmp F rfl rfl ?_
        exfalso; clear F M; omega
      · skip
        have hs4i := of_decide_eq_true hs4
        refine sq_pure F (wt0 rfl) (pu_neqI rfl (F.ev rfl) (F.ev rfl)) rfl rfl ?_; clear F; intro φ F
        rw [hs4, show (!true) = false from rfl] at F
        refine nx ?_
        refine wp_cond_false (F.ev rfl) ?_
        refine wp_skip ?_
        refine nxb ?_
        refine nxq ?_
        -- region 5
        refine wp_region_lit ?_
        refine sq_pure F (wt0 rfl) (pu_move rfl (F.ev rfl)) rfl rfl ?_; clear F; intro φ F
        refine sq_pure F (wt0 rfl) (pu_add rfl (F.ev rfl) (evk) (by omega) (by omega)) rfl rfl ?_; clear F; intro φ F
        refine sq_pure F (wt0 rfl) (pu_assign rfl (F.ev rfl)) rfl rfl ?_; clear F; intro φ F
        refine wpList_nil ?_
        exact ⟨i + 1, by omega, (((F.nil.cons (F.get (k := 5) rfl)).cons (F.get (k := 1) rfl)).cons (F.get (k := 0) rfl)), M, by omega, by omega⟩

end Go.Proofs.Ytbleefegobmboaa
