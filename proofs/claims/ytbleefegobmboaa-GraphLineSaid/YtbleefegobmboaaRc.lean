/- The reference of layer 6: the closure. Made by walks/ref06c.py. -/
import Derived.Test.YtbleefegobmboaaRg
import Derived.Test.YtbleefegobmboaaGm
namespace Go.Proofs.Ytbleefegobmboaa
open Go.RowKit
set_option maxRecDepth 100000
set_option linter.unusedSimpArgs false
set_option linter.unusedVariables false

set_option maxRecDepth 100000 in
set_option maxHeartbeats 4000000 in
theorem rclosure_any (n : Int) (ev : Value) (E : List Ed) (w : World) (hr : RdG w ev E) (hlen : E.length ≤ 20000000) :
    Calls Try.prog 16 #[.agg #[.int .i64 n, ev]] w (MakesE w fun u x' => ∃ v rs vss, u = .tuple #[v, .int .i64 (cloG n E).2] ∧ x' = .own (fp3 v rs vss (cloG n E).1) (Rd3 v rs vss (cloG n E).1)) := by
  refine enterF Try.func16 rfl 155 Try.ntmps16 [.agg #[.int .i64 n, ev]] rfl [(0, .agg #[.int .i64 n, ev])] rfl ?_
  intro φ F
  have M := Mm.start [] w
  replace M := M.addArg (hr) (fun h_ => by first | (simp; done) | assumption | exact d3 h_ | (simp_all; done))
  refine wp_seq ?_
  -- region 0
  refine wp_region_lit ?_
  refine sq_box F M (wt0 rfl) rfl (F.ev rfl) (cs := #[.int .i64 n, ev]) rfl rfl rfl ?_; clear F M; intro φ ω g1 F M
  refine sq_pure F (wt0 rfl) (pu_assign rfl (evk)) rfl rfl ?_; clear F; intro φ F
  refine sq_pure F (wt0 rfl) (pu_assign rfl (evk)) rfl rfl ?_; clear F; intro φ F
  refine nx ?_
  refine wp_seq ?_
  -- region 1
  refine wp_region_lit ?_
  refine sq_rd F (wt0 rfl) (ld_agg rfl (F.ev rfl) agg24 (M.rd (i := 0) rfl) rfl) rfl rfl ?_; clear F; intro φ F
  refine sq_call F M (wt0 rfl) rfl en12 (evc (F.ev rfl) evn) (gcheck_any n ev E _ (M.av (i := 1) rfl) (by first | omega | (simp; done) | (simp; omega) | (refine Nat.le_trans (minL_len _) ?_; omega) | (refine Nat.le_trans (eachL_len _ _) ?_; omega))) rfl rfl ?_; clear F M; intro φ ω F M
  refine sq_pure F (wt0 rfl) (pu_move rfl (F.ev rfl)) rfl rfl ?_; clear F; intro φ F
  refine sq_pure F (wt0 rfl) (pu_extract rfl (F.ev rfl) rfl) rfl rfl ?_; clear F; intro φ F
  refine sq_pure F (wt0 rfl) (pu_extract rfl (F.ev rfl) rfl) rfl rfl ?_; clear F; intro φ F
  refine sq_pure F (wt0 rfl) (pu_assign rfl (F.ev rfl)) rfl rfl ?_; clear F; intro φ F
  refine sq_pure F (wt0 rfl) (pu_assign rfl (F.ev rfl)) rfl rfl ?_; clear F; intro φ F
  refine nx ?_
  refine wp_seq ?_
  refine wp_seq ?_
  -- region 2
  refine wp_region_lit ?_
  refine sq_pure F (wt0 rfl) (pu_move rfl (F.ev rfl)) rfl rfl ?_; clear F; intro φ F
  cases hs1 : (decide ((checkG n E).1 = 0))
  · skip
    have hs1i := of_decide_eq_false hs1
    refine sq_pure F (wt0 rfl) (pu_neqI rfl (F.ev rfl) (evk)) rfl rfl ?_; clear F; intro φ F
    rw [hs1, show (!false) = true from rfl] at F
    refine nx ?_
    refine wp_cond_true (F.ev rfl) ?_
    refine wp_seq ?_
    -- region 3
    refine wp_region_lit ?_
    refine sq_pure F (wt0 rfl) (pu_move rfl (F.ev rfl)) rfl rfl ?_; clear F; intro φ F
    refine sq_pure F (wt0 rfl) (pu_assign rfl (evk)) rfl rfl ?_; clear F; intro φ F
    refine sq_pure F (wt0 rfl) (pu_assign rfl (F.ev rfl)) rfl rfl ?_; clear F; intro φ F
    refine nx ?_
    refine wp_ret ?_
    refine nxr ?_
    refine rt_tmp2 F rfl rfl rfl ?_
    rw [clo_bad hs1i]
    exact ⟨_, .own (fp3 nilV [] [] []) (Rd3 nilV [] [] []), rfl, M.bel, ⟨rd3_nil _, Rd3.loc _ _ _ _⟩, (fun g hg => by cases hg), rfl, nilV, [], [], rfl, rfl⟩
  · skip
    have hs1i := of_decide_eq_true hs1
    refine sq_pure F (wt0 rfl) (pu_neqI rfl (F.ev rfl) (evk)) rfl rfl ?_; clear F; intro φ F
    rw [hs1, show (!true) = false from rfl] at F
    refine nx ?_
    refine wp_cond_false (F.ev rfl) ?_
    refine wp_skip ?_
    refine nxq ?_
    refine wp_seq ?_
    have hok : (checkG n E).1 = 0 := by have z := hs1; first | exact of_decide_eq_true z | omega | simpa using z
    obtain ⟨hn1, hn8, hE16, hfit, -, -⟩ := check_ok hok
    have hF : Fits ((n.toNat : Nat) : Int) E := by rw [show ((n.toNat : Nat) : Int) = n by omega]; exact hfit
    -- region 4
    refine wp_region_lit ?_
    refine sq_pure F (wt0 rfl) (pu_assign rfl (evk)) rfl rfl ?_; clear F; intro φ F
    refine nx ?_
    refine wp_seq ?_
    refine wp_seq ?_
    -- region 5
    refine wp_region_lit ?_
    refine sq_pure F (wt0 rfl) (pu_assign rfl (evk)) rfl rfl ?_; clear F; intro φ F
    refine nx ?_
    refine wp_block ?_
    refine lp (σ := Int) (fun i φ' w' => ∃ vq : Value, ∃ rs : List Value, ∃ vss : List (List Value), Fr φ' 155 [(1, .pointer (some ⟨g1, 0, none⟩)), (6, vq), (7, .int .i64 i)] ∧ Mm [] w w' [.row 45 1 vq rs.length (cV rs), .own (fpI rs vss (cloT E n.toNat i.toNat)) (In3 rs vss (cloT E n.toNat i.toNat)), .blk g1 24 #[.int .i64 n, ev], .arg 4 ev E.length (cG E)] ∧ (0 ≤ i) ∧ (i ≤ n)) (fun i => (n - i).toNat) (0) ⟨nilV, ([] : List Value), ([] : List (List Value)), (((F.nil.cons (F.get (k := 7) rfl)).cons (F.get (k := 6) rfl)).cons (F.get (k := 1) rfl)), (by have z := (M.sub (.cons_cons _ (.cons_cons _ (.slnil)))).nil3.nilRow 45 1; exact z), Int.le_refl _, by omega⟩ ?_
    clear F M
    rintro i φ ω ⟨vq, rs, vss, F, M, hp2_0, hp2_1⟩
    refine wp_seq ?_
    refine wp_seq ?_
    -- region 6
    refine wp_region_lit ?_
    refine sq_pure F (wt0 rfl) (pu_move rfl (F.ev rfl)) rfl rfl ?_; clear F; intro φ F
    refine sq_pure F (wt0 rfl) (pu_field rfl (F.ev rfl) fo24_0) rfl rfl ?_; clear F; intro φ F
    refine sq_rd F (wt0 rfl) (ld_cell rfl (F.ev rfl) one3 (M.rd (i := 2) rfl) rfl) rfl rfl ?_; clear F; intro φ F
    refine sq_pure F (wt0 rfl) (pu_lss rfl (F.ev rfl) (F.ev rfl)) rfl rfl ?_; clear F; intro φ F
    refine nx ?_
    cases hs3 : (decide (i < n))
    · rw [hs3] at F
      have hs3i := of_decide_eq_false hs3
      refine wp_cond_false (F.ev rfl) ?_
      refine wp_exit ?_
      refine nxe ?_
      refine nxe ?_
      refine nxm ?_
      refine nxq ?_
      refine wp_seq ?_
      refine wp_seq ?_
      -- region 33
      refine wp_region_lit ?_
      refine sq_pure F (wt0 rfl) (pu_assign rfl (evk)) rfl rfl ?_; clear F; intro φ F
      refine nx ?_
      refine wp_block ?_
      refine lp (σ := Int) (fun a φ' w' => Fr φ' 155 [(1, .pointer (some ⟨g1, 0, none⟩)), (6, vq), (18, .int .i64 a)] ∧ Mm [] w w' [.row 45 1 vq rs.length (cV rs), .own (fpI rs vss (cloT E n.toNat i.toNat)) (In3 rs vss (cloT E n.toNat i.toNat)), .blk g1 24 #[.int .i64 n, ev], .arg 4 ev E.length (cG E)] ∧ (0 ≤ a) ∧ (a ≤ n) ∧ (∀ p, p < a.toNat → ∀ q, q < n.toNat → (atR (rowM E n.toNat p n.toNat) q).length ≤ 64)) (fun a => (n - a).toNat) (0) ⟨(((F.nil.cons (F.get (k := 18) rfl)).cons (F.get (k := 6) rfl)).cons (F.get (k := 1) rfl)), (M.sub (.cons_cons _ (.cons_cons _ (.cons_cons _ (.cons_cons _ (.slnil)))))), Int.le_refl _, by omega, all_none⟩ ?_
      clear F M
      rintro a φ ω ⟨F, M, hp4_0, hp4_1, hp4_2⟩
      refine wp_seq ?_
      refine wp_seq ?_
      -- region 34
      refine wp_region_lit ?_
      refine sq_pure F (wt0 rfl) (pu_move rfl (F.ev rfl)) rfl rfl ?_; clear F; intro φ F
      refine sq_pure F (wt0 rfl) (pu_field rfl (F.ev rfl) fo24_0) rfl rfl ?_; clear F; intro φ F
      refine sq_rd F (wt0 rfl) (ld_cell rfl (F.ev rfl) one3 (M.rd (i := 2) rfl) rfl) rfl rfl ?_; clear F; intro φ F
      refine sq_pure F (wt0 rfl) (pu_lss rfl (F.ev rfl) (F.ev rfl)) rfl rfl ?_; clear F; intro φ F
      refine nx ?_
      cases hs5 : (decide (a < n))
      · rw [hs5] at F
        have hs5i := of_decide_eq_false hs5
        refine wp_cond_false (F.ev rfl) ?_
        refine wp_exit ?_
        refine nxe ?_
        refine nxe ?_
        refine nxm ?_
        refine nxq ?_
        refine wp_seq ?_
        -- region 41
        refine wp_region_lit ?_
        refine sq_pure F (wt0 rfl) (pu_move rfl (F.ev rfl)) rfl rfl ?_; clear F; intro φ F
        refine sq_pure F (wt0 rfl) (pu_assign rfl (F.ev rfl)) rfl rfl ?_; clear F; intro φ F
        refine sq_pure F (wt0 rfl) (pu_assign rfl (evk)) rfl rfl ?_; clear F; intro φ F
        refine nx ?_
        refine wp_ret ?_
        refine rt_tmp2 F rfl rfl rfl ?_
        rw [clo_ok hok (fun p hp q hq => hp4_2 p (by omega) q hq)]
        have z := rd3_of M (i := 0) (k := 1) rfl rfl
        rw [show i.toNat = n.toNat by omega] at z
        exact ⟨_, .own (fp3 vq rs vss (cloT E n.toNat n.toNat)) (Rd3 vq rs vss (cloT E n.toNat n.toNat)), rfl, M.bel, ⟨z.1, Rd3.loc _ _ _ _⟩, (fun g hg => (z.2 g hg).elim id (fun h => by cases h)), rfl, vq, rs, vss, rfl, rfl⟩
      · rw [hs5] at F
        have hs5i := of_decide_eq_true hs5
        refine wp_cond_true (F.ev rfl) ?_
        refine wp_skip ?_
        refine nxq ?_
        refine wp_seq ?_
        refine wp_block ?_
        refine wp_seq ?_
        -- region 36
        refine wp_region_lit ?_
        refine sq_pure F (wt0 rfl) (pu_assign rfl (evk)) rfl rfl ?_; clear F; intro φ F
        refine nx ?_
        refine wp_block ?_
        refine lp (σ := Int) (fun b φ' w' => Fr φ' 155 [(1, .pointer (some ⟨g1, 0, none⟩)), (6, vq), (18, .int .i64 a), (19, .int .i64 b)] ∧ Mm [] w w' [.row 45 1 vq rs.length (cV rs), .own (fpI rs vss (cloT E n.toNat i.toNat)) (In3 rs vss (cloT E n.toNat i.toNat)), .blk g1 24 #[.int .i64 n, ev], .arg 4 ev E.length (cG E)] ∧ (0 ≤ b) ∧ (b ≤ n) ∧ (∀ q, q < b.toNat → (atR (rowM E n.toNat a.toNat n.toNat) q).length ≤ 64)) (fun b => (n - b).toNat) (0) ⟨((((F.nil.cons (F.get (k := 19) rfl)).cons (F.get (k := 18) rfl)).cons (F.get (k := 6) rfl)).cons (F.get (k := 1) rfl)), M, Int.le_refl _, by omega, all_none⟩ ?_
        clear F M
        rintro b φ ω ⟨F, M, hp6_0, hp6_1, hp6_2⟩
        refine wp_seq ?_
        refine wp_seq ?_
        -- region 37
        refine wp_region_lit ?_
        refine sq_pure F (wt0 rfl) (pu_move rfl (F.ev rfl)) rfl rfl ?_; clear F; intro φ F
        refine sq_pure F (wt0 rfl) (pu_field rfl (F.ev rfl) fo24_0) rfl rfl ?_; clear F; intro φ F
        refine sq_rd F (wt0 rfl) (ld_cell rfl (F.ev rfl) one3 (M.rd (i := 2) rfl) rfl) rfl rfl ?_; clear F; intro φ F
        refine sq_pure F (wt0 rfl) (pu_lss rfl (F.ev rfl) (F.ev rfl)) rfl rfl ?_; clear F; intro φ F
        refine nx ?_
        cases hs7 : (decide (b < n))
        · rw [hs7] at F
          have hs7i := of_decide_eq_false hs7
          refine wp_cond_false (F.ev rfl) ?_
          refine wp_exit ?_
          refine nxe ?_
          refine nxe ?_
          refine nxm ?_
          refine nxb ?_
          refine nxq ?_
          -- region 35
          refine wp_region_lit ?_
          refine sq_pure F (wt0 rfl) (pu_move rfl (F.ev rfl)) rfl rfl ?_; clear F; intro φ F
          refine sq_pure F (wt0 rfl) (pu_add rfl (F.ev rfl) (evk) (by omega) (by omega)) rfl rfl ?_; clear F; intro φ F
          refine sq_pure F (wt0 rfl) (pu_assign rfl (F.ev rfl)) rfl rfl ?_; clear F; intro φ F
          refine wpList_nil ?_
          exact ⟨a + 1, by omega, (((F.nil.cons (F.get (k := 18) rfl)).cons (F.get (k := 6) rfl)).cons (F.get (k := 1) rfl)), M, by omega, by omega, (all_succ hp4_2 hp4_0 (fun q hq => hp6_2 q (by omega)))⟩
        · rw [hs7] at F
          have hs7i := of_decide_eq_true hs7
          refine wp_cond_true (F.ev rfl) ?_
          refine wp_skip ?_
          refine nxq ?_
          refine wp_seq ?_
          refine wp_block ?_
          refine wp_seq ?_
          have hlr := (In3.lr (M.pv (i := 1) rfl)).trans (cloT_len E n.toNat i.toNat)
          have hli := cloT_len E n.toNat i.toNat
          have hlv := In3.lv (M.pv (i := 1) rfl) a.toNat (by omega)
          have hla : (at3 (cloT E n.toNat i.toNat) a.toNat).length = n.toNat := by rw [cloT_at (by omega), row_len]
          -- region 39
          refine wp_region_lit ?_
          refine sq_pure F (wt0 rfl) (pu_move rfl (F.ev rfl)) rfl rfl ?_; clear F; intro φ F
          refine sq_pure F (wt0 rfl) (pu_move rfl (F.ev rfl)) rfl rfl ?_; clear F; intro φ F
          refine sq_pure F (wt0 rfl) (pu_ix rfl (F.ev rfl) (F.ev rfl) sl32 (M.rv (i := 0) rfl) (by omega) (by omega)) rfl rfl ?_; clear F; intro φ F
          refine sq_rd F (wt0 rfl) (ld_el1 rfl (F.ev rfl) one45 (fun _ e => e ▸ (M.rv (i := 0) rfl)) (by omega) (cV_at (L := rs) (by first | omega | (simp; done) | (simp; omega)))) rfl rfl ?_; clear F; intro φ F
          refine sq_pure F (wt0 rfl) (pu_move rfl (F.ev rfl)) rfl rfl ?_; clear F; intro φ F
          refine sq_pure F (wt0 rfl) (pu_ix rfl (F.ev rfl) (F.ev rfl) sl45 (In3.row ((M.pv (i := 1) rfl)) a.toNat (by first | omega | assumption)) (by omega) (by omega)) rfl rfl ?_; clear F; intro φ F
          refine sq_rd F (wt0 rfl) (ld_el1 rfl (F.ev rfl) one44 (fun _ e => e ▸ (In3.row ((M.pv (i := 1) rfl)) a.toNat (by first | omega | assumption))) (by omega) (cV_at (L := (atW vss a.toNat)) (by first | omega | (simp; done) | (simp; omega)))) rfl rfl ?_; clear F; intro φ F
          refine sq_pure F (wt0 rfl) (pu_len rfl (F.ev rfl) sl44 (In3.one ((M.pv (i := 1) rfl)) a.toNat b.toNat (by first | omega | assumption) (by first | omega | assumption))) rfl rfl ?_; clear F; intro φ F
          refine sq_pure F (wt0 rfl) (pu_gtr rfl (F.ev rfl) (evk)) rfl rfl ?_; clear F; intro φ F
          refine nx ?_
          cases hs8 : (decide (64 < (((atR (at3 (cloT E n.toNat i.toNat) a.toNat) b.toNat).length : Nat) : Int)))
          · rw [hs8] at F
            have hs8i := of_decide_eq_false hs8
            refine wp_cond_false (F.ev rfl) ?_
            refine wp_skip ?_
            refine nxb ?_
            refine nxq ?_
            -- region 38
            refine wp_region_lit ?_
            refine sq_pure F (wt0 rfl) (pu_move rfl (F.ev rfl)) rfl rfl ?_; clear F; intro φ F
            refine sq_pure F (wt0 rfl) (pu_add rfl (F.ev rfl) (evk) (by omega) (by omega)) rfl rfl ?_; clear F; intro φ F
            refine sq_pure F (wt0 rfl) (pu_assign rfl (F.ev rfl)) rfl rfl ?_; clear F; intro φ F
            refine wpList_nil ?_
            exact ⟨b + 1, by omega, ((((F.nil.cons (F.get (k := 19) rfl)).cons (F.get (k := 18) rfl)).cons (F.get (k := 6) rfl)).cons (F.get (k := 1) rfl)), M, by omega, by omega, (all_succ hp6_2 hp6_0 (by have z := hs8i; rw [cloT_at (by omega)] at z; omega))⟩
          · rw [hs8] at F
            have hs8i := of_decide_eq_true hs8
            refine wp_cond_true (F.ev rfl) ?_
            refine wp_seq ?_
            -- region 40
            refine wp_region_lit ?_
            refine sq_pure F (wt0 rfl) (pu_assign rfl (evk)) rfl rfl ?_; clear F; intro φ F
            refine sq_pure F (wt0 rfl) (pu_assign rfl (evk)) rfl rfl ?_; clear F; intro φ F
            refine nx ?_
            refine wp_ret ?_
            refine nxrb ?_
            refine nxr ?_
            refine nxr ?_
            refine nxrb ?_
            refine nxrb ?_
            refine nxr ?_
            refine nxr ?_
            refine nxrb ?_
            refine nxr ?_
            refine rt_tmp2 F rfl rfl rfl ?_
            rw [clo_full (i := a.toNat) (j := b.toNat) hok (by omega) (by omega) (by have z := hs8i; rw [cloT_at (by omega)] at z; omega)]
            exact ⟨_, .own (fp3 nilV [] [] []) (Rd3 nilV [] [] []), rfl, M.bel, ⟨rd3_nil _, Rd3.loc _ _ _ _⟩, (fun g hg => by cases hg), rfl, nilV, [], [], rfl, rfl⟩
    · rw [hs3] at F
      have hs3i := of_decide_eq_true hs3
      refine wp_cond_true (F.ev rfl) ?_
      refine wp_skip ?_
      refine nxq ?_
      refine wp_seq ?_
      refine wp_block ?_
      refine wp_seq ?_
      -- region 8
      refine wp_region_lit ?_
      refine sq_pure F (wt0 rfl) (pu_field rfl (F.ev rfl) fo24_0) rfl rfl ?_; clear F; intro φ F
      refine sq_rd F (wt0 rfl) (ld_cell rfl (F.ev rfl) one3 (M.rd (i := 2) rfl) rfl) rfl rfl ?_; clear F; intro φ F
      refine sq_make1 F M (wt0 rfl) rfl (F.ev rfl) (F.ev rfl) sl45.1 ((.slice none 0 0)) rfl mk44 (by omega) (by omega) (by omega) rfl rfl ?_; clear F M; intro φ ω g2 F M
      replace M : Mm [] w ω [.blk g2 44 (List.toArray (cV (List.replicate n.toNat nilV))), .row 45 1 vq rs.length (cV rs), .own (fpI rs vss (cloT E n.toNat i.toNat)) (In3 rs vss (cloT E n.toNat i.toNat)), .blk g1 24 #[.int .i64 n, ev], .arg 4 ev E.length (cG E)] := M
      replace M := M.rowsNew 38 n.toNat
      replace M : Mm [] w ω [.own (fpR (List.replicate n.toNat nilV)) (RowsV 38 (List.replicate n.toNat nilV) (List.replicate n.toNat [])), .blk g2 44 (List.toArray (cV (List.replicate n.toNat nilV))), .row 45 1 vq rs.length (cV rs), .own (fpI rs vss (cloT E n.toNat i.toNat)) (In3 rs vss (cloT E n.toNat i.toNat)), .blk g1 24 #[.int .i64 n, ev], .arg 4 ev E.length (cG E)] := M
      refine sq_pure F (wt0 rfl) (pu_assign rfl (F.ev rfl)) rfl rfl ?_; clear F; intro φ F
      refine nx ?_
      refine wp_seq ?_
      -- region 9
      refine wp_region_lit ?_
      refine sq_pure F (wt0 rfl) (pu_move rfl (F.ev rfl)) rfl rfl ?_; clear F; intro φ F
      refine sq_pure F (wt0 rfl) (pu_move rfl (F.ev rfl)) rfl rfl ?_; clear F; intro φ F
      refine sq_pure F (wt0 rfl) (bu38_ rfl) rfl rfl ?_; clear F; intro φ F
      refine sq_bs (e := 38) (m := 2) (k := 1) (parts := #[]) (cs := #[.int .i64 0, .int .i64 0]) F M (wt0 rfl) (bs44_1 rfl (F.ev rfl) _) (by omega) rfl rfl rfl ?_; clear F M; intro φ ω g3 F M
      replace M : Mm [] w ω [.row 38 2 (.slice (some ⟨g3, 0, none⟩) 1 1) 1 (cS [(St.mk 0 0)]), .own (fpR (List.replicate n.toNat nilV)) (RowsV 38 (List.replicate n.toNat nilV) (List.replicate n.toNat [])), .blk g2 44 (List.toArray (cV (List.replicate n.toNat nilV))), .row 45 1 vq rs.length (cV rs), .own (fpI rs vss (cloT E n.toNat i.toNat)) (In3 rs vss (cloT E n.toNat i.toNat)), .blk g1 24 #[.int .i64 n, ev], .arg 4 ev E.length (cG E)] := M
      refine sq_pure F (wt0 rfl) (pu_ix rfl (F.ev rfl) (F.ev rfl) sl45 (blk_rdv (m := 1) (M.at (i := 2) rfl) (by first | rfl | assumption | (simp only [List.size_toArray, cB_len, cV, List.length_set, List.length_replicate, Nat.mul_one]; first | done | rfl | assumption | omega)) (by omega)) (by omega) (by omega)) rfl rfl ?_; clear F; intro φ F
      refine sq_st1 (j := i.toNat) F M (wt0 rfl) rfl (F.ev rfl) (F.ev rfl) (i := 2) rfl (by first | omega | (simp only [cB_len, cV, List.length_set, List.length_replicate]; omega)) si44 (slc_one (M.rv (i := 0) rfl)).1 (slc_one (M.rv (i := 0) rfl)).2 rfl ?_; clear M; intro ω M
      replace M : Mm [] w ω [.row 38 2 (.slice (some ⟨g3, 0, none⟩) 1 1) 1 (cS [(St.mk 0 0)]), .own (fpR (List.replicate n.toNat nilV)) (RowsV 38 (List.replicate n.toNat nilV) (List.replicate n.toNat [])), .blk g2 44 (List.toArray (cV ((List.replicate n.toNat nilV).set i.toNat (.slice (some ⟨g3, 0, none⟩) 1 1)))), .row 45 1 vq rs.length (cV rs), .own (fpI rs vss (cloT E n.toNat i.toNat)) (In3 rs vss (cloT E n.toNat i.toNat)), .blk g1 24 #[.int .i64 n, ev], .arg 4 ev E.length (cG E)] := M
      replace M := M.putRow (i := 1) (k := 0) (j := i.toNat) (l := [(St.mk 0 0)]) rfl rfl (by first | omega | (simp only [cB_len, cV, List.length_set, List.length_replicate]; omega))
      replace M : Mm [] w ω [.arg 1 (.slice none 0 0) 0 [], .own (fpR ((List.replicate n.toNat nilV).set i.toNat (.slice (some ⟨g3, 0, none⟩) 1 1))) (RowsV 38 ((List.replicate n.toNat nilV).set i.toNat (.slice (some ⟨g3, 0, none⟩) 1 1)) ((List.replicate n.toNat []).set i.toNat [(St.mk 0 0)])), .blk g2 44 (List.toArray (cV ((List.replicate n.toNat nilV).set i.toNat (.slice (some ⟨g3, 0, none⟩) 1 1)))), .row 45 1 vq rs.length (cV rs), .own (fpI rs vss (cloT E n.toNat i.toNat)) (In3 rs vss (cloT E n.toNat i.toNat)), .blk g1 24 #[.int .i64 n, ev], .arg 4 ev E.length (cG E)] := M
      refine nx ?_
      refine wp_seq ?_
      refine wp_seq ?_
      -- region 10
      refine wp_region_lit ?_
      refine sq_pure F (wt0 rfl) (pu_assign rfl (evk)) rfl rfl ?_; clear F; intro φ F
      refine nx ?_
      refine wp_block ?_
      refine lp (σ := Int) (fun r φ' w' => ∃ vs : List Value, Fr φ' 155 [(1, .pointer (some ⟨g1, 0, none⟩)), (6, vq), (7, .int .i64 i), (8, (.slice (some ⟨g2, 0, none⟩) n.toNat n.toNat)), (9, .int .i64 r)] ∧ Mm [] w w' [.own (fpR vs) (RowsV 38 vs (rowM E n.toNat i.toNat r.toNat)), .blk g2 44 (List.toArray (cV vs)), .row 45 1 vq rs.length (cV rs), .own (fpI rs vss (cloT E n.toNat i.toNat)) (In3 rs vss (cloT E n.toNat i.toNat)), .blk g1 24 #[.int .i64 n, ev], .arg 4 ev E.length (cG E)] ∧ (0 ≤ r) ∧ (r ≤ n) ∧ (vs.length = n.toNat)) (fun r => (n - r).toNat) (0) ⟨((List.replicate n.toNat nilV).set i.toNat (.slice (some ⟨g3, 0, none⟩) 1 1)), (((((F.nil.cons (F.get (k := 9) rfl)).cons (F.get (k := 8) rfl)).cons (F.get (k := 7) rfl)).cons (F.get (k := 6) rfl)).cons (F.get (k := 1) rfl)), (by have z := M.sub (.cons _ (.cons_cons _ (.cons_cons _ (.cons_cons _ (.cons_cons _ (.cons_cons _ (.cons_cons _ (.slnil)))))))); exact z), Int.le_refl _, by omega, (by simp)⟩ ?_
      clear F M
      rintro r φ ω ⟨vs, F, M, hp9_0, hp9_1, hp9_2⟩
      refine wp_seq ?_
      refine wp_seq ?_
      -- region 11
      refine wp_region_lit ?_
      refine sq_pure F (wt0 rfl) (pu_move rfl (F.ev rfl)) rfl rfl ?_; clear F; intro φ F
      refine sq_pure F (wt0 rfl) (pu_field rfl (F.ev rfl) fo24_0) rfl rfl ?_; clear F; intro φ F
      refine sq_rd F (wt0 rfl) (ld_cell rfl (F.ev rfl) one3 (M.rd (i := 4) rfl) rfl) rfl rfl ?_; clear F; intro φ F
      refine sq_pure F (wt0 rfl) (pu_lss rfl (F.ev rfl) (F.ev rfl)) rfl rfl ?_; clear F; intro φ F
      refine nx ?_
      cases hs10 : (decide (r < n))
      · rw [hs10] at F
        have hs10i := of_decide_eq_false hs10
        refine wp_cond_false (F.ev rfl) ?_
        refine wp_exit ?_
        refine nxe ?_
        refine nxe ?_
        refine nxm ?_
        refine nxq ?_
        have hlr := (In3.lr (M.pv (i := 3) rfl)).trans (cloT_len E n.toNat i.toNat)
        -- region 32
        refine wp_region_lit ?_
        refine sq_pure F (wt0 rfl) (pu_move rfl (F.ev rfl)) rfl rfl ?_; clear F; intro φ F
        refine sq_pure F (wt0 rfl) (pu_move rfl (F.ev rfl)) rfl rfl ?_; clear F; intro φ F
        refine sq_bs (e := 45) (m := 1) (k := 1) (parts := #[]) (cs := #[(.slice (some ⟨g2, 0, none⟩) n.toNat n.toNat)]) F M (wt0 rfl) (bs32_1 rfl (F.ev rfl) rfl _) (by omega) rfl rfl rfl ?_; clear F M; intro φ ω g4 F M
        replace M : Mm [] w ω [.row 45 1 (.slice (some ⟨g4, 0, none⟩) 1 1) 1 (cV [(.slice (some ⟨g2, 0, none⟩) n.toNat n.toNat : Value)]), .own (fpR vs) (RowsV 38 vs (rowM E n.toNat i.toNat r.toNat)), .blk g2 44 (List.toArray (cV vs)), .row 45 1 vq rs.length (cV rs), .own (fpI rs vss (cloT E n.toNat i.toNat)) (In3 rs vss (cloT E n.toNat i.toNat)), .blk g1 24 #[.int .i64 n, ev], .arg 4 ev E.length (cG E)] := M
        refine sq_app F M (wt0 rfl) rfl sl32.1 el45 (F.ev rfl) (i := 3) rfl (F.ev rfl) (M.rv (i := 0) rfl) (by intro z hz; rw [List.mem_singleton.1 hz]; rfl) (by first | omega | (simp only [List.length_append, List.length_cons, List.length_nil, List.length_singleton]; omega)) (by omega) rfl rfl ?_; clear F M; intro φ ω v1 F M
        replace M : Mm [] w ω [.row 45 1 (.slice (some ⟨g4, 0, none⟩) 1 1) 1 (cV [(.slice (some ⟨g2, 0, none⟩) n.toNat n.toNat : Value)]), .own (fpR vs) (RowsV 38 vs (rowM E n.toNat i.toNat r.toNat)), .blk g2 44 (List.toArray (cV vs)), .row 45 1 v1 (rs.length + 1) ((cV rs) ++ (cV [(.slice (some ⟨g2, 0, none⟩) n.toNat n.toNat : Value)])), .own (fpI rs vss (cloT E n.toNat i.toNat)) (In3 rs vss (cloT E n.toNat i.toNat)), .blk g1 24 #[.int .i64 n, ev], .arg 4 ev E.length (cG E)] := M
        rw [← cV_app, show rs.length + 1 = (rs ++ [(.slice (some ⟨g2, 0, none⟩) n.toNat n.toNat : Value)]).length from by first | rfl | (simp; done) | (simp; omega)] at M
        refine sq_pure F (wt0 rfl) (pu_assign rfl (F.ev rfl)) rfl rfl ?_; clear F; intro φ F
        refine wpList_nil ?_
        refine nxb ?_
        refine nxq ?_
        -- region 7
        refine wp_region_lit ?_
        refine sq_pure F (wt0 rfl) (pu_move rfl (F.ev rfl)) rfl rfl ?_; clear F; intro φ F
        refine sq_pure F (wt0 rfl) (pu_add rfl (F.ev rfl) (evk) (by omega) (by omega)) rfl rfl ?_; clear F; intro φ F
        refine sq_pure F (wt0 rfl) (pu_assign rfl (F.ev rfl)) rfl rfl ?_; clear F; intro φ F
        refine wpList_nil ?_
        exact ⟨i + 1, by omega, v1, (rs ++ [(.slice (some ⟨g2, 0, none⟩) n.toNat n.toNat)]), (vss ++ [vs]), (((F.nil.cons (F.get (k := 7) rfl)).cons (F.get (k := 6) rfl)).cons (F.get (k := 1) rfl)), (by have z := (M.sub (.cons _ (.cons_cons _ (.cons_cons _ (.cons_cons _ (.cons_cons _ (.cons_cons _ (.cons_cons _ (.slnil))))))))).push3o hp9_2 (by omega); rw [show r.toNat = n.toNat by omega, cloT_succ hp2_0] at z; exact z), by omega, by omega⟩
      · rw [hs10] at F
        have hs10i := of_decide_eq_true hs10
        refine wp_cond_true (F.ev rfl) ?_
        refine wp_skip ?_
        refine nxq ?_
        refine wp_seq ?_
        refine wp_block ?_
        refine wp_seq ?_
        -- region 13
        refine wp_region_lit ?_
        refine sq_pure F (wt0 rfl) (pu_field rfl (F.ev rfl) fo24_0) rfl rfl ?_; clear F; intro φ F
        refine sq_rd F (wt0 rfl) (ld_cell rfl (F.ev rfl) one3 (M.rd (i := 4) rfl) rfl) rfl rfl ?_; clear F; intro φ F
        refine sq_make1 F M (wt0 rfl) rfl (F.ev rfl) (F.ev rfl) sl45.1 ((.slice none 0 0)) rfl mk44 (by omega) (by omega) (by omega) rfl rfl ?_; clear F M; intro φ ω g5 F M
        replace M : Mm [] w ω [.blk g5 44 (List.toArray (cV (List.replicate n.toNat nilV))), .own (fpR vs) (RowsV 38 vs (rowM E n.toNat i.toNat r.toNat)), .blk g2 44 (List.toArray (cV vs)), .row 45 1 vq rs.length (cV rs), .own (fpI rs vss (cloT E n.toNat i.toNat)) (In3 rs vss (cloT E n.toNat i.toNat)), .blk g1 24 #[.int .i64 n, ev], .arg 4 ev E.length (cG E)] := M
        replace M := M.rowsNew 38 n.toNat
        replace M : Mm [] w ω [.own (fpR (List.replicate n.toNat nilV)) (RowsV 38 (List.replicate n.toNat nilV) (List.replicate n.toNat [])), .blk g5 44 (List.toArray (cV (List.replicate n.toNat nilV))), .own (fpR vs) (RowsV 38 vs (rowM E n.toNat i.toNat r.toNat)), .blk g2 44 (List.toArray (cV vs)), .row 45 1 vq rs.length (cV rs), .own (fpI rs vss (cloT E n.toNat i.toNat)) (In3 rs vss (cloT E n.toNat i.toNat)), .blk g1 24 #[.int .i64 n, ev], .arg 4 ev E.length (cG E)] := M
        refine sq_pure F (wt0 rfl) (pu_assign rfl (F.ev rfl)) rfl rfl ?_; clear F; intro φ F
        refine nx ?_
        refine wp_seq ?_
        refine wp_seq ?_
        have hsm := row_small hF (i := i.toNat) (by omega) r.toNat
        -- region 14
        refine wp_region_lit ?_
        refine sq_pure F (wt0 rfl) (pu_assign rfl (evk)) rfl rfl ?_; clear F; intro φ F
        refine nx ?_
        refine wp_block ?_
        refine lp (σ := Int) (fun j φ' w' => ∃ us : List Value, Fr φ' 155 [(1, .pointer (some ⟨g1, 0, none⟩)), (6, vq), (7, .int .i64 i), (8, (.slice (some ⟨g2, 0, none⟩) n.toNat n.toNat)), (9, .int .i64 r), (10, (.slice (some ⟨g5, 0, none⟩) n.toNat n.toNat)), (11, .int .i64 j)] ∧ Mm [] w w' [.own (fpR us) (RowsV 38 us (cpL (rowM E n.toNat i.toNat r.toNat) n.toNat j.toNat)), .blk g5 44 (List.toArray (cV us)), .own (fpR vs) (RowsV 38 vs (rowM E n.toNat i.toNat r.toNat)), .blk g2 44 (List.toArray (cV vs)), .row 45 1 vq rs.length (cV rs), .own (fpI rs vss (cloT E n.toNat i.toNat)) (In3 rs vss (cloT E n.toNat i.toNat)), .blk g1 24 #[.int .i64 n, ev], .arg 4 ev E.length (cG E)] ∧ (0 ≤ j) ∧ (j ≤ n) ∧ (us.length = n.toNat)) (fun j => (n - j).toNat) (0) ⟨(List.replicate n.toNat nilV), (((((((F.nil.cons (F.get (k := 11) rfl)).cons (F.get (k := 10) rfl)).cons (F.get (k := 9) rfl)).cons (F.get (k := 8) rfl)).cons (F.get (k := 7) rfl)).cons (F.get (k := 6) rfl)).cons (F.get (k := 1) rfl)), (by have z := M.sub (.cons_cons _ (.cons_cons _ (.cons_cons _ (.cons_cons _ (.cons_cons _ (.cons_cons _ (.cons_cons _ (.cons_cons _ (.slnil))))))))); rw [cp_start (rowM E n.toNat i.toNat r.toNat)] at z; exact z), Int.le_refl _, by omega, (by simp)⟩ ?_
        clear F M
        rintro j φ ω ⟨us, F, M, hp11_0, hp11_1, hp11_2⟩
        refine wp_seq ?_
        refine wp_seq ?_
        -- region 15
        refine wp_region_lit ?_
        refine sq_pure F (wt0 rfl) (pu_move rfl (F.ev rfl)) rfl rfl ?_; clear F; intro φ F
        refine sq_pure F (wt0 rfl) (pu_field rfl (F.ev rfl) fo24_0) rfl rfl ?_; clear F; intro φ F
        refine sq_rd F (wt0 rfl) (ld_cell rfl (F.ev rfl) one3 (M.rd (i := 6) rfl) rfl) rfl rfl ?_; clear F; intro φ F
        refine sq_pure F (wt0 rfl) (pu_lss rfl (F.ev rfl) (F.ev rfl)) rfl rfl ?_; clear F; intro φ F
        refine nx ?_
        cases hs12 : (decide (j < n))
        · rw [hs12] at F
          have hs12i := of_decide_eq_false hs12
          refine wp_cond_false (F.ev rfl) ?_
          refine wp_exit ?_
          refine nxe ?_
          refine nxe ?_
          refine nxm ?_
          refine nxq ?_
          refine wp_seq ?_
          refine wp_seq ?_
          -- region 18
          refine wp_region_lit ?_
          refine sq_pure F (wt0 rfl) (pu_assign rfl (evk)) rfl rfl ?_; clear F; intro φ F
          refine nx ?_
          refine wp_block ?_
          refine lp (σ := Int) (fun k φ' w' => ∃ us : List Value, Fr φ' 155 [(1, .pointer (some ⟨g1, 0, none⟩)), (6, vq), (7, .int .i64 i), (8, (.slice (some ⟨g2, 0, none⟩) n.toNat n.toNat)), (9, .int .i64 r), (10, (.slice (some ⟨g5, 0, none⟩) n.toNat n.toNat)), (12, .int .i64 k)] ∧ Mm [] w w' [.own (fpR us) (RowsV 38 us (edL E (rowM E n.toNat i.toNat r.toNat) n.toNat k.toNat)), .blk g5 44 (List.toArray (cV us)), .own (fpR vs) (RowsV 38 vs (rowM E n.toNat i.toNat r.toNat)), .blk g2 44 (List.toArray (cV vs)), .row 45 1 vq rs.length (cV rs), .own (fpI rs vss (cloT E n.toNat i.toNat)) (In3 rs vss (cloT E n.toNat i.toNat)), .blk g1 24 #[.int .i64 n, ev], .arg 4 ev E.length (cG E)] ∧ (0 ≤ k) ∧ (k ≤ (E.length : Int)) ∧ (us.length = n.toNat)) (fun k => ((E.length : Int) - k).toNat) (0) ⟨us, (((((((F.nil.cons (F.get (k := 12) rfl)).cons (F.get (k := 10) rfl)).cons (F.get (k := 9) rfl)).cons (F.get (k := 8) rfl)).cons (F.get (k := 7) rfl)).cons (F.get (k := 6) rfl)).cons (F.get (k := 1) rfl)), (by have z := M.sub (.cons_cons _ (.cons_cons _ (.cons_cons _ (.cons_cons _ (.cons_cons _ (.cons_cons _ (.cons_cons _ (.cons_cons _ (.slnil))))))))); rw [cp_end (E := E) (by omega)] at z; exact z), Int.le_refl _, by omega, hp11_2⟩ ?_
          clear F M
          rintro k φ ω ⟨us, F, M, hp13_0, hp13_1, hp13_2⟩
          refine wp_seq ?_
          refine wp_seq ?_
          -- region 19
          refine wp_region_lit ?_
          refine sq_pure F (wt0 rfl) (pu_move rfl (F.ev rfl)) rfl rfl ?_; clear F; intro φ F
          refine sq_pure F (wt0 rfl) (pu_field rfl (F.ev rfl) fo24_1) rfl rfl ?_; clear F; intro φ F
          refine sq_rd F (wt0 rfl) (ld_cell rfl (F.ev rfl) one22 (M.rd (i := 6) rfl) rfl) rfl rfl ?_; clear F; intro φ F
          refine sq_pure F (wt0 rfl) (pu_len rfl (F.ev rfl) sl22 (M.av (i := 7) rfl)) rfl rfl ?_; clear F; intro φ F
          refine sq_pure F (wt0 rfl) (pu_lss rfl (F.ev rfl) (F.ev rfl)) rfl rfl ?_; clear F; intro φ F
          refine nx ?_
          cases hs14 : (decide (k < ((E.length : Nat) : Int)))
          · rw [hs14] at F
            have hs14i := of_decide_eq_false hs14
            refine wp_cond_false (F.ev rfl) ?_
            refine wp_exit ?_
            refine nxe ?_
            refine nxe ?_
            refine nxm ?_
            refine nxq ?_
            refine wp_seq ?_
            -- region 28
            refine wp_region_lit ?_
            refine sq_pure F (wt0 rfl) (pu_assign rfl (evk)) rfl rfl ?_; clear F; intro φ F
            refine nx ?_
            refine wp_block ?_
            refine lp (σ := Int) (fun q φ' w' => ∃ vs : List Value, Fr φ' 155 [(1, .pointer (some ⟨g1, 0, none⟩)), (6, vq), (7, .int .i64 i), (8, (.slice (some ⟨g2, 0, none⟩) n.toNat n.toNat)), (9, .int .i64 r), (10, (.slice (some ⟨g5, 0, none⟩) n.toNat n.toNat)), (17, .int .i64 q)] ∧ Mm [] w w' [.own (fpR us) (RowsV 38 us (edL E (rowM E n.toNat i.toNat r.toNat) n.toNat k.toNat)), .blk g5 44 (List.toArray (cV us)), .own (fpR vs) (RowsV 38 vs (mnL E (rowM E n.toNat i.toNat r.toNat) n.toNat q.toNat)), .blk g2 44 (List.toArray (cV vs)), .row 45 1 vq rs.length (cV rs), .own (fpI rs vss (cloT E n.toNat i.toNat)) (In3 rs vss (cloT E n.toNat i.toNat)), .blk g1 24 #[.int .i64 n, ev], .arg 4 ev E.length (cG E)] ∧ (0 ≤ q) ∧ (q ≤ n) ∧ (vs.length = n.toNat)) (fun q => (n - q).toNat) (0) ⟨vs, (((((((F.nil.cons (F.get (k := 17) rfl)).cons (F.get (k := 10) rfl)).cons (F.get (k := 9) rfl)).cons (F.get (k := 8) rfl)).cons (F.get (k := 7) rfl)).cons (F.get (k := 6) rfl)).cons (F.get (k := 1) rfl)), (by have z := M.sub (.cons_cons _ (.cons_cons _ (.cons_cons _ (.cons_cons _ (.cons_cons _ (.cons_cons _ (.cons_cons _ (.cons_cons _ (.slnil))))))))); rw [show RowsV 38 vs (rowM E n.toNat i.toNat r.toNat) = RowsV 38 vs (mnL E (rowM E n.toNat i.toNat r.toNat) n.toNat (0 : Int).toNat) from congrArg (RowsV 38 vs) (mn_start (E := E) (row_len E n.toNat i.toNat r.toNat))] at z; exact z), Int.le_refl _, by omega, hp9_2⟩ ?_
            clear F M
            rintro q φ ω ⟨vs, F, M, hp15_0, hp15_1, hp15_2⟩
            refine wp_seq ?_
            refine wp_seq ?_
            -- region 29
            refine wp_region_lit ?_
            refine sq_pure F (wt0 rfl) (pu_move rfl (F.ev rfl)) rfl rfl ?_; clear F; intro φ F
            refine sq_pure F (wt0 rfl) (pu_field rfl (F.ev rfl) fo24_0) rfl rfl ?_; clear F; intro φ F
            refine sq_rd F (wt0 rfl) (ld_cell rfl (F.ev rfl) one3 (M.rd (i := 6) rfl) rfl) rfl rfl ?_; clear F; intro φ F
            refine sq_pure F (wt0 rfl) (pu_lss rfl (F.ev rfl) (F.ev rfl)) rfl rfl ?_; clear F; intro φ F
            refine nx ?_
            cases hs16 : (decide (q < n))
            · rw [hs16] at F
              have hs16i := of_decide_eq_false hs16
              refine wp_cond_false (F.ev rfl) ?_
              refine wp_exit ?_
              refine nxe ?_
              refine nxe ?_
              refine nxm ?_
              refine nxb ?_
              refine nxq ?_
              -- region 12
              refine wp_region_lit ?_
              refine sq_pure F (wt0 rfl) (pu_move rfl (F.ev rfl)) rfl rfl ?_; clear F; intro φ F
              refine sq_pure F (wt0 rfl) (pu_add rfl (F.ev rfl) (evk) (by omega) (by omega)) rfl rfl ?_; clear F; intro φ F
              refine sq_pure F (wt0 rfl) (pu_assign rfl (F.ev rfl)) rfl rfl ?_; clear F; intro φ F
              refine wpList_nil ?_
              exact ⟨r + 1, by omega, vs, (((((F.nil.cons (F.get (k := 9) rfl)).cons (F.get (k := 8) rfl)).cons (F.get (k := 7) rfl)).cons (F.get (k := 6) rfl)).cons (F.get (k := 1) rfl)), (by have z := M.sub (.cons _ (.cons _ (.cons_cons _ (.cons_cons _ (.cons_cons _ (.cons_cons _ (.cons_cons _ (.cons_cons _ (.slnil))))))))); rw [mn_end hp9_0 (by omega)] at z; exact z), by omega, by omega, hp15_2⟩
            · rw [hs16] at F
              have hs16i := of_decide_eq_true hs16
              refine wp_cond_true (F.ev rfl) ?_
              refine wp_skip ?_
              refine nxq ?_
              refine wp_seq ?_
              refine wp_block ?_
              have hqs := ed_small (E := E) (n := n.toNat) (k := k.toNat) (j := q.toNat) hsm hE16
              -- region 31
              refine wp_region_lit ?_
              refine sq_pure F (wt0 rfl) (pu_move rfl (F.ev rfl)) rfl rfl ?_; clear F; intro φ F
              refine sq_pure F (wt0 rfl) (pu_move rfl (F.ev rfl)) rfl rfl ?_; clear F; intro φ F
              refine sq_pure F (wt0 rfl) (pu_move rfl (F.ev rfl)) rfl rfl ?_; clear F; intro φ F
              refine sq_pure F (wt0 rfl) (pu_move rfl (F.ev rfl)) rfl rfl ?_; clear F; intro φ F
              refine sq_pure F (wt0 rfl) (pu_ix rfl (F.ev rfl) (F.ev rfl) sl45 (blk_rdv (m := 1) (M.at (i := 1) rfl) (by first | rfl | assumption | (simp only [List.size_toArray, cB_len, cV, List.length_set, List.length_replicate, Nat.mul_one]; first | done | rfl | assumption | omega)) (by omega)) (by omega) (by omega)) rfl rfl ?_; clear F; intro φ F
              refine sq_rd F (wt0 rfl) (ld_el1 rfl (F.ev rfl) one44 (fun _ e => e ▸ (blk_rdv (m := 1) (M.at (i := 1) rfl) (by first | rfl | assumption | (simp only [List.size_toArray, cB_len, cV, List.length_set, List.length_replicate, Nat.mul_one]; first | done | rfl | assumption | omega)) (by omega))) (by omega) (cV_at (L := us) (by first | omega | (simp; done) | (simp; omega)))) rfl rfl ?_; clear F; intro φ F
              refine sq_callN F M (wt0 rfl) rfl en30 (evc (F.ev rfl) evn) (pmin_any (atR (edL E (rowM E n.toNat i.toNat r.toNat) n.toNat k.toNat) q.toNat) _ _ (RowsV.rd (M.pv (i := 0) rfl) (by first | omega | (simp only [List.length_set, List.length_replicate]; omega))) (by first | omega | (simp; done) | (simp; omega) | (refine Nat.le_trans (minL_len _) ?_; omega) | (refine Nat.le_trans (eachL_len _ _) ?_; omega))) rfl rfl ?_; clear F M; intro φ ω v2 F M
              refine sq_pure F (wt0 rfl) (pu_ix rfl (F.ev rfl) (F.ev rfl) sl45 (blk_rdv (m := 1) (M.at (i := 4) rfl) (by first | rfl | assumption | (simp only [List.size_toArray, cB_len, cV, List.length_set, List.length_replicate, Nat.mul_one]; first | done | rfl | assumption | omega)) (by omega)) (by omega) (by omega)) rfl rfl ?_; clear F; intro φ F
              refine sq_st1 (j := q.toNat) F M (wt0 rfl) rfl (F.ev rfl) (F.ev rfl) (i := 4) rfl (by first | omega | (simp only [cB_len, cV, List.length_set, List.length_replicate]; omega)) si44 (slc_one (M.rv (i := 0) rfl)).1 (slc_one (M.rv (i := 0) rfl)).2 rfl ?_; clear M; intro ω M
              replace M : Mm [] w ω [.row 38 2 v2 ((minL (atR (edL E (rowM E n.toNat i.toNat r.toNat) n.toNat k.toNat) q.toNat)).length) (cS (minL (atR (edL E (rowM E n.toNat i.toNat r.toNat) n.toNat k.toNat) q.toNat))), .own (fpR us) (RowsV 38 us (edL E (rowM E n.toNat i.toNat r.toNat) n.toNat k.toNat)), .blk g5 44 (List.toArray (cV us)), .own (fpR vs) (RowsV 38 vs (mnL E (rowM E n.toNat i.toNat r.toNat) n.toNat q.toNat)), .blk g2 44 (List.toArray (cV (vs.set q.toNat v2))), .row 45 1 vq rs.length (cV rs), .own (fpI rs vss (cloT E n.toNat i.toNat)) (In3 rs vss (cloT E n.toNat i.toNat)), .blk g1 24 #[.int .i64 n, ev], .arg 4 ev E.length (cG E)] := M
              replace M := M.putRow (i := 3) (k := 0) (j := q.toNat) (l := (minL (atR (edL E (rowM E n.toNat i.toNat r.toNat) n.toNat k.toNat) q.toNat))) rfl rfl (by first | omega | (simp only [cB_len, cV, List.length_set, List.length_replicate]; omega))
              replace M : Mm [] w ω [.arg 1 (.slice none 0 0) 0 [], .own (fpR us) (RowsV 38 us (edL E (rowM E n.toNat i.toNat r.toNat) n.toNat k.toNat)), .blk g5 44 (List.toArray (cV us)), .own (fpR (vs.set q.toNat v2)) (RowsV 38 (vs.set q.toNat v2) ((mnL E (rowM E n.toNat i.toNat r.toNat) n.toNat q.toNat).set q.toNat (minL (atR (edL E (rowM E n.toNat i.toNat r.toNat) n.toNat k.toNat) q.toNat)))), .blk g2 44 (List.toArray (cV (vs.set q.toNat v2))), .row 45 1 vq rs.length (cV rs), .own (fpI rs vss (cloT E n.toNat i.toNat)) (In3 rs vss (cloT E n.toNat i.toNat)), .blk g1 24 #[.int .i64 n, ev], .arg 4 ev E.length (cG E)] := M
              refine wpList_nil ?_
              refine nxb ?_
              refine nxq ?_
              -- region 30
              refine wp_region_lit ?_
              refine sq_pure F (wt0 rfl) (pu_move rfl (F.ev rfl)) rfl rfl ?_; clear F; intro φ F
              refine sq_pure F (wt0 rfl) (pu_add rfl (F.ev rfl) (evk) (by omega) (by omega)) rfl rfl ?_; clear F; intro φ F
              refine sq_pure F (wt0 rfl) (pu_assign rfl (F.ev rfl)) rfl rfl ?_; clear F; intro φ F
              refine wpList_nil ?_
              exact ⟨q + 1, by omega, (vs.set q.toNat v2), (((((((F.nil.cons (F.get (k := 17) rfl)).cons (F.get (k := 10) rfl)).cons (F.get (k := 9) rfl)).cons (F.get (k := 8) rfl)).cons (F.get (k := 7) rfl)).cons (F.get (k := 6) rfl)).cons (F.get (k := 1) rfl)), (by have z := M.sub (.cons _ (.cons_cons _ (.cons_cons _ (.cons_cons _ (.cons_cons _ (.cons_cons _ (.cons_cons _ (.cons_cons _ (.cons_cons _ (.slnil)))))))))); rw [ed_at (by omega) (by omega), mn_step hp15_0] at z; exact z), by omega, by omega, (by rw [List.length_set]; exact hp15_2)⟩
          · rw [hs14] at F
            have hs14i := of_decide_eq_true hs14
            refine wp_cond_true (F.ev rfl) ?_
            refine wp_skip ?_
            refine nxq ?_
            refine wp_seq ?_
            refine wp_block ?_
            refine wp_seq ?_
            have hx := fits_iff.1 (hfit _ (atG_mem (L := E) (i := k.toNat) (by omega)))
            have hxs := hsm (atG E k.toNat).f.toNat
            -- region 21
            refine wp_region_lit ?_
            refine sq_pure F (wt0 rfl) (pu_field rfl (F.ev rfl) fo24_1) rfl rfl ?_; clear F; intro φ F
            refine sq_rd F (wt0 rfl) (ld_cell rfl (F.ev rfl) one22 (M.rd (i := 6) rfl) rfl) rfl rfl ?_; clear F; intro φ F
            refine sq_pure F (wt0 rfl) (pu_move rfl (F.ev rfl)) rfl rfl ?_; clear F; intro φ F
            refine sq_pure F (wt0 rfl) (pu_ix rfl (F.ev rfl) (F.ev rfl) sl22 (M.av (i := 7) rfl) (by omega) (by omega)) rfl rfl ?_; clear F; intro φ F
            refine sq_rd F (wt0 rfl) (ld_el rfl (F.ev rfl) agg40 (fun _ e => e ▸ (M.av (i := 7) rfl)) (by omega) (cG_at (by first | omega | (simp; done) | (simp; omega))) rfl) rfl rfl ?_; clear F; intro φ F
            refine sq_alloc F M (wt0 rfl) rfl z40 rfl rfl ?_; clear F M; intro φ ω g6 F M
            refine sq_stA F M (wt0 rfl) rfl (F.ev rfl) (F.ev rfl) (i := 0) rfl agg40 rfl rfl rfl rfl ?_; clear M; intro ω M
            refine nx ?_
            refine wp_seq ?_
            -- region 22
            refine wp_region_lit ?_
            refine sq_pure F (wt0 rfl) (pu_assign rfl (evk)) rfl rfl ?_; clear F; intro φ F
            refine nx ?_
            refine wp_block ?_
            refine lp (σ := Int) (fun m φ' w' => ∃ us : List Value, Fr φ' 155 [(1, .pointer (some ⟨g1, 0, none⟩)), (6, vq), (7, .int .i64 i), (8, (.slice (some ⟨g2, 0, none⟩) n.toNat n.toNat)), (9, .int .i64 r), (10, (.slice (some ⟨g5, 0, none⟩) n.toNat n.toNat)), (12, .int .i64 k), (13, .pointer (some ⟨g6, 0, none⟩)), (14, .int .i64 m)] ∧ Mm [] w w' [.blk g6 40 #[.int .i64 ((atG E k.toNat).f), .int .i64 ((atG E k.toNat).t), .int .i64 ((atG E k.toNat).p.e), .int .i64 ((atG E k.toNat).p.r)], .own (fpR us) (RowsV 38 us (inL E (rowM E n.toNat i.toNat r.toNat) n.toNat k.toNat m.toNat)), .blk g5 44 (List.toArray (cV us)), .own (fpR vs) (RowsV 38 vs (rowM E n.toNat i.toNat r.toNat)), .blk g2 44 (List.toArray (cV vs)), .row 45 1 vq rs.length (cV rs), .own (fpI rs vss (cloT E n.toNat i.toNat)) (In3 rs vss (cloT E n.toNat i.toNat)), .blk g1 24 #[.int .i64 n, ev], .arg 4 ev E.length (cG E)] ∧ (0 ≤ m) ∧ (m ≤ ((atR (rowM E n.toNat i.toNat r.toNat) (atG E k.toNat).f.toNat).length : Int)) ∧ (us.length = n.toNat)) (fun m => (((atR (rowM E n.toNat i.toNat r.toNat) (atG E k.toNat).f.toNat).length : Int) - m).toNat) (0) ⟨us, (((((((((F.nil.cons (F.get (k := 14) rfl)).cons (F.get (k := 13) rfl)).cons (F.get (k := 12) rfl)).cons (F.get (k := 10) rfl)).cons (F.get (k := 9) rfl)).cons (F.get (k := 8) rfl)).cons (F.get (k := 7) rfl)).cons (F.get (k := 6) rfl)).cons (F.get (k := 1) rfl)), (by have z := M.sub (.cons_cons _ (.cons_cons _ (.cons_cons _ (.cons_cons _ (.cons_cons _ (.cons_cons _ (.cons_cons _ (.cons_cons _ (.cons_cons _ (.slnil)))))))))); rw [ed_in] at z; exact z), Int.le_refl _, by omega, hp13_2⟩ ?_
            clear F M
            rintro m φ ω ⟨us, F, M, hp17_0, hp17_1, hp17_2⟩
            refine wp_seq ?_
            refine wp_seq ?_
            -- region 23
            refine wp_region_lit ?_
            refine sq_pure F (wt0 rfl) (pu_move rfl (F.ev rfl)) rfl rfl ?_; clear F; intro φ F
            refine sq_pure F (wt0 rfl) (pu_move rfl (F.ev rfl)) rfl rfl ?_; clear F; intro φ F
            refine sq_pure F (wt0 rfl) (pu_field rfl (F.ev rfl) fo40_0) rfl rfl ?_; clear F; intro φ F
            refine sq_rd F (wt0 rfl) (ld_cell rfl (F.ev rfl) one3 (M.rd (i := 0) rfl) rfl) rfl rfl ?_; clear F; intro φ F
            refine sq_pure F (wt0 rfl) (pu_ix rfl (F.ev rfl) (F.ev rfl) sl45 (blk_rdv (m := 1) (M.at (i := 4) rfl) (by first | rfl | assumption | (simp only [List.size_toArray, cB_len, cV, List.length_set, List.length_replicate, Nat.mul_one]; first | done | rfl | assumption | omega)) (by omega)) (by omega) (by omega)) rfl rfl ?_; clear F; intro φ F
            refine sq_rd F (wt0 rfl) (ld_el1 rfl (F.ev rfl) one44 (fun _ e => e ▸ (blk_rdv (m := 1) (M.at (i := 4) rfl) (by first | rfl | assumption | (simp only [List.size_toArray, cB_len, cV, List.length_set, List.length_replicate, Nat.mul_one]; first | done | rfl | assumption | omega)) (by omega))) (by omega) (cV_at (L := vs) (by first | omega | (simp; done) | (simp; omega)))) rfl rfl ?_; clear F; intro φ F
            refine sq_pure F (wt0 rfl) (pu_len rfl (F.ev rfl) sl44 (RowsV.rd (M.pv (i := 3) rfl) (by first | omega | (simp only [List.length_set, List.length_replicate]; omega)))) rfl rfl ?_; clear F; intro φ F
            refine sq_pure F (wt0 rfl) (pu_lss rfl (F.ev rfl) (F.ev rfl)) rfl rfl ?_; clear F; intro φ F
            refine nx ?_
            cases hs18 : (decide (m < (((atR (rowM E n.toNat i.toNat r.toNat) (((atG E k.toNat).f).toNat)).length : Nat) : Int)))
            · rw [hs18] at F
              have hs18i := of_decide_eq_false hs18
              refine wp_cond_false (F.ev rfl) ?_
              refine wp_exit ?_
              refine nxe ?_
              refine nxe ?_
              refine nxm ?_
              refine nxb ?_
              refine nxq ?_
              -- region 20
              refine wp_region_lit ?_
              refine sq_pure F (wt0 rfl) (pu_move rfl (F.ev rfl)) rfl rfl ?_; clear F; intro φ F
              refine sq_pure F (wt0 rfl) (pu_add rfl (F.ev rfl) (evk) (by omega) (by omega)) rfl rfl ?_; clear F; intro φ F
              refine sq_pure F (wt0 rfl) (pu_assign rfl (F.ev rfl)) rfl rfl ?_; clear F; intro φ F
              refine wpList_nil ?_
              exact ⟨k + 1, by omega, us, (((((((F.nil.cons (F.get (k := 12) rfl)).cons (F.get (k := 10) rfl)).cons (F.get (k := 9) rfl)).cons (F.get (k := 8) rfl)).cons (F.get (k := 7) rfl)).cons (F.get (k := 6) rfl)).cons (F.get (k := 1) rfl)), (by have z := M.sub (.cons _ (.cons_cons _ (.cons_cons _ (.cons_cons _ (.cons_cons _ (.cons_cons _ (.cons_cons _ (.cons_cons _ (.cons_cons _ (.slnil)))))))))); rw [inn_end hp13_0 (by omega) hs18i] at z; exact z), by omega, by omega, hp17_2⟩
            · rw [hs18] at F
              have hs18i := of_decide_eq_true hs18
              refine wp_cond_true (F.ev rfl) ?_
              refine wp_skip ?_
              refine nxq ?_
              refine wp_seq ?_
              refine wp_block ?_
              refine wp_seq ?_
              -- region 25
              refine rg_J F 16 (fun Dd dv w' => (Dd 0 = true → dv 0 = (.slice (some ⟨g2, 0, none⟩) n.toNat n.toNat)) ∧ (Dd 1 = true → dv 1 = .pointer (some ⟨g6, 0, none⟩)) ∧ (Dd 2 = true → dv 2 = .int .i64 ((atG E k.toNat).f)) ∧ (Dd 3 = true → dv 3 = .pointer (some ⟨gof (.slice (some ⟨g2, 0, none⟩) n.toNat n.toNat), oof (.slice (some ⟨g2, 0, none⟩) n.toNat n.toNat) + (((atG E k.toNat).f).toNat * 1), none⟩)) ∧ (Dd 4 = true → dv 4 = (atV vs (((atG E k.toNat).f).toNat))) ∧ (Dd 5 = true → dv 5 = .int .i64 m) ∧ (Dd 6 = true → dv 6 = .pointer (some ⟨gof (atV vs (((atG E k.toNat).f).toNat)), oof (atV vs (((atG E k.toNat).f).toNat)) + (m.toNat * 2), none⟩)) ∧ (Dd 7 = true → dv 7 = .agg #[.int .i64 ((atS (atR (rowM E n.toNat i.toNat r.toNat) (((atG E k.toNat).f).toNat)) m.toNat).e), .int .i64 ((atS (atR (rowM E n.toNat i.toNat r.toNat) (((atG E k.toNat).f).toNat)) m.toNat).r)]) ∧ (Dd 8 = true → dv 8 = .pointer (some ⟨g6, 2, none⟩)) ∧ (Dd 9 = true → dv 9 = .agg #[.int .i64 ((atG E k.toNat).p.e), .int .i64 ((atG E k.toNat).p.r)]) ∧ (Dd 10 = true → dv 10 = .tuple #[.agg #[.int .i64 (((atS (atR (rowM E n.toNat i.toNat r.toNat) (((atG E k.toNat).f).toNat)) m.toNat).after (atG E k.toNat).p).e), .int .i64 (((atS (atR (rowM E n.toNat i.toNat r.toNat) (((atG E k.toNat).f).toNat)) m.toNat).after (atG E k.toNat).p).r)], .bool ((atS (atR (rowM E n.toNat i.toNat r.toNat) (((atG E k.toNat).f).toNat)) m.toNat).afterB (atG E k.toNat).p)]) ∧ (Dd 11 = true → dv 11 = .tuple #[.agg #[.int .i64 (((atS (atR (rowM E n.toNat i.toNat r.toNat) (((atG E k.toNat).f).toNat)) m.toNat).after (atG E k.toNat).p).e), .int .i64 (((atS (atR (rowM E n.toNat i.toNat r.toNat) (((atG E k.toNat).f).toNat)) m.toNat).after (atG E k.toNat).p).r)], .bool ((atS (atR (rowM E n.toNat i.toNat r.toNat) (((atG E k.toNat).f).toNat)) m.toNat).afterB (atG E k.toNat).p)]) ∧ (Dd 12 = true → dv 12 = .agg #[.int .i64 (((atS (atR (rowM E n.toNat i.toNat r.toNat) (((atG E k.toNat).f).toNat)) m.toNat).after (atG E k.toNat).p).e), .int .i64 (((atS (atR (rowM E n.toNat i.toNat r.toNat) (((atG E k.toNat).f).toNat)) m.toNat).after (atG E k.toNat).p).r)]) ∧ (Dd 13 = true → dv 13 = .bool ((atS (atR (rowM E n.toNat i.toNat r.toNat) (((atG E k.toNat).f).toNat)) m.toNat).afterB (atG E k.toNat).p)) ∧ (Dd 14 = true → dv 14 = .pointer (some ⟨(pof (dv 14)), 0, none⟩)) ∧ Mm [] w w' [(if Dd 15 = true then .blk (pof (dv 14)) 38 #[.int .i64 (((atS (atR (rowM E n.toNat i.toNat r.toNat) (((atG E k.toNat).f).toNat)) m.toNat).after (atG E k.toNat).p).e), .int .i64 (((atS (atR (rowM E n.toNat i.toNat r.toNat) (((atG E k.toNat).f).toNat)) m.toNat).after (atG E k.toNat).p).r)] else (if Dd 14 = true then .blk (pof (dv 14)) 38 #[.int .i64 0, .int .i64 0] else .arg 1 (.slice none 0 0) 0 [])), .blk g6 40 #[.int .i64 ((atG E k.toNat).f), .int .i64 ((atG E k.toNat).t), .int .i64 ((atG E k.toNat).p.e), .int .i64 ((atG E k.toNat).p.r)], .own (fpR us) (RowsV 38 us (inL E (rowM E n.toNat i.toNat r.toNat) n.toNat k.toNat m.toNat)), .blk g5 44 (List.toArray (cV us)), .own (fpR vs) (RowsV 38 vs (rowM E n.toNat i.toNat r.toNat)), .blk g2 44 (List.toArray (cV vs)), .row 45 1 vq rs.length (cV rs), .own (fpI rs vss (cloT E n.toNat i.toNat)) (In3 rs vss (cloT E n.toNat i.toNat)), .blk g1 24 #[.int .i64 n, ev], .arg 4 ev E.length (cG E)]) (fun dv => ⟨(fun h => by cases h), (fun h => by cases h), (fun h => by cases h), (fun h => by cases h), (fun h => by cases h), (fun h => by cases h), (fun h => by cases h), (fun h => by cases h), (fun h => by cases h), (fun h => by cases h), (fun h => by cases h), (fun h => by cases h), (fun h => by cases h), (fun h => by cases h), (fun h => by cases h), by simpa using (M.drew).dead⟩) mixedOK (by kernel_rfl) rfl ⟨?_, ?_, ?_, ?_, ?_, ?_, ?_, ?_, ?_, ?_, ?_, ?_, ?_, ?_, ?_, ?_, trivial⟩ ?_
              · intro Dd φ1 dv ω1 ⟨h0, h1, h2, h3, h4, h5, h6, h7, h8, h9, h10, h11, h12, h13, h14, M⟩ hDi hdep hcl F1 hdone hold
                have F := (F1.cons (F.was hold (s := 8) rfl rfl))
                try simp only [hDi, Bool.false_eq_true, if_false, if_true, ite_true, ite_false] at M
                exact ⟨wt0 rfl, ow_run ((pu_move rfl (F.ev rfl)) ω1) ⟨_, rfl, newP, keepP rfl h1, keepP rfl h2, keepP rfl h3, keepP rfl h4, keepP rfl h5, keepP rfl h6, keepP rfl h7, keepP rfl h8, keepP rfl h9, keepP rfl h10, keepP rfl h11, keepP rfl h12, keepP rfl h13, keepP rfl h14, by simpa [setB, setV, hDi, Bool.false_eq_true, if_false, if_true, ite_true, ite_false] using M⟩⟩
              · intro Dd φ1 dv ω1 ⟨h0, h1, h2, h3, h4, h5, h6, h7, h8, h9, h10, h11, h12, h13, h14, M⟩ hDi hdep hcl F1 hdone hold
                have F := (F1.cons (F.was hold (s := 13) rfl rfl))
                try simp only [hDi, Bool.false_eq_true, if_false, if_true, ite_true, ite_false] at M
                exact ⟨wt0 rfl, ow_run ((pu_field rfl (F.ev rfl) fo40_0) ω1) ⟨_, rfl, keepP rfl h0, newP, keepP rfl h2, keepP rfl h3, keepP rfl h4, keepP rfl h5, keepP rfl h6, keepP rfl h7, keepP rfl h8, keepP rfl h9, keepP rfl h10, keepP rfl h11, keepP rfl h12, keepP rfl h13, keepP rfl h14, by simpa [setB, setV, hDi, Bool.false_eq_true, if_false, if_true, ite_true, ite_false] using M⟩⟩
              · intro Dd φ1 dv ω1 ⟨h0, h1, h2, h3, h4, h5, h6, h7, h8, h9, h10, h11, h12, h13, h14, M⟩ hDi hdep hcl F1 hdone hold
                have d1 : Dd 1 = true := hdep 1 (by kernel_rfl)
                have F := (F1.cons (k := 90) (hdone 1 _ _ d1 rfl rfl |>.trans (h1 d1)))
                try simp only [d1, hDi, Bool.false_eq_true, if_false, if_true, ite_true, ite_false] at M
                exact ⟨wt0 rfl, ow_run ((ld_cell rfl (F.ev rfl) one3 (M.rd (i := 1) rfl) rfl) ω1 rfl) ⟨_, rfl, keepP rfl h0, keepP rfl h1, newP, keepP rfl h3, keepP rfl h4, keepP rfl h5, keepP rfl h6, keepP rfl h7, keepP rfl h8, keepP rfl h9, keepP rfl h10, keepP rfl h11, keepP rfl h12, keepP rfl h13, keepP rfl h14, by simpa [setB, setV, d1, hDi, Bool.false_eq_true, if_false, if_true, ite_true, ite_false] using M⟩⟩
              · intro Dd φ1 dv ω1 ⟨h0, h1, h2, h3, h4, h5, h6, h7, h8, h9, h10, h11, h12, h13, h14, M⟩ hDi hdep hcl F1 hdone hold
                have d0 : Dd 0 = true := hdep 0 (by kernel_rfl)
                have d2 : Dd 2 = true := hdep 2 (by kernel_rfl)
                have d1 : Dd 1 = true := hcl _ 1 d2 (by kernel_rfl)
                have F := ((F1.cons (k := 89) (hdone 0 _ _ d0 rfl rfl |>.trans (h0 d0))).cons (k := 91) (hdone 2 _ _ d2 rfl rfl |>.trans (h2 d2)))
                try simp only [d0, d1, d2, hDi, Bool.false_eq_true, if_false, if_true, ite_true, ite_false] at M
                exact ⟨wt0 rfl, ow_run ((pu_ix rfl (F.ev rfl) (F.ev rfl) sl45 (blk_rdv (m := 1) (M.at (i := 5) rfl) (by first | rfl | assumption | (simp only [List.size_toArray, cB_len, cV, List.length_set, List.length_replicate, Nat.mul_one]; first | done | rfl | assumption | omega)) (by omega)) (by omega) (by omega)) ω1) ⟨_, rfl, keepP rfl h0, keepP rfl h1, keepP rfl h2, newP, keepP rfl h4, keepP rfl h5, keepP rfl h6, keepP rfl h7, keepP rfl h8, keepP rfl h9, keepP rfl h10, keepP rfl h11, keepP rfl h12, keepP rfl h13, keepP rfl h14, by simpa [setB, setV, d0, d1, d2, hDi, Bool.false_eq_true, if_false, if_true, ite_true, ite_false] using M⟩⟩
              · intro Dd φ1 dv ω1 ⟨h0, h1, h2, h3, h4, h5, h6, h7, h8, h9, h10, h11, h12, h13, h14, M⟩ hDi hdep hcl F1 hdone hold
                have d3 : Dd 3 = true := hdep 3 (by kernel_rfl)
                have d0 : Dd 0 = true := hcl _ 0 d3 (by kernel_rfl)
                have d2 : Dd 2 = true := hcl _ 2 d3 (by kernel_rfl)
                have d1 : Dd 1 = true := hcl _ 1 d2 (by kernel_rfl)
                have F := (F1.cons (k := 92) (hdone 3 _ _ d3 rfl rfl |>.trans (h3 d3)))
                try simp only [d0, d1, d2, d3, hDi, Bool.false_eq_true, if_false, if_true, ite_true, ite_false] at M
                exact ⟨wt0 rfl, ow_run ((ld_el1 rfl (F.ev rfl) one44 (fun _ e => e ▸ (blk_rdv (m := 1) (M.at (i := 5) rfl) (by first | rfl | assumption | (simp only [List.size_toArray, cB_len, cV, List.length_set, List.length_replicate, Nat.mul_one]; first | done | rfl | assumption | omega)) (by omega))) (by omega) (cV_at (L := vs) (by first | omega | (simp; done) | (simp; omega)))) ω1 rfl) ⟨_, rfl, keepP rfl h0, keepP rfl h1, keepP rfl h2, keepP rfl h3, newP, keepP rfl h5, keepP rfl h6, keepP rfl h7, keepP rfl h8, keepP rfl h9, keepP rfl h10, keepP rfl h11, keepP rfl h12, keepP rfl h13, keepP rfl h14, by simpa [setB, setV, d0, d1, d2, d3, hDi, Bool.false_eq_true, if_false, if_true, ite_true, ite_false] using M⟩⟩
              · intro Dd φ1 dv ω1 ⟨h0, h1, h2, h3, h4, h5, h6, h7, h8, h9, h10, h11, h12, h13, h14, M⟩ hDi hdep hcl F1 hdone hold
                have F := (F1.cons (F.was hold (s := 14) rfl rfl))
                try simp only [hDi, Bool.false_eq_true, if_false, if_true, ite_true, ite_false] at M
                exact ⟨wt0 rfl, ow_run ((pu_move rfl (F.ev rfl)) ω1) ⟨_, rfl, keepP rfl h0, keepP rfl h1, keepP rfl h2, keepP rfl h3, keepP rfl h4, newP, keepP rfl h6, keepP rfl h7, keepP rfl h8, keepP rfl h9, keepP rfl h10, keepP rfl h11, keepP rfl h12, keepP rfl h13, keepP rfl h14, by simpa [setB, setV, hDi, Bool.false_eq_true, if_false, if_true, ite_true, ite_false] using M⟩⟩
              · intro Dd φ1 dv ω1 ⟨h0, h1, h2, h3, h4, h5, h6, h7, h8, h9, h10, h11, h12, h13, h14, M⟩ hDi hdep hcl F1 hdone hold
                have d4 : Dd 4 = true := hdep 4 (by kernel_rfl)
                have d5 : Dd 5 = true := hdep 5 (by kernel_rfl)
                have d3 : Dd 3 = true := hcl _ 3 d4 (by kernel_rfl)
                have d0 : Dd 0 = true := hcl _ 0 d3 (by kernel_rfl)
                have d2 : Dd 2 = true := hcl _ 2 d3 (by kernel_rfl)
                have d1 : Dd 1 = true := hcl _ 1 d2 (by kernel_rfl)
                have F := ((F1.cons (k := 93) (hdone 4 _ _ d4 rfl rfl |>.trans (h4 d4))).cons (k := 94) (hdone 5 _ _ d5 rfl rfl |>.trans (h5 d5)))
                try simp only [d0, d1, d2, d3, d4, d5, hDi, Bool.false_eq_true, if_false, if_true, ite_true, ite_false] at M
                exact ⟨wt0 rfl, ow_run ((pu_ix rfl (F.ev rfl) (F.ev rfl) sl44 (RowsV.rd (M.pv (i := 4) rfl) (by first | omega | (simp only [List.length_set, List.length_replicate]; omega))) (by omega) (by omega)) ω1) ⟨_, rfl, keepP rfl h0, keepP rfl h1, keepP rfl h2, keepP rfl h3, keepP rfl h4, keepP rfl h5, newP, keepP rfl h7, keepP rfl h8, keepP rfl h9, keepP rfl h10, keepP rfl h11, keepP rfl h12, keepP rfl h13, keepP rfl h14, by simpa [setB, setV, d0, d1, d2, d3, d4, d5, hDi, Bool.false_eq_true, if_false, if_true, ite_true, ite_false] using M⟩⟩
              · intro Dd φ1 dv ω1 ⟨h0, h1, h2, h3, h4, h5, h6, h7, h8, h9, h10, h11, h12, h13, h14, M⟩ hDi hdep hcl F1 hdone hold
                have d6 : Dd 6 = true := hdep 6 (by kernel_rfl)
                have d4 : Dd 4 = true := hcl _ 4 d6 (by kernel_rfl)
                have d5 : Dd 5 = true := hcl _ 5 d6 (by kernel_rfl)
                have d3 : Dd 3 = true := hcl _ 3 d4 (by kernel_rfl)
                have d0 : Dd 0 = true := hcl _ 0 d3 (by kernel_rfl)
                have d2 : Dd 2 = true := hcl _ 2 d3 (by kernel_rfl)
                have d1 : Dd 1 = true := hcl _ 1 d2 (by kernel_rfl)
                have F := (F1.cons (k := 95) (hdone 6 _ _ d6 rfl rfl |>.trans (h6 d6)))
                try simp only [d0, d1, d2, d3, d4, d5, d6, hDi, Bool.false_eq_true, if_false, if_true, ite_true, ite_false] at M
                exact ⟨wt0 rfl, ow_run ((ld_el rfl (F.ev rfl) agg38 (fun _ e => e ▸ (RowsV.rd (M.pv (i := 4) rfl) (by first | omega | (simp only [List.length_set, List.length_replicate]; omega)))) (by omega) (cS_at (by first | omega | (simp; done) | (simp; omega))) rfl) ω1 rfl) ⟨_, rfl, keepP rfl h0, keepP rfl h1, keepP rfl h2, keepP rfl h3, keepP rfl h4, keepP rfl h5, keepP rfl h6, newP, keepP rfl h8, keepP rfl h9, keepP rfl h10, keepP rfl h11, keepP rfl h12, keepP rfl h13, keepP rfl h14, by simpa [setB, setV, d0, d1, d2, d3, d4, d5, d6, hDi, Bool.false_eq_true, if_false, if_true, ite_true, ite_false] using M⟩⟩
              · intro Dd φ1 dv ω1 ⟨h0, h1, h2, h3, h4, h5, h6, h7, h8, h9, h10, h11, h12, h13, h14, M⟩ hDi hdep hcl F1 hdone hold
                have F := (F1.cons (F.was hold (s := 13) rfl rfl))
                try simp only [hDi, Bool.false_eq_true, if_false, if_true, ite_true, ite_false] at M
                exact ⟨wt0 rfl, ow_run ((pu_field rfl (F.ev rfl) fo40_2) ω1) ⟨_, rfl, keepP rfl h0, keepP rfl h1, keepP rfl h2, keepP rfl h3, keepP rfl h4, keepP rfl h5, keepP rfl h6, keepP rfl h7, newP, keepP rfl h9, keepP rfl h10, keepP rfl h11, keepP rfl h12, keepP rfl h13, keepP rfl h14, by simpa [setB, setV, hDi, Bool.false_eq_true, if_false, if_true, ite_true, ite_false] using M⟩⟩
              · intro Dd φ1 dv ω1 ⟨h0, h1, h2, h3, h4, h5, h6, h7, h8, h9, h10, h11, h12, h13, h14, M⟩ hDi hdep hcl F1 hdone hold
                have d8 : Dd 8 = true := hdep 8 (by kernel_rfl)
                have F := (F1.cons (k := 97) (hdone 8 _ _ d8 rfl rfl |>.trans (h8 d8)))
                try simp only [d8, hDi, Bool.false_eq_true, if_false, if_true, ite_true, ite_false] at M
                exact ⟨wt0 rfl, ow_run ((ld_sub rfl (F.ev rfl) agg38 (M.rd (i := 1) rfl) rfl rfl) ω1 rfl) ⟨_, rfl, keepP rfl h0, keepP rfl h1, keepP rfl h2, keepP rfl h3, keepP rfl h4, keepP rfl h5, keepP rfl h6, keepP rfl h7, keepP rfl h8, newP, keepP rfl h10, keepP rfl h11, keepP rfl h12, keepP rfl h13, keepP rfl h14, by simpa [setB, setV, d8, hDi, Bool.false_eq_true, if_false, if_true, ite_true, ite_false] using M⟩⟩
              · intro Dd φ1 dv ω1 ⟨h0, h1, h2, h3, h4, h5, h6, h7, h8, h9, h10, h11, h12, h13, h14, M⟩ hDi hdep hcl F1 hdone hold
                have d7 : Dd 7 = true := hdep 7 (by kernel_rfl)
                have d9 : Dd 9 = true := hdep 9 (by kernel_rfl)
                have d6 : Dd 6 = true := hcl _ 6 d7 (by kernel_rfl)
                have d8 : Dd 8 = true := hcl _ 8 d9 (by kernel_rfl)
                have d4 : Dd 4 = true := hcl _ 4 d6 (by kernel_rfl)
                have d5 : Dd 5 = true := hcl _ 5 d6 (by kernel_rfl)
                have d3 : Dd 3 = true := hcl _ 3 d4 (by kernel_rfl)
                have d0 : Dd 0 = true := hcl _ 0 d3 (by kernel_rfl)
                have d2 : Dd 2 = true := hcl _ 2 d3 (by kernel_rfl)
                have d1 : Dd 1 = true := hcl _ 1 d2 (by kernel_rfl)
                have F := ((F1.cons (k := 96) (hdone 7 _ _ d7 rfl rfl |>.trans (h7 d7))).cons (k := 98) (hdone 9 _ _ d9 rfl rfl |>.trans (h9 d9)))
                try simp only [d0, d1, d2, d3, d4, d5, d6, d7, d8, d9, hDi, Bool.false_eq_true, if_false, if_true, ite_true, ite_false] at M
                exact ⟨wt0 rfl, ow_callZ rfl en19 (evc (F.ev rfl) (evc (F.ev rfl) evn)) (Z := fun x w2 => x = .tuple #[.agg #[.int .i64 (((atS (atR (rowM E n.toNat i.toNat r.toNat) (((atG E k.toNat).f).toNat)) m.toNat).after (atG E k.toNat).p).e), .int .i64 (((atS (atR (rowM E n.toNat i.toNat r.toNat) (((atG E k.toNat).f).toNat)) m.toNat).after (atG E k.toNat).p).r)], .bool ((atS (atR (rowM E n.toNat i.toNat r.toNat) (((atG E k.toNat).f).toNat)) m.toNat).afterB (atG E k.toNat).p)] ∧ Below ω1.heap.size ω1 w2) (Calls.mono (pthen_any (atS (atR (rowM E n.toNat i.toNat r.toNat) (((atG E k.toNat).f).toNat)) m.toNat) (atG E k.toNat).p _) (fun e w2 h => ⟨_, h.1, rfl, h.2⟩)) (fun x w2 ⟨hx2, hb2⟩ => by subst hx2; have M2 := M.below hb2; exact ⟨_, rfl, keepP rfl h0, keepP rfl h1, keepP rfl h2, keepP rfl h3, keepP rfl h4, keepP rfl h5, keepP rfl h6, keepP rfl h7, keepP rfl h8, keepP rfl h9, newP, keepP rfl h11, keepP rfl h12, keepP rfl h13, keepP rfl h14, by simpa [setB, setV, d0, d1, d2, d3, d4, d5, d6, d7, d8, d9, hDi, Bool.false_eq_true, if_false, if_true, ite_true, ite_false] using M2⟩)⟩
              · intro Dd φ1 dv ω1 ⟨h0, h1, h2, h3, h4, h5, h6, h7, h8, h9, h10, h11, h12, h13, h14, M⟩ hDi hdep hcl F1 hdone hold
                have d10 : Dd 10 = true := hdep 10 (by kernel_rfl)
                have d7 : Dd 7 = true := hcl _ 7 d10 (by kernel_rfl)
                have d9 : Dd 9 = true := hcl _ 9 d10 (by kernel_rfl)
                have d6 : Dd 6 = true := hcl _ 6 d7 (by kernel_rfl)
                have d8 : Dd 8 = true := hcl _ 8 d9 (by kernel_rfl)
                have d4 : Dd 4 = true := hcl _ 4 d6 (by kernel_rfl)
                have d5 : Dd 5 = true := hcl _ 5 d6 (by kernel_rfl)
                have d3 : Dd 3 = true := hcl _ 3 d4 (by kernel_rfl)
                have d0 : Dd 0 = true := hcl _ 0 d3 (by kernel_rfl)
                have d2 : Dd 2 = true := hcl _ 2 d3 (by kernel_rfl)
                have d1 : Dd 1 = true := hcl _ 1 d2 (by kernel_rfl)
                have F := (F1.cons (k := 99) (hdone 10 _ _ d10 rfl rfl |>.trans (h10 d10)))
                try simp only [d0, d1, d2, d3, d4, d5, d6, d7, d8, d9, d10, hDi, Bool.false_eq_true, if_false, if_true, ite_true, ite_false] at M
                exact ⟨wt0 rfl, ow_run ((pu_move rfl (F.ev rfl)) ω1) ⟨_, rfl, keepP rfl h0, keepP rfl h1, keepP rfl h2, keepP rfl h3, keepP rfl h4, keepP rfl h5, keepP rfl h6, keepP rfl h7, keepP rfl h8, keepP rfl h9, keepP rfl h10, newP, keepP rfl h12, keepP rfl h13, keepP rfl h14, by simpa [setB, setV, d0, d1, d2, d3, d4, d5, d6, d7, d8, d9, d10, hDi, Bool.false_eq_true, if_false, if_true, ite_true, ite_false] using M⟩⟩
              · intro Dd φ1 dv ω1 ⟨h0, h1, h2, h3, h4, h5, h6, h7, h8, h9, h10, h11, h12, h13, h14, M⟩ hDi hdep hcl F1 hdone hold
                have d11 : Dd 11 = true := hdep 11 (by kernel_rfl)
                have d10 : Dd 10 = true := hcl _ 10 d11 (by kernel_rfl)
                have d7 : Dd 7 = true := hcl _ 7 d10 (by kernel_rfl)
                have d9 : Dd 9 = true := hcl _ 9 d10 (by kernel_rfl)
                have d6 : Dd 6 = true := hcl _ 6 d7 (by kernel_rfl)
                have d8 : Dd 8 = true := hcl _ 8 d9 (by kernel_rfl)
                have d4 : Dd 4 = true := hcl _ 4 d6 (by kernel_rfl)
                have d5 : Dd 5 = true := hcl _ 5 d6 (by kernel_rfl)
                have d3 : Dd 3 = true := hcl _ 3 d4 (by kernel_rfl)
                have d0 : Dd 0 = true := hcl _ 0 d3 (by kernel_rfl)
                have d2 : Dd 2 = true := hcl _ 2 d3 (by kernel_rfl)
                have d1 : Dd 1 = true := hcl _ 1 d2 (by kernel_rfl)
                have F := (F1.cons (k := 88) (hdone 11 _ _ d11 rfl rfl |>.trans (h11 d11)))
                try simp only [d0, d1, d2, d3, d4, d5, d6, d7, d8, d9, d10, d11, hDi, Bool.false_eq_true, if_false, if_true, ite_true, ite_false] at M
                exact ⟨wt0 rfl, ow_run ((pu_extract rfl (F.ev rfl) rfl) ω1) ⟨_, rfl, keepP rfl h0, keepP rfl h1, keepP rfl h2, keepP rfl h3, keepP rfl h4, keepP rfl h5, keepP rfl h6, keepP rfl h7, keepP rfl h8, keepP rfl h9, keepP rfl h10, keepP rfl h11, newP, keepP rfl h13, keepP rfl h14, by simpa [setB, setV, d0, d1, d2, d3, d4, d5, d6, d7, d8, d9, d10, d11, hDi, Bool.false_eq_true, if_false, if_true, ite_true, ite_false] using M⟩⟩
              · intro Dd φ1 dv ω1 ⟨h0, h1, h2, h3, h4, h5, h6, h7, h8, h9, h10, h11, h12, h13, h14, M⟩ hDi hdep hcl F1 hdone hold
                have d11 : Dd 11 = true := hdep 11 (by kernel_rfl)
                have d10 : Dd 10 = true := hcl _ 10 d11 (by kernel_rfl)
                have d7 : Dd 7 = true := hcl _ 7 d10 (by kernel_rfl)
                have d9 : Dd 9 = true := hcl _ 9 d10 (by kernel_rfl)
                have d6 : Dd 6 = true := hcl _ 6 d7 (by kernel_rfl)
                have d8 : Dd 8 = true := hcl _ 8 d9 (by kernel_rfl)
                have d4 : Dd 4 = true := hcl _ 4 d6 (by kernel_rfl)
                have d5 : Dd 5 = true := hcl _ 5 d6 (by kernel_rfl)
                have d3 : Dd 3 = true := hcl _ 3 d4 (by kernel_rfl)
                have d0 : Dd 0 = true := hcl _ 0 d3 (by kernel_rfl)
                have d2 : Dd 2 = true := hcl _ 2 d3 (by kernel_rfl)
                have d1 : Dd 1 = true := hcl _ 1 d2 (by kernel_rfl)
                have F := (F1.cons (k := 88) (hdone 11 _ _ d11 rfl rfl |>.trans (h11 d11)))
                try simp only [d0, d1, d2, d3, d4, d5, d6, d7, d8, d9, d10, d11, hDi, Bool.false_eq_true, if_false, if_true, ite_true, ite_false] at M
                exact ⟨wt0 rfl, ow_run ((pu_extract rfl (F.ev rfl) rfl) ω1) ⟨_, rfl, keepP rfl h0, keepP rfl h1, keepP rfl h2, keepP rfl h3, keepP rfl h4, keepP rfl h5, keepP rfl h6, keepP rfl h7, keepP rfl h8, keepP rfl h9, keepP rfl h10, keepP rfl h11, keepP rfl h12, newP, keepP rfl h14, by simpa [setB, setV, d0, d1, d2, d3, d4, d5, d6, d7, d8, d9, d10, d11, hDi, Bool.false_eq_true, if_false, if_true, ite_true, ite_false] using M⟩⟩
              · intro Dd φ1 dv ω1 ⟨h0, h1, h2, h3, h4, h5, h6, h7, h8, h9, h10, h11, h12, h13, h14, M⟩ hDi hdep hcl F1 hdone hold
                have f15 : Dd 15 = false := notYet hcl (i := 14) (by kernel_rfl) hDi
                have F := F1
                try simp only [hDi, f15, Bool.false_eq_true, if_false, if_true, ite_true, ite_false] at M
                refine ⟨wt0 rfl, ow_allocB M rfl z38 (i := 0) rfl (fun x w2 hx2 M2 => ?_)⟩
                exact ⟨_, rfl, keepP rfl h0, keepP rfl h1, keepP rfl h2, keepP rfl h3, keepP rfl h4, keepP rfl h5, keepP rfl h6, keepP rfl h7, keepP rfl h8, keepP rfl h9, keepP rfl h10, keepP rfl h11, keepP rfl h12, keepP rfl h13, (fun _ => by simpa [setV] using hx2), by simpa [setB, setV, hDi, f15, Bool.false_eq_true, if_false, if_true, ite_true, ite_false] using M2⟩
              · intro Dd φ1 dv ω1 ⟨h0, h1, h2, h3, h4, h5, h6, h7, h8, h9, h10, h11, h12, h13, h14, M⟩ hDi hdep hcl F1 hdone hold
                have d14 : Dd 14 = true := hdep 14 (by kernel_rfl)
                have d12 : Dd 12 = true := hdep 12 (by kernel_rfl)
                have d11 : Dd 11 = true := hcl _ 11 d12 (by kernel_rfl)
                have d10 : Dd 10 = true := hcl _ 10 d11 (by kernel_rfl)
                have d7 : Dd 7 = true := hcl _ 7 d10 (by kernel_rfl)
                have d9 : Dd 9 = true := hcl _ 9 d10 (by kernel_rfl)
                have d6 : Dd 6 = true := hcl _ 6 d7 (by kernel_rfl)
                have d8 : Dd 8 = true := hcl _ 8 d9 (by kernel_rfl)
                have d4 : Dd 4 = true := hcl _ 4 d6 (by kernel_rfl)
                have d5 : Dd 5 = true := hcl _ 5 d6 (by kernel_rfl)
                have d3 : Dd 3 = true := hcl _ 3 d4 (by kernel_rfl)
                have d0 : Dd 0 = true := hcl _ 0 d3 (by kernel_rfl)
                have d2 : Dd 2 = true := hcl _ 2 d3 (by kernel_rfl)
                have d1 : Dd 1 = true := hcl _ 1 d2 (by kernel_rfl)
                have F := ((F1.cons (k := 15) (hdone 14 _ _ d14 rfl rfl |>.trans (h14 d14))).cons (k := 100) (hdone 12 _ _ d12 rfl rfl |>.trans (h12 d12)))
                try simp only [d0, d1, d2, d3, d4, d5, d6, d7, d8, d9, d10, d11, d12, d14, hDi, Bool.false_eq_true, if_false, if_true, ite_true, ite_false] at M
                exact ⟨wt0 rfl, ow_stA M rfl (F.ev rfl) (F.ev rfl) (i := 0) rfl agg38 rfl rfl rfl rfl (fun x w2 M2 => ⟨x, rfl, keepP rfl h0, keepP rfl h1, keepP rfl h2, keepP rfl h3, keepP rfl h4, keepP rfl h5, keepP rfl h6, keepP rfl h7, keepP rfl h8, keepP rfl h9, keepP rfl h10, keepP rfl h11, keepP rfl h12, keepP rfl h13, keepP rfl h14, by simpa [setB, setV, d0, d1, d2, d3, d4, d5, d6, d7, d8, d9, d10, d11, d12, d14, hDi, Bool.false_eq_true, if_false, if_true, ite_true, ite_false] using M2⟩)⟩
              clear M; rintro dv φ ω ⟨h0, h1, h2, h3, h4, h5, h6, h7, h8, h9, h10, h11, h12, h13, h14, M⟩ F
              simp only [hvL, List.take_succ_cons, List.take_zero] at F
              have hq14 := h14 (by simp)
              have F14 := F.get (k := 15) rfl
              replace F := F.cons (F14.trans hq14)
              rw [h13 (by simp)] at F
              rw [h12 (by simp)] at F
              rw [h11 (by simp)] at F
              rw [h10 (by simp)] at F
              rw [h9 (by simp)] at F
              rw [h8 (by simp)] at F
              rw [h7 (by simp)] at F
              rw [h6 (by simp)] at F
              rw [h5 (by simp)] at F
              rw [h4 (by simp)] at F
              rw [h3 (by simp)] at F
              rw [h2 (by simp)] at F
              rw [h1 (by simp)] at F
              rw [h0 (by simp)] at F
              replace M : Mm [] w ω [.blk (pof (dv 14)) 38 #[.int .i64 (((atS (atR (rowM E n.toNat i.toNat r.toNat) (((atG E k.toNat).f).toNat)) m.toNat).after (atG E k.toNat).p).e), .int .i64 (((atS (atR (rowM E n.toNat i.toNat r.toNat) (((atG E k.toNat).f).toNat)) m.toNat).after (atG E k.toNat).p).r)], .blk g6 40 #[.int .i64 ((atG E k.toNat).f), .int .i64 ((atG E k.toNat).t), .int .i64 ((atG E k.toNat).p.e), .int .i64 ((atG E k.toNat).p.r)], .own (fpR us) (RowsV 38 us (inL E (rowM E n.toNat i.toNat r.toNat) n.toNat k.toNat m.toNat)), .blk g5 44 (List.toArray (cV us)), .own (fpR vs) (RowsV 38 vs (rowM E n.toNat i.toNat r.toNat)), .blk g2 44 (List.toArray (cV vs)), .row 45 1 vq rs.length (cV rs), .own (fpI rs vss (cloT E n.toNat i.toNat)) (In3 rs vss (cloT E n.toNat i.toNat)), .blk g1 24 #[.int .i64 n, ev], .arg 4 ev E.length (cG E)] := by simpa using M
              clear h0 h1 h2 h3 h4 h5 h6 h7 h8 h9 h10 h11 h12 h13 h14
              generalize pof (dv 14) = g7 at F M
              refine sq_pure F (wt0 rfl) (pu_assign rfl (F.ev rfl)) rfl rfl ?_; clear F; intro φ F
              refine nx ?_
              refine wp_seq ?_
              -- region 26
              refine wp_region_lit ?_
              refine sq_pure F (wt0 rfl) (pu_move rfl (F.ev rfl)) rfl rfl ?_; clear F; intro φ F
              refine nx ?_
              cases hs19 : ((atS (atR (rowM E n.toNat i.toNat r.toNat) (((atG E k.toNat).f).toNat)) m.toNat).afterB (atG E k.toNat).p)
              · rw [hs19] at F
                refine wp_cond_false (F.ev rfl) ?_
                refine wp_skip ?_
                refine nxb ?_
                refine nxq ?_
                -- region 24
                refine wp_region_lit ?_
                refine sq_pure F (wt0 rfl) (pu_move rfl (F.ev rfl)) rfl rfl ?_; clear F; intro φ F
                refine sq_pure F (wt0 rfl) (pu_add rfl (F.ev rfl) (evk) (by omega) (by omega)) rfl rfl ?_; clear F; intro φ F
                refine sq_pure F (wt0 rfl) (pu_assign rfl (F.ev rfl)) rfl rfl ?_; clear F; intro φ F
                refine wpList_nil ?_
                exact ⟨m + 1, by omega, us, (((((((((F.nil.cons (F.get (k := 14) rfl)).cons (F.get (k := 13) rfl)).cons (F.get (k := 12) rfl)).cons (F.get (k := 10) rfl)).cons (F.get (k := 9) rfl)).cons (F.get (k := 8) rfl)).cons (F.get (k := 7) rfl)).cons (F.get (k := 6) rfl)).cons (F.get (k := 1) rfl)), (by have z := M.sub (.cons _ (.cons_cons _ (.cons_cons _ (.cons_cons _ (.cons_cons _ (.cons_cons _ (.cons_cons _ (.cons_cons _ (.cons_cons _ (.cons_cons _ (.slnil))))))))))); rw [inn_no hp17_0 (by omega) hs19] at z; exact z), by omega, by omega, hp17_2⟩
              · rw [hs19] at F
                refine wp_cond_true (F.ev rfl) ?_
                have hts := inn_small (E := E) (n := n.toNat) (k := k.toNat) (m := m.toNat) (j := (atG E k.toNat).t.toNat) hsm hE16
                replace M := M.takeRow (i := 2) (j := ((atG E k.toNat).t).toNat) rfl (by first | omega | (simp only [List.length_set, List.length_replicate]; omega))
                replace M : Mm [] w ω [.row 38 2 (atV us (((atG E k.toNat).t).toNat)) ((atR (inL E (rowM E n.toNat i.toNat r.toNat) n.toNat k.toNat m.toNat) (((atG E k.toNat).t).toNat)).length) (cS (atR (inL E (rowM E n.toNat i.toNat r.toNat) n.toNat k.toNat m.toNat) (((atG E k.toNat).t).toNat))), .blk g7 38 #[.int .i64 (((atS (atR (rowM E n.toNat i.toNat r.toNat) (((atG E k.toNat).f).toNat)) m.toNat).after (atG E k.toNat).p).e), .int .i64 (((atS (atR (rowM E n.toNat i.toNat r.toNat) (((atG E k.toNat).f).toNat)) m.toNat).after (atG E k.toNat).p).r)], .blk g6 40 #[.int .i64 ((atG E k.toNat).f), .int .i64 ((atG E k.toNat).t), .int .i64 ((atG E k.toNat).p.e), .int .i64 ((atG E k.toNat).p.r)], .own (fpR (us.set (((atG E k.toNat).t).toNat) nilV)) (RowsV 38 (us.set (((atG E k.toNat).t).toNat) nilV) ((inL E (rowM E n.toNat i.toNat r.toNat) n.toNat k.toNat m.toNat).set (((atG E k.toNat).t).toNat) [])), .blk g5 44 (List.toArray (cV us)), .own (fpR vs) (RowsV 38 vs (rowM E n.toNat i.toNat r.toNat)), .blk g2 44 (List.toArray (cV vs)), .row 45 1 vq rs.length (cV rs), .own (fpI rs vss (cloT E n.toNat i.toNat)) (In3 rs vss (cloT E n.toNat i.toNat)), .blk g1 24 #[.int .i64 n, ev], .arg 4 ev E.length (cG E)] := M
                -- region 27
                refine rg_J F 12 (fun Dd dv w' => (Dd 0 = true → dv 0 = (.slice (some ⟨g5, 0, none⟩) n.toNat n.toNat)) ∧ (Dd 1 = true → dv 1 = .pointer (some ⟨g6, 1, none⟩)) ∧ (Dd 2 = true → dv 2 = .int .i64 ((atG E k.toNat).t)) ∧ (Dd 3 = true → dv 3 = (.slice (some ⟨g5, 0, none⟩) n.toNat n.toNat)) ∧ (Dd 4 = true → dv 4 = .pointer (some ⟨g6, 1, none⟩)) ∧ (Dd 5 = true → dv 5 = .int .i64 ((atG E k.toNat).t)) ∧ (Dd 6 = true → dv 6 = .pointer (some ⟨gof (.slice (some ⟨g5, 0, none⟩) n.toNat n.toNat), oof (.slice (some ⟨g5, 0, none⟩) n.toNat n.toNat) + (((atG E k.toNat).t).toNat * 1), none⟩)) ∧ (Dd 7 = true → dv 7 = (atV us (((atG E k.toNat).t).toNat))) ∧ (Dd 8 = true → dv 8 = .agg #[.int .i64 (((atS (atR (rowM E n.toNat i.toNat r.toNat) (((atG E k.toNat).f).toNat)) m.toNat).after (atG E k.toNat).p).e), .int .i64 (((atS (atR (rowM E n.toNat i.toNat r.toNat) (((atG E k.toNat).f).toNat)) m.toNat).after (atG E k.toNat).p).r)]) ∧ (Dd 11 = true → dv 11 = .pointer (some ⟨gof (.slice (some ⟨g5, 0, none⟩) n.toNat n.toNat), oof (.slice (some ⟨g5, 0, none⟩) n.toNat n.toNat) + (((atG E k.toNat).t).toNat * 1), none⟩)) ∧ Mm [] w w' [(if Dd 9 = true then .row 38 2 (dv 9) 1 (cS [((atS (atR (rowM E n.toNat i.toNat r.toNat) (((atG E k.toNat).f).toNat)) m.toNat).after (atG E k.toNat).p)]) else .arg 1 (.slice none 0 0) 0 []), (if Dd 10 = true then .row 38 2 (dv 10) (((atR (inL E (rowM E n.toNat i.toNat r.toNat) n.toNat k.toNat m.toNat) (((atG E k.toNat).t).toNat)) ++ [((atS (atR (rowM E n.toNat i.toNat r.toNat) (((atG E k.toNat).f).toNat)) m.toNat).after (atG E k.toNat).p)]).length) (cS ((atR (inL E (rowM E n.toNat i.toNat r.toNat) n.toNat k.toNat m.toNat) (((atG E k.toNat).t).toNat)) ++ [((atS (atR (rowM E n.toNat i.toNat r.toNat) (((atG E k.toNat).f).toNat)) m.toNat).after (atG E k.toNat).p)])) else .row 38 2 (atV us (((atG E k.toNat).t).toNat)) ((atR (inL E (rowM E n.toNat i.toNat r.toNat) n.toNat k.toNat m.toNat) (((atG E k.toNat).t).toNat)).length) (cS (atR (inL E (rowM E n.toNat i.toNat r.toNat) n.toNat k.toNat m.toNat) (((atG E k.toNat).t).toNat)))), .blk g7 38 #[.int .i64 (((atS (atR (rowM E n.toNat i.toNat r.toNat) (((atG E k.toNat).f).toNat)) m.toNat).after (atG E k.toNat).p).e), .int .i64 (((atS (atR (rowM E n.toNat i.toNat r.toNat) (((atG E k.toNat).f).toNat)) m.toNat).after (atG E k.toNat).p).r)], .blk g6 40 #[.int .i64 ((atG E k.toNat).f), .int .i64 ((atG E k.toNat).t), .int .i64 ((atG E k.toNat).p.e), .int .i64 ((atG E k.toNat).p.r)], .own (fpR (us.set (((atG E k.toNat).t).toNat) nilV)) (RowsV 38 (us.set (((atG E k.toNat).t).toNat) nilV) ((inL E (rowM E n.toNat i.toNat r.toNat) n.toNat k.toNat m.toNat).set (((atG E k.toNat).t).toNat) [])), .blk g5 44 (List.toArray (cV us)), .own (fpR vs) (RowsV 38 vs (rowM E n.toNat i.toNat r.toNat)), .blk g2 44 (List.toArray (cV vs)), .row 45 1 vq rs.length (cV rs), .own (fpI rs vss (cloT E n.toNat i.toNat)) (In3 rs vss (cloT E n.toNat i.toNat)), .blk g1 24 #[.int .i64 n, ev], .arg 4 ev E.length (cG E)]) (fun dv => ⟨(fun h => by cases h), (fun h => by cases h), (fun h => by cases h), (fun h => by cases h), (fun h => by cases h), (fun h => by cases h), (fun h => by cases h), (fun h => by cases h), (fun h => by cases h), (fun h => by cases h), by simpa using (M.drew).dead⟩) mixedOK (by kernel_rfl) rfl ⟨?_, ?_, ?_, ?_, ?_, ?_, ?_, ?_, ?_, ?_, ?_, ?_, trivial⟩ ?_
                · intro Dd φ1 dv ω1 ⟨h0, h1, h2, h3, h4, h5, h6, h7, h8, h11, M⟩ hDi hdep hcl F1 hdone hold
                  have F := (F1.cons (F.was hold (s := 10) rfl rfl))
                  try simp only [hDi, Bool.false_eq_true, if_false, if_true, ite_true, ite_false] at M
                  exact ⟨wt0 rfl, ow_run ((pu_move rfl (F.ev rfl)) ω1) ⟨_, rfl, newP, keepP rfl h1, keepP rfl h2, keepP rfl h3, keepP rfl h4, keepP rfl h5, keepP rfl h6, keepP rfl h7, keepP rfl h8, keepP rfl h11, by simpa [setB, setV, hDi, Bool.false_eq_true, if_false, if_true, ite_true, ite_false] using M⟩⟩
                · intro Dd φ1 dv ω1 ⟨h0, h1, h2, h3, h4, h5, h6, h7, h8, h11, M⟩ hDi hdep hcl F1 hdone hold
                  have F := (F1.cons (F.was hold (s := 13) rfl rfl))
                  try simp only [hDi, Bool.false_eq_true, if_false, if_true, ite_true, ite_false] at M
                  exact ⟨wt0 rfl, ow_run ((pu_field rfl (F.ev rfl) fo40_1) ω1) ⟨_, rfl, keepP rfl h0, newP, keepP rfl h2, keepP rfl h3, keepP rfl h4, keepP rfl h5, keepP rfl h6, keepP rfl h7, keepP rfl h8, keepP rfl h11, by simpa [setB, setV, hDi, Bool.false_eq_true, if_false, if_true, ite_true, ite_false] using M⟩⟩
                · intro Dd φ1 dv ω1 ⟨h0, h1, h2, h3, h4, h5, h6, h7, h8, h11, M⟩ hDi hdep hcl F1 hdone hold
                  have d1 : Dd 1 = true := hdep 1 (by kernel_rfl)
                  have F := (F1.cons (k := 104) (hdone 1 _ _ d1 rfl rfl |>.trans (h1 d1)))
                  try simp only [d1, hDi, Bool.false_eq_true, if_false, if_true, ite_true, ite_false] at M
                  exact ⟨wt0 rfl, ow_run ((ld_cell rfl (F.ev rfl) one3 (M.rd (i := 3) rfl) rfl) ω1 rfl) ⟨_, rfl, keepP rfl h0, keepP rfl h1, newP, keepP rfl h3, keepP rfl h4, keepP rfl h5, keepP rfl h6, keepP rfl h7, keepP rfl h8, keepP rfl h11, by simpa [setB, setV, d1, hDi, Bool.false_eq_true, if_false, if_true, ite_true, ite_false] using M⟩⟩
                · intro Dd φ1 dv ω1 ⟨h0, h1, h2, h3, h4, h5, h6, h7, h8, h11, M⟩ hDi hdep hcl F1 hdone hold
                  have F := (F1.cons (F.was hold (s := 10) rfl rfl))
                  try simp only [hDi, Bool.false_eq_true, if_false, if_true, ite_true, ite_false] at M
                  exact ⟨wt0 rfl, ow_run ((pu_move rfl (F.ev rfl)) ω1) ⟨_, rfl, keepP rfl h0, keepP rfl h1, keepP rfl h2, newP, keepP rfl h4, keepP rfl h5, keepP rfl h6, keepP rfl h7, keepP rfl h8, keepP rfl h11, by simpa [setB, setV, hDi, Bool.false_eq_true, if_false, if_true, ite_true, ite_false] using M⟩⟩
                · intro Dd φ1 dv ω1 ⟨h0, h1, h2, h3, h4, h5, h6, h7, h8, h11, M⟩ hDi hdep hcl F1 hdone hold
                  have F := (F1.cons (F.was hold (s := 13) rfl rfl))
                  try simp only [hDi, Bool.false_eq_true, if_false, if_true, ite_true, ite_false] at M
                  exact ⟨wt0 rfl, ow_run ((pu_field rfl (F.ev rfl) fo40_1) ω1) ⟨_, rfl, keepP rfl h0, keepP rfl h1, keepP rfl h2, keepP rfl h3, newP, keepP rfl h5, keepP rfl h6, keepP rfl h7, keepP rfl h8, keepP rfl h11, by simpa [setB, setV, hDi, Bool.false_eq_true, if_false, if_true, ite_true, ite_false] using M⟩⟩
                · intro Dd φ1 dv ω1 ⟨h0, h1, h2, h3, h4, h5, h6, h7, h8, h11, M⟩ hDi hdep hcl F1 hdone hold
                  have d4 : Dd 4 = true := hdep 4 (by kernel_rfl)
                  have F := (F1.cons (k := 107) (hdone 4 _ _ d4 rfl rfl |>.trans (h4 d4)))
                  try simp only [d4, hDi, Bool.false_eq_true, if_false, if_true, ite_true, ite_false] at M
                  exact ⟨wt0 rfl, ow_run ((ld_cell rfl (F.ev rfl) one3 (M.rd (i := 3) rfl) rfl) ω1 rfl) ⟨_, rfl, keepP rfl h0, keepP rfl h1, keepP rfl h2, keepP rfl h3, keepP rfl h4, newP, keepP rfl h6, keepP rfl h7, keepP rfl h8, keepP rfl h11, by simpa [setB, setV, d4, hDi, Bool.false_eq_true, if_false, if_true, ite_true, ite_false] using M⟩⟩
                · intro Dd φ1 dv ω1 ⟨h0, h1, h2, h3, h4, h5, h6, h7, h8, h11, M⟩ hDi hdep hcl F1 hdone hold
                  have d3 : Dd 3 = true := hdep 3 (by kernel_rfl)
                  have d5 : Dd 5 = true := hdep 5 (by kernel_rfl)
                  have d4 : Dd 4 = true := hcl _ 4 d5 (by kernel_rfl)
                  have F := ((F1.cons (k := 106) (hdone 3 _ _ d3 rfl rfl |>.trans (h3 d3))).cons (k := 108) (hdone 5 _ _ d5 rfl rfl |>.trans (h5 d5)))
                  try simp only [d3, d4, d5, hDi, Bool.false_eq_true, if_false, if_true, ite_true, ite_false] at M
                  exact ⟨wt0 rfl, ow_run ((pu_ix rfl (F.ev rfl) (F.ev rfl) sl45 (blk_rdv (m := 1) (M.at (i := 5) rfl) (by first | rfl | assumption | (simp only [List.size_toArray, cB_len, cV, List.length_set, List.length_replicate, Nat.mul_one]; first | done | rfl | assumption | omega)) (by omega)) (by omega) (by omega)) ω1) ⟨_, rfl, keepP rfl h0, keepP rfl h1, keepP rfl h2, keepP rfl h3, keepP rfl h4, keepP rfl h5, newP, keepP rfl h7, keepP rfl h8, keepP rfl h11, by simpa [setB, setV, d3, d4, d5, hDi, Bool.false_eq_true, if_false, if_true, ite_true, ite_false] using M⟩⟩
                · intro Dd φ1 dv ω1 ⟨h0, h1, h2, h3, h4, h5, h6, h7, h8, h11, M⟩ hDi hdep hcl F1 hdone hold
                  have d6 : Dd 6 = true := hdep 6 (by kernel_rfl)
                  have d3 : Dd 3 = true := hcl _ 3 d6 (by kernel_rfl)
                  have d5 : Dd 5 = true := hcl _ 5 d6 (by kernel_rfl)
                  have d4 : Dd 4 = true := hcl _ 4 d5 (by kernel_rfl)
                  have F := (F1.cons (k := 109) (hdone 6 _ _ d6 rfl rfl |>.trans (h6 d6)))
                  try simp only [d3, d4, d5, d6, hDi, Bool.false_eq_true, if_false, if_true, ite_true, ite_false] at M
                  exact ⟨wt0 rfl, ow_run ((ld_el1 rfl (F.ev rfl) one44 (fun _ e => e ▸ (blk_rdv (m := 1) (M.at (i := 5) rfl) (by first | rfl | assumption | (simp only [List.size_toArray, cB_len, cV, List.length_set, List.length_replicate, Nat.mul_one]; first | done | rfl | assumption | omega)) (by omega))) (by omega) (cV_at (L := us) (by first | omega | (simp; done) | (simp; omega)))) ω1 rfl) ⟨_, rfl, keepP rfl h0, keepP rfl h1, keepP rfl h2, keepP rfl h3, keepP rfl h4, keepP rfl h5, keepP rfl h6, newP, keepP rfl h8, keepP rfl h11, by simpa [setB, setV, d3, d4, d5, d6, hDi, Bool.false_eq_true, if_false, if_true, ite_true, ite_false] using M⟩⟩
                · intro Dd φ1 dv ω1 ⟨h0, h1, h2, h3, h4, h5, h6, h7, h8, h11, M⟩ hDi hdep hcl F1 hdone hold
                  have F := (F1.cons (F.was hold (s := 15) rfl rfl))
                  try simp only [hDi, Bool.false_eq_true, if_false, if_true, ite_true, ite_false] at M
                  exact ⟨wt0 rfl, ow_run ((ld_agg rfl (F.ev rfl) agg38 (M.rd (i := 2) rfl) rfl) ω1 rfl) ⟨_, rfl, keepP rfl h0, keepP rfl h1, keepP rfl h2, keepP rfl h3, keepP rfl h4, keepP rfl h5, keepP rfl h6, keepP rfl h7, newP, keepP rfl h11, by simpa [setB, setV, hDi, Bool.false_eq_true, if_false, if_true, ite_true, ite_false] using M⟩⟩
                · intro Dd φ1 dv ω1 ⟨h0, h1, h2, h3, h4, h5, h6, h7, h8, h11, M⟩ hDi hdep hcl F1 hdone hold
                  have d8 : Dd 8 = true := hdep 8 (by kernel_rfl)
                  have F := (F1.cons (k := 111) (hdone 8 _ _ d8 rfl rfl |>.trans (h8 d8)))
                  try simp only [d8, hDi, Bool.false_eq_true, if_false, if_true, ite_true, ite_false] at M
                  have M2 : Mm [] w _ (([_, _, _, _, _, _, _, _, _, _, _, _]).set 0 (.row 38 2 (.slice (some ⟨ω1.heap.size, 0, none⟩) 1 1) 1 (cS [((atS (atR (rowM E n.toNat i.toNat r.toNat) (((atG E k.toNat).f).toNat)) m.toNat).after (atG E k.toNat).p)]))) := M.fresh (i := 0) (e := 38) (m := 2) (k := 1) (cs := #[.int .i64 (((atS (atR (rowM E n.toNat i.toNat r.toNat) (((atG E k.toNat).f).toNat)) m.toNat).after (atG E k.toNat).p).e), .int .i64 (((atS (atR (rowM E n.toNat i.toNat r.toNat) (((atG E k.toNat).f).toNat)) m.toNat).after (atG E k.toNat).p).r)]) rfl (by omega) rfl
                  exact ⟨wt0 rfl, ow_run (bs44_1 rfl (F.ev rfl) _) ⟨_, rfl, keepP rfl h0, keepP rfl h1, keepP rfl h2, keepP rfl h3, keepP rfl h4, keepP rfl h5, keepP rfl h6, keepP rfl h7, keepP rfl h8, keepP rfl h11, by simpa [setB, setV, d8, hDi, Bool.false_eq_true, if_false, if_true, ite_true, ite_false] using M2⟩⟩
                · intro Dd φ1 dv ω1 ⟨h0, h1, h2, h3, h4, h5, h6, h7, h8, h11, M⟩ hDi hdep hcl F1 hdone hold
                  have d7 : Dd 7 = true := hdep 7 (by kernel_rfl)
                  have d9 : Dd 9 = true := hdep 9 (by kernel_rfl)
                  have d6 : Dd 6 = true := hcl _ 6 d7 (by kernel_rfl)
                  have d8 : Dd 8 = true := hcl _ 8 d9 (by kernel_rfl)
                  have d3 : Dd 3 = true := hcl _ 3 d6 (by kernel_rfl)
                  have d5 : Dd 5 = true := hcl _ 5 d6 (by kernel_rfl)
                  have d4 : Dd 4 = true := hcl _ 4 d5 (by kernel_rfl)
                  have F := ((F1.cons (k := 110) (hdone 7 _ _ d7 rfl rfl |>.trans (h7 d7))).cons (k := 112) (hdone 9 _ _ d9 rfl rfl))
                  try simp only [d3, d4, d5, d6, d7, d8, d9, hDi, Bool.false_eq_true, if_false, if_true, ite_true, ite_false] at M
                  refine ⟨wt0 rfl, ow_app M rfl sl44.1 el38 (F.ev rfl) (i := 1) rfl (F.ev rfl) (M.rv (i := 0) rfl) (cS_ones _) (by first | omega | (simp only [List.length_append, List.length_take, List.length_drop, List.length_cons, List.length_nil]; omega)) (by omega) (fun x w2 M2 => ?_)⟩
                  rw [← cS_app, show ((atR (inL E (rowM E n.toNat i.toNat r.toNat) n.toNat k.toNat m.toNat) (((atG E k.toNat).t).toNat)).length) + 1 = ((atR (inL E (rowM E n.toNat i.toNat r.toNat) n.toNat k.toNat m.toNat) (((atG E k.toNat).t).toNat)) ++ [((atS (atR (rowM E n.toNat i.toNat r.toNat) (((atG E k.toNat).f).toNat)) m.toNat).after (atG E k.toNat).p)]).length from by first | rfl | (simp; done) | (simp; omega)] at M2
                  exact ⟨_, rfl, keepP rfl h0, keepP rfl h1, keepP rfl h2, keepP rfl h3, keepP rfl h4, keepP rfl h5, keepP rfl h6, keepP rfl h7, keepP rfl h8, keepP rfl h11, by simpa [setB, setV, d3, d4, d5, d6, d7, d8, d9, hDi, Bool.false_eq_true, if_false, if_true, ite_true, ite_false] using M2⟩
                · intro Dd φ1 dv ω1 ⟨h0, h1, h2, h3, h4, h5, h6, h7, h8, h11, M⟩ hDi hdep hcl F1 hdone hold
                  have d0 : Dd 0 = true := hdep 0 (by kernel_rfl)
                  have d2 : Dd 2 = true := hdep 2 (by kernel_rfl)
                  have d1 : Dd 1 = true := hcl _ 1 d2 (by kernel_rfl)
                  have F := ((F1.cons (k := 103) (hdone 0 _ _ d0 rfl rfl |>.trans (h0 d0))).cons (k := 105) (hdone 2 _ _ d2 rfl rfl |>.trans (h2 d2)))
                  try simp only [d0, d1, d2, hDi, Bool.false_eq_true, if_false, if_true, ite_true, ite_false] at M
                  exact ⟨wt0 rfl, ow_run ((pu_ix rfl (F.ev rfl) (F.ev rfl) sl45 (blk_rdv (m := 1) (M.at (i := 5) rfl) (by first | rfl | assumption | (simp only [List.size_toArray, cB_len, cV, List.length_set, List.length_replicate, Nat.mul_one]; first | done | rfl | assumption | omega)) (by omega)) (by omega) (by omega)) ω1) ⟨_, rfl, keepP rfl h0, keepP rfl h1, keepP rfl h2, keepP rfl h3, keepP rfl h4, keepP rfl h5, keepP rfl h6, keepP rfl h7, keepP rfl h8, newP, by simpa [setB, setV, d0, d1, d2, hDi, Bool.false_eq_true, if_false, if_true, ite_true, ite_false] using M⟩⟩
                clear M; rintro dv φ ω ⟨h0, h1, h2, h3, h4, h5, h6, h7, h8, h11, M⟩ F
                simp only [hvL, List.take_succ_cons, List.take_zero] at F
                rw [h11 (by simp)] at F
                rw [h8 (by simp)] at F
                rw [h7 (by simp)] at F
                rw [h6 (by simp)] at F
                rw [h5 (by simp)] at F
                rw [h4 (by simp)] at F
                rw [h3 (by simp)] at F
                rw [h2 (by simp)] at F
                rw [h1 (by simp)] at F
                rw [h0 (by simp)] at F
                replace M : Mm [] w ω [.row 38 2 (dv 9) 1 (cS [((atS (atR (rowM E n.toNat i.toNat r.toNat) (((atG E k.toNat).f).toNat)) m.toNat).after (atG E k.toNat).p)]), .row 38 2 (dv 10) (((atR (inL E (rowM E n.toNat i.toNat r.toNat) n.toNat k.toNat m.toNat) (((atG E k.toNat).t).toNat)) ++ [((atS (atR (rowM E n.toNat i.toNat r.toNat) (((atG E k.toNat).f).toNat)) m.toNat).after (atG E k.toNat).p)]).length) (cS ((atR (inL E (rowM E n.toNat i.toNat r.toNat) n.toNat k.toNat m.toNat) (((atG E k.toNat).t).toNat)) ++ [((atS (atR (rowM E n.toNat i.toNat r.toNat) (((atG E k.toNat).f).toNat)) m.toNat).after (atG E k.toNat).p)])), .blk g7 38 #[.int .i64 (((atS (atR (rowM E n.toNat i.toNat r.toNat) (((atG E k.toNat).f).toNat)) m.toNat).after (atG E k.toNat).p).e), .int .i64 (((atS (atR (rowM E n.toNat i.toNat r.toNat) (((atG E k.toNat).f).toNat)) m.toNat).after (atG E k.toNat).p).r)], .blk g6 40 #[.int .i64 ((atG E k.toNat).f), .int .i64 ((atG E k.toNat).t), .int .i64 ((atG E k.toNat).p.e), .int .i64 ((atG E k.toNat).p.r)], .own (fpR (us.set (((atG E k.toNat).t).toNat) nilV)) (RowsV 38 (us.set (((atG E k.toNat).t).toNat) nilV) ((inL E (rowM E n.toNat i.toNat r.toNat) n.toNat k.toNat m.toNat).set (((atG E k.toNat).t).toNat) [])), .blk g5 44 (List.toArray (cV us)), .own (fpR vs) (RowsV 38 vs (rowM E n.toNat i.toNat r.toNat)), .blk g2 44 (List.toArray (cV vs)), .row 45 1 vq rs.length (cV rs), .own (fpI rs vss (cloT E n.toNat i.toNat)) (In3 rs vss (cloT E n.toNat i.toNat)), .blk g1 24 #[.int .i64 n, ev], .arg 4 ev E.length (cG E)] := by simpa using M
                clear h0 h1 h2 h3 h4 h5 h6 h7 h8 h11
                generalize dv 9 = v3 at F M
                generalize dv 10 = v4 at F M
                refine sq_st1 (j := ((atG E k.toNat).t).toNat) F M (wt0 rfl) rfl (F.ev rfl) (F.ev rfl) (i := 5) rfl (by first | omega | (simp only [cB_len, cV, List.length_set, List.length_replicate]; omega)) si44 (slc_one (M.rv (i := 1) rfl)).1 (slc_one (M.rv (i := 1) rfl)).2 rfl ?_; clear M; intro ω M
                replace M : Mm [] w ω [.row 38 2 v3 1 (cS [((atS (atR (rowM E n.toNat i.toNat r.toNat) (((atG E k.toNat).f).toNat)) m.toNat).after (atG E k.toNat).p)]), .row 38 2 v4 (((atR (inL E (rowM E n.toNat i.toNat r.toNat) n.toNat k.toNat m.toNat) (((atG E k.toNat).t).toNat)) ++ [((atS (atR (rowM E n.toNat i.toNat r.toNat) (((atG E k.toNat).f).toNat)) m.toNat).after (atG E k.toNat).p)]).length) (cS ((atR (inL E (rowM E n.toNat i.toNat r.toNat) n.toNat k.toNat m.toNat) (((atG E k.toNat).t).toNat)) ++ [((atS (atR (rowM E n.toNat i.toNat r.toNat) (((atG E k.toNat).f).toNat)) m.toNat).after (atG E k.toNat).p)])), .blk g7 38 #[.int .i64 (((atS (atR (rowM E n.toNat i.toNat r.toNat) (((atG E k.toNat).f).toNat)) m.toNat).after (atG E k.toNat).p).e), .int .i64 (((atS (atR (rowM E n.toNat i.toNat r.toNat) (((atG E k.toNat).f).toNat)) m.toNat).after (atG E k.toNat).p).r)], .blk g6 40 #[.int .i64 ((atG E k.toNat).f), .int .i64 ((atG E k.toNat).t), .int .i64 ((atG E k.toNat).p.e), .int .i64 ((atG E k.toNat).p.r)], .own (fpR (us.set (((atG E k.toNat).t).toNat) nilV)) (RowsV 38 (us.set (((atG E k.toNat).t).toNat) nilV) ((inL E (rowM E n.toNat i.toNat r.toNat) n.toNat k.toNat m.toNat).set (((atG E k.toNat).t).toNat) [])), .blk g5 44 (List.toArray (cV (us.set (((atG E k.toNat).t).toNat) v4))), .own (fpR vs) (RowsV 38 vs (rowM E n.toNat i.toNat r.toNat)), .blk g2 44 (List.toArray (cV vs)), .row 45 1 vq rs.length (cV rs), .own (fpI rs vss (cloT E n.toNat i.toNat)) (In3 rs vss (cloT E n.toNat i.toNat)), .blk g1 24 #[.int .i64 n, ev], .arg 4 ev E.length (cG E)] := M
                replace M := M.putRow (i := 4) (k := 1) (j := ((atG E k.toNat).t).toNat) (l := ((atR (inL E (rowM E n.toNat i.toNat r.toNat) n.toNat k.toNat m.toNat) (((atG E k.toNat).t).toNat)) ++ [((atS (atR (rowM E n.toNat i.toNat r.toNat) (((atG E k.toNat).f).toNat)) m.toNat).after (atG E k.toNat).p)])) rfl rfl (by first | omega | (simp only [cB_len, cV, List.length_set, List.length_replicate]; omega))
                rw [List.set_set, List.set_set] at M
                replace M : Mm [] w ω [.row 38 2 v3 1 (cS [((atS (atR (rowM E n.toNat i.toNat r.toNat) (((atG E k.toNat).f).toNat)) m.toNat).after (atG E k.toNat).p)]), .arg 1 (.slice none 0 0) 0 [], .blk g7 38 #[.int .i64 (((atS (atR (rowM E n.toNat i.toNat r.toNat) (((atG E k.toNat).f).toNat)) m.toNat).after (atG E k.toNat).p).e), .int .i64 (((atS (atR (rowM E n.toNat i.toNat r.toNat) (((atG E k.toNat).f).toNat)) m.toNat).after (atG E k.toNat).p).r)], .blk g6 40 #[.int .i64 ((atG E k.toNat).f), .int .i64 ((atG E k.toNat).t), .int .i64 ((atG E k.toNat).p.e), .int .i64 ((atG E k.toNat).p.r)], .own (fpR (us.set (((atG E k.toNat).t).toNat) v4)) (RowsV 38 (us.set (((atG E k.toNat).t).toNat) v4) ((inL E (rowM E n.toNat i.toNat r.toNat) n.toNat k.toNat m.toNat).set (((atG E k.toNat).t).toNat) ((atR (inL E (rowM E n.toNat i.toNat r.toNat) n.toNat k.toNat m.toNat) (((atG E k.toNat).t).toNat)) ++ [((atS (atR (rowM E n.toNat i.toNat r.toNat) (((atG E k.toNat).f).toNat)) m.toNat).after (atG E k.toNat).p)]))), .blk g5 44 (List.toArray (cV (us.set (((atG E k.toNat).t).toNat) v4))), .own (fpR vs) (RowsV 38 vs (rowM E n.toNat i.toNat r.toNat)), .blk g2 44 (List.toArray (cV vs)), .row 45 1 vq rs.length (cV rs), .own (fpI rs vss (cloT E n.toNat i.toNat)) (In3 rs vss (cloT E n.toNat i.toNat)), .blk g1 24 #[.int .i64 n, ev], .arg 4 ev E.length (cG E)] := M
                refine wpList_nil ?_
                refine nxb ?_
                refine nxq ?_
                -- region 24
                refine wp_region_lit ?_
                refine sq_pure F (wt0 rfl) (pu_move rfl (F.ev rfl)) rfl rfl ?_; clear F; intro φ F
                refine sq_pure F (wt0 rfl) (pu_add rfl (F.ev rfl) (evk) (by omega) (by omega)) rfl rfl ?_; clear F; intro φ F
                refine sq_pure F (wt0 rfl) (pu_assign rfl (F.ev rfl)) rfl rfl ?_; clear F; intro φ F
                refine wpList_nil ?_
                exact ⟨m + 1, by omega, (us.set (((atG E k.toNat).t).toNat) v4), (((((((((F.nil.cons (F.get (k := 14) rfl)).cons (F.get (k := 13) rfl)).cons (F.get (k := 12) rfl)).cons (F.get (k := 10) rfl)).cons (F.get (k := 9) rfl)).cons (F.get (k := 8) rfl)).cons (F.get (k := 7) rfl)).cons (F.get (k := 6) rfl)).cons (F.get (k := 1) rfl)), (by have z := M.sub (.cons _ (.cons _ (.cons _ (.cons_cons _ (.cons_cons _ (.cons_cons _ (.cons_cons _ (.cons_cons _ (.cons_cons _ (.cons_cons _ (.cons_cons _ (.cons_cons _ (.slnil))))))))))))); rw [inn_yes hp17_0 (by omega) (by omega) hs19] at z; exact z), by omega, by omega, (by rw [List.length_set]; exact hp17_2)⟩
        · rw [hs12] at F
          have hs12i := of_decide_eq_true hs12
          refine wp_cond_true (F.ev rfl) ?_
          refine wp_skip ?_
          refine nxq ?_
          refine wp_seq ?_
          refine wp_block ?_
          have hjs := hsm j.toNat
          -- region 17
          refine wp_region_lit ?_
          refine sq_pure F (wt0 rfl) (pu_move rfl (F.ev rfl)) rfl rfl ?_; clear F; intro φ F
          refine sq_pure F (wt0 rfl) (pu_move rfl (F.ev rfl)) rfl rfl ?_; clear F; intro φ F
          refine sq_bs (e := 38) (m := 2) (k := 0) (parts := #[]) (cs := #[]) F M (wt0 rfl) (bs44_0 rfl _) (by omega) rfl rfl rfl ?_; clear F M; intro φ ω g8 F M
          replace M : Mm [] w ω [.row 38 2 (.slice (some ⟨g8, 0, none⟩) 0 0) 0 (cS []), .own (fpR us) (RowsV 38 us (cpL (rowM E n.toNat i.toNat r.toNat) n.toNat j.toNat)), .blk g5 44 (List.toArray (cV us)), .own (fpR vs) (RowsV 38 vs (rowM E n.toNat i.toNat r.toNat)), .blk g2 44 (List.toArray (cV vs)), .row 45 1 vq rs.length (cV rs), .own (fpI rs vss (cloT E n.toNat i.toNat)) (In3 rs vss (cloT E n.toNat i.toNat)), .blk g1 24 #[.int .i64 n, ev], .arg 4 ev E.length (cG E)] := M
          refine sq_pure F (wt0 rfl) (pu_move rfl (F.ev rfl)) rfl rfl ?_; clear F; intro φ F
          refine sq_pure F (wt0 rfl) (pu_move rfl (F.ev rfl)) rfl rfl ?_; clear F; intro φ F
          refine sq_pure F (wt0 rfl) (pu_ix rfl (F.ev rfl) (F.ev rfl) sl45 (blk_rdv (m := 1) (M.at (i := 4) rfl) (by first | rfl | assumption | (simp only [List.size_toArray, cB_len, cV, List.length_set, List.length_replicate, Nat.mul_one]; first | done | rfl | assumption | omega)) (by omega)) (by omega) (by omega)) rfl rfl ?_; clear F; intro φ F
          refine sq_rd F (wt0 rfl) (ld_el1 rfl (F.ev rfl) one44 (fun _ e => e ▸ (blk_rdv (m := 1) (M.at (i := 4) rfl) (by first | rfl | assumption | (simp only [List.size_toArray, cB_len, cV, List.length_set, List.length_replicate, Nat.mul_one]; first | done | rfl | assumption | omega)) (by omega))) (by omega) (cV_at (L := vs) (by first | omega | (simp; done) | (simp; omega)))) rfl rfl ?_; clear F; intro φ F
          refine sq_app F M (wt0 rfl) rfl sl44.1 el38 (F.ev rfl) (i := 0) rfl (F.ev rfl) (RowsV.rd (M.pv (i := 3) rfl) (by first | omega | (simp only [List.length_set, List.length_replicate]; omega))) (cS_ones _) (by first | omega | (simp only [List.length_append, List.length_cons, List.length_nil, List.length_singleton]; omega)) (by omega) rfl rfl ?_; clear F M; intro φ ω v5 F M
          replace M : Mm [] w ω [.row 38 2 v5 (0 + ((atR (rowM E n.toNat i.toNat r.toNat) j.toNat).length)) ((cS []) ++ (cS (atR (rowM E n.toNat i.toNat r.toNat) j.toNat))), .own (fpR us) (RowsV 38 us (cpL (rowM E n.toNat i.toNat r.toNat) n.toNat j.toNat)), .blk g5 44 (List.toArray (cV us)), .own (fpR vs) (RowsV 38 vs (rowM E n.toNat i.toNat r.toNat)), .blk g2 44 (List.toArray (cV vs)), .row 45 1 vq rs.length (cV rs), .own (fpI rs vss (cloT E n.toNat i.toNat)) (In3 rs vss (cloT E n.toNat i.toNat)), .blk g1 24 #[.int .i64 n, ev], .arg 4 ev E.length (cG E)] := M
          simp only [show cS [] = [] from rfl, List.nil_append, show 0 + ((atR (rowM E n.toNat i.toNat r.toNat) j.toNat).length) = (atR (rowM E n.toNat i.toNat r.toNat) j.toNat).length from by first | rfl | (simp; done) | (simp; omega)] at M
          refine sq_pure F (wt0 rfl) (pu_ix rfl (F.ev rfl) (F.ev rfl) sl45 (blk_rdv (m := 1) (M.at (i := 2) rfl) (by first | rfl | assumption | (simp only [List.size_toArray, cB_len, cV, List.length_set, List.length_replicate, Nat.mul_one]; first | done | rfl | assumption | omega)) (by omega)) (by omega) (by omega)) rfl rfl ?_; clear F; intro φ F
          refine sq_st1 (j := j.toNat) F M (wt0 rfl) rfl (F.ev rfl) (F.ev rfl) (i := 2) rfl (by first | omega | (simp only [cB_len, cV, List.length_set, List.length_replicate]; omega)) si44 (slc_one (M.rv (i := 0) rfl)).1 (slc_one (M.rv (i := 0) rfl)).2 rfl ?_; clear M; intro ω M
          replace M : Mm [] w ω [.row 38 2 v5 ((atR (rowM E n.toNat i.toNat r.toNat) j.toNat).length) (cS (atR (rowM E n.toNat i.toNat r.toNat) j.toNat)), .own (fpR us) (RowsV 38 us (cpL (rowM E n.toNat i.toNat r.toNat) n.toNat j.toNat)), .blk g5 44 (List.toArray (cV (us.set j.toNat v5))), .own (fpR vs) (RowsV 38 vs (rowM E n.toNat i.toNat r.toNat)), .blk g2 44 (List.toArray (cV vs)), .row 45 1 vq rs.length (cV rs), .own (fpI rs vss (cloT E n.toNat i.toNat)) (In3 rs vss (cloT E n.toNat i.toNat)), .blk g1 24 #[.int .i64 n, ev], .arg 4 ev E.length (cG E)] := M
          replace M := M.putRow (i := 1) (k := 0) (j := j.toNat) (l := (atR (rowM E n.toNat i.toNat r.toNat) j.toNat)) rfl rfl (by first | omega | (simp only [cB_len, cV, List.length_set, List.length_replicate]; omega))
          replace M : Mm [] w ω [.arg 1 (.slice none 0 0) 0 [], .own (fpR (us.set j.toNat v5)) (RowsV 38 (us.set j.toNat v5) ((cpL (rowM E n.toNat i.toNat r.toNat) n.toNat j.toNat).set j.toNat (atR (rowM E n.toNat i.toNat r.toNat) j.toNat))), .blk g5 44 (List.toArray (cV (us.set j.toNat v5))), .own (fpR vs) (RowsV 38 vs (rowM E n.toNat i.toNat r.toNat)), .blk g2 44 (List.toArray (cV vs)), .row 45 1 vq rs.length (cV rs), .own (fpI rs vss (cloT E n.toNat i.toNat)) (In3 rs vss (cloT E n.toNat i.toNat)), .blk g1 24 #[.int .i64 n, ev], .arg 4 ev E.length (cG E)] := M
          refine wpList_nil ?_
          refine nxb ?_
          refine nxq ?_
          -- region 16
          refine wp_region_lit ?_
          refine sq_pure F (wt0 rfl) (pu_move rfl (F.ev rfl)) rfl rfl ?_; clear F; intro φ F
          refine sq_pure F (wt0 rfl) (pu_add rfl (F.ev rfl) (evk) (by omega) (by omega)) rfl rfl ?_; clear F; intro φ F
          refine sq_pure F (wt0 rfl) (pu_assign rfl (F.ev rfl)) rfl rfl ?_; clear F; intro φ F
          refine wpList_nil ?_
          exact ⟨j + 1, by omega, (us.set j.toNat v5), (((((((F.nil.cons (F.get (k := 11) rfl)).cons (F.get (k := 10) rfl)).cons (F.get (k := 9) rfl)).cons (F.get (k := 8) rfl)).cons (F.get (k := 7) rfl)).cons (F.get (k := 6) rfl)).cons (F.get (k := 1) rfl)), (by have z := M.sub (.cons _ (.cons_cons _ (.cons_cons _ (.cons_cons _ (.cons_cons _ (.cons_cons _ (.cons_cons _ (.cons_cons _ (.cons_cons _ (.slnil)))))))))); rw [cp_step hp11_0] at z; exact z), by omega, by omega, (by rw [List.length_set]; exact hp11_2)⟩

set_option maxRecDepth 100000 in
set_option maxHeartbeats 4000000 in
theorem gsame_any (A B : List (List (List St))) (u v : Value) (ru rv : List Value) (su sv : List (List Value)) (w : World) (ha : Rd3 u ru su A w) (hb : Rd3 v rv sv B w) (sa : Sm3 A) (sb : Sm3 B) :
    Calls Try.prog 17 #[u, v] w (fun e w' => e = .returned (.bool (decide (A = B))) ∧ Below w.heap.size w w') := by
  refine enterF Try.func17 rfl 54 Try.ntmps17 [u, v] rfl [(0, u), (1, v)] rfl ?_
  intro φ F
  have M := Mm.start [] w
  replace M := M.addExt (fp := (fp3 v rv sv B)) (Φ := Rd3 v rv sv B) (hb) (Rd3.loc _ _ _ _) (by first | (simp; done) | assumption)
  replace M := M.addExt (fp := (fp3 u ru su A)) (Φ := Rd3 u ru su A) (ha) (Rd3.loc _ _ _ _) (by first | (simp; done) | assumption)
  refine wp_seq ?_
  -- region 0
  refine wp_region_lit ?_
  refine sq_pure F (wt0 rfl) (pu_assign rfl (evk)) rfl rfl ?_; clear F; intro φ F
  refine nx ?_
  refine wp_seq ?_
  refine wp_seq ?_
  have hra := ha.inn.lr
  have hrb := hb.inn.lr
  have hlA := sa.1
  have hlB := sb.1
  -- region 1
  refine wp_region_lit ?_
  refine sq_pure F (wt0 rfl) (pu_move rfl (F.ev rfl)) rfl rfl ?_; clear F; intro φ F
  refine sq_pure F (wt0 rfl) (pu_len rfl (F.ev rfl) sl32 (Rd3.top (M.xv (i := 0) rfl))) rfl rfl ?_; clear F; intro φ F
  refine sq_pure F (wt0 rfl) (pu_move rfl (F.ev rfl)) rfl rfl ?_; clear F; intro φ F
  refine sq_pure F (wt0 rfl) (pu_len rfl (F.ev rfl) sl32 (Rd3.top (M.xv (i := 1) rfl))) rfl rfl ?_; clear F; intro φ F
  cases hs1 : (decide (((A.length : Nat) : Int) = ((B.length : Nat) : Int)))
  · skip
    have hs1i := of_decide_eq_false hs1
    refine sq_pure F (wt0 rfl) (pu_neqI rfl (F.ev rfl) (F.ev rfl)) rfl rfl ?_; clear F; intro φ F
    rw [hs1, show (!false) = true from rfl] at F
    refine nx ?_
    refine wp_cond_true (F.ev rfl) ?_
    refine wp_seq ?_
    -- region 2
    refine wp_region_lit ?_
    refine sq_pure F (wt0 rfl) (pu_assign rfl (evk)) rfl rfl ?_; clear F; intro φ F
    refine nx ?_
    refine wp_ret ?_
    refine nxr ?_
    refine rt_tmp F rfl rfl ?_
    refine ⟨?_, M.bel⟩
    rw [decide_eq_false (fun e => (by subst e; omega))]
  · skip
    have hs1i := of_decide_eq_true hs1
    refine sq_pure F (wt0 rfl) (pu_neqI rfl (F.ev rfl) (F.ev rfl)) rfl rfl ?_; clear F; intro φ F
    rw [hs1, show (!true) = false from rfl] at F
    refine nx ?_
    refine wp_cond_false (F.ev rfl) ?_
    refine wp_skip ?_
    refine nxq ?_
    refine wp_seq ?_
    refine wp_seq ?_
    -- region 3
    refine wp_region_lit ?_
    refine sq_pure F (wt0 rfl) (pu_assign rfl (evk)) rfl rfl ?_; clear F; intro φ F
    refine nx ?_
    refine wp_block ?_
    refine lp (σ := Int) (fun i φ' w' => Fr φ' 54 [(0, u), (1, v), (5, .int .i64 i)] ∧ Mm [] w w' [.ext (fp3 u ru su A) (Rd3 u ru su A), .ext (fp3 v rv sv B) (Rd3 v rv sv B)] ∧ (0 ≤ i) ∧ (i ≤ (A.length : Int)) ∧ (∀ p, p < i.toNat → at3 A p = at3 B p)) (fun i => ((A.length : Int) - i).toNat) (0) ⟨(((F.nil.cons (F.get (k := 5) rfl)).cons (F.get (k := 1) rfl)).cons (F.get (k := 0) rfl)), M, Int.le_refl _, by omega, all_none⟩ ?_
    clear F M
    rintro i φ ω ⟨F, M, hp2_0, hp2_1, hp2_2⟩
    refine wp_seq ?_
    refine wp_seq ?_
    -- region 4
    refine wp_region_lit ?_
    refine sq_pure F (wt0 rfl) (pu_move rfl (F.ev rfl)) rfl rfl ?_; clear F; intro φ F
    refine sq_pure F (wt0 rfl) (pu_move rfl (F.ev rfl)) rfl rfl ?_; clear F; intro φ F
    refine sq_pure F (wt0 rfl) (pu_len rfl (F.ev rfl) sl32 (Rd3.top (M.xv (i := 0) rfl))) rfl rfl ?_; clear F; intro φ F
    refine sq_pure F (wt0 rfl) (pu_lss rfl (F.ev rfl) (F.ev rfl)) rfl rfl ?_; clear F; intro φ F
    refine nx ?_
    cases hs3 : (decide (i < ((A.length : Nat) : Int)))
    · rw [hs3] at F
      have hs3i := of_decide_eq_false hs3
      refine wp_cond_false (F.ev rfl) ?_
      refine wp_exit ?_
      refine nxe ?_
      refine nxe ?_
      refine nxm ?_
      refine nxq ?_
      refine wp_seq ?_
      -- region 13
      refine wp_region_lit ?_
      refine sq_pure F (wt0 rfl) (pu_assign rfl (evk)) rfl rfl ?_; clear F; intro φ F
      refine nx ?_
      refine wp_ret ?_
      refine rt_tmp F rfl rfl ?_
      refine ⟨?_, M.bel⟩
      rw [decide_eq_true (at3_ext (A := A) (B := B) (by omega) (fun p hp => hp2_2 p (by omega)))]
    · rw [hs3] at F
      have hs3i := of_decide_eq_true hs3
      refine wp_cond_true (F.ev rfl) ?_
      refine wp_skip ?_
      refine nxq ?_
      refine wp_seq ?_
      refine wp_block ?_
      refine wp_seq ?_
      refine wp_seq ?_
      have hva := ha.inn.lv i.toNat (by omega)
      have hvb := hb.inn.lv i.toNat (by omega)
      have hma := sa.2.1 i.toNat
      have hmb := sb.2.1 i.toNat
      -- region 6
      refine rg_quiet M mixedOK (by kernel_rfl) ?_
      refine qt_pure F (wt0 rfl) (pu_move rfl (F.ev rfl)) rfl rfl ?_; clear F; intro φ F
      refine qt_pure F (wt0 rfl) (pu_move rfl (F.ev rfl)) rfl rfl ?_; clear F; intro φ F
      refine qt_pure F (wt0 rfl) (pu_ix rfl (F.ev rfl) (F.ev rfl) sl32 (Rd3.top (M.xv (i := 0) rfl)) (by omega) (by omega)) rfl rfl ?_; clear F; intro φ F
      refine qt_rd F (wt0 rfl) (ld_el1 rfl (F.ev rfl) one45 (fun _ h => RdV.below (Rd3.top (M.xv (i := 0) rfl)) h) (by omega) (cV_at (L := ru) (by first | omega | (simp; done) | (simp; omega)))) rfl rfl ?_; clear F; intro φ F
      refine qt_pure F (wt0 rfl) (pu_len rfl (F.ev rfl) sl45 (In3.row (Rd3.inn (M.xv (i := 0) rfl)) i.toNat (by first | omega | assumption))) rfl rfl ?_; clear F; intro φ F
      refine qt_pure F (wt0 rfl) (pu_move rfl (F.ev rfl)) rfl rfl ?_; clear F; intro φ F
      refine qt_pure F (wt0 rfl) (pu_move rfl (F.ev rfl)) rfl rfl ?_; clear F; intro φ F
      refine qt_pure F (wt0 rfl) (pu_ix rfl (F.ev rfl) (F.ev rfl) sl32 (Rd3.top (M.xv (i := 1) rfl)) (by omega) (by omega)) rfl rfl ?_; clear F; intro φ F
      refine qt_rd F (wt0 rfl) (ld_el1 rfl (F.ev rfl) one45 (fun _ h => RdV.below (Rd3.top (M.xv (i := 1) rfl)) h) (by omega) (cV_at (L := rv) (by first | omega | (simp; done) | (simp; omega)))) rfl rfl ?_; clear F; intro φ F
      refine qt_pure F (wt0 rfl) (pu_len rfl (F.ev rfl) sl45 (In3.row (Rd3.inn (M.xv (i := 1) rfl)) i.toNat (by first | omega | assumption))) rfl rfl ?_; clear F; intro φ F
      cases hs4 : (decide ((((at3 A i.toNat).length : Nat) : Int) = (((at3 B i.toNat).length : Nat) : Int)))
      · skip
        have hs4i := of_decide_eq_false hs4
        refine qt_pure F (wt0 rfl) (pu_neqI rfl (F.ev rfl) (F.ev rfl)) rfl rfl ?_; clear F; intro φ F
        rw [hs4, show (!false) = true from rfl] at F
        refine wpQuiet_nil ?_
        clear M; intro ω M
        refine nxq ?_
        refine wp_cond_true (F.ev rfl) ?_
        refine wp_seq ?_
        -- region 7
        refine wp_region_lit ?_
        refine sq_pure F (wt0 rfl) (pu_assign rfl (evk)) rfl rfl ?_; clear F; intro φ F
        refine nx ?_
        refine wp_ret ?_
        refine nxr ?_
        refine nxrb ?_
        refine nxr ?_
        refine nxr ?_
        refine nxrb ?_
        refine nxr ?_
        refine rt_tmp F rfl rfl ?_
        refine ⟨?_, M.bel⟩
        rw [decide_eq_false (fun e => (by subst e; omega))]
      · skip
        have hs4i := of_decide_eq_true hs4
        refine qt_pure F (wt0 rfl) (pu_neqI rfl (F.ev rfl) (F.ev rfl)) rfl rfl ?_; clear F; intro φ F
        rw [hs4, show (!true) = false from rfl] at F
        refine wpQuiet_nil ?_
        clear M; intro ω M
        refine nxq ?_
        refine wp_cond_false (F.ev rfl) ?_
        refine wp_skip ?_
        refine nxq ?_
        refine wp_seq ?_
        -- region 8
        refine wp_region_lit ?_
        refine sq_pure F (wt0 rfl) (pu_assign rfl (evk)) rfl rfl ?_; clear F; intro φ F
        refine nx ?_
        refine wp_block ?_
        refine lp (σ := Int) (fun j φ' w' => Fr φ' 54 [(0, u), (1, v), (5, .int .i64 i), (6, .int .i64 j)] ∧ Mm [] w w' [.ext (fp3 u ru su A) (Rd3 u ru su A), .ext (fp3 v rv sv B) (Rd3 v rv sv B)] ∧ (0 ≤ j) ∧ (j ≤ ((at3 A i.toNat).length : Int)) ∧ (∀ q, q < j.toNat → atR (at3 A i.toNat) q = atR (at3 B i.toNat) q)) (fun j => (((at3 A i.toNat).length : Int) - j).toNat) (0) ⟨((((F.nil.cons (F.get (k := 6) rfl)).cons (F.get (k := 5) rfl)).cons (F.get (k := 1) rfl)).cons (F.get (k := 0) rfl)), M, Int.le_refl _, by omega, all_none⟩ ?_
        clear F M
        rintro j φ ω ⟨F, M, hp5_0, hp5_1, hp5_2⟩
        refine wp_seq ?_
        refine wp_seq ?_
        -- region 9
        refine wp_region_lit ?_
        refine sq_pure F (wt0 rfl) (pu_move rfl (F.ev rfl)) rfl rfl ?_; clear F; intro φ F
        refine sq_pure F (wt0 rfl) (pu_move rfl (F.ev rfl)) rfl rfl ?_; clear F; intro φ F
        refine sq_pure F (wt0 rfl) (pu_move rfl (F.ev rfl)) rfl rfl ?_; clear F; intro φ F
        refine sq_pure F (wt0 rfl) (pu_ix rfl (F.ev rfl) (F.ev rfl) sl32 (Rd3.top (M.xv (i := 0) rfl)) (by omega) (by omega)) rfl rfl ?_; clear F; intro φ F
        refine sq_rd F (wt0 rfl) (ld_el1 rfl (F.ev rfl) one45 (fun _ e => e ▸ (Rd3.top (M.xv (i := 0) rfl))) (by omega) (cV_at (L := ru) (by first | omega | (simp; done) | (simp; omega)))) rfl rfl ?_; clear F; intro φ F
        refine sq_pure F (wt0 rfl) (pu_len rfl (F.ev rfl) sl45 (In3.row (Rd3.inn (M.xv (i := 0) rfl)) i.toNat (by first | omega | assumption))) rfl rfl ?_; clear F; intro φ F
        refine sq_pure F (wt0 rfl) (pu_lss rfl (F.ev rfl) (F.ev rfl)) rfl rfl ?_; clear F; intro φ F
        refine nx ?_
        cases hs6 : (decide (j < (((at3 A i.toNat).length : Nat) : Int)))
        · rw [hs6] at F
          have hs6i := of_decide_eq_false hs6
          refine wp_cond_false (F.ev rfl) ?_
          refine wp_exit ?_
          refine nxe ?_
          refine nxe ?_
          refine nxm ?_
          refine nxb ?_
          refine nxq ?_
          -- region 5
          refine wp_region_lit ?_
          refine sq_pure F (wt0 rfl) (pu_move rfl (F.ev rfl)) rfl rfl ?_; clear F; intro φ F
          refine sq_pure F (wt0 rfl) (pu_add rfl (F.ev rfl) (evk) (by omega) (by omega)) rfl rfl ?_; clear F; intro φ F
          refine sq_pure F (wt0 rfl) (pu_assign rfl (F.ev rfl)) rfl rfl ?_; clear F; intro φ F
          refine wpList_nil ?_
          exact ⟨i + 1, by omega, (((F.nil.cons (F.get (k := 5) rfl)).cons (F.get (k := 1) rfl)).cons (F.get (k := 0) rfl)), M, by omega, by omega, (all_succ hp2_2 hp2_0 (atR_ext (A := at3 A i.toNat) (B := at3 B i.toNat) (by omega) (fun q hq => hp5_2 q (by omega))))⟩
        · rw [hs6] at F
          have hs6i := of_decide_eq_true hs6
          refine wp_cond_true (F.ev rfl) ?_
          refine wp_skip ?_
          refine nxq ?_
          refine wp_seq ?_
          refine wp_block ?_
          refine wp_seq ?_
          have hka := sa.2.2 i.toNat j.toNat
          have hkb := sb.2.2 i.toNat j.toNat
          -- region 11
          refine rg_quiet M mixedOK (by kernel_rfl) ?_
          refine qt_pure F (wt0 rfl) (pu_move rfl (F.ev rfl)) rfl rfl ?_; clear F; intro φ F
          refine qt_pure F (wt0 rfl) (pu_move rfl (F.ev rfl)) rfl rfl ?_; clear F; intro φ F
          refine qt_pure F (wt0 rfl) (pu_ix rfl (F.ev rfl) (F.ev rfl) sl32 (Rd3.top (M.xv (i := 0) rfl)) (by omega) (by omega)) rfl rfl ?_; clear F; intro φ F
          refine qt_rd F (wt0 rfl) (ld_el1 rfl (F.ev rfl) one45 (fun _ h => RdV.below (Rd3.top (M.xv (i := 0) rfl)) h) (by omega) (cV_at (L := ru) (by first | omega | (simp; done) | (simp; omega)))) rfl rfl ?_; clear F; intro φ F
          refine qt_pure F (wt0 rfl) (pu_move rfl (F.ev rfl)) rfl rfl ?_; clear F; intro φ F
          refine qt_pure F (wt0 rfl) (pu_ix rfl (F.ev rfl) (F.ev rfl) sl45 (In3.row (Rd3.inn (M.xv (i := 0) rfl)) i.toNat (by first | omega | assumption)) (by omega) (by omega)) rfl rfl ?_; clear F; intro φ F
          refine qt_rd F (wt0 rfl) (ld_el1 rfl (F.ev rfl) one44 (fun _ h => RdV.below (In3.row (Rd3.inn (M.xv (i := 0) rfl)) i.toNat (by first | omega | assumption)) h) (by omega) (cV_at (L := (atW su i.toNat)) (by first | omega | (simp; done) | (simp; omega)))) rfl rfl ?_; clear F; intro φ F
          refine qt_pure F (wt0 rfl) (pu_move rfl (F.ev rfl)) rfl rfl ?_; clear F; intro φ F
          refine qt_pure F (wt0 rfl) (pu_move rfl (F.ev rfl)) rfl rfl ?_; clear F; intro φ F
          refine qt_pure F (wt0 rfl) (pu_ix rfl (F.ev rfl) (F.ev rfl) sl32 (Rd3.top (M.xv (i := 1) rfl)) (by omega) (by omega)) rfl rfl ?_; clear F; intro φ F
          refine qt_rd F (wt0 rfl) (ld_el1 rfl (F.ev rfl) one45 (fun _ h => RdV.below (Rd3.top (M.xv (i := 1) rfl)) h) (by omega) (cV_at (L := rv) (by first | omega | (simp; done) | (simp; omega)))) rfl rfl ?_; clear F; intro φ F
          refine qt_pure F (wt0 rfl) (pu_move rfl (F.ev rfl)) rfl rfl ?_; clear F; intro φ F
          refine qt_pure F (wt0 rfl) (pu_ix rfl (F.ev rfl) (F.ev rfl) sl45 (In3.row (Rd3.inn (M.xv (i := 1) rfl)) i.toNat (by first | omega | assumption)) (by omega) (by omega)) rfl rfl ?_; clear F; intro φ F
          refine qt_rd F (wt0 rfl) (ld_el1 rfl (F.ev rfl) one44 (fun _ h => RdV.below (In3.row (Rd3.inn (M.xv (i := 1) rfl)) i.toNat (by first | omega | assumption)) h) (by omega) (cV_at (L := (atW sv i.toNat)) (by first | omega | (simp; done) | (simp; omega)))) rfl rfl ?_; clear F; intro φ F
          refine qt_call F (wt0 rfl) rfl en31 (evc (F.ev rfl) (evc (F.ev rfl) evn)) (fun w' h => calls_below h (psame_any (atR (at3 A i.toNat) j.toNat) (atR (at3 B i.toNat) j.toNat) _ _ w' (RdV.below (In3.one (Rd3.inn (M.xv (i := 0) rfl)) i.toNat j.toNat (by first | omega | assumption) (by first | omega | assumption)) h) (RdV.below (In3.one (Rd3.inn (M.xv (i := 1) rfl)) i.toNat j.toNat (by first | omega | assumption) (by first | omega | assumption)) h) (by first | omega | (simp; done) | (simp; omega) | (refine Nat.le_trans (minL_len _) ?_; omega) | (refine Nat.le_trans (eachL_len _ _) ?_; omega)) (by first | omega | (simp; done) | (simp; omega) | (refine Nat.le_trans (minL_len _) ?_; omega) | (refine Nat.le_trans (eachL_len _ _) ?_; omega)))) rfl rfl ?_; clear F; intro φ F
          cases hs7 : (decide ((atR (at3 A i.toNat) j.toNat) = (atR (at3 B i.toNat) j.toNat)))
          · rw [hs7] at F
            have hs7i := of_decide_eq_false hs7
            refine qt_pure F (wt0 rfl) (pu_not rfl (F.ev rfl)) rfl rfl ?_; clear F; intro φ F
            rw [show (!false) = true from rfl] at F
            refine wpQuiet_nil ?_
            clear M; intro ω M
            refine nxq ?_
            refine wp_cond_true (F.ev rfl) ?_
            refine wp_seq ?_
            -- region 12
            refine wp_region_lit ?_
            refine sq_pure F (wt0 rfl) (pu_assign rfl (evk)) rfl rfl ?_; clear F; intro φ F
            refine nx ?_
            refine wp_ret ?_
            refine nxrb ?_
            refine nxr ?_
            refine nxr ?_
            refine nxrb ?_
            refine nxrb ?_
            refine nxr ?_
            refine nxr ?_
            refine nxrb ?_
            refine nxr ?_
            refine rt_tmp F rfl rfl ?_
            refine ⟨?_, M.bel⟩
            rw [decide_eq_false (fun e => hs7i (by rw [e]))]
          · rw [hs7] at F
            have hs7i := of_decide_eq_true hs7
            refine qt_pure F (wt0 rfl) (pu_not rfl (F.ev rfl)) rfl rfl ?_; clear F; intro φ F
            rw [show (!true) = false from rfl] at F
            refine wpQuiet_nil ?_
            clear M; intro ω M
            refine nxq ?_
            refine wp_cond_false (F.ev rfl) ?_
            refine wp_skip ?_
            refine nxb ?_
            refine nxq ?_
            -- region 10
            refine wp_region_lit ?_
            refine sq_pure F (wt0 rfl) (pu_move rfl (F.ev rfl)) rfl rfl ?_; clear F; intro φ F
            refine sq_pure F (wt0 rfl) (pu_add rfl (F.ev rfl) (evk) (by omega) (by omega)) rfl rfl ?_; clear F; intro φ F
            refine sq_pure F (wt0 rfl) (pu_assign rfl (F.ev rfl)) rfl rfl ?_; clear F; intro φ F
            refine wpList_nil ?_
            exact ⟨j + 1, by omega, ((((F.nil.cons (F.get (k := 6) rfl)).cons (F.get (k := 5) rfl)).cons (F.get (k := 1) rfl)).cons (F.get (k := 0) rfl)), M, by omega, by omega, (all_succ hp5_2 hp5_0 hs7i)⟩

end Go.Proofs.Ytbleefegobmboaa
