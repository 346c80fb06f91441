/- Laws of layer 6. Made by walks/graphlaws.py. -/
import Derived.Test.YtbleefegobmboaaGh
namespace Go.Proofs.Ytbleefegobmboaa
open Go.RowKit
set_option maxRecDepth 100000
set_option linter.unusedSimpArgs false
set_option linter.unusedVariables false

set_option maxHeartbeats 4000000 in
theorem graphWays_walk (n : Int) (ev : Value) (E : List Ed) (f : Int) (wv : Value) (W : List Int) (w : World) (hr : RdG w ev E) (hw : RdI w wv W) (hf0 : f ≤ 9223372036854775807) (hW : ∀ i, i < W.length → atI W i ≤ 9223372036854775807) :
    Calls Try.prog 5 #[.agg #[.int .i64 n, ev], .int .i64 f, wv] w fun e w' => e = .returned (.bool true) ∧ Below w.heap.size w w' := by
  refine enterF Try.func5 rfl 143 Try.ntmps5 [.agg #[.int .i64 n, ev], .int .i64 f, wv] rfl [(0, .agg #[.int .i64 n, ev]), (1, .int .i64 f), (2, wv)] rfl ?_
  intro φ F
  have M := Mm.start [] w
  replace M := M.addArg (hw) (fun h_ => by first | (simp; done) | assumption | exact d3 h_ | (simp_all; done))
  replace M := M.addArg (hr) (fun h_ => by first | (simp; done) | assumption | exact d3 h_ | (simp_all; done))
  refine wp_seq ?_
  -- region 0
  refine wp_region_lit ?_
  refine sq_box F M (wt0 rfl) rfl (F.ev rfl) (cs := #[.int .i64 n, ev]) rfl rfl rfl ?_; clear F M; intro φ ω g1 F M
  refine sq_pure F (wt0 rfl) (pu_assign rfl (evk)) rfl rfl ?_; clear F; intro φ F
  refine nx ?_
  refine wp_seq ?_
  -- region 1
  refine wp_region_lit ?_
  refine sq_call F M (wt0 rfl) rfl en10 evn (awake_any _) rfl rfl ?_; clear F M; intro φ ω F M
  refine sq_pure F (wt0 rfl) (pu_assign rfl (F.ev rfl)) rfl rfl ?_; clear F; intro φ F
  refine nx ?_
  refine wp_seq ?_
  refine wp_seq ?_
  -- region 2
  refine wp_region_lit ?_
  refine sq_pure F (wt0 rfl) (pu_field rfl (F.ev rfl) fo24_1) rfl rfl ?_; clear F; intro φ F
  refine sq_rd F (wt0 rfl) (ld_cell rfl (F.ev rfl) one22 (M.rd (i := 0) rfl) rfl) rfl rfl ?_; clear F; intro φ F
  refine sq_pure F (wt0 rfl) (pu_len rfl (F.ev rfl) sl22 (M.av (i := 1) rfl)) rfl rfl ?_; clear F; intro φ F
  refine sq_pure F (wt0 rfl) (pu_gtr rfl (F.ev rfl) (evk)) rfl rfl ?_; clear F; intro φ F
  refine sq_pure F (wt0 rfl) (pu_move rfl (F.ev rfl)) rfl rfl ?_; clear F; intro φ F
  cases hs1 : (decide (16 < ((E.length : Nat) : Int)))
  · rw [hs1] at F
    have hs1i := of_decide_eq_false hs1
    refine sq_pure F (wt1 F rfl rfl rfl rfl rfl) (pu_move rfl (F.ev rfl)) rfl rfl ?_; clear F; intro φ F
    refine sq_pure F (wt1 F rfl rfl rfl rfl rfl) (pu_len rfl (F.ev rfl) sl29 (M.av (i := 2) rfl)) rfl rfl ?_; clear F; intro φ F
    refine sq_pure F (wt1 F rfl rfl rfl rfl rfl) (pu_gtr rfl (F.ev rfl) (evk)) rfl rfl ?_; clear F; intro φ F
    refine sq_pure F (wt0 rfl) (pu_pickf rfl (F.ev rfl) (F.ev rfl)) rfl rfl ?_; clear F; intro φ F
    refine sq_pure F (wt0 rfl) (pu_move rfl (F.ev rfl)) rfl rfl ?_; clear F; intro φ F
    cases hs2 : (decide (60 < ((W.length : Nat) : Int)))
    · rw [hs2] at F
      have hs2i := of_decide_eq_false hs2
      refine sq_pure F (wt1 F rfl rfl rfl rfl rfl) (pu_move rfl (F.ev rfl)) rfl rfl ?_; clear F; intro φ F
      refine sq_pure F (wt1 F rfl rfl rfl rfl rfl) (pu_lss rfl (F.ev rfl) (evk)) rfl rfl ?_; clear F; intro φ F
      refine sq_pure F (wt0 rfl) (pu_pickf rfl (F.ev rfl) (F.ev rfl)) rfl rfl ?_; clear F; intro φ F
      refine nx ?_
      cases hs3 : (decide (f < 0))
      · rw [hs3] at F
        have hs3i := of_decide_eq_false hs3
        refine wp_cond_false (F.ev rfl) ?_
        refine wp_skip ?_
        refine nxq ?_
        refine wp_seq ?_
        -- region 4
        refine wp_region_lit ?_
        refine sq_rd F (wt0 rfl) (ld_agg rfl (F.ev rfl) agg24 (M.rd (i := 0) rfl) rfl) rfl rfl ?_; clear F; intro φ F
        refine sq_callO (Z := (fun u x' => ∃ v rs vss, u = .tuple #[v, .int .i64 (cloG n E).2] ∧ x' = .own (fp3 v rs vss (cloG n E).1) (Rd3 v rs vss (cloG n E).1))) F M (wt0 rfl) rfl en15 (evc (F.ev rfl) evn) (graph_closure_any n ev E _ (M.av (i := 1) rfl) (by first | omega | (simp; done) | (simp; omega) | (refine Nat.le_trans (minL_len _) ?_; omega) | (refine Nat.le_trans (eachL_len _ _) ?_; omega))) rfl rfl ?_; clear F M; rintro φ ω _ _ ⟨c1, rs1, vss1, rfl, rfl⟩ F M
        replace M : Mm [] w ω [.own (fp3 c1 rs1 vss1 ((cloG n E).1)) (Rd3 c1 rs1 vss1 ((cloG n E).1)), .blk g1 24 #[.int .i64 n, ev], .arg 4 ev E.length (cG E), .arg 1 wv W.length (cI W)] := M
        refine sq_pure F (wt0 rfl) (pu_move rfl (F.ev rfl)) rfl rfl ?_; clear F; intro φ F
        refine sq_pure F (wt0 rfl) (pu_extract rfl (F.ev rfl) rfl) rfl rfl ?_; clear F; intro φ F
        refine sq_pure F (wt0 rfl) (pu_extract rfl (F.ev rfl) rfl) rfl rfl ?_; clear F; intro φ F
        refine sq_pure F (wt0 rfl) (pu_assign rfl (F.ev rfl)) rfl rfl ?_; clear F; intro φ F
        refine sq_pure F (wt0 rfl) (pu_assign rfl (F.ev rfl)) rfl rfl ?_; clear F; intro φ F
        refine nx ?_
        refine wp_seq ?_
        refine wp_seq ?_
        -- region 5
        refine wp_region_lit ?_
        refine sq_pure F (wt0 rfl) (pu_move rfl (F.ev rfl)) rfl rfl ?_; clear F; intro φ F
        cases hs4 : (decide ((cloG n E).2 = 0))
        · skip
          have hs4i := of_decide_eq_false hs4
          refine sq_pure F (wt0 rfl) (pu_neqI rfl (F.ev rfl) (evk)) rfl rfl ?_; clear F; intro φ F
          rw [hs4, show (!false) = true from rfl] at F
          refine nx ?_
          refine wp_cond_true (F.ev rfl) ?_
          refine wp_seq ?_
          have hnl := clo_none hs4i
          -- region 6
          refine wp_region_lit ?_
          refine sq_pure F (wt0 rfl) (pu_move rfl (F.ev rfl)) rfl rfl ?_; clear F; intro φ F
          refine sq_pure F (wt0 rfl) (pu_move rfl (F.ev rfl)) rfl rfl ?_; clear F; intro φ F
          refine sq_pure F (wt1 F rfl rfl rfl rfl rfl) (pu_move rfl (F.ev rfl)) rfl rfl ?_; clear F; intro φ F
          refine sq_pure F (wt1 F rfl rfl rfl rfl rfl) (pu_len rfl (F.ev rfl) sl32 (Rd3.top (M.pv (i := 0) rfl))) rfl rfl ?_; clear F; intro φ F
          refine sq_pure F (wt1 F rfl rfl rfl rfl rfl) (pu_eqlI rfl (F.ev rfl) (evk)) rfl rfl ?_; clear F; intro φ F
          refine sq_pure F (wt0 rfl) (pu_pickt rfl (F.ev rfl) (F.ev rfl)) rfl rfl ?_; clear F; intro φ F
          refine sq_pure F (wt0 rfl) (pu_assign rfl (F.ev rfl)) rfl rfl ?_; clear F; intro φ F
          refine nx ?_
          cases hs5 : (decide (((((cloG n E).1).length : Nat) : Int) = 0))
          · rw [hs5] at F
            have hs5i := of_decide_eq_false hs5
            refine wp_ret ?_
            refine nxr ?_
            refine rt_tmp F rfl rfl ?_
            exfalso; clear F M; first | omega | (simp_all; done) | (simp_all; omega)
          · rw [hs5] at F
            have hs5i := of_decide_eq_true hs5
            refine wp_ret ?_
            refine nxr ?_
            refine rt_tmp F rfl rfl ?_
            exact ⟨rfl, M.bel⟩
        · skip
          have hs4i := of_decide_eq_true hs4
          refine sq_pure F (wt0 rfl) (pu_neqI rfl (F.ev rfl) (evk)) rfl rfl ?_; clear F; intro φ F
          rw [hs4, show (!true) = false from rfl] at F
          refine nx ?_
          refine wp_cond_false (F.ev rfl) ?_
          refine wp_skip ?_
          refine nxq ?_
          refine wp_seq ?_
          have hz : (cloG n E).2 = 0 := by have z := hs4; first | exact of_decide_eq_true z | simpa using z
          obtain ⟨⟨hn1, hn8, hE16, hfit, hord, hck⟩, hcl, hs64⟩ := (clo_cases n E).resolve_left (fun z => z.2 hz)
          rw [hcl] at M
          replace M : Mm [] w ω [.own (fp3 c1 rs1 vss1 (cloT E n.toNat n.toNat)) (Rd3 c1 rs1 vss1 (cloT E n.toNat n.toNat)), .blk g1 24 #[.int .i64 n, ev], .arg 4 ev E.length (cG E), .arg 1 wv W.length (cI W)] := M
          have hlr : rs1.length = n.toNat := (In3.lr (Rd3.inn (M.pv (i := 0) rfl))).trans (cloT_len E n.toNat n.toNat)
          have hS3 : Sm3 (cloT E n.toNat n.toNat) := by have z := clo_sm n E; rw [hcl] at z; exact z
          have hlc := cloT_len E n.toNat n.toNat
          have hF : Fits ((n.toNat : Nat) : Int) E := by rw [show ((n.toNat : Nat) : Int) = n by omega]; exact hfit
          have hrow : ∀ i, i < n.toNat → (at3 (cloT E n.toNat n.toNat) i).length = n.toNat := fun i hi => by rw [cloT_at hi, row_len]
          have hvv : ∀ i, i < n.toNat → (atW vss1 i).length = n.toNat := fun i hi => (In3.lv (Rd3.inn (M.pv (i := 0) rfl)) i (by rw [cloT_len]; exact hi)).trans (hrow i hi)
          have h64 : ∀ i j, i < n.toNat → (atR (at3 (cloT E n.toNat n.toNat) i) j).length ≤ 64 := fun i j hi => by rw [cloT_at hi]; exact hs64 i hi j
          -- region 7
          refine wp_region_lit ?_
          refine sq_pure F (wt0 rfl) (pu_move rfl (F.ev rfl)) rfl rfl ?_; clear F; intro φ F
          refine sq_pure F (wt0 rfl) (pu_field rfl (F.ev rfl) fo24_0) rfl rfl ?_; clear F; intro φ F
          refine sq_rd F (wt0 rfl) (ld_cell rfl (F.ev rfl) one3 (M.rd (i := 1) rfl) rfl) rfl rfl ?_; clear F; intro φ F
          refine sq_call F M (wt0 rfl) rfl en18 (evc (F.ev rfl) (evc (F.ev rfl) evn)) (whole_any (cloT E n.toNat n.toNat) _ _ _ _ _ (M.pv (i := 0) rfl) (by omega) (by intro q hq; rw [cloT_len] at hq; rw [cloT_at hq, row_len]; omega) (by first | exact hS3 | exact hS3a | exact hS3b)) rfl rfl ?_; clear F M; intro φ ω F M
          refine sq_pure F (wt0 rfl) (pu_assign rfl (F.ev rfl)) rfl rfl ?_; clear F; intro φ F
          refine nx ?_
          refine wp_seq ?_
          refine wp_seq ?_
          -- region 8
          refine wp_region_lit ?_
          refine sq_pure F (wt0 rfl) (pu_move rfl (F.ev rfl)) rfl rfl ?_; clear F; intro φ F
          refine sq_pure F (wt0 rfl) (pu_not rfl (F.ev rfl)) rfl rfl ?_; clear F; intro φ F
          rw [show (!true) = false from rfl] at F
          refine nx ?_
          refine wp_cond_false (F.ev rfl) ?_
          refine wp_skip ?_
          refine nxq ?_
          refine wp_seq ?_
          have hm1 := Int.emod_nonneg f (show max n 1 ≠ 0 by omega)
          have hm2 := Int.emod_lt_of_pos f (show 0 < max n 1 by omega)
          -- region 10
          refine wp_region_lit ?_
          refine sq_pure F (wt0 rfl) (pu_move rfl (F.ev rfl)) rfl rfl ?_; clear F; intro φ F
          refine sq_pure F (wt0 rfl) (pu_field rfl (F.ev rfl) fo24_0) rfl rfl ?_; clear F; intro φ F
          refine sq_rd F (wt0 rfl) (ld_cell rfl (F.ev rfl) one3 (M.rd (i := 1) rfl) rfl) rfl rfl ?_; clear F; intro φ F
          refine sq_pure F (wt0 rfl) (pu_max rfl (F.ev rfl) (evk)) rfl rfl ?_; clear F; intro φ F
          refine sq_pure F (wt0 rfl) (pu_rem rfl (F.ev rfl) (F.ev rfl) (by omega) (by omega) (by omega)) rfl rfl ?_; clear F; intro φ F
          refine sq_pure F (wt0 rfl) (pu_assign rfl (F.ev rfl)) rfl rfl ?_; clear F; intro φ F
          refine nx ?_
          refine wp_seq ?_
          -- region 11
          refine wp_region_lit ?_
          refine sq_pure F (wt0 rfl) (pu_move rfl (F.ev rfl)) rfl rfl ?_; clear F; intro φ F
          refine sq_pure F (wt0 rfl) (pu_assign rfl (F.ev rfl)) rfl rfl ?_; clear F; intro φ F
          refine nx ?_
          refine wp_seq ?_
          -- region 12
          refine wp_region_lit ?_
          refine sq_pure F (wt0 rfl) (bu38_ rfl) rfl rfl ?_; clear F; intro φ F
          refine sq_alloc F M (wt0 rfl) rfl z38 rfl rfl ?_; clear F M; intro φ ω g2 F M
          refine sq_stA F M (wt0 rfl) rfl (F.ev rfl) (F.ev rfl) (i := 0) rfl agg38 rfl rfl rfl rfl ?_; clear M; intro ω M
          refine nx ?_
          refine wp_seq ?_
          refine wp_seq ?_
          -- region 13
          refine wp_region_lit ?_
          refine sq_pure F (wt0 rfl) (pu_assign rfl (evk)) rfl rfl ?_; clear F; intro φ F
          refine nx ?_
          refine wp_block ?_
          refine lp (σ := Int) (fun i φ' w' => ∃ a : Int, ∃ s : St, Fr φ' 143 [(2, wv), (3, .pointer (some ⟨g1, 0, none⟩)), (7, .bool true), (8, c1), (12, .int .i64 (f % (max n 1))), (13, .pointer (some ⟨g2, 0, none⟩)), (11, .int .i64 a), (14, .int .i64 i)] ∧ Mm [] w w' [.blk g2 38 #[.int .i64 s.e, .int .i64 s.r], .own (fp3 c1 rs1 vss1 (cloT E n.toNat n.toNat)) (Rd3 c1 rs1 vss1 (cloT E n.toNat n.toNat)), .blk g1 24 #[.int .i64 n, ev], .arg 4 ev E.length (cG E), .arg 1 wv W.length (cI W)] ∧ (0 ≤ i) ∧ (i ≤ (W.length : Int)) ∧ (0 ≤ a ∧ a < n) ∧ (WayS E (f % (max n 1)) a s)) (fun i => ((W.length : Int) - i).toNat) (0) ⟨f % (max n 1), St.zero, ((((((((F.nil.cons (F.get (k := 14) rfl)).cons (F.get (k := 11) rfl)).cons (F.get (k := 13) rfl)).cons (F.get (k := 12) rfl)).cons (F.get (k := 8) rfl)).cons (F.get (k := 7) rfl)).cons (F.get (k := 3) rfl)).cons (F.get (k := 2) rfl)), (by have z := M.sub (.cons_cons _ (.cons_cons _ (.cons_cons _ (.cons_cons _ (.cons_cons _ (.slnil)))))); exact z), Int.le_refl _, by omega, by omega, way_nil _ _⟩ ?_
          clear F M
          rintro i φ ω ⟨a, s, F, M, hp6_0, hp6_1, hp6_2, hp6_3⟩
          refine wp_seq ?_
          refine wp_seq ?_
          -- region 14
          refine wp_region_lit ?_
          refine sq_pure F (wt0 rfl) (pu_move rfl (F.ev rfl)) rfl rfl ?_; clear F; intro φ F
          refine sq_pure F (wt0 rfl) (pu_move rfl (F.ev rfl)) rfl rfl ?_; clear F; intro φ F
          refine sq_pure F (wt0 rfl) (pu_len rfl (F.ev rfl) sl29 (M.av (i := 4) rfl)) rfl rfl ?_; clear F; intro φ F
          refine sq_pure F (wt0 rfl) (pu_lss rfl (F.ev rfl) (F.ev rfl)) rfl rfl ?_; clear F; intro φ F
          refine sq_pure F (wt0 rfl) (pu_move rfl (F.ev rfl)) rfl rfl ?_; clear F; intro φ F
          cases hs7 : (decide (i < ((W.length : Nat) : Int)))
          · rw [hs7] at F
            have hs7i := of_decide_eq_false hs7
            refine sq_skip F (wtn F rfl rfl rfl rfl rfl) rfl rfl ?_; clear F; intro φ F
            refine sq_skip F (wtn F rfl rfl rfl rfl rfl) rfl rfl ?_; clear F; intro φ F
            refine sq_skip F (wtn F rfl rfl rfl rfl rfl) rfl rfl ?_; clear F; intro φ F
            refine sq_skip F (wtn F rfl rfl rfl rfl rfl) rfl rfl ?_; clear F; intro φ F
            refine sq_pure F (wt0 rfl) (pu_pickf rfl (F.ev rfl) (evk)) rfl rfl ?_; clear F; intro φ F
            refine nx ?_
            refine wp_cond_false (F.ev rfl) ?_
            refine wp_exit ?_
            refine nxe ?_
            refine nxe ?_
            refine nxm ?_
            refine nxq ?_
            refine wp_seq ?_
            have hx1 := hvv (f % (max n 1)).toNat (by omega)
            have hy1 := hrow (f % (max n 1)).toNat (by omega)
            have hw1 := h64 (f % (max n 1)).toNat (f % (max n 1)).toNat (by omega)
            have hself : (atR (at3 (cloT E n.toNat n.toNat) ((f % (max n 1)).toNat)) ((f % (max n 1)).toNat)) = [St.zero] := self_one hF (by omega)
            have hsl : (atR (at3 (cloT E n.toNat n.toNat) ((f % (max n 1)).toNat)) ((f % (max n 1)).toNat)).length = 1 := by rw [hself]; rfl
            have hs0 : atS (atR (at3 (cloT E n.toNat n.toNat) ((f % (max n 1)).toNat)) ((f % (max n 1)).toNat)) 0 = St.mk 0 0 := by rw [hself]; rfl
            -- region 25
            refine wp_region_lit ?_
            refine sq_pure F (wt0 rfl) (pu_move rfl (F.ev rfl)) rfl rfl ?_; clear F; intro φ F
            refine sq_pure F (wt0 rfl) (pu_move rfl (F.ev rfl)) rfl rfl ?_; clear F; intro φ F
            refine sq_pure F (wt1 F rfl rfl rfl rfl rfl) (pu_move rfl (F.ev rfl)) rfl rfl ?_; clear F; intro φ F
            refine sq_pure F (wt1 F rfl rfl rfl rfl rfl) (pu_move rfl (F.ev rfl)) rfl rfl ?_; clear F; intro φ F
            refine sq_pure F (wt1 F rfl rfl rfl rfl rfl) (pu_ix rfl (F.ev rfl) (F.ev rfl) sl32 (Rd3.top (M.pv (i := 1) rfl)) (by omega) (by omega)) rfl rfl ?_; clear F; intro φ F
            refine sq_rd F (wt1 F rfl rfl rfl rfl rfl) (ld_el1 rfl (F.ev rfl) one45 (fun _ e => e ▸ (Rd3.top (M.pv (i := 1) rfl))) (by omega) (cV_at (L := rs1) (by first | omega | (simp; done) | (simp; omega)))) rfl rfl ?_; clear F; intro φ F
            refine sq_pure F (wt1 F rfl rfl rfl rfl rfl) (pu_move rfl (F.ev rfl)) rfl rfl ?_; clear F; intro φ F
            refine sq_pure F (wt1 F rfl rfl rfl rfl rfl) (pu_ix rfl (F.ev rfl) (F.ev rfl) sl45 (In3.row (Rd3.inn (M.pv (i := 1) rfl)) ((f % (max n 1)).toNat) (by first | omega | assumption)) (by omega) (by omega)) rfl rfl ?_; clear F; intro φ F
            refine sq_rd F (wt1 F rfl rfl rfl rfl rfl) (ld_el1 rfl (F.ev rfl) one44 (fun _ e => e ▸ (In3.row (Rd3.inn (M.pv (i := 1) rfl)) ((f % (max n 1)).toNat) (by first | omega | assumption))) (by omega) (cV_at (L := (atW vss1 ((f % (max n 1)).toNat))) (by first | omega | (simp; done) | (simp; omega)))) rfl rfl ?_; clear F; intro φ F
            refine sq_pure F (wt1 F rfl rfl rfl rfl rfl) (pu_len rfl (F.ev rfl) sl44 (In3.one (Rd3.inn (M.pv (i := 1) rfl)) ((f % (max n 1)).toNat) ((f % (max n 1)).toNat) (by first | omega | assumption) (by first | omega | assumption))) rfl rfl ?_; clear F; intro φ F
            refine sq_pure F (wt1 F rfl rfl rfl rfl rfl) (pu_eqlI rfl (F.ev rfl) (evk)) rfl rfl ?_; clear F; intro φ F
            refine sq_pure F (wt0 rfl) (pu_pickt rfl (F.ev rfl) (F.ev rfl)) rfl rfl ?_; clear F; intro φ F
            refine sq_pure F (wt0 rfl) (pu_move rfl (F.ev rfl)) rfl rfl ?_; clear F; intro φ F
            cases hs8 : (decide ((((atR (at3 (cloT E n.toNat n.toNat) ((f % (max n 1)).toNat)) ((f % (max n 1)).toNat)).length : Nat) : Int) = 1))
            · rw [hs8] at F
              have hs8i := of_decide_eq_false hs8
              refine sq_skip F (wtn F rfl rfl rfl rfl rfl) rfl rfl ?_; clear F; intro φ F
              refine sq_skip F (wtn F rfl rfl rfl rfl rfl) rfl rfl ?_; clear F; intro φ F
              refine sq_skip F (wtn F rfl rfl rfl rfl rfl) rfl rfl ?_; clear F; intro φ F
              refine sq_skip F (wtn F rfl rfl rfl rfl rfl) rfl rfl ?_; clear F; intro φ F
              refine sq_skip F (wtn F rfl rfl rfl rfl rfl) rfl rfl ?_; clear F; intro φ F
              refine sq_skip F (wtn F rfl rfl rfl rfl rfl) rfl rfl ?_; clear F; intro φ F
              refine sq_skip F (wtn F rfl rfl rfl rfl rfl) rfl rfl ?_; clear F; intro φ F
              refine sq_skip F (wtn F rfl rfl rfl rfl rfl) rfl rfl ?_; clear F; intro φ F
              refine sq_skip F (wtn F rfl rfl rfl rfl rfl) rfl rfl ?_; clear F; intro φ F
              refine sq_skip F (wtn F rfl rfl rfl rfl rfl) rfl rfl ?_; clear F; intro φ F
              refine sq_skip F (wtn F rfl rfl rfl rfl rfl) rfl rfl ?_; clear F; intro φ F
              refine sq_pure F (wt0 rfl) (pu_pickf rfl (F.ev rfl) (evk)) rfl rfl ?_; clear F; intro φ F
              refine sq_pure F (wt0 rfl) (pu_assign rfl (F.ev rfl)) rfl rfl ?_; clear F; intro φ F
              refine nx ?_
              refine wp_ret ?_
              refine rt_tmp F rfl rfl ?_
              exfalso; clear F M; first | omega | (simp_all; done) | (simp_all; omega)
            · rw [hs8] at F
              have hs8i := of_decide_eq_true hs8
              refine sq_pure F (wt1 F rfl rfl rfl rfl rfl) (pu_move rfl (F.ev rfl)) rfl rfl ?_; clear F; intro φ F
              refine sq_pure F (wt1 F rfl rfl rfl rfl rfl) (pu_move rfl (F.ev rfl)) rfl rfl ?_; clear F; intro φ F
              refine sq_pure F (wt1 F rfl rfl rfl rfl rfl) (pu_ix rfl (F.ev rfl) (F.ev rfl) sl32 (Rd3.top (M.pv (i := 1) rfl)) (by omega) (by omega)) rfl rfl ?_; clear F; intro φ F
              refine sq_rd F (wt1 F rfl rfl rfl rfl rfl) (ld_el1 rfl (F.ev rfl) one45 (fun _ e => e ▸ (Rd3.top (M.pv (i := 1) rfl))) (by omega) (cV_at (L := rs1) (by first | omega | (simp; done) | (simp; omega)))) rfl rfl ?_; clear F; intro φ F
              refine sq_pure F (wt1 F rfl rfl rfl rfl rfl) (pu_move rfl (F.ev rfl)) rfl rfl ?_; clear F; intro φ F
              refine sq_pure F (wt1 F rfl rfl rfl rfl rfl) (pu_ix rfl (F.ev rfl) (F.ev rfl) sl45 (In3.row (Rd3.inn (M.pv (i := 1) rfl)) ((f % (max n 1)).toNat) (by first | omega | assumption)) (by omega) (by omega)) rfl rfl ?_; clear F; intro φ F
              refine sq_rd F (wt1 F rfl rfl rfl rfl rfl) (ld_el1 rfl (F.ev rfl) one44 (fun _ e => e ▸ (In3.row (Rd3.inn (M.pv (i := 1) rfl)) ((f % (max n 1)).toNat) (by first | omega | assumption))) (by omega) (cV_at (L := (atW vss1 ((f % (max n 1)).toNat))) (by first | omega | (simp; done) | (simp; omega)))) rfl rfl ?_; clear F; intro φ F
              refine sq_pure F (wt1 F rfl rfl rfl rfl rfl) (pu_ix rfl (F.ev rfl) (evk) sl44 (In3.one (Rd3.inn (M.pv (i := 1) rfl)) ((f % (max n 1)).toNat) ((f % (max n 1)).toNat) (by first | omega | assumption) (by first | omega | assumption)) (by omega) (by omega)) rfl rfl ?_; clear F; intro φ F
              refine sq_rd F (wt1 F rfl rfl rfl rfl rfl) (ld_el rfl (F.ev rfl) agg38 (fun _ e => e ▸ (In3.one (Rd3.inn (M.pv (i := 1) rfl)) ((f % (max n 1)).toNat) ((f % (max n 1)).toNat) (by first | omega | assumption) (by first | omega | assumption))) (by omega) (cS_at (by first | omega | (simp; done) | (simp; omega))) rfl) rfl rfl ?_; clear F; intro φ F
              refine sq_pure F (wt1 F rfl rfl rfl rfl rfl) (bu38_ rfl) rfl rfl ?_; clear F; intro φ F
              refine sq_pure F (wt1 F rfl rfl rfl rfl rfl) (pu_eqlA rfl (F.ev rfl) (F.ev rfl) eqg38 (fun w => eqS38 (atS (atR (at3 (cloT E n.toNat n.toNat) ((f % (max n 1)).toNat)) ((f % (max n 1)).toNat)) 0) (St.mk 0 0) w)) rfl rfl ?_; clear F; intro φ F
              refine sq_pure F (wt0 rfl) (pu_pickt rfl (F.ev rfl) (F.ev rfl)) rfl rfl ?_; clear F; intro φ F
              refine sq_pure F (wt0 rfl) (pu_assign rfl (F.ev rfl)) rfl rfl ?_; clear F; intro φ F
              refine nx ?_
              cases hs9 : (decide ((atS (atR (at3 (cloT E n.toNat n.toNat) ((f % (max n 1)).toNat)) ((f % (max n 1)).toNat)) 0) = (St.mk 0 0)))
              · rw [hs9] at F
                have hs9i := eq_f hs9
                refine wp_ret ?_
                refine rt_tmp F rfl rfl ?_
                exfalso; clear F M; first | omega | (simp_all; done) | (simp_all; omega)
              · rw [hs9] at F
                have hs9i := eq_t hs9
                refine wp_ret ?_
                refine rt_tmp F rfl rfl ?_
                exact ⟨rfl, M.bel⟩
          · rw [hs7] at F
            have hs7i := of_decide_eq_true hs7
            refine sq_pure F (wt1 F rfl rfl rfl rfl rfl) (pu_field rfl (F.ev rfl) fo24_1) rfl rfl ?_; clear F; intro φ F
            refine sq_rd F (wt1 F rfl rfl rfl rfl rfl) (ld_cell rfl (F.ev rfl) one22 (M.rd (i := 2) rfl) rfl) rfl rfl ?_; clear F; intro φ F
            refine sq_pure F (wt1 F rfl rfl rfl rfl rfl) (pu_len rfl (F.ev rfl) sl22 (M.av (i := 3) rfl)) rfl rfl ?_; clear F; intro φ F
            refine sq_pure F (wt1 F rfl rfl rfl rfl rfl) (pu_gtr rfl (F.ev rfl) (evk)) rfl rfl ?_; clear F; intro φ F
            refine sq_pure F (wt0 rfl) (pu_pickt rfl (F.ev rfl) (F.ev rfl)) rfl rfl ?_; clear F; intro φ F
            refine nx ?_
            cases hs10 : (decide (0 < ((E.length : Nat) : Int)))
            · rw [hs10] at F
              have hs10i := of_decide_eq_false hs10
              refine wp_cond_false (F.ev rfl) ?_
              refine wp_exit ?_
              refine nxe ?_
              refine nxe ?_
              refine nxm ?_
              refine nxq ?_
              refine wp_seq ?_
              have hx2 := hvv (f % (max n 1)).toNat (by omega)
              have hy2 := hrow (f % (max n 1)).toNat (by omega)
              have hw2 := h64 (f % (max n 1)).toNat (f % (max n 1)).toNat (by omega)
              have hself : (atR (at3 (cloT E n.toNat n.toNat) ((f % (max n 1)).toNat)) ((f % (max n 1)).toNat)) = [St.zero] := self_one hF (by omega)
              have hsl : (atR (at3 (cloT E n.toNat n.toNat) ((f % (max n 1)).toNat)) ((f % (max n 1)).toNat)).length = 1 := by rw [hself]; rfl
              have hs0 : atS (atR (at3 (cloT E n.toNat n.toNat) ((f % (max n 1)).toNat)) ((f % (max n 1)).toNat)) 0 = St.mk 0 0 := by rw [hself]; rfl
              -- region 25
              refine wp_region_lit ?_
              refine sq_pure F (wt0 rfl) (pu_move rfl (F.ev rfl)) rfl rfl ?_; clear F; intro φ F
              refine sq_pure F (wt0 rfl) (pu_move rfl (F.ev rfl)) rfl rfl ?_; clear F; intro φ F
              refine sq_pure F (wt1 F rfl rfl rfl rfl rfl) (pu_move rfl (F.ev rfl)) rfl rfl ?_; clear F; intro φ F
              refine sq_pure F (wt1 F rfl rfl rfl rfl rfl) (pu_move rfl (F.ev rfl)) rfl rfl ?_; clear F; intro φ F
              refine sq_pure F (wt1 F rfl rfl rfl rfl rfl) (pu_ix rfl (F.ev rfl) (F.ev rfl) sl32 (Rd3.top (M.pv (i := 1) rfl)) (by omega) (by omega)) rfl rfl ?_; clear F; intro φ F
              refine sq_rd F (wt1 F rfl rfl rfl rfl rfl) (ld_el1 rfl (F.ev rfl) one45 (fun _ e => e ▸ (Rd3.top (M.pv (i := 1) rfl))) (by omega) (cV_at (L := rs1) (by first | omega | (simp; done) | (simp; omega)))) rfl rfl ?_; clear F; intro φ F
              refine sq_pure F (wt1 F rfl rfl rfl rfl rfl) (pu_move rfl (F.ev rfl)) rfl rfl ?_; clear F; intro φ F
              refine sq_pure F (wt1 F rfl rfl rfl rfl rfl) (pu_ix rfl (F.ev rfl) (F.ev rfl) sl45 (In3.row (Rd3.inn (M.pv (i := 1) rfl)) ((f % (max n 1)).toNat) (by first | omega | assumption)) (by omega) (by omega)) rfl rfl ?_; clear F; intro φ F
              refine sq_rd F (wt1 F rfl rfl rfl rfl rfl) (ld_el1 rfl (F.ev rfl) one44 (fun _ e => e ▸ (In3.row (Rd3.inn (M.pv (i := 1) rfl)) ((f % (max n 1)).toNat) (by first | omega | assumption))) (by omega) (cV_at (L := (atW vss1 ((f % (max n 1)).toNat))) (by first | omega | (simp; done) | (simp; omega)))) rfl rfl ?_; clear F; intro φ F
              refine sq_pure F (wt1 F rfl rfl rfl rfl rfl) (pu_len rfl (F.ev rfl) sl44 (In3.one (Rd3.inn (M.pv (i := 1) rfl)) ((f % (max n 1)).toNat) ((f % (max n 1)).toNat) (by first | omega | assumption) (by first | omega | assumption))) rfl rfl ?_; clear F; intro φ F
              refine sq_pure F (wt1 F rfl rfl rfl rfl rfl) (pu_eqlI rfl (F.ev rfl) (evk)) rfl rfl ?_; clear F; intro φ F
              refine sq_pure F (wt0 rfl) (pu_pickt rfl (F.ev rfl) (F.ev rfl)) rfl rfl ?_; clear F; intro φ F
              refine sq_pure F (wt0 rfl) (pu_move rfl (F.ev rfl)) rfl rfl ?_; clear F; intro φ F
              cases hs11 : (decide ((((atR (at3 (cloT E n.toNat n.toNat) ((f % (max n 1)).toNat)) ((f % (max n 1)).toNat)).length : Nat) : Int) = 1))
              · rw [hs11] at F
                have hs11i := of_decide_eq_false hs11
                refine sq_skip F (wtn F rfl rfl rfl rfl rfl) rfl rfl ?_; clear F; intro φ F
                refine sq_skip F (wtn F rfl rfl rfl rfl rfl) rfl rfl ?_; clear F; intro φ F
                refine sq_skip F (wtn F rfl rfl rfl rfl rfl) rfl rfl ?_; clear F; intro φ F
                refine sq_skip F (wtn F rfl rfl rfl rfl rfl) rfl rfl ?_; clear F; intro φ F
                refine sq_skip F (wtn F rfl rfl rfl rfl rfl) rfl rfl ?_; clear F; intro φ F
                refine sq_skip F (wtn F rfl rfl rfl rfl rfl) rfl rfl ?_; clear F; intro φ F
                refine sq_skip F (wtn F rfl rfl rfl rfl rfl) rfl rfl ?_; clear F; intro φ F
                refine sq_skip F (wtn F rfl rfl rfl rfl rfl) rfl rfl ?_; clear F; intro φ F
                refine sq_skip F (wtn F rfl rfl rfl rfl rfl) rfl rfl ?_; clear F; intro φ F
                refine sq_skip F (wtn F rfl rfl rfl rfl rfl) rfl rfl ?_; clear F; intro φ F
                refine sq_skip F (wtn F rfl rfl rfl rfl rfl) rfl rfl ?_; clear F; intro φ F
                refine sq_pure F (wt0 rfl) (pu_pickf rfl (F.ev rfl) (evk)) rfl rfl ?_; clear F; intro φ F
                refine sq_pure F (wt0 rfl) (pu_assign rfl (F.ev rfl)) rfl rfl ?_; clear F; intro φ F
                refine nx ?_
                refine wp_ret ?_
                refine rt_tmp F rfl rfl ?_
                exfalso; clear F M; first | omega | (simp_all; done) | (simp_all; omega)
              · rw [hs11] at F
                have hs11i := of_decide_eq_true hs11
                refine sq_pure F (wt1 F rfl rfl rfl rfl rfl) (pu_move rfl (F.ev rfl)) rfl rfl ?_; clear F; intro φ F
                refine sq_pure F (wt1 F rfl rfl rfl rfl rfl) (pu_move rfl (F.ev rfl)) rfl rfl ?_; clear F; intro φ F
                refine sq_pure F (wt1 F rfl rfl rfl rfl rfl) (pu_ix rfl (F.ev rfl) (F.ev rfl) sl32 (Rd3.top (M.pv (i := 1) rfl)) (by omega) (by omega)) rfl rfl ?_; clear F; intro φ F
                refine sq_rd F (wt1 F rfl rfl rfl rfl rfl) (ld_el1 rfl (F.ev rfl) one45 (fun _ e => e ▸ (Rd3.top (M.pv (i := 1) rfl))) (by omega) (cV_at (L := rs1) (by first | omega | (simp; done) | (simp; omega)))) rfl rfl ?_; clear F; intro φ F
                refine sq_pure F (wt1 F rfl rfl rfl rfl rfl) (pu_move rfl (F.ev rfl)) rfl rfl ?_; clear F; intro φ F
                refine sq_pure F (wt1 F rfl rfl rfl rfl rfl) (pu_ix rfl (F.ev rfl) (F.ev rfl) sl45 (In3.row (Rd3.inn (M.pv (i := 1) rfl)) ((f % (max n 1)).toNat) (by first | omega | assumption)) (by omega) (by omega)) rfl rfl ?_; clear F; intro φ F
                refine sq_rd F (wt1 F rfl rfl rfl rfl rfl) (ld_el1 rfl (F.ev rfl) one44 (fun _ e => e ▸ (In3.row (Rd3.inn (M.pv (i := 1) rfl)) ((f % (max n 1)).toNat) (by first | omega | assumption))) (by omega) (cV_at (L := (atW vss1 ((f % (max n 1)).toNat))) (by first | omega | (simp; done) | (simp; omega)))) rfl rfl ?_; clear F; intro φ F
                refine sq_pure F (wt1 F rfl rfl rfl rfl rfl) (pu_ix rfl (F.ev rfl) (evk) sl44 (In3.one (Rd3.inn (M.pv (i := 1) rfl)) ((f % (max n 1)).toNat) ((f % (max n 1)).toNat) (by first | omega | assumption) (by first | omega | assumption)) (by omega) (by omega)) rfl rfl ?_; clear F; intro φ F
                refine sq_rd F (wt1 F rfl rfl rfl rfl rfl) (ld_el rfl (F.ev rfl) agg38 (fun _ e => e ▸ (In3.one (Rd3.inn (M.pv (i := 1) rfl)) ((f % (max n 1)).toNat) ((f % (max n 1)).toNat) (by first | omega | assumption) (by first | omega | assumption))) (by omega) (cS_at (by first | omega | (simp; done) | (simp; omega))) rfl) rfl rfl ?_; clear F; intro φ F
                refine sq_pure F (wt1 F rfl rfl rfl rfl rfl) (bu38_ rfl) rfl rfl ?_; clear F; intro φ F
                refine sq_pure F (wt1 F rfl rfl rfl rfl rfl) (pu_eqlA rfl (F.ev rfl) (F.ev rfl) eqg38 (fun w => eqS38 (atS (atR (at3 (cloT E n.toNat n.toNat) ((f % (max n 1)).toNat)) ((f % (max n 1)).toNat)) 0) (St.mk 0 0) w)) rfl rfl ?_; clear F; intro φ F
                refine sq_pure F (wt0 rfl) (pu_pickt rfl (F.ev rfl) (F.ev rfl)) rfl rfl ?_; clear F; intro φ F
                refine sq_pure F (wt0 rfl) (pu_assign rfl (F.ev rfl)) rfl rfl ?_; clear F; intro φ F
                refine nx ?_
                cases hs12 : (decide ((atS (atR (at3 (cloT E n.toNat n.toNat) ((f % (max n 1)).toNat)) ((f % (max n 1)).toNat)) 0) = (St.mk 0 0)))
                · rw [hs12] at F
                  have hs12i := eq_f hs12
                  refine wp_ret ?_
                  refine rt_tmp F rfl rfl ?_
                  exfalso; clear F M; first | omega | (simp_all; done) | (simp_all; omega)
                · rw [hs12] at F
                  have hs12i := eq_t hs12
                  refine wp_ret ?_
                  refine rt_tmp F rfl rfl ?_
                  exact ⟨rfl, M.bel⟩
            · rw [hs10] at F
              have hs10i := of_decide_eq_true hs10
              refine wp_cond_true (F.ev rfl) ?_
              refine wp_skip ?_
              refine nxq ?_
              refine wp_seq ?_
              refine wp_block ?_
              refine wp_seq ?_
              refine wp_seq ?_
              -- region 16
              refine wp_region_lit ?_
              refine sq_pure F (wt0 rfl) (pu_move rfl (F.ev rfl)) rfl rfl ?_; clear F; intro φ F
              refine sq_pure F (wt0 rfl) (pu_move rfl (F.ev rfl)) rfl rfl ?_; clear F; intro φ F
              refine sq_pure F (wt0 rfl) (pu_ix rfl (F.ev rfl) (F.ev rfl) sl29 (M.av (i := 4) rfl) (by omega) (by omega)) rfl rfl ?_; clear F; intro φ F
              refine sq_rd F (wt0 rfl) (ld_el1 rfl (F.ev rfl) one3 (fun _ e => e ▸ (M.av (i := 4) rfl)) (by omega) (cI_at (by first | omega | (simp; done) | (simp; omega)))) rfl rfl ?_; clear F; intro φ F
              refine sq_pure F (wt0 rfl) (pu_lss rfl (F.ev rfl) (evk)) rfl rfl ?_; clear F; intro φ F
              refine nx ?_
              cases hs13 : (decide ((atI W i.toNat) < 0))
              · rw [hs13] at F
                have hs13i := of_decide_eq_false hs13
                refine wp_cond_false (F.ev rfl) ?_
                refine wp_skip ?_
                refine nxq ?_
                refine wp_seq ?_
                have he1 := Int.emod_nonneg (atI W i.toNat) (show ((E.length : Nat) : Int) ≠ 0 by omega)
                have he2 := Int.emod_lt_of_pos (atI W i.toNat) (show 0 < ((E.length : Nat) : Int) by omega)
                have hWi := hW i.toNat (by omega)
                have hxm := atG_mem (L := E) (i := (atI W i.toNat % ((E.length : Nat) : Int)).toNat) (by omega)
                have hxf := fit_t hfit hxm
                -- region 17
                refine rg_heads F M 13 [.val (.pointer (some ⟨g1, 1, none⟩)), .val (ev), .val (wv), .val (.int .i64 i), .val (.pointer (some ⟨gof wv, oof wv + (i.toNat * 1), none⟩)), .val (.int .i64 (atI W i.toNat)), .val (.pointer (some ⟨g1, 1, none⟩)), .val (ev), .val (.int .i64 ((E.length : Nat) : Int)), .val (.int .i64 ((atI W i.toNat) % ((E.length : Nat) : Int))), .val (.pointer (some ⟨gof ev, oof ev + (((atI W i.toNat) % ((E.length : Nat) : Int)).toNat * 4), none⟩)), .val (.agg #[.int .i64 ((atG E (((atI W i.toNat) % ((E.length : Nat) : Int)).toNat)).f), .int .i64 ((atG E (((atI W i.toNat) % ((E.length : Nat) : Int)).toNat)).t), .int .i64 ((atG E (((atI W i.toNat) % ((E.length : Nat) : Int)).toNat)).p.e), .int .i64 ((atG E (((atI W i.toNat) % ((E.length : Nat) : Int)).toNat)).p.r)]), .new 40 #[.int .i64 0, .int .i64 0, .int .i64 0, .int .i64 0]] 12 rfl rfl mixedOK (by kernel_rfl) rfl rfl ⟨?_, ?_, ?_, ?_, ?_, ?_, ?_, ?_, ?_, ?_, ?_, ?_, ?_, trivial⟩ ?_
                · intro φ1 ω1 hb F1 hdep hold; have F := (F1.cons (F.was hold (s := 3) rfl rfl)); have M := M.below hb; exact ob_rd (wt0 rfl) (Pure.rdy (pu_field rfl (F.ev rfl) fo24_1)) rfl
                · intro φ1 ω1 hb F1 hdep hold; have F := (F1.cons (F1.dep hdep 0 (by kernel_rfl) rfl rfl rfl)); have M := M.below hb; exact ob_rd (wt0 rfl) (ld_cell rfl (F.ev rfl) one22 (M.rd (i := 2) rfl) rfl) rfl
                · intro φ1 ω1 hb F1 hdep hold; have F := (F1.cons (F.was hold (s := 2) rfl rfl)); have M := M.below hb; exact ob_rd (wt0 rfl) (Pure.rdy (pu_move rfl (F.ev rfl))) rfl
                · intro φ1 ω1 hb F1 hdep hold; have F := (F1.cons (F.was hold (s := 14) rfl rfl)); have M := M.below hb; exact ob_rd (wt0 rfl) (Pure.rdy (pu_move rfl (F.ev rfl))) rfl
                · intro φ1 ω1 hb F1 hdep hold; have F := ((F1.cons (F1.dep hdep 2 (by kernel_rfl) rfl rfl rfl)).cons (F1.dep hdep 3 (by kernel_rfl) rfl rfl rfl)); have M := M.below hb; exact ob_rd (wt0 rfl) (Pure.rdy (pu_ix rfl (F.ev rfl) (F.ev rfl) sl29 (M.av (i := 4) rfl) (by omega) (by omega))) rfl
                · intro φ1 ω1 hb F1 hdep hold; have F := (F1.cons (F1.dep hdep 4 (by kernel_rfl) rfl rfl rfl)); have M := M.below hb; exact ob_rd (wt0 rfl) (ld_el1 rfl (F.ev rfl) one3 (fun _ e => e ▸ (M.av (i := 4) rfl)) (by omega) (cI_at (by first | omega | (simp; done) | (simp; omega)))) rfl
                · intro φ1 ω1 hb F1 hdep hold; have F := (F1.cons (F.was hold (s := 3) rfl rfl)); have M := M.below hb; exact ob_rd (wt0 rfl) (Pure.rdy (pu_field rfl (F.ev rfl) fo24_1)) rfl
                · intro φ1 ω1 hb F1 hdep hold; have F := (F1.cons (F1.dep hdep 6 (by kernel_rfl) rfl rfl rfl)); have M := M.below hb; exact ob_rd (wt0 rfl) (ld_cell rfl (F.ev rfl) one22 (M.rd (i := 2) rfl) rfl) rfl
                · intro φ1 ω1 hb F1 hdep hold; have F := (F1.cons (F1.dep hdep 7 (by kernel_rfl) rfl rfl rfl)); have M := M.below hb; exact ob_rd (wt0 rfl) (Pure.rdy (pu_len rfl (F.ev rfl) sl22 (M.av (i := 3) rfl))) rfl
                · intro φ1 ω1 hb F1 hdep hold; have F := ((F1.cons (F1.dep hdep 5 (by kernel_rfl) rfl rfl rfl)).cons (F1.dep hdep 8 (by kernel_rfl) rfl rfl rfl)); have M := M.below hb; exact ob_rd (wt0 rfl) (Pure.rdy (pu_rem rfl (F.ev rfl) (F.ev rfl) (by omega) (by omega) (by omega))) rfl
                · intro φ1 ω1 hb F1 hdep hold; have F := ((F1.cons (F1.dep hdep 1 (by kernel_rfl) rfl rfl rfl)).cons (F1.dep hdep 9 (by kernel_rfl) rfl rfl rfl)); have M := M.below hb; exact ob_rd (wt0 rfl) (Pure.rdy (pu_ix rfl (F.ev rfl) (F.ev rfl) sl22 (M.av (i := 3) rfl) (by omega) (by omega))) rfl
                · intro φ1 ω1 hb F1 hdep hold; have F := (F1.cons (F1.dep hdep 10 (by kernel_rfl) rfl rfl rfl)); have M := M.below hb; exact ob_rd (wt0 rfl) (ld_el rfl (F.ev rfl) agg40 (fun _ e => e ▸ (M.av (i := 3) rfl)) (by omega) (cG_at (by first | omega | (simp; done) | (simp; omega))) rfl) rfl
                · intro φ1 ω1 hb F1 hdep hold; exact ob_alloc (wt0 rfl) hb rfl z40 rfl
                clear F M; intro φ ω g3 F M
                simp only [headL, List.take_succ_cons, List.take_zero, HV.value] at F
                refine sq_stA F M (wt0 rfl) rfl (F.ev rfl) (F.ev rfl) (i := 0) rfl agg40 rfl rfl rfl rfl ?_; clear M; intro ω M
                refine nx ?_
                refine wp_seq ?_
                -- region 18
                refine wp_region_lit ?_
                refine sq_rd F (wt0 rfl) (ld_agg rfl (F.ev rfl) agg38 (M.rd (i := 1) rfl) rfl) rfl rfl ?_; clear F; intro φ F
                refine sq_pure F (wt0 rfl) (pu_field rfl (F.ev rfl) fo40_2) rfl rfl ?_; clear F; intro φ F
                refine sq_rd F (wt0 rfl) (ld_sub rfl (F.ev rfl) agg38 (M.rd (i := 0) rfl) rfl rfl) rfl rfl ?_; clear F; intro φ F
                refine sq_call F M (wt0 rfl) rfl en19 (evc (F.ev rfl) (evc (F.ev rfl) evn)) (pthen_any s (atG E (((atI W i.toNat) % ((E.length : Nat) : Int)).toNat)).p _) rfl rfl ?_; clear F M; intro φ ω F M
                refine sq_pure F (wt0 rfl) (pu_move rfl (F.ev rfl)) rfl rfl ?_; clear F; intro φ F
                refine sq_pure F (wt0 rfl) (pu_extract rfl (F.ev rfl) rfl) rfl rfl ?_; clear F; intro φ F
                refine sq_pure F (wt0 rfl) (pu_extract rfl (F.ev rfl) rfl) rfl rfl ?_; clear F; intro φ F
                refine sq_alloc F M (wt0 rfl) rfl z38 rfl rfl ?_; clear F M; intro φ ω g4 F M
                refine sq_stA F M (wt0 rfl) rfl (F.ev rfl) (F.ev rfl) (i := 0) rfl agg38 rfl rfl rfl rfl ?_; clear M; intro ω M
                refine sq_pure F (wt0 rfl) (pu_assign rfl (F.ev rfl)) rfl rfl ?_; clear F; intro φ F
                refine nx ?_
                refine wp_seq ?_
                refine wp_seq ?_
                -- region 19
                refine wp_region_lit ?_
                refine sq_pure F (wt0 rfl) (pu_field rfl (F.ev rfl) fo40_0) rfl rfl ?_; clear F; intro φ F
                refine sq_rd F (wt0 rfl) (ld_cell rfl (F.ev rfl) one3 (M.rd (i := 1) rfl) rfl) rfl rfl ?_; clear F; intro φ F
                refine sq_pure F (wt0 rfl) (pu_move rfl (F.ev rfl)) rfl rfl ?_; clear F; intro φ F
                cases hs14 : (decide ((atG E (((atI W i.toNat) % ((E.length : Nat) : Int)).toNat)).f = a))
                · skip
                  have hs14i := of_decide_eq_false hs14
                  refine sq_pure F (wt0 rfl) (pu_neqI rfl (F.ev rfl) (F.ev rfl)) rfl rfl ?_; clear F; intro φ F
                  rw [hs14, show (!false) = true from rfl] at F
                  refine sq_pure F (wt0 rfl) (pu_move rfl (F.ev rfl)) rfl rfl ?_; clear F; intro φ F
                  refine sq_skip F (wtn F rfl rfl rfl rfl rfl) rfl rfl ?_; clear F; intro φ F
                  refine sq_skip F (wtn F rfl rfl rfl rfl rfl) rfl rfl ?_; clear F; intro φ F
                  refine sq_pure F (wt0 rfl) (pu_pickt rfl (F.ev rfl) (evk)) rfl rfl ?_; clear F; intro φ F
                  refine nx ?_
                  refine wp_cond_true (F.ev rfl) ?_
                  refine wp_exit ?_
                  refine nxe ?_
                  refine nxm ?_
                  refine nxq ?_
                  -- region 15
                  refine wp_region_lit ?_
                  refine sq_pure F (wt0 rfl) (pu_move rfl (F.ev rfl)) rfl rfl ?_; clear F; intro φ F
                  refine sq_pure F (wt0 rfl) (pu_add rfl (F.ev rfl) (evk) (by omega) (by omega)) rfl rfl ?_; clear F; intro φ F
                  refine sq_pure F (wt0 rfl) (pu_assign rfl (F.ev rfl)) rfl rfl ?_; clear F; intro φ F
                  refine wpList_nil ?_
                  exact ⟨i + 1, by omega, a, s, ((((((((F.nil.cons (F.get (k := 14) rfl)).cons (F.get (k := 11) rfl)).cons (F.get (k := 13) rfl)).cons (F.get (k := 12) rfl)).cons (F.get (k := 8) rfl)).cons (F.get (k := 7) rfl)).cons (F.get (k := 3) rfl)).cons (F.get (k := 2) rfl)), (by have z := M.sub (.cons _ (.cons _ (.cons_cons _ (.cons_cons _ (.cons_cons _ (.cons_cons _ (.cons_cons _ (.slnil)))))))); exact z), by omega, by omega, by omega, hp6_3⟩
                · skip
                  have hs14i := of_decide_eq_true hs14
                  refine sq_pure F (wt0 rfl) (pu_neqI rfl (F.ev rfl) (F.ev rfl)) rfl rfl ?_; clear F; intro φ F
                  rw [hs14, show (!true) = false from rfl] at F
                  refine sq_pure F (wt0 rfl) (pu_move rfl (F.ev rfl)) rfl rfl ?_; clear F; intro φ F
                  refine sq_pure F (wt1 F rfl rfl rfl rfl rfl) (pu_move rfl (F.ev rfl)) rfl rfl ?_; clear F; intro φ F
                  cases hs15 : (s.afterB (atG E (((atI W i.toNat) % ((E.length : Nat) : Int)).toNat)).p)
                  · rw [hs15] at F
                    refine sq_pure F (wt1 F rfl rfl rfl rfl rfl) (pu_not rfl (F.ev rfl)) rfl rfl ?_; clear F; intro φ F
                    rw [show (!false) = true from rfl] at F
                    refine sq_pure F (wt0 rfl) (pu_pickf rfl (F.ev rfl) (F.ev rfl)) rfl rfl ?_; clear F; intro φ F
                    refine nx ?_
                    refine wp_cond_true (F.ev rfl) ?_
                    refine wp_exit ?_
                    refine nxe ?_
                    refine nxm ?_
                    refine nxq ?_
                    -- region 15
                    refine wp_region_lit ?_
                    refine sq_pure F (wt0 rfl) (pu_move rfl (F.ev rfl)) rfl rfl ?_; clear F; intro φ F
                    refine sq_pure F (wt0 rfl) (pu_add rfl (F.ev rfl) (evk) (by omega) (by omega)) rfl rfl ?_; clear F; intro φ F
                    refine sq_pure F (wt0 rfl) (pu_assign rfl (F.ev rfl)) rfl rfl ?_; clear F; intro φ F
                    refine wpList_nil ?_
                    exact ⟨i + 1, by omega, a, s, ((((((((F.nil.cons (F.get (k := 14) rfl)).cons (F.get (k := 11) rfl)).cons (F.get (k := 13) rfl)).cons (F.get (k := 12) rfl)).cons (F.get (k := 8) rfl)).cons (F.get (k := 7) rfl)).cons (F.get (k := 3) rfl)).cons (F.get (k := 2) rfl)), (by have z := M.sub (.cons _ (.cons _ (.cons_cons _ (.cons_cons _ (.cons_cons _ (.cons_cons _ (.cons_cons _ (.slnil)))))))); exact z), by omega, by omega, by omega, hp6_3⟩
                  · rw [hs15] at F
                    refine sq_pure F (wt1 F rfl rfl rfl rfl rfl) (pu_not rfl (F.ev rfl)) rfl rfl ?_; clear F; intro φ F
                    rw [show (!true) = false from rfl] at F
                    refine sq_pure F (wt0 rfl) (pu_pickf rfl (F.ev rfl) (F.ev rfl)) rfl rfl ?_; clear F; intro φ F
                    refine nx ?_
                    refine wp_cond_false (F.ev rfl) ?_
                    refine wp_skip ?_
                    refine nxq ?_
                    refine wp_seq ?_
                    -- region 20
                    refine wp_region_lit ?_
                    refine sq_rd F (wt0 rfl) (ld_agg rfl (F.ev rfl) agg38 (M.rd (i := 0) rfl) rfl) rfl rfl ?_; clear F; intro φ F
                    refine sq_stA F M (wt0 rfl) rfl (F.ev rfl) (F.ev rfl) (i := 2) rfl agg38 rfl rfl rfl rfl ?_; clear M; intro ω M
                    refine nx ?_
                    refine wp_seq ?_
                    -- region 21
                    refine wp_region_lit ?_
                    refine sq_pure F (wt0 rfl) (pu_field rfl (F.ev rfl) fo40_1) rfl rfl ?_; clear F; intro φ F
                    refine sq_rd F (wt0 rfl) (ld_cell rfl (F.ev rfl) one3 (M.rd (i := 1) rfl) rfl) rfl rfl ?_; clear F; intro φ F
                    refine sq_pure F (wt0 rfl) (pu_assign rfl (F.ev rfl)) rfl rfl ?_; clear F; intro φ F
                    refine nx ?_
                    refine wp_seq ?_
                    have hway : WayS E (f % (max n 1)) ((atG E (((atI W i.toNat) % ((E.length : Nat) : Int)).toNat)).t) (s.after (atG E (((atI W i.toNat) % ((E.length : Nat) : Int)).toNat)).p) := way_snoc (by have z := hp6_3; first | exact z | (rw [show a = _ from by first | exact hs14i.symm | exact hs14i] at z; exact z)) hxm hs15
                    have hcv := way_cov hF (by omega) (by omega) hway
                    have hx3 := hvv (f % (max n 1)).toNat (by omega)
                    have hy3 := hrow (f % (max n 1)).toNat (by omega)
                    have hw3 := h64 (f % (max n 1)).toNat ((atG E (((atI W i.toNat) % ((E.length : Nat) : Int)).toNat)).t).toNat (by omega)
                    -- region 22
                    refine rg_quiet M mixedOK (by kernel_rfl) ?_
                    refine qt_pure F (wt0 rfl) (pu_move rfl (F.ev rfl)) rfl rfl ?_; clear F; intro φ F
                    refine qt_pure F (wt0 rfl) (pu_move rfl (F.ev rfl)) rfl rfl ?_; clear F; intro φ F
                    refine qt_pure F (wt0 rfl) (pu_ix rfl (F.ev rfl) (F.ev rfl) sl32 (Rd3.top (M.pv (i := 3) rfl)) (by omega) (by omega)) rfl rfl ?_; clear F; intro φ F
                    refine qt_rd F (wt0 rfl) (ld_el1 rfl (F.ev rfl) one45 (fun _ h => RdV.below (Rd3.top (M.pv (i := 3) rfl)) h) (by omega) (cV_at (L := rs1) (by first | omega | (simp; done) | (simp; omega)))) rfl rfl ?_; clear F; intro φ F
                    refine qt_pure F (wt0 rfl) (pu_move rfl (F.ev rfl)) rfl rfl ?_; clear F; intro φ F
                    refine qt_pure F (wt0 rfl) (pu_ix rfl (F.ev rfl) (F.ev rfl) sl45 (In3.row (Rd3.inn (M.pv (i := 3) rfl)) ((f % (max n 1)).toNat) (by first | omega | assumption)) (by omega) (by omega)) rfl rfl ?_; clear F; intro φ F
                    refine qt_rd F (wt0 rfl) (ld_el1 rfl (F.ev rfl) one44 (fun _ h => RdV.below (In3.row (Rd3.inn (M.pv (i := 3) rfl)) ((f % (max n 1)).toNat) (by first | omega | assumption)) h) (by omega) (cV_at (L := (atW vss1 ((f % (max n 1)).toNat))) (by first | omega | (simp; done) | (simp; omega)))) rfl rfl ?_; clear F; intro φ F
                    refine qt_rd F (wt0 rfl) (ld_agg rfl (F.ev rfl) agg38 (M.rdB (i := 2) rfl) rfl) rfl rfl ?_; clear F; intro φ F
                    refine qt_call F (wt0 rfl) rfl en20 (evc (F.ev rfl) (evc (F.ev rfl) evn)) (fun w' h => calls_below h (gcov_any (atR (at3 (cloT E n.toNat n.toNat) ((f % (max n 1)).toNat)) (((atG E (((atI W i.toNat) % ((E.length : Nat) : Int)).toNat)).t).toNat)) (s.after (atG E (((atI W i.toNat) % ((E.length : Nat) : Int)).toNat)).p) _ w' (RdV.below (In3.one (Rd3.inn (M.pv (i := 3) rfl)) ((f % (max n 1)).toNat) (((atG E (((atI W i.toNat) % ((E.length : Nat) : Int)).toNat)).t).toNat) (by first | omega | assumption) (by first | omega | assumption)) h) (by first | omega | (simp; done) | (simp; omega) | (refine Nat.le_trans (minL_len _) ?_; omega) | (refine Nat.le_trans (eachL_len _ _) ?_; omega)))) rfl rfl ?_; clear F; intro φ F
                    rw [hcv] at F
                    refine qt_pure F (wt0 rfl) (pu_assign rfl (F.ev rfl)) rfl rfl ?_; clear F; intro φ F
                    refine wpQuiet_nil ?_
                    clear M; intro ω M
                    refine nxq ?_
                    refine wp_seq ?_
                    -- region 23
                    refine wp_region_lit ?_
                    refine sq_pure F (wt0 rfl) (pu_move rfl (F.ev rfl)) rfl rfl ?_; clear F; intro φ F
                    refine sq_pure F (wt0 rfl) (pu_not rfl (F.ev rfl)) rfl rfl ?_; clear F; intro φ F
                    rw [show (!true) = false from rfl] at F
                    refine nx ?_
                    refine wp_cond_false (F.ev rfl) ?_
                    refine wp_skip ?_
                    refine nxb ?_
                    refine nxq ?_
                    -- region 15
                    refine wp_region_lit ?_
                    refine sq_pure F (wt0 rfl) (pu_move rfl (F.ev rfl)) rfl rfl ?_; clear F; intro φ F
                    refine sq_pure F (wt0 rfl) (pu_add rfl (F.ev rfl) (evk) (by omega) (by omega)) rfl rfl ?_; clear F; intro φ F
                    refine sq_pure F (wt0 rfl) (pu_assign rfl (F.ev rfl)) rfl rfl ?_; clear F; intro φ F
                    refine wpList_nil ?_
                    exact ⟨i + 1, by omega, (atG E (((atI W i.toNat) % ((E.length : Nat) : Int)).toNat)).t, (s.after (atG E (((atI W i.toNat) % ((E.length : Nat) : Int)).toNat)).p), ((((((((F.nil.cons (F.get (k := 14) rfl)).cons (F.get (k := 11) rfl)).cons (F.get (k := 13) rfl)).cons (F.get (k := 12) rfl)).cons (F.get (k := 8) rfl)).cons (F.get (k := 7) rfl)).cons (F.get (k := 3) rfl)).cons (F.get (k := 2) rfl)), (by have z := M.sub (.cons _ (.cons _ (.cons_cons _ (.cons_cons _ (.cons_cons _ (.cons_cons _ (.cons_cons _ (.slnil)))))))); exact z), by omega, by omega, by omega, hway⟩
              · rw [hs13] at F
                have hs13i := of_decide_eq_true hs13
                refine wp_cond_true (F.ev rfl) ?_
                refine wp_exit ?_
                refine nxe ?_
                refine nxm ?_
                refine nxq ?_
                -- region 15
                refine wp_region_lit ?_
                refine sq_pure F (wt0 rfl) (pu_move rfl (F.ev rfl)) rfl rfl ?_; clear F; intro φ F
                refine sq_pure F (wt0 rfl) (pu_add rfl (F.ev rfl) (evk) (by omega) (by omega)) rfl rfl ?_; clear F; intro φ F
                refine sq_pure F (wt0 rfl) (pu_assign rfl (F.ev rfl)) rfl rfl ?_; clear F; intro φ F
                refine wpList_nil ?_
                exact ⟨i + 1, by omega, a, s, ((((((((F.nil.cons (F.get (k := 14) rfl)).cons (F.get (k := 11) rfl)).cons (F.get (k := 13) rfl)).cons (F.get (k := 12) rfl)).cons (F.get (k := 8) rfl)).cons (F.get (k := 7) rfl)).cons (F.get (k := 3) rfl)).cons (F.get (k := 2) rfl)), (by have z := M.sub (.cons_cons _ (.cons_cons _ (.cons_cons _ (.cons_cons _ (.cons_cons _ (.slnil)))))); exact z), by omega, by omega, by omega, hp6_3⟩
      · rw [hs3] at F
        have hs3i := of_decide_eq_true hs3
        refine wp_cond_true (F.ev rfl) ?_
        refine wp_seq ?_
        -- region 3
        refine wp_region_lit ?_
        refine sq_pure F (wt0 rfl) (pu_move rfl (F.ev rfl)) rfl rfl ?_; clear F; intro φ F
        refine sq_pure F (wt0 rfl) (pu_assign rfl (F.ev rfl)) rfl rfl ?_; clear F; intro φ F
        refine nx ?_
        refine wp_ret ?_
        refine nxr ?_
        refine rt_tmp F rfl rfl ?_
        exact ⟨rfl, M.bel⟩
    · rw [hs2] at F
      have hs2i := of_decide_eq_true hs2
      refine sq_skip F (wtn F rfl rfl rfl rfl rfl) rfl rfl ?_; clear F; intro φ F
      refine sq_skip F (wtn F rfl rfl rfl rfl rfl) rfl rfl ?_; clear F; intro φ F
      refine sq_pure F (wt0 rfl) (pu_pickt rfl (F.ev rfl) (evk)) rfl rfl ?_; clear F; intro φ F
      refine nx ?_
      refine wp_cond_true (F.ev rfl) ?_
      refine wp_seq ?_
      -- region 3
      refine wp_region_lit ?_
      refine sq_pure F (wt0 rfl) (pu_move rfl (F.ev rfl)) rfl rfl ?_; clear F; intro φ F
      refine sq_pure F (wt0 rfl) (pu_assign rfl (F.ev rfl)) rfl rfl ?_; clear F; intro φ F
      refine nx ?_
      refine wp_ret ?_
      refine nxr ?_
      refine rt_tmp F rfl rfl ?_
      exact ⟨rfl, M.bel⟩
  · rw [hs1] at F
    have hs1i := of_decide_eq_true hs1
    refine sq_skip F (wtn F rfl rfl rfl rfl rfl) rfl rfl ?_; clear F; intro φ F
    refine sq_skip F (wtn F rfl rfl rfl rfl rfl) rfl rfl ?_; clear F; intro φ F
    refine sq_skip F (wtn F rfl rfl rfl rfl rfl) rfl rfl ?_; clear F; intro φ F
    refine sq_pure F (wt0 rfl) (pu_pickt rfl (F.ev rfl) (evk)) rfl rfl ?_; clear F; intro φ F
    refine sq_pure F (wt0 rfl) (pu_move rfl (F.ev rfl)) rfl rfl ?_; clear F; intro φ F
    refine sq_skip F (wtn F rfl rfl rfl rfl rfl) rfl rfl ?_; clear F; intro φ F
    refine sq_skip F (wtn F rfl rfl rfl rfl rfl) rfl rfl ?_; clear F; intro φ F
    refine sq_pure F (wt0 rfl) (pu_pickt rfl (F.ev rfl) (evk)) rfl rfl ?_; clear F; intro φ F
    refine nx ?_
    refine wp_cond_true (F.ev rfl) ?_
    refine wp_seq ?_
    -- region 3
    refine wp_region_lit ?_
    refine sq_pure F (wt0 rfl) (pu_move rfl (F.ev rfl)) rfl rfl ?_; clear F; intro φ F
    refine sq_pure F (wt0 rfl) (pu_assign rfl (F.ev rfl)) rfl rfl ?_; clear F; intro φ F
    refine nx ?_
    refine wp_ret ?_
    refine nxr ?_
    refine rt_tmp F rfl rfl ?_
    exact ⟨rfl, M.bel⟩

end Go.Proofs.Ytbleefegobmboaa
