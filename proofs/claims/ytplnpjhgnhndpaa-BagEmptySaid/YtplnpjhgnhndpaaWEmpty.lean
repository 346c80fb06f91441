/- Laws of layer 4. Made by walks/baglaws.py. -/
import Derived.Test.YtplnpjhgnhndpaaBa
import Derived.Test.YtplnpjhgnhndpaaRk
namespace Go.Proofs.Ytplnpjhgnhndpaa
open Go.RowKit Go.Sort

set_option maxHeartbeats 4000000 in
theorem bagEmpty_walk (L : List Ct) (x : Ct) (a : Value) (w : World) (ha : RdC w a L) :
    Calls Try.prog 8 #[a, .agg #[.int .i64 x.1.e, .int .i64 x.1.r, .int .i64 x.2]] w fun e w' => e = .returned (.bool true) ∧ Below w.heap.size w w' := by
  refine enterF Try.func8 rfl 92 Try.ntmps8 [a, .agg #[.int .i64 x.1.e, .int .i64 x.1.r, .int .i64 x.2]] rfl [(0, a), (1, .agg #[.int .i64 x.1.e, .int .i64 x.1.r, .int .i64 x.2])] rfl ?_
  intro φ F
  have M := Mm.start [] w
  replace M := M.addArg (ha) (fun _ => by first | (simp; done) | (simp_all; done) | assumption)
  refine wp_seq ?_
  -- region 0
  refine wp_region_lit ?_
  refine sq_box F M (wt0 rfl) rfl (F.ev rfl) (cs := #[.int .i64 x.1.e, .int .i64 x.1.r, .int .i64 x.2]) rfl rfl rfl ?_; clear F M; intro φ ω g1 F M
  refine sq_pure F (wt0 rfl) (pu_assign rfl (evk)) rfl rfl ?_; clear F; intro φ F
  refine nx ?_
  refine wp_seq ?_
  -- region 1
  refine wp_region_lit ?_
  refine sq_call F M (wt0 rfl) rfl en10 evn (awake_any _) rfl rfl ?_; clear F M; intro φ ω F M
  refine sq_pure F (wt0 rfl) (pu_assign rfl (F.ev rfl)) rfl rfl ?_; clear F; intro φ F
  refine nx ?_
  refine wp_seq ?_
  -- region 2
  refine wp_region_lit ?_
  refine sq_callO (Z := (fun v x => ∃ p g, v = .pointer (some ⟨p, 0, none⟩) ∧ x = .own [p, g] (BagV p g []))) F M (wt0 rfl) rfl en11 evn (new_any _) rfl rfl ?_; clear F M; rintro φ ω _ _ ⟨p9, m9, rfl, rfl⟩ F M
  replace M : Mm [] w ω [.own [p9, m9] (BagV p9 m9 ([] : List Ct)), .blk g1 32 #[.int .i64 x.1.e, .int .i64 x.1.r, .int .i64 x.2], .arg 3 a L.length (cC L)] := M
  refine sq_pure F (wt0 rfl) (pu_assign rfl (F.ev rfl)) rfl rfl ?_; clear F; intro φ F
  refine nx ?_
  refine wp_seq ?_
  -- region 3
  refine wp_region_lit ?_
  refine sq_callO (Z := (fun v x => ∃ p g, v = .pointer (some ⟨p, 0, none⟩) ∧ x = .own [p, g] (BagV p g []))) F M (wt0 rfl) rfl en11 evn (new_any _) rfl rfl ?_; clear F M; rintro φ ω _ _ ⟨p10, m10, rfl, rfl⟩ F M
  replace M : Mm [] w ω [.own [p10, m10] (BagV p10 m10 ([] : List Ct)), .own [p9, m9] (BagV p9 m9 ([] : List Ct)), .blk g1 32 #[.int .i64 x.1.e, .int .i64 x.1.r, .int .i64 x.2], .arg 3 a L.length (cC L)] := M
  refine sq_pure F (wt0 rfl) (pu_assign rfl (F.ev rfl)) rfl rfl ?_; clear F; intro φ F
  refine nx ?_
  refine wp_seq ?_
  refine wp_seq ?_
  -- region 4
  refine wp_region_lit ?_
  refine sq_pure F (wt0 rfl) (pu_move rfl (F.ev rfl)) rfl rfl ?_; clear F; intro φ F
  refine sq_pure F (wt0 rfl) (pu_eqlP rfl (F.ev rfl) (evk) Try.underlying24) rfl rfl ?_; clear F; intro φ F
  refine sq_pure F (wt0 rfl) (pu_move rfl (F.ev rfl)) rfl rfl ?_; clear F; intro φ F
  refine sq_pure F (wt1 F rfl rfl rfl rfl rfl) (pu_move rfl (F.ev rfl)) rfl rfl ?_; clear F; intro φ F
  refine sq_pure F (wt1 F rfl rfl rfl rfl rfl) (pu_eqlP rfl (F.ev rfl) (evk) Try.underlying24) rfl rfl ?_; clear F; intro φ F
  refine sq_pure F (wt0 rfl) (pu_pickf rfl (F.ev rfl) (F.ev rfl)) rfl rfl ?_; clear F; intro φ F
  refine sq_pure F (wt0 rfl) (pu_move rfl (F.ev rfl)) rfl rfl ?_; clear F; intro φ F
  refine sq_pure F (wt1 F rfl rfl rfl rfl rfl) (pu_move rfl (F.ev rfl)) rfl rfl ?_; clear F; intro φ F
  refine sq_pure F (wt1 F rfl rfl rfl rfl rfl) (pu_len rfl (F.ev rfl) sl22 (M.av (i := 3) rfl)) rfl rfl ?_; clear F; intro φ F
  refine sq_pure F (wt1 F rfl rfl rfl rfl rfl) (pu_gtr rfl (F.ev rfl) (evk)) rfl rfl ?_; clear F; intro φ F
  refine sq_pure F (wt0 rfl) (pu_pickf rfl (F.ev rfl) (F.ev rfl)) rfl rfl ?_; clear F; intro φ F
  refine nx ?_
  cases hs1 : (decide (100 < ((L.length : Nat) : Int)))
  · rw [hs1] at F
    have hs1i := of_decide_eq_false hs1
    refine wp_cond_false (F.ev rfl) ?_
    refine wp_skip ?_
    refine nxq ?_
    refine wp_seq ?_
    refine wp_seq ?_
    -- region 6
    refine wp_region_lit ?_
    refine sq_pure F (wt0 rfl) (pu_assign rfl (evk)) rfl rfl ?_; clear F; intro φ F
    refine nx ?_
    refine wp_block ?_
    refine lp (σ := Int) (fun i φ' w' => Fr φ' 92 [(0, a), (3, .pointer (some ⟨g1, 0, none⟩)), (5, .bool true), (6, .pointer (some ⟨p9, 0, none⟩)), (7, .pointer (some ⟨p10, 0, none⟩)), (8, .int .i64 i)] ∧ Mm [] w w' [.own [p10, m10] (BagV p10 m10 ([] : List Ct)), .own [p9, m9] (BagV p9 m9 (sumC (L.take i.toNat))), .blk g1 32 #[.int .i64 x.1.e, .int .i64 x.1.r, .int .i64 x.2], .arg 3 a L.length (cC L)] ∧ (0 ≤ i) ∧ (i ≤ (L.length : Int))) (fun i => ((L.length : Int) - i).toNat) (0) ⟨((((((F.nil.cons (F.get (k := 8) rfl)).cons (F.get (k := 7) rfl)).cons (F.get (k := 6) rfl)).cons (F.get (k := 5) rfl)).cons (F.get (k := 3) rfl)).cons (F.get (k := 0) rfl)), (by simpa [sumC, foldC] using M), Int.le_refl _, by omega⟩ ?_
    clear F M
    rintro i φ ω ⟨F, M, hp2_0, hp2_1⟩
    refine wp_seq ?_
    refine wp_seq ?_
    -- region 7
    refine wp_region_lit ?_
    refine sq_pure F (wt0 rfl) (pu_move rfl (F.ev rfl)) rfl rfl ?_; clear F; intro φ F
    refine sq_pure F (wt0 rfl) (pu_move rfl (F.ev rfl)) rfl rfl ?_; clear F; intro φ F
    refine sq_pure F (wt0 rfl) (pu_len rfl (F.ev rfl) sl22 (M.av (i := 3) rfl)) rfl rfl ?_; clear F; intro φ F
    refine sq_pure F (wt0 rfl) (pu_lss rfl (F.ev rfl) (F.ev rfl)) rfl rfl ?_; clear F; intro φ F
    refine nx ?_
    cases hs3 : (decide (i < ((L.length : Nat) : Int)))
    · rw [hs3] at F
      have hs3i := of_decide_eq_false hs3
      refine wp_cond_false (F.ev rfl) ?_
      refine wp_exit ?_
      refine nxe ?_
      refine nxe ?_
      refine nxm ?_
      refine nxq ?_
      refine wp_seq ?_
      -- region 10
      refine wp_region_lit ?_
      refine sq_pure F (wt0 rfl) (pu_move rfl (F.ev rfl)) rfl rfl ?_; clear F; intro φ F
      refine sq_callT (Z := (fun v x' => v = .tuple #[] ∧ x' = .own [p9, m9] (BagV p9 m9 []))) F M (wt0 rfl) rfl en12 (evc (F.ev rfl) evn) (i := 1) rfl (empty_any (sumC (L.take i.toNat)) p9 m9 _ (M.pv (i := 1) rfl)) rfl rfl ?_; clear F M; rintro φ ω _ _ ⟨rfl, rfl⟩ F M
      replace M : Mm [] w ω [.own [p10, m10] (BagV p10 m10 ([] : List Ct)), .own [p9, m9] (BagV p9 m9 ([] : List Ct)), .blk g1 32 #[.int .i64 x.1.e, .int .i64 x.1.r, .int .i64 x.2], .arg 3 a L.length (cC L)] := M
      refine nx ?_
      refine wp_seq ?_
      refine wp_seq ?_
      -- region 11
      refine wp_region_lit ?_
      refine sq_pure F (wt0 rfl) (pu_move rfl (F.ev rfl)) rfl rfl ?_; clear F; intro φ F
      refine sq_callN F M (wt0 rfl) rfl en16 (evc (F.ev rfl) evn) (all_any ([] : List Ct) p9 m9 _ (M.pv (i := 1) rfl) (by first | omega | (simp; done) | (simp; omega))) rfl rfl ?_; clear F M; intro φ ω v1 F M
      refine sq_pure F (wt0 rfl) (pu_len rfl (F.ev rfl) sl22 (M.rv (i := 0) rfl)) rfl rfl ?_; clear F; intro φ F
      refine sq_pure F (wt0 rfl) (pu_neqI rfl (F.ev rfl) (evk)) rfl rfl ?_; clear F; intro φ F
      rw [(show decide ((((([] : List Ct)).length : Nat) : Int) = 0) = true from by decide), show (!true) = false from rfl] at F
      refine sq_pure F (wt0 rfl) (pu_move rfl (F.ev rfl)) rfl rfl ?_; clear F; intro φ F
      refine sq_pure F (wt1 F rfl rfl rfl rfl rfl) (pu_move rfl (F.ev rfl)) rfl rfl ?_; clear F; intro φ F
      refine sq_call F M (wt1 F rfl rfl rfl rfl rfl) rfl en20 (evc (F.ev rfl) evn) (lacks_any ([] : List Ct) p9 m9 _ (M.pv (i := 2) rfl)) rfl rfl ?_; clear F M; intro φ ω F M
      rw [(show lackB ([] : List Ct) = false from rfl)] at F
      refine sq_pure F (wt0 rfl) (pu_pickf rfl (F.ev rfl) (F.ev rfl)) rfl rfl ?_; clear F; intro φ F
      refine sq_pure F (wt0 rfl) (pu_move rfl (F.ev rfl)) rfl rfl ?_; clear F; intro φ F
      refine sq_pure F (wt1 F rfl rfl rfl rfl rfl) (pu_move rfl (F.ev rfl)) rfl rfl ?_; clear F; intro φ F
      refine sq_pure F (wt1 F rfl rfl rfl rfl rfl) (pu_field rfl (F.ev rfl) fo32_0) rfl rfl ?_; clear F; intro φ F
      refine sq_rd F (wt1 F rfl rfl rfl rfl rfl) (ld_sub rfl (F.ev rfl) agg30 (M.rd (i := 3) rfl) rfl rfl) rfl rfl ?_; clear F; intro φ F
      refine sq_call F M (wt1 F rfl rfl rfl rfl rfl) rfl en22 (evc (F.ev rfl) (evc (F.ev rfl) evn)) (of_any ([] : List Ct) p9 m9 x.1 _ (M.pv (i := 2) rfl)) rfl rfl ?_; clear F M; intro φ ω F M
      refine sq_pure F (wt1 F rfl rfl rfl rfl rfl) (pu_neqI rfl (F.ev rfl) (evk)) rfl rfl ?_; clear F; intro φ F
      rw [(decide_eq_true (of_nil _) : decide (ofC ([] : List Ct) x.1 = 0) = true), show (!true) = false from rfl] at F
      refine sq_pure F (wt0 rfl) (pu_pickf rfl (F.ev rfl) (F.ev rfl)) rfl rfl ?_; clear F; intro φ F
      refine nx ?_
      refine wp_cond_false (F.ev rfl) ?_
      refine wp_skip ?_
      refine nxq ?_
      refine wp_seq ?_
      -- region 13
      refine wp_region_lit ?_
      refine sq_pure F (wt0 rfl) (pu_move rfl (F.ev rfl)) rfl rfl ?_; clear F; intro φ F
      refine sq_pure F (wt0 rfl) (pu_field rfl (F.ev rfl) fo32_0) rfl rfl ?_; clear F; intro φ F
      refine sq_rd F (wt0 rfl) (ld_sub rfl (F.ev rfl) agg30 (M.rd (i := 3) rfl) rfl rfl) rfl rfl ?_; clear F; intro φ F
      refine sq_pure F (wt0 rfl) (pu_field rfl (F.ev rfl) fo32_1) rfl rfl ?_; clear F; intro φ F
      refine sq_rd F (wt0 rfl) (ld_cell rfl (F.ev rfl) one3 (M.rd (i := 3) rfl) rfl) rfl rfl ?_; clear F; intro φ F
      refine sq_callT (Z := (fun v x' => v = .int .i64 (addE ([] : List Ct) x.1 x.2) ∧ x' = .own [p9, m9] (BagV p9 m9 (addC ([] : List Ct) x.1 x.2)))) F M (wt0 rfl) rfl en13 (evc (F.ev rfl) (evc (F.ev rfl) (evc (F.ev rfl) evn))) (i := 2) rfl (add_any ([] : List Ct) p9 m9 x.1 x.2 _ (M.pv (i := 2) rfl)) rfl rfl ?_; clear F M; rintro φ ω _ _ ⟨rfl, rfl⟩ F M
      have hl_p9_3_1 : (addC ([] : List Ct) x.1 x.2).length ≤ 1 := addC_len ([] : List Ct) x.1 x.2
      replace M : Mm [] w ω [.row 32 3 v1 ((([] : List Ct)).length) (cC (([] : List Ct))), .own [p10, m10] (BagV p10 m10 ([] : List Ct)), .own [p9, m9] (BagV p9 m9 (addC ([] : List Ct) x.1 x.2)), .blk g1 32 #[.int .i64 x.1.e, .int .i64 x.1.r, .int .i64 x.2], .arg 3 a L.length (cC L)] := M
      refine sq_pure F (wt0 rfl) (pu_assign rfl (F.ev rfl)) rfl rfl ?_; clear F; intro φ F
      refine nx ?_
      refine wp_seq ?_
      -- region 14
      refine wp_region_lit ?_
      refine sq_pure F (wt0 rfl) (pu_move rfl (F.ev rfl)) rfl rfl ?_; clear F; intro φ F
      refine sq_pure F (wt0 rfl) (pu_field rfl (F.ev rfl) fo32_0) rfl rfl ?_; clear F; intro φ F
      refine sq_rd F (wt0 rfl) (ld_sub rfl (F.ev rfl) agg30 (M.rd (i := 3) rfl) rfl rfl) rfl rfl ?_; clear F; intro φ F
      refine sq_pure F (wt0 rfl) (pu_field rfl (F.ev rfl) fo32_1) rfl rfl ?_; clear F; intro φ F
      refine sq_rd F (wt0 rfl) (ld_cell rfl (F.ev rfl) one3 (M.rd (i := 3) rfl) rfl) rfl rfl ?_; clear F; intro φ F
      refine sq_callT (Z := (fun v x' => v = .int .i64 (addE ([] : List Ct) x.1 x.2) ∧ x' = .own [p10, m10] (BagV p10 m10 (addC ([] : List Ct) x.1 x.2)))) F M (wt0 rfl) rfl en13 (evc (F.ev rfl) (evc (F.ev rfl) (evc (F.ev rfl) evn))) (i := 1) rfl (add_any ([] : List Ct) p10 m10 x.1 x.2 _ (M.pv (i := 1) rfl)) rfl rfl ?_; clear F M; rintro φ ω _ _ ⟨rfl, rfl⟩ F M
      have hl_p10_3_1 : (addC ([] : List Ct) x.1 x.2).length ≤ 1 := addC_len ([] : List Ct) x.1 x.2
      replace M : Mm [] w ω [.row 32 3 v1 ((([] : List Ct)).length) (cC (([] : List Ct))), .own [p10, m10] (BagV p10 m10 (addC ([] : List Ct) x.1 x.2)), .own [p9, m9] (BagV p9 m9 (addC ([] : List Ct) x.1 x.2)), .blk g1 32 #[.int .i64 x.1.e, .int .i64 x.1.r, .int .i64 x.2], .arg 3 a L.length (cC L)] := M
      refine sq_pure F (wt0 rfl) (pu_assign rfl (F.ev rfl)) rfl rfl ?_; clear F; intro φ F
      refine nx ?_
      refine wp_seq ?_
      -- region 15
      refine wp_region_lit ?_
      refine sq_pure F (wt0 rfl) (pu_move rfl (F.ev rfl)) rfl rfl ?_; clear F; intro φ F
      refine sq_callN F M (wt0 rfl) rfl en16 (evc (F.ev rfl) evn) (all_any (addC ([] : List Ct) x.1 x.2) p9 m9 _ (M.pv (i := 2) rfl) (by first | omega | (simp; done) | (simp; omega))) rfl rfl ?_; clear F M; intro φ ω v2 F M
      refine sq_pure F (wt0 rfl) (pu_move rfl (F.ev rfl)) rfl rfl ?_; clear F; intro φ F
      refine sq_callN F M (wt0 rfl) rfl en16 (evc (F.ev rfl) evn) (all_any (addC ([] : List Ct) x.1 x.2) p10 m10 _ (M.pv (i := 2) rfl) (by first | omega | (simp; done) | (simp; omega))) rfl rfl ?_; clear F M; intro φ ω v3 F M
      refine sq_call F M (wt0 rfl) rfl en15 (evc (F.ev rfl) (evc (F.ev rfl) evn)) (csame_any ((addC ([] : List Ct) x.1 x.2)) ((addC ([] : List Ct) x.1 x.2)) _ _ _ (M.rv (i := 1) rfl) (M.rv (i := 0) rfl) (by first | omega | (simp; done) | (simp; omega)) (by first | omega | (simp; done) | (simp; omega))) rfl rfl ?_; clear F M; intro φ ω F M
      rw [(show decide (((addC ([] : List Ct) x.1 x.2)) = ((addC ([] : List Ct) x.1 x.2))) = true by simp)] at F
      refine sq_pure F (wt0 rfl) (pu_assign rfl (F.ev rfl)) rfl rfl ?_; clear F; intro φ F
      refine nx ?_
      refine wp_seq ?_
      -- region 16
      refine wp_region_lit ?_
      refine sq_pure F (wt0 rfl) (pu_move rfl (F.ev rfl)) rfl rfl ?_; clear F; intro φ F
      refine sq_pure F (wt0 rfl) (pu_move rfl (F.ev rfl)) rfl rfl ?_; clear F; intro φ F
      refine sq_pure F (wt1 F rfl rfl rfl rfl rfl) (pu_move rfl (F.ev rfl)) rfl rfl ?_; clear F; intro φ F
      refine sq_pure F (wt1 F rfl rfl rfl rfl rfl) (pu_move rfl (F.ev rfl)) rfl rfl ?_; clear F; intro φ F
      refine sq_pure F (wt1 F rfl rfl rfl rfl rfl) (pu_eqlI rfl (F.ev rfl) (F.ev rfl)) rfl rfl ?_; clear F; intro φ F
      rw [(show decide (addE ([] : List Ct) x.1 x.2 = addE ([] : List Ct) x.1 x.2) = true by simp)] at F
      refine sq_pure F (wt0 rfl) (pu_pickt rfl (F.ev rfl) (F.ev rfl)) rfl rfl ?_; clear F; intro φ F
      refine sq_pure F (wt0 rfl) (pu_move rfl (F.ev rfl)) rfl rfl ?_; clear F; intro φ F
      refine sq_pure F (wt1 F rfl rfl rfl rfl rfl) (pu_move rfl (F.ev rfl)) rfl rfl ?_; clear F; intro φ F
      refine sq_pure F (wt0 rfl) (pu_pickt rfl (F.ev rfl) (F.ev rfl)) rfl rfl ?_; clear F; intro φ F
      refine sq_pure F (wt0 rfl) (pu_assign rfl (F.ev rfl)) rfl rfl ?_; clear F; intro φ F
      refine nx ?_
      refine wp_ret ?_
      refine rt_tmp F rfl rfl ?_
      exact ⟨rfl, M.bel⟩
    · rw [hs3] at F
      have hs3i := of_decide_eq_true hs3
      refine wp_cond_true (F.ev rfl) ?_
      refine wp_skip ?_
      refine nxq ?_
      refine wp_seq ?_
      refine wp_block ?_
      -- region 9
      refine rg_heads0 F M 11 [.val (.pointer (some ⟨p9, 0, none⟩)), .val (a), .val (.int .i64 i), .val (.pointer (some ⟨gof a, oof a + (i.toNat * 3), none⟩)), .val (.pointer (some ⟨gof a, oof a + (i.toNat * 3), none⟩)), .val (.agg #[.int .i64 ((atC L i.toNat).1.e), .int .i64 ((atC L i.toNat).1.r)]), .val (a), .val (.int .i64 i), .val (.pointer (some ⟨gof a, oof a + (i.toNat * 3), none⟩)), .val (.pointer (some ⟨gof a, oof a + (i.toNat * 3) + 2, none⟩)), .val (.int .i64 ((atC L i.toNat).2))] rfl mixedOK (by kernel_rfl) rfl rfl ⟨?_, ?_, ?_, ?_, ?_, ?_, ?_, ?_, ?_, ?_, ?_, trivial⟩ ?_
      · intro φ1 ω1 hb F1 hdep hold; have F := (F1.cons (F.was hold (s := 6) rfl rfl)); have M := M.below hb; exact ob_rd (wt0 rfl) (Pure.rdy (pu_move rfl (F.ev rfl))) rfl
      · intro φ1 ω1 hb F1 hdep hold; have F := (F1.cons (F.was hold (s := 0) rfl rfl)); have M := M.below hb; exact ob_rd (wt0 rfl) (Pure.rdy (pu_move rfl (F.ev rfl))) rfl
      · intro φ1 ω1 hb F1 hdep hold; have F := (F1.cons (F.was hold (s := 8) rfl rfl)); have M := M.below hb; exact ob_rd (wt0 rfl) (Pure.rdy (pu_move rfl (F.ev rfl))) rfl
      · intro φ1 ω1 hb F1 hdep hold; have F := ((F1.cons (F1.dep hdep 1 (by kernel_rfl) rfl rfl rfl)).cons (F1.dep hdep 2 (by kernel_rfl) rfl rfl rfl)); have M := M.below hb; exact ob_rd (wt0 rfl) (Pure.rdy (pu_ix rfl (F.ev rfl) (F.ev rfl) sl22 (M.av (i := 3) rfl) (by omega) (by omega))) rfl
      · intro φ1 ω1 hb F1 hdep hold; have F := (F1.cons (F1.dep hdep 3 (by kernel_rfl) rfl rfl rfl)); have M := M.below hb; exact ob_rd (wt0 rfl) (Pure.rdy (pu_field rfl (F.ev rfl) fo32_0)) rfl
      · intro φ1 ω1 hb F1 hdep hold; have F := (F1.cons (F1.dep hdep 4 (by kernel_rfl) rfl rfl rfl)); have M := M.below hb; exact ob_rd (wt0 rfl) (ld_elP (q := 0) (k := i.toNat * 3) rfl (F.ev rfl) agg30 (fun _ e => e ▸ (M.av (i := 3) rfl)) (by omega) (cC_at (by first | omega | (simp; done) | (simp; omega))) (by omega) rfl rfl) rfl
      · intro φ1 ω1 hb F1 hdep hold; have F := (F1.cons (F.was hold (s := 0) rfl rfl)); have M := M.below hb; exact ob_rd (wt0 rfl) (Pure.rdy (pu_move rfl (F.ev rfl))) rfl
      · intro φ1 ω1 hb F1 hdep hold; have F := (F1.cons (F.was hold (s := 8) rfl rfl)); have M := M.below hb; exact ob_rd (wt0 rfl) (Pure.rdy (pu_move rfl (F.ev rfl))) rfl
      · intro φ1 ω1 hb F1 hdep hold; have F := ((F1.cons (F1.dep hdep 6 (by kernel_rfl) rfl rfl rfl)).cons (F1.dep hdep 7 (by kernel_rfl) rfl rfl rfl)); have M := M.below hb; exact ob_rd (wt0 rfl) (Pure.rdy (pu_ix rfl (F.ev rfl) (F.ev rfl) sl22 (M.av (i := 3) rfl) (by omega) (by omega))) rfl
      · intro φ1 ω1 hb F1 hdep hold; have F := (F1.cons (F1.dep hdep 8 (by kernel_rfl) rfl rfl rfl)); have M := M.below hb; exact ob_rd (wt0 rfl) (Pure.rdy (pu_field rfl (F.ev rfl) fo32_1)) rfl
      · intro φ1 ω1 hb F1 hdep hold; have F := (F1.cons (F1.dep hdep 9 (by kernel_rfl) rfl rfl rfl)); have M := M.below hb; exact ob_rd (wt0 rfl) (ld_elP1 (q := 2) (k := i.toNat * 3) rfl (F.ev rfl) one3 (fun _ e => e ▸ (M.av (i := 3) rfl)) (by omega) (cC_at (by first | omega | (simp; done) | (simp; omega))) rfl) rfl
      clear F M; intro φ ω F M
      simp only [headL, List.take_succ_cons, List.take_zero, HV.value] at F
      refine sq_callT (Z := (fun v x' => v = .int .i64 (addE (sumC (L.take i.toNat)) ((atC L i.toNat).1) ((atC L i.toNat).2)) ∧ x' = .own [p9, m9] (BagV p9 m9 (addC (sumC (L.take i.toNat)) ((atC L i.toNat).1) ((atC L i.toNat).2))))) F M (wt0 rfl) rfl en13 (evc (F.ev rfl) (evc (F.ev rfl) (evc (F.ev rfl) evn))) (i := 1) rfl (add_any (sumC (L.take i.toNat)) p9 m9 ((atC L i.toNat).1) ((atC L i.toNat).2) _ (M.pv (i := 1) rfl)) rfl rfl ?_; clear F M; rintro φ ω _ _ ⟨rfl, rfl⟩ F M
      have hl_p9_3_3 := addC_len (sumC (L.take i.toNat)) ((atC L i.toNat).1) ((atC L i.toNat).2)
      replace M : Mm [] w ω [.own [p10, m10] (BagV p10 m10 ([] : List Ct)), .own [p9, m9] (BagV p9 m9 (addC (sumC (L.take i.toNat)) ((atC L i.toNat).1) ((atC L i.toNat).2))), .blk g1 32 #[.int .i64 x.1.e, .int .i64 x.1.r, .int .i64 x.2], .arg 3 a L.length (cC L)] := M
      refine wpList_nil ?_
      refine nxb ?_
      refine nxq ?_
      -- region 8
      refine wp_region_lit ?_
      refine sq_pure F (wt0 rfl) (pu_move rfl (F.ev rfl)) rfl rfl ?_; clear F; intro φ F
      refine sq_pure F (wt0 rfl) (pu_add rfl (F.ev rfl) (evk) (by omega) (by omega)) rfl rfl ?_; clear F; intro φ F
      refine sq_pure F (wt0 rfl) (pu_assign rfl (F.ev rfl)) rfl rfl ?_; clear F; intro φ F
      refine wpList_nil ?_
      exact ⟨i + 1, by omega, ((((((F.nil.cons (F.get (k := 8) rfl)).cons (F.get (k := 7) rfl)).cons (F.get (k := 6) rfl)).cons (F.get (k := 5) rfl)).cons (F.get (k := 3) rfl)).cons (F.get (k := 0) rfl)), (by rw [← sum_step (by omega) (by omega)]; exact M), by omega, by omega⟩
  · rw [hs1] at F
    have hs1i := of_decide_eq_true hs1
    refine wp_cond_true (F.ev rfl) ?_
    refine wp_seq ?_
    -- region 5
    refine wp_region_lit ?_
    refine sq_pure F (wt0 rfl) (pu_move rfl (F.ev rfl)) rfl rfl ?_; clear F; intro φ F
    refine sq_pure F (wt0 rfl) (pu_move rfl (F.ev rfl)) rfl rfl ?_; clear F; intro φ F
    refine sq_pure F (wt1 F rfl rfl rfl rfl rfl) (pu_move rfl (F.ev rfl)) rfl rfl ?_; clear F; intro φ F
    refine sq_pure F (wt1 F rfl rfl rfl rfl rfl) (pu_neqP rfl (F.ev rfl) (evk) Try.underlying24) rfl rfl ?_; clear F; intro φ F
    refine sq_pure F (wt0 rfl) (pu_pickt rfl (F.ev rfl) (F.ev rfl)) rfl rfl ?_; clear F; intro φ F
    refine sq_pure F (wt0 rfl) (pu_assign rfl (F.ev rfl)) rfl rfl ?_; clear F; intro φ F
    refine nx ?_
    refine wp_ret ?_
    refine nxr ?_
    refine rt_tmp F rfl rfl ?_
    exact ⟨rfl, M.bel⟩

end Go.Proofs.Ytplnpjhgnhndpaa
