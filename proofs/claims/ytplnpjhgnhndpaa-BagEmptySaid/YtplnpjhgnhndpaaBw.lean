/- Package bag, and its reference. Made by walks/bag.py. -/
import Derived.Test.YtplnpjhgnhndpaaBh
import Derived.Test.YtplnpjhgnhndpaaAn
import Derived.Test.YtplnpjhgnhndpaaRr
import Derived.Test.YtplnpjhgnhndpaaRk
namespace Go.Proofs.Ytplnpjhgnhndpaa
open Go.RowKit

set_option maxHeartbeats 1000000 in
theorem new_any (w : World) :
    Calls Try.prog 11 #[] w (MakesE w (fun v x => ∃ p g, v = .pointer (some ⟨p, 0, none⟩) ∧ x = .own [p, g] (BagV p g []))) := by
  refine enterF Try.func11 rfl 4 Try.ntmps11 [] rfl [] rfl ?_
  intro φ F
  have M := Mm.start [] w
  refine wp_seq ?_
  -- region 0
  refine wp_region_lit ?_
  refine sq_pure F (wt0 rfl) (pu_assign rfl (evk)) rfl rfl ?_; clear F; intro φ F
  refine nx ?_
  refine wp_seq ?_
  -- region 1
  refine wp_region_lit ?_
  refine sq_mkMap F M (wt0 rfl) rfl rfl rfl ?_; clear F M; intro φ ω g1 F M
  replace M : Mm [] w ω [.own [g1] (MpV g1 (encM stV iV []))] := M
  refine sq_pure F (wt0 rfl) (bu52_0 rfl (F.ev rfl) rfl) rfl rfl ?_; clear F; intro φ F
  refine sq_box F M (wt0 rfl) rfl (F.ev rfl) (cs := #[.map (some g1)]) rfl rfl rfl ?_; clear F M; intro φ ω g2 F M
  refine sq_pure F (wt0 rfl) (pu_assign rfl (F.ev rfl)) rfl rfl ?_; clear F; intro φ F
  refine nx ?_
  refine wp_ret ?_
  refine rt_tmp F rfl rfl ?_
  exact new_post M.bel (M.at (i := 0) rfl) (M.pv (i := 1) rfl) (M.new1 (i := 0) rfl _ (by simp [Ent.fp])) (M.new1 (i := 1) rfl _ (by simp [Ent.fp]))

set_option maxHeartbeats 1000000 in
theorem add_any (C : List Ct) (p g : Nat) (t : St) (n : Int) (w : World) (hb : BagV p g C w) :
    Calls Try.prog 13 #[.pointer (some ⟨p, 0, none⟩), .agg #[.int .i64 t.e, .int .i64 t.r], .int .i64 n] w (TurnsE w (.own [p, g] (BagV p g C)) (fun v x' => v = .int .i64 (addE C t n) ∧ x' = .own [p, g] (BagV p g (addC C t n)))) := by
  have hne := BagV.ne hb
  obtain ⟨hp, hm, hok⟩ := hb
  have hbo := hok.bound t
  refine enterF Try.func13 rfl 44 Try.ntmps13 [.pointer (some ⟨p, 0, none⟩), .agg #[.int .i64 t.e, .int .i64 t.r], .int .i64 n] rfl [(0, .pointer (some ⟨p, 0, none⟩)), (1, .agg #[.int .i64 t.e, .int .i64 t.r]), (2, .int .i64 n)] rfl ?_
  intro φ F
  have M := Mm.start [p, g] w
  replace M := M.addR (x := .own [g] (MpV g (encM stV iV C))) ⟨hm, (MpV.loc _ _)⟩ (by simp [Ent.fp]) rfl (by simp [Ent.fp] <;> omega)
  replace M := M.addX (hp) (by simp) (by simp [Ent.fp] <;> omega)
  refine wp_seq ?_
  -- region 0
  refine wp_region_lit ?_
  refine sq_box F M (wt0 rfl) rfl (F.ev rfl) (cs := #[.int .i64 t.e, .int .i64 t.r]) rfl rfl rfl ?_; clear F M; intro φ ω g1 F M
  refine sq_pure F (wt0 rfl) (pu_assign rfl (evk)) rfl rfl ?_; clear F; intro φ F
  refine nx ?_
  refine wp_seq ?_
  refine wp_seq ?_
  -- region 1
  refine wp_region_lit ?_
  refine sq_rd F (wt0 rfl) (ld_agg rfl (F.ev rfl) agg30 (M.rd (i := 0) rfl) rfl) rfl rfl ?_; clear F; intro φ F
  refine sq_call F M (wt0 rfl) rfl en27 (evc (F.ev rfl) evn) (right_any t _) rfl rfl ?_; clear F M; intro φ ω F M
  cases hs1 : t.rightB
  · rw [hs1] at F
    refine sq_pure F (wt0 rfl) (pu_not rfl (F.ev rfl)) rfl rfl ?_; clear F; intro φ F
    rw [show (!false) = true from rfl] at F
    refine nx ?_
    refine wp_cond_true (F.ev rfl) ?_
    refine wp_seq ?_
    -- region 2
    refine wp_region_lit ?_
    refine sq_pure F (wt0 rfl) (pu_assign rfl (evk)) rfl rfl ?_; clear F; intro φ F
    refine nx ?_
    refine wp_ret ?_
    refine nxr ?_
    refine rt_tmp F rfl rfl ?_
    have z := addE_wrong (C := C) (n := n) hs1
    exact bag_post M.out (M.at (i := 1) rfl) (M.pv (i := 2) rfl) hok z (addC_no (by rw [z]; decide)).symm
  · rw [hs1] at F
    refine sq_pure F (wt0 rfl) (pu_not rfl (F.ev rfl)) rfl rfl ?_; clear F; intro φ F
    rw [show (!true) = false from rfl] at F
    refine nx ?_
    refine wp_cond_false (F.ev rfl) ?_
    refine wp_skip ?_
    refine nxq ?_
    refine wp_seq ?_
    -- region 3
    refine rg_quiet M mixedOK (by kernel_rfl) ?_
    refine qt_pure F (wt0 rfl) (pu_move rfl (F.ev rfl)) rfl rfl ?_; clear F; intro φ F
    refine qt_pure F (wt0 rfl) (pu_nilCheck rfl (F.ev rfl)) rfl rfl ?_; clear F; intro φ F
    refine qt_pure F (wt0 rfl) (pu_field rfl (F.ev rfl) fo52_0) rfl rfl ?_; clear F; intro φ F
    refine qt_rd F (wt0 rfl) (ld_cell rfl (F.ev rfl) one50 (M.rdB (i := 1) rfl) rfl) rfl rfl ?_; clear F; intro φ F
    refine qt_rd F (wt0 rfl) (ld_agg rfl (F.ev rfl) agg30 (M.rdB (i := 0) rfl) rfl) rfl rfl ?_; clear F; intro φ F
    refine qt_rd F (wt0 rfl) (ld_look (kx := t) mtBag rfl (F.ev rfl) (F.ev rfl) (fun w_ h_ => (M.pvB (i := 2) rfl w_ h_)) (of_elim _ _)) rfl rfl ?_; clear F; intro φ F
    refine qt_pure F (wt0 rfl) (pu_assign rfl (F.ev rfl)) rfl rfl ?_; clear F; intro φ F
    refine wpQuiet_nil ?_
    clear M; intro ω M
    refine nxq ?_
    refine wp_seq ?_
    refine wp_seq ?_
    -- region 4
    refine wp_region_lit ?_
    refine sq_pure F (wt0 rfl) (pu_move rfl (F.ev rfl)) rfl rfl ?_; clear F; intro φ F
    refine sq_pure F (wt0 rfl) (pu_move rfl (F.ev rfl)) rfl rfl ?_; clear F; intro φ F
    refine sq_pure F (wt0 rfl) (pu_sub rfl (evk) (F.ev rfl) (by omega) (by omega)) rfl rfl ?_; clear F; intro φ F
    refine sq_pure F (wt0 rfl) (pu_gtr rfl (F.ev rfl) (F.ev rfl)) rfl rfl ?_; clear F; intro φ F
    refine sq_pure F (wt0 rfl) (pu_move rfl (F.ev rfl)) rfl rfl ?_; clear F; intro φ F
    cases hs2 : (decide (1000000000 - (ofC C t) < n))
    · rw [hs2] at F
      have hs2i := of_decide_eq_false hs2
      refine sq_pure F (wt1 F rfl rfl rfl rfl rfl) (pu_move rfl (F.ev rfl)) rfl rfl ?_; clear F; intro φ F
      refine sq_pure F (wt1 F rfl rfl rfl rfl rfl) (pu_move rfl (F.ev rfl)) rfl rfl ?_; clear F; intro φ F
      refine sq_pure F (wt1 F rfl rfl rfl rfl rfl) (pu_sub rfl (evk) (F.ev rfl) (by omega) (by omega)) rfl rfl ?_; clear F; intro φ F
      refine sq_pure F (wt1 F rfl rfl rfl rfl rfl) (pu_lss rfl (F.ev rfl) (F.ev rfl)) rfl rfl ?_; clear F; intro φ F
      refine sq_pure F (wt0 rfl) (pu_pickf rfl (F.ev rfl) (F.ev rfl)) rfl rfl ?_; clear F; intro φ F
      refine nx ?_
      cases hs3 : (decide (n < -1000000000 - (ofC C t)))
      · rw [hs3] at F
        have hs3i := of_decide_eq_false hs3
        refine wp_cond_false (F.ev rfl) ?_
        refine wp_skip ?_
        refine nxq ?_
        refine wp_seq ?_
        refine wp_seq ?_
        -- region 6
        refine wp_region_lit ?_
        refine sq_pure F (wt0 rfl) (pu_move rfl (F.ev rfl)) rfl rfl ?_; clear F; intro φ F
        refine sq_pure F (wt0 rfl) (pu_move rfl (F.ev rfl)) rfl rfl ?_; clear F; intro φ F
        refine sq_pure F (wt0 rfl) (pu_add rfl (F.ev rfl) (F.ev rfl) (by omega) (by omega)) rfl rfl ?_; clear F; intro φ F
        refine sq_pure F (wt0 rfl) (pu_eqlI rfl (F.ev rfl) (evk)) rfl rfl ?_; clear F; intro φ F
        refine nx ?_
        cases hs4 : (decide (ofC C t + n = 0))
        · rw [hs4] at F
          have hs4i := of_decide_eq_false hs4
          refine wp_cond_false (F.ev rfl) ?_
          refine wp_skip ?_
          refine nxq ?_
          refine wp_seq ?_
          -- region 9
          refine rg_heads0 F M 8 [.val (.pointer (some ⟨p, 0, none⟩)), .val (.pointer (some ⟨p, 0, none⟩)), .val (.pointer (some ⟨p, 0, none⟩)), .val (.map (some g)), .val (.agg #[.int .i64 t.e, .int .i64 t.r]), .val (.int .i64 (ofC C t)), .val (.int .i64 n), .val (.int .i64 (ofC C t + n))] rfl mixedOK (by kernel_rfl) rfl rfl ⟨?_, ?_, ?_, ?_, ?_, ?_, ?_, ?_, trivial⟩ ?_
          · intro φ1 ω1 hb F1 hdep hold; have F := (F1.cons (F.was hold (s := 0) rfl rfl)); have M := M.below hb; exact ob_rd (wt0 rfl) (Pure.rdy (pu_move rfl (F.ev rfl))) rfl
          · intro φ1 ω1 hb F1 hdep hold; have F := (F1.cons (F1.dep hdep 0 (by kernel_rfl) rfl rfl rfl)); have M := M.below hb; exact ob_rd (wt0 rfl) (Pure.rdy (pu_nilCheck rfl (F.ev rfl))) rfl
          · intro φ1 ω1 hb F1 hdep hold; have F := (F1.cons (F1.dep hdep 1 (by kernel_rfl) rfl rfl rfl)); have M := M.below hb; exact ob_rd (wt0 rfl) (Pure.rdy (pu_field rfl (F.ev rfl) fo52_0)) rfl
          · intro φ1 ω1 hb F1 hdep hold; have F := (F1.cons (F1.dep hdep 2 (by kernel_rfl) rfl rfl rfl)); have M := M.below hb; exact ob_rd (wt0 rfl) (ld_cell rfl (F.ev rfl) one50 (M.rd (i := 1) rfl) rfl) rfl
          · intro φ1 ω1 hb F1 hdep hold; have F := (F1.cons (F.was hold (s := 4) rfl rfl)); have M := M.below hb; exact ob_rd (wt0 rfl) (ld_agg rfl (F.ev rfl) agg30 (M.rd (i := 0) rfl) rfl) rfl
          · intro φ1 ω1 hb F1 hdep hold; have F := (F1.cons (F.was hold (s := 7) rfl rfl)); have M := M.below hb; exact ob_rd (wt0 rfl) (Pure.rdy (pu_move rfl (F.ev rfl))) rfl
          · intro φ1 ω1 hb F1 hdep hold; have F := (F1.cons (F.was hold (s := 2) rfl rfl)); have M := M.below hb; exact ob_rd (wt0 rfl) (Pure.rdy (pu_move rfl (F.ev rfl))) rfl
          · intro φ1 ω1 hb F1 hdep hold; have F := ((F1.cons (F1.dep hdep 5 (by kernel_rfl) rfl rfl rfl)).cons (F1.dep hdep 6 (by kernel_rfl) rfl rfl rfl)); have M := M.below hb; exact ob_rd (wt0 rfl) (Pure.rdy (pu_add rfl (F.ev rfl) (F.ev rfl) (by omega) (by omega))) rfl
          clear F M; intro φ ω F M
          simp only [headL, List.take_succ_cons, List.take_zero, HV.value] at F
          refine sq_mapUpd (kx := t) (vx := (ofC C t + n)) (C' := (setC C t (ofC C t + n))) mtBag F M (wt0 rfl) rfl (F.ev rfl) (F.ev rfl) (F.ev rfl) (i := 2) rfl (put_setC hok.asc (by omega)) rfl ?_; clear M; intro ω M
          replace M : Mm [p, g] w ω [.blk g1 30 #[.int .i64 t.e, .int .i64 t.r], .blk p 52 #[.map (some g)], .own [g] (MpV g (encM stV iV (setC C t (ofC C t + n))))] := M
          refine nx ?_
          refine wp_seq ?_
          -- region 10
          refine wp_region_lit ?_
          refine sq_pure F (wt0 rfl) (pu_assign rfl (evk)) rfl rfl ?_; clear F; intro φ F
          refine nx ?_
          refine wp_ret ?_
          refine rt_tmp F rfl rfl ?_
          have z := addE_ok (C := C) (n := n) hs1 (by omega)
          exact bag_post M.out (M.at (i := 1) rfl) (M.pv (i := 2) rfl) hok z (addC_yes z).symm
        · rw [hs4] at F
          have hs4i := of_decide_eq_true hs4
          refine wp_cond_true (F.ev rfl) ?_
          refine wp_seq ?_
          -- region 7
          refine rg_heads0 F M 5 [.val (.pointer (some ⟨p, 0, none⟩)), .val (.pointer (some ⟨p, 0, none⟩)), .val (.pointer (some ⟨p, 0, none⟩)), .val (.map (some g)), .val (.agg #[.int .i64 t.e, .int .i64 t.r])] rfl mixedOK (by kernel_rfl) rfl rfl ⟨?_, ?_, ?_, ?_, ?_, trivial⟩ ?_
          · intro φ1 ω1 hb F1 hdep hold; have F := (F1.cons (F.was hold (s := 0) rfl rfl)); have M := M.below hb; exact ob_rd (wt0 rfl) (Pure.rdy (pu_move rfl (F.ev rfl))) rfl
          · intro φ1 ω1 hb F1 hdep hold; have F := (F1.cons (F1.dep hdep 0 (by kernel_rfl) rfl rfl rfl)); have M := M.below hb; exact ob_rd (wt0 rfl) (Pure.rdy (pu_nilCheck rfl (F.ev rfl))) rfl
          · intro φ1 ω1 hb F1 hdep hold; have F := (F1.cons (F1.dep hdep 1 (by kernel_rfl) rfl rfl rfl)); have M := M.below hb; exact ob_rd (wt0 rfl) (Pure.rdy (pu_field rfl (F.ev rfl) fo52_0)) rfl
          · intro φ1 ω1 hb F1 hdep hold; have F := (F1.cons (F1.dep hdep 2 (by kernel_rfl) rfl rfl rfl)); have M := M.below hb; exact ob_rd (wt0 rfl) (ld_cell rfl (F.ev rfl) one50 (M.rd (i := 1) rfl) rfl) rfl
          · intro φ1 ω1 hb F1 hdep hold; have F := (F1.cons (F.was hold (s := 4) rfl rfl)); have M := M.below hb; exact ob_rd (wt0 rfl) (ld_agg rfl (F.ev rfl) agg30 (M.rd (i := 0) rfl) rfl) rfl
          clear F M; intro φ ω F M
          simp only [headL, List.take_succ_cons, List.take_zero, HV.value] at F
          refine sq_delete (kx := t) (C' := (setC C t 0)) mtBag F M (wt0 rfl) rfl (F.ev rfl) (F.ev rfl) (i := 2) rfl (by rw [del_setC hok.asc]) rfl ?_; clear M; intro ω M
          replace M : Mm [p, g] w ω [.blk g1 30 #[.int .i64 t.e, .int .i64 t.r], .blk p 52 #[.map (some g)], .own [g] (MpV g (encM stV iV (setC C t 0)))] := M
          refine nx ?_
          refine wp_seq ?_
          -- region 8
          refine wp_region_lit ?_
          refine sq_pure F (wt0 rfl) (pu_assign rfl (evk)) rfl rfl ?_; clear F; intro φ F
          refine nx ?_
          refine wp_ret ?_
          refine nxr ?_
          refine rt_tmp F rfl rfl ?_
          have z := addE_ok (C := C) (n := n) hs1 (by omega)
          exact bag_post M.out (M.at (i := 1) rfl) (M.pv (i := 2) rfl) hok z (by rw [addC_yes z, show ofC C t + n = 0 by omega])
      · rw [hs3] at F
        have hs3i := of_decide_eq_true hs3
        refine wp_cond_true (F.ev rfl) ?_
        refine wp_seq ?_
        -- region 5
        refine wp_region_lit ?_
        refine sq_pure F (wt0 rfl) (pu_assign rfl (evk)) rfl rfl ?_; clear F; intro φ F
        refine nx ?_
        refine wp_ret ?_
        refine nxr ?_
        refine rt_tmp F rfl rfl ?_
        have z := addE_over (C := C) (n := n) hs1 (by omega)
        exact bag_post M.out (M.at (i := 1) rfl) (M.pv (i := 2) rfl) hok z (addC_no (by rw [z]; decide)).symm
    · rw [hs2] at F
      have hs2i := of_decide_eq_true hs2
      refine sq_skip F (wtn F rfl rfl rfl rfl rfl) rfl rfl ?_; clear F; intro φ F
      refine sq_skip F (wtn F rfl rfl rfl rfl rfl) rfl rfl ?_; clear F; intro φ F
      refine sq_skip F (wtn F rfl rfl rfl rfl rfl) rfl rfl ?_; clear F; intro φ F
      refine sq_skip F (wtn F rfl rfl rfl rfl rfl) rfl rfl ?_; clear F; intro φ F
      refine sq_pure F (wt0 rfl) (pu_pickt rfl (F.ev rfl) (evk)) rfl rfl ?_; clear F; intro φ F
      refine nx ?_
      refine wp_cond_true (F.ev rfl) ?_
      refine wp_seq ?_
      -- region 5
      refine wp_region_lit ?_
      refine sq_pure F (wt0 rfl) (pu_assign rfl (evk)) rfl rfl ?_; clear F; intro φ F
      refine nx ?_
      refine wp_ret ?_
      refine nxr ?_
      refine rt_tmp F rfl rfl ?_
      have z := addE_over (C := C) (n := n) hs1 (by omega)
      exact bag_post M.out (M.at (i := 1) rfl) (M.pv (i := 2) rfl) hok z (addC_no (by rw [z]; decide)).symm

set_option maxHeartbeats 1000000 in
theorem empty_any (C : List Ct) (p g : Nat) (w : World) (hb : BagV p g C w) :
    Calls Try.prog 12 #[.pointer (some ⟨p, 0, none⟩)] w (TurnsE w (.own [p, g] (BagV p g C)) (fun v x' => v = .tuple #[] ∧ x' = .own [p, g] (BagV p g []))) := by
  have hne := BagV.ne hb
  obtain ⟨hp, hm, hok⟩ := hb
  refine enterF Try.func12 rfl 6 Try.ntmps12 [.pointer (some ⟨p, 0, none⟩)] rfl [(0, .pointer (some ⟨p, 0, none⟩))] rfl ?_
  intro φ F
  have M := Mm.start [p, g] w
  replace M := M.addR (x := .own [g] (MpV g (encM stV iV C))) ⟨hm, (MpV.loc _ _)⟩ (by simp [Ent.fp]) rfl (by simp [Ent.fp] <;> omega)
  replace M := M.addX (hp) (by simp) (by simp [Ent.fp] <;> omega)
  -- region 0
  refine wp_region_lit ?_
  refine sq_pure F (wt0 rfl) (pu_move rfl (F.ev rfl)) rfl rfl ?_; clear F; intro φ F
  refine sq_pure F (wt0 rfl) (pu_nilCheck rfl (F.ev rfl)) rfl rfl ?_; clear F; intro φ F
  refine sq_pure F (wt0 rfl) (pu_field rfl (F.ev rfl) fo52_0) rfl rfl ?_; clear F; intro φ F
  refine sq_rd F (wt0 rfl) (ld_cell rfl (F.ev rfl) one50 (M.rd (i := 0) rfl) rfl) rfl rfl ?_; clear F; intro φ F
  refine sq_clearM mtBag.ty F M (wt0 rfl) rfl (F.ev rfl) (i := 1) rfl rfl ?_; clear M; intro ω M
  replace M : Mm [p, g] w ω [.blk p 52 #[.map (some g)], .own [g] (MpV g (encM stV iV []))] := M
  refine wpList_nil ?_
  refine rt_end F rfl ?_
  exact empty_post M.out (M.at (i := 0) rfl) (M.pv (i := 1) rfl)

set_option maxHeartbeats 1000000 in
theorem of_any (C : List Ct) (p g : Nat) (t : St) (w : World) (hb : BagV p g C w) :
    Calls Try.prog 22 #[.pointer (some ⟨p, 0, none⟩), .agg #[.int .i64 t.e, .int .i64 t.r]] w (fun e w' => e = .returned ((.int .i64 (ofC C t))) ∧ Below w.heap.size w w') := by
  obtain ⟨hp, hm, hok⟩ := hb
  refine enterF Try.func22 rfl 11 Try.ntmps22 [.pointer (some ⟨p, 0, none⟩), .agg #[.int .i64 t.e, .int .i64 t.r]] rfl [(0, .pointer (some ⟨p, 0, none⟩)), (1, .agg #[.int .i64 t.e, .int .i64 t.r])] rfl ?_
  intro φ F
  have M := Mm.start [] w
  replace M := M.addExt (fp := [g]) (Φ := MpV g (encM stV iV C)) (hm) (MpV.loc _ _) (by simp)
  refine wp_seq ?_
  -- region 0
  refine wp_region_lit ?_
  refine sq_box F M (wt0 rfl) rfl (F.ev rfl) (cs := #[.int .i64 t.e, .int .i64 t.r]) rfl rfl rfl ?_; clear F M; intro φ ω g1 F M
  refine sq_pure F (wt0 rfl) (pu_assign rfl (evk)) rfl rfl ?_; clear F; intro φ F
  refine nx ?_
  refine wp_seq ?_
  -- region 1
  refine rg_quiet M mixedOK (by kernel_rfl) ?_
  refine qt_pure F (wt0 rfl) (pu_move rfl (F.ev rfl)) rfl rfl ?_; clear F; intro φ F
  refine qt_pure F (wt0 rfl) (pu_nilCheck rfl (F.ev rfl)) rfl rfl ?_; clear F; intro φ F
  refine qt_pure F (wt0 rfl) (pu_field rfl (F.ev rfl) fo52_0) rfl rfl ?_; clear F; intro φ F
  refine qt_rd F (wt0 rfl) (ld_cell rfl (F.ev rfl) one50 (fun _ h => (M.out.blk hp (by simp)).below h (M.out.blk hp (by simp)).lt) rfl) rfl rfl ?_; clear F; intro φ F
  refine qt_rd F (wt0 rfl) (ld_agg rfl (F.ev rfl) agg30 (M.rdB (i := 0) rfl) rfl) rfl rfl ?_; clear F; intro φ F
  refine qt_rd F (wt0 rfl) (ld_look (kx := t) mtBag rfl (F.ev rfl) (F.ev rfl) (fun w_ h_ => (M.xvB (i := 1) rfl w_ h_)) (of_elim _ _)) rfl rfl ?_; clear F; intro φ F
  refine qt_pure F (wt0 rfl) (pu_assign rfl (F.ev rfl)) rfl rfl ?_; clear F; intro φ F
  refine wpQuiet_nil ?_
  clear M; intro ω M
  refine nxq ?_
  refine wp_ret ?_
  refine rt_tmp F rfl rfl ?_
  exact ⟨rfl, M.bel⟩

set_option maxHeartbeats 1000000 in
theorem all_any (C : List Ct) (p g : Nat) (w : World) (hb : BagV p g C w) (hlen : C.length ≤ 1000000) :
    Calls Try.prog 16 #[.pointer (some ⟨p, 0, none⟩)] w (fun e w' => ∃ v, e = .returned v ∧ Below w.heap.size w w' ∧ w'.ownsRow w.heap.size 32 3 v C.length (cC C)) := by
  obtain ⟨hp, ⟨es, ck, hg, hi⟩, hok⟩ := hb
  refine enterF Try.func16 rfl 41 Try.ntmps16 [.pointer (some ⟨p, 0, none⟩)] rfl [(0, .pointer (some ⟨p, 0, none⟩))] rfl ?_
  intro φ F
  have M := Mm.start [] w
  replace M := M.addExt (fp := [g]) (Φ := ObV g (.map es ck)) (hg) (ObV.loc _ _) (by simp)
  refine wp_seq ?_
  -- region 0
  refine wp_region_lit ?_
  refine sq_pure F (wt0 rfl) (pu_assign rfl (evk)) rfl rfl ?_; clear F; intro φ F
  refine nx ?_
  refine wp_seq ?_
  -- region 1
  refine wp_region_lit ?_
  refine sq_pure F (wt0 rfl) (pu_assign rfl (evk)) rfl rfl ?_; clear F; intro φ F
  refine nx ?_
  refine wp_seq ?_
  refine wp_seq ?_
  -- region 2
  refine wp_region_lit ?_
  refine sq_pure F (wt0 rfl) (pu_move rfl (F.ev rfl)) rfl rfl ?_; clear F; intro φ F
  refine sq_pure F (wt0 rfl) (pu_nilCheck rfl (F.ev rfl)) rfl rfl ?_; clear F; intro φ F
  refine sq_pure F (wt0 rfl) (pu_field rfl (F.ev rfl) fo52_0) rfl rfl ?_; clear F; intro φ F
  refine sq_rd F (wt0 rfl) (ld_cell rfl (F.ev rfl) one50 (fun _ e => e ▸ M.out.blk hp (by simp)) rfl) rfl rfl ?_; clear F; intro φ F
  refine sq_range mtBag.ty F M (wt0 rfl) rfl (F.ev rfl) ((M.xv (i := 0) rfl)) hi rfl rfl ?_; clear F M; intro φ ω g1 g1ne F M
  replace M : Mm [] w ω [.own [g1] (ItV g1 g es ck (encM stV iV C)), .ext [g] (ObV g (.map es ck))] := M
  refine nx ?_
  refine wp_block ?_
  refine lp (σ := List Ct) (fun Rs φ' w' => ∃ vq : Value, ∃ K : List St, Fr φ' 41 [(0, .pointer (some ⟨p, 0, none⟩)), (12, .pointer (some ⟨g1, 0, none⟩)), (3, vq)] ∧ Mm [] w w' [.row 30 2 vq K.length (cS K), .own [g1] (ItV g1 g es ck (encM stV iV Rs)), .ext [g] (ObV g (.map es ck))] ∧ (KInv C Rs K) ∧ (K.length + Rs.length = C.length)) (fun Rs => Rs.length) (C) ⟨(.slice none 0 0), [], (((F.nil.cons (F.get (k := 3) rfl)).cons (F.get (k := 12) rfl)).cons (F.get (k := 0) rfl)), (M.nilRow 30 2), KInv.start C, by simp⟩ ?_
  clear F M
  rintro Rs φ ω ⟨vq, K, F, M, hp1_0, hp1_1⟩
  refine wp_seq ?_
  -- region 3
  refine wp_region_lit ?_
  refine sq_next (ek := stV) (ev := iV) (Rs := Rs) F M (wt0 rfl) rfl rfl (F.ev rfl) ((M.xv (i := 2) rfl)) (i := 1) rfl (by assumption) rfl rfl ?_ ?_
  · clear F; intro q1z φ F
    refine sq_pure F (wt0 rfl) (pu_extract rfl (F.ev rfl) rfl) rfl rfl ?_; clear F; intro φ F
    refine nx ?_
    refine wp_seq ?_
    refine wp_cond_false (F.ev rfl) ?_
    refine wp_exit ?_
    refine nxe ?_
    refine nxe ?_
    refine nxm ?_
    refine nxq ?_
    refine wp_seq ?_
    -- region 6
    refine wp_region_lit ?_
    refine sq_pure F (wt0 rfl) (pu_assign rfl (evk)) rfl rfl ?_; clear F; intro φ F
    refine nx ?_
    refine wp_seq ?_
    refine wp_seq ?_
    -- region 7
    refine wp_region_lit ?_
    refine sq_pure F (wt0 rfl) (pu_move rfl (F.ev rfl)) rfl rfl ?_; clear F; intro φ F
    refine sq_callN F M (wt0 rfl) rfl en28 (evc (F.ev rfl) evn) (row_any K _ _ (M.rv (i := 0) rfl) (by first | omega | (simp; done) | (simp; omega))) rfl rfl ?_; clear F M; intro φ ω v2 F M
    have he := hp1_0.fin hok q1z
    rw [he] at M
    replace M : Mm [] w ω [.row 30 2 v2 ((C.map (·.1)).length) (cS (C.map (·.1))), .row 30 2 vq K.length (cS K), .own [g1] (ItV g1 g es ck (encM stV iV Rs)), .ext [g] (ObV g (.map es ck))] := M
    have hl9 : (C.map (·.1)).length = C.length := List.length_map _
    refine sq_pure F (wt0 rfl) (pu_len rfl (F.ev rfl) sl38 (M.rv (i := 0) rfl)) rfl rfl ?_; clear F; intro φ F
    refine sq_pure F (wt0 rfl) (pu_move rfl (evk)) rfl rfl ?_; clear F; intro φ F
    refine nx ?_
    refine wp_block ?_
    refine lp (σ := Int) (fun i φ' w' => ∃ vr : Value, Fr φ' 41 [(0, .pointer (some ⟨p, 0, none⟩)), (22, v2), (23, .int .i64 (((C.map (·.1)).length : Nat) : Int)), (5, vr), (24, .int .i64 i)] ∧ Mm [] w w' [.row 32 3 vr ((allC C i.toNat).length) (cC (allC C i.toNat)), .row 30 2 v2 ((C.map (·.1)).length) (cS (C.map (·.1))), .ext [g] (ObV g (.map es ck))] ∧ (0 ≤ i) ∧ (i ≤ ((C.map (·.1)).length : Int)) ∧ ((allC C i.toNat).length ≤ 1000000)) (fun i => (((C.map (·.1)).length : Int) - i).toNat) (0) ⟨(.slice none 0 0), (((((F.nil.cons (F.get (k := 24) rfl)).cons (F.get (k := 5) rfl)).cons (F.get (k := 23) rfl)).cons (F.get (k := 22) rfl)).cons (F.get (k := 0) rfl)), (by have z := (M.sub (List.Sublist.refl _)).nilRow 32 3; exact z.sub (.cons_cons _ (.cons_cons _ (.cons _ (.cons _ (.cons_cons _ (.slnil))))))), Int.le_refl _, by omega, by simp [allC]⟩ ?_
    clear F M
    rintro i φ ω ⟨vr, F, M, hp2_0, hp2_1, hp2_2⟩
    refine wp_seq ?_
    -- region 8
    refine wp_region_lit ?_
    refine sq_pure F (wt0 rfl) (pu_lss rfl (F.ev rfl) (F.ev rfl)) rfl rfl ?_; clear F; intro φ F
    refine nx ?_
    refine wp_seq ?_
    cases hs3 : (decide (i < (((C.map (·.1)).length : Nat) : Int)))
    · rw [hs3] at F
      have hs3i := of_decide_eq_false hs3
      refine wp_cond_false (F.ev rfl) ?_
      refine wp_exit ?_
      refine nxe ?_
      refine nxe ?_
      refine nxm ?_
      refine nxq ?_
      refine wp_seq ?_
      -- region 12
      refine wp_region_lit ?_
      refine sq_pure F (wt0 rfl) (pu_move rfl (F.ev rfl)) rfl rfl ?_; clear F; intro φ F
      refine sq_pure F (wt0 rfl) (pu_assign rfl (F.ev rfl)) rfl rfl ?_; clear F; intro φ F
      refine nx ?_
      refine wp_ret ?_
      refine rt_tmp F rfl rfl ?_
      have zz := M.owB (i := 0) rfl
      rw [all_end hok (by omega)] at zz
      exact ⟨_, rfl, M.bel, zz⟩
    · rw [hs3] at F
      have hs3i := of_decide_eq_true hs3
      refine wp_cond_true (F.ev rfl) ?_
      refine wp_skip ?_
      refine nxq ?_
      refine wp_seq ?_
      refine wp_block ?_
      refine wp_seq ?_
      -- region 9
      refine wp_region_lit ?_
      refine sq_pure F (wt0 rfl) (pu_ix rfl (F.ev rfl) (F.ev rfl) sl38 (M.rv (i := 1) rfl) (by omega) (by omega)) rfl rfl ?_; clear F; intro φ F
      refine sq_rd F (wt0 rfl) (ld_el rfl (F.ev rfl) agg30 (fun _ e => e ▸ (M.rv (i := 1) rfl)) (by omega) (cS_at (by first | omega | (simp; done) | (simp; omega))) rfl) rfl rfl ?_; clear F; intro φ F
      refine sq_alloc F M (wt0 rfl) rfl z30 rfl rfl ?_; clear F M; intro φ ω g2 F M
      refine sq_stA F M (wt0 rfl) rfl (F.ev rfl) (F.ev rfl) (i := 0) rfl agg30 rfl rfl rfl rfl ?_; clear M; intro ω M
      refine nx ?_
      -- region 10
      refine rg_J F 11 (fun Dd dv w' => (Dd 0 = true → dv 0 = vr) ∧ (Dd 1 = true → dv 1 = .agg #[.int .i64 ((atS (C.map (·.1)) i.toNat).e), .int .i64 ((atS (C.map (·.1)) i.toNat).r)]) ∧ (Dd 2 = true → dv 2 = .pointer (some ⟨p, 0, none⟩)) ∧ (Dd 3 = true → dv 3 = .pointer (some ⟨p, 0, none⟩)) ∧ (Dd 4 = true → dv 4 = .pointer (some ⟨p, 0, none⟩)) ∧ (Dd 5 = true → dv 5 = .map (some g)) ∧ (Dd 6 = true → dv 6 = .agg #[.int .i64 ((atS (C.map (·.1)) i.toNat).e), .int .i64 ((atS (C.map (·.1)) i.toNat).r)]) ∧ (Dd 7 = true → dv 7 = .int .i64 (ofC C (atS (C.map (·.1)) i.toNat))) ∧ (Dd 8 = true → dv 8 = .agg #[.int .i64 ((atS (C.map (·.1)) i.toNat).e), .int .i64 ((atS (C.map (·.1)) i.toNat).r), .int .i64 (ofC C (atS (C.map (·.1)) i.toNat))]) ∧ Mm [] w w' [(if Dd 9 = true then .row 32 3 (dv 9) 1 (cC [((atS (C.map (·.1)) i.toNat), ofC C (atS (C.map (·.1)) i.toNat))]) else .arg 1 (.slice none 0 0) 0 []), .blk g2 30 #[.int .i64 ((atS (C.map (·.1)) i.toNat).e), .int .i64 ((atS (C.map (·.1)) i.toNat).r)], (if Dd 10 = true then .row 32 3 (dv 10) (((allC C i.toNat) ++ [((atS (C.map (·.1)) i.toNat), ofC C (atS (C.map (·.1)) i.toNat))]).length) (cC ((allC C i.toNat) ++ [((atS (C.map (·.1)) i.toNat), ofC C (atS (C.map (·.1)) i.toNat))])) else .row 32 3 vr ((allC C i.toNat).length) (cC (allC C i.toNat))), .row 30 2 v2 ((C.map (·.1)).length) (cS (C.map (·.1))), .ext [g] (ObV g (.map es ck))]) (fun dv => ⟨(fun h => by cases h), (fun h => by cases h), (fun h => by cases h), (fun h => by cases h), (fun h => by cases h), (fun h => by cases h), (fun h => by cases h), (fun h => by cases h), (fun h => by cases h), by simpa using (M.drew).dead⟩) mixedOK (by kernel_rfl) rfl ⟨?_, ?_, ?_, ?_, ?_, ?_, ?_, ?_, ?_, ?_, ?_, trivial⟩ ?_
      · intro Dd φ1 dv ω1 ⟨h0, h1, h2, h3, h4, h5, h6, h7, h8, M⟩ hDi hdep hcl F1 hdone hold
        have F := (F1.cons (F.was hold (s := 5) rfl rfl))
        try simp only [hDi, Bool.false_eq_true, if_false, if_true, ite_true, ite_false] at M
        exact ⟨wt0 rfl, ow_run ((pu_move rfl (F.ev rfl)) ω1) ⟨_, rfl, newP, keepP rfl h1, keepP rfl h2, keepP rfl h3, keepP rfl h4, keepP rfl h5, keepP rfl h6, keepP rfl h7, keepP rfl h8, by simpa [setB, setV, hDi, Bool.false_eq_true, if_false, if_true, ite_true, ite_false] using M⟩⟩
      · intro Dd φ1 dv ω1 ⟨h0, h1, h2, h3, h4, h5, h6, h7, h8, M⟩ hDi hdep hcl F1 hdone hold
        have F := (F1.cons (F.was hold (s := 7) rfl rfl))
        try simp only [hDi, Bool.false_eq_true, if_false, if_true, ite_true, ite_false] at M
        exact ⟨wt0 rfl, ow_run ((ld_agg rfl (F.ev rfl) agg30 (M.rd (i := 1) rfl) rfl) ω1 rfl) ⟨_, rfl, keepP rfl h0, newP, keepP rfl h2, keepP rfl h3, keepP rfl h4, keepP rfl h5, keepP rfl h6, keepP rfl h7, keepP rfl h8, by simpa [setB, setV, hDi, Bool.false_eq_true, if_false, if_true, ite_true, ite_false] using M⟩⟩
      · intro Dd φ1 dv ω1 ⟨h0, h1, h2, h3, h4, h5, h6, h7, h8, M⟩ hDi hdep hcl F1 hdone hold
        have F := (F1.cons (F.was hold (s := 0) rfl rfl))
        try simp only [hDi, Bool.false_eq_true, if_false, if_true, ite_true, ite_false] at M
        exact ⟨wt0 rfl, ow_run ((pu_move rfl (F.ev rfl)) ω1) ⟨_, rfl, keepP rfl h0, keepP rfl h1, newP, keepP rfl h3, keepP rfl h4, keepP rfl h5, keepP rfl h6, keepP rfl h7, keepP rfl h8, by simpa [setB, setV, hDi, Bool.false_eq_true, if_false, if_true, ite_true, ite_false] using M⟩⟩
      · intro Dd φ1 dv ω1 ⟨h0, h1, h2, h3, h4, h5, h6, h7, h8, M⟩ hDi hdep hcl F1 hdone hold
        have d2 : Dd 2 = true := hdep 2 (by kernel_rfl)
        have F := (F1.cons (k := 30) (hdone 2 _ _ d2 rfl rfl |>.trans (h2 d2)))
        try simp only [d2, hDi, Bool.false_eq_true, if_false, if_true, ite_true, ite_false] at M
        exact ⟨wt0 rfl, ow_run ((pu_nilCheck rfl (F.ev rfl)) ω1) ⟨_, rfl, keepP rfl h0, keepP rfl h1, keepP rfl h2, newP, keepP rfl h4, keepP rfl h5, keepP rfl h6, keepP rfl h7, keepP rfl h8, by simpa [setB, setV, d2, hDi, Bool.false_eq_true, if_false, if_true, ite_true, ite_false] using M⟩⟩
      · intro Dd φ1 dv ω1 ⟨h0, h1, h2, h3, h4, h5, h6, h7, h8, M⟩ hDi hdep hcl F1 hdone hold
        have d3 : Dd 3 = true := hdep 3 (by kernel_rfl)
        have d2 : Dd 2 = true := hcl _ 2 d3 (by kernel_rfl)
        have F := (F1.cons (k := 31) (hdone 3 _ _ d3 rfl rfl |>.trans (h3 d3)))
        try simp only [d2, d3, hDi, Bool.false_eq_true, if_false, if_true, ite_true, ite_false] at M
        exact ⟨wt0 rfl, ow_run ((pu_field rfl (F.ev rfl) fo52_0) ω1) ⟨_, rfl, keepP rfl h0, keepP rfl h1, keepP rfl h2, keepP rfl h3, newP, keepP rfl h5, keepP rfl h6, keepP rfl h7, keepP rfl h8, by simpa [setB, setV, d2, d3, hDi, Bool.false_eq_true, if_false, if_true, ite_true, ite_false] using M⟩⟩
      · intro Dd φ1 dv ω1 ⟨h0, h1, h2, h3, h4, h5, h6, h7, h8, M⟩ hDi hdep hcl F1 hdone hold
        have d4 : Dd 4 = true := hdep 4 (by kernel_rfl)
        have d3 : Dd 3 = true := hcl _ 3 d4 (by kernel_rfl)
        have d2 : Dd 2 = true := hcl _ 2 d3 (by kernel_rfl)
        have F := (F1.cons (k := 32) (hdone 4 _ _ d4 rfl rfl |>.trans (h4 d4)))
        try simp only [d2, d3, d4, hDi, Bool.false_eq_true, if_false, if_true, ite_true, ite_false] at M
        exact ⟨wt0 rfl, ow_run ((ld_cell rfl (F.ev rfl) one50 (fun _ e => e ▸ M.out.blk hp (by simp)) rfl) ω1 rfl) ⟨_, rfl, keepP rfl h0, keepP rfl h1, keepP rfl h2, keepP rfl h3, keepP rfl h4, newP, keepP rfl h6, keepP rfl h7, keepP rfl h8, by simpa [setB, setV, d2, d3, d4, hDi, Bool.false_eq_true, if_false, if_true, ite_true, ite_false] using M⟩⟩
      · intro Dd φ1 dv ω1 ⟨h0, h1, h2, h3, h4, h5, h6, h7, h8, M⟩ hDi hdep hcl F1 hdone hold
        have F := (F1.cons (F.was hold (s := 7) rfl rfl))
        try simp only [hDi, Bool.false_eq_true, if_false, if_true, ite_true, ite_false] at M
        exact ⟨wt0 rfl, ow_run ((ld_agg rfl (F.ev rfl) agg30 (M.rd (i := 1) rfl) rfl) ω1 rfl) ⟨_, rfl, keepP rfl h0, keepP rfl h1, keepP rfl h2, keepP rfl h3, keepP rfl h4, keepP rfl h5, newP, keepP rfl h7, keepP rfl h8, by simpa [setB, setV, hDi, Bool.false_eq_true, if_false, if_true, ite_true, ite_false] using M⟩⟩
      · intro Dd φ1 dv ω1 ⟨h0, h1, h2, h3, h4, h5, h6, h7, h8, M⟩ hDi hdep hcl F1 hdone hold
        have d5 : Dd 5 = true := hdep 5 (by kernel_rfl)
        have d6 : Dd 6 = true := hdep 6 (by kernel_rfl)
        have d4 : Dd 4 = true := hcl _ 4 d5 (by kernel_rfl)
        have d3 : Dd 3 = true := hcl _ 3 d4 (by kernel_rfl)
        have d2 : Dd 2 = true := hcl _ 2 d3 (by kernel_rfl)
        have F := ((F1.cons (k := 33) (hdone 5 _ _ d5 rfl rfl |>.trans (h5 d5))).cons (k := 34) (hdone 6 _ _ d6 rfl rfl |>.trans (h6 d6)))
        try simp only [d2, d3, d4, d5, d6, hDi, Bool.false_eq_true, if_false, if_true, ite_true, ite_false] at M
        exact ⟨wt0 rfl, ow_run ((ld_look (kx := (atS (C.map (·.1)) i.toNat)) mtBag rfl (F.ev rfl) (F.ev rfl) (fun w_ h_ => ⟨_, _, (M.xvE (i := 4) rfl w_ h_), hi⟩) (of_elim _ _)) ω1 rfl) ⟨_, rfl, keepP rfl h0, keepP rfl h1, keepP rfl h2, keepP rfl h3, keepP rfl h4, keepP rfl h5, keepP rfl h6, newP, keepP rfl h8, by simpa [setB, setV, d2, d3, d4, d5, d6, hDi, Bool.false_eq_true, if_false, if_true, ite_true, ite_false] using M⟩⟩
      · intro Dd φ1 dv ω1 ⟨h0, h1, h2, h3, h4, h5, h6, h7, h8, M⟩ hDi hdep hcl F1 hdone hold
        have d1 : Dd 1 = true := hdep 1 (by kernel_rfl)
        have d7 : Dd 7 = true := hdep 7 (by kernel_rfl)
        have d5 : Dd 5 = true := hcl _ 5 d7 (by kernel_rfl)
        have d6 : Dd 6 = true := hcl _ 6 d7 (by kernel_rfl)
        have d4 : Dd 4 = true := hcl _ 4 d5 (by kernel_rfl)
        have d3 : Dd 3 = true := hcl _ 3 d4 (by kernel_rfl)
        have d2 : Dd 2 = true := hcl _ 2 d3 (by kernel_rfl)
        have F := ((F1.cons (k := 29) (hdone 1 _ _ d1 rfl rfl |>.trans (h1 d1))).cons (k := 35) (hdone 7 _ _ d7 rfl rfl |>.trans (h7 d7)))
        try simp only [d1, d2, d3, d4, d5, d6, d7, hDi, Bool.false_eq_true, if_false, if_true, ite_true, ite_false] at M
        exact ⟨wt0 rfl, ow_run ((bu32_0_1 rfl (F.ev rfl) (F.ev rfl)) ω1) ⟨_, rfl, keepP rfl h0, keepP rfl h1, keepP rfl h2, keepP rfl h3, keepP rfl h4, keepP rfl h5, keepP rfl h6, keepP rfl h7, newP, by simpa [setB, setV, d1, d2, d3, d4, d5, d6, d7, hDi, Bool.false_eq_true, if_false, if_true, ite_true, ite_false] using M⟩⟩
      · intro Dd φ1 dv ω1 ⟨h0, h1, h2, h3, h4, h5, h6, h7, h8, M⟩ hDi hdep hcl F1 hdone hold
        have d8 : Dd 8 = true := hdep 8 (by kernel_rfl)
        have d1 : Dd 1 = true := hcl _ 1 d8 (by kernel_rfl)
        have d7 : Dd 7 = true := hcl _ 7 d8 (by kernel_rfl)
        have d5 : Dd 5 = true := hcl _ 5 d7 (by kernel_rfl)
        have d6 : Dd 6 = true := hcl _ 6 d7 (by kernel_rfl)
        have d4 : Dd 4 = true := hcl _ 4 d5 (by kernel_rfl)
        have d3 : Dd 3 = true := hcl _ 3 d4 (by kernel_rfl)
        have d2 : Dd 2 = true := hcl _ 2 d3 (by kernel_rfl)
        have F := (F1.cons (k := 36) (hdone 8 _ _ d8 rfl rfl |>.trans (h8 d8)))
        try simp only [d1, d2, d3, d4, d5, d6, d7, d8, hDi, Bool.false_eq_true, if_false, if_true, ite_true, ite_false] at M
        have M2 : Mm [] w _ (([_, _, _, _, _]).set 0 (.row 32 3 (.slice (some ⟨ω1.heap.size, 0, none⟩) 1 1) 1 (cC [((atS (C.map (·.1)) i.toNat), ofC C (atS (C.map (·.1)) i.toNat))]))) := M.fresh (i := 0) (e := 32) (m := 3) (k := 1) (cs := #[.int .i64 ((atS (C.map (·.1)) i.toNat).e), .int .i64 ((atS (C.map (·.1)) i.toNat).r), .int .i64 (ofC C (atS (C.map (·.1)) i.toNat))]) rfl (by omega) rfl
        exact ⟨wt0 rfl, ow_run (bs22_1 rfl (F.ev rfl) _) ⟨_, rfl, keepP rfl h0, keepP rfl h1, keepP rfl h2, keepP rfl h3, keepP rfl h4, keepP rfl h5, keepP rfl h6, keepP rfl h7, keepP rfl h8, by simpa [setB, setV, d1, d2, d3, d4, d5, d6, d7, d8, hDi, Bool.false_eq_true, if_false, if_true, ite_true, ite_false] using M2⟩⟩
      · intro Dd φ1 dv ω1 ⟨h0, h1, h2, h3, h4, h5, h6, h7, h8, M⟩ hDi hdep hcl F1 hdone hold
        have d0 : Dd 0 = true := hdep 0 (by kernel_rfl)
        have d9 : Dd 9 = true := hdep 9 (by kernel_rfl)
        have d8 : Dd 8 = true := hcl _ 8 d9 (by kernel_rfl)
        have d1 : Dd 1 = true := hcl _ 1 d8 (by kernel_rfl)
        have d7 : Dd 7 = true := hcl _ 7 d8 (by kernel_rfl)
        have d5 : Dd 5 = true := hcl _ 5 d7 (by kernel_rfl)
        have d6 : Dd 6 = true := hcl _ 6 d7 (by kernel_rfl)
        have d4 : Dd 4 = true := hcl _ 4 d5 (by kernel_rfl)
        have d3 : Dd 3 = true := hcl _ 3 d4 (by kernel_rfl)
        have d2 : Dd 2 = true := hcl _ 2 d3 (by kernel_rfl)
        have F := ((F1.cons (k := 28) (hdone 0 _ _ d0 rfl rfl |>.trans (h0 d0))).cons (k := 37) (hdone 9 _ _ d9 rfl rfl))
        try simp only [d0, d1, d2, d3, d4, d5, d6, d7, d8, d9, hDi, Bool.false_eq_true, if_false, if_true, ite_true, ite_false] at M
        refine ⟨wt0 rfl, ow_app M rfl sl22.1 el32 (F.ev rfl) (i := 2) rfl (F.ev rfl) (M.rv (i := 0) rfl) (cC_ones _) (by first | omega | (simp only [List.length_append, List.length_take, List.length_drop, List.length_cons, List.length_nil]; omega)) (by omega) (fun x w2 M2 => ?_)⟩
        rw [← cC_app, show ((allC C i.toNat).length) + 1 = ((allC C i.toNat) ++ [((atS (C.map (·.1)) i.toNat), ofC C (atS (C.map (·.1)) i.toNat))]).length from by first | rfl | (simp; done) | (simp; omega)] at M2
        exact ⟨_, rfl, keepP rfl h0, keepP rfl h1, keepP rfl h2, keepP rfl h3, keepP rfl h4, keepP rfl h5, keepP rfl h6, keepP rfl h7, keepP rfl h8, by simpa [setB, setV, d0, d1, d2, d3, d4, d5, d6, d7, d8, d9, hDi, Bool.false_eq_true, if_false, if_true, ite_true, ite_false] using M2⟩
      clear M; rintro dv φ ω ⟨h0, h1, h2, h3, h4, h5, h6, h7, h8, M⟩ F
      simp only [hvL, List.take_succ_cons, List.take_zero] at F
      rw [h8 (by simp)] at F
      rw [h7 (by simp)] at F
      rw [h6 (by simp)] at F
      rw [h5 (by simp)] at F
      rw [h4 (by simp)] at F
      rw [h3 (by simp)] at F
      rw [h2 (by simp)] at F
      rw [h1 (by simp)] at F
      rw [h0 (by simp)] at F
      replace M : Mm [] w ω [.row 32 3 (dv 9) 1 (cC [((atS (C.map (·.1)) i.toNat), ofC C (atS (C.map (·.1)) i.toNat))]), .blk g2 30 #[.int .i64 ((atS (C.map (·.1)) i.toNat).e), .int .i64 ((atS (C.map (·.1)) i.toNat).r)], .row 32 3 (dv 10) (((allC C i.toNat) ++ [((atS (C.map (·.1)) i.toNat), ofC C (atS (C.map (·.1)) i.toNat))]).length) (cC ((allC C i.toNat) ++ [((atS (C.map (·.1)) i.toNat), ofC C (atS (C.map (·.1)) i.toNat))])), .row 30 2 v2 ((C.map (·.1)).length) (cS (C.map (·.1))), .ext [g] (ObV g (.map es ck))] := by simpa using M
      clear h0 h1 h2 h3 h4 h5 h6 h7 h8
      generalize dv 9 = v3 at F M
      generalize dv 10 = v4 at F M
      refine sq_pure F (wt0 rfl) (pu_assign rfl (F.ev rfl)) rfl rfl ?_; clear F; intro φ F
      refine wpList_nil ?_
      refine nxb ?_
      refine nxq ?_
      -- region 11
      refine wp_region_lit ?_
      refine sq_pure F (wt0 rfl) (pu_add rfl (F.ev rfl) (evk) (by omega) (by omega)) rfl rfl ?_; clear F; intro φ F
      refine sq_pure F (wt0 rfl) (pu_move rfl (F.ev rfl)) rfl rfl ?_; clear F; intro φ F
      refine wpList_nil ?_
      exact ⟨i + 1, by omega, v4, (((((F.nil.cons (F.get (k := 24) rfl)).cons (F.get (k := 5) rfl)).cons (F.get (k := 23) rfl)).cons (F.get (k := 22) rfl)).cons (F.get (k := 0) rfl)), (by rw [all_next (by omega) (by omega)]; exact (M.sub (.cons _ (.cons _ (List.Sublist.refl _))))), by omega, by omega, Nat.le_trans (all_len _ _) (by omega)⟩
  · clear F M; intro q1 q1s q1p φ ω F M
    refine sq_pure F (wt0 rfl) (pu_extract rfl (F.ev rfl) rfl) rfl rfl ?_; clear F; intro φ F
    refine nx ?_
    refine wp_seq ?_
    refine wp_cond_true (F.ev rfl) ?_
    refine wp_skip ?_
    refine nxq ?_
    refine wp_block ?_
    refine wp_seq ?_
    -- region 4
    refine wp_region_lit ?_
    refine sq_rd F (wt0 rfl) (ld_entry rfl (F.ev rfl) (fun w_ h_ => (M.xvE (i := 2) rfl w_ h_)) (M.pvE (i := 1) rfl)) rfl rfl ?_; clear F; intro φ F
    replace M := M.conv (i := 1) rfl (fun h => h.1) (ItV.loc _ _ _ _ _)
    replace M : Mm [] w ω [.row 30 2 vq K.length (cS K), .own [g1] (ItV g1 g es ck (encM stV iV q1s)), .ext [g] (ObV g (.map es ck))] := M
    refine sq_pure F (wt0 rfl) (pu_extract rfl (F.ev rfl) rfl) rfl rfl ?_; clear F; intro φ F
    refine sq_alloc F M (wt0 rfl) rfl z30 rfl rfl ?_; clear F M; intro φ ω g3 F M
    refine sq_stA F M (wt0 rfl) rfl (F.ev rfl) (F.ev rfl) (i := 0) rfl agg30 rfl rfl rfl rfl ?_; clear M; intro ω M
    refine nx ?_
    -- region 5
    refine wp_region_lit ?_
    refine sq_pure F (wt0 rfl) (pu_move rfl (F.ev rfl)) rfl rfl ?_; clear F; intro φ F
    refine sq_rd F (wt0 rfl) (ld_agg rfl (F.ev rfl) agg30 (M.rd (i := 0) rfl) rfl) rfl rfl ?_; clear F; intro φ F
    refine sq_bs (e := 30) (m := 2) (k := 1) (parts := #[]) (cs := #[.int .i64 q1.1.e, .int .i64 q1.1.r]) F M (wt0 rfl) (bs38_1 rfl (F.ev rfl) _) (by omega) rfl rfl rfl ?_; clear F M; intro φ ω g4 F M
    replace M : Mm [] w ω [.row 30 2 (.slice (some ⟨g4, 0, none⟩) 1 1) 1 (cS [q1.1]), .blk g3 30 #[.int .i64 q1.1.e, .int .i64 q1.1.r], .row 30 2 vq K.length (cS K), .own [g1] (ItV g1 g es ck (encM stV iV q1s)), .ext [g] (ObV g (.map es ck))] := M
    refine sq_app F M (wt0 rfl) rfl sl38.1 el30 (F.ev rfl) (i := 2) rfl (F.ev rfl) (M.rv (i := 0) rfl) (cS_ones _) (by first | omega | (simp only [List.length_append, List.length_cons, List.length_nil, List.length_singleton]; omega)) (by omega) rfl rfl ?_; clear F M; intro φ ω v5 F M
    replace M : Mm [] w ω [.row 30 2 (.slice (some ⟨g4, 0, none⟩) 1 1) 1 (cS [q1.1]), .blk g3 30 #[.int .i64 q1.1.e, .int .i64 q1.1.r], .row 30 2 v5 (K.length + 1) ((cS K) ++ (cS [q1.1])), .own [g1] (ItV g1 g es ck (encM stV iV q1s)), .ext [g] (ObV g (.map es ck))] := M
    rw [← cS_app, show K.length + 1 = (K ++ [q1.1]).length from by first | rfl | (simp; done) | (simp; omega)] at M
    refine sq_pure F (wt0 rfl) (pu_assign rfl (F.ev rfl)) rfl rfl ?_; clear F; intro φ F
    refine wpList_nil ?_
    refine nxb ?_
    exact ⟨q1s, (by have z := q1p.length_eq; simp only [List.length_cons] at z; omega), v5, (K ++ [q1.1]), (((F.nil.cons (F.get (k := 3) rfl)).cons (F.get (k := 12) rfl)).cons (F.get (k := 0) rfl)), (M.sub (.cons _ (.cons _ (List.Sublist.refl _)))), hp1_0.next q1p, (by have z := q1p.length_eq; simp only [List.length_cons] at z; rw [List.length_append, List.length_singleton]; omega)⟩

set_option maxHeartbeats 1000000 in
theorem front_any (C : List Ct) (p g : Nat) (w : World) (hb : BagV p g C w) (hlen : C.length ≤ 1000000) :
    Calls Try.prog 18 #[.pointer (some ⟨p, 0, none⟩)] w (fun e w' => ∃ v, e = .returned v ∧ Below w.heap.size w w' ∧ w'.ownsRow w.heap.size 30 2 v (minL (posL C)).length (cS (minL (posL C)))) := by
  obtain ⟨hp, ⟨es, ck, hg, hi⟩, hok⟩ := hb
  refine enterF Try.func18 rfl 24 Try.ntmps18 [.pointer (some ⟨p, 0, none⟩)] rfl [(0, .pointer (some ⟨p, 0, none⟩))] rfl ?_
  intro φ F
  have M := Mm.start [] w
  replace M := M.addExt (fp := [g]) (Φ := ObV g (.map es ck)) (hg) (ObV.loc _ _) (by simp)
  refine wp_seq ?_
  -- region 0
  refine wp_region_lit ?_
  refine sq_pure F (wt0 rfl) (pu_assign rfl (evk)) rfl rfl ?_; clear F; intro φ F
  refine nx ?_
  refine wp_seq ?_
  -- region 1
  refine wp_region_lit ?_
  refine sq_pure F (wt0 rfl) (pu_assign rfl (evk)) rfl rfl ?_; clear F; intro φ F
  refine nx ?_
  refine wp_seq ?_
  refine wp_seq ?_
  -- region 2
  refine wp_region_lit ?_
  refine sq_pure F (wt0 rfl) (pu_move rfl (F.ev rfl)) rfl rfl ?_; clear F; intro φ F
  refine sq_pure F (wt0 rfl) (pu_nilCheck rfl (F.ev rfl)) rfl rfl ?_; clear F; intro φ F
  refine sq_pure F (wt0 rfl) (pu_field rfl (F.ev rfl) fo52_0) rfl rfl ?_; clear F; intro φ F
  refine sq_rd F (wt0 rfl) (ld_cell rfl (F.ev rfl) one50 (fun _ e => e ▸ M.out.blk hp (by simp)) rfl) rfl rfl ?_; clear F; intro φ F
  refine sq_range mtBag.ty F M (wt0 rfl) rfl (F.ev rfl) ((M.xv (i := 0) rfl)) hi rfl rfl ?_; clear F M; intro φ ω g1 g1ne F M
  replace M : Mm [] w ω [.own [g1] (ItV g1 g es ck (encM stV iV C)), .ext [g] (ObV g (.map es ck))] := M
  refine nx ?_
  refine wp_block ?_
  refine lp (σ := List Ct) (fun Rs φ' w' => ∃ vq : Value, ∃ K : List St, Fr φ' 24 [(0, .pointer (some ⟨p, 0, none⟩)), (10, .pointer (some ⟨g1, 0, none⟩)), (3, vq)] ∧ Mm [] w w' [.row 30 2 vq K.length (cS K), .own [g1] (ItV g1 g es ck (encM stV iV Rs)), .ext [g] (ObV g (.map es ck))] ∧ (PInv C Rs K) ∧ (K.length + Rs.length ≤ C.length)) (fun Rs => Rs.length) (C) ⟨(.slice none 0 0), [], (((F.nil.cons (F.get (k := 3) rfl)).cons (F.get (k := 10) rfl)).cons (F.get (k := 0) rfl)), (M.nilRow 30 2), PInv.start C, by simp⟩ ?_
  clear F M
  rintro Rs φ ω ⟨vq, K, F, M, hp1_0, hp1_1⟩
  refine wp_seq ?_
  -- region 3
  refine wp_region_lit ?_
  refine sq_next (ek := stV) (ev := iV) (Rs := Rs) F M (wt0 rfl) rfl rfl (F.ev rfl) ((M.xv (i := 2) rfl)) (i := 1) rfl (by assumption) rfl rfl ?_ ?_
  · clear F; intro q1z φ F
    refine sq_pure F (wt0 rfl) (pu_extract rfl (F.ev rfl) rfl) rfl rfl ?_; clear F; intro φ F
    refine nx ?_
    refine wp_seq ?_
    refine wp_cond_false (F.ev rfl) ?_
    refine wp_exit ?_
    refine nxe ?_
    refine nxe ?_
    refine nxm ?_
    refine nxq ?_
    refine wp_seq ?_
    -- region 7
    refine wp_region_lit ?_
    refine sq_pure F (wt0 rfl) (pu_move rfl (F.ev rfl)) rfl rfl ?_; clear F; intro φ F
    refine sq_callN F M (wt0 rfl) rfl en29 (evc (F.ev rfl) evn) (min_any K _ _ (M.rv (i := 0) rfl) (by first | omega | (simp; done) | (simp; omega))) rfl rfl ?_; clear F M; intro φ ω v2 F M
    refine sq_pure F (wt0 rfl) (pu_assign rfl (F.ev rfl)) rfl rfl ?_; clear F; intro φ F
    refine nx ?_
    refine wp_ret ?_
    refine rt_tmp F rfl rfl ?_
    have zz := M.owB (i := 0) rfl
    rw [hp1_0.fin q1z] at zz
    exact ⟨_, rfl, M.bel, zz⟩
  · clear F M; intro q1 q1s q1p φ ω F M
    refine sq_pure F (wt0 rfl) (pu_extract rfl (F.ev rfl) rfl) rfl rfl ?_; clear F; intro φ F
    refine nx ?_
    refine wp_seq ?_
    refine wp_cond_true (F.ev rfl) ?_
    refine wp_skip ?_
    refine nxq ?_
    refine wp_block ?_
    refine wp_seq ?_
    -- region 4
    refine wp_region_lit ?_
    refine sq_rd F (wt0 rfl) (ld_entry rfl (F.ev rfl) (fun w_ h_ => (M.xvE (i := 2) rfl w_ h_)) (M.pvE (i := 1) rfl)) rfl rfl ?_; clear F; intro φ F
    replace M := M.conv (i := 1) rfl (fun h => h.1) (ItV.loc _ _ _ _ _)
    replace M : Mm [] w ω [.row 30 2 vq K.length (cS K), .own [g1] (ItV g1 g es ck (encM stV iV q1s)), .ext [g] (ObV g (.map es ck))] := M
    refine sq_pure F (wt0 rfl) (pu_extract rfl (F.ev rfl) rfl) rfl rfl ?_; clear F; intro φ F
    refine sq_pure F (wt0 rfl) (pu_extract rfl (F.ev rfl) rfl) rfl rfl ?_; clear F; intro φ F
    refine sq_alloc F M (wt0 rfl) rfl z30 rfl rfl ?_; clear F M; intro φ ω g2 F M
    refine sq_stA F M (wt0 rfl) rfl (F.ev rfl) (F.ev rfl) (i := 0) rfl agg30 rfl rfl rfl rfl ?_; clear M; intro ω M
    refine sq_pure F (wt0 rfl) (pu_assign rfl (F.ev rfl)) rfl rfl ?_; clear F; intro φ F
    refine nx ?_
    refine wp_seq ?_
    -- region 5
    refine wp_region_lit ?_
    refine sq_pure F (wt0 rfl) (pu_move rfl (F.ev rfl)) rfl rfl ?_; clear F; intro φ F
    refine sq_pure F (wt0 rfl) (pu_gtr rfl (F.ev rfl) (evk)) rfl rfl ?_; clear F; intro φ F
    refine nx ?_
    cases hs2 : (decide (0 < q1.2))
    · rw [hs2] at F
      have hs2i := of_decide_eq_false hs2
      refine wp_cond_false (F.ev rfl) ?_
      refine wp_skip ?_
      refine nxb ?_
      exact ⟨q1s, (by have z := q1p.length_eq; simp only [List.length_cons] at z; omega), vq, K, (((F.nil.cons (F.get (k := 3) rfl)).cons (F.get (k := 10) rfl)).cons (F.get (k := 0) rfl)), (M.sub (.cons _ (List.Sublist.refl _))), hp1_0.no q1p hs2i, (by have z := q1p.length_eq; simp only [List.length_cons] at z; omega)⟩
    · rw [hs2] at F
      have hs2i := of_decide_eq_true hs2
      refine wp_cond_true (F.ev rfl) ?_
      -- region 6
      refine wp_region_lit ?_
      refine sq_pure F (wt0 rfl) (pu_move rfl (F.ev rfl)) rfl rfl ?_; clear F; intro φ F
      refine sq_rd F (wt0 rfl) (ld_agg rfl (F.ev rfl) agg30 (M.rd (i := 0) rfl) rfl) rfl rfl ?_; clear F; intro φ F
      refine sq_bs (e := 30) (m := 2) (k := 1) (parts := #[]) (cs := #[.int .i64 q1.1.e, .int .i64 q1.1.r]) F M (wt0 rfl) (bs38_1 rfl (F.ev rfl) _) (by omega) rfl rfl rfl ?_; clear F M; intro φ ω g3 F M
      replace M : Mm [] w ω [.row 30 2 (.slice (some ⟨g3, 0, none⟩) 1 1) 1 (cS [q1.1]), .blk g2 30 #[.int .i64 q1.1.e, .int .i64 q1.1.r], .row 30 2 vq K.length (cS K), .own [g1] (ItV g1 g es ck (encM stV iV q1s)), .ext [g] (ObV g (.map es ck))] := M
      refine sq_app F M (wt0 rfl) rfl sl38.1 el30 (F.ev rfl) (i := 2) rfl (F.ev rfl) (M.rv (i := 0) rfl) (cS_ones _) (by first | omega | (simp only [List.length_append, List.length_cons, List.length_nil, List.length_singleton]; omega)) (by omega) rfl rfl ?_; clear F M; intro φ ω v3 F M
      replace M : Mm [] w ω [.row 30 2 (.slice (some ⟨g3, 0, none⟩) 1 1) 1 (cS [q1.1]), .blk g2 30 #[.int .i64 q1.1.e, .int .i64 q1.1.r], .row 30 2 v3 (K.length + 1) ((cS K) ++ (cS [q1.1])), .own [g1] (ItV g1 g es ck (encM stV iV q1s)), .ext [g] (ObV g (.map es ck))] := M
      rw [← cS_app, show K.length + 1 = (K ++ [q1.1]).length from by first | rfl | (simp; done) | (simp; omega)] at M
      refine sq_pure F (wt0 rfl) (pu_assign rfl (F.ev rfl)) rfl rfl ?_; clear F; intro φ F
      refine wpList_nil ?_
      refine nxb ?_
      exact ⟨q1s, (by have z := q1p.length_eq; simp only [List.length_cons] at z; omega), v3, (K ++ [q1.1]), (((F.nil.cons (F.get (k := 3) rfl)).cons (F.get (k := 10) rfl)).cons (F.get (k := 0) rfl)), (M.sub (.cons _ (.cons _ (List.Sublist.refl _)))), hp1_0.yes q1p hs2i, (by have z := q1p.length_eq; simp only [List.length_cons] at z; rw [List.length_append, List.length_singleton]; omega)⟩

set_option maxHeartbeats 1000000 in
theorem lacks_any (C : List Ct) (p g : Nat) (w : World) (hb : BagV p g C w) :
    Calls Try.prog 20 #[.pointer (some ⟨p, 0, none⟩)] w (fun e w' => e = .returned ((.bool (lackB C))) ∧ Below w.heap.size w w') := by
  obtain ⟨hp, ⟨es, ck, hg, hi⟩, hok⟩ := hb
  refine enterF Try.func20 rfl 16 Try.ntmps20 [.pointer (some ⟨p, 0, none⟩)] rfl [(0, .pointer (some ⟨p, 0, none⟩))] rfl ?_
  intro φ F
  have M := Mm.start [] w
  replace M := M.addExt (fp := [g]) (Φ := ObV g (.map es ck)) (hg) (ObV.loc _ _) (by simp)
  refine wp_seq ?_
  -- region 0
  refine wp_region_lit ?_
  refine sq_pure F (wt0 rfl) (pu_assign rfl (evk)) rfl rfl ?_; clear F; intro φ F
  refine nx ?_
  refine wp_seq ?_
  refine wp_seq ?_
  -- region 1
  refine wp_region_lit ?_
  refine sq_pure F (wt0 rfl) (pu_move rfl (F.ev rfl)) rfl rfl ?_; clear F; intro φ F
  refine sq_pure F (wt0 rfl) (pu_nilCheck rfl (F.ev rfl)) rfl rfl ?_; clear F; intro φ F
  refine sq_pure F (wt0 rfl) (pu_field rfl (F.ev rfl) fo52_0) rfl rfl ?_; clear F; intro φ F
  refine sq_rd F (wt0 rfl) (ld_cell rfl (F.ev rfl) one50 (fun _ e => e ▸ M.out.blk hp (by simp)) rfl) rfl rfl ?_; clear F; intro φ F
  refine sq_range mtBag.ty F M (wt0 rfl) rfl (F.ev rfl) ((M.xv (i := 0) rfl)) hi rfl rfl ?_; clear F M; intro φ ω g1 g1ne F M
  replace M : Mm [] w ω [.own [g1] (ItV g1 g es ck (encM stV iV C)), .ext [g] (ObV g (.map es ck))] := M
  refine nx ?_
  refine wp_block ?_
  refine lp (σ := List Ct) (fun Rs φ' w' => Fr φ' 16 [(0, .pointer (some ⟨p, 0, none⟩)), (9, .pointer (some ⟨g1, 0, none⟩))] ∧ Mm [] w w' [.own [g1] (ItV g1 g es ck (encM stV iV Rs)), .ext [g] (ObV g (.map es ck))] ∧ (lackB C = lackB Rs)) (fun Rs => Rs.length) (C) ⟨((F.nil.cons (F.get (k := 9) rfl)).cons (F.get (k := 0) rfl)), M, rfl⟩ ?_
  clear F M
  rintro Rs φ ω ⟨F, M, hp1_0⟩
  refine wp_seq ?_
  -- region 2
  refine wp_region_lit ?_
  refine sq_next (ek := stV) (ev := iV) (Rs := Rs) F M (wt0 rfl) rfl rfl (F.ev rfl) ((M.xv (i := 1) rfl)) (i := 0) rfl (by assumption) rfl rfl ?_ ?_
  · clear F; intro q1z φ F
    refine sq_pure F (wt0 rfl) (pu_extract rfl (F.ev rfl) rfl) rfl rfl ?_; clear F; intro φ F
    refine nx ?_
    refine wp_seq ?_
    refine wp_cond_false (F.ev rfl) ?_
    refine wp_exit ?_
    refine nxe ?_
    refine nxe ?_
    refine nxm ?_
    refine nxq ?_
    refine wp_seq ?_
    -- region 6
    refine wp_region_lit ?_
    refine sq_pure F (wt0 rfl) (pu_assign rfl (evk)) rfl rfl ?_; clear F; intro φ F
    refine nx ?_
    refine wp_ret ?_
    refine rt_tmp F rfl rfl ?_
    refine ⟨?_, M.bel⟩
    rw [lack_end hp1_0 q1z]
  · clear F M; intro q1 q1s q1p φ ω F M
    refine sq_pure F (wt0 rfl) (pu_extract rfl (F.ev rfl) rfl) rfl rfl ?_; clear F; intro φ F
    refine nx ?_
    refine wp_seq ?_
    refine wp_cond_true (F.ev rfl) ?_
    refine wp_skip ?_
    refine nxq ?_
    refine wp_block ?_
    refine wp_seq ?_
    -- region 3
    refine wp_region_lit ?_
    refine sq_rd F (wt0 rfl) (ld_entry rfl (F.ev rfl) (fun w_ h_ => (M.xvE (i := 1) rfl w_ h_)) (M.pvE (i := 0) rfl)) rfl rfl ?_; clear F; intro φ F
    replace M := M.conv (i := 0) rfl (fun h => h.1) (ItV.loc _ _ _ _ _)
    replace M : Mm [] w ω [.own [g1] (ItV g1 g es ck (encM stV iV q1s)), .ext [g] (ObV g (.map es ck))] := M
    refine sq_pure F (wt0 rfl) (pu_extract rfl (F.ev rfl) rfl) rfl rfl ?_; clear F; intro φ F
    refine sq_pure F (wt0 rfl) (pu_assign rfl (F.ev rfl)) rfl rfl ?_; clear F; intro φ F
    refine nx ?_
    refine wp_seq ?_
    -- region 4
    refine wp_region_lit ?_
    refine sq_pure F (wt0 rfl) (pu_move rfl (F.ev rfl)) rfl rfl ?_; clear F; intro φ F
    refine sq_pure F (wt0 rfl) (pu_lss rfl (F.ev rfl) (evk)) rfl rfl ?_; clear F; intro φ F
    refine nx ?_
    cases hs2 : (decide (q1.2 < 0))
    · rw [hs2] at F
      have hs2i := of_decide_eq_false hs2
      refine wp_cond_false (F.ev rfl) ?_
      refine wp_skip ?_
      refine nxb ?_
      exact ⟨q1s, (by have z := q1p.length_eq; simp only [List.length_cons] at z; omega), ((F.nil.cons (F.get (k := 9) rfl)).cons (F.get (k := 0) rfl)), M, lack_next hp1_0 q1p hs2i⟩
    · rw [hs2] at F
      have hs2i := of_decide_eq_true hs2
      refine wp_cond_true (F.ev rfl) ?_
      refine wp_seq ?_
      -- region 5
      refine wp_region_lit ?_
      refine sq_pure F (wt0 rfl) (pu_assign rfl (evk)) rfl rfl ?_; clear F; intro φ F
      refine nx ?_
      refine wp_ret ?_
      refine nxrb ?_
      refine nxr ?_
      refine nxrb ?_
      refine nxr ?_
      refine rt_tmp F rfl rfl ?_
      refine ⟨?_, M.bel⟩
      rw [lack_now hp1_0 q1p hs2i]

set_option maxHeartbeats 1000000 in
theorem rof_any (C : List Ct) (rb : Nat) (v : Value) (t : St) (w : World) (hB : Blk w rb 28 #[v]) (hr : RdC w v C) (hlen : C.length ≤ 1000000) :
    Calls Try.prog 23 #[.pointer (some ⟨rb, 0, none⟩), .agg #[.int .i64 t.e, .int .i64 t.r]] w (fun e w' => e = .returned ((.int .i64 (ofC C t))) ∧ Below w.heap.size w w') := by
  refine enterF Try.func23 rfl 33 Try.ntmps23 [.pointer (some ⟨rb, 0, none⟩), .agg #[.int .i64 t.e, .int .i64 t.r]] rfl [(0, .pointer (some ⟨rb, 0, none⟩)), (1, .agg #[.int .i64 t.e, .int .i64 t.r])] rfl ?_
  intro φ F
  have M := Mm.start [] w
  replace M := M.addArg (hr) (fun _ => by first | (simp; done) | (simp_all; done) | assumption)
  refine wp_seq ?_
  -- region 0
  refine wp_region_lit ?_
  refine sq_box F M (wt0 rfl) rfl (F.ev rfl) (cs := #[.int .i64 t.e, .int .i64 t.r]) rfl rfl rfl ?_; clear F M; intro φ ω g1 F M
  refine sq_pure F (wt0 rfl) (pu_assign rfl (evk)) rfl rfl ?_; clear F; intro φ F
  refine nx ?_
  refine wp_seq ?_
  refine wp_seq ?_
  -- region 1
  refine wp_region_lit ?_
  refine sq_pure F (wt0 rfl) (pu_assign rfl (evk)) rfl rfl ?_; clear F; intro φ F
  refine nx ?_
  refine wp_block ?_
  refine lp (σ := Int) (fun i φ' w' => Fr φ' 33 [(0, .pointer (some ⟨rb, 0, none⟩)), (3, .pointer (some ⟨g1, 0, none⟩)), (5, .int .i64 i)] ∧ Mm [] w w' [.blk g1 30 #[.int .i64 t.e, .int .i64 t.r], .arg 3 v C.length (cC C)] ∧ (0 ≤ i) ∧ (i ≤ (C.length : Int)) ∧ (∀ k, k < i.toNat → ¬ (atC C k).1 = t)) (fun i => ((C.length : Int) - i).toNat) (0) ⟨(((F.nil.cons (F.get (k := 5) rfl)).cons (F.get (k := 3) rfl)).cons (F.get (k := 0) rfl)), M, Int.le_refl _, by omega, all_none⟩ ?_
  clear F M
  rintro i φ ω ⟨F, M, hp1_0, hp1_1, hp1_2⟩
  refine wp_seq ?_
  refine wp_seq ?_
  -- region 2
  refine wp_region_lit ?_
  refine sq_pure F (wt0 rfl) (pu_move rfl (F.ev rfl)) rfl rfl ?_; clear F; intro φ F
  refine sq_pure F (wt0 rfl) (pu_move rfl (F.ev rfl)) rfl rfl ?_; clear F; intro φ F
  refine sq_pure F (wt0 rfl) (pu_nilCheck rfl (F.ev rfl)) rfl rfl ?_; clear F; intro φ F
  refine sq_pure F (wt0 rfl) (pu_field rfl (F.ev rfl) fo28_0) rfl rfl ?_; clear F; intro φ F
  refine sq_rd F (wt0 rfl) (ld_cell rfl (F.ev rfl) one22 (fun _ e => e ▸ M.out.blk hB (by simp)) rfl) rfl rfl ?_; clear F; intro φ F
  refine sq_pure F (wt0 rfl) (pu_len rfl (F.ev rfl) sl22 (M.av (i := 1) rfl)) rfl rfl ?_; clear F; intro φ F
  refine sq_pure F (wt0 rfl) (pu_lss rfl (F.ev rfl) (F.ev rfl)) rfl rfl ?_; clear F; intro φ F
  refine nx ?_
  cases hs2 : (decide (i < ((C.length : Nat) : Int)))
  · rw [hs2] at F
    have hs2i := of_decide_eq_false hs2
    refine wp_cond_false (F.ev rfl) ?_
    refine wp_exit ?_
    refine nxe ?_
    refine nxe ?_
    refine nxm ?_
    refine nxq ?_
    refine wp_seq ?_
    -- region 6
    refine wp_region_lit ?_
    refine sq_pure F (wt0 rfl) (pu_assign rfl (evk)) rfl rfl ?_; clear F; intro φ F
    refine nx ?_
    refine wp_ret ?_
    refine rt_tmp F rfl rfl ?_
    refine ⟨?_, M.bel⟩
    rw [← of_miss hp1_2 hs2i]
  · rw [hs2] at F
    have hs2i := of_decide_eq_true hs2
    refine wp_cond_true (F.ev rfl) ?_
    refine wp_skip ?_
    refine nxq ?_
    refine wp_seq ?_
    refine wp_block ?_
    refine wp_seq ?_
    -- region 4
    refine rg_quiet M mixedOK (by kernel_rfl) ?_
    refine qt_pure F (wt0 rfl) (pu_move rfl (F.ev rfl)) rfl rfl ?_; clear F; intro φ F
    refine qt_pure F (wt0 rfl) (pu_nilCheck rfl (F.ev rfl)) rfl rfl ?_; clear F; intro φ F
    refine qt_pure F (wt0 rfl) (pu_field rfl (F.ev rfl) fo28_0) rfl rfl ?_; clear F; intro φ F
    refine qt_rd F (wt0 rfl) (ld_cell rfl (F.ev rfl) one22 (fun _ h => (M.out.blk hB (by simp)).below h (M.out.blk hB (by simp)).lt) rfl) rfl rfl ?_; clear F; intro φ F
    refine qt_pure F (wt0 rfl) (pu_move rfl (F.ev rfl)) rfl rfl ?_; clear F; intro φ F
    refine qt_pure F (wt0 rfl) (pu_ix rfl (F.ev rfl) (F.ev rfl) sl22 (M.av (i := 1) rfl) (by omega) (by omega)) rfl rfl ?_; clear F; intro φ F
    refine qt_pure F (wt0 rfl) (pu_field rfl (F.ev rfl) fo32_0) rfl rfl ?_; clear F; intro φ F
    refine qt_rd F (wt0 rfl) (ld_elP (q := 0) (k := i.toNat * 3) rfl (F.ev rfl) agg30 (fun _ h => RdV.below (M.av (i := 1) rfl) h) (by omega) (cC_at (by first | omega | (simp; done) | (simp; omega))) (by omega) rfl rfl) rfl rfl ?_; clear F; intro φ F
    refine qt_rd F (wt0 rfl) (ld_agg rfl (F.ev rfl) agg30 (M.rdB (i := 0) rfl) rfl) rfl rfl ?_; clear F; intro φ F
    refine qt_pure F (wt0 rfl) (pu_eqlA rfl (F.ev rfl) (F.ev rfl) eqg30 (fun w => eqS30 (atC C i.toNat).1 t w)) rfl rfl ?_; clear F; intro φ F
    refine wpQuiet_nil ?_
    clear M; intro ω M
    refine nxq ?_
    cases hs3 : (decide ((atC C i.toNat).1 = t))
    · rw [hs3] at F
      have hs3i := of_decide_eq_false hs3
      refine wp_cond_false (F.ev rfl) ?_
      refine wp_skip ?_
      refine nxb ?_
      refine nxq ?_
      -- region 3
      refine wp_region_lit ?_
      refine sq_pure F (wt0 rfl) (pu_move rfl (F.ev rfl)) rfl rfl ?_; clear F; intro φ F
      refine sq_pure F (wt0 rfl) (pu_add rfl (F.ev rfl) (evk) (by omega) (by omega)) rfl rfl ?_; clear F; intro φ F
      refine sq_pure F (wt0 rfl) (pu_assign rfl (F.ev rfl)) rfl rfl ?_; clear F; intro φ F
      refine wpList_nil ?_
      exact ⟨i + 1, by omega, (((F.nil.cons (F.get (k := 5) rfl)).cons (F.get (k := 3) rfl)).cons (F.get (k := 0) rfl)), M, by omega, by omega, all_succ hp1_2 hp1_0 (hs3i)⟩
    · rw [hs3] at F
      have hs3i := of_decide_eq_true hs3
      refine wp_cond_true (F.ev rfl) ?_
      refine wp_seq ?_
      -- region 5
      refine wp_region_lit ?_
      refine sq_pure F (wt0 rfl) (pu_move rfl (F.ev rfl)) rfl rfl ?_; clear F; intro φ F
      refine sq_pure F (wt0 rfl) (pu_nilCheck rfl (F.ev rfl)) rfl rfl ?_; clear F; intro φ F
      refine sq_pure F (wt0 rfl) (pu_field rfl (F.ev rfl) fo28_0) rfl rfl ?_; clear F; intro φ F
      refine sq_rd F (wt0 rfl) (ld_cell rfl (F.ev rfl) one22 (fun _ e => e ▸ M.out.blk hB (by simp)) rfl) rfl rfl ?_; clear F; intro φ F
      refine sq_pure F (wt0 rfl) (pu_move rfl (F.ev rfl)) rfl rfl ?_; clear F; intro φ F
      refine sq_pure F (wt0 rfl) (pu_ix rfl (F.ev rfl) (F.ev rfl) sl22 (M.av (i := 1) rfl) (by omega) (by omega)) rfl rfl ?_; clear F; intro φ F
      refine sq_pure F (wt0 rfl) (pu_field rfl (F.ev rfl) fo32_1) rfl rfl ?_; clear F; intro φ F
      refine sq_rd F (wt0 rfl) (ld_elP1 (q := 2) (k := i.toNat * 3) rfl (F.ev rfl) one3 (fun _ e => e ▸ (M.av (i := 1) rfl)) (by omega) (cC_at (by first | omega | (simp; done) | (simp; omega))) rfl) rfl rfl ?_; clear F; intro φ F
      refine sq_pure F (wt0 rfl) (pu_assign rfl (F.ev rfl)) rfl rfl ?_; clear F; intro φ F
      refine nx ?_
      refine wp_ret ?_
      refine nxrb ?_
      refine nxr ?_
      refine nxr ?_
      refine nxrb ?_
      refine nxr ?_
      refine rt_tmp F rfl rfl ?_
      refine ⟨?_, M.bel⟩
      rw [← of_hit (by omega) (by omega) hp1_2 hs3i]

set_option maxHeartbeats 1000000 in
theorem rlacks_any (C : List Ct) (rb : Nat) (v : Value) (w : World) (hB : Blk w rb 28 #[v]) (hr : RdC w v C) (hlen : C.length ≤ 1000000) :
    Calls Try.prog 21 #[.pointer (some ⟨rb, 0, none⟩)] w (fun e w' => e = .returned ((.bool (lackB C))) ∧ Below w.heap.size w w') := by
  refine enterF Try.func21 rfl 22 Try.ntmps21 [.pointer (some ⟨rb, 0, none⟩)] rfl [(0, .pointer (some ⟨rb, 0, none⟩))] rfl ?_
  intro φ F
  have M := Mm.start [] w
  replace M := M.addArg (hr) (fun _ => by first | (simp; done) | (simp_all; done) | assumption)
  refine wp_seq ?_
  -- region 0
  refine wp_region_lit ?_
  refine sq_pure F (wt0 rfl) (pu_assign rfl (evk)) rfl rfl ?_; clear F; intro φ F
  refine nx ?_
  refine wp_seq ?_
  refine wp_seq ?_
  -- region 1
  refine wp_region_lit ?_
  refine sq_pure F (wt0 rfl) (pu_assign rfl (evk)) rfl rfl ?_; clear F; intro φ F
  refine nx ?_
  refine wp_block ?_
  refine lp (σ := Int) (fun i φ' w' => Fr φ' 22 [(0, .pointer (some ⟨rb, 0, none⟩)), (3, .int .i64 i)] ∧ Mm [] w w' [.arg 3 v C.length (cC C)] ∧ (0 ≤ i) ∧ (i ≤ (C.length : Int)) ∧ (∀ k, k < i.toNat → ¬ (atC C k).2 < 0)) (fun i => ((C.length : Int) - i).toNat) (0) ⟨((F.nil.cons (F.get (k := 3) rfl)).cons (F.get (k := 0) rfl)), M, Int.le_refl _, by omega, all_none⟩ ?_
  clear F M
  rintro i φ ω ⟨F, M, hp1_0, hp1_1, hp1_2⟩
  refine wp_seq ?_
  refine wp_seq ?_
  -- region 2
  refine wp_region_lit ?_
  refine sq_pure F (wt0 rfl) (pu_move rfl (F.ev rfl)) rfl rfl ?_; clear F; intro φ F
  refine sq_pure F (wt0 rfl) (pu_move rfl (F.ev rfl)) rfl rfl ?_; clear F; intro φ F
  refine sq_pure F (wt0 rfl) (pu_nilCheck rfl (F.ev rfl)) rfl rfl ?_; clear F; intro φ F
  refine sq_pure F (wt0 rfl) (pu_field rfl (F.ev rfl) fo28_0) rfl rfl ?_; clear F; intro φ F
  refine sq_rd F (wt0 rfl) (ld_cell rfl (F.ev rfl) one22 (fun _ e => e ▸ M.out.blk hB (by simp)) rfl) rfl rfl ?_; clear F; intro φ F
  refine sq_pure F (wt0 rfl) (pu_len rfl (F.ev rfl) sl22 (M.av (i := 0) rfl)) rfl rfl ?_; clear F; intro φ F
  refine sq_pure F (wt0 rfl) (pu_lss rfl (F.ev rfl) (F.ev rfl)) rfl rfl ?_; clear F; intro φ F
  refine nx ?_
  cases hs2 : (decide (i < ((C.length : Nat) : Int)))
  · rw [hs2] at F
    have hs2i := of_decide_eq_false hs2
    refine wp_cond_false (F.ev rfl) ?_
    refine wp_exit ?_
    refine nxe ?_
    refine nxe ?_
    refine nxm ?_
    refine nxq ?_
    refine wp_seq ?_
    -- region 6
    refine wp_region_lit ?_
    refine sq_pure F (wt0 rfl) (pu_assign rfl (evk)) rfl rfl ?_; clear F; intro φ F
    refine nx ?_
    refine wp_ret ?_
    refine rt_tmp F rfl rfl ?_
    refine ⟨?_, M.bel⟩
    rw [lack_miss hp1_2 hs2i]
  · rw [hs2] at F
    have hs2i := of_decide_eq_true hs2
    refine wp_cond_true (F.ev rfl) ?_
    refine wp_skip ?_
    refine nxq ?_
    refine wp_seq ?_
    refine wp_block ?_
    refine wp_seq ?_
    -- region 4
    refine wp_region_lit ?_
    refine sq_pure F (wt0 rfl) (pu_move rfl (F.ev rfl)) rfl rfl ?_; clear F; intro φ F
    refine sq_pure F (wt0 rfl) (pu_nilCheck rfl (F.ev rfl)) rfl rfl ?_; clear F; intro φ F
    refine sq_pure F (wt0 rfl) (pu_field rfl (F.ev rfl) fo28_0) rfl rfl ?_; clear F; intro φ F
    refine sq_rd F (wt0 rfl) (ld_cell rfl (F.ev rfl) one22 (fun _ e => e ▸ M.out.blk hB (by simp)) rfl) rfl rfl ?_; clear F; intro φ F
    refine sq_pure F (wt0 rfl) (pu_move rfl (F.ev rfl)) rfl rfl ?_; clear F; intro φ F
    refine sq_pure F (wt0 rfl) (pu_ix rfl (F.ev rfl) (F.ev rfl) sl22 (M.av (i := 0) rfl) (by omega) (by omega)) rfl rfl ?_; clear F; intro φ F
    refine sq_pure F (wt0 rfl) (pu_field rfl (F.ev rfl) fo32_1) rfl rfl ?_; clear F; intro φ F
    refine sq_rd F (wt0 rfl) (ld_elP1 (q := 2) (k := i.toNat * 3) rfl (F.ev rfl) one3 (fun _ e => e ▸ (M.av (i := 0) rfl)) (by omega) (cC_at (by first | omega | (simp; done) | (simp; omega))) rfl) rfl rfl ?_; clear F; intro φ F
    refine sq_pure F (wt0 rfl) (pu_lss rfl (F.ev rfl) (evk)) rfl rfl ?_; clear F; intro φ F
    refine nx ?_
    cases hs3 : (decide ((atC C i.toNat).2 < 0))
    · rw [hs3] at F
      have hs3i := of_decide_eq_false hs3
      refine wp_cond_false (F.ev rfl) ?_
      refine wp_skip ?_
      refine nxb ?_
      refine nxq ?_
      -- region 3
      refine wp_region_lit ?_
      refine sq_pure F (wt0 rfl) (pu_move rfl (F.ev rfl)) rfl rfl ?_; clear F; intro φ F
      refine sq_pure F (wt0 rfl) (pu_add rfl (F.ev rfl) (evk) (by omega) (by omega)) rfl rfl ?_; clear F; intro φ F
      refine sq_pure F (wt0 rfl) (pu_assign rfl (F.ev rfl)) rfl rfl ?_; clear F; intro φ F
      refine wpList_nil ?_
      exact ⟨i + 1, by omega, ((F.nil.cons (F.get (k := 3) rfl)).cons (F.get (k := 0) rfl)), M, by omega, by omega, all_succ hp1_2 hp1_0 (hs3i)⟩
    · rw [hs3] at F
      have hs3i := of_decide_eq_true hs3
      refine wp_cond_true (F.ev rfl) ?_
      refine wp_seq ?_
      -- region 5
      refine wp_region_lit ?_
      refine sq_pure F (wt0 rfl) (pu_assign rfl (evk)) rfl rfl ?_; clear F; intro φ F
      refine nx ?_
      refine wp_ret ?_
      refine nxrb ?_
      refine nxr ?_
      refine nxr ?_
      refine nxrb ?_
      refine nxr ?_
      refine rt_tmp F rfl rfl ?_
      refine ⟨?_, M.bel⟩
      rw [lack_hit (by omega) (by omega) hs3i]

set_option maxHeartbeats 1000000 in
theorem rfront_any (C : List Ct) (rb : Nat) (v : Value) (w : World) (hB : Blk w rb 28 #[v]) (hr : RdC w v C) (hlen : C.length ≤ 1000000) :
    Calls Try.prog 19 #[.pointer (some ⟨rb, 0, none⟩)] w (fun e w' => ∃ v, e = .returned v ∧ Below w.heap.size w w' ∧ w'.ownsRow w.heap.size 30 2 v (minL (posL C)).length (cS (minL (posL C)))) := by
  refine enterF Try.func19 rfl 36 Try.ntmps19 [.pointer (some ⟨rb, 0, none⟩)] rfl [(0, .pointer (some ⟨rb, 0, none⟩))] rfl ?_
  intro φ F
  have M := Mm.start [] w
  replace M := M.addArg (hr) (fun _ => by first | (simp; done) | (simp_all; done) | assumption)
  refine wp_seq ?_
  -- region 0
  refine wp_region_lit ?_
  refine sq_pure F (wt0 rfl) (pu_assign rfl (evk)) rfl rfl ?_; clear F; intro φ F
  refine nx ?_
  refine wp_seq ?_
  -- region 1
  refine wp_region_lit ?_
  refine sq_pure F (wt0 rfl) (pu_assign rfl (evk)) rfl rfl ?_; clear F; intro φ F
  refine nx ?_
  refine wp_seq ?_
  refine wp_seq ?_
  -- region 2
  refine wp_region_lit ?_
  refine sq_pure F (wt0 rfl) (pu_assign rfl (evk)) rfl rfl ?_; clear F; intro φ F
  refine nx ?_
  refine wp_block ?_
  refine lp (σ := Int) (fun i φ' w' => ∃ vq : Value, Fr φ' 36 [(0, .pointer (some ⟨rb, 0, none⟩)), (3, vq), (4, .int .i64 i)] ∧ Mm [] w w' [.row 30 2 vq ((posL (C.take i.toNat)).length) (cS (posL (C.take i.toNat))), .arg 3 v C.length (cC C)] ∧ (0 ≤ i) ∧ (i ≤ (C.length : Int)) ∧ ((posL (C.take i.toNat)).length ≤ 1000000)) (fun i => ((C.length : Int) - i).toNat) (0) ⟨(.slice none 0 0), (((F.nil.cons (F.get (k := 4) rfl)).cons (F.get (k := 3) rfl)).cons (F.get (k := 0) rfl)), (M.nilRow 30 2), Int.le_refl _, by omega, by simp [posL]⟩ ?_
  clear F M
  rintro i φ ω ⟨vq, F, M, hp1_0, hp1_1, hp1_2⟩
  refine wp_seq ?_
  refine wp_seq ?_
  -- region 3
  refine wp_region_lit ?_
  refine sq_pure F (wt0 rfl) (pu_move rfl (F.ev rfl)) rfl rfl ?_; clear F; intro φ F
  refine sq_pure F (wt0 rfl) (pu_move rfl (F.ev rfl)) rfl rfl ?_; clear F; intro φ F
  refine sq_pure F (wt0 rfl) (pu_nilCheck rfl (F.ev rfl)) rfl rfl ?_; clear F; intro φ F
  refine sq_pure F (wt0 rfl) (pu_field rfl (F.ev rfl) fo28_0) rfl rfl ?_; clear F; intro φ F
  refine sq_rd F (wt0 rfl) (ld_cell rfl (F.ev rfl) one22 (fun _ e => e ▸ M.out.blk hB (by simp)) rfl) rfl rfl ?_; clear F; intro φ F
  refine sq_pure F (wt0 rfl) (pu_len rfl (F.ev rfl) sl22 (M.av (i := 1) rfl)) rfl rfl ?_; clear F; intro φ F
  refine sq_pure F (wt0 rfl) (pu_lss rfl (F.ev rfl) (F.ev rfl)) rfl rfl ?_; clear F; intro φ F
  refine nx ?_
  cases hs2 : (decide (i < ((C.length : Nat) : Int)))
  · rw [hs2] at F
    have hs2i := of_decide_eq_false hs2
    refine wp_cond_false (F.ev rfl) ?_
    refine wp_exit ?_
    refine nxe ?_
    refine nxe ?_
    refine nxm ?_
    refine nxq ?_
    refine wp_seq ?_
    -- region 7
    refine wp_region_lit ?_
    refine sq_pure F (wt0 rfl) (pu_move rfl (F.ev rfl)) rfl rfl ?_; clear F; intro φ F
    refine sq_callN F M (wt0 rfl) rfl en30 (evc (F.ev rfl) evn) (rmin_any (posL (C.take i.toNat)) _ _ (M.rv (i := 0) rfl) (by first | omega | (simp; done) | (simp; omega))) rfl rfl ?_; clear F M; intro φ ω v1 F M
    refine sq_pure F (wt0 rfl) (pu_assign rfl (F.ev rfl)) rfl rfl ?_; clear F; intro φ F
    refine nx ?_
    refine wp_ret ?_
    refine rt_tmp F rfl rfl ?_
    have zz := M.owB (i := 0) rfl
    rw [List.take_of_length_le (by omega)] at zz
    exact ⟨_, rfl, M.bel, zz⟩
  · rw [hs2] at F
    have hs2i := of_decide_eq_true hs2
    refine wp_cond_true (F.ev rfl) ?_
    refine wp_skip ?_
    refine nxq ?_
    refine wp_seq ?_
    refine wp_block ?_
    refine wp_seq ?_
    -- region 5
    refine wp_region_lit ?_
    refine sq_pure F (wt0 rfl) (pu_move rfl (F.ev rfl)) rfl rfl ?_; clear F; intro φ F
    refine sq_pure F (wt0 rfl) (pu_nilCheck rfl (F.ev rfl)) rfl rfl ?_; clear F; intro φ F
    refine sq_pure F (wt0 rfl) (pu_field rfl (F.ev rfl) fo28_0) rfl rfl ?_; clear F; intro φ F
    refine sq_rd F (wt0 rfl) (ld_cell rfl (F.ev rfl) one22 (fun _ e => e ▸ M.out.blk hB (by simp)) rfl) rfl rfl ?_; clear F; intro φ F
    refine sq_pure F (wt0 rfl) (pu_move rfl (F.ev rfl)) rfl rfl ?_; clear F; intro φ F
    refine sq_pure F (wt0 rfl) (pu_ix rfl (F.ev rfl) (F.ev rfl) sl22 (M.av (i := 1) rfl) (by omega) (by omega)) rfl rfl ?_; clear F; intro φ F
    refine sq_pure F (wt0 rfl) (pu_field rfl (F.ev rfl) fo32_1) rfl rfl ?_; clear F; intro φ F
    refine sq_rd F (wt0 rfl) (ld_elP1 (q := 2) (k := i.toNat * 3) rfl (F.ev rfl) one3 (fun _ e => e ▸ (M.av (i := 1) rfl)) (by omega) (cC_at (by first | omega | (simp; done) | (simp; omega))) rfl) rfl rfl ?_; clear F; intro φ F
    refine sq_pure F (wt0 rfl) (pu_gtr rfl (F.ev rfl) (evk)) rfl rfl ?_; clear F; intro φ F
    refine nx ?_
    cases hs3 : (decide (0 < (atC C i.toNat).2))
    · rw [hs3] at F
      have hs3i := of_decide_eq_false hs3
      refine wp_cond_false (F.ev rfl) ?_
      refine wp_skip ?_
      refine nxb ?_
      refine nxq ?_
      -- region 4
      refine wp_region_lit ?_
      refine sq_pure F (wt0 rfl) (pu_move rfl (F.ev rfl)) rfl rfl ?_; clear F; intro φ F
      refine sq_pure F (wt0 rfl) (pu_add rfl (F.ev rfl) (evk) (by omega) (by omega)) rfl rfl ?_; clear F; intro φ F
      refine sq_pure F (wt0 rfl) (pu_assign rfl (F.ev rfl)) rfl rfl ?_; clear F; intro φ F
      refine wpList_nil ?_
      exact ⟨i + 1, by omega, vq, (((F.nil.cons (F.get (k := 4) rfl)).cons (F.get (k := 3) rfl)).cons (F.get (k := 0) rfl)), (by rw [pos_no (by omega) (by omega) hs3i]; exact M), by omega, by omega, Nat.le_trans (pos_take _ _) hlen⟩
    · rw [hs3] at F
      have hs3i := of_decide_eq_true hs3
      refine wp_cond_true (F.ev rfl) ?_
      -- region 6
      refine wp_region_lit ?_
      refine sq_pure F (wt0 rfl) (pu_move rfl (F.ev rfl)) rfl rfl ?_; clear F; intro φ F
      refine sq_pure F (wt0 rfl) (pu_move rfl (F.ev rfl)) rfl rfl ?_; clear F; intro φ F
      refine sq_pure F (wt0 rfl) (pu_nilCheck rfl (F.ev rfl)) rfl rfl ?_; clear F; intro φ F
      refine sq_pure F (wt0 rfl) (pu_field rfl (F.ev rfl) fo28_0) rfl rfl ?_; clear F; intro φ F
      refine sq_rd F (wt0 rfl) (ld_cell rfl (F.ev rfl) one22 (fun _ e => e ▸ M.out.blk hB (by simp)) rfl) rfl rfl ?_; clear F; intro φ F
      refine sq_pure F (wt0 rfl) (pu_move rfl (F.ev rfl)) rfl rfl ?_; clear F; intro φ F
      refine sq_pure F (wt0 rfl) (pu_ix rfl (F.ev rfl) (F.ev rfl) sl22 (M.av (i := 1) rfl) (by omega) (by omega)) rfl rfl ?_; clear F; intro φ F
      refine sq_pure F (wt0 rfl) (pu_field rfl (F.ev rfl) fo32_0) rfl rfl ?_; clear F; intro φ F
      refine sq_rd F (wt0 rfl) (ld_elP (q := 0) (k := i.toNat * 3) rfl (F.ev rfl) agg30 (fun _ e => e ▸ (M.av (i := 1) rfl)) (by omega) (cC_at (by first | omega | (simp; done) | (simp; omega))) (by omega) rfl rfl) rfl rfl ?_; clear F; intro φ F
      refine sq_bs (e := 30) (m := 2) (k := 1) (parts := #[]) (cs := #[.int .i64 ((atC C i.toNat).1.e), .int .i64 ((atC C i.toNat).1.r)]) F M (wt0 rfl) (bs38_1 rfl (F.ev rfl) _) (by omega) rfl rfl rfl ?_; clear F M; intro φ ω g1 F M
      replace M : Mm [] w ω [.row 30 2 (.slice (some ⟨g1, 0, none⟩) 1 1) 1 (cS [(atC C i.toNat).1]), .row 30 2 vq ((posL (C.take i.toNat)).length) (cS (posL (C.take i.toNat))), .arg 3 v C.length (cC C)] := M
      refine sq_app F M (wt0 rfl) rfl sl38.1 el30 (F.ev rfl) (i := 1) rfl (F.ev rfl) (M.rv (i := 0) rfl) (cS_ones _) (by first | omega | (simp only [List.length_append, List.length_cons, List.length_nil, List.length_singleton]; omega)) (by omega) rfl rfl ?_; clear F M; intro φ ω v2 F M
      replace M : Mm [] w ω [.row 30 2 (.slice (some ⟨g1, 0, none⟩) 1 1) 1 (cS [(atC C i.toNat).1]), .row 30 2 v2 (((posL (C.take i.toNat)).length) + 1) ((cS (posL (C.take i.toNat))) ++ (cS [(atC C i.toNat).1])), .arg 3 v C.length (cC C)] := M
      rw [← cS_app, show ((posL (C.take i.toNat)).length) + 1 = ((posL (C.take i.toNat)) ++ [(atC C i.toNat).1]).length from by first | rfl | (simp; done) | (simp; omega)] at M
      refine sq_pure F (wt0 rfl) (pu_assign rfl (F.ev rfl)) rfl rfl ?_; clear F; intro φ F
      refine wpList_nil ?_
      refine nxb ?_
      refine nxq ?_
      -- region 4
      refine wp_region_lit ?_
      refine sq_pure F (wt0 rfl) (pu_move rfl (F.ev rfl)) rfl rfl ?_; clear F; intro φ F
      refine sq_pure F (wt0 rfl) (pu_add rfl (F.ev rfl) (evk) (by omega) (by omega)) rfl rfl ?_; clear F; intro φ F
      refine sq_pure F (wt0 rfl) (pu_assign rfl (F.ev rfl)) rfl rfl ?_; clear F; intro φ F
      refine wpList_nil ?_
      exact ⟨i + 1, by omega, v2, (((F.nil.cons (F.get (k := 4) rfl)).cons (F.get (k := 3) rfl)).cons (F.get (k := 0) rfl)), (by rw [pos_yes (by omega) (by omega) hs3i]; exact (M.sub (.cons _ (List.Sublist.refl _)))), by omega, by omega, Nat.le_trans (pos_take _ _) hlen⟩

set_option maxHeartbeats 1000000 in
theorem csame_any (C D : List Ct) (u v : Value) (w : World) (hk : RdC w u C) (hr : RdC w v D) (hlk : C.length ≤ 1000000) (hlen : D.length ≤ 1000000) :
    Calls Try.prog 15 #[u, v] w (fun e w' => e = .returned ((.bool (decide (C = D)))) ∧ Below w.heap.size w w') := by
  refine enterF Try.func15 rfl 26 Try.ntmps15 [u, v] rfl [(0, u), (1, v)] rfl ?_
  intro φ F
  have M := Mm.start [] w
  replace M := M.addArg (hr) (fun _ => by first | (simp; done) | (simp_all; done) | assumption)
  replace M := M.addArg (hk) (fun _ => by first | (simp; done) | (simp_all; done) | assumption)
  refine wp_seq ?_
  -- region 0
  refine wp_region_lit ?_
  refine sq_pure F (wt0 rfl) (pu_assign rfl (evk)) rfl rfl ?_; clear F; intro φ F
  refine nx ?_
  refine wp_seq ?_
  refine wp_seq ?_
  -- region 1
  refine wp_region_lit ?_
  refine sq_pure F (wt0 rfl) (pu_move rfl (F.ev rfl)) rfl rfl ?_; clear F; intro φ F
  refine sq_pure F (wt0 rfl) (pu_len rfl (F.ev rfl) sl22 (M.av (i := 0) rfl)) rfl rfl ?_; clear F; intro φ F
  refine sq_pure F (wt0 rfl) (pu_move rfl (F.ev rfl)) rfl rfl ?_; clear F; intro φ F
  refine sq_pure F (wt0 rfl) (pu_len rfl (F.ev rfl) sl22 (M.av (i := 1) rfl)) rfl rfl ?_; clear F; intro φ F
  cases hs1 : (decide (((C.length : Nat) : Int) = ((D.length : Nat) : Int)))
  · skip
    have hs1i := of_decide_eq_false hs1
    refine sq_pure F (wt0 rfl) (pu_neqI rfl (F.ev rfl) (F.ev rfl)) rfl rfl ?_; clear F; intro φ F
    rw [hs1, show (!false) = true from rfl] at F
    refine nx ?_
    refine wp_cond_true (F.ev rfl) ?_
    refine wp_seq ?_
    -- region 2
    refine wp_region_lit ?_
    refine sq_pure F (wt0 rfl) (pu_assign rfl (evk)) rfl rfl ?_; clear F; intro φ F
    refine nx ?_
    refine wp_ret ?_
    refine nxr ?_
    refine rt_tmp F rfl rfl ?_
    refine ⟨?_, M.bel⟩
    rw [decide_eq_false (fun e => hs1i (by rw [e]))]
  · skip
    have hs1i := of_decide_eq_true hs1
    refine sq_pure F (wt0 rfl) (pu_neqI rfl (F.ev rfl) (F.ev rfl)) rfl rfl ?_; clear F; intro φ F
    rw [hs1, show (!true) = false from rfl] at F
    refine nx ?_
    refine wp_cond_false (F.ev rfl) ?_
    refine wp_skip ?_
    refine nxq ?_
    refine wp_seq ?_
    refine wp_seq ?_
    -- region 3
    refine wp_region_lit ?_
    refine sq_pure F (wt0 rfl) (pu_assign rfl (evk)) rfl rfl ?_; clear F; intro φ F
    refine nx ?_
    refine wp_block ?_
    refine lp (σ := Int) (fun i φ' w' => Fr φ' 26 [(0, u), (1, v), (5, .int .i64 i)] ∧ Mm [] w w' [.arg 3 u C.length (cC C), .arg 3 v D.length (cC D)] ∧ (0 ≤ i) ∧ (i ≤ (C.length : Int)) ∧ (∀ k, k < i.toNat → atC C k = atC D k)) (fun i => ((C.length : Int) - i).toNat) (0) ⟨(((F.nil.cons (F.get (k := 5) rfl)).cons (F.get (k := 1) rfl)).cons (F.get (k := 0) rfl)), M, Int.le_refl _, by omega, all_none⟩ ?_
    clear F M
    rintro i φ ω ⟨F, M, hp2_0, hp2_1, hp2_2⟩
    refine wp_seq ?_
    refine wp_seq ?_
    -- region 4
    refine wp_region_lit ?_
    refine sq_pure F (wt0 rfl) (pu_move rfl (F.ev rfl)) rfl rfl ?_; clear F; intro φ F
    refine sq_pure F (wt0 rfl) (pu_move rfl (F.ev rfl)) rfl rfl ?_; clear F; intro φ F
    refine sq_pure F (wt0 rfl) (pu_len rfl (F.ev rfl) sl22 (M.av (i := 0) rfl)) rfl rfl ?_; clear F; intro φ F
    refine sq_pure F (wt0 rfl) (pu_lss rfl (F.ev rfl) (F.ev rfl)) rfl rfl ?_; clear F; intro φ F
    refine nx ?_
    cases hs3 : (decide (i < ((C.length : Nat) : Int)))
    · rw [hs3] at F
      have hs3i := of_decide_eq_false hs3
      refine wp_cond_false (F.ev rfl) ?_
      refine wp_exit ?_
      refine nxe ?_
      refine nxe ?_
      refine nxm ?_
      refine nxq ?_
      refine wp_seq ?_
      -- region 8
      refine wp_region_lit ?_
      refine sq_pure F (wt0 rfl) (pu_assign rfl (evk)) rfl rfl ?_; clear F; intro φ F
      refine nx ?_
      refine wp_ret ?_
      refine rt_tmp F rfl rfl ?_
      refine ⟨?_, M.bel⟩
      rw [decide_eq_true (ext_atC (by omega) hp2_2 hs3i)]
    · rw [hs3] at F
      have hs3i := of_decide_eq_true hs3
      refine wp_cond_true (F.ev rfl) ?_
      refine wp_skip ?_
      refine nxq ?_
      refine wp_seq ?_
      refine wp_block ?_
      refine wp_seq ?_
      -- region 6
      refine rg_quiet M mixedOK (by kernel_rfl) ?_
      refine qt_pure F (wt0 rfl) (pu_move rfl (F.ev rfl)) rfl rfl ?_; clear F; intro φ F
      refine qt_pure F (wt0 rfl) (pu_move rfl (F.ev rfl)) rfl rfl ?_; clear F; intro φ F
      refine qt_pure F (wt0 rfl) (pu_ix rfl (F.ev rfl) (F.ev rfl) sl22 (M.av (i := 0) rfl) (by omega) (by omega)) rfl rfl ?_; clear F; intro φ F
      refine qt_rd F (wt0 rfl) (ld_el rfl (F.ev rfl) agg32 (fun _ h => RdV.below (M.av (i := 0) rfl) h) (by omega) (cC_at (by first | omega | (simp; done) | (simp; omega))) rfl) rfl rfl ?_; clear F; intro φ F
      refine qt_pure F (wt0 rfl) (pu_move rfl (F.ev rfl)) rfl rfl ?_; clear F; intro φ F
      refine qt_pure F (wt0 rfl) (pu_move rfl (F.ev rfl)) rfl rfl ?_; clear F; intro φ F
      refine qt_pure F (wt0 rfl) (pu_ix rfl (F.ev rfl) (F.ev rfl) sl22 (M.av (i := 1) rfl) (by omega) (by omega)) rfl rfl ?_; clear F; intro φ F
      refine qt_rd F (wt0 rfl) (ld_el rfl (F.ev rfl) agg32 (fun _ h => RdV.below (M.av (i := 1) rfl) h) (by omega) (cC_at (by first | omega | (simp; done) | (simp; omega))) rfl) rfl rfl ?_; clear F; intro φ F
      cases hs4 : (decide ((atC C i.toNat) = (atC D i.toNat)))
      · skip
        have hs4i := of_decide_eq_false hs4
        refine qt_pure F (wt0 rfl) (pu_neqA rfl (F.ev rfl) (F.ev rfl) eqg32 (fun w => eqCt (atC C i.toNat) (atC D i.toNat) w)) rfl rfl ?_; clear F; intro φ F
        rw [hs4, show (!false) = true from rfl] at F
        refine wpQuiet_nil ?_
        clear M; intro ω M
        refine nxq ?_
        refine wp_cond_true (F.ev rfl) ?_
        refine wp_seq ?_
        -- region 7
        refine wp_region_lit ?_
        refine sq_pure F (wt0 rfl) (pu_assign rfl (evk)) rfl rfl ?_; clear F; intro φ F
        refine nx ?_
        refine wp_ret ?_
        refine nxrb ?_
        refine nxr ?_
        refine nxr ?_
        refine nxrb ?_
        refine nxr ?_
        refine rt_tmp F rfl rfl ?_
        refine ⟨?_, M.bel⟩
        rw [decide_eq_false (fun e => hs4i (by rw [e]))]
      · skip
        have hs4i := of_decide_eq_true hs4
        refine qt_pure F (wt0 rfl) (pu_neqA rfl (F.ev rfl) (F.ev rfl) eqg32 (fun w => eqCt (atC C i.toNat) (atC D i.toNat) w)) rfl rfl ?_; clear F; intro φ F
        rw [hs4, show (!true) = false from rfl] at F
        refine wpQuiet_nil ?_
        clear M; intro ω M
        refine nxq ?_
        refine wp_cond_false (F.ev rfl) ?_
        refine wp_skip ?_
        refine nxb ?_
        refine nxq ?_
        -- region 5
        refine wp_region_lit ?_
        refine sq_pure F (wt0 rfl) (pu_move rfl (F.ev rfl)) rfl rfl ?_; clear F; intro φ F
        refine sq_pure F (wt0 rfl) (pu_add rfl (F.ev rfl) (evk) (by omega) (by omega)) rfl rfl ?_; clear F; intro φ F
        refine sq_pure F (wt0 rfl) (pu_assign rfl (F.ev rfl)) rfl rfl ?_; clear F; intro φ F
        refine wpList_nil ?_
        exact ⟨i + 1, by omega, (((F.nil.cons (F.get (k := 5) rfl)).cons (F.get (k := 1) rfl)).cons (F.get (k := 0) rfl)), M, by omega, by omega, all_succ hp2_2 hp2_0 (hs4i)⟩

set_option maxHeartbeats 1000000 in
theorem radd_any (C : List Ct) (rb : Nat) (v : Value) (t : St) (n : Int) (w : World) (hb : RefV rb v C w) (hlen : C.length ≤ 500000) :
    Calls Try.prog 14 #[.pointer (some ⟨rb, 0, none⟩), .agg #[.int .i64 t.e, .int .i64 t.r], .int .i64 n] w (RefPost w rb v C (addC C t n) (addE C t n)) := by
  obtain ⟨hB, hr, hok⟩ := hb
  have ha := RefV.apart hB hr
  have hag := ref_gof hr ha
  have hbo := hok.bound t
  refine enterF Try.func14 rfl 95 Try.ntmps14 [.pointer (some ⟨rb, 0, none⟩), .agg #[.int .i64 t.e, .int .i64 t.r], .int .i64 n] rfl [(0, .pointer (some ⟨rb, 0, none⟩)), (1, .agg #[.int .i64 t.e, .int .i64 t.r]), (2, .int .i64 n)] rfl ?_
  intro φ F
  have M := Mm.start [rb] w
  replace M := M.addArg ((own_rdv hr)) (fun _ => by first | (simp; done) | (simp_all; done) | assumption)
  replace M := M.addX (hB) (by simp) (by simp [Ent.fp] <;> omega)
  refine wp_seq ?_
  -- region 0
  refine wp_region_lit ?_
  refine sq_box F M (wt0 rfl) rfl (F.ev rfl) (cs := #[.int .i64 t.e, .int .i64 t.r]) rfl rfl rfl ?_; clear F M; intro φ ω g1 F M
  refine sq_pure F (wt0 rfl) (pu_assign rfl (evk)) rfl rfl ?_; clear F; intro φ F
  refine nx ?_
  refine wp_seq ?_
  refine wp_seq ?_
  -- region 1
  refine wp_region_lit ?_
  refine sq_rd F (wt0 rfl) (ld_agg rfl (F.ev rfl) agg30 (M.rd (i := 0) rfl) rfl) rfl rfl ?_; clear F; intro φ F
  refine sq_call F M (wt0 rfl) rfl en26 (evc (F.ev rfl) evn) (rright_any t _) rfl rfl ?_; clear F M; intro φ ω F M
  cases hs1 : t.rightB
  · rw [hs1] at F
    refine sq_pure F (wt0 rfl) (pu_not rfl (F.ev rfl)) rfl rfl ?_; clear F; intro φ F
    rw [show (!false) = true from rfl] at F
    refine nx ?_
    refine wp_cond_true (F.ev rfl) ?_
    refine wp_seq ?_
    -- region 2
    refine wp_region_lit ?_
    refine sq_pure F (wt0 rfl) (pu_assign rfl (evk)) rfl rfl ?_; clear F; intro φ F
    refine nx ?_
    refine wp_ret ?_
    refine nxr ?_
    refine rt_tmp F rfl rfl ?_
    have z := addE_wrong (C := C) (n := n) hs1
    exact ref_same M.out (M.at (i := 1) rfl) hr ha hok z (addC_no (by rw [z]; decide)).symm
  · rw [hs1] at F
    refine sq_pure F (wt0 rfl) (pu_not rfl (F.ev rfl)) rfl rfl ?_; clear F; intro φ F
    rw [show (!true) = false from rfl] at F
    refine nx ?_
    refine wp_cond_false (F.ev rfl) ?_
    refine wp_skip ?_
    refine nxq ?_
    refine wp_seq ?_
    refine wp_seq ?_
    -- region 3
    refine wp_region_lit ?_
    refine sq_pure F (wt0 rfl) (pu_move rfl (F.ev rfl)) rfl rfl ?_; clear F; intro φ F
    refine sq_pure F (wt0 rfl) (pu_gtr rfl (F.ev rfl) (evk)) rfl rfl ?_; clear F; intro φ F
    refine sq_pure F (wt0 rfl) (pu_move rfl (F.ev rfl)) rfl rfl ?_; clear F; intro φ F
    cases hs2 : (decide (2000000000 < n))
    · rw [hs2] at F
      have hs2i := of_decide_eq_false hs2
      refine sq_pure F (wt1 F rfl rfl rfl rfl rfl) (pu_move rfl (F.ev rfl)) rfl rfl ?_; clear F; intro φ F
      refine sq_pure F (wt1 F rfl rfl rfl rfl rfl) (pu_lss rfl (F.ev rfl) (evk)) rfl rfl ?_; clear F; intro φ F
      refine sq_pure F (wt0 rfl) (pu_pickf rfl (F.ev rfl) (F.ev rfl)) rfl rfl ?_; clear F; intro φ F
      refine nx ?_
      cases hs3 : (decide (n < -2000000000))
      · rw [hs3] at F
        have hs3i := of_decide_eq_false hs3
        refine wp_cond_false (F.ev rfl) ?_
        refine wp_skip ?_
        refine nxq ?_
        refine wp_seq ?_
        -- region 5
        refine wp_region_lit ?_
        refine sq_pure F (wt0 rfl) (pu_move rfl (F.ev rfl)) rfl rfl ?_; clear F; intro φ F
        refine sq_rd F (wt0 rfl) (ld_agg rfl (F.ev rfl) agg30 (M.rd (i := 0) rfl) rfl) rfl rfl ?_; clear F; intro φ F
        refine sq_call F M (wt0 rfl) rfl en23 (evc (F.ev rfl) (evc (F.ev rfl) evn)) (rof_any C rb v t _ (M.at (i := 1) rfl) (M.av (i := 2) rfl) (by first | omega | (simp; done) | (simp; omega))) rfl rfl ?_; clear F M; intro φ ω F M
        refine sq_pure F (wt0 rfl) (pu_move rfl (F.ev rfl)) rfl rfl ?_; clear F; intro φ F
        refine sq_pure F (wt0 rfl) (pu_add rfl (F.ev rfl) (F.ev rfl) (by omega) (by omega)) rfl rfl ?_; clear F; intro φ F
        refine sq_pure F (wt0 rfl) (pu_assign rfl (F.ev rfl)) rfl rfl ?_; clear F; intro φ F
        refine nx ?_
        refine wp_seq ?_
        refine wp_seq ?_
        -- region 6
        refine wp_region_lit ?_
        refine sq_pure F (wt0 rfl) (pu_move rfl (F.ev rfl)) rfl rfl ?_; clear F; intro φ F
        refine sq_pure F (wt0 rfl) (pu_gtr rfl (F.ev rfl) (evk)) rfl rfl ?_; clear F; intro φ F
        refine sq_pure F (wt0 rfl) (pu_move rfl (F.ev rfl)) rfl rfl ?_; clear F; intro φ F
        cases hs4 : (decide (1000000000 < ofC C t + n))
        · rw [hs4] at F
          have hs4i := of_decide_eq_false hs4
          refine sq_pure F (wt1 F rfl rfl rfl rfl rfl) (pu_move rfl (F.ev rfl)) rfl rfl ?_; clear F; intro φ F
          refine sq_pure F (wt1 F rfl rfl rfl rfl rfl) (pu_lss rfl (F.ev rfl) (evk)) rfl rfl ?_; clear F; intro φ F
          refine sq_pure F (wt0 rfl) (pu_pickf rfl (F.ev rfl) (F.ev rfl)) rfl rfl ?_; clear F; intro φ F
          refine nx ?_
          cases hs5 : (decide (ofC C t + n < -1000000000))
          · rw [hs5] at F
            have hs5i := of_decide_eq_false hs5
            refine wp_cond_false (F.ev rfl) ?_
            refine wp_skip ?_
            refine nxq ?_
            refine wp_seq ?_
            -- region 8
            refine wp_region_lit ?_
            refine sq_pure F (wt0 rfl) (pu_assign rfl (evk)) rfl rfl ?_; clear F; intro φ F
            refine nx ?_
            refine wp_seq ?_
            -- region 9
            refine wp_region_lit ?_
            refine sq_pure F (wt0 rfl) (pu_move rfl (F.ev rfl)) rfl rfl ?_; clear F; intro φ F
            refine sq_pure F (wt0 rfl) (pu_eqlI rfl (F.ev rfl) (evk)) rfl rfl ?_; clear F; intro φ F
            refine sq_pure F (wt0 rfl) (pu_assign rfl (F.ev rfl)) rfl rfl ?_; clear F; intro φ F
            refine nx ?_
            refine wp_seq ?_
            refine wp_seq ?_
            -- region 10
            refine wp_region_lit ?_
            refine sq_pure F (wt0 rfl) (pu_assign rfl (evk)) rfl rfl ?_; clear F; intro φ F
            refine nx ?_
            refine wp_block ?_
            refine lp (σ := Int) (fun i φ' w' => ∃ vq : Value, ∃ Q : List Ct, ∃ bq : Bool, Fr φ' 95 [(0, .pointer (some ⟨rb, 0, none⟩)), (2, .int .i64 n), (4, .pointer (some ⟨g1, 0, none⟩)), (7, .int .i64 (ofC C t + n)), (8, vq), (9, .bool bq), (10, .int .i64 i)] ∧ Mm [rb] w w' [.row 32 3 vq Q.length (cC Q), .blk g1 30 #[.int .i64 t.e, .int .i64 t.r], .blk rb 28 #[v], .arg 3 v C.length (cC C)] ∧ (0 ≤ i) ∧ (i ≤ (C.length : Int)) ∧ ((Q, bq) = runC t (ofC C t + n) (C.take i.toNat)) ∧ (Q.length ≤ 2000000)) (fun i => ((C.length : Int) - i).toNat) (0) ⟨(.slice none 0 0), [], (decide (ofC C t + n = 0)), (((((((F.nil.cons (F.get (k := 10) rfl)).cons (F.get (k := 9) rfl)).cons (F.get (k := 8) rfl)).cons (F.get (k := 7) rfl)).cons (F.get (k := 4) rfl)).cons (F.get (k := 2) rfl)).cons (F.get (k := 0) rfl)), (M.nilRow 32 3), Int.le_refl _, by omega, run_zero _ _ _, by simp⟩ ?_
            clear F M
            rintro i φ ω ⟨vq, Q, bq, F, M, hp6_0, hp6_1, hp6_2, hp6_3⟩
            refine wp_seq ?_
            refine wp_seq ?_
            -- region 11
            refine wp_region_lit ?_
            refine sq_pure F (wt0 rfl) (pu_move rfl (F.ev rfl)) rfl rfl ?_; clear F; intro φ F
            refine sq_pure F (wt0 rfl) (pu_move rfl (F.ev rfl)) rfl rfl ?_; clear F; intro φ F
            refine sq_pure F (wt0 rfl) (pu_nilCheck rfl (F.ev rfl)) rfl rfl ?_; clear F; intro φ F
            refine sq_pure F (wt0 rfl) (pu_field rfl (F.ev rfl) fo28_0) rfl rfl ?_; clear F; intro φ F
            refine sq_rd F (wt0 rfl) (ld_cell rfl (F.ev rfl) one22 (M.rd (i := 2) rfl) rfl) rfl rfl ?_; clear F; intro φ F
            refine sq_pure F (wt0 rfl) (pu_len rfl (F.ev rfl) sl22 (M.av (i := 3) rfl)) rfl rfl ?_; clear F; intro φ F
            refine sq_pure F (wt0 rfl) (pu_lss rfl (F.ev rfl) (F.ev rfl)) rfl rfl ?_; clear F; intro φ F
            refine nx ?_
            cases hs7 : (decide (i < ((C.length : Nat) : Int)))
            · rw [hs7] at F
              have hs7i := of_decide_eq_false hs7
              refine wp_cond_false (F.ev rfl) ?_
              refine wp_exit ?_
              refine nxe ?_
              refine nxe ?_
              refine nxm ?_
              refine nxq ?_
              refine wp_seq ?_
              refine wp_seq ?_
              -- region 18
              refine wp_region_lit ?_
              refine sq_pure F (wt0 rfl) (pu_move rfl (F.ev rfl)) rfl rfl ?_; clear F; intro φ F
              cases hs8 : bq
              · rw [hs8] at F
                refine sq_pure F (wt0 rfl) (pu_not rfl (F.ev rfl)) rfl rfl ?_; clear F; intro φ F
                rw [show (!false) = true from rfl] at F
                refine nx ?_
                refine wp_cond_true (F.ev rfl) ?_
                -- region 19
                refine wp_region_lit ?_
                refine sq_pure F (wt0 rfl) (pu_move rfl (F.ev rfl)) rfl rfl ?_; clear F; intro φ F
                refine sq_rd F (wt0 rfl) (ld_agg rfl (F.ev rfl) agg30 (M.rd (i := 1) rfl) rfl) rfl rfl ?_; clear F; intro φ F
                refine sq_pure F (wt0 rfl) (pu_move rfl (F.ev rfl)) rfl rfl ?_; clear F; intro φ F
                refine sq_pure F (wt0 rfl) (bu32_0_1 rfl (F.ev rfl) (F.ev rfl)) rfl rfl ?_; clear F; intro φ F
                refine sq_bs (e := 32) (m := 3) (k := 1) (parts := #[]) (cs := #[.int .i64 t.e, .int .i64 t.r, .int .i64 (ofC C t + n)]) F M (wt0 rfl) (bs22_1 rfl (F.ev rfl) _) (by omega) rfl rfl rfl ?_; clear F M; intro φ ω g2 F M
                replace M : Mm [rb] w ω [.row 32 3 (.slice (some ⟨g2, 0, none⟩) 1 1) 1 (cC [(t, ofC C t + n)]), .row 32 3 vq Q.length (cC Q), .blk g1 30 #[.int .i64 t.e, .int .i64 t.r], .blk rb 28 #[v], .arg 3 v C.length (cC C)] := M
                refine sq_app F M (wt0 rfl) rfl sl22.1 el32 (F.ev rfl) (i := 1) rfl (F.ev rfl) (M.rv (i := 0) rfl) (cC_ones _) (by first | omega | (simp only [List.length_append, List.length_cons, List.length_nil, List.length_singleton]; omega)) (by omega) rfl rfl ?_; clear F M; intro φ ω v1 F M
                replace M : Mm [rb] w ω [.row 32 3 (.slice (some ⟨g2, 0, none⟩) 1 1) 1 (cC [(t, ofC C t + n)]), .row 32 3 v1 (Q.length + 1) ((cC Q) ++ (cC [(t, ofC C t + n)])), .blk g1 30 #[.int .i64 t.e, .int .i64 t.r], .blk rb 28 #[v], .arg 3 v C.length (cC C)] := M
                rw [← cC_app, show Q.length + 1 = (Q ++ [(t, ofC C t + n)]).length from by first | rfl | (simp; done) | (simp; omega)] at M
                refine sq_pure F (wt0 rfl) (pu_assign rfl (F.ev rfl)) rfl rfl ?_; clear F; intro φ F
                refine nx ?_
                refine wp_seq ?_
                -- region 20
                refine wp_region_lit ?_
                refine sq_pure F (wt0 rfl) (pu_move rfl (F.ev rfl)) rfl rfl ?_; clear F; intro φ F
                refine sq_pure F (wt0 rfl) (pu_move rfl (F.ev rfl)) rfl rfl ?_; clear F; intro φ F
                refine sq_pure F (wt0 rfl) (pu_nilCheck rfl (F.ev rfl)) rfl rfl ?_; clear F; intro φ F
                refine sq_pure F (wt0 rfl) (pu_field rfl (F.ev rfl) fo28_0) rfl rfl ?_; clear F; intro φ F
                refine sq_stC F M (wt0 rfl) rfl (F.ev rfl) (F.ev rfl) (i := 3) rfl (by simp) si22 (slc_one (M.rv (i := 1) rfl)).1 (slc_one (M.rv (i := 1) rfl)).2 rfl ?_; clear M; intro ω M
                replace M : Mm [rb] w ω [.row 32 3 (.slice (some ⟨g2, 0, none⟩) 1 1) 1 (cC [(t, ofC C t + n)]), .row 32 3 v1 ((Q ++ [(t, ofC C t + n)]).length) (cC (Q ++ [(t, ofC C t + n)])), .blk g1 30 #[.int .i64 t.e, .int .i64 t.r], .blk rb 28 #[v1], .arg 3 v C.length (cC C)] := M
                refine nx ?_
                refine wp_seq ?_
                -- region 21
                refine wp_region_lit ?_
                refine sq_pure F (wt0 rfl) (pu_assign rfl (evk)) rfl rfl ?_; clear F; intro φ F
                refine nx ?_
                refine wp_ret ?_
                refine rt_tmp F rfl rfl ?_
                have z := addE_ok (C := C) (n := n) hs1 (by omega)
                exact ref_new M.out (M.at (i := 3) rfl) (M.ow (i := 1) rfl) (M.rowNew (i := 1) rfl) hok z (by rw [addC_yes z]; exact run_put hok.asc hp6_2 hs7i hs8)
              · rw [hs8] at F
                refine sq_pure F (wt0 rfl) (pu_not rfl (F.ev rfl)) rfl rfl ?_; clear F; intro φ F
                rw [show (!true) = false from rfl] at F
                refine nx ?_
                refine wp_cond_false (F.ev rfl) ?_
                refine wp_skip ?_
                refine nxq ?_
                refine wp_seq ?_
                -- region 20
                refine wp_region_lit ?_
                refine sq_pure F (wt0 rfl) (pu_move rfl (F.ev rfl)) rfl rfl ?_; clear F; intro φ F
                refine sq_pure F (wt0 rfl) (pu_move rfl (F.ev rfl)) rfl rfl ?_; clear F; intro φ F
                refine sq_pure F (wt0 rfl) (pu_nilCheck rfl (F.ev rfl)) rfl rfl ?_; clear F; intro φ F
                refine sq_pure F (wt0 rfl) (pu_field rfl (F.ev rfl) fo28_0) rfl rfl ?_; clear F; intro φ F
                refine sq_stC F M (wt0 rfl) rfl (F.ev rfl) (F.ev rfl) (i := 2) rfl (by simp) si22 (slc_one (M.rv (i := 0) rfl)).1 (slc_one (M.rv (i := 0) rfl)).2 rfl ?_; clear M; intro ω M
                replace M : Mm [rb] w ω [.row 32 3 vq Q.length (cC Q), .blk g1 30 #[.int .i64 t.e, .int .i64 t.r], .blk rb 28 #[vq], .arg 3 v C.length (cC C)] := M
                refine nx ?_
                refine wp_seq ?_
                -- region 21
                refine wp_region_lit ?_
                refine sq_pure F (wt0 rfl) (pu_assign rfl (evk)) rfl rfl ?_; clear F; intro φ F
                refine nx ?_
                refine wp_ret ?_
                refine rt_tmp F rfl rfl ?_
                have z := addE_ok (C := C) (n := n) hs1 (by omega)
                exact ref_new M.out (M.at (i := 2) rfl) (M.ow (i := 0) rfl) (M.rowNew (i := 0) rfl) hok z (by rw [addC_yes z]; exact run_done hok.asc hp6_2 hs7i hs8)
            · rw [hs7] at F
              have hs7i := of_decide_eq_true hs7
              refine wp_cond_true (F.ev rfl) ?_
              refine wp_skip ?_
              refine nxq ?_
              refine wp_seq ?_
              refine wp_block ?_
              refine wp_seq ?_
              refine wp_seq ?_
              -- region 13
              refine rg_quiet M mixedOK (by kernel_rfl) ?_
              refine qt_pure F (wt0 rfl) (pu_move rfl (F.ev rfl)) rfl rfl ?_; clear F; intro φ F
              cases hs9 : bq
              · rw [hs9] at F
                refine qt_pure F (wt0 rfl) (pu_not rfl (F.ev rfl)) rfl rfl ?_; clear F; intro φ F
                rw [show (!false) = true from rfl] at F
                refine qt_pure F (wt0 rfl) (pu_move rfl (F.ev rfl)) rfl rfl ?_; clear F; intro φ F
                refine qt_pure F (wt1 F rfl rfl rfl rfl rfl) (pu_move rfl (F.ev rfl)) rfl rfl ?_; clear F; intro φ F
                refine qt_pure F (wt1 F rfl rfl rfl rfl rfl) (pu_nilCheck rfl (F.ev rfl)) rfl rfl ?_; clear F; intro φ F
                refine qt_pure F (wt1 F rfl rfl rfl rfl rfl) (pu_field rfl (F.ev rfl) fo28_0) rfl rfl ?_; clear F; intro φ F
                refine qt_rd F (wt1 F rfl rfl rfl rfl rfl) (ld_cell rfl (F.ev rfl) one22 (M.rdB (i := 2) rfl) rfl) rfl rfl ?_; clear F; intro φ F
                refine qt_pure F (wt1 F rfl rfl rfl rfl rfl) (pu_move rfl (F.ev rfl)) rfl rfl ?_; clear F; intro φ F
                refine qt_pure F (wt1 F rfl rfl rfl rfl rfl) (pu_ix rfl (F.ev rfl) (F.ev rfl) sl22 (M.av (i := 3) rfl) (by omega) (by omega)) rfl rfl ?_; clear F; intro φ F
                refine qt_pure F (wt1 F rfl rfl rfl rfl rfl) (pu_field rfl (F.ev rfl) fo32_0) rfl rfl ?_; clear F; intro φ F
                refine qt_rd F (wt1 F rfl rfl rfl rfl rfl) (ld_elP (q := 0) (k := i.toNat * 3) rfl (F.ev rfl) agg30 (fun _ h => RdV.below (M.av (i := 3) rfl) h) (by omega) (cC_at (by first | omega | (simp; done) | (simp; omega))) (by omega) rfl rfl) rfl rfl ?_; clear F; intro φ F
                refine qt_rd F (wt1 F rfl rfl rfl rfl rfl) (ld_agg rfl (F.ev rfl) agg30 (M.rdB (i := 1) rfl) rfl) rfl rfl ?_; clear F; intro φ F
                refine qt_call F (wt1 F rfl rfl rfl rfl rfl) rfl en25 (evc (F.ev rfl) (evc (F.ev rfl) evn)) (fun w' h => calls_below h (rahead_any (atC C i.toNat).1 t w')) rfl rfl ?_; clear F; intro φ F
                cases hs10 : (((atC C i.toNat).1).aheadB t)
                · rw [hs10] at F
                  refine qt_pure F (wt1 F rfl rfl rfl rfl rfl) (pu_not rfl (F.ev rfl)) rfl rfl ?_; clear F; intro φ F
                  rw [show (!false) = true from rfl] at F
                  refine qt_pure F (wt0 rfl) (pu_pickt rfl (F.ev rfl) (F.ev rfl)) rfl rfl ?_; clear F; intro φ F
                  refine wpQuiet_nil ?_
                  clear M; intro ω M
                  refine nxq ?_
                  refine wp_cond_true (F.ev rfl) ?_
                  refine wp_seq ?_
                  -- region 14
                  refine wp_region_lit ?_
                  refine sq_pure F (wt0 rfl) (pu_move rfl (F.ev rfl)) rfl rfl ?_; clear F; intro φ F
                  refine sq_rd F (wt0 rfl) (ld_agg rfl (F.ev rfl) agg30 (M.rd (i := 1) rfl) rfl) rfl rfl ?_; clear F; intro φ F
                  refine sq_pure F (wt0 rfl) (pu_move rfl (F.ev rfl)) rfl rfl ?_; clear F; intro φ F
                  refine sq_pure F (wt0 rfl) (bu32_0_1 rfl (F.ev rfl) (F.ev rfl)) rfl rfl ?_; clear F; intro φ F
                  refine sq_bs (e := 32) (m := 3) (k := 1) (parts := #[]) (cs := #[.int .i64 t.e, .int .i64 t.r, .int .i64 (ofC C t + n)]) F M (wt0 rfl) (bs22_1 rfl (F.ev rfl) _) (by omega) rfl rfl rfl ?_; clear F M; intro φ ω g3 F M
                  replace M : Mm [rb] w ω [.row 32 3 (.slice (some ⟨g3, 0, none⟩) 1 1) 1 (cC [(t, ofC C t + n)]), .row 32 3 vq Q.length (cC Q), .blk g1 30 #[.int .i64 t.e, .int .i64 t.r], .blk rb 28 #[v], .arg 3 v C.length (cC C)] := M
                  refine sq_app F M (wt0 rfl) rfl sl22.1 el32 (F.ev rfl) (i := 1) rfl (F.ev rfl) (M.rv (i := 0) rfl) (cC_ones _) (by first | omega | (simp only [List.length_append, List.length_cons, List.length_nil, List.length_singleton]; omega)) (by omega) rfl rfl ?_; clear F M; intro φ ω v2 F M
                  replace M : Mm [rb] w ω [.row 32 3 (.slice (some ⟨g3, 0, none⟩) 1 1) 1 (cC [(t, ofC C t + n)]), .row 32 3 v2 (Q.length + 1) ((cC Q) ++ (cC [(t, ofC C t + n)])), .blk g1 30 #[.int .i64 t.e, .int .i64 t.r], .blk rb 28 #[v], .arg 3 v C.length (cC C)] := M
                  rw [← cC_app, show Q.length + 1 = (Q ++ [(t, ofC C t + n)]).length from by first | rfl | (simp; done) | (simp; omega)] at M
                  refine sq_pure F (wt0 rfl) (pu_assign rfl (F.ev rfl)) rfl rfl ?_; clear F; intro φ F
                  refine nx ?_
                  -- region 15
                  refine wp_region_lit ?_
                  refine sq_pure F (wt0 rfl) (pu_assign rfl (evk)) rfl rfl ?_; clear F; intro φ F
                  refine nx ?_
                  refine wp_seq ?_
                  -- region 16
                  refine rg_quiet M mixedOK (by kernel_rfl) ?_
                  refine qt_pure F (wt0 rfl) (pu_move rfl (F.ev rfl)) rfl rfl ?_; clear F; intro φ F
                  refine qt_pure F (wt0 rfl) (pu_nilCheck rfl (F.ev rfl)) rfl rfl ?_; clear F; intro φ F
                  refine qt_pure F (wt0 rfl) (pu_field rfl (F.ev rfl) fo28_0) rfl rfl ?_; clear F; intro φ F
                  refine qt_rd F (wt0 rfl) (ld_cell rfl (F.ev rfl) one22 (M.rdB (i := 3) rfl) rfl) rfl rfl ?_; clear F; intro φ F
                  refine qt_pure F (wt0 rfl) (pu_move rfl (F.ev rfl)) rfl rfl ?_; clear F; intro φ F
                  refine qt_pure F (wt0 rfl) (pu_ix rfl (F.ev rfl) (F.ev rfl) sl22 (M.av (i := 4) rfl) (by omega) (by omega)) rfl rfl ?_; clear F; intro φ F
                  refine qt_pure F (wt0 rfl) (pu_field rfl (F.ev rfl) fo32_0) rfl rfl ?_; clear F; intro φ F
                  refine qt_rd F (wt0 rfl) (ld_elP (q := 0) (k := i.toNat * 3) rfl (F.ev rfl) agg30 (fun _ h => RdV.below (M.av (i := 4) rfl) h) (by omega) (cC_at (by first | omega | (simp; done) | (simp; omega))) (by omega) rfl rfl) rfl rfl ?_; clear F; intro φ F
                  refine qt_rd F (wt0 rfl) (ld_agg rfl (F.ev rfl) agg30 (M.rdB (i := 2) rfl) rfl) rfl rfl ?_; clear F; intro φ F
                  cases hs11 : (decide ((atC C i.toNat).1 = t))
                  · skip
                    have hs11i := of_decide_eq_false hs11
                    refine qt_pure F (wt0 rfl) (pu_neqA rfl (F.ev rfl) (F.ev rfl) eqg30 (fun w => eqS30 (atC C i.toNat).1 t w)) rfl rfl ?_; clear F; intro φ F
                    rw [hs11, show (!false) = true from rfl] at F
                    refine wpQuiet_nil ?_
                    clear M; intro ω M
                    refine nxq ?_
                    refine wp_cond_true (F.ev rfl) ?_
                    -- region 17
                    refine wp_region_lit ?_
                    refine sq_pure F (wt0 rfl) (pu_move rfl (F.ev rfl)) rfl rfl ?_; clear F; intro φ F
                    refine sq_pure F (wt0 rfl) (pu_move rfl (F.ev rfl)) rfl rfl ?_; clear F; intro φ F
                    refine sq_pure F (wt0 rfl) (pu_nilCheck rfl (F.ev rfl)) rfl rfl ?_; clear F; intro φ F
                    refine sq_pure F (wt0 rfl) (pu_field rfl (F.ev rfl) fo28_0) rfl rfl ?_; clear F; intro φ F
                    refine sq_rd F (wt0 rfl) (ld_cell rfl (F.ev rfl) one22 (M.rd (i := 3) rfl) rfl) rfl rfl ?_; clear F; intro φ F
                    refine sq_pure F (wt0 rfl) (pu_move rfl (F.ev rfl)) rfl rfl ?_; clear F; intro φ F
                    refine sq_pure F (wt0 rfl) (pu_ix rfl (F.ev rfl) (F.ev rfl) sl22 (M.av (i := 4) rfl) (by omega) (by omega)) rfl rfl ?_; clear F; intro φ F
                    refine sq_rd F (wt0 rfl) (ld_el rfl (F.ev rfl) agg32 (fun _ e => e ▸ (M.av (i := 4) rfl)) (by omega) (cC_at (by first | omega | (simp; done) | (simp; omega))) rfl) rfl rfl ?_; clear F; intro φ F
                    refine sq_bs (e := 32) (m := 3) (k := 1) (parts := #[]) (cs := #[.int .i64 ((atC C i.toNat).1.e), .int .i64 ((atC C i.toNat).1.r), .int .i64 ((atC C i.toNat).2)]) F M (wt0 rfl) (bs22_1 rfl (F.ev rfl) _) (by omega) rfl rfl rfl ?_; clear F M; intro φ ω g4 F M
                    replace M : Mm [rb] w ω [.row 32 3 (.slice (some ⟨g4, 0, none⟩) 1 1) 1 (cC [(atC C i.toNat)]), .row 32 3 (.slice (some ⟨g3, 0, none⟩) 1 1) 1 (cC [(t, ofC C t + n)]), .row 32 3 v2 ((Q ++ [(t, ofC C t + n)]).length) (cC (Q ++ [(t, ofC C t + n)])), .blk g1 30 #[.int .i64 t.e, .int .i64 t.r], .blk rb 28 #[v], .arg 3 v C.length (cC C)] := M
                    refine sq_app F M (wt0 rfl) rfl sl22.1 el32 (F.ev rfl) (i := 2) rfl (F.ev rfl) (M.rv (i := 0) rfl) (cC_ones _) (by first | omega | (simp only [List.length_append, List.length_cons, List.length_nil, List.length_singleton]; omega)) (by omega) rfl rfl ?_; clear F M; intro φ ω v3 F M
                    replace M : Mm [rb] w ω [.row 32 3 (.slice (some ⟨g4, 0, none⟩) 1 1) 1 (cC [(atC C i.toNat)]), .row 32 3 (.slice (some ⟨g3, 0, none⟩) 1 1) 1 (cC [(t, ofC C t + n)]), .row 32 3 v3 (((Q ++ [(t, ofC C t + n)]).length) + 1) ((cC (Q ++ [(t, ofC C t + n)])) ++ (cC [(atC C i.toNat)])), .blk g1 30 #[.int .i64 t.e, .int .i64 t.r], .blk rb 28 #[v], .arg 3 v C.length (cC C)] := M
                    rw [← cC_app, show ((Q ++ [(t, ofC C t + n)]).length) + 1 = ((Q ++ [(t, ofC C t + n)]) ++ [(atC C i.toNat)]).length from by first | rfl | (simp; done) | (simp; omega)] at M
                    refine sq_pure F (wt0 rfl) (pu_assign rfl (F.ev rfl)) rfl rfl ?_; clear F; intro φ F
                    refine wpList_nil ?_
                    refine nxb ?_
                    refine nxq ?_
                    -- region 12
                    refine wp_region_lit ?_
                    refine sq_pure F (wt0 rfl) (pu_move rfl (F.ev rfl)) rfl rfl ?_; clear F; intro φ F
                    refine sq_pure F (wt0 rfl) (pu_add rfl (F.ev rfl) (evk) (by omega) (by omega)) rfl rfl ?_; clear F; intro φ F
                    refine sq_pure F (wt0 rfl) (pu_assign rfl (F.ev rfl)) rfl rfl ?_; clear F; intro φ F
                    refine wpList_nil ?_
                    exact ⟨i + 1, by omega, v3, ((Q ++ [(t, ofC C t + n)]) ++ [(atC C i.toNat)]), true, (((((((F.nil.cons (F.get (k := 10) rfl)).cons (F.get (k := 9) rfl)).cons (F.get (k := 8) rfl)).cons (F.get (k := 7) rfl)).cons (F.get (k := 4) rfl)).cons (F.get (k := 2) rfl)).cons (F.get (k := 0) rfl)), (M.sub (.cons _ (.cons _ (List.Sublist.refl _)))), by omega, by omega, (run_step hp6_0 (by omega) hp6_2 (st_put_ne hs9 hs10 hs11i)), (by have z := run_len t (ofC C t + n) (C.take (i + 1).toNat); rw [← (run_step hp6_0 (by omega) hp6_2 (st_put_ne hs9 hs10 hs11i))] at z; simp only [List.length_take] at z; omega)⟩
                  · skip
                    have hs11i := of_decide_eq_true hs11
                    refine qt_pure F (wt0 rfl) (pu_neqA rfl (F.ev rfl) (F.ev rfl) eqg30 (fun w => eqS30 (atC C i.toNat).1 t w)) rfl rfl ?_; clear F; intro φ F
                    rw [hs11, show (!true) = false from rfl] at F
                    refine wpQuiet_nil ?_
                    clear M; intro ω M
                    refine nxq ?_
                    refine wp_cond_false (F.ev rfl) ?_
                    refine wp_skip ?_
                    refine nxb ?_
                    refine nxq ?_
                    -- region 12
                    refine wp_region_lit ?_
                    refine sq_pure F (wt0 rfl) (pu_move rfl (F.ev rfl)) rfl rfl ?_; clear F; intro φ F
                    refine sq_pure F (wt0 rfl) (pu_add rfl (F.ev rfl) (evk) (by omega) (by omega)) rfl rfl ?_; clear F; intro φ F
                    refine sq_pure F (wt0 rfl) (pu_assign rfl (F.ev rfl)) rfl rfl ?_; clear F; intro φ F
                    refine wpList_nil ?_
                    exact ⟨i + 1, by omega, v2, (Q ++ [(t, ofC C t + n)]), true, (((((((F.nil.cons (F.get (k := 10) rfl)).cons (F.get (k := 9) rfl)).cons (F.get (k := 8) rfl)).cons (F.get (k := 7) rfl)).cons (F.get (k := 4) rfl)).cons (F.get (k := 2) rfl)).cons (F.get (k := 0) rfl)), (M.sub (.cons _ (List.Sublist.refl _))), by omega, by omega, (run_step hp6_0 (by omega) hp6_2 (st_put_eq hs9 hs10 hs11i)), (by have z := run_len t (ofC C t + n) (C.take (i + 1).toNat); rw [← (run_step hp6_0 (by omega) hp6_2 (st_put_eq hs9 hs10 hs11i))] at z; simp only [List.length_take] at z; omega)⟩
                · rw [hs10] at F
                  refine qt_pure F (wt1 F rfl rfl rfl rfl rfl) (pu_not rfl (F.ev rfl)) rfl rfl ?_; clear F; intro φ F
                  rw [show (!true) = false from rfl] at F
                  refine qt_pure F (wt0 rfl) (pu_pickt rfl (F.ev rfl) (F.ev rfl)) rfl rfl ?_; clear F; intro φ F
                  refine wpQuiet_nil ?_
                  clear M; intro ω M
                  refine nxq ?_
                  refine wp_cond_false (F.ev rfl) ?_
                  refine wp_skip ?_
                  refine nxq ?_
                  refine wp_seq ?_
                  -- region 16
                  refine rg_quiet M mixedOK (by kernel_rfl) ?_
                  refine qt_pure F (wt0 rfl) (pu_move rfl (F.ev rfl)) rfl rfl ?_; clear F; intro φ F
                  refine qt_pure F (wt0 rfl) (pu_nilCheck rfl (F.ev rfl)) rfl rfl ?_; clear F; intro φ F
                  refine qt_pure F (wt0 rfl) (pu_field rfl (F.ev rfl) fo28_0) rfl rfl ?_; clear F; intro φ F
                  refine qt_rd F (wt0 rfl) (ld_cell rfl (F.ev rfl) one22 (M.rdB (i := 2) rfl) rfl) rfl rfl ?_; clear F; intro φ F
                  refine qt_pure F (wt0 rfl) (pu_move rfl (F.ev rfl)) rfl rfl ?_; clear F; intro φ F
                  refine qt_pure F (wt0 rfl) (pu_ix rfl (F.ev rfl) (F.ev rfl) sl22 (M.av (i := 3) rfl) (by omega) (by omega)) rfl rfl ?_; clear F; intro φ F
                  refine qt_pure F (wt0 rfl) (pu_field rfl (F.ev rfl) fo32_0) rfl rfl ?_; clear F; intro φ F
                  refine qt_rd F (wt0 rfl) (ld_elP (q := 0) (k := i.toNat * 3) rfl (F.ev rfl) agg30 (fun _ h => RdV.below (M.av (i := 3) rfl) h) (by omega) (cC_at (by first | omega | (simp; done) | (simp; omega))) (by omega) rfl rfl) rfl rfl ?_; clear F; intro φ F
                  refine qt_rd F (wt0 rfl) (ld_agg rfl (F.ev rfl) agg30 (M.rdB (i := 1) rfl) rfl) rfl rfl ?_; clear F; intro φ F
                  cases hs12 : (decide ((atC C i.toNat).1 = t))
                  · skip
                    have hs12i := of_decide_eq_false hs12
                    refine qt_pure F (wt0 rfl) (pu_neqA rfl (F.ev rfl) (F.ev rfl) eqg30 (fun w => eqS30 (atC C i.toNat).1 t w)) rfl rfl ?_; clear F; intro φ F
                    rw [hs12, show (!false) = true from rfl] at F
                    refine wpQuiet_nil ?_
                    clear M; intro ω M
                    refine nxq ?_
                    refine wp_cond_true (F.ev rfl) ?_
                    -- region 17
                    refine wp_region_lit ?_
                    refine sq_pure F (wt0 rfl) (pu_move rfl (F.ev rfl)) rfl rfl ?_; clear F; intro φ F
                    refine sq_pure F (wt0 rfl) (pu_move rfl (F.ev rfl)) rfl rfl ?_; clear F; intro φ F
                    refine sq_pure F (wt0 rfl) (pu_nilCheck rfl (F.ev rfl)) rfl rfl ?_; clear F; intro φ F
                    refine sq_pure F (wt0 rfl) (pu_field rfl (F.ev rfl) fo28_0) rfl rfl ?_; clear F; intro φ F
                    refine sq_rd F (wt0 rfl) (ld_cell rfl (F.ev rfl) one22 (M.rd (i := 2) rfl) rfl) rfl rfl ?_; clear F; intro φ F
                    refine sq_pure F (wt0 rfl) (pu_move rfl (F.ev rfl)) rfl rfl ?_; clear F; intro φ F
                    refine sq_pure F (wt0 rfl) (pu_ix rfl (F.ev rfl) (F.ev rfl) sl22 (M.av (i := 3) rfl) (by omega) (by omega)) rfl rfl ?_; clear F; intro φ F
                    refine sq_rd F (wt0 rfl) (ld_el rfl (F.ev rfl) agg32 (fun _ e => e ▸ (M.av (i := 3) rfl)) (by omega) (cC_at (by first | omega | (simp; done) | (simp; omega))) rfl) rfl rfl ?_; clear F; intro φ F
                    refine sq_bs (e := 32) (m := 3) (k := 1) (parts := #[]) (cs := #[.int .i64 ((atC C i.toNat).1.e), .int .i64 ((atC C i.toNat).1.r), .int .i64 ((atC C i.toNat).2)]) F M (wt0 rfl) (bs22_1 rfl (F.ev rfl) _) (by omega) rfl rfl rfl ?_; clear F M; intro φ ω g5 F M
                    replace M : Mm [rb] w ω [.row 32 3 (.slice (some ⟨g5, 0, none⟩) 1 1) 1 (cC [(atC C i.toNat)]), .row 32 3 vq Q.length (cC Q), .blk g1 30 #[.int .i64 t.e, .int .i64 t.r], .blk rb 28 #[v], .arg 3 v C.length (cC C)] := M
                    refine sq_app F M (wt0 rfl) rfl sl22.1 el32 (F.ev rfl) (i := 1) rfl (F.ev rfl) (M.rv (i := 0) rfl) (cC_ones _) (by first | omega | (simp only [List.length_append, List.length_cons, List.length_nil, List.length_singleton]; omega)) (by omega) rfl rfl ?_; clear F M; intro φ ω v4 F M
                    replace M : Mm [rb] w ω [.row 32 3 (.slice (some ⟨g5, 0, none⟩) 1 1) 1 (cC [(atC C i.toNat)]), .row 32 3 v4 (Q.length + 1) ((cC Q) ++ (cC [(atC C i.toNat)])), .blk g1 30 #[.int .i64 t.e, .int .i64 t.r], .blk rb 28 #[v], .arg 3 v C.length (cC C)] := M
                    rw [← cC_app, show Q.length + 1 = (Q ++ [(atC C i.toNat)]).length from by first | rfl | (simp; done) | (simp; omega)] at M
                    refine sq_pure F (wt0 rfl) (pu_assign rfl (F.ev rfl)) rfl rfl ?_; clear F; intro φ F
                    refine wpList_nil ?_
                    refine nxb ?_
                    refine nxq ?_
                    -- region 12
                    refine wp_region_lit ?_
                    refine sq_pure F (wt0 rfl) (pu_move rfl (F.ev rfl)) rfl rfl ?_; clear F; intro φ F
                    refine sq_pure F (wt0 rfl) (pu_add rfl (F.ev rfl) (evk) (by omega) (by omega)) rfl rfl ?_; clear F; intro φ F
                    refine sq_pure F (wt0 rfl) (pu_assign rfl (F.ev rfl)) rfl rfl ?_; clear F; intro φ F
                    refine wpList_nil ?_
                    exact ⟨i + 1, by omega, v4, (Q ++ [(atC C i.toNat)]), false, (((((((F.nil.cons (F.get (k := 10) rfl)).cons (F.get (k := 9) rfl)).cons (F.get (k := 8) rfl)).cons (F.get (k := 7) rfl)).cons (F.get (k := 4) rfl)).cons (F.get (k := 2) rfl)).cons (F.get (k := 0) rfl)), (M.sub (.cons _ (List.Sublist.refl _))), by omega, by omega, (run_step hp6_0 (by omega) hp6_2 (((st_no_ne (.inr hs10) hs12i).trans (by rw [hs9])))), (by have z := run_len t (ofC C t + n) (C.take (i + 1).toNat); rw [← (run_step hp6_0 (by omega) hp6_2 (((st_no_ne (.inr hs10) hs12i).trans (by rw [hs9]))))] at z; simp only [List.length_take] at z; omega)⟩
                  · skip
                    have hs12i := of_decide_eq_true hs12
                    refine qt_pure F (wt0 rfl) (pu_neqA rfl (F.ev rfl) (F.ev rfl) eqg30 (fun w => eqS30 (atC C i.toNat).1 t w)) rfl rfl ?_; clear F; intro φ F
                    rw [hs12, show (!true) = false from rfl] at F
                    refine wpQuiet_nil ?_
                    clear M; intro ω M
                    refine nxq ?_
                    refine wp_cond_false (F.ev rfl) ?_
                    refine wp_skip ?_
                    refine nxb ?_
                    refine nxq ?_
                    -- region 12
                    refine wp_region_lit ?_
                    refine sq_pure F (wt0 rfl) (pu_move rfl (F.ev rfl)) rfl rfl ?_; clear F; intro φ F
                    refine sq_pure F (wt0 rfl) (pu_add rfl (F.ev rfl) (evk) (by omega) (by omega)) rfl rfl ?_; clear F; intro φ F
                    refine sq_pure F (wt0 rfl) (pu_assign rfl (F.ev rfl)) rfl rfl ?_; clear F; intro φ F
                    refine wpList_nil ?_
                    exact ⟨i + 1, by omega, vq, Q, false, (((((((F.nil.cons (F.get (k := 10) rfl)).cons (F.get (k := 9) rfl)).cons (F.get (k := 8) rfl)).cons (F.get (k := 7) rfl)).cons (F.get (k := 4) rfl)).cons (F.get (k := 2) rfl)).cons (F.get (k := 0) rfl)), M, by omega, by omega, (run_step hp6_0 (by omega) hp6_2 (((st_no_eq (.inr hs10) hs12i).trans (by rw [hs9])))), (by have z := run_len t (ofC C t + n) (C.take (i + 1).toNat); rw [← (run_step hp6_0 (by omega) hp6_2 (((st_no_eq (.inr hs10) hs12i).trans (by rw [hs9]))))] at z; simp only [List.length_take] at z; omega)⟩
              · rw [hs9] at F
                refine qt_pure F (wt0 rfl) (pu_not rfl (F.ev rfl)) rfl rfl ?_; clear F; intro φ F
                rw [show (!true) = false from rfl] at F
                refine qt_pure F (wt0 rfl) (pu_move rfl (F.ev rfl)) rfl rfl ?_; clear F; intro φ F
                refine qt_skip F (wtn F rfl rfl rfl rfl rfl) rfl rfl ?_; clear F; intro φ F
                refine qt_skip F (wtn F rfl rfl rfl rfl rfl) rfl rfl ?_; clear F; intro φ F
                refine qt_skip F (wtn F rfl rfl rfl rfl rfl) rfl rfl ?_; clear F; intro φ F
                refine qt_skip F (wtn F rfl rfl rfl rfl rfl) rfl rfl ?_; clear F; intro φ F
                refine qt_skip F (wtn F rfl rfl rfl rfl rfl) rfl rfl ?_; clear F; intro φ F
                refine qt_skip F (wtn F rfl rfl rfl rfl rfl) rfl rfl ?_; clear F; intro φ F
                refine qt_skip F (wtn F rfl rfl rfl rfl rfl) rfl rfl ?_; clear F; intro φ F
                refine qt_skip F (wtn F rfl rfl rfl rfl rfl) rfl rfl ?_; clear F; intro φ F
                refine qt_skip F (wtn F rfl rfl rfl rfl rfl) rfl rfl ?_; clear F; intro φ F
                refine qt_skip F (wtn F rfl rfl rfl rfl rfl) rfl rfl ?_; clear F; intro φ F
                refine qt_skip F (wtn F rfl rfl rfl rfl rfl) rfl rfl ?_; clear F; intro φ F
                refine qt_pure F (wt0 rfl) (pu_pickf rfl (F.ev rfl) (evk)) rfl rfl ?_; clear F; intro φ F
                refine wpQuiet_nil ?_
                clear M; intro ω M
                refine nxq ?_
                refine wp_cond_false (F.ev rfl) ?_
                refine wp_skip ?_
                refine nxq ?_
                refine wp_seq ?_
                -- region 16
                refine rg_quiet M mixedOK (by kernel_rfl) ?_
                refine qt_pure F (wt0 rfl) (pu_move rfl (F.ev rfl)) rfl rfl ?_; clear F; intro φ F
                refine qt_pure F (wt0 rfl) (pu_nilCheck rfl (F.ev rfl)) rfl rfl ?_; clear F; intro φ F
                refine qt_pure F (wt0 rfl) (pu_field rfl (F.ev rfl) fo28_0) rfl rfl ?_; clear F; intro φ F
                refine qt_rd F (wt0 rfl) (ld_cell rfl (F.ev rfl) one22 (M.rdB (i := 2) rfl) rfl) rfl rfl ?_; clear F; intro φ F
                refine qt_pure F (wt0 rfl) (pu_move rfl (F.ev rfl)) rfl rfl ?_; clear F; intro φ F
                refine qt_pure F (wt0 rfl) (pu_ix rfl (F.ev rfl) (F.ev rfl) sl22 (M.av (i := 3) rfl) (by omega) (by omega)) rfl rfl ?_; clear F; intro φ F
                refine qt_pure F (wt0 rfl) (pu_field rfl (F.ev rfl) fo32_0) rfl rfl ?_; clear F; intro φ F
                refine qt_rd F (wt0 rfl) (ld_elP (q := 0) (k := i.toNat * 3) rfl (F.ev rfl) agg30 (fun _ h => RdV.below (M.av (i := 3) rfl) h) (by omega) (cC_at (by first | omega | (simp; done) | (simp; omega))) (by omega) rfl rfl) rfl rfl ?_; clear F; intro φ F
                refine qt_rd F (wt0 rfl) (ld_agg rfl (F.ev rfl) agg30 (M.rdB (i := 1) rfl) rfl) rfl rfl ?_; clear F; intro φ F
                cases hs13 : (decide ((atC C i.toNat).1 = t))
                · skip
                  have hs13i := of_decide_eq_false hs13
                  refine qt_pure F (wt0 rfl) (pu_neqA rfl (F.ev rfl) (F.ev rfl) eqg30 (fun w => eqS30 (atC C i.toNat).1 t w)) rfl rfl ?_; clear F; intro φ F
                  rw [hs13, show (!false) = true from rfl] at F
                  refine wpQuiet_nil ?_
                  clear M; intro ω M
                  refine nxq ?_
                  refine wp_cond_true (F.ev rfl) ?_
                  -- region 17
                  refine wp_region_lit ?_
                  refine sq_pure F (wt0 rfl) (pu_move rfl (F.ev rfl)) rfl rfl ?_; clear F; intro φ F
                  refine sq_pure F (wt0 rfl) (pu_move rfl (F.ev rfl)) rfl rfl ?_; clear F; intro φ F
                  refine sq_pure F (wt0 rfl) (pu_nilCheck rfl (F.ev rfl)) rfl rfl ?_; clear F; intro φ F
                  refine sq_pure F (wt0 rfl) (pu_field rfl (F.ev rfl) fo28_0) rfl rfl ?_; clear F; intro φ F
                  refine sq_rd F (wt0 rfl) (ld_cell rfl (F.ev rfl) one22 (M.rd (i := 2) rfl) rfl) rfl rfl ?_; clear F; intro φ F
                  refine sq_pure F (wt0 rfl) (pu_move rfl (F.ev rfl)) rfl rfl ?_; clear F; intro φ F
                  refine sq_pure F (wt0 rfl) (pu_ix rfl (F.ev rfl) (F.ev rfl) sl22 (M.av (i := 3) rfl) (by omega) (by omega)) rfl rfl ?_; clear F; intro φ F
                  refine sq_rd F (wt0 rfl) (ld_el rfl (F.ev rfl) agg32 (fun _ e => e ▸ (M.av (i := 3) rfl)) (by omega) (cC_at (by first | omega | (simp; done) | (simp; omega))) rfl) rfl rfl ?_; clear F; intro φ F
                  refine sq_bs (e := 32) (m := 3) (k := 1) (parts := #[]) (cs := #[.int .i64 ((atC C i.toNat).1.e), .int .i64 ((atC C i.toNat).1.r), .int .i64 ((atC C i.toNat).2)]) F M (wt0 rfl) (bs22_1 rfl (F.ev rfl) _) (by omega) rfl rfl rfl ?_; clear F M; intro φ ω g6 F M
                  replace M : Mm [rb] w ω [.row 32 3 (.slice (some ⟨g6, 0, none⟩) 1 1) 1 (cC [(atC C i.toNat)]), .row 32 3 vq Q.length (cC Q), .blk g1 30 #[.int .i64 t.e, .int .i64 t.r], .blk rb 28 #[v], .arg 3 v C.length (cC C)] := M
                  refine sq_app F M (wt0 rfl) rfl sl22.1 el32 (F.ev rfl) (i := 1) rfl (F.ev rfl) (M.rv (i := 0) rfl) (cC_ones _) (by first | omega | (simp only [List.length_append, List.length_cons, List.length_nil, List.length_singleton]; omega)) (by omega) rfl rfl ?_; clear F M; intro φ ω v5 F M
                  replace M : Mm [rb] w ω [.row 32 3 (.slice (some ⟨g6, 0, none⟩) 1 1) 1 (cC [(atC C i.toNat)]), .row 32 3 v5 (Q.length + 1) ((cC Q) ++ (cC [(atC C i.toNat)])), .blk g1 30 #[.int .i64 t.e, .int .i64 t.r], .blk rb 28 #[v], .arg 3 v C.length (cC C)] := M
                  rw [← cC_app, show Q.length + 1 = (Q ++ [(atC C i.toNat)]).length from by first | rfl | (simp; done) | (simp; omega)] at M
                  refine sq_pure F (wt0 rfl) (pu_assign rfl (F.ev rfl)) rfl rfl ?_; clear F; intro φ F
                  refine wpList_nil ?_
                  refine nxb ?_
                  refine nxq ?_
                  -- region 12
                  refine wp_region_lit ?_
                  refine sq_pure F (wt0 rfl) (pu_move rfl (F.ev rfl)) rfl rfl ?_; clear F; intro φ F
                  refine sq_pure F (wt0 rfl) (pu_add rfl (F.ev rfl) (evk) (by omega) (by omega)) rfl rfl ?_; clear F; intro φ F
                  refine sq_pure F (wt0 rfl) (pu_assign rfl (F.ev rfl)) rfl rfl ?_; clear F; intro φ F
                  refine wpList_nil ?_
                  exact ⟨i + 1, by omega, v5, (Q ++ [(atC C i.toNat)]), true, (((((((F.nil.cons (F.get (k := 10) rfl)).cons (F.get (k := 9) rfl)).cons (F.get (k := 8) rfl)).cons (F.get (k := 7) rfl)).cons (F.get (k := 4) rfl)).cons (F.get (k := 2) rfl)).cons (F.get (k := 0) rfl)), (M.sub (.cons _ (List.Sublist.refl _))), by omega, by omega, (run_step hp6_0 (by omega) hp6_2 (((st_no_ne (.inl hs9) hs13i).trans (by rw [hs9])))), (by have z := run_len t (ofC C t + n) (C.take (i + 1).toNat); rw [← (run_step hp6_0 (by omega) hp6_2 (((st_no_ne (.inl hs9) hs13i).trans (by rw [hs9]))))] at z; simp only [List.length_take] at z; omega)⟩
                · skip
                  have hs13i := of_decide_eq_true hs13
                  refine qt_pure F (wt0 rfl) (pu_neqA rfl (F.ev rfl) (F.ev rfl) eqg30 (fun w => eqS30 (atC C i.toNat).1 t w)) rfl rfl ?_; clear F; intro φ F
                  rw [hs13, show (!true) = false from rfl] at F
                  refine wpQuiet_nil ?_
                  clear M; intro ω M
                  refine nxq ?_
                  refine wp_cond_false (F.ev rfl) ?_
                  refine wp_skip ?_
                  refine nxb ?_
                  refine nxq ?_
                  -- region 12
                  refine wp_region_lit ?_
                  refine sq_pure F (wt0 rfl) (pu_move rfl (F.ev rfl)) rfl rfl ?_; clear F; intro φ F
                  refine sq_pure F (wt0 rfl) (pu_add rfl (F.ev rfl) (evk) (by omega) (by omega)) rfl rfl ?_; clear F; intro φ F
                  refine sq_pure F (wt0 rfl) (pu_assign rfl (F.ev rfl)) rfl rfl ?_; clear F; intro φ F
                  refine wpList_nil ?_
                  exact ⟨i + 1, by omega, vq, Q, true, (((((((F.nil.cons (F.get (k := 10) rfl)).cons (F.get (k := 9) rfl)).cons (F.get (k := 8) rfl)).cons (F.get (k := 7) rfl)).cons (F.get (k := 4) rfl)).cons (F.get (k := 2) rfl)).cons (F.get (k := 0) rfl)), M, by omega, by omega, (run_step hp6_0 (by omega) hp6_2 (((st_no_eq (.inl hs9) hs13i).trans (by rw [hs9])))), (by have z := run_len t (ofC C t + n) (C.take (i + 1).toNat); rw [← (run_step hp6_0 (by omega) hp6_2 (((st_no_eq (.inl hs9) hs13i).trans (by rw [hs9]))))] at z; simp only [List.length_take] at z; omega)⟩
          · rw [hs5] at F
            have hs5i := of_decide_eq_true hs5
            refine wp_cond_true (F.ev rfl) ?_
            refine wp_seq ?_
            -- region 7
            refine wp_region_lit ?_
            refine sq_pure F (wt0 rfl) (pu_assign rfl (evk)) rfl rfl ?_; clear F; intro φ F
            refine nx ?_
            refine wp_ret ?_
            refine nxr ?_
            refine rt_tmp F rfl rfl ?_
            have z := addE_over (C := C) (n := n) hs1 (by omega)
            exact ref_same M.out (M.at (i := 1) rfl) hr ha hok z (addC_no (by rw [z]; decide)).symm
        · rw [hs4] at F
          have hs4i := of_decide_eq_true hs4
          refine sq_skip F (wtn F rfl rfl rfl rfl rfl) rfl rfl ?_; clear F; intro φ F
          refine sq_skip F (wtn F rfl rfl rfl rfl rfl) rfl rfl ?_; clear F; intro φ F
          refine sq_pure F (wt0 rfl) (pu_pickt rfl (F.ev rfl) (evk)) rfl rfl ?_; clear F; intro φ F
          refine nx ?_
          refine wp_cond_true (F.ev rfl) ?_
          refine wp_seq ?_
          -- region 7
          refine wp_region_lit ?_
          refine sq_pure F (wt0 rfl) (pu_assign rfl (evk)) rfl rfl ?_; clear F; intro φ F
          refine nx ?_
          refine wp_ret ?_
          refine nxr ?_
          refine rt_tmp F rfl rfl ?_
          have z := addE_over (C := C) (n := n) hs1 (by omega)
          exact ref_same M.out (M.at (i := 1) rfl) hr ha hok z (addC_no (by rw [z]; decide)).symm
      · rw [hs3] at F
        have hs3i := of_decide_eq_true hs3
        refine wp_cond_true (F.ev rfl) ?_
        refine wp_seq ?_
        -- region 4
        refine wp_region_lit ?_
        refine sq_pure F (wt0 rfl) (pu_assign rfl (evk)) rfl rfl ?_; clear F; intro φ F
        refine nx ?_
        refine wp_ret ?_
        refine nxr ?_
        refine rt_tmp F rfl rfl ?_
        have z := addE_over (C := C) (n := n) hs1 (by omega)
        exact ref_same M.out (M.at (i := 1) rfl) hr ha hok z (addC_no (by rw [z]; decide)).symm
    · rw [hs2] at F
      have hs2i := of_decide_eq_true hs2
      refine sq_skip F (wtn F rfl rfl rfl rfl rfl) rfl rfl ?_; clear F; intro φ F
      refine sq_skip F (wtn F rfl rfl rfl rfl rfl) rfl rfl ?_; clear F; intro φ F
      refine sq_pure F (wt0 rfl) (pu_pickt rfl (F.ev rfl) (evk)) rfl rfl ?_; clear F; intro φ F
      refine nx ?_
      refine wp_cond_true (F.ev rfl) ?_
      refine wp_seq ?_
      -- region 4
      refine wp_region_lit ?_
      refine sq_pure F (wt0 rfl) (pu_assign rfl (evk)) rfl rfl ?_; clear F; intro φ F
      refine nx ?_
      refine wp_ret ?_
      refine nxr ?_
      refine rt_tmp F rfl rfl ?_
      have z := addE_over (C := C) (n := n) hs1 (by omega)
      exact ref_same M.out (M.at (i := 1) rfl) hr ha hok z (addC_no (by rw [z]; decide)).symm

end Go.Proofs.Ytplnpjhgnhndpaa
