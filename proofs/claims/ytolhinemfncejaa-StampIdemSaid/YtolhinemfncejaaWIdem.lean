/- The walk of StampIdem. Made by walks/stamp.py. -/
import Derived.Test.YtolhinemfncejaaSl
import Derived.Test.YtolhinemfncejaaRh
namespace Go.Proofs.Ytolhinemfncejaa
open Go.RowKit

set_option maxHeartbeats 4000000 in
theorem stampIdem_walk (a b c : St) (w : World) :
    Calls Try.prog 9 #[.agg #[.int .i64 a.e, .int .i64 a.r], .agg #[.int .i64 b.e, .int .i64 b.r], .agg #[.int .i64 c.e, .int .i64 c.r]] w fun e w' => e = .returned (.bool true) ∧ Below w.heap.size w w' := by
  have j0 := join_spec b c
  have j1 := join_spec a (b.join c)
  have j2 := join_spec a b
  have j3 := join_spec (a.join b) c
  have j4 := join_spec a a
  have j5 := meet_spec a a
  have j6 := meet_spec a b
  have j7 := join_spec a (a.meet b)
  have j8 := meet_spec a (a.join b)
  refine enterF Try.func9 rfl 59 Try.ntmps9 [.agg #[.int .i64 a.e, .int .i64 a.r], .agg #[.int .i64 b.e, .int .i64 b.r], .agg #[.int .i64 c.e, .int .i64 c.r]] rfl [(0, .agg #[.int .i64 a.e, .int .i64 a.r]), (1, .agg #[.int .i64 b.e, .int .i64 b.r]), (2, .agg #[.int .i64 c.e, .int .i64 c.r])] rfl ?_
  intro φ F
  have M := Mm.start w
  refine wp_seq ?_
  -- region 0
  refine wp_region_lit ?_
  refine sq_box F M (wt0 rfl) rfl (F.ev rfl) (cs := #[.int .i64 a.e, .int .i64 a.r]) rfl rfl rfl ?_; clear F M; intro φ ω g1 F M
  refine sq_box F M (wt0 rfl) rfl (F.ev rfl) (cs := #[.int .i64 b.e, .int .i64 b.r]) rfl rfl rfl ?_; clear F M; intro φ ω g2 F M
  refine sq_box F M (wt0 rfl) rfl (F.ev rfl) (cs := #[.int .i64 c.e, .int .i64 c.r]) rfl rfl rfl ?_; clear F M; intro φ ω g3 F M
  refine sq_pure F (wt0 rfl) (pu_assign rfl (evk)) rfl rfl ?_; clear F; intro φ F
  refine nx ?_
  refine wp_seq ?_
  -- region 1
  refine wp_region_lit ?_
  refine sq_call F M (wt0 rfl) rfl en11 evn (awake_any _) rfl rfl ?_; clear F M; intro φ ω F M
  refine sq_pure F (wt0 rfl) (pu_assign rfl (F.ev rfl)) rfl rfl ?_; clear F; intro φ F
  refine nx ?_
  refine wp_seq ?_
  -- region 2
  refine rg_heads F M 6 [.val (.agg #[.int .i64 a.e, .int .i64 a.r]), .val (.agg #[.int .i64 b.e, .int .i64 b.r]), .val (.agg #[.int .i64 c.e, .int .i64 c.r]), .val (.agg #[.int .i64 ((b.join c).e), .int .i64 ((b.join c).r)]), .val (.agg #[.int .i64 ((a.join (b.join c)).e), .int .i64 ((a.join (b.join c)).r)]), .new 23 #[.int .i64 0, .int .i64 0]] 5 rfl rfl mixedOK (by kernel_rfl) rfl rfl ⟨?_, ?_, ?_, ?_, ?_, ?_, trivial⟩ ?_
  · intro φ1 ω1 hb F1 hdep hold; have F := (F1.cons (F.was hold (s := 3) rfl rfl)); have M := M.below hb; exact ob_rd (wt0 rfl) (ld_agg rfl (F.ev rfl) agg23 (M.rd (i := 2) rfl) rfl) rfl
  · intro φ1 ω1 hb F1 hdep hold; have F := (F1.cons (F.was hold (s := 4) rfl rfl)); have M := M.below hb; exact ob_rd (wt0 rfl) (ld_agg rfl (F.ev rfl) agg23 (M.rd (i := 1) rfl) rfl) rfl
  · intro φ1 ω1 hb F1 hdep hold; have F := (F1.cons (F.was hold (s := 5) rfl rfl)); have M := M.below hb; exact ob_rd (wt0 rfl) (ld_agg rfl (F.ev rfl) agg23 (M.rd (i := 0) rfl) rfl) rfl
  · intro φ1 ω1 hb F1 hdep hold; have F := ((F1.cons (F1.dep hdep 1 (by kernel_rfl) rfl rfl rfl)).cons (F1.dep hdep 2 (by kernel_rfl) rfl rfl rfl)); have M := M.below hb; exact ob_call (wt0 rfl) rfl en18 (evc (F.ev rfl) (evc (F.ev rfl) evn)) (join_any b c _) rfl
  · intro φ1 ω1 hb F1 hdep hold; have F := ((F1.cons (F1.dep hdep 0 (by kernel_rfl) rfl rfl rfl)).cons (F1.dep hdep 3 (by kernel_rfl) rfl rfl rfl)); have M := M.below hb; exact ob_call (wt0 rfl) rfl en18 (evc (F.ev rfl) (evc (F.ev rfl) evn)) (join_any a (b.join c) _) rfl
  · intro φ1 ω1 hb F1 hdep hold; exact ob_alloc (wt0 rfl) hb rfl z23 rfl
  clear F M; intro φ ω g4 F M
  simp only [headL, List.take_succ_cons, List.take_zero, HV.value] at F
  refine sq_stA F M (wt0 rfl) rfl (F.ev rfl) (F.ev rfl) (i := 0) rfl agg23 rfl rfl rfl rfl ?_; clear M; intro ω M
  refine nx ?_
  refine wp_seq ?_
  -- region 3
  refine rg_heads F M 6 [.val (.agg #[.int .i64 a.e, .int .i64 a.r]), .val (.agg #[.int .i64 b.e, .int .i64 b.r]), .val (.agg #[.int .i64 ((a.join b).e), .int .i64 ((a.join b).r)]), .val (.agg #[.int .i64 c.e, .int .i64 c.r]), .val (.agg #[.int .i64 (((a.join b).join c).e), .int .i64 (((a.join b).join c).r)]), .new 23 #[.int .i64 0, .int .i64 0]] 5 rfl rfl mixedOK (by kernel_rfl) rfl rfl ⟨?_, ?_, ?_, ?_, ?_, ?_, trivial⟩ ?_
  · intro φ1 ω1 hb F1 hdep hold; have F := (F1.cons (F.was hold (s := 3) rfl rfl)); have M := M.below hb; exact ob_rd (wt0 rfl) (ld_agg rfl (F.ev rfl) agg23 (M.rd (i := 3) rfl) rfl) rfl
  · intro φ1 ω1 hb F1 hdep hold; have F := (F1.cons (F.was hold (s := 4) rfl rfl)); have M := M.below hb; exact ob_rd (wt0 rfl) (ld_agg rfl (F.ev rfl) agg23 (M.rd (i := 2) rfl) rfl) rfl
  · intro φ1 ω1 hb F1 hdep hold; have F := ((F1.cons (F1.dep hdep 0 (by kernel_rfl) rfl rfl rfl)).cons (F1.dep hdep 1 (by kernel_rfl) rfl rfl rfl)); have M := M.below hb; exact ob_call (wt0 rfl) rfl en18 (evc (F.ev rfl) (evc (F.ev rfl) evn)) (join_any a b _) rfl
  · intro φ1 ω1 hb F1 hdep hold; have F := (F1.cons (F.was hold (s := 5) rfl rfl)); have M := M.below hb; exact ob_rd (wt0 rfl) (ld_agg rfl (F.ev rfl) agg23 (M.rd (i := 1) rfl) rfl) rfl
  · intro φ1 ω1 hb F1 hdep hold; have F := ((F1.cons (F1.dep hdep 2 (by kernel_rfl) rfl rfl rfl)).cons (F1.dep hdep 3 (by kernel_rfl) rfl rfl rfl)); have M := M.below hb; exact ob_call (wt0 rfl) rfl en18 (evc (F.ev rfl) (evc (F.ev rfl) evn)) (join_any (a.join b) c _) rfl
  · intro φ1 ω1 hb F1 hdep hold; exact ob_alloc (wt0 rfl) hb rfl z23 rfl
  clear F M; intro φ ω g5 F M
  simp only [headL, List.take_succ_cons, List.take_zero, HV.value] at F
  refine sq_stA F M (wt0 rfl) rfl (F.ev rfl) (F.ev rfl) (i := 0) rfl agg23 rfl rfl rfl rfl ?_; clear M; intro ω M
  refine nx ?_
  refine wp_seq ?_
  -- region 4
  refine rg_quiet M mixedOK (by kernel_rfl) ?_
  refine qt_pure F (wt0 rfl) (pu_move rfl (F.ev rfl)) rfl rfl ?_; clear F; intro φ F
  refine qt_pure F (wt0 rfl) (pu_move rfl (F.ev rfl)) rfl rfl ?_; clear F; intro φ F
  refine qt_rd F (wt1 F rfl rfl rfl rfl rfl) (ld_agg rfl (F.ev rfl) agg23 (M.rdB (i := 4) rfl) rfl) rfl rfl ?_; clear F; intro φ F
  refine qt_rd F (wt1 F rfl rfl rfl rfl rfl) (ld_agg rfl (F.ev rfl) agg23 (M.rdB (i := 4) rfl) rfl) rfl rfl ?_; clear F; intro φ F
  refine qt_call F (wt1 F rfl rfl rfl rfl rfl) rfl en18 (evc (F.ev rfl) (evc (F.ev rfl) evn)) (fun w' h => calls_below h (join_any a a w')) rfl rfl ?_; clear F; intro φ F
  refine qt_rd F (wt1 F rfl rfl rfl rfl rfl) (ld_agg rfl (F.ev rfl) agg23 (M.rdB (i := 4) rfl) rfl) rfl rfl ?_; clear F; intro φ F
  refine qt_pure F (wt1 F rfl rfl rfl rfl rfl) (pu_eqlA rfl (F.ev rfl) (F.ev rfl) eqg23 (fun w => eqS23 (a.join a) a w)) rfl rfl ?_; clear F; intro φ F
  refine qt_pure F (wt0 rfl) (pu_pickt rfl (F.ev rfl) (F.ev rfl)) rfl rfl ?_; clear F; intro φ F
  refine qt_pure F (wt0 rfl) (pu_move rfl (F.ev rfl)) rfl rfl ?_; clear F; intro φ F
  cases hs1 : (decide ((a.join a) = a))
  · rw [hs1] at F
    have hs1i := eq_f hs1; (try dsimp only at hs1i)
    refine qt_skip F (wtn F rfl rfl rfl rfl rfl) rfl rfl ?_; clear F; intro φ F
    refine qt_skip F (wtn F rfl rfl rfl rfl rfl) rfl rfl ?_; clear F; intro φ F
    refine qt_skip F (wtn F rfl rfl rfl rfl rfl) rfl rfl ?_; clear F; intro φ F
    refine qt_skip F (wtn F rfl rfl rfl rfl rfl) rfl rfl ?_; clear F; intro φ F
    refine qt_skip F (wtn F rfl rfl rfl rfl rfl) rfl rfl ?_; clear F; intro φ F
    refine qt_pure F (wt0 rfl) (pu_pickf rfl (F.ev rfl) (evk)) rfl rfl ?_; clear F; intro φ F
    refine qt_pure F (wt0 rfl) (pu_move rfl (F.ev rfl)) rfl rfl ?_; clear F; intro φ F
    refine qt_skip F (wtn F rfl rfl rfl rfl rfl) rfl rfl ?_; clear F; intro φ F
    refine qt_skip F (wtn F rfl rfl rfl rfl rfl) rfl rfl ?_; clear F; intro φ F
    refine qt_skip F (wtn F rfl rfl rfl rfl rfl) rfl rfl ?_; clear F; intro φ F
    refine qt_skip F (wtn F rfl rfl rfl rfl rfl) rfl rfl ?_; clear F; intro φ F
    refine qt_skip F (wtn F rfl rfl rfl rfl rfl) rfl rfl ?_; clear F; intro φ F
    refine qt_skip F (wtn F rfl rfl rfl rfl rfl) rfl rfl ?_; clear F; intro φ F
    refine qt_skip F (wtn F rfl rfl rfl rfl rfl) rfl rfl ?_; clear F; intro φ F
    refine qt_pure F (wt0 rfl) (pu_pickf rfl (F.ev rfl) (evk)) rfl rfl ?_; clear F; intro φ F
    refine qt_pure F (wt0 rfl) (pu_move rfl (F.ev rfl)) rfl rfl ?_; clear F; intro φ F
    refine qt_skip F (wtn F rfl rfl rfl rfl rfl) rfl rfl ?_; clear F; intro φ F
    refine qt_skip F (wtn F rfl rfl rfl rfl rfl) rfl rfl ?_; clear F; intro φ F
    refine qt_skip F (wtn F rfl rfl rfl rfl rfl) rfl rfl ?_; clear F; intro φ F
    refine qt_skip F (wtn F rfl rfl rfl rfl rfl) rfl rfl ?_; clear F; intro φ F
    refine qt_skip F (wtn F rfl rfl rfl rfl rfl) rfl rfl ?_; clear F; intro φ F
    refine qt_skip F (wtn F rfl rfl rfl rfl rfl) rfl rfl ?_; clear F; intro φ F
    refine qt_skip F (wtn F rfl rfl rfl rfl rfl) rfl rfl ?_; clear F; intro φ F
    refine qt_pure F (wt0 rfl) (pu_pickf rfl (F.ev rfl) (evk)) rfl rfl ?_; clear F; intro φ F
    refine qt_pure F (wt0 rfl) (pu_move rfl (F.ev rfl)) rfl rfl ?_; clear F; intro φ F
    refine qt_skip F (wtn F rfl rfl rfl rfl rfl) rfl rfl ?_; clear F; intro φ F
    refine qt_skip F (wtn F rfl rfl rfl rfl rfl) rfl rfl ?_; clear F; intro φ F
    refine qt_skip F (wtn F rfl rfl rfl rfl rfl) rfl rfl ?_; clear F; intro φ F
    refine qt_pure F (wt0 rfl) (pu_pickf rfl (F.ev rfl) (evk)) rfl rfl ?_; clear F; intro φ F
    refine qt_pure F (wt0 rfl) (pu_assign rfl (F.ev rfl)) rfl rfl ?_; clear F; intro φ F
    refine wpQuiet_nil ?_
    clear M; intro ω M
    refine nxq ?_
    refine wp_ret ?_
    refine rt_tmp F rfl rfl ?_
    exfalso; clear F M; omega
  · rw [hs1] at F
    have hs1i := eq_t hs1; (try dsimp only at hs1i)
    refine qt_rd F (wt1 F rfl rfl rfl rfl rfl) (ld_agg rfl (F.ev rfl) agg23 (M.rdB (i := 4) rfl) rfl) rfl rfl ?_; clear F; intro φ F
    refine qt_rd F (wt1 F rfl rfl rfl rfl rfl) (ld_agg rfl (F.ev rfl) agg23 (M.rdB (i := 4) rfl) rfl) rfl rfl ?_; clear F; intro φ F
    refine qt_call F (wt1 F rfl rfl rfl rfl rfl) rfl en19 (evc (F.ev rfl) (evc (F.ev rfl) evn)) (fun w' h => calls_below h (meet_any a a w')) rfl rfl ?_; clear F; intro φ F
    refine qt_rd F (wt1 F rfl rfl rfl rfl rfl) (ld_agg rfl (F.ev rfl) agg23 (M.rdB (i := 4) rfl) rfl) rfl rfl ?_; clear F; intro φ F
    refine qt_pure F (wt1 F rfl rfl rfl rfl rfl) (pu_eqlA rfl (F.ev rfl) (F.ev rfl) eqg23 (fun w => eqS23 (a.meet a) a w)) rfl rfl ?_; clear F; intro φ F
    refine qt_pure F (wt0 rfl) (pu_pickt rfl (F.ev rfl) (F.ev rfl)) rfl rfl ?_; clear F; intro φ F
    refine qt_pure F (wt0 rfl) (pu_move rfl (F.ev rfl)) rfl rfl ?_; clear F; intro φ F
    cases hs2 : (decide ((a.meet a) = a))
    · rw [hs2] at F
      have hs2i := eq_f hs2; (try dsimp only at hs2i)
      refine qt_skip F (wtn F rfl rfl rfl rfl rfl) rfl rfl ?_; clear F; intro φ F
      refine qt_skip F (wtn F rfl rfl rfl rfl rfl) rfl rfl ?_; clear F; intro φ F
      refine qt_skip F (wtn F rfl rfl rfl rfl rfl) rfl rfl ?_; clear F; intro φ F
      refine qt_skip F (wtn F rfl rfl rfl rfl rfl) rfl rfl ?_; clear F; intro φ F
      refine qt_skip F (wtn F rfl rfl rfl rfl rfl) rfl rfl ?_; clear F; intro φ F
      refine qt_skip F (wtn F rfl rfl rfl rfl rfl) rfl rfl ?_; clear F; intro φ F
      refine qt_skip F (wtn F rfl rfl rfl rfl rfl) rfl rfl ?_; clear F; intro φ F
      refine qt_pure F (wt0 rfl) (pu_pickf rfl (F.ev rfl) (evk)) rfl rfl ?_; clear F; intro φ F
      refine qt_pure F (wt0 rfl) (pu_move rfl (F.ev rfl)) rfl rfl ?_; clear F; intro φ F
      refine qt_skip F (wtn F rfl rfl rfl rfl rfl) rfl rfl ?_; clear F; intro φ F
      refine qt_skip F (wtn F rfl rfl rfl rfl rfl) rfl rfl ?_; clear F; intro φ F
      refine qt_skip F (wtn F rfl rfl rfl rfl rfl) rfl rfl ?_; clear F; intro φ F
      refine qt_skip F (wtn F rfl rfl rfl rfl rfl) rfl rfl ?_; clear F; intro φ F
      refine qt_skip F (wtn F rfl rfl rfl rfl rfl) rfl rfl ?_; clear F; intro φ F
      refine qt_skip F (wtn F rfl rfl rfl rfl rfl) rfl rfl ?_; clear F; intro φ F
      refine qt_skip F (wtn F rfl rfl rfl rfl rfl) rfl rfl ?_; clear F; intro φ F
      refine qt_pure F (wt0 rfl) (pu_pickf rfl (F.ev rfl) (evk)) rfl rfl ?_; clear F; intro φ F
      refine qt_pure F (wt0 rfl) (pu_move rfl (F.ev rfl)) rfl rfl ?_; clear F; intro φ F
      refine qt_skip F (wtn F rfl rfl rfl rfl rfl) rfl rfl ?_; clear F; intro φ F
      refine qt_skip F (wtn F rfl rfl rfl rfl rfl) rfl rfl ?_; clear F; intro φ F
      refine qt_skip F (wtn F rfl rfl rfl rfl rfl) rfl rfl ?_; clear F; intro φ F
      refine qt_pure F (wt0 rfl) (pu_pickf rfl (F.ev rfl) (evk)) rfl rfl ?_; clear F; intro φ F
      refine qt_pure F (wt0 rfl) (pu_assign rfl (F.ev rfl)) rfl rfl ?_; clear F; intro φ F
      refine wpQuiet_nil ?_
      clear M; intro ω M
      refine nxq ?_
      refine wp_ret ?_
      refine rt_tmp F rfl rfl ?_
      exfalso; clear F M; omega
    · rw [hs2] at F
      have hs2i := eq_t hs2; (try dsimp only at hs2i)
      refine qt_rd F (wt1 F rfl rfl rfl rfl rfl) (ld_agg rfl (F.ev rfl) agg23 (M.rdB (i := 4) rfl) rfl) rfl rfl ?_; clear F; intro φ F
      refine qt_rd F (wt1 F rfl rfl rfl rfl rfl) (ld_agg rfl (F.ev rfl) agg23 (M.rdB (i := 4) rfl) rfl) rfl rfl ?_; clear F; intro φ F
      refine qt_rd F (wt1 F rfl rfl rfl rfl rfl) (ld_agg rfl (F.ev rfl) agg23 (M.rdB (i := 3) rfl) rfl) rfl rfl ?_; clear F; intro φ F
      refine qt_call F (wt1 F rfl rfl rfl rfl rfl) rfl en19 (evc (F.ev rfl) (evc (F.ev rfl) evn)) (fun w' h => calls_below h (meet_any a b w')) rfl rfl ?_; clear F; intro φ F
      refine qt_call F (wt1 F rfl rfl rfl rfl rfl) rfl en18 (evc (F.ev rfl) (evc (F.ev rfl) evn)) (fun w' h => calls_below h (join_any a (a.meet b) w')) rfl rfl ?_; clear F; intro φ F
      refine qt_rd F (wt1 F rfl rfl rfl rfl rfl) (ld_agg rfl (F.ev rfl) agg23 (M.rdB (i := 4) rfl) rfl) rfl rfl ?_; clear F; intro φ F
      refine qt_pure F (wt1 F rfl rfl rfl rfl rfl) (pu_eqlA rfl (F.ev rfl) (F.ev rfl) eqg23 (fun w => eqS23 (a.join (a.meet b)) a w)) rfl rfl ?_; clear F; intro φ F
      refine qt_pure F (wt0 rfl) (pu_pickt rfl (F.ev rfl) (F.ev rfl)) rfl rfl ?_; clear F; intro φ F
      refine qt_pure F (wt0 rfl) (pu_move rfl (F.ev rfl)) rfl rfl ?_; clear F; intro φ F
      cases hs3 : (decide ((a.join (a.meet b)) = a))
      · rw [hs3] at F
        have hs3i := eq_f hs3; (try dsimp only at hs3i)
        refine qt_skip F (wtn F rfl rfl rfl rfl rfl) rfl rfl ?_; clear F; intro φ F
        refine qt_skip F (wtn F rfl rfl rfl rfl rfl) rfl rfl ?_; clear F; intro φ F
        refine qt_skip F (wtn F rfl rfl rfl rfl rfl) rfl rfl ?_; clear F; intro φ F
        refine qt_skip F (wtn F rfl rfl rfl rfl rfl) rfl rfl ?_; clear F; intro φ F
        refine qt_skip F (wtn F rfl rfl rfl rfl rfl) rfl rfl ?_; clear F; intro φ F
        refine qt_skip F (wtn F rfl rfl rfl rfl rfl) rfl rfl ?_; clear F; intro φ F
        refine qt_skip F (wtn F rfl rfl rfl rfl rfl) rfl rfl ?_; clear F; intro φ F
        refine qt_pure F (wt0 rfl) (pu_pickf rfl (F.ev rfl) (evk)) rfl rfl ?_; clear F; intro φ F
        refine qt_pure F (wt0 rfl) (pu_move rfl (F.ev rfl)) rfl rfl ?_; clear F; intro φ F
        refine qt_skip F (wtn F rfl rfl rfl rfl rfl) rfl rfl ?_; clear F; intro φ F
        refine qt_skip F (wtn F rfl rfl rfl rfl rfl) rfl rfl ?_; clear F; intro φ F
        refine qt_skip F (wtn F rfl rfl rfl rfl rfl) rfl rfl ?_; clear F; intro φ F
        refine qt_pure F (wt0 rfl) (pu_pickf rfl (F.ev rfl) (evk)) rfl rfl ?_; clear F; intro φ F
        refine qt_pure F (wt0 rfl) (pu_assign rfl (F.ev rfl)) rfl rfl ?_; clear F; intro φ F
        refine wpQuiet_nil ?_
        clear M; intro ω M
        refine nxq ?_
        refine wp_ret ?_
        refine rt_tmp F rfl rfl ?_
        exfalso; clear F M; omega
      · rw [hs3] at F
        have hs3i := eq_t hs3; (try dsimp only at hs3i)
        refine qt_rd F (wt1 F rfl rfl rfl rfl rfl) (ld_agg rfl (F.ev rfl) agg23 (M.rdB (i := 4) rfl) rfl) rfl rfl ?_; clear F; intro φ F
        refine qt_rd F (wt1 F rfl rfl rfl rfl rfl) (ld_agg rfl (F.ev rfl) agg23 (M.rdB (i := 4) rfl) rfl) rfl rfl ?_; clear F; intro φ F
        refine qt_rd F (wt1 F rfl rfl rfl rfl rfl) (ld_agg rfl (F.ev rfl) agg23 (M.rdB (i := 3) rfl) rfl) rfl rfl ?_; clear F; intro φ F
        refine qt_call F (wt1 F rfl rfl rfl rfl rfl) rfl en18 (evc (F.ev rfl) (evc (F.ev rfl) evn)) (fun w' h => calls_below h (join_any a b w')) rfl rfl ?_; clear F; intro φ F
        refine qt_call F (wt1 F rfl rfl rfl rfl rfl) rfl en19 (evc (F.ev rfl) (evc (F.ev rfl) evn)) (fun w' h => calls_below h (meet_any a (a.join b) w')) rfl rfl ?_; clear F; intro φ F
        refine qt_rd F (wt1 F rfl rfl rfl rfl rfl) (ld_agg rfl (F.ev rfl) agg23 (M.rdB (i := 4) rfl) rfl) rfl rfl ?_; clear F; intro φ F
        refine qt_pure F (wt1 F rfl rfl rfl rfl rfl) (pu_eqlA rfl (F.ev rfl) (F.ev rfl) eqg23 (fun w => eqS23 (a.meet (a.join b)) a w)) rfl rfl ?_; clear F; intro φ F
        refine qt_pure F (wt0 rfl) (pu_pickt rfl (F.ev rfl) (F.ev rfl)) rfl rfl ?_; clear F; intro φ F
        refine qt_pure F (wt0 rfl) (pu_move rfl (F.ev rfl)) rfl rfl ?_; clear F; intro φ F
        cases hs4 : (decide ((a.meet (a.join b)) = a))
        · rw [hs4] at F
          have hs4i := eq_f hs4; (try dsimp only at hs4i)
          refine qt_skip F (wtn F rfl rfl rfl rfl rfl) rfl rfl ?_; clear F; intro φ F
          refine qt_skip F (wtn F rfl rfl rfl rfl rfl) rfl rfl ?_; clear F; intro φ F
          refine qt_skip F (wtn F rfl rfl rfl rfl rfl) rfl rfl ?_; clear F; intro φ F
          refine qt_pure F (wt0 rfl) (pu_pickf rfl (F.ev rfl) (evk)) rfl rfl ?_; clear F; intro φ F
          refine qt_pure F (wt0 rfl) (pu_assign rfl (F.ev rfl)) rfl rfl ?_; clear F; intro φ F
          refine wpQuiet_nil ?_
          clear M; intro ω M
          refine nxq ?_
          refine wp_ret ?_
          refine rt_tmp F rfl rfl ?_
          exfalso; clear F M; omega
        · rw [hs4] at F
          have hs4i := eq_t hs4; (try dsimp only at hs4i)
          refine qt_rd F (wt1 F rfl rfl rfl rfl rfl) (ld_agg rfl (F.ev rfl) agg23 (M.rdB (i := 1) rfl) rfl) rfl rfl ?_; clear F; intro φ F
          refine qt_rd F (wt1 F rfl rfl rfl rfl rfl) (ld_agg rfl (F.ev rfl) agg23 (M.rdB (i := 0) rfl) rfl) rfl rfl ?_; clear F; intro φ F
          refine qt_pure F (wt1 F rfl rfl rfl rfl rfl) (pu_eqlA rfl (F.ev rfl) (F.ev rfl) eqg23 (fun w => eqS23 (a.join (b.join c)) ((a.join b).join c) w)) rfl rfl ?_; clear F; intro φ F
          refine qt_pure F (wt0 rfl) (pu_pickt rfl (F.ev rfl) (F.ev rfl)) rfl rfl ?_; clear F; intro φ F
          refine qt_pure F (wt0 rfl) (pu_assign rfl (F.ev rfl)) rfl rfl ?_; clear F; intro φ F
          refine wpQuiet_nil ?_
          clear M; intro ω M
          refine nxq ?_
          cases hs5 : (decide ((a.join (b.join c)) = ((a.join b).join c)))
          · rw [hs5] at F
            have hs5i := eq_f hs5; (try dsimp only at hs5i)
            refine wp_ret ?_
            refine rt_tmp F rfl rfl ?_
            exfalso; clear F M; omega
          · rw [hs5] at F
            have hs5i := eq_t hs5; (try dsimp only at hs5i)
            refine wp_ret ?_
            refine rt_tmp F rfl rfl ?_
            exact ⟨rfl, M.bel⟩

end Go.Proofs.Ytolhinemfncejaa
