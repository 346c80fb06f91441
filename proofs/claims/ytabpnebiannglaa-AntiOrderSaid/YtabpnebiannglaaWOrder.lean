/- Laws of layer 3. Made by walks/antilaws.py. -/
import Derived.Test.YtabpnebiannglaaAl
namespace Go.Proofs.Ytabpnebiannglaa
open Go.RowKit Go.Sort

set_option maxHeartbeats 4000000 in
theorem antiOrder_walk (L : List St) (n : Int) (hn : n ≤ 9223372036854775807) (a : Value) (w : World) (ha : RdS w a L) :
    Calls Try.prog 8 #[a, .int .i64 n] w fun e w' => e = .returned (.bool true) ∧ Below w.heap.size w w' := by
  refine enterF Try.func8 rfl 58 Try.ntmps8 [a, .int .i64 n] rfl [(0, a), (1, .int .i64 n)] rfl ?_
  intro φ F
  have M := Mm.start [] w
  replace M := M.addArg (ha)
  refine wp_seq ?_
  -- region 0
  refine wp_region_lit ?_
  refine sq_pure F (wt0 rfl) (pu_assign rfl (evk)) rfl rfl ?_; clear F; intro φ F
  refine nx ?_
  refine wp_seq ?_
  -- region 1
  refine wp_region_lit ?_
  refine sq_call F M (wt0 rfl) rfl en11 evn (awake_any _) rfl rfl ?_; clear F M; intro φ ω F M
  refine sq_pure F (wt0 rfl) (pu_assign rfl (F.ev rfl)) rfl rfl ?_; clear F; intro φ F
  refine nx ?_
  refine wp_seq ?_
  refine wp_seq ?_
  -- region 2
  refine wp_region_lit ?_
  refine sq_pure F (wt0 rfl) (pu_move rfl (F.ev rfl)) rfl rfl ?_; clear F; intro φ F
  refine sq_pure F (wt0 rfl) (pu_len rfl (F.ev rfl) sl22 (M.av (i := 0) rfl)) rfl rfl ?_; clear F; intro φ F
  refine sq_pure F (wt0 rfl) (pu_gtr rfl (F.ev rfl) (evk)) rfl rfl ?_; clear F; intro φ F
  refine sq_pure F (wt0 rfl) (pu_move rfl (F.ev rfl)) rfl rfl ?_; clear F; intro φ F
  cases hs1 : (decide (200 < ((L.length : Nat) : Int)))
  · rw [hs1] at F
    have hs1i := of_decide_eq_false hs1
    refine sq_pure F (wt1 F rfl rfl rfl rfl rfl) (pu_move rfl (F.ev rfl)) rfl rfl ?_; clear F; intro φ F
    refine sq_pure F (wt1 F rfl rfl rfl rfl rfl) (pu_len rfl (F.ev rfl) sl22 (M.av (i := 0) rfl)) rfl rfl ?_; clear F; intro φ F
    refine sq_pure F (wt1 F rfl rfl rfl rfl rfl) (pu_eqlI rfl (F.ev rfl) (evk)) rfl rfl ?_; clear F; intro φ F
    refine sq_pure F (wt0 rfl) (pu_pickf rfl (F.ev rfl) (F.ev rfl)) rfl rfl ?_; clear F; intro φ F
    refine sq_pure F (wt0 rfl) (pu_move rfl (F.ev rfl)) rfl rfl ?_; clear F; intro φ F
    cases hs2 : (decide (((L.length : Nat) : Int) = 0))
    · rw [hs2] at F
      have hs2i := of_decide_eq_false hs2
      refine sq_pure F (wt1 F rfl rfl rfl rfl rfl) (pu_move rfl (F.ev rfl)) rfl rfl ?_; clear F; intro φ F
      refine sq_pure F (wt1 F rfl rfl rfl rfl rfl) (pu_lss rfl (F.ev rfl) (evk)) rfl rfl ?_; clear F; intro φ F
      refine sq_pure F (wt0 rfl) (pu_pickf rfl (F.ev rfl) (F.ev rfl)) rfl rfl ?_; clear F; intro φ F
      refine nx ?_
      cases hs3 : (decide (n < 0))
      · rw [hs3] at F
        have hs3i := of_decide_eq_false hs3
        refine wp_cond_false (F.ev rfl) ?_
        refine wp_skip ?_
        refine nxq ?_
        refine wp_seq ?_
        -- region 4
        refine wp_region_lit ?_
        refine sq_pure F (wt0 rfl) (pu_move rfl (F.ev rfl)) rfl rfl ?_; clear F; intro φ F
        refine sq_pure F (wt0 rfl) (pu_move rfl (F.ev rfl)) rfl rfl ?_; clear F; intro φ F
        refine sq_pure F (wt0 rfl) (pu_len rfl (F.ev rfl) sl22 (M.av (i := 0) rfl)) rfl rfl ?_; clear F; intro φ F
        have hp0 : (0 : Int) < ((L.length : Nat) : Int) := by omega
        refine sq_pure F (wt0 rfl) (pu_rem rfl (F.ev rfl) (F.ev rfl) (by omega) (by omega) (by omega)) rfl rfl ?_; clear F; intro φ F
        obtain ⟨k, hk⟩ : ∃ k, k = n % ((L.length : Nat) : Int) := ⟨_, rfl⟩
        rw [← hk] at F
        have hk0 : 0 ≤ k := by rw [hk]; exact Int.emod_nonneg _ (by omega)
        have hk1 : k < ((L.length : Nat) : Int) := by rw [hk]; exact Int.emod_lt_of_pos _ hp0
        clear hk
        refine sq_pure F (wt0 rfl) (pu_assign rfl (F.ev rfl)) rfl rfl ?_; clear F; intro φ F
        refine nx ?_
        refine wp_seq ?_
        -- region 5
        refine rg_J F 13 (fun Dd dv w' => (Dd 0 = true → dv 0 = a) ∧ (Dd 1 = true → dv 1 = .int .i64 k) ∧ (Dd 2 = true → dv 2 = .pointer (some ⟨gof a, oof a + (k.toNat * 2), none⟩)) ∧ (Dd 3 = true → dv 3 = .agg #[.int .i64 ((atS L k.toNat).e), .int .i64 ((atS L k.toNat).r)]) ∧ (Dd 5 = true → dv 5 = a) ∧ (Dd 6 = true → dv 6 = .int .i64 k) ∧ (Dd 7 = true → dv 7 = (subS 2 k.toNat L.length a)) ∧ (Dd 9 = true → dv 9 = a) ∧ (Dd 10 = true → dv 10 = .int .i64 k) ∧ (Dd 11 = true → dv 11 = (subS 2 0 k.toNat a)) ∧ Mm [] w w' [(if Dd 12 = true then .row 28 2 (dv 12) ((([(atS L k.toNat)] ++ (L.drop k.toNat)) ++ (L.take k.toNat)).length) (cS (([(atS L k.toNat)] ++ (L.drop k.toNat)) ++ (L.take k.toNat))) else (if Dd 8 = true then .row 28 2 (dv 8) (([(atS L k.toNat)] ++ (L.drop k.toNat)).length) (cS ([(atS L k.toNat)] ++ (L.drop k.toNat))) else (if Dd 4 = true then .row 28 2 (dv 4) 1 (cS [(atS L k.toNat)]) else .arg 1 (.slice none 0 0) 0 []))), .arg 2 a L.length (cS L)]) (fun dv => ⟨(fun h => by cases h), (fun h => by cases h), (fun h => by cases h), (fun h => by cases h), (fun h => by cases h), (fun h => by cases h), (fun h => by cases h), (fun h => by cases h), (fun h => by cases h), (fun h => by cases h), by simpa using (M.drew).dead⟩) mixedOK (by kernel_rfl) rfl ⟨?_, ?_, ?_, ?_, ?_, ?_, ?_, ?_, ?_, ?_, ?_, ?_, ?_, trivial⟩ ?_
        · intro Dd φ1 dv ω1 ⟨h0, h1, h2, h3, h5, h6, h7, h9, h10, h11, M⟩ hDi hdep hcl F1 hdone hold
          have F := (F1.cons (F.was hold (s := 0) rfl rfl))
          try simp only [hDi, Bool.false_eq_true, if_false, if_true, ite_true, ite_false] at M
          exact ⟨wt0 rfl, ow_run ((pu_move rfl (F.ev rfl)) ω1) ⟨_, rfl, newP, keepP rfl h1, keepP rfl h2, keepP rfl h3, keepP rfl h5, keepP rfl h6, keepP rfl h7, keepP rfl h9, keepP rfl h10, keepP rfl h11, by simpa [setB, setV, hDi, Bool.false_eq_true, if_false, if_true, ite_true, ite_false] using M⟩⟩
        · intro Dd φ1 dv ω1 ⟨h0, h1, h2, h3, h5, h6, h7, h9, h10, h11, M⟩ hDi hdep hcl F1 hdone hold
          have F := (F1.cons (F.was hold (s := 6) rfl rfl))
          try simp only [hDi, Bool.false_eq_true, if_false, if_true, ite_true, ite_false] at M
          exact ⟨wt0 rfl, ow_run ((pu_move rfl (F.ev rfl)) ω1) ⟨_, rfl, keepP rfl h0, newP, keepP rfl h2, keepP rfl h3, keepP rfl h5, keepP rfl h6, keepP rfl h7, keepP rfl h9, keepP rfl h10, keepP rfl h11, by simpa [setB, setV, hDi, Bool.false_eq_true, if_false, if_true, ite_true, ite_false] using M⟩⟩
        · intro Dd φ1 dv ω1 ⟨h0, h1, h2, h3, h5, h6, h7, h9, h10, h11, M⟩ hDi hdep hcl F1 hdone hold
          have d0 : Dd 0 = true := hdep 0 (by kernel_rfl)
          have d1 : Dd 1 = true := hdep 1 (by kernel_rfl)
          have F := ((F1.cons (k := 28) (hdone 0 _ _ d0 rfl rfl |>.trans (h0 d0))).cons (k := 29) (hdone 1 _ _ d1 rfl rfl |>.trans (h1 d1)))
          try simp only [d0, d1, hDi, Bool.false_eq_true, if_false, if_true, ite_true, ite_false] at M
          exact ⟨wt0 rfl, ow_run ((pu_ix rfl (F.ev rfl) (F.ev rfl) sl22 (M.av (i := 1) rfl) (by omega) (by omega)) ω1) ⟨_, rfl, keepP rfl h0, keepP rfl h1, newP, keepP rfl h3, keepP rfl h5, keepP rfl h6, keepP rfl h7, keepP rfl h9, keepP rfl h10, keepP rfl h11, by simpa [setB, setV, d0, d1, hDi, Bool.false_eq_true, if_false, if_true, ite_true, ite_false] using M⟩⟩
        · intro Dd φ1 dv ω1 ⟨h0, h1, h2, h3, h5, h6, h7, h9, h10, h11, M⟩ hDi hdep hcl F1 hdone hold
          have d2 : Dd 2 = true := hdep 2 (by kernel_rfl)
          have d0 : Dd 0 = true := hcl _ 0 d2 (by kernel_rfl)
          have d1 : Dd 1 = true := hcl _ 1 d2 (by kernel_rfl)
          have F := (F1.cons (k := 30) (hdone 2 _ _ d2 rfl rfl |>.trans (h2 d2)))
          try simp only [d0, d1, d2, hDi, Bool.false_eq_true, if_false, if_true, ite_true, ite_false] at M
          exact ⟨wt0 rfl, ow_run ((ld_el rfl (F.ev rfl) agg28 (fun _ e => e ▸ (M.av (i := 1) rfl)) (by omega) (cS_at (by first | omega | (simp; done) | (simp; omega))) rfl) ω1 rfl) ⟨_, rfl, keepP rfl h0, keepP rfl h1, keepP rfl h2, newP, keepP rfl h5, keepP rfl h6, keepP rfl h7, keepP rfl h9, keepP rfl h10, keepP rfl h11, by simpa [setB, setV, d0, d1, d2, hDi, Bool.false_eq_true, if_false, if_true, ite_true, ite_false] using M⟩⟩
        · intro Dd φ1 dv ω1 ⟨h0, h1, h2, h3, h5, h6, h7, h9, h10, h11, M⟩ hDi hdep hcl F1 hdone hold
          have d3 : Dd 3 = true := hdep 3 (by kernel_rfl)
          have d2 : Dd 2 = true := hcl _ 2 d3 (by kernel_rfl)
          have d0 : Dd 0 = true := hcl _ 0 d2 (by kernel_rfl)
          have d1 : Dd 1 = true := hcl _ 1 d2 (by kernel_rfl)
          have f8 : Dd 8 = false := notYet hcl (i := 4) (by kernel_rfl) hDi
          have f12 : Dd 12 = false := notYet hcl (i := 8) (by kernel_rfl) f8
          have F := (F1.cons (k := 31) (hdone 3 _ _ d3 rfl rfl |>.trans (h3 d3)))
          try simp only [d0, d1, d2, d3, hDi, f8, f12, Bool.false_eq_true, if_false, if_true, ite_true, ite_false] at M
          have M2 : Mm [] w _ (([_, _]).set 0 (.row 28 2 (.slice (some ⟨ω1.heap.size, 0, none⟩) 1 1) 1 (cS [(atS L k.toNat)]))) := M.fresh (i := 0) (e := 28) (m := 2) (k := 1) (cs := #[.int .i64 ((atS L k.toNat).e), .int .i64 ((atS L k.toNat).r)]) rfl (by omega) rfl
          exact ⟨wt0 rfl, ow_run (bs22_1 rfl (F.ev rfl) _) ⟨_, rfl, keepP rfl h0, keepP rfl h1, keepP rfl h2, keepP rfl h3, keepP rfl h5, keepP rfl h6, keepP rfl h7, keepP rfl h9, keepP rfl h10, keepP rfl h11, by simpa [setB, setV, d0, d1, d2, d3, hDi, f8, f12, Bool.false_eq_true, if_false, if_true, ite_true, ite_false] using M2⟩⟩
        · intro Dd φ1 dv ω1 ⟨h0, h1, h2, h3, h5, h6, h7, h9, h10, h11, M⟩ hDi hdep hcl F1 hdone hold
          have F := (F1.cons (F.was hold (s := 0) rfl rfl))
          try simp only [hDi, Bool.false_eq_true, if_false, if_true, ite_true, ite_false] at M
          exact ⟨wt0 rfl, ow_run ((pu_move rfl (F.ev rfl)) ω1) ⟨_, rfl, keepP rfl h0, keepP rfl h1, keepP rfl h2, keepP rfl h3, newP, keepP rfl h6, keepP rfl h7, keepP rfl h9, keepP rfl h10, keepP rfl h11, by simpa [setB, setV, hDi, Bool.false_eq_true, if_false, if_true, ite_true, ite_false] using M⟩⟩
        · intro Dd φ1 dv ω1 ⟨h0, h1, h2, h3, h5, h6, h7, h9, h10, h11, M⟩ hDi hdep hcl F1 hdone hold
          have F := (F1.cons (F.was hold (s := 6) rfl rfl))
          try simp only [hDi, Bool.false_eq_true, if_false, if_true, ite_true, ite_false] at M
          exact ⟨wt0 rfl, ow_run ((pu_move rfl (F.ev rfl)) ω1) ⟨_, rfl, keepP rfl h0, keepP rfl h1, keepP rfl h2, keepP rfl h3, keepP rfl h5, newP, keepP rfl h7, keepP rfl h9, keepP rfl h10, keepP rfl h11, by simpa [setB, setV, hDi, Bool.false_eq_true, if_false, if_true, ite_true, ite_false] using M⟩⟩
        · intro Dd φ1 dv ω1 ⟨h0, h1, h2, h3, h5, h6, h7, h9, h10, h11, M⟩ hDi hdep hcl F1 hdone hold
          have d5 : Dd 5 = true := hdep 5 (by kernel_rfl)
          have d6 : Dd 6 = true := hdep 6 (by kernel_rfl)
          have F := ((F1.cons (k := 33) (hdone 5 _ _ d5 rfl rfl |>.trans (h5 d5))).cons (k := 34) (hdone 6 _ _ d6 rfl rfl |>.trans (h6 d6)))
          try simp only [d5, d6, hDi, Bool.false_eq_true, if_false, if_true, ite_true, ite_false] at M
          exact ⟨wt0 rfl, ow_run ((pu_slice1 rfl (F.ev rfl) (F.ev rfl) sl22 (M.av (i := 1) rfl) (by omega) (by omega)) ω1) ⟨_, rfl, keepP rfl h0, keepP rfl h1, keepP rfl h2, keepP rfl h3, keepP rfl h5, keepP rfl h6, newP, keepP rfl h9, keepP rfl h10, keepP rfl h11, by simpa [setB, setV, d5, d6, hDi, Bool.false_eq_true, if_false, if_true, ite_true, ite_false] using M⟩⟩
        · intro Dd φ1 dv ω1 ⟨h0, h1, h2, h3, h5, h6, h7, h9, h10, h11, M⟩ hDi hdep hcl F1 hdone hold
          have d4 : Dd 4 = true := hdep 4 (by kernel_rfl)
          have d7 : Dd 7 = true := hdep 7 (by kernel_rfl)
          have d3 : Dd 3 = true := hcl _ 3 d4 (by kernel_rfl)
          have d5 : Dd 5 = true := hcl _ 5 d7 (by kernel_rfl)
          have d6 : Dd 6 = true := hcl _ 6 d7 (by kernel_rfl)
          have d2 : Dd 2 = true := hcl _ 2 d3 (by kernel_rfl)
          have d0 : Dd 0 = true := hcl _ 0 d2 (by kernel_rfl)
          have d1 : Dd 1 = true := hcl _ 1 d2 (by kernel_rfl)
          have f12 : Dd 12 = false := notYet hcl (i := 8) (by kernel_rfl) hDi
          have F := ((F1.cons (k := 32) (hdone 4 _ _ d4 rfl rfl)).cons (k := 35) (hdone 7 _ _ d7 rfl rfl |>.trans (h7 d7)))
          try simp only [d0, d1, d2, d3, d4, d5, d6, d7, hDi, f12, Bool.false_eq_true, if_false, if_true, ite_true, ite_false] at M
          refine ⟨wt0 rfl, ow_app M rfl sl22.1 el28 (F.ev rfl) (i := 0) rfl (F.ev rfl) (sub_rv (k := k.toNat) (M.av (i := 1) rfl) (by first | assumption | (simp only [List.length_set]; assumption) | (simp only [List.length_append, List.length_take, List.length_replicate]; omega) | rfl) (by omega)) (cS_ones _) (by first | omega | (simp only [List.length_append, List.length_take, List.length_drop, List.length_cons, List.length_nil]; omega)) (by omega) (fun x w2 M2 => ?_)⟩
          rw [← cS_app, show 1 + (L.length - k.toNat) = ([(atS L k.toNat)] ++ (L.drop k.toNat)).length from by first | rfl | (simp; done) | (simp; omega)] at M2
          exact ⟨_, rfl, keepP rfl h0, keepP rfl h1, keepP rfl h2, keepP rfl h3, keepP rfl h5, keepP rfl h6, keepP rfl h7, keepP rfl h9, keepP rfl h10, keepP rfl h11, by simpa [setB, setV, d0, d1, d2, d3, d4, d5, d6, d7, hDi, f12, Bool.false_eq_true, if_false, if_true, ite_true, ite_false] using M2⟩
        · intro Dd φ1 dv ω1 ⟨h0, h1, h2, h3, h5, h6, h7, h9, h10, h11, M⟩ hDi hdep hcl F1 hdone hold
          have F := (F1.cons (F.was hold (s := 0) rfl rfl))
          try simp only [hDi, Bool.false_eq_true, if_false, if_true, ite_true, ite_false] at M
          exact ⟨wt0 rfl, ow_run ((pu_move rfl (F.ev rfl)) ω1) ⟨_, rfl, keepP rfl h0, keepP rfl h1, keepP rfl h2, keepP rfl h3, keepP rfl h5, keepP rfl h6, keepP rfl h7, newP, keepP rfl h10, keepP rfl h11, by simpa [setB, setV, hDi, Bool.false_eq_true, if_false, if_true, ite_true, ite_false] using M⟩⟩
        · intro Dd φ1 dv ω1 ⟨h0, h1, h2, h3, h5, h6, h7, h9, h10, h11, M⟩ hDi hdep hcl F1 hdone hold
          have F := (F1.cons (F.was hold (s := 6) rfl rfl))
          try simp only [hDi, Bool.false_eq_true, if_false, if_true, ite_true, ite_false] at M
          exact ⟨wt0 rfl, ow_run ((pu_move rfl (F.ev rfl)) ω1) ⟨_, rfl, keepP rfl h0, keepP rfl h1, keepP rfl h2, keepP rfl h3, keepP rfl h5, keepP rfl h6, keepP rfl h7, keepP rfl h9, newP, keepP rfl h11, by simpa [setB, setV, hDi, Bool.false_eq_true, if_false, if_true, ite_true, ite_false] using M⟩⟩
        · intro Dd φ1 dv ω1 ⟨h0, h1, h2, h3, h5, h6, h7, h9, h10, h11, M⟩ hDi hdep hcl F1 hdone hold
          have d9 : Dd 9 = true := hdep 9 (by kernel_rfl)
          have d10 : Dd 10 = true := hdep 10 (by kernel_rfl)
          have F := ((F1.cons (k := 37) (hdone 9 _ _ d9 rfl rfl |>.trans (h9 d9))).cons (k := 38) (hdone 10 _ _ d10 rfl rfl |>.trans (h10 d10)))
          try simp only [d9, d10, hDi, Bool.false_eq_true, if_false, if_true, ite_true, ite_false] at M
          exact ⟨wt0 rfl, ow_run ((pu_slice0 rfl (F.ev rfl) (F.ev rfl) sl22 (M.av (i := 1) rfl) (by omega) (by omega)) ω1) ⟨_, rfl, keepP rfl h0, keepP rfl h1, keepP rfl h2, keepP rfl h3, keepP rfl h5, keepP rfl h6, keepP rfl h7, keepP rfl h9, keepP rfl h10, newP, by simpa [setB, setV, d9, d10, hDi, Bool.false_eq_true, if_false, if_true, ite_true, ite_false] using M⟩⟩
        · intro Dd φ1 dv ω1 ⟨h0, h1, h2, h3, h5, h6, h7, h9, h10, h11, M⟩ hDi hdep hcl F1 hdone hold
          have d8 : Dd 8 = true := hdep 8 (by kernel_rfl)
          have d11 : Dd 11 = true := hdep 11 (by kernel_rfl)
          have d4 : Dd 4 = true := hcl _ 4 d8 (by kernel_rfl)
          have d7 : Dd 7 = true := hcl _ 7 d8 (by kernel_rfl)
          have d9 : Dd 9 = true := hcl _ 9 d11 (by kernel_rfl)
          have d10 : Dd 10 = true := hcl _ 10 d11 (by kernel_rfl)
          have d3 : Dd 3 = true := hcl _ 3 d4 (by kernel_rfl)
          have d5 : Dd 5 = true := hcl _ 5 d7 (by kernel_rfl)
          have d6 : Dd 6 = true := hcl _ 6 d7 (by kernel_rfl)
          have d2 : Dd 2 = true := hcl _ 2 d3 (by kernel_rfl)
          have d0 : Dd 0 = true := hcl _ 0 d2 (by kernel_rfl)
          have d1 : Dd 1 = true := hcl _ 1 d2 (by kernel_rfl)
          have F := ((F1.cons (k := 36) (hdone 8 _ _ d8 rfl rfl)).cons (k := 39) (hdone 11 _ _ d11 rfl rfl |>.trans (h11 d11)))
          try simp only [d0, d1, d2, d3, d4, d5, d6, d7, d8, d9, d10, d11, hDi, Bool.false_eq_true, if_false, if_true, ite_true, ite_false] at M
          refine ⟨wt0 rfl, ow_app M rfl sl22.1 el28 (F.ev rfl) (i := 0) rfl (F.ev rfl) (take_rv (k := k.toNat) (M.av (i := 1) rfl) (by first | assumption | (simp only [List.length_set]; assumption) | (simp only [List.length_append, List.length_take, List.length_replicate]; omega) | rfl) (by omega)) (cS_ones _) (by first | omega | (simp only [List.length_append, List.length_take, List.length_drop, List.length_cons, List.length_nil]; omega)) (by omega) (fun x w2 M2 => ?_)⟩
          rw [← cS_app, show (([(atS L k.toNat)] ++ (L.drop k.toNat)).length) + k.toNat = (([(atS L k.toNat)] ++ (L.drop k.toNat)) ++ (L.take k.toNat)).length from by first | rfl | (simp; done) | (simp; omega)] at M2
          exact ⟨_, rfl, keepP rfl h0, keepP rfl h1, keepP rfl h2, keepP rfl h3, keepP rfl h5, keepP rfl h6, keepP rfl h7, keepP rfl h9, keepP rfl h10, keepP rfl h11, by simpa [setB, setV, d0, d1, d2, d3, d4, d5, d6, d7, d8, d9, d10, d11, hDi, Bool.false_eq_true, if_false, if_true, ite_true, ite_false] using M2⟩
        clear M; rintro dv φ ω ⟨h0, h1, h2, h3, h5, h6, h7, h9, h10, h11, M⟩ F
        simp only [hvL, List.take_succ_cons, List.take_zero] at F
        rw [h11 (by simp)] at F
        rw [h10 (by simp)] at F
        rw [h9 (by simp)] at F
        rw [h7 (by simp)] at F
        rw [h6 (by simp)] at F
        rw [h5 (by simp)] at F
        rw [h3 (by simp)] at F
        rw [h2 (by simp)] at F
        rw [h1 (by simp)] at F
        rw [h0 (by simp)] at F
        replace M : Mm [] w ω [.row 28 2 (dv 12) ((([(atS L k.toNat)] ++ (L.drop k.toNat)) ++ (L.take k.toNat)).length) (cS (([(atS L k.toNat)] ++ (L.drop k.toNat)) ++ (L.take k.toNat))), .arg 2 a L.length (cS L)] := by simpa using M
        clear h0 h1 h2 h3 h5 h6 h7 h9 h10 h11
        generalize dv 4 = v1 at F
        generalize dv 8 = v2 at F
        generalize dv 12 = v3 at F M
        refine sq_pure F (wt0 rfl) (pu_assign rfl (F.ev rfl)) rfl rfl ?_; clear F; intro φ F
        refine nx ?_
        refine wp_seq ?_
        -- region 6
        refine wp_region_lit ?_
        refine sq_pure F (wt0 rfl) (pu_move rfl (F.ev rfl)) rfl rfl ?_; clear F; intro φ F
        refine sq_callN F M (wt0 rfl) rfl en13 (evc (F.ev rfl) evn) (min_any L _ _ (M.av (i := 1) rfl) (by first | omega | (simp; done) | (simp; omega))) rfl rfl ?_; clear F M; intro φ ω v4 F M
        refine sq_pure F (wt0 rfl) (pu_move rfl (F.ev rfl)) rfl rfl ?_; clear F; intro φ F
        refine sq_callN F M (wt0 rfl) rfl en13 (evc (F.ev rfl) evn) (min_any (([(atS L k.toNat)] ++ (L.drop k.toNat)) ++ (L.take k.toNat)) _ _ (M.rv (i := 1) rfl) (by first | omega | (simp; done) | (simp; omega))) rfl rfl ?_; clear F M; intro φ ω v5 F M
        refine sq_call F M (wt0 rfl) rfl en12 (evc (F.ev rfl) (evc (F.ev rfl) evn)) (rsame_any (minL L) (minL (([(atS L k.toNat)] ++ (L.drop k.toNat)) ++ (L.take k.toNat))) _ _ _ (M.rv (i := 1) rfl) (M.rv (i := 0) rfl) (Nat.le_trans (minL_len _) (by first | omega | (simp; omega))) (Nat.le_trans (minL_len _) (by first | omega | (simp; omega)))) rfl rfl ?_; clear F M; intro φ ω F M
        refine sq_pure F (wt0 rfl) (pu_assign rfl (F.ev rfl)) rfl rfl ?_; clear F; intro φ F
        refine nx ?_
        refine wp_seq ?_
        -- region 7
        refine wp_region_lit ?_
        refine sq_pure F (wt0 rfl) (pu_move rfl (F.ev rfl)) rfl rfl ?_; clear F; intro φ F
        refine sq_callN F M (wt0 rfl) rfl en15 (evc (F.ev rfl) evn) (row_any L _ _ (M.av (i := 3) rfl) (by first | omega | (simp; done) | (simp; omega))) rfl rfl ?_; clear F M; intro φ ω v6 F M
        refine sq_pure F (wt0 rfl) (pu_move rfl (F.ev rfl)) rfl rfl ?_; clear F; intro φ F
        refine sq_callN F M (wt0 rfl) rfl en15 (evc (F.ev rfl) evn) (row_any (([(atS L k.toNat)] ++ (L.drop k.toNat)) ++ (L.take k.toNat)) _ _ (M.rv (i := 3) rfl) (by first | omega | (simp; done) | (simp; omega))) rfl rfl ?_; clear F M; intro φ ω v7 F M
        refine sq_call F M (wt0 rfl) rfl en12 (evc (F.ev rfl) (evc (F.ev rfl) evn)) (rsame_any (rowL L) (rowL (([(atS L k.toNat)] ++ (L.drop k.toNat)) ++ (L.take k.toNat))) _ _ _ (M.rv (i := 1) rfl) (M.rv (i := 0) rfl) (Nat.le_trans (rowL_len _) (by first | omega | (simp; omega))) (Nat.le_trans (rowL_len _) (by first | omega | (simp; omega)))) rfl rfl ?_; clear F M; intro φ ω F M
        refine sq_pure F (wt0 rfl) (pu_assign rfl (F.ev rfl)) rfl rfl ?_; clear F; intro φ F
        refine nx ?_
        refine wp_seq ?_
        -- region 8
        refine wp_region_lit ?_
        refine sq_pure F (wt0 rfl) (pu_move rfl (F.ev rfl)) rfl rfl ?_; clear F; intro φ F
        refine sq_pure F (wt0 rfl) (pu_move rfl (F.ev rfl)) rfl rfl ?_; clear F; intro φ F
        refine sq_pure F (wt1 F rfl rfl rfl rfl rfl) (pu_move rfl (F.ev rfl)) rfl rfl ?_; clear F; intro φ F
        refine sq_pure F (wt0 rfl) (pu_pickt rfl (F.ev rfl) (F.ev rfl)) rfl rfl ?_; clear F; intro φ F
        refine sq_pure F (wt0 rfl) (pu_move rfl (F.ev rfl)) rfl rfl ?_; clear F; intro φ F
        cases hs4 : (decide ((minL L) = (minL (([(atS L k.toNat)] ++ (L.drop k.toNat)) ++ (L.take k.toNat)))))
        · rw [hs4] at F
          have hs4i := of_decide_eq_false hs4
          refine sq_skip F (wtn F rfl rfl rfl rfl rfl) rfl rfl ?_; clear F; intro φ F
          refine sq_pure F (wt0 rfl) (pu_pickf rfl (F.ev rfl) (evk)) rfl rfl ?_; clear F; intro φ F
          refine sq_pure F (wt0 rfl) (pu_assign rfl (F.ev rfl)) rfl rfl ?_; clear F; intro φ F
          refine nx ?_
          refine wp_ret ?_
          refine rt_tmp F rfl rfl ?_
          exfalso; clear F M; first | omega | (refine absurd (min_mem (A := L) (B := _) fun t => (turned_mem (L := L) (k := k.toNat) (by omega) t).symm) ?_; assumption) | (refine absurd (row_mem (A := L) (B := _) fun t => (turned_mem (L := L) (k := k.toNat) (by omega) t).symm) ?_; assumption)
        · rw [hs4] at F
          have hs4i := of_decide_eq_true hs4
          refine sq_pure F (wt1 F rfl rfl rfl rfl rfl) (pu_move rfl (F.ev rfl)) rfl rfl ?_; clear F; intro φ F
          refine sq_pure F (wt0 rfl) (pu_pickt rfl (F.ev rfl) (F.ev rfl)) rfl rfl ?_; clear F; intro φ F
          refine sq_pure F (wt0 rfl) (pu_assign rfl (F.ev rfl)) rfl rfl ?_; clear F; intro φ F
          refine nx ?_
          cases hs5 : (decide ((rowL L) = (rowL (([(atS L k.toNat)] ++ (L.drop k.toNat)) ++ (L.take k.toNat)))))
          · rw [hs5] at F
            have hs5i := of_decide_eq_false hs5
            refine wp_ret ?_
            refine rt_tmp F rfl rfl ?_
            exfalso; clear F M; first | omega | (refine absurd (min_mem (A := L) (B := _) fun t => (turned_mem (L := L) (k := k.toNat) (by omega) t).symm) ?_; assumption) | (refine absurd (row_mem (A := L) (B := _) fun t => (turned_mem (L := L) (k := k.toNat) (by omega) t).symm) ?_; assumption)
          · rw [hs5] at F
            have hs5i := of_decide_eq_true hs5
            refine wp_ret ?_
            refine rt_tmp F rfl rfl ?_
            exact ⟨rfl, M.bel⟩
      · rw [hs3] at F
        have hs3i := of_decide_eq_true hs3
        refine wp_cond_true (F.ev rfl) ?_
        refine wp_seq ?_
        -- region 3
        refine wp_region_lit ?_
        refine sq_pure F (wt0 rfl) (pu_move rfl (F.ev rfl)) rfl rfl ?_; clear F; intro φ F
        refine sq_pure F (wt0 rfl) (pu_assign rfl (F.ev rfl)) rfl rfl ?_; clear F; intro φ F
        refine nx ?_
        refine wp_ret ?_
        refine nxr ?_
        refine rt_tmp F rfl rfl ?_
        exact ⟨rfl, M.bel⟩
    · rw [hs2] at F
      have hs2i := of_decide_eq_true hs2
      refine sq_skip F (wtn F rfl rfl rfl rfl rfl) rfl rfl ?_; clear F; intro φ F
      refine sq_skip F (wtn F rfl rfl rfl rfl rfl) rfl rfl ?_; clear F; intro φ F
      refine sq_pure F (wt0 rfl) (pu_pickt rfl (F.ev rfl) (evk)) rfl rfl ?_; clear F; intro φ F
      refine nx ?_
      refine wp_cond_true (F.ev rfl) ?_
      refine wp_seq ?_
      -- region 3
      refine wp_region_lit ?_
      refine sq_pure F (wt0 rfl) (pu_move rfl (F.ev rfl)) rfl rfl ?_; clear F; intro φ F
      refine sq_pure F (wt0 rfl) (pu_assign rfl (F.ev rfl)) rfl rfl ?_; clear F; intro φ F
      refine nx ?_
      refine wp_ret ?_
      refine nxr ?_
      refine rt_tmp F rfl rfl ?_
      exact ⟨rfl, M.bel⟩
  · rw [hs1] at F
    have hs1i := of_decide_eq_true hs1
    refine sq_skip F (wtn F rfl rfl rfl rfl rfl) rfl rfl ?_; clear F; intro φ F
    refine sq_skip F (wtn F rfl rfl rfl rfl rfl) rfl rfl ?_; clear F; intro φ F
    refine sq_skip F (wtn F rfl rfl rfl rfl rfl) rfl rfl ?_; clear F; intro φ F
    refine sq_pure F (wt0 rfl) (pu_pickt rfl (F.ev rfl) (evk)) rfl rfl ?_; clear F; intro φ F
    refine sq_pure F (wt0 rfl) (pu_move rfl (F.ev rfl)) rfl rfl ?_; clear F; intro φ F
    refine sq_skip F (wtn F rfl rfl rfl rfl rfl) rfl rfl ?_; clear F; intro φ F
    refine sq_skip F (wtn F rfl rfl rfl rfl rfl) rfl rfl ?_; clear F; intro φ F
    refine sq_pure F (wt0 rfl) (pu_pickt rfl (F.ev rfl) (evk)) rfl rfl ?_; clear F; intro φ F
    refine nx ?_
    refine wp_cond_true (F.ev rfl) ?_
    refine wp_seq ?_
    -- region 3
    refine wp_region_lit ?_
    refine sq_pure F (wt0 rfl) (pu_move rfl (F.ev rfl)) rfl rfl ?_; clear F; intro φ F
    refine sq_pure F (wt0 rfl) (pu_assign rfl (F.ev rfl)) rfl rfl ?_; clear F; intro φ F
    refine nx ?_
    refine wp_ret ?_
    refine nxr ?_
    refine rt_tmp F rfl rfl ?_
    exact ⟨rfl, M.bel⟩

end Go.Proofs.Ytabpnebiannglaa
