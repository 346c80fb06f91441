/- Laws of layer 3. Made by walks/antilaws.py. -/
import Derived.Test.YtabpnebiannglaaAl
import Derived.Test.YtabpnebiannglaaRk
namespace Go.Proofs.Ytabpnebiannglaa
open Go.RowKit Go.Sort

set_option maxHeartbeats 4000000 in
theorem antiOne_walk (t : St) (L : List St) (s : Value) (w : World) (hs : RdS w s L) :
    Calls Try.prog 10 #[.agg #[.int .i64 t.e, .int .i64 t.r], s] w fun e w' => e = .returned (.bool true) ∧ Below w.heap.size w w' := by
  refine enterF Try.func10 rfl 102 Try.ntmps10 [.agg #[.int .i64 t.e, .int .i64 t.r], s] rfl [(0, .agg #[.int .i64 t.e, .int .i64 t.r]), (1, s)] rfl ?_
  intro φ F
  have M := Mm.start [] w
  replace M := M.addArg (hs)
  refine wp_seq ?_
  -- region 0
  refine wp_region_lit ?_
  refine sq_box F M (wt0 rfl) rfl (F.ev rfl) (cs := #[.int .i64 t.e, .int .i64 t.r]) rfl rfl rfl ?_; clear F M; intro φ ω g1 F M
  refine sq_pure F (wt0 rfl) (pu_assign rfl (evk)) rfl rfl ?_; clear F; intro φ F
  refine nx ?_
  refine wp_seq ?_
  -- region 1
  refine wp_region_lit ?_
  refine sq_call F M (wt0 rfl) rfl en11 evn (awake_any _) rfl rfl ?_; clear F M; intro φ ω F M
  refine sq_pure F (wt0 rfl) (pu_assign rfl (F.ev rfl)) rfl rfl ?_; clear F; intro φ F
  refine nx ?_
  refine wp_seq ?_
  -- region 2
  refine wp_region_lit ?_
  refine sq_rd F (wt0 rfl) (ld_agg rfl (F.ev rfl) agg28 (M.rd (i := 0) rfl) rfl) rfl rfl ?_; clear F; intro φ F
  refine sq_call F M (wt0 rfl) rfl en23 (evc (F.ev rfl) evn) (rright_any t _) rfl rfl ?_; clear F M; intro φ ω F M
  refine sq_pure F (wt0 rfl) (pu_assign rfl (F.ev rfl)) rfl rfl ?_; clear F; intro φ F
  refine nx ?_
  refine wp_seq ?_
  refine wp_seq ?_
  -- region 3
  refine wp_region_lit ?_
  refine sq_pure F (wt0 rfl) (pu_move rfl (F.ev rfl)) rfl rfl ?_; clear F; intro φ F
  refine sq_pure F (wt0 rfl) (pu_len rfl (F.ev rfl) sl34 (M.av (i := 1) rfl)) rfl rfl ?_; clear F; intro φ F
  refine sq_pure F (wt0 rfl) (pu_gtr rfl (F.ev rfl) (evk)) rfl rfl ?_; clear F; intro φ F
  refine sq_pure F (wt0 rfl) (pu_move rfl (F.ev rfl)) rfl rfl ?_; clear F; intro φ F
  cases hs1 : (decide (50 < ((L.length : Nat) : Int)))
  · rw [hs1] at F
    have hs1i := of_decide_eq_false hs1
    refine sq_pure F (wt1 F rfl rfl rfl rfl rfl) (pu_move rfl (F.ev rfl)) rfl rfl ?_; clear F; intro φ F
    cases hs2 : t.rightB
    · rw [hs2] at F
      refine sq_pure F (wt1 F rfl rfl rfl rfl rfl) (pu_not rfl (F.ev rfl)) rfl rfl ?_; clear F; intro φ F
      rw [show (!false) = true from rfl] at F
      refine sq_pure F (wt0 rfl) (pu_pickf rfl (F.ev rfl) (F.ev rfl)) rfl rfl ?_; clear F; intro φ F
      refine nx ?_
      refine wp_cond_true (F.ev rfl) ?_
      refine wp_seq ?_
      -- region 4
      refine wp_region_lit ?_
      refine sq_pure F (wt0 rfl) (pu_move rfl (F.ev rfl)) rfl rfl ?_; clear F; intro φ F
      refine sq_pure F (wt0 rfl) (pu_assign rfl (F.ev rfl)) rfl rfl ?_; clear F; intro φ F
      refine nx ?_
      refine wp_ret ?_
      refine nxr ?_
      refine rt_tmp F rfl rfl ?_
      exact ⟨rfl, M.bel⟩
    · rw [hs2] at F
      refine sq_pure F (wt1 F rfl rfl rfl rfl rfl) (pu_not rfl (F.ev rfl)) rfl rfl ?_; clear F; intro φ F
      rw [show (!true) = false from rfl] at F
      refine sq_pure F (wt0 rfl) (pu_pickf rfl (F.ev rfl) (F.ev rfl)) rfl rfl ?_; clear F; intro φ F
      refine nx ?_
      refine wp_cond_false (F.ev rfl) ?_
      refine wp_skip ?_
      refine nxq ?_
      refine wp_seq ?_
      -- region 5
      refine wp_region_lit ?_
      refine sq_rd F (wt0 rfl) (ld_agg rfl (F.ev rfl) agg28 (M.rd (i := 0) rfl) rfl) rfl rfl ?_; clear F; intro φ F
      refine sq_bs (e := 28) (m := 2) (k := 1) (parts := #[]) (cs := #[.int .i64 t.e, .int .i64 t.r]) F M (wt0 rfl) (bs22_1 rfl (F.ev rfl) _) (by omega) rfl rfl rfl ?_; clear F M; intro φ ω g2 F M
      replace M : Mm [] w ω [.row 28 2 (.slice (some ⟨g2, 0, none⟩) 1 1) 1 (cS [t]), .blk g1 28 #[.int .i64 t.e, .int .i64 t.r], .arg 2 s L.length (cS L)] := M
      refine sq_pure F (wt0 rfl) (pu_assign rfl (F.ev rfl)) rfl rfl ?_; clear F; intro φ F
      refine nx ?_
      refine wp_seq ?_
      refine wp_seq ?_
      -- region 6
      refine wp_region_lit ?_
      refine sq_pure F (wt0 rfl) (pu_assign rfl (evk)) rfl rfl ?_; clear F; intro φ F
      refine nx ?_
      refine wp_cut (fun φ' w' => ∃ vq : Value, ∃ Q : List St, Fr φ' 102 [(1, s), (2, .pointer (some ⟨g1, 0, none⟩)), (5, .bool true), (6, .bool true), (7, vq)] ∧ Mm [] w w' [.row 28 2 vq Q.length (cS Q), .blk g1 28 #[.int .i64 t.e, .int .i64 t.r], .arg 2 s L.length (cS L)] ∧ (Chn t Q) ∧ (1 ≤ Q.length) ∧ (Q.length ≤ 60)) ?_ ?_
      · skip
        refine wp_block ?_
        refine lp (σ := Int) (fun i φ' w' => ∃ vq : Value, ∃ Q : List St, Fr φ' 102 [(1, s), (2, .pointer (some ⟨g1, 0, none⟩)), (5, .bool true), (6, .bool true), (7, vq), (8, .int .i64 i)] ∧ Mm [] w w' [.row 28 2 vq Q.length (cS Q), .blk g1 28 #[.int .i64 t.e, .int .i64 t.r], .arg 2 s L.length (cS L)] ∧ (0 ≤ i) ∧ (i ≤ (((L.length : Nat)) : Int)) ∧ (Chn t Q) ∧ (1 ≤ Q.length) ∧ ((Q.length : Int) ≤ i + 1)) (fun i => (((L.length : Nat) : Int) - i).toNat) (0) ⟨(.slice (some ⟨g2, 0, none⟩) 1 1), [t], ((((((F.nil.cons (F.get (k := 8) rfl)).cons (F.get (k := 7) rfl)).cons (F.get (k := 6) rfl)).cons (F.get (k := 5) rfl)).cons (F.get (k := 2) rfl)).cons (F.get (k := 1) rfl)), M, Int.le_refl _, by omega, Chn.start t, by simp, by simp⟩ ?_
        clear F M
        rintro i φ ω ⟨vq, Q, F, M, hp3_0, hp3_1, hp3_2, hp3_3, hp3_4⟩
        refine wp_seq ?_
        refine wp_seq ?_
        -- region 7
        refine wp_region_lit ?_
        refine sq_pure F (wt0 rfl) (pu_move rfl (F.ev rfl)) rfl rfl ?_; clear F; intro φ F
        refine sq_pure F (wt0 rfl) (pu_move rfl (F.ev rfl)) rfl rfl ?_; clear F; intro φ F
        refine sq_pure F (wt0 rfl) (pu_len rfl (F.ev rfl) sl34 (M.av (i := 2) rfl)) rfl rfl ?_; clear F; intro φ F
        refine sq_pure F (wt0 rfl) (pu_lss rfl (F.ev rfl) (F.ev rfl)) rfl rfl ?_; clear F; intro φ F
        refine nx ?_
        cases hs4 : (decide (i < ((L.length : Nat) : Int)))
        · rw [hs4] at F
          have hs4i := of_decide_eq_false hs4
          refine wp_cond_false (F.ev rfl) ?_
          refine wp_exit ?_
          refine nxe ?_
          refine nxe ?_
          refine nxm ?_
          exact ⟨vq, Q, (((((F.nil.cons (F.get (k := 7) rfl)).cons (F.get (k := 6) rfl)).cons (F.get (k := 5) rfl)).cons (F.get (k := 2) rfl)).cons (F.get (k := 1) rfl)), M, hp3_2, by omega, by omega⟩
        · rw [hs4] at F
          have hs4i := of_decide_eq_true hs4
          refine wp_cond_true (F.ev rfl) ?_
          refine wp_skip ?_
          refine nxq ?_
          refine wp_seq ?_
          refine wp_block ?_
          refine wp_seq ?_
          -- region 9
          refine rg_J F 16 (fun Dd dv w' => (Dd 0 = true → dv 0 = vq) ∧ (Dd 1 = true → dv 1 = vq) ∧ (Dd 2 = true → dv 2 = .int .i64 ((Q.length : Nat) : Int)) ∧ (Dd 3 = true → dv 3 = .int .i64 (((Q.length : Nat) : Int) - 1)) ∧ (Dd 4 = true → dv 4 = .pointer (some ⟨gof vq, oof vq + ((((Q.length : Nat) : Int) - 1).toNat * 2), none⟩)) ∧ (Dd 5 = true → dv 5 = .agg #[.int .i64 ((atS Q ((((Q.length : Nat) : Int) - 1).toNat)).e), .int .i64 ((atS Q ((((Q.length : Nat) : Int) - 1).toNat)).r)]) ∧ (Dd 6 = true → dv 6 = s) ∧ (Dd 7 = true → dv 7 = .int .i64 i) ∧ (Dd 8 = true → dv 8 = .pointer (some ⟨gof s, oof s + (i.toNat * 2), none⟩)) ∧ (Dd 9 = true → dv 9 = .agg #[.int .i64 ((atS L i.toNat).e), .int .i64 ((atS L i.toNat).r)]) ∧ (Dd 10 = true → dv 10 = .tuple #[.agg #[.int .i64 (((atS Q ((((Q.length : Nat) : Int) - 1).toNat)).after (atS L i.toNat)).e), .int .i64 (((atS Q ((((Q.length : Nat) : Int) - 1).toNat)).after (atS L i.toNat)).r)], .bool ((atS Q ((((Q.length : Nat) : Int) - 1).toNat)).afterB (atS L i.toNat))]) ∧ (Dd 11 = true → dv 11 = .tuple #[.agg #[.int .i64 (((atS Q ((((Q.length : Nat) : Int) - 1).toNat)).after (atS L i.toNat)).e), .int .i64 (((atS Q ((((Q.length : Nat) : Int) - 1).toNat)).after (atS L i.toNat)).r)], .bool ((atS Q ((((Q.length : Nat) : Int) - 1).toNat)).afterB (atS L i.toNat))]) ∧ (Dd 12 = true → dv 12 = .agg #[.int .i64 (((atS Q ((((Q.length : Nat) : Int) - 1).toNat)).after (atS L i.toNat)).e), .int .i64 (((atS Q ((((Q.length : Nat) : Int) - 1).toNat)).after (atS L i.toNat)).r)]) ∧ (Dd 13 = true → dv 13 = .bool ((atS Q ((((Q.length : Nat) : Int) - 1).toNat)).afterB (atS L i.toNat))) ∧ (Dd 14 = true → dv 14 = .pointer (some ⟨(pof (dv 14)), 0, none⟩)) ∧ Mm [] w w' [(if Dd 15 = true then .blk (pof (dv 14)) 28 #[.int .i64 (((atS Q ((((Q.length : Nat) : Int) - 1).toNat)).after (atS L i.toNat)).e), .int .i64 (((atS Q ((((Q.length : Nat) : Int) - 1).toNat)).after (atS L i.toNat)).r)] else (if Dd 14 = true then .blk (pof (dv 14)) 28 #[.int .i64 0, .int .i64 0] else .arg 1 (.slice none 0 0) 0 [])), .row 28 2 vq Q.length (cS Q), .blk g1 28 #[.int .i64 t.e, .int .i64 t.r], .arg 2 s L.length (cS L)]) (fun dv => ⟨(fun h => by cases h), (fun h => by cases h), (fun h => by cases h), (fun h => by cases h), (fun h => by cases h), (fun h => by cases h), (fun h => by cases h), (fun h => by cases h), (fun h => by cases h), (fun h => by cases h), (fun h => by cases h), (fun h => by cases h), (fun h => by cases h), (fun h => by cases h), (fun h => by cases h), by simpa using (M.drew).dead⟩) mixedOK (by kernel_rfl) rfl ⟨?_, ?_, ?_, ?_, ?_, ?_, ?_, ?_, ?_, ?_, ?_, ?_, ?_, ?_, ?_, ?_, trivial⟩ ?_
          · intro Dd φ1 dv ω1 ⟨h0, h1, h2, h3, h4, h5, h6, h7, h8, h9, h10, h11, h12, h13, h14, M⟩ hDi hdep hcl F1 hdone hold
            have F := (F1.cons (F.was hold (s := 7) rfl rfl))
            try simp only [hDi, Bool.false_eq_true, if_false, if_true, ite_true, ite_false] at M
            exact ⟨wt0 rfl, ow_run ((pu_move rfl (F.ev rfl)) ω1) ⟨_, rfl, newP, keepP rfl h1, keepP rfl h2, keepP rfl h3, keepP rfl h4, keepP rfl h5, keepP rfl h6, keepP rfl h7, keepP rfl h8, keepP rfl h9, keepP rfl h10, keepP rfl h11, keepP rfl h12, keepP rfl h13, keepP rfl h14, by simpa [setB, setV, hDi, Bool.false_eq_true, if_false, if_true, ite_true, ite_false] using M⟩⟩
          · intro Dd φ1 dv ω1 ⟨h0, h1, h2, h3, h4, h5, h6, h7, h8, h9, h10, h11, h12, h13, h14, M⟩ hDi hdep hcl F1 hdone hold
            have F := (F1.cons (F.was hold (s := 7) rfl rfl))
            try simp only [hDi, Bool.false_eq_true, if_false, if_true, ite_true, ite_false] at M
            exact ⟨wt0 rfl, ow_run ((pu_move rfl (F.ev rfl)) ω1) ⟨_, rfl, keepP rfl h0, newP, keepP rfl h2, keepP rfl h3, keepP rfl h4, keepP rfl h5, keepP rfl h6, keepP rfl h7, keepP rfl h8, keepP rfl h9, keepP rfl h10, keepP rfl h11, keepP rfl h12, keepP rfl h13, keepP rfl h14, by simpa [setB, setV, hDi, Bool.false_eq_true, if_false, if_true, ite_true, ite_false] using M⟩⟩
          · intro Dd φ1 dv ω1 ⟨h0, h1, h2, h3, h4, h5, h6, h7, h8, h9, h10, h11, h12, h13, h14, M⟩ hDi hdep hcl F1 hdone hold
            have d1 : Dd 1 = true := hdep 1 (by kernel_rfl)
            have F := (F1.cons (k := 34) (hdone 1 _ _ d1 rfl rfl |>.trans (h1 d1)))
            try simp only [d1, hDi, Bool.false_eq_true, if_false, if_true, ite_true, ite_false] at M
            exact ⟨wt0 rfl, ow_run ((pu_len rfl (F.ev rfl) sl22 (M.rv (i := 1) rfl)) ω1) ⟨_, rfl, keepP rfl h0, keepP rfl h1, newP, keepP rfl h3, keepP rfl h4, keepP rfl h5, keepP rfl h6, keepP rfl h7, keepP rfl h8, keepP rfl h9, keepP rfl h10, keepP rfl h11, keepP rfl h12, keepP rfl h13, keepP rfl h14, by simpa [setB, setV, d1, hDi, Bool.false_eq_true, if_false, if_true, ite_true, ite_false] using M⟩⟩
          · intro Dd φ1 dv ω1 ⟨h0, h1, h2, h3, h4, h5, h6, h7, h8, h9, h10, h11, h12, h13, h14, M⟩ hDi hdep hcl F1 hdone hold
            have d2 : Dd 2 = true := hdep 2 (by kernel_rfl)
            have d1 : Dd 1 = true := hcl _ 1 d2 (by kernel_rfl)
            have F := (F1.cons (k := 35) (hdone 2 _ _ d2 rfl rfl |>.trans (h2 d2)))
            try simp only [d1, d2, hDi, Bool.false_eq_true, if_false, if_true, ite_true, ite_false] at M
            exact ⟨wt0 rfl, ow_run ((pu_sub rfl (F.ev rfl) (evk) (by omega) (by omega)) ω1) ⟨_, rfl, keepP rfl h0, keepP rfl h1, keepP rfl h2, newP, keepP rfl h4, keepP rfl h5, keepP rfl h6, keepP rfl h7, keepP rfl h8, keepP rfl h9, keepP rfl h10, keepP rfl h11, keepP rfl h12, keepP rfl h13, keepP rfl h14, by simpa [setB, setV, d1, d2, hDi, Bool.false_eq_true, if_false, if_true, ite_true, ite_false] using M⟩⟩
          · intro Dd φ1 dv ω1 ⟨h0, h1, h2, h3, h4, h5, h6, h7, h8, h9, h10, h11, h12, h13, h14, M⟩ hDi hdep hcl F1 hdone hold
            have d0 : Dd 0 = true := hdep 0 (by kernel_rfl)
            have d3 : Dd 3 = true := hdep 3 (by kernel_rfl)
            have d2 : Dd 2 = true := hcl _ 2 d3 (by kernel_rfl)
            have d1 : Dd 1 = true := hcl _ 1 d2 (by kernel_rfl)
            have F := ((F1.cons (k := 33) (hdone 0 _ _ d0 rfl rfl |>.trans (h0 d0))).cons (k := 36) (hdone 3 _ _ d3 rfl rfl |>.trans (h3 d3)))
            try simp only [d0, d1, d2, d3, hDi, Bool.false_eq_true, if_false, if_true, ite_true, ite_false] at M
            exact ⟨wt0 rfl, ow_run ((pu_ix rfl (F.ev rfl) (F.ev rfl) sl22 (M.rv (i := 1) rfl) (by omega) (by omega)) ω1) ⟨_, rfl, keepP rfl h0, keepP rfl h1, keepP rfl h2, keepP rfl h3, newP, keepP rfl h5, keepP rfl h6, keepP rfl h7, keepP rfl h8, keepP rfl h9, keepP rfl h10, keepP rfl h11, keepP rfl h12, keepP rfl h13, keepP rfl h14, by simpa [setB, setV, d0, d1, d2, d3, hDi, Bool.false_eq_true, if_false, if_true, ite_true, ite_false] using M⟩⟩
          · intro Dd φ1 dv ω1 ⟨h0, h1, h2, h3, h4, h5, h6, h7, h8, h9, h10, h11, h12, h13, h14, M⟩ hDi hdep hcl F1 hdone hold
            have d4 : Dd 4 = true := hdep 4 (by kernel_rfl)
            have d0 : Dd 0 = true := hcl _ 0 d4 (by kernel_rfl)
            have d3 : Dd 3 = true := hcl _ 3 d4 (by kernel_rfl)
            have d2 : Dd 2 = true := hcl _ 2 d3 (by kernel_rfl)
            have d1 : Dd 1 = true := hcl _ 1 d2 (by kernel_rfl)
            have F := (F1.cons (k := 37) (hdone 4 _ _ d4 rfl rfl |>.trans (h4 d4)))
            try simp only [d0, d1, d2, d3, d4, hDi, Bool.false_eq_true, if_false, if_true, ite_true, ite_false] at M
            exact ⟨wt0 rfl, ow_run ((ld_el rfl (F.ev rfl) agg28 (fun _ e => e ▸ (M.rv (i := 1) rfl)) (by omega) (cS_at (by first | omega | (simp; done) | (simp; omega))) rfl) ω1 rfl) ⟨_, rfl, keepP rfl h0, keepP rfl h1, keepP rfl h2, keepP rfl h3, keepP rfl h4, newP, keepP rfl h6, keepP rfl h7, keepP rfl h8, keepP rfl h9, keepP rfl h10, keepP rfl h11, keepP rfl h12, keepP rfl h13, keepP rfl h14, by simpa [setB, setV, d0, d1, d2, d3, d4, hDi, Bool.false_eq_true, if_false, if_true, ite_true, ite_false] using M⟩⟩
          · intro Dd φ1 dv ω1 ⟨h0, h1, h2, h3, h4, h5, h6, h7, h8, h9, h10, h11, h12, h13, h14, M⟩ hDi hdep hcl F1 hdone hold
            have F := (F1.cons (F.was hold (s := 1) rfl rfl))
            try simp only [hDi, Bool.false_eq_true, if_false, if_true, ite_true, ite_false] at M
            exact ⟨wt0 rfl, ow_run ((pu_move rfl (F.ev rfl)) ω1) ⟨_, rfl, keepP rfl h0, keepP rfl h1, keepP rfl h2, keepP rfl h3, keepP rfl h4, keepP rfl h5, newP, keepP rfl h7, keepP rfl h8, keepP rfl h9, keepP rfl h10, keepP rfl h11, keepP rfl h12, keepP rfl h13, keepP rfl h14, by simpa [setB, setV, hDi, Bool.false_eq_true, if_false, if_true, ite_true, ite_false] using M⟩⟩
          · intro Dd φ1 dv ω1 ⟨h0, h1, h2, h3, h4, h5, h6, h7, h8, h9, h10, h11, h12, h13, h14, M⟩ hDi hdep hcl F1 hdone hold
            have F := (F1.cons (F.was hold (s := 8) rfl rfl))
            try simp only [hDi, Bool.false_eq_true, if_false, if_true, ite_true, ite_false] at M
            exact ⟨wt0 rfl, ow_run ((pu_move rfl (F.ev rfl)) ω1) ⟨_, rfl, keepP rfl h0, keepP rfl h1, keepP rfl h2, keepP rfl h3, keepP rfl h4, keepP rfl h5, keepP rfl h6, newP, keepP rfl h8, keepP rfl h9, keepP rfl h10, keepP rfl h11, keepP rfl h12, keepP rfl h13, keepP rfl h14, by simpa [setB, setV, hDi, Bool.false_eq_true, if_false, if_true, ite_true, ite_false] using M⟩⟩
          · intro Dd φ1 dv ω1 ⟨h0, h1, h2, h3, h4, h5, h6, h7, h8, h9, h10, h11, h12, h13, h14, M⟩ hDi hdep hcl F1 hdone hold
            have d6 : Dd 6 = true := hdep 6 (by kernel_rfl)
            have d7 : Dd 7 = true := hdep 7 (by kernel_rfl)
            have F := ((F1.cons (k := 39) (hdone 6 _ _ d6 rfl rfl |>.trans (h6 d6))).cons (k := 40) (hdone 7 _ _ d7 rfl rfl |>.trans (h7 d7)))
            try simp only [d6, d7, hDi, Bool.false_eq_true, if_false, if_true, ite_true, ite_false] at M
            exact ⟨wt0 rfl, ow_run ((pu_ix rfl (F.ev rfl) (F.ev rfl) sl34 (M.av (i := 3) rfl) (by omega) (by omega)) ω1) ⟨_, rfl, keepP rfl h0, keepP rfl h1, keepP rfl h2, keepP rfl h3, keepP rfl h4, keepP rfl h5, keepP rfl h6, keepP rfl h7, newP, keepP rfl h9, keepP rfl h10, keepP rfl h11, keepP rfl h12, keepP rfl h13, keepP rfl h14, by simpa [setB, setV, d6, d7, hDi, Bool.false_eq_true, if_false, if_true, ite_true, ite_false] using M⟩⟩
          · intro Dd φ1 dv ω1 ⟨h0, h1, h2, h3, h4, h5, h6, h7, h8, h9, h10, h11, h12, h13, h14, M⟩ hDi hdep hcl F1 hdone hold
            have d8 : Dd 8 = true := hdep 8 (by kernel_rfl)
            have d6 : Dd 6 = true := hcl _ 6 d8 (by kernel_rfl)
            have d7 : Dd 7 = true := hcl _ 7 d8 (by kernel_rfl)
            have F := (F1.cons (k := 41) (hdone 8 _ _ d8 rfl rfl |>.trans (h8 d8)))
            try simp only [d6, d7, d8, hDi, Bool.false_eq_true, if_false, if_true, ite_true, ite_false] at M
            exact ⟨wt0 rfl, ow_run ((ld_el rfl (F.ev rfl) agg38 (fun _ e => e ▸ (M.av (i := 3) rfl)) (by omega) (cS_at (by first | omega | (simp; done) | (simp; omega))) rfl) ω1 rfl) ⟨_, rfl, keepP rfl h0, keepP rfl h1, keepP rfl h2, keepP rfl h3, keepP rfl h4, keepP rfl h5, keepP rfl h6, keepP rfl h7, keepP rfl h8, newP, keepP rfl h10, keepP rfl h11, keepP rfl h12, keepP rfl h13, keepP rfl h14, by simpa [setB, setV, d6, d7, d8, hDi, Bool.false_eq_true, if_false, if_true, ite_true, ite_false] using M⟩⟩
          · intro Dd φ1 dv ω1 ⟨h0, h1, h2, h3, h4, h5, h6, h7, h8, h9, h10, h11, h12, h13, h14, M⟩ hDi hdep hcl F1 hdone hold
            have d5 : Dd 5 = true := hdep 5 (by kernel_rfl)
            have d9 : Dd 9 = true := hdep 9 (by kernel_rfl)
            have d4 : Dd 4 = true := hcl _ 4 d5 (by kernel_rfl)
            have d8 : Dd 8 = true := hcl _ 8 d9 (by kernel_rfl)
            have d0 : Dd 0 = true := hcl _ 0 d4 (by kernel_rfl)
            have d3 : Dd 3 = true := hcl _ 3 d4 (by kernel_rfl)
            have d6 : Dd 6 = true := hcl _ 6 d8 (by kernel_rfl)
            have d7 : Dd 7 = true := hcl _ 7 d8 (by kernel_rfl)
            have d2 : Dd 2 = true := hcl _ 2 d3 (by kernel_rfl)
            have d1 : Dd 1 = true := hcl _ 1 d2 (by kernel_rfl)
            have F := ((F1.cons (k := 38) (hdone 5 _ _ d5 rfl rfl |>.trans (h5 d5))).cons (k := 42) (hdone 9 _ _ d9 rfl rfl |>.trans (h9 d9)))
            try simp only [d0, d1, d2, d3, d4, d5, d6, d7, d8, d9, hDi, Bool.false_eq_true, if_false, if_true, ite_true, ite_false] at M
            exact ⟨wt0 rfl, ow_callZ rfl en24 (evc (F.ev rfl) (evc (F.ev rfl) evn)) (Z := fun x w2 => x = .tuple #[.agg #[.int .i64 (((atS Q ((((Q.length : Nat) : Int) - 1).toNat)).after (atS L i.toNat)).e), .int .i64 (((atS Q ((((Q.length : Nat) : Int) - 1).toNat)).after (atS L i.toNat)).r)], .bool ((atS Q ((((Q.length : Nat) : Int) - 1).toNat)).afterB (atS L i.toNat))] ∧ Below ω1.heap.size ω1 w2) (Calls.mono (rafter_any (atS Q ((((Q.length : Nat) : Int) - 1).toNat)) (atS L i.toNat) _) (fun e w2 h => ⟨_, h.1, rfl, h.2⟩)) (fun x w2 ⟨hx2, hb2⟩ => by subst hx2; have M2 := M.below hb2; exact ⟨_, rfl, keepP rfl h0, keepP rfl h1, keepP rfl h2, keepP rfl h3, keepP rfl h4, keepP rfl h5, keepP rfl h6, keepP rfl h7, keepP rfl h8, keepP rfl h9, newP, keepP rfl h11, keepP rfl h12, keepP rfl h13, keepP rfl h14, by simpa [setB, setV, d0, d1, d2, d3, d4, d5, d6, d7, d8, d9, hDi, Bool.false_eq_true, if_false, if_true, ite_true, ite_false] using M2⟩)⟩
          · intro Dd φ1 dv ω1 ⟨h0, h1, h2, h3, h4, h5, h6, h7, h8, h9, h10, h11, h12, h13, h14, M⟩ hDi hdep hcl F1 hdone hold
            have d10 : Dd 10 = true := hdep 10 (by kernel_rfl)
            have d5 : Dd 5 = true := hcl _ 5 d10 (by kernel_rfl)
            have d9 : Dd 9 = true := hcl _ 9 d10 (by kernel_rfl)
            have d4 : Dd 4 = true := hcl _ 4 d5 (by kernel_rfl)
            have d8 : Dd 8 = true := hcl _ 8 d9 (by kernel_rfl)
            have d0 : Dd 0 = true := hcl _ 0 d4 (by kernel_rfl)
            have d3 : Dd 3 = true := hcl _ 3 d4 (by kernel_rfl)
            have d6 : Dd 6 = true := hcl _ 6 d8 (by kernel_rfl)
            have d7 : Dd 7 = true := hcl _ 7 d8 (by kernel_rfl)
            have d2 : Dd 2 = true := hcl _ 2 d3 (by kernel_rfl)
            have d1 : Dd 1 = true := hcl _ 1 d2 (by kernel_rfl)
            have F := (F1.cons (k := 43) (hdone 10 _ _ d10 rfl rfl |>.trans (h10 d10)))
            try simp only [d0, d1, d2, d3, d4, d5, d6, d7, d8, d9, d10, hDi, Bool.false_eq_true, if_false, if_true, ite_true, ite_false] at M
            exact ⟨wt0 rfl, ow_run ((pu_move rfl (F.ev rfl)) ω1) ⟨_, rfl, keepP rfl h0, keepP rfl h1, keepP rfl h2, keepP rfl h3, keepP rfl h4, keepP rfl h5, keepP rfl h6, keepP rfl h7, keepP rfl h8, keepP rfl h9, keepP rfl h10, newP, keepP rfl h12, keepP rfl h13, keepP rfl h14, by simpa [setB, setV, d0, d1, d2, d3, d4, d5, d6, d7, d8, d9, d10, hDi, Bool.false_eq_true, if_false, if_true, ite_true, ite_false] using M⟩⟩
          · intro Dd φ1 dv ω1 ⟨h0, h1, h2, h3, h4, h5, h6, h7, h8, h9, h10, h11, h12, h13, h14, M⟩ hDi hdep hcl F1 hdone hold
            have d11 : Dd 11 = true := hdep 11 (by kernel_rfl)
            have d10 : Dd 10 = true := hcl _ 10 d11 (by kernel_rfl)
            have d5 : Dd 5 = true := hcl _ 5 d10 (by kernel_rfl)
            have d9 : Dd 9 = true := hcl _ 9 d10 (by kernel_rfl)
            have d4 : Dd 4 = true := hcl _ 4 d5 (by kernel_rfl)
            have d8 : Dd 8 = true := hcl _ 8 d9 (by kernel_rfl)
            have d0 : Dd 0 = true := hcl _ 0 d4 (by kernel_rfl)
            have d3 : Dd 3 = true := hcl _ 3 d4 (by kernel_rfl)
            have d6 : Dd 6 = true := hcl _ 6 d8 (by kernel_rfl)
            have d7 : Dd 7 = true := hcl _ 7 d8 (by kernel_rfl)
            have d2 : Dd 2 = true := hcl _ 2 d3 (by kernel_rfl)
            have d1 : Dd 1 = true := hcl _ 1 d2 (by kernel_rfl)
            have F := (F1.cons (k := 32) (hdone 11 _ _ d11 rfl rfl |>.trans (h11 d11)))
            try simp only [d0, d1, d2, d3, d4, d5, d6, d7, d8, d9, d10, d11, hDi, Bool.false_eq_true, if_false, if_true, ite_true, ite_false] at M
            exact ⟨wt0 rfl, ow_run ((pu_extract rfl (F.ev rfl) rfl) ω1) ⟨_, rfl, keepP rfl h0, keepP rfl h1, keepP rfl h2, keepP rfl h3, keepP rfl h4, keepP rfl h5, keepP rfl h6, keepP rfl h7, keepP rfl h8, keepP rfl h9, keepP rfl h10, keepP rfl h11, newP, keepP rfl h13, keepP rfl h14, by simpa [setB, setV, d0, d1, d2, d3, d4, d5, d6, d7, d8, d9, d10, d11, hDi, Bool.false_eq_true, if_false, if_true, ite_true, ite_false] using M⟩⟩
          · intro Dd φ1 dv ω1 ⟨h0, h1, h2, h3, h4, h5, h6, h7, h8, h9, h10, h11, h12, h13, h14, M⟩ hDi hdep hcl F1 hdone hold
            have d11 : Dd 11 = true := hdep 11 (by kernel_rfl)
            have d10 : Dd 10 = true := hcl _ 10 d11 (by kernel_rfl)
            have d5 : Dd 5 = true := hcl _ 5 d10 (by kernel_rfl)
            have d9 : Dd 9 = true := hcl _ 9 d10 (by kernel_rfl)
            have d4 : Dd 4 = true := hcl _ 4 d5 (by kernel_rfl)
            have d8 : Dd 8 = true := hcl _ 8 d9 (by kernel_rfl)
            have d0 : Dd 0 = true := hcl _ 0 d4 (by kernel_rfl)
            have d3 : Dd 3 = true := hcl _ 3 d4 (by kernel_rfl)
            have d6 : Dd 6 = true := hcl _ 6 d8 (by kernel_rfl)
            have d7 : Dd 7 = true := hcl _ 7 d8 (by kernel_rfl)
            have d2 : Dd 2 = true := hcl _ 2 d3 (by kernel_rfl)
            have d1 : Dd 1 = true := hcl _ 1 d2 (by kernel_rfl)
            have F := (F1.cons (k := 32) (hdone 11 _ _ d11 rfl rfl |>.trans (h11 d11)))
            try simp only [d0, d1, d2, d3, d4, d5, d6, d7, d8, d9, d10, d11, hDi, Bool.false_eq_true, if_false, if_true, ite_true, ite_false] at M
            exact ⟨wt0 rfl, ow_run ((pu_extract rfl (F.ev rfl) rfl) ω1) ⟨_, rfl, keepP rfl h0, keepP rfl h1, keepP rfl h2, keepP rfl h3, keepP rfl h4, keepP rfl h5, keepP rfl h6, keepP rfl h7, keepP rfl h8, keepP rfl h9, keepP rfl h10, keepP rfl h11, keepP rfl h12, newP, keepP rfl h14, by simpa [setB, setV, d0, d1, d2, d3, d4, d5, d6, d7, d8, d9, d10, d11, hDi, Bool.false_eq_true, if_false, if_true, ite_true, ite_false] using M⟩⟩
          · intro Dd φ1 dv ω1 ⟨h0, h1, h2, h3, h4, h5, h6, h7, h8, h9, h10, h11, h12, h13, h14, M⟩ hDi hdep hcl F1 hdone hold
            have f15 : Dd 15 = false := notYet hcl (i := 14) (by kernel_rfl) hDi
            have F := F1
            try simp only [hDi, f15, Bool.false_eq_true, if_false, if_true, ite_true, ite_false] at M
            refine ⟨wt0 rfl, ow_allocB M rfl z28 (i := 0) rfl (fun x w2 hx2 M2 => ?_)⟩
            exact ⟨_, rfl, keepP rfl h0, keepP rfl h1, keepP rfl h2, keepP rfl h3, keepP rfl h4, keepP rfl h5, keepP rfl h6, keepP rfl h7, keepP rfl h8, keepP rfl h9, keepP rfl h10, keepP rfl h11, keepP rfl h12, keepP rfl h13, (fun _ => by simpa [setV] using hx2), by simpa [setB, setV, hDi, f15, Bool.false_eq_true, if_false, if_true, ite_true, ite_false] using M2⟩
          · intro Dd φ1 dv ω1 ⟨h0, h1, h2, h3, h4, h5, h6, h7, h8, h9, h10, h11, h12, h13, h14, M⟩ hDi hdep hcl F1 hdone hold
            have d14 : Dd 14 = true := hdep 14 (by kernel_rfl)
            have d12 : Dd 12 = true := hdep 12 (by kernel_rfl)
            have d11 : Dd 11 = true := hcl _ 11 d12 (by kernel_rfl)
            have d10 : Dd 10 = true := hcl _ 10 d11 (by kernel_rfl)
            have d5 : Dd 5 = true := hcl _ 5 d10 (by kernel_rfl)
            have d9 : Dd 9 = true := hcl _ 9 d10 (by kernel_rfl)
            have d4 : Dd 4 = true := hcl _ 4 d5 (by kernel_rfl)
            have d8 : Dd 8 = true := hcl _ 8 d9 (by kernel_rfl)
            have d0 : Dd 0 = true := hcl _ 0 d4 (by kernel_rfl)
            have d3 : Dd 3 = true := hcl _ 3 d4 (by kernel_rfl)
            have d6 : Dd 6 = true := hcl _ 6 d8 (by kernel_rfl)
            have d7 : Dd 7 = true := hcl _ 7 d8 (by kernel_rfl)
            have d2 : Dd 2 = true := hcl _ 2 d3 (by kernel_rfl)
            have d1 : Dd 1 = true := hcl _ 1 d2 (by kernel_rfl)
            have F := ((F1.cons (k := 9) (hdone 14 _ _ d14 rfl rfl |>.trans (h14 d14))).cons (k := 44) (hdone 12 _ _ d12 rfl rfl |>.trans (h12 d12)))
            try simp only [d0, d1, d2, d3, d4, d5, d6, d7, d8, d9, d10, d11, d12, d14, hDi, Bool.false_eq_true, if_false, if_true, ite_true, ite_false] at M
            exact ⟨wt0 rfl, ow_stA M rfl (F.ev rfl) (F.ev rfl) (i := 0) rfl agg28 rfl rfl rfl rfl (fun x w2 M2 => ⟨x, rfl, keepP rfl h0, keepP rfl h1, keepP rfl h2, keepP rfl h3, keepP rfl h4, keepP rfl h5, keepP rfl h6, keepP rfl h7, keepP rfl h8, keepP rfl h9, keepP rfl h10, keepP rfl h11, keepP rfl h12, keepP rfl h13, keepP rfl h14, by simpa [setB, setV, d0, d1, d2, d3, d4, d5, d6, d7, d8, d9, d10, d11, d12, d14, hDi, Bool.false_eq_true, if_false, if_true, ite_true, ite_false] using M2⟩)⟩
          clear M; rintro dv φ ω ⟨h0, h1, h2, h3, h4, h5, h6, h7, h8, h9, h10, h11, h12, h13, h14, M⟩ F
          simp only [hvL, List.take_succ_cons, List.take_zero] at F
          have hq14 := h14 (by simp)
          have F14 := F.get (k := 9) rfl
          replace F := F.cons (F14.trans hq14)
          rw [h13 (by simp)] at F
          rw [h12 (by simp)] at F
          rw [h11 (by simp)] at F
          rw [h10 (by simp)] at F
          rw [h9 (by simp)] at F
          rw [h8 (by simp)] at F
          rw [h7 (by simp)] at F
          rw [h6 (by simp)] at F
          rw [h5 (by simp)] at F
          rw [h4 (by simp)] at F
          rw [h3 (by simp)] at F
          rw [h2 (by simp)] at F
          rw [h1 (by simp)] at F
          rw [h0 (by simp)] at F
          replace M : Mm [] w ω [.blk (pof (dv 14)) 28 #[.int .i64 (((atS Q ((((Q.length : Nat) : Int) - 1).toNat)).after (atS L i.toNat)).e), .int .i64 (((atS Q ((((Q.length : Nat) : Int) - 1).toNat)).after (atS L i.toNat)).r)], .row 28 2 vq Q.length (cS Q), .blk g1 28 #[.int .i64 t.e, .int .i64 t.r], .arg 2 s L.length (cS L)] := by simpa using M
          clear h0 h1 h2 h3 h4 h5 h6 h7 h8 h9 h10 h11 h12 h13 h14
          generalize pof (dv 14) = g3 at F M
          refine sq_pure F (wt0 rfl) (pu_assign rfl (F.ev rfl)) rfl rfl ?_; clear F; intro φ F
          refine nx ?_
          refine wp_seq ?_
          -- region 10
          refine wp_region_lit ?_
          refine sq_pure F (wt0 rfl) (pu_move rfl (F.ev rfl)) rfl rfl ?_; clear F; intro φ F
          refine nx ?_
          cases hs5 : ((atS Q ((((Q.length : Nat) : Int) - 1).toNat)).afterB (atS L i.toNat))
          · rw [hs5] at F
            refine wp_cond_false (F.ev rfl) ?_
            refine wp_skip ?_
            refine nxb ?_
            refine nxq ?_
            -- region 8
            refine wp_region_lit ?_
            refine sq_pure F (wt0 rfl) (pu_move rfl (F.ev rfl)) rfl rfl ?_; clear F; intro φ F
            refine sq_pure F (wt0 rfl) (pu_add rfl (F.ev rfl) (evk) (by omega) (by omega)) rfl rfl ?_; clear F; intro φ F
            refine sq_pure F (wt0 rfl) (pu_assign rfl (F.ev rfl)) rfl rfl ?_; clear F; intro φ F
            refine wpList_nil ?_
            exact ⟨i + 1, by omega, vq, Q, ((((((F.nil.cons (F.get (k := 8) rfl)).cons (F.get (k := 7) rfl)).cons (F.get (k := 6) rfl)).cons (F.get (k := 5) rfl)).cons (F.get (k := 2) rfl)).cons (F.get (k := 1) rfl)), (M.sub (.cons _ (List.Sublist.refl _))), by omega, by omega, hp3_2, by omega, by omega⟩
          · rw [hs5] at F
            refine wp_cond_true (F.ev rfl) ?_
            -- region 11
            refine wp_region_lit ?_
            refine sq_pure F (wt0 rfl) (pu_move rfl (F.ev rfl)) rfl rfl ?_; clear F; intro φ F
            refine sq_rd F (wt0 rfl) (ld_agg rfl (F.ev rfl) agg28 (M.rd (i := 0) rfl) rfl) rfl rfl ?_; clear F; intro φ F
            refine sq_bs (e := 28) (m := 2) (k := 1) (parts := #[]) (cs := #[.int .i64 (((atS Q ((((Q.length : Nat) : Int) - 1).toNat)).after (atS L i.toNat)).e), .int .i64 (((atS Q ((((Q.length : Nat) : Int) - 1).toNat)).after (atS L i.toNat)).r)]) F M (wt0 rfl) (bs22_1 rfl (F.ev rfl) _) (by omega) rfl rfl rfl ?_; clear F M; intro φ ω g4 F M
            replace M : Mm [] w ω [.row 28 2 (.slice (some ⟨g4, 0, none⟩) 1 1) 1 (cS [((atS Q ((((Q.length : Nat) : Int) - 1).toNat)).after (atS L i.toNat))]), .blk g3 28 #[.int .i64 (((atS Q ((((Q.length : Nat) : Int) - 1).toNat)).after (atS L i.toNat)).e), .int .i64 (((atS Q ((((Q.length : Nat) : Int) - 1).toNat)).after (atS L i.toNat)).r)], .row 28 2 vq Q.length (cS Q), .blk g1 28 #[.int .i64 t.e, .int .i64 t.r], .arg 2 s L.length (cS L)] := M
            refine sq_app F M (wt0 rfl) rfl sl22.1 el28 (F.ev rfl) (i := 2) rfl (F.ev rfl) (M.rv (i := 0) rfl) (cS_ones _) (by omega) (by omega) rfl rfl ?_; clear F M; intro φ ω v1 F M
            replace M : Mm [] w ω [.row 28 2 (.slice (some ⟨g4, 0, none⟩) 1 1) 1 (cS [((atS Q ((((Q.length : Nat) : Int) - 1).toNat)).after (atS L i.toNat))]), .blk g3 28 #[.int .i64 (((atS Q ((((Q.length : Nat) : Int) - 1).toNat)).after (atS L i.toNat)).e), .int .i64 (((atS Q ((((Q.length : Nat) : Int) - 1).toNat)).after (atS L i.toNat)).r)], .row 28 2 v1 (Q.length + 1) ((cS Q) ++ (cS [((atS Q ((((Q.length : Nat) : Int) - 1).toNat)).after (atS L i.toNat))])), .blk g1 28 #[.int .i64 t.e, .int .i64 t.r], .arg 2 s L.length (cS L)] := M
            rw [← cS_app, show Q.length + 1 = (Q ++ [((atS Q ((((Q.length : Nat) : Int) - 1).toNat)).after (atS L i.toNat))]).length from by first | rfl | (simp; done) | (simp; omega)] at M
            refine sq_pure F (wt0 rfl) (pu_assign rfl (F.ev rfl)) rfl rfl ?_; clear F; intro φ F
            refine wpList_nil ?_
            refine nxb ?_
            refine nxq ?_
            -- region 8
            refine wp_region_lit ?_
            refine sq_pure F (wt0 rfl) (pu_move rfl (F.ev rfl)) rfl rfl ?_; clear F; intro φ F
            refine sq_pure F (wt0 rfl) (pu_add rfl (F.ev rfl) (evk) (by omega) (by omega)) rfl rfl ?_; clear F; intro φ F
            refine sq_pure F (wt0 rfl) (pu_assign rfl (F.ev rfl)) rfl rfl ?_; clear F; intro φ F
            refine wpList_nil ?_
            exact ⟨i + 1, by omega, v1, (Q ++ [((atS Q ((((Q.length : Nat) : Int) - 1).toNat)).after (atS L i.toNat))]), ((((((F.nil.cons (F.get (k := 8) rfl)).cons (F.get (k := 7) rfl)).cons (F.get (k := 6) rfl)).cons (F.get (k := 5) rfl)).cons (F.get (k := 2) rfl)).cons (F.get (k := 1) rfl)), (M.sub (.cons _ (.cons _ (List.Sublist.refl _)))), by omega, by omega, hp3_2.next (by omega) (after_le hs5), by rw [List.length_append, List.length_singleton]; omega, by rw [List.length_append, List.length_singleton]; omega⟩
      · skip
        clear F M
        rintro φ ω ⟨vq, Q, F, M, hp6_0, hp6_1, hp6_2⟩
        refine nxq ?_
        refine wp_seq ?_
        -- region 12
        refine wp_region_lit ?_
        refine sq_pure F (wt0 rfl) (pu_move rfl (F.ev rfl)) rfl rfl ?_; clear F; intro φ F
        refine sq_callN F M (wt0 rfl) rfl en13 (evc (F.ev rfl) evn) (min_any Q _ _ (M.rv (i := 0) rfl) (by first | omega | (simp; done) | (simp; omega))) rfl rfl ?_; clear F M; intro φ ω v2 F M
        refine sq_pure F (wt0 rfl) (pu_assign rfl (F.ev rfl)) rfl rfl ?_; clear F; intro φ F
        refine nx ?_
        refine wp_seq ?_
        -- region 13
        refine wp_region_lit ?_
        refine sq_pure F (wt0 rfl) (pu_move rfl (F.ev rfl)) rfl rfl ?_; clear F; intro φ F
        refine sq_callN F M (wt0 rfl) rfl en15 (evc (F.ev rfl) evn) (row_any Q _ _ (M.rv (i := 1) rfl) (by first | omega | (simp; done) | (simp; omega))) rfl rfl ?_; clear F M; intro φ ω v3 F M
        have y1 := hp6_0.row0
        have y2 : atS (minL Q) 0 = t := by rw [hp6_0.min]; rfl
        have y3 : (((minL Q).length : Nat) : Int) = 1 := by rw [hp6_0.min]; rfl
        have y4 := hp6_0.rowl
        have y5 := rowL_len Q
        have y6 := y1.1
        have y7 := y1.2
        refine sq_pure F (wt0 rfl) (pu_assign rfl (F.ev rfl)) rfl rfl ?_; clear F; intro φ F
        refine nx ?_
        refine wp_seq ?_
        -- region 14
        refine rg_quiet M mixedOK (by kernel_rfl) ?_
        refine qt_pure F (wt0 rfl) (pu_move rfl (F.ev rfl)) rfl rfl ?_; clear F; intro φ F
        refine qt_pure F (wt0 rfl) (pu_move rfl (F.ev rfl)) rfl rfl ?_; clear F; intro φ F
        refine qt_pure F (wt1 F rfl rfl rfl rfl rfl) (pu_move rfl (F.ev rfl)) rfl rfl ?_; clear F; intro φ F
        refine qt_pure F (wt1 F rfl rfl rfl rfl rfl) (pu_len rfl (F.ev rfl) sl22 (M.rv (i := 1) rfl)) rfl rfl ?_; clear F; intro φ F
        refine qt_pure F (wt1 F rfl rfl rfl rfl rfl) (pu_eqlI rfl (F.ev rfl) (evk)) rfl rfl ?_; clear F; intro φ F
        refine qt_pure F (wt0 rfl) (pu_pickt rfl (F.ev rfl) (F.ev rfl)) rfl rfl ?_; clear F; intro φ F
        refine qt_pure F (wt0 rfl) (pu_move rfl (F.ev rfl)) rfl rfl ?_; clear F; intro φ F
        cases hs7 : (decide ((((minL Q).length : Nat) : Int) = 1))
        · rw [hs7] at F
          have hs7i := of_decide_eq_false hs7
          refine qt_skip F (wtn F rfl rfl rfl rfl rfl) rfl rfl ?_; clear F; intro φ F
          refine qt_skip F (wtn F rfl rfl rfl rfl rfl) rfl rfl ?_; clear F; intro φ F
          refine qt_skip F (wtn F rfl rfl rfl rfl rfl) rfl rfl ?_; clear F; intro φ F
          refine qt_skip F (wtn F rfl rfl rfl rfl rfl) rfl rfl ?_; clear F; intro φ F
          refine qt_skip F (wtn F rfl rfl rfl rfl rfl) rfl rfl ?_; clear F; intro φ F
          refine qt_pure F (wt0 rfl) (pu_pickf rfl (F.ev rfl) (evk)) rfl rfl ?_; clear F; intro φ F
          refine qt_pure F (wt0 rfl) (pu_move rfl (F.ev rfl)) rfl rfl ?_; clear F; intro φ F
          refine qt_skip F (wtn F rfl rfl rfl rfl rfl) rfl rfl ?_; clear F; intro φ F
          refine qt_skip F (wtn F rfl rfl rfl rfl rfl) rfl rfl ?_; clear F; intro φ F
          refine qt_skip F (wtn F rfl rfl rfl rfl rfl) rfl rfl ?_; clear F; intro φ F
          refine qt_pure F (wt0 rfl) (pu_pickf rfl (F.ev rfl) (evk)) rfl rfl ?_; clear F; intro φ F
          refine qt_pure F (wt0 rfl) (pu_move rfl (F.ev rfl)) rfl rfl ?_; clear F; intro φ F
          refine qt_skip F (wtn F rfl rfl rfl rfl rfl) rfl rfl ?_; clear F; intro φ F
          refine qt_skip F (wtn F rfl rfl rfl rfl rfl) rfl rfl ?_; clear F; intro φ F
          refine qt_skip F (wtn F rfl rfl rfl rfl rfl) rfl rfl ?_; clear F; intro φ F
          refine qt_skip F (wtn F rfl rfl rfl rfl rfl) rfl rfl ?_; clear F; intro φ F
          refine qt_skip F (wtn F rfl rfl rfl rfl rfl) rfl rfl ?_; clear F; intro φ F
          refine qt_pure F (wt0 rfl) (pu_pickf rfl (F.ev rfl) (evk)) rfl rfl ?_; clear F; intro φ F
          refine qt_pure F (wt0 rfl) (pu_move rfl (F.ev rfl)) rfl rfl ?_; clear F; intro φ F
          refine qt_skip F (wtn F rfl rfl rfl rfl rfl) rfl rfl ?_; clear F; intro φ F
          refine qt_skip F (wtn F rfl rfl rfl rfl rfl) rfl rfl ?_; clear F; intro φ F
          refine qt_skip F (wtn F rfl rfl rfl rfl rfl) rfl rfl ?_; clear F; intro φ F
          refine qt_skip F (wtn F rfl rfl rfl rfl rfl) rfl rfl ?_; clear F; intro φ F
          refine qt_skip F (wtn F rfl rfl rfl rfl rfl) rfl rfl ?_; clear F; intro φ F
          refine qt_pure F (wt0 rfl) (pu_pickf rfl (F.ev rfl) (evk)) rfl rfl ?_; clear F; intro φ F
          refine qt_pure F (wt0 rfl) (pu_move rfl (F.ev rfl)) rfl rfl ?_; clear F; intro φ F
          refine qt_skip F (wtn F rfl rfl rfl rfl rfl) rfl rfl ?_; clear F; intro φ F
          refine qt_skip F (wtn F rfl rfl rfl rfl rfl) rfl rfl ?_; clear F; intro φ F
          refine qt_skip F (wtn F rfl rfl rfl rfl rfl) rfl rfl ?_; clear F; intro φ F
          refine qt_skip F (wtn F rfl rfl rfl rfl rfl) rfl rfl ?_; clear F; intro φ F
          refine qt_skip F (wtn F rfl rfl rfl rfl rfl) rfl rfl ?_; clear F; intro φ F
          refine qt_skip F (wtn F rfl rfl rfl rfl rfl) rfl rfl ?_; clear F; intro φ F
          refine qt_skip F (wtn F rfl rfl rfl rfl rfl) rfl rfl ?_; clear F; intro φ F
          refine qt_skip F (wtn F rfl rfl rfl rfl rfl) rfl rfl ?_; clear F; intro φ F
          refine qt_skip F (wtn F rfl rfl rfl rfl rfl) rfl rfl ?_; clear F; intro φ F
          refine qt_skip F (wtn F rfl rfl rfl rfl rfl) rfl rfl ?_; clear F; intro φ F
          refine qt_skip F (wtn F rfl rfl rfl rfl rfl) rfl rfl ?_; clear F; intro φ F
          refine qt_skip F (wtn F rfl rfl rfl rfl rfl) rfl rfl ?_; clear F; intro φ F
          refine qt_skip F (wtn F rfl rfl rfl rfl rfl) rfl rfl ?_; clear F; intro φ F
          refine qt_pure F (wt0 rfl) (pu_pickf rfl (F.ev rfl) (evk)) rfl rfl ?_; clear F; intro φ F
          refine qt_pure F (wt0 rfl) (pu_assign rfl (F.ev rfl)) rfl rfl ?_; clear F; intro φ F
          refine wpQuiet_nil ?_
          clear M; intro ω M
          refine nxq ?_
          refine wp_ret ?_
          refine rt_tmp F rfl rfl ?_
          exfalso; clear F M; first | omega | contradiction | (simp_all; done)
        · rw [hs7] at F
          have hs7i := of_decide_eq_true hs7
          refine qt_pure F (wt1 F rfl rfl rfl rfl rfl) (pu_move rfl (F.ev rfl)) rfl rfl ?_; clear F; intro φ F
          refine qt_pure F (wt1 F rfl rfl rfl rfl rfl) (pu_ix rfl (F.ev rfl) (evk) sl22 (M.rv (i := 1) rfl) (by omega) (by omega)) rfl rfl ?_; clear F; intro φ F
          refine qt_rd F (wt1 F rfl rfl rfl rfl rfl) (ld_el rfl (F.ev rfl) agg28 (fun _ h => RdV.below (M.rv (i := 1) rfl) h) (by omega) (cS_at (by first | omega | (simp; done) | (simp; omega))) rfl) rfl rfl ?_; clear F; intro φ F
          refine qt_rd F (wt1 F rfl rfl rfl rfl rfl) (ld_agg rfl (F.ev rfl) agg28 (M.rdB (i := 3) rfl) rfl) rfl rfl ?_; clear F; intro φ F
          refine qt_pure F (wt1 F rfl rfl rfl rfl rfl) (pu_eqlA rfl (F.ev rfl) (F.ev rfl) eqg28 (fun w => eqS28 (atS (minL Q) 0) t w)) rfl rfl ?_; clear F; intro φ F
          refine qt_pure F (wt0 rfl) (pu_pickt rfl (F.ev rfl) (F.ev rfl)) rfl rfl ?_; clear F; intro φ F
          refine qt_pure F (wt0 rfl) (pu_move rfl (F.ev rfl)) rfl rfl ?_; clear F; intro φ F
          cases hs8 : (decide ((atS (minL Q) 0) = t))
          · rw [hs8] at F
            have hs8i := of_decide_eq_false hs8
            refine qt_skip F (wtn F rfl rfl rfl rfl rfl) rfl rfl ?_; clear F; intro φ F
            refine qt_skip F (wtn F rfl rfl rfl rfl rfl) rfl rfl ?_; clear F; intro φ F
            refine qt_skip F (wtn F rfl rfl rfl rfl rfl) rfl rfl ?_; clear F; intro φ F
            refine qt_pure F (wt0 rfl) (pu_pickf rfl (F.ev rfl) (evk)) rfl rfl ?_; clear F; intro φ F
            refine qt_pure F (wt0 rfl) (pu_move rfl (F.ev rfl)) rfl rfl ?_; clear F; intro φ F
            refine qt_skip F (wtn F rfl rfl rfl rfl rfl) rfl rfl ?_; clear F; intro φ F
            refine qt_skip F (wtn F rfl rfl rfl rfl rfl) rfl rfl ?_; clear F; intro φ F
            refine qt_skip F (wtn F rfl rfl rfl rfl rfl) rfl rfl ?_; clear F; intro φ F
            refine qt_skip F (wtn F rfl rfl rfl rfl rfl) rfl rfl ?_; clear F; intro φ F
            refine qt_skip F (wtn F rfl rfl rfl rfl rfl) rfl rfl ?_; clear F; intro φ F
            refine qt_pure F (wt0 rfl) (pu_pickf rfl (F.ev rfl) (evk)) rfl rfl ?_; clear F; intro φ F
            refine qt_pure F (wt0 rfl) (pu_move rfl (F.ev rfl)) rfl rfl ?_; clear F; intro φ F
            refine qt_skip F (wtn F rfl rfl rfl rfl rfl) rfl rfl ?_; clear F; intro φ F
            refine qt_skip F (wtn F rfl rfl rfl rfl rfl) rfl rfl ?_; clear F; intro φ F
            refine qt_skip F (wtn F rfl rfl rfl rfl rfl) rfl rfl ?_; clear F; intro φ F
            refine qt_skip F (wtn F rfl rfl rfl rfl rfl) rfl rfl ?_; clear F; intro φ F
            refine qt_skip F (wtn F rfl rfl rfl rfl rfl) rfl rfl ?_; clear F; intro φ F
            refine qt_pure F (wt0 rfl) (pu_pickf rfl (F.ev rfl) (evk)) rfl rfl ?_; clear F; intro φ F
            refine qt_pure F (wt0 rfl) (pu_move rfl (F.ev rfl)) rfl rfl ?_; clear F; intro φ F
            refine qt_skip F (wtn F rfl rfl rfl rfl rfl) rfl rfl ?_; clear F; intro φ F
            refine qt_skip F (wtn F rfl rfl rfl rfl rfl) rfl rfl ?_; clear F; intro φ F
            refine qt_skip F (wtn F rfl rfl rfl rfl rfl) rfl rfl ?_; clear F; intro φ F
            refine qt_skip F (wtn F rfl rfl rfl rfl rfl) rfl rfl ?_; clear F; intro φ F
            refine qt_skip F (wtn F rfl rfl rfl rfl rfl) rfl rfl ?_; clear F; intro φ F
            refine qt_skip F (wtn F rfl rfl rfl rfl rfl) rfl rfl ?_; clear F; intro φ F
            refine qt_skip F (wtn F rfl rfl rfl rfl rfl) rfl rfl ?_; clear F; intro φ F
            refine qt_skip F (wtn F rfl rfl rfl rfl rfl) rfl rfl ?_; clear F; intro φ F
            refine qt_skip F (wtn F rfl rfl rfl rfl rfl) rfl rfl ?_; clear F; intro φ F
            refine qt_skip F (wtn F rfl rfl rfl rfl rfl) rfl rfl ?_; clear F; intro φ F
            refine qt_skip F (wtn F rfl rfl rfl rfl rfl) rfl rfl ?_; clear F; intro φ F
            refine qt_skip F (wtn F rfl rfl rfl rfl rfl) rfl rfl ?_; clear F; intro φ F
            refine qt_skip F (wtn F rfl rfl rfl rfl rfl) rfl rfl ?_; clear F; intro φ F
            refine qt_pure F (wt0 rfl) (pu_pickf rfl (F.ev rfl) (evk)) rfl rfl ?_; clear F; intro φ F
            refine qt_pure F (wt0 rfl) (pu_assign rfl (F.ev rfl)) rfl rfl ?_; clear F; intro φ F
            refine wpQuiet_nil ?_
            clear M; intro ω M
            refine nxq ?_
            refine wp_ret ?_
            refine rt_tmp F rfl rfl ?_
            exfalso; clear F M; first | omega | contradiction | (simp_all; done)
          · rw [hs8] at F
            have hs8i := of_decide_eq_true hs8
            refine qt_pure F (wt1 F rfl rfl rfl rfl rfl) (pu_move rfl (F.ev rfl)) rfl rfl ?_; clear F; intro φ F
            refine qt_pure F (wt1 F rfl rfl rfl rfl rfl) (pu_len rfl (F.ev rfl) sl22 (M.rv (i := 0) rfl)) rfl rfl ?_; clear F; intro φ F
            refine qt_pure F (wt1 F rfl rfl rfl rfl rfl) (pu_gtr rfl (F.ev rfl) (evk)) rfl rfl ?_; clear F; intro φ F
            refine qt_pure F (wt0 rfl) (pu_pickt rfl (F.ev rfl) (F.ev rfl)) rfl rfl ?_; clear F; intro φ F
            refine qt_pure F (wt0 rfl) (pu_move rfl (F.ev rfl)) rfl rfl ?_; clear F; intro φ F
            cases hs9 : (decide (0 < (((rowL Q).length : Nat) : Int)))
            · rw [hs9] at F
              have hs9i := of_decide_eq_false hs9
              refine qt_skip F (wtn F rfl rfl rfl rfl rfl) rfl rfl ?_; clear F; intro φ F
              refine qt_skip F (wtn F rfl rfl rfl rfl rfl) rfl rfl ?_; clear F; intro φ F
              refine qt_skip F (wtn F rfl rfl rfl rfl rfl) rfl rfl ?_; clear F; intro φ F
              refine qt_skip F (wtn F rfl rfl rfl rfl rfl) rfl rfl ?_; clear F; intro φ F
              refine qt_skip F (wtn F rfl rfl rfl rfl rfl) rfl rfl ?_; clear F; intro φ F
              refine qt_pure F (wt0 rfl) (pu_pickf rfl (F.ev rfl) (evk)) rfl rfl ?_; clear F; intro φ F
              refine qt_pure F (wt0 rfl) (pu_move rfl (F.ev rfl)) rfl rfl ?_; clear F; intro φ F
              refine qt_skip F (wtn F rfl rfl rfl rfl rfl) rfl rfl ?_; clear F; intro φ F
              refine qt_skip F (wtn F rfl rfl rfl rfl rfl) rfl rfl ?_; clear F; intro φ F
              refine qt_skip F (wtn F rfl rfl rfl rfl rfl) rfl rfl ?_; clear F; intro φ F
              refine qt_skip F (wtn F rfl rfl rfl rfl rfl) rfl rfl ?_; clear F; intro φ F
              refine qt_skip F (wtn F rfl rfl rfl rfl rfl) rfl rfl ?_; clear F; intro φ F
              refine qt_pure F (wt0 rfl) (pu_pickf rfl (F.ev rfl) (evk)) rfl rfl ?_; clear F; intro φ F
              refine qt_pure F (wt0 rfl) (pu_move rfl (F.ev rfl)) rfl rfl ?_; clear F; intro φ F
              refine qt_skip F (wtn F rfl rfl rfl rfl rfl) rfl rfl ?_; clear F; intro φ F
              refine qt_skip F (wtn F rfl rfl rfl rfl rfl) rfl rfl ?_; clear F; intro φ F
              refine qt_skip F (wtn F rfl rfl rfl rfl rfl) rfl rfl ?_; clear F; intro φ F
              refine qt_skip F (wtn F rfl rfl rfl rfl rfl) rfl rfl ?_; clear F; intro φ F
              refine qt_skip F (wtn F rfl rfl rfl rfl rfl) rfl rfl ?_; clear F; intro φ F
              refine qt_skip F (wtn F rfl rfl rfl rfl rfl) rfl rfl ?_; clear F; intro φ F
              refine qt_skip F (wtn F rfl rfl rfl rfl rfl) rfl rfl ?_; clear F; intro φ F
              refine qt_skip F (wtn F rfl rfl rfl rfl rfl) rfl rfl ?_; clear F; intro φ F
              refine qt_skip F (wtn F rfl rfl rfl rfl rfl) rfl rfl ?_; clear F; intro φ F
              refine qt_skip F (wtn F rfl rfl rfl rfl rfl) rfl rfl ?_; clear F; intro φ F
              refine qt_skip F (wtn F rfl rfl rfl rfl rfl) rfl rfl ?_; clear F; intro φ F
              refine qt_skip F (wtn F rfl rfl rfl rfl rfl) rfl rfl ?_; clear F; intro φ F
              refine qt_skip F (wtn F rfl rfl rfl rfl rfl) rfl rfl ?_; clear F; intro φ F
              refine qt_pure F (wt0 rfl) (pu_pickf rfl (F.ev rfl) (evk)) rfl rfl ?_; clear F; intro φ F
              refine qt_pure F (wt0 rfl) (pu_assign rfl (F.ev rfl)) rfl rfl ?_; clear F; intro φ F
              refine wpQuiet_nil ?_
              clear M; intro ω M
              refine nxq ?_
              refine wp_ret ?_
              refine rt_tmp F rfl rfl ?_
              exfalso; clear F M; first | omega | contradiction | (simp_all; done)
            · rw [hs9] at F
              have hs9i := of_decide_eq_true hs9
              refine qt_pure F (wt1 F rfl rfl rfl rfl rfl) (pu_move rfl (F.ev rfl)) rfl rfl ?_; clear F; intro φ F
              refine qt_pure F (wt1 F rfl rfl rfl rfl rfl) (pu_len rfl (F.ev rfl) sl22 (M.rv (i := 0) rfl)) rfl rfl ?_; clear F; intro φ F
              refine qt_pure F (wt1 F rfl rfl rfl rfl rfl) (pu_move rfl (F.ev rfl)) rfl rfl ?_; clear F; intro φ F
              refine qt_pure F (wt1 F rfl rfl rfl rfl rfl) (pu_len rfl (F.ev rfl) sl22 (M.rv (i := 2) rfl)) rfl rfl ?_; clear F; intro φ F
              refine qt_pure F (wt1 F rfl rfl rfl rfl rfl) (pu_leq rfl (F.ev rfl) (F.ev rfl)) rfl rfl ?_; clear F; intro φ F
              refine qt_pure F (wt0 rfl) (pu_pickt rfl (F.ev rfl) (F.ev rfl)) rfl rfl ?_; clear F; intro φ F
              refine qt_pure F (wt0 rfl) (pu_move rfl (F.ev rfl)) rfl rfl ?_; clear F; intro φ F
              cases hs10 : (decide ((((rowL Q).length : Nat) : Int) ≤ ((Q.length : Nat) : Int)))
              · rw [hs10] at F
                have hs10i := of_decide_eq_false hs10
                refine qt_skip F (wtn F rfl rfl rfl rfl rfl) rfl rfl ?_; clear F; intro φ F
                refine qt_skip F (wtn F rfl rfl rfl rfl rfl) rfl rfl ?_; clear F; intro φ F
                refine qt_skip F (wtn F rfl rfl rfl rfl rfl) rfl rfl ?_; clear F; intro φ F
                refine qt_skip F (wtn F rfl rfl rfl rfl rfl) rfl rfl ?_; clear F; intro φ F
                refine qt_skip F (wtn F rfl rfl rfl rfl rfl) rfl rfl ?_; clear F; intro φ F
                refine qt_pure F (wt0 rfl) (pu_pickf rfl (F.ev rfl) (evk)) rfl rfl ?_; clear F; intro φ F
                refine qt_pure F (wt0 rfl) (pu_move rfl (F.ev rfl)) rfl rfl ?_; clear F; intro φ F
                refine qt_skip F (wtn F rfl rfl rfl rfl rfl) rfl rfl ?_; clear F; intro φ F
                refine qt_skip F (wtn F rfl rfl rfl rfl rfl) rfl rfl ?_; clear F; intro φ F
                refine qt_skip F (wtn F rfl rfl rfl rfl rfl) rfl rfl ?_; clear F; intro φ F
                refine qt_skip F (wtn F rfl rfl rfl rfl rfl) rfl rfl ?_; clear F; intro φ F
                refine qt_skip F (wtn F rfl rfl rfl rfl rfl) rfl rfl ?_; clear F; intro φ F
                refine qt_skip F (wtn F rfl rfl rfl rfl rfl) rfl rfl ?_; clear F; intro φ F
                refine qt_skip F (wtn F rfl rfl rfl rfl rfl) rfl rfl ?_; clear F; intro φ F
                refine qt_skip F (wtn F rfl rfl rfl rfl rfl) rfl rfl ?_; clear F; intro φ F
                refine qt_skip F (wtn F rfl rfl rfl rfl rfl) rfl rfl ?_; clear F; intro φ F
                refine qt_skip F (wtn F rfl rfl rfl rfl rfl) rfl rfl ?_; clear F; intro φ F
                refine qt_skip F (wtn F rfl rfl rfl rfl rfl) rfl rfl ?_; clear F; intro φ F
                refine qt_skip F (wtn F rfl rfl rfl rfl rfl) rfl rfl ?_; clear F; intro φ F
                refine qt_skip F (wtn F rfl rfl rfl rfl rfl) rfl rfl ?_; clear F; intro φ F
                refine qt_pure F (wt0 rfl) (pu_pickf rfl (F.ev rfl) (evk)) rfl rfl ?_; clear F; intro φ F
                refine qt_pure F (wt0 rfl) (pu_assign rfl (F.ev rfl)) rfl rfl ?_; clear F; intro φ F
                refine wpQuiet_nil ?_
                clear M; intro ω M
                refine nxq ?_
                refine wp_ret ?_
                refine rt_tmp F rfl rfl ?_
                exfalso; clear F M; first | omega | contradiction | (simp_all; done)
              · rw [hs10] at F
                have hs10i := of_decide_eq_true hs10
                refine qt_pure F (wt1 F rfl rfl rfl rfl rfl) (pu_move rfl (F.ev rfl)) rfl rfl ?_; clear F; intro φ F
                refine qt_pure F (wt1 F rfl rfl rfl rfl rfl) (pu_ix rfl (F.ev rfl) (evk) sl22 (M.rv (i := 0) rfl) (by omega) (by omega)) rfl rfl ?_; clear F; intro φ F
                refine qt_rd F (wt1 F rfl rfl rfl rfl rfl) (ld_el rfl (F.ev rfl) agg28 (fun _ h => RdV.below (M.rv (i := 0) rfl) h) (by omega) (cS_at (by first | omega | (simp; done) | (simp; omega))) rfl) rfl rfl ?_; clear F; intro φ F
                refine qt_rd F (wt1 F rfl rfl rfl rfl rfl) (ld_agg rfl (F.ev rfl) agg28 (M.rdB (i := 3) rfl) rfl) rfl rfl ?_; clear F; intro φ F
                refine qt_pure F (wt1 F rfl rfl rfl rfl rfl) (pu_eqlA rfl (F.ev rfl) (F.ev rfl) eqg28 (fun w => eqS28 (atS (rowL Q) 0) t w)) rfl rfl ?_; clear F; intro φ F
                refine qt_pure F (wt0 rfl) (pu_pickt rfl (F.ev rfl) (F.ev rfl)) rfl rfl ?_; clear F; intro φ F
                refine qt_pure F (wt0 rfl) (pu_move rfl (F.ev rfl)) rfl rfl ?_; clear F; intro φ F
                cases hs11 : (decide ((atS (rowL Q) 0) = t))
                · rw [hs11] at F
                  have hs11i := of_decide_eq_false hs11
                  refine qt_skip F (wtn F rfl rfl rfl rfl rfl) rfl rfl ?_; clear F; intro φ F
                  refine qt_skip F (wtn F rfl rfl rfl rfl rfl) rfl rfl ?_; clear F; intro φ F
                  refine qt_skip F (wtn F rfl rfl rfl rfl rfl) rfl rfl ?_; clear F; intro φ F
                  refine qt_skip F (wtn F rfl rfl rfl rfl rfl) rfl rfl ?_; clear F; intro φ F
                  refine qt_skip F (wtn F rfl rfl rfl rfl rfl) rfl rfl ?_; clear F; intro φ F
                  refine qt_skip F (wtn F rfl rfl rfl rfl rfl) rfl rfl ?_; clear F; intro φ F
                  refine qt_skip F (wtn F rfl rfl rfl rfl rfl) rfl rfl ?_; clear F; intro φ F
                  refine qt_skip F (wtn F rfl rfl rfl rfl rfl) rfl rfl ?_; clear F; intro φ F
                  refine qt_skip F (wtn F rfl rfl rfl rfl rfl) rfl rfl ?_; clear F; intro φ F
                  refine qt_skip F (wtn F rfl rfl rfl rfl rfl) rfl rfl ?_; clear F; intro φ F
                  refine qt_skip F (wtn F rfl rfl rfl rfl rfl) rfl rfl ?_; clear F; intro φ F
                  refine qt_skip F (wtn F rfl rfl rfl rfl rfl) rfl rfl ?_; clear F; intro φ F
                  refine qt_skip F (wtn F rfl rfl rfl rfl rfl) rfl rfl ?_; clear F; intro φ F
                  refine qt_pure F (wt0 rfl) (pu_pickf rfl (F.ev rfl) (evk)) rfl rfl ?_; clear F; intro φ F
                  refine qt_pure F (wt0 rfl) (pu_assign rfl (F.ev rfl)) rfl rfl ?_; clear F; intro φ F
                  refine wpQuiet_nil ?_
                  clear M; intro ω M
                  refine nxq ?_
                  refine wp_ret ?_
                  refine rt_tmp F rfl rfl ?_
                  exfalso; clear F M; first | omega | contradiction | (simp_all; done)
                · rw [hs11] at F
                  have hs11i := of_decide_eq_true hs11
                  refine qt_pure F (wt1 F rfl rfl rfl rfl rfl) (pu_move rfl (F.ev rfl)) rfl rfl ?_; clear F; intro φ F
                  refine qt_pure F (wt1 F rfl rfl rfl rfl rfl) (pu_move rfl (F.ev rfl)) rfl rfl ?_; clear F; intro φ F
                  refine qt_pure F (wt1 F rfl rfl rfl rfl rfl) (pu_len rfl (F.ev rfl) sl22 (M.rv (i := 0) rfl)) rfl rfl ?_; clear F; intro φ F
                  refine qt_pure F (wt1 F rfl rfl rfl rfl rfl) (pu_sub rfl (F.ev rfl) (evk) (by omega) (by omega)) rfl rfl ?_; clear F; intro φ F
                  refine qt_pure F (wt1 F rfl rfl rfl rfl rfl) (pu_ix rfl (F.ev rfl) (F.ev rfl) sl22 (M.rv (i := 0) rfl) (by omega) (by omega)) rfl rfl ?_; clear F; intro φ F
                  refine qt_rd F (wt1 F rfl rfl rfl rfl rfl) (ld_el rfl (F.ev rfl) agg28 (fun _ h => RdV.below (M.rv (i := 0) rfl) h) (by omega) (cS_at (by first | omega | (simp; done) | (simp; omega))) rfl) rfl rfl ?_; clear F; intro φ F
                  refine qt_pure F (wt1 F rfl rfl rfl rfl rfl) (pu_move rfl (F.ev rfl)) rfl rfl ?_; clear F; intro φ F
                  refine qt_pure F (wt1 F rfl rfl rfl rfl rfl) (pu_move rfl (F.ev rfl)) rfl rfl ?_; clear F; intro φ F
                  refine qt_pure F (wt1 F rfl rfl rfl rfl rfl) (pu_len rfl (F.ev rfl) sl22 (M.rv (i := 2) rfl)) rfl rfl ?_; clear F; intro φ F
                  refine qt_pure F (wt1 F rfl rfl rfl rfl rfl) (pu_sub rfl (F.ev rfl) (evk) (by omega) (by omega)) rfl rfl ?_; clear F; intro φ F
                  refine qt_pure F (wt1 F rfl rfl rfl rfl rfl) (pu_ix rfl (F.ev rfl) (F.ev rfl) sl22 (M.rv (i := 2) rfl) (by omega) (by omega)) rfl rfl ?_; clear F; intro φ F
                  refine qt_rd F (wt1 F rfl rfl rfl rfl rfl) (ld_el rfl (F.ev rfl) agg28 (fun _ h => RdV.below (M.rv (i := 2) rfl) h) (by omega) (cS_at (by first | omega | (simp; done) | (simp; omega))) rfl) rfl rfl ?_; clear F; intro φ F
                  refine qt_pure F (wt1 F rfl rfl rfl rfl rfl) (pu_eqlA rfl (F.ev rfl) (F.ev rfl) eqg28 (fun w => eqS28 (atS (rowL Q) (((((rowL Q).length : Nat) : Int) - 1).toNat)) (atS Q ((((Q.length : Nat) : Int) - 1).toNat)) w)) rfl rfl ?_; clear F; intro φ F
                  refine qt_pure F (wt0 rfl) (pu_pickt rfl (F.ev rfl) (F.ev rfl)) rfl rfl ?_; clear F; intro φ F
                  refine qt_pure F (wt0 rfl) (pu_assign rfl (F.ev rfl)) rfl rfl ?_; clear F; intro φ F
                  refine wpQuiet_nil ?_
                  clear M; intro ω M
                  refine nxq ?_
                  cases hs12 : (decide ((atS (rowL Q) (((((rowL Q).length : Nat) : Int) - 1).toNat)) = (atS Q ((((Q.length : Nat) : Int) - 1).toNat))))
                  · rw [hs12] at F
                    have hs12i := of_decide_eq_false hs12
                    refine wp_ret ?_
                    refine rt_tmp F rfl rfl ?_
                    exfalso; clear F M; first | omega | contradiction | (simp_all; done)
                  · rw [hs12] at F
                    have hs12i := of_decide_eq_true hs12
                    refine wp_ret ?_
                    refine rt_tmp F rfl rfl ?_
                    exact ⟨rfl, M.bel⟩
  · rw [hs1] at F
    have hs1i := of_decide_eq_true hs1
    refine sq_skip F (wtn F rfl rfl rfl rfl rfl) rfl rfl ?_; clear F; intro φ F
    refine sq_skip F (wtn F rfl rfl rfl rfl rfl) rfl rfl ?_; clear F; intro φ F
    refine sq_pure F (wt0 rfl) (pu_pickt rfl (F.ev rfl) (evk)) rfl rfl ?_; clear F; intro φ F
    refine nx ?_
    refine wp_cond_true (F.ev rfl) ?_
    refine wp_seq ?_
    -- region 4
    refine wp_region_lit ?_
    refine sq_pure F (wt0 rfl) (pu_move rfl (F.ev rfl)) rfl rfl ?_; clear F; intro φ F
    refine sq_pure F (wt0 rfl) (pu_assign rfl (F.ev rfl)) rfl rfl ?_; clear F; intro φ F
    refine nx ?_
    refine wp_ret ?_
    refine nxr ?_
    refine rt_tmp F rfl rfl ?_
    exact ⟨rfl, M.bel⟩

end Go.Proofs.Ytabpnebiannglaa
