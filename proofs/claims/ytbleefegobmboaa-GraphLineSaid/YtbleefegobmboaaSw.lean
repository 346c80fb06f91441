/- The library's sort, over any comparison that leaves what was there. Made by walks/sort.py. -/
import Derived.Test.YtbleefegobmboaaSo
import Derived.Test.YtbleefegobmboaaFc
namespace Go.Proofs.Ytbleefegobmboaa
open Go.RowKit Go.Sort
set_option maxRecDepth 100000
set_option linter.unusedSimpArgs false
set_option linter.unusedVariables false

set_option maxHeartbeats 2000000 in
theorem ins_any {α : Type} [Inhabited α] {lt : α → α → Bool} {g : Nat} {lb : Array Value} {sf : Nat} {sb : Array Value} {blk t n : Nat} {W0 : World} {cA : Array α → Array Value} (eg : enters Try.prog g = true) (hL : LessOK Try.prog g lb lt blk t n W0 cA) (hS : SwapOK Try.prog sf sb blk t n cA) (hn : n ≤ 1000000000) (a b : Nat) (d : Array α) (hs : d.size = n) (hab : a ≤ b) (hb : b ≤ n) (aI bI : Int) (eaI : aI = ((a : Nat) : Int)) (ebI : bI = ((b : Nat) : Int)) (w : World) (hW : Out [blk] W0 w) (hB : Blk w blk t (cA d)) :
    Calls Try.prog 79 #[.agg #[.func (.func g) #[] lb, .func (.func sf) #[] sb], .int .i64 aI, .int .i64 bI] w (Turns blk t cA w fun v d' => v = .tuple #[] ∧ d'.size = n ∧ d' = insertionSort lt d a b) := by
  subst eaI
  subst ebI
  have _ := eg
  have _ := hL
  have _ := hS
  have _ := hn
  have _ := hs
  have _ := hab
  have _ := hb
  have _ := hW
  have _ := hB
  refine enterF Try.func79 rfl 35 Try.ntmps79 [.agg #[.func (.func g) #[] lb, .func (.func sf) #[] sb], .int .i64 ((a : Nat) : Int), .int .i64 ((b : Nat) : Int)] rfl [(0, .agg #[.func (.func g) #[] lb, .func (.func sf) #[] sb]), (1, .int .i64 ((a : Nat) : Int)), (2, .int .i64 ((b : Nat) : Int))] rfl ?_
  intro φ F
  have M := Mm.start [blk] w
  replace M := M.addX (hB) (by simp) (by simp [Ent.fp] <;> omega)
  refine wp_seq ?_
  -- region 0
  refine wp_region_lit ?_
  refine sq_box F M (wt0 rfl) rfl (F.ev rfl) (cs := #[.func (.func g) #[] lb, .func (.func sf) #[] sb]) rfl rfl rfl ?_; clear F M; intro φ ω g1 F M
  refine nx ?_
  refine wp_seq ?_
  -- region 1
  refine wp_region_lit ?_
  refine sq_pure F (wt0 rfl) (pu_move rfl (F.ev rfl)) rfl rfl ?_; clear F; intro φ F
  refine sq_pure F (wt0 rfl) (pu_add rfl (F.ev rfl) (evk) (by omega) (by omega)) rfl rfl ?_; clear F; intro φ F
  refine sq_pure F (wt0 rfl) (pu_assign rfl (F.ev rfl)) rfl rfl ?_; clear F; intro φ F
  refine nx ?_
  refine wp_block ?_
  refine lp (σ := Int) (fun i φ' w' => ∃ d1 : Array α, Fr φ' 35 [(0, .agg #[.func (.func g) #[] lb, .func (.func sf) #[] sb]), (1, .int .i64 ((a : Nat) : Int)), (2, .int .i64 ((b : Nat) : Int)), (3, .pointer (some ⟨g1, 0, none⟩)), (6, .int .i64 i)] ∧ Mm [blk] w w' [.blk g1 97 #[.func (.func g) #[] lb, .func (.func sf) #[] sb], .blk blk t (cA d1)] ∧ ((a : Int) < i) ∧ (i ≤ (b : Int) + 1) ∧ (d1.size = n) ∧ (insOuter lt a b i.toNat d1 = insOuter lt a b (a + 1) d)) (fun i => ((b : Int) + 1 - i).toNat) ((a : Int) + 1) ⟨d, (((((F.nil.cons (F.get (k := 6) rfl)).cons (F.get (k := 3) rfl)).cons (F.get (k := 2) rfl)).cons (F.get (k := 1) rfl)).cons (F.get (k := 0) rfl)), M, by omega, by omega, hs, rfl⟩ ?_
  clear F M
  rintro i φ ω ⟨d1, F, M, hp1_0, hp1_1, hp1_2, hp1_3⟩
  refine wp_seq ?_
  refine wp_seq ?_
  -- region 2
  refine wp_region_lit ?_
  refine sq_pure F (wt0 rfl) (pu_move rfl (F.ev rfl)) rfl rfl ?_; clear F; intro φ F
  refine sq_pure F (wt0 rfl) (pu_move rfl (F.ev rfl)) rfl rfl ?_; clear F; intro φ F
  refine sq_pure F (wt0 rfl) (pu_lss rfl (F.ev rfl) (F.ev rfl)) rfl rfl ?_; clear F; intro φ F
  refine nx ?_
  cases hs2 : (decide (i < ((b : Nat) : Int)))
  · rw [hs2] at F
    have hs2i := of_decide_eq_false hs2
    refine wp_cond_false (F.ev rfl) ?_
    refine wp_exit ?_
    refine nxe ?_
    refine nxe ?_
    refine nxm ?_
    refine rt_end F rfl ?_
    exact ⟨_, _, rfl, M.out, M.at (i := 1) rfl, rfl, hp1_2, by unfold insertionSort; rw [← hp1_3, insOuter_stop (by omega)]⟩
  · rw [hs2] at F
    have hs2i := of_decide_eq_true hs2
    refine wp_cond_true (F.ev rfl) ?_
    refine wp_skip ?_
    refine nxq ?_
    refine wp_seq ?_
    refine wp_block ?_
    refine wp_seq ?_
    -- region 4
    refine wp_region_lit ?_
    refine sq_pure F (wt0 rfl) (pu_move rfl (F.ev rfl)) rfl rfl ?_; clear F; intro φ F
    refine sq_pure F (wt0 rfl) (pu_assign rfl (F.ev rfl)) rfl rfl ?_; clear F; intro φ F
    refine nx ?_
    refine wp_block ?_
    refine lp (σ := Int) (fun j φ' w' => ∃ d2 : Array α, Fr φ' 35 [(0, .agg #[.func (.func g) #[] lb, .func (.func sf) #[] sb]), (1, .int .i64 ((a : Nat) : Int)), (2, .int .i64 ((b : Nat) : Int)), (3, .pointer (some ⟨g1, 0, none⟩)), (6, .int .i64 i), (7, .int .i64 j)] ∧ Mm [blk] w w' [.blk g1 97 #[.func (.func g) #[] lb, .func (.func sf) #[] sb], .blk blk t (cA d2)] ∧ ((a : Int) ≤ j) ∧ (j ≤ i) ∧ (d2.size = n) ∧ (insInner lt a j.toNat d2 = insInner lt a i.toNat d1)) (fun j => j.toNat) (i) ⟨d1, ((((((F.nil.cons (F.get (k := 7) rfl)).cons (F.get (k := 6) rfl)).cons (F.get (k := 3) rfl)).cons (F.get (k := 2) rfl)).cons (F.get (k := 1) rfl)).cons (F.get (k := 0) rfl)), M, by omega, by omega, hp1_2, rfl⟩ ?_
    clear F M
    rintro j φ ω ⟨d2, F, M, hp3_0, hp3_1, hp3_2, hp3_3⟩
    refine wp_seq ?_
    refine wp_seq ?_
    -- region 5
    refine wp_region_lit ?_
    refine sq_pure F (wt0 rfl) (pu_move rfl (F.ev rfl)) rfl rfl ?_; clear F; intro φ F
    refine sq_pure F (wt0 rfl) (pu_move rfl (F.ev rfl)) rfl rfl ?_; clear F; intro φ F
    refine sq_pure F (wt0 rfl) (pu_gtr rfl (F.ev rfl) (F.ev rfl)) rfl rfl ?_; clear F; intro φ F
    refine sq_pure F (wt0 rfl) (pu_move rfl (F.ev rfl)) rfl rfl ?_; clear F; intro φ F
    cases hs4 : (decide (((a : Nat) : Int) < j))
    · rw [hs4] at F
      have hs4i := of_decide_eq_false hs4
      refine sq_skip F (wtn F rfl rfl rfl rfl rfl) rfl rfl ?_; clear F; intro φ F
      refine sq_skip F (wtn F rfl rfl rfl rfl rfl) rfl rfl ?_; clear F; intro φ F
      refine sq_skip F (wtn F rfl rfl rfl rfl rfl) rfl rfl ?_; clear F; intro φ F
      refine sq_skip F (wtn F rfl rfl rfl rfl rfl) rfl rfl ?_; clear F; intro φ F
      refine sq_skip F (wtn F rfl rfl rfl rfl rfl) rfl rfl ?_; clear F; intro φ F
      refine sq_skip F (wtn F rfl rfl rfl rfl rfl) rfl rfl ?_; clear F; intro φ F
      refine sq_pure F (wt0 rfl) (pu_pickf rfl (F.ev rfl) (evk)) rfl rfl ?_; clear F; intro φ F
      refine nx ?_
      refine wp_cond_false (F.ev rfl) ?_
      refine wp_exit ?_
      refine nxe ?_
      refine nxe ?_
      refine nxm ?_
      refine nxb ?_
      refine nxq ?_
      -- region 3
      refine wp_region_lit ?_
      refine sq_pure F (wt0 rfl) (pu_move rfl (F.ev rfl)) rfl rfl ?_; clear F; intro φ F
      refine sq_pure F (wt0 rfl) (pu_add rfl (F.ev rfl) (evk) (by omega) (by omega)) rfl rfl ?_; clear F; intro φ F
      refine sq_pure F (wt0 rfl) (pu_assign rfl (F.ev rfl)) rfl rfl ?_; clear F; intro φ F
      refine wpList_nil ?_
      exact ⟨i + 1, by omega, d2, (((((F.nil.cons (F.get (k := 6) rfl)).cons (F.get (k := 3) rfl)).cons (F.get (k := 2) rfl)).cons (F.get (k := 1) rfl)).cons (F.get (k := 0) rfl)), M, by omega, by omega, hp3_2, by rw [← hp1_3, insOuter_go (i := i.toNat) (i' := (i + 1).toNat) (by omega) (by omega), ← hp3_3, insInner_stop1 (by omega)]⟩
    · rw [hs4] at F
      have hs4i := of_decide_eq_true hs4
      refine sq_pure F (wt1 F rfl rfl rfl rfl rfl) (pu_field rfl (F.ev rfl) fo97_0) rfl rfl ?_; clear F; intro φ F
      refine sq_rd F (wt1 F rfl rfl rfl rfl rfl) (ld_cell rfl (F.ev rfl) one83 (M.rd (i := 0) rfl) rfl) rfl rfl ?_; clear F; intro φ F
      refine sq_pure F (wt1 F rfl rfl rfl rfl rfl) (pu_move rfl (F.ev rfl)) rfl rfl ?_; clear F; intro φ F
      refine sq_pure F (wt1 F rfl rfl rfl rfl rfl) (pu_move rfl (F.ev rfl)) rfl rfl ?_; clear F; intro φ F
      refine sq_pure F (wt1 F rfl rfl rfl rfl rfl) (pu_sub rfl (F.ev rfl) (evk) (by omega) (by omega)) rfl rfl ?_; clear F; intro φ F
      refine sq_callV F M (wt1 F rfl rfl rfl rfl rfl) rfl (F.ev rfl) eg (evc (F.ev rfl) (evc (F.ev rfl) evn)) (hL.at (d := d2) (i := (j).toNat) (j := (j - 1).toNat) (by first | assumption | (simp only [swp_size]; assumption)) (by omega) (by omega) (by omega) (by omega) (hW.trans M.out (fun _ hg => .inr hg)) (M.at (i := 1) rfl)) rfl rfl ?_; clear F M; intro φ ω F M
      refine sq_pure F (wt0 rfl) (pu_pickt rfl (F.ev rfl) (F.ev rfl)) rfl rfl ?_; clear F; intro φ F
      refine nx ?_
      cases hs5 : (lt d2[(j).toNat]! d2[(j - 1).toNat]!)
      · rw [hs5] at F
        refine wp_cond_false (F.ev rfl) ?_
        refine wp_exit ?_
        refine nxe ?_
        refine nxe ?_
        refine nxm ?_
        refine nxb ?_
        refine nxq ?_
        -- region 3
        refine wp_region_lit ?_
        refine sq_pure F (wt0 rfl) (pu_move rfl (F.ev rfl)) rfl rfl ?_; clear F; intro φ F
        refine sq_pure F (wt0 rfl) (pu_add rfl (F.ev rfl) (evk) (by omega) (by omega)) rfl rfl ?_; clear F; intro φ F
        refine sq_pure F (wt0 rfl) (pu_assign rfl (F.ev rfl)) rfl rfl ?_; clear F; intro φ F
        refine wpList_nil ?_
        exact ⟨i + 1, by omega, d2, (((((F.nil.cons (F.get (k := 6) rfl)).cons (F.get (k := 3) rfl)).cons (F.get (k := 2) rfl)).cons (F.get (k := 1) rfl)).cons (F.get (k := 0) rfl)), M, by omega, by omega, hp3_2, by rw [← hp1_3, insOuter_go (i := i.toNat) (i' := (i + 1).toNat) (by omega) (by omega), ← hp3_3, insInner_stop2 (by omega) hs5]⟩
      · rw [hs5] at F
        refine wp_cond_true (F.ev rfl) ?_
        refine wp_skip ?_
        refine nxq ?_
        refine wp_seq ?_
        refine wp_block ?_
        -- region 7
        refine wp_region_lit ?_
        refine sq_pure F (wt0 rfl) (pu_field rfl (F.ev rfl) fo97_1) rfl rfl ?_; clear F; intro φ F
        refine sq_rd F (wt0 rfl) (ld_cell rfl (F.ev rfl) one90 (M.rd (i := 0) rfl) rfl) rfl rfl ?_; clear F; intro φ F
        refine sq_pure F (wt0 rfl) (pu_move rfl (F.ev rfl)) rfl rfl ?_; clear F; intro φ F
        refine sq_pure F (wt0 rfl) (pu_move rfl (F.ev rfl)) rfl rfl ?_; clear F; intro φ F
        refine sq_pure F (wt0 rfl) (pu_sub rfl (F.ev rfl) (evk) (by omega) (by omega)) rfl rfl ?_; clear F; intro φ F
        refine sq_swap F M (wt0 rfl) rfl (F.ev rfl) (evc (F.ev rfl) (evc (F.ev rfl) evn)) (i := 1) rfl (hS.at (d := d2) (i := (j).toNat) (j := (j - 1).toNat) (by first | assumption | (simp only [swp_size]; assumption)) (by omega) (by omega) (by omega) (by omega) (M.at (i := 1) rfl)) rfl rfl ?_; clear F M; intro φ ω F M
        refine wpList_nil ?_
        refine nxb ?_
        refine nxq ?_
        -- region 6
        refine wp_region_lit ?_
        refine sq_pure F (wt0 rfl) (pu_move rfl (F.ev rfl)) rfl rfl ?_; clear F; intro φ F
        refine sq_pure F (wt0 rfl) (pu_sub rfl (F.ev rfl) (evk) (by omega) (by omega)) rfl rfl ?_; clear F; intro φ F
        refine sq_pure F (wt0 rfl) (pu_assign rfl (F.ev rfl)) rfl rfl ?_; clear F; intro φ F
        refine wpList_nil ?_
        exact ⟨j - 1, by omega, _, ((((((F.nil.cons (F.get (k := 7) rfl)).cons (F.get (k := 6) rfl)).cons (F.get (k := 3) rfl)).cons (F.get (k := 2) rfl)).cons (F.get (k := 1) rfl)).cons (F.get (k := 0) rfl)), M, by omega, by omega, by first | assumption | (simp only [swp_size]; assumption), by rw [← hp3_3]; exact (insInner_go (by omega) (by omega) hs5).symm⟩

set_option maxHeartbeats 2000000 in
theorem sift_any {α : Type} [Inhabited α] {lt : α → α → Bool} {g : Nat} {lb : Array Value} {sf : Nat} {sb : Array Value} {blk t n : Nat} {W0 : World} {cA : Array α → Array Value} (eg : enters Try.prog g = true) (hL : LessOK Try.prog g lb lt blk t n W0 cA) (hS : SwapOK Try.prog sf sb blk t n cA) (hn : n ≤ 1000000000) (lo hi fi : Nat) (d : Array α) (hs : d.size = n) (h1 : lo ≤ n) (h2 : fi + hi ≤ n) (loI hiI fiI : Int) (eloI : loI = ((lo : Nat) : Int)) (ehiI : hiI = ((hi : Nat) : Int)) (efiI : fiI = ((fi : Nat) : Int)) (w : World) (hW : Out [blk] W0 w) (hB : Blk w blk t (cA d)) :
    Calls Try.prog 87 #[.agg #[.func (.func g) #[] lb, .func (.func sf) #[] sb], .int .i64 loI, .int .i64 hiI, .int .i64 fiI] w (Turns blk t cA w fun v d' => v = .tuple #[] ∧ d'.size = n ∧ d' = siftDown lt hi fi lo d) := by
  subst eloI
  subst ehiI
  subst efiI
  have _ := eg
  have _ := hL
  have _ := hS
  have _ := hn
  have _ := hs
  have _ := h1
  have _ := h2
  have _ := hW
  have _ := hB
  refine enterF Try.func87 rfl 55 Try.ntmps87 [.agg #[.func (.func g) #[] lb, .func (.func sf) #[] sb], .int .i64 ((lo : Nat) : Int), .int .i64 ((hi : Nat) : Int), .int .i64 ((fi : Nat) : Int)] rfl [(0, .agg #[.func (.func g) #[] lb, .func (.func sf) #[] sb]), (1, .int .i64 ((lo : Nat) : Int)), (2, .int .i64 ((hi : Nat) : Int)), (3, .int .i64 ((fi : Nat) : Int))] rfl ?_
  intro φ F
  have M := Mm.start [blk] w
  replace M := M.addX (hB) (by simp) (by simp [Ent.fp] <;> omega)
  refine wp_seq ?_
  -- region 0
  refine wp_region_lit ?_
  refine sq_box F M (wt0 rfl) rfl (F.ev rfl) (cs := #[.func (.func g) #[] lb, .func (.func sf) #[] sb]) rfl rfl rfl ?_; clear F M; intro φ ω g1 F M
  refine nx ?_
  refine wp_seq ?_
  -- region 1
  refine wp_region_lit ?_
  refine sq_pure F (wt0 rfl) (pu_move rfl (F.ev rfl)) rfl rfl ?_; clear F; intro φ F
  refine sq_pure F (wt0 rfl) (pu_assign rfl (F.ev rfl)) rfl rfl ?_; clear F; intro φ F
  refine nx ?_
  refine wp_block ?_
  refine lp (σ := Int) (fun r φ' w' => ∃ d1 : Array α, Fr φ' 55 [(0, .agg #[.func (.func g) #[] lb, .func (.func sf) #[] sb]), (1, .int .i64 ((lo : Nat) : Int)), (2, .int .i64 ((hi : Nat) : Int)), (3, .int .i64 ((fi : Nat) : Int)), (4, .pointer (some ⟨g1, 0, none⟩)), (8, .int .i64 r)] ∧ Mm [blk] w w' [.blk g1 97 #[.func (.func g) #[] lb, .func (.func sf) #[] sb], .blk blk t (cA d1)] ∧ (0 ≤ r) ∧ (r ≤ (n : Int)) ∧ (d1.size = n) ∧ (siftDown lt hi fi r.toNat d1 = siftDown lt hi fi lo d)) (fun r => ((hi : Int) - r).toNat) ((lo : Int)) ⟨d, ((((((F.nil.cons (F.get (k := 8) rfl)).cons (F.get (k := 4) rfl)).cons (F.get (k := 3) rfl)).cons (F.get (k := 2) rfl)).cons (F.get (k := 1) rfl)).cons (F.get (k := 0) rfl)), M, by omega, by omega, hs, rfl⟩ ?_
  clear F M
  rintro r φ ω ⟨d1, F, M, hp1_0, hp1_1, hp1_2, hp1_3⟩
  refine wp_block ?_
  refine wp_seq ?_
  -- region 2
  refine wp_region_lit ?_
  refine sq_pure F (wt0 rfl) (pu_move rfl (F.ev rfl)) rfl rfl ?_; clear F; intro φ F
  refine sq_pure F (wt0 rfl) (pu_mul rfl (evk) (F.ev rfl) (by omega) (by omega)) rfl rfl ?_; clear F; intro φ F
  refine sq_pure F (wt0 rfl) (pu_add rfl (F.ev rfl) (evk) (by omega) (by omega)) rfl rfl ?_; clear F; intro φ F
  refine sq_pure F (wt0 rfl) (pu_assign rfl (F.ev rfl)) rfl rfl ?_; clear F; intro φ F
  refine nx ?_
  refine wp_seq ?_
  refine wp_seq ?_
  -- region 3
  refine wp_region_lit ?_
  refine sq_pure F (wt0 rfl) (pu_move rfl (F.ev rfl)) rfl rfl ?_; clear F; intro φ F
  refine sq_pure F (wt0 rfl) (pu_move rfl (F.ev rfl)) rfl rfl ?_; clear F; intro φ F
  refine sq_pure F (wt0 rfl) (pu_geq rfl (F.ev rfl) (F.ev rfl)) rfl rfl ?_; clear F; intro φ F
  refine nx ?_
  cases hs2 : (decide (((hi : Nat) : Int) ≤ 2 * r + 1))
  · rw [hs2] at F
    have hs2i := of_decide_eq_false hs2
    refine wp_cond_false (F.ev rfl) ?_
    refine wp_skip ?_
    refine nxq ?_
    refine wp_seq ?_
    refine wp_seq ?_
    -- region 4
    refine wp_region_lit ?_
    refine sq_pure F (wt0 rfl) (pu_move rfl (F.ev rfl)) rfl rfl ?_; clear F; intro φ F
    refine sq_pure F (wt0 rfl) (pu_add rfl (F.ev rfl) (evk) (by omega) (by omega)) rfl rfl ?_; clear F; intro φ F
    refine sq_pure F (wt0 rfl) (pu_move rfl (F.ev rfl)) rfl rfl ?_; clear F; intro φ F
    refine sq_pure F (wt0 rfl) (pu_lss rfl (F.ev rfl) (F.ev rfl)) rfl rfl ?_; clear F; intro φ F
    refine sq_pure F (wt0 rfl) (pu_move rfl (F.ev rfl)) rfl rfl ?_; clear F; intro φ F
    cases hs3 : (decide (2 * r + 1 + 1 < ((hi : Nat) : Int)))
    · rw [hs3] at F
      have hs3i := of_decide_eq_false hs3
      refine sq_skip F (wtn F rfl rfl rfl rfl rfl) rfl rfl ?_; clear F; intro φ F
      refine sq_skip F (wtn F rfl rfl rfl rfl rfl) rfl rfl ?_; clear F; intro φ F
      refine sq_skip F (wtn F rfl rfl rfl rfl rfl) rfl rfl ?_; clear F; intro φ F
      refine sq_skip F (wtn F rfl rfl rfl rfl rfl) rfl rfl ?_; clear F; intro φ F
      refine sq_skip F (wtn F rfl rfl rfl rfl rfl) rfl rfl ?_; clear F; intro φ F
      refine sq_skip F (wtn F rfl rfl rfl rfl rfl) rfl rfl ?_; clear F; intro φ F
      refine sq_skip F (wtn F rfl rfl rfl rfl rfl) rfl rfl ?_; clear F; intro φ F
      refine sq_skip F (wtn F rfl rfl rfl rfl rfl) rfl rfl ?_; clear F; intro φ F
      refine sq_skip F (wtn F rfl rfl rfl rfl rfl) rfl rfl ?_; clear F; intro φ F
      refine sq_skip F (wtn F rfl rfl rfl rfl rfl) rfl rfl ?_; clear F; intro φ F
      refine sq_pure F (wt0 rfl) (pu_pickf rfl (F.ev rfl) (evk)) rfl rfl ?_; clear F; intro φ F
      refine nx ?_
      refine wp_cond_false (F.ev rfl) ?_
      refine wp_skip ?_
      refine nxq ?_
      refine wp_seq ?_
      refine wp_seq ?_
      -- region 6
      refine wp_region_lit ?_
      refine sq_pure F (wt0 rfl) (pu_field rfl (F.ev rfl) fo97_0) rfl rfl ?_; clear F; intro φ F
      refine sq_rd F (wt0 rfl) (ld_cell rfl (F.ev rfl) one83 (M.rd (i := 0) rfl) rfl) rfl rfl ?_; clear F; intro φ F
      refine sq_pure F (wt0 rfl) (pu_move rfl (F.ev rfl)) rfl rfl ?_; clear F; intro φ F
      refine sq_pure F (wt0 rfl) (pu_move rfl (F.ev rfl)) rfl rfl ?_; clear F; intro φ F
      refine sq_pure F (wt0 rfl) (pu_add rfl (F.ev rfl) (F.ev rfl) (by omega) (by omega)) rfl rfl ?_; clear F; intro φ F
      refine sq_pure F (wt0 rfl) (pu_move rfl (F.ev rfl)) rfl rfl ?_; clear F; intro φ F
      refine sq_pure F (wt0 rfl) (pu_move rfl (F.ev rfl)) rfl rfl ?_; clear F; intro φ F
      refine sq_pure F (wt0 rfl) (pu_add rfl (F.ev rfl) (F.ev rfl) (by omega) (by omega)) rfl rfl ?_; clear F; intro φ F
      refine sq_callV F M (wt0 rfl) rfl (F.ev rfl) eg (evc (F.ev rfl) (evc (F.ev rfl) evn)) (hL.at (d := d1) (i := (((fi : Nat) : Int) + r).toNat) (j := (((fi : Nat) : Int) + 2 * r + 1).toNat) (by first | assumption | (simp only [swp_size]; assumption)) (by omega) (by omega) (by omega) (by omega) (hW.trans M.out (fun _ hg => .inr hg)) (M.at (i := 1) rfl)) rfl rfl ?_; clear F M; intro φ ω F M
      cases hs4 : (lt d1[(((fi : Nat) : Int) + r).toNat]! d1[(((fi : Nat) : Int) + 2 * r + 1).toNat]!)
      · rw [hs4] at F
        refine sq_pure F (wt0 rfl) (pu_not rfl (F.ev rfl)) rfl rfl ?_; clear F; intro φ F
        rw [show (!false) = true from rfl] at F
        refine nx ?_
        refine wp_cond_true (F.ev rfl) ?_
        refine wp_ret ?_
        refine nxr ?_
        refine nxrb ?_
        refine nxr ?_
        refine nxrb ?_
        refine rt_none F rfl ?_
        exact ⟨_, _, rfl, M.out, M.at (i := 1) rfl, rfl, hp1_2, by rw [← hp1_3]; exact (sift_L (r' := (2 * r + 1).toNat) (by omega) (by omega) (by omega) (by omega) (.inl (by omega)) hs4).symm⟩
      · rw [hs4] at F
        refine sq_pure F (wt0 rfl) (pu_not rfl (F.ev rfl)) rfl rfl ?_; clear F; intro φ F
        rw [show (!true) = false from rfl] at F
        refine nx ?_
        refine wp_cond_false (F.ev rfl) ?_
        refine wp_skip ?_
        refine nxq ?_
        refine wp_seq ?_
        -- region 7
        refine wp_region_lit ?_
        refine sq_pure F (wt0 rfl) (pu_field rfl (F.ev rfl) fo97_1) rfl rfl ?_; clear F; intro φ F
        refine sq_rd F (wt0 rfl) (ld_cell rfl (F.ev rfl) one90 (M.rd (i := 0) rfl) rfl) rfl rfl ?_; clear F; intro φ F
        refine sq_pure F (wt0 rfl) (pu_move rfl (F.ev rfl)) rfl rfl ?_; clear F; intro φ F
        refine sq_pure F (wt0 rfl) (pu_move rfl (F.ev rfl)) rfl rfl ?_; clear F; intro φ F
        refine sq_pure F (wt0 rfl) (pu_add rfl (F.ev rfl) (F.ev rfl) (by omega) (by omega)) rfl rfl ?_; clear F; intro φ F
        refine sq_pure F (wt0 rfl) (pu_move rfl (F.ev rfl)) rfl rfl ?_; clear F; intro φ F
        refine sq_pure F (wt0 rfl) (pu_move rfl (F.ev rfl)) rfl rfl ?_; clear F; intro φ F
        refine sq_pure F (wt0 rfl) (pu_add rfl (F.ev rfl) (F.ev rfl) (by omega) (by omega)) rfl rfl ?_; clear F; intro φ F
        refine sq_swap F M (wt0 rfl) rfl (F.ev rfl) (evc (F.ev rfl) (evc (F.ev rfl) evn)) (i := 1) rfl (hS.at (d := d1) (i := (((fi : Nat) : Int) + r).toNat) (j := (((fi : Nat) : Int) + 2 * r + 1).toNat) (by first | assumption | (simp only [swp_size]; assumption)) (by omega) (by omega) (by omega) (by omega) (M.at (i := 1) rfl)) rfl rfl ?_; clear F M; intro φ ω F M
        refine nx ?_
        -- region 8
        refine wp_region_lit ?_
        refine sq_pure F (wt0 rfl) (pu_move rfl (F.ev rfl)) rfl rfl ?_; clear F; intro φ F
        refine sq_pure F (wt0 rfl) (pu_assign rfl (F.ev rfl)) rfl rfl ?_; clear F; intro φ F
        refine wpList_nil ?_
        refine nxb ?_
        exact ⟨2 * r + 1, by omega, _, ((((((F.nil.cons (F.get (k := 8) rfl)).cons (F.get (k := 4) rfl)).cons (F.get (k := 3) rfl)).cons (F.get (k := 2) rfl)).cons (F.get (k := 1) rfl)).cons (F.get (k := 0) rfl)), M, by omega, by omega, by first | assumption | (simp only [swp_size]; assumption), by rw [← hp1_3]; exact (sift_L (r' := (2 * r + 1).toNat) (by omega) (by omega) (by omega) (by omega) (.inl (by omega)) hs4).symm⟩
    · rw [hs3] at F
      have hs3i := of_decide_eq_true hs3
      refine sq_pure F (wt1 F rfl rfl rfl rfl rfl) (pu_field rfl (F.ev rfl) fo97_0) rfl rfl ?_; clear F; intro φ F
      refine sq_rd F (wt1 F rfl rfl rfl rfl rfl) (ld_cell rfl (F.ev rfl) one83 (M.rd (i := 0) rfl) rfl) rfl rfl ?_; clear F; intro φ F
      refine sq_pure F (wt1 F rfl rfl rfl rfl rfl) (pu_move rfl (F.ev rfl)) rfl rfl ?_; clear F; intro φ F
      refine sq_pure F (wt1 F rfl rfl rfl rfl rfl) (pu_move rfl (F.ev rfl)) rfl rfl ?_; clear F; intro φ F
      refine sq_pure F (wt1 F rfl rfl rfl rfl rfl) (pu_add rfl (F.ev rfl) (F.ev rfl) (by omega) (by omega)) rfl rfl ?_; clear F; intro φ F
      refine sq_pure F (wt1 F rfl rfl rfl rfl rfl) (pu_move rfl (F.ev rfl)) rfl rfl ?_; clear F; intro φ F
      refine sq_pure F (wt1 F rfl rfl rfl rfl rfl) (pu_move rfl (F.ev rfl)) rfl rfl ?_; clear F; intro φ F
      refine sq_pure F (wt1 F rfl rfl rfl rfl rfl) (pu_add rfl (F.ev rfl) (F.ev rfl) (by omega) (by omega)) rfl rfl ?_; clear F; intro φ F
      refine sq_pure F (wt1 F rfl rfl rfl rfl rfl) (pu_add rfl (F.ev rfl) (evk) (by omega) (by omega)) rfl rfl ?_; clear F; intro φ F
      refine sq_callV F M (wt1 F rfl rfl rfl rfl rfl) rfl (F.ev rfl) eg (evc (F.ev rfl) (evc (F.ev rfl) evn)) (hL.at (d := d1) (i := (((fi : Nat) : Int) + 2 * r + 1).toNat) (j := (((fi : Nat) : Int) + 2 * r + 1 + 1).toNat) (by first | assumption | (simp only [swp_size]; assumption)) (by omega) (by omega) (by omega) (by omega) (hW.trans M.out (fun _ hg => .inr hg)) (M.at (i := 1) rfl)) rfl rfl ?_; clear F M; intro φ ω F M
      refine sq_pure F (wt0 rfl) (pu_pickt rfl (F.ev rfl) (F.ev rfl)) rfl rfl ?_; clear F; intro φ F
      refine nx ?_
      cases hs5 : (lt d1[(((fi : Nat) : Int) + 2 * r + 1).toNat]! d1[(((fi : Nat) : Int) + 2 * r + 1 + 1).toNat]!)
      · rw [hs5] at F
        refine wp_cond_false (F.ev rfl) ?_
        refine wp_skip ?_
        refine nxq ?_
        refine wp_seq ?_
        refine wp_seq ?_
        -- region 6
        refine wp_region_lit ?_
        refine sq_pure F (wt0 rfl) (pu_field rfl (F.ev rfl) fo97_0) rfl rfl ?_; clear F; intro φ F
        refine sq_rd F (wt0 rfl) (ld_cell rfl (F.ev rfl) one83 (M.rd (i := 0) rfl) rfl) rfl rfl ?_; clear F; intro φ F
        refine sq_pure F (wt0 rfl) (pu_move rfl (F.ev rfl)) rfl rfl ?_; clear F; intro φ F
        refine sq_pure F (wt0 rfl) (pu_move rfl (F.ev rfl)) rfl rfl ?_; clear F; intro φ F
        refine sq_pure F (wt0 rfl) (pu_add rfl (F.ev rfl) (F.ev rfl) (by omega) (by omega)) rfl rfl ?_; clear F; intro φ F
        refine sq_pure F (wt0 rfl) (pu_move rfl (F.ev rfl)) rfl rfl ?_; clear F; intro φ F
        refine sq_pure F (wt0 rfl) (pu_move rfl (F.ev rfl)) rfl rfl ?_; clear F; intro φ F
        refine sq_pure F (wt0 rfl) (pu_add rfl (F.ev rfl) (F.ev rfl) (by omega) (by omega)) rfl rfl ?_; clear F; intro φ F
        refine sq_callV F M (wt0 rfl) rfl (F.ev rfl) eg (evc (F.ev rfl) (evc (F.ev rfl) evn)) (hL.at (d := d1) (i := (((fi : Nat) : Int) + r).toNat) (j := (((fi : Nat) : Int) + 2 * r + 1).toNat) (by first | assumption | (simp only [swp_size]; assumption)) (by omega) (by omega) (by omega) (by omega) (hW.trans M.out (fun _ hg => .inr hg)) (M.at (i := 1) rfl)) rfl rfl ?_; clear F M; intro φ ω F M
        cases hs6 : (lt d1[(((fi : Nat) : Int) + r).toNat]! d1[(((fi : Nat) : Int) + 2 * r + 1).toNat]!)
        · rw [hs6] at F
          refine sq_pure F (wt0 rfl) (pu_not rfl (F.ev rfl)) rfl rfl ?_; clear F; intro φ F
          rw [show (!false) = true from rfl] at F
          refine nx ?_
          refine wp_cond_true (F.ev rfl) ?_
          refine wp_ret ?_
          refine nxr ?_
          refine nxrb ?_
          refine nxr ?_
          refine nxrb ?_
          refine rt_none F rfl ?_
          exact ⟨_, _, rfl, M.out, M.at (i := 1) rfl, rfl, hp1_2, by rw [← hp1_3]; exact (sift_L (r' := (2 * r + 1).toNat) (by omega) (by omega) (by omega) (by omega) (.inr ⟨_, by omega, hs5⟩) hs6).symm⟩
        · rw [hs6] at F
          refine sq_pure F (wt0 rfl) (pu_not rfl (F.ev rfl)) rfl rfl ?_; clear F; intro φ F
          rw [show (!true) = false from rfl] at F
          refine nx ?_
          refine wp_cond_false (F.ev rfl) ?_
          refine wp_skip ?_
          refine nxq ?_
          refine wp_seq ?_
          -- region 7
          refine wp_region_lit ?_
          refine sq_pure F (wt0 rfl) (pu_field rfl (F.ev rfl) fo97_1) rfl rfl ?_; clear F; intro φ F
          refine sq_rd F (wt0 rfl) (ld_cell rfl (F.ev rfl) one90 (M.rd (i := 0) rfl) rfl) rfl rfl ?_; clear F; intro φ F
          refine sq_pure F (wt0 rfl) (pu_move rfl (F.ev rfl)) rfl rfl ?_; clear F; intro φ F
          refine sq_pure F (wt0 rfl) (pu_move rfl (F.ev rfl)) rfl rfl ?_; clear F; intro φ F
          refine sq_pure F (wt0 rfl) (pu_add rfl (F.ev rfl) (F.ev rfl) (by omega) (by omega)) rfl rfl ?_; clear F; intro φ F
          refine sq_pure F (wt0 rfl) (pu_move rfl (F.ev rfl)) rfl rfl ?_; clear F; intro φ F
          refine sq_pure F (wt0 rfl) (pu_move rfl (F.ev rfl)) rfl rfl ?_; clear F; intro φ F
          refine sq_pure F (wt0 rfl) (pu_add rfl (F.ev rfl) (F.ev rfl) (by omega) (by omega)) rfl rfl ?_; clear F; intro φ F
          refine sq_swap F M (wt0 rfl) rfl (F.ev rfl) (evc (F.ev rfl) (evc (F.ev rfl) evn)) (i := 1) rfl (hS.at (d := d1) (i := (((fi : Nat) : Int) + r).toNat) (j := (((fi : Nat) : Int) + 2 * r + 1).toNat) (by first | assumption | (simp only [swp_size]; assumption)) (by omega) (by omega) (by omega) (by omega) (M.at (i := 1) rfl)) rfl rfl ?_; clear F M; intro φ ω F M
          refine nx ?_
          -- region 8
          refine wp_region_lit ?_
          refine sq_pure F (wt0 rfl) (pu_move rfl (F.ev rfl)) rfl rfl ?_; clear F; intro φ F
          refine sq_pure F (wt0 rfl) (pu_assign rfl (F.ev rfl)) rfl rfl ?_; clear F; intro φ F
          refine wpList_nil ?_
          refine nxb ?_
          exact ⟨2 * r + 1, by omega, _, ((((((F.nil.cons (F.get (k := 8) rfl)).cons (F.get (k := 4) rfl)).cons (F.get (k := 3) rfl)).cons (F.get (k := 2) rfl)).cons (F.get (k := 1) rfl)).cons (F.get (k := 0) rfl)), M, by omega, by omega, by first | assumption | (simp only [swp_size]; assumption), by rw [← hp1_3]; exact (sift_L (r' := (2 * r + 1).toNat) (by omega) (by omega) (by omega) (by omega) (.inr ⟨_, by omega, hs5⟩) hs6).symm⟩
      · rw [hs5] at F
        refine wp_cond_true (F.ev rfl) ?_
        -- region 5
        refine wp_region_lit ?_
        refine sq_pure F (wt0 rfl) (pu_move rfl (F.ev rfl)) rfl rfl ?_; clear F; intro φ F
        refine sq_pure F (wt0 rfl) (pu_add rfl (F.ev rfl) (evk) (by omega) (by omega)) rfl rfl ?_; clear F; intro φ F
        refine sq_pure F (wt0 rfl) (pu_assign rfl (F.ev rfl)) rfl rfl ?_; clear F; intro φ F
        refine nx ?_
        refine wp_seq ?_
        refine wp_seq ?_
        -- region 6
        refine wp_region_lit ?_
        refine sq_pure F (wt0 rfl) (pu_field rfl (F.ev rfl) fo97_0) rfl rfl ?_; clear F; intro φ F
        refine sq_rd F (wt0 rfl) (ld_cell rfl (F.ev rfl) one83 (M.rd (i := 0) rfl) rfl) rfl rfl ?_; clear F; intro φ F
        refine sq_pure F (wt0 rfl) (pu_move rfl (F.ev rfl)) rfl rfl ?_; clear F; intro φ F
        refine sq_pure F (wt0 rfl) (pu_move rfl (F.ev rfl)) rfl rfl ?_; clear F; intro φ F
        refine sq_pure F (wt0 rfl) (pu_add rfl (F.ev rfl) (F.ev rfl) (by omega) (by omega)) rfl rfl ?_; clear F; intro φ F
        refine sq_pure F (wt0 rfl) (pu_move rfl (F.ev rfl)) rfl rfl ?_; clear F; intro φ F
        refine sq_pure F (wt0 rfl) (pu_move rfl (F.ev rfl)) rfl rfl ?_; clear F; intro φ F
        refine sq_pure F (wt0 rfl) (pu_add rfl (F.ev rfl) (F.ev rfl) (by omega) (by omega)) rfl rfl ?_; clear F; intro φ F
        refine sq_callV F M (wt0 rfl) rfl (F.ev rfl) eg (evc (F.ev rfl) (evc (F.ev rfl) evn)) (hL.at (d := d1) (i := (((fi : Nat) : Int) + r).toNat) (j := (((fi : Nat) : Int) + 2 * r + 1 + 1).toNat) (by first | assumption | (simp only [swp_size]; assumption)) (by omega) (by omega) (by omega) (by omega) (hW.trans M.out (fun _ hg => .inr hg)) (M.at (i := 1) rfl)) rfl rfl ?_; clear F M; intro φ ω F M
        cases hs7 : (lt d1[(((fi : Nat) : Int) + r).toNat]! d1[(((fi : Nat) : Int) + 2 * r + 1 + 1).toNat]!)
        · rw [hs7] at F
          refine sq_pure F (wt0 rfl) (pu_not rfl (F.ev rfl)) rfl rfl ?_; clear F; intro φ F
          rw [show (!false) = true from rfl] at F
          refine nx ?_
          refine wp_cond_true (F.ev rfl) ?_
          refine wp_ret ?_
          refine nxr ?_
          refine nxrb ?_
          refine nxr ?_
          refine nxrb ?_
          refine rt_none F rfl ?_
          exact ⟨_, _, rfl, M.out, M.at (i := 1) rfl, rfl, hp1_2, by rw [← hp1_3]; exact (sift_R (r' := (2 * r + 1 + 1).toNat) (by omega) (by omega) (by omega) (by omega) (by omega) hs5 hs7).symm⟩
        · rw [hs7] at F
          refine sq_pure F (wt0 rfl) (pu_not rfl (F.ev rfl)) rfl rfl ?_; clear F; intro φ F
          rw [show (!true) = false from rfl] at F
          refine nx ?_
          refine wp_cond_false (F.ev rfl) ?_
          refine wp_skip ?_
          refine nxq ?_
          refine wp_seq ?_
          -- region 7
          refine wp_region_lit ?_
          refine sq_pure F (wt0 rfl) (pu_field rfl (F.ev rfl) fo97_1) rfl rfl ?_; clear F; intro φ F
          refine sq_rd F (wt0 rfl) (ld_cell rfl (F.ev rfl) one90 (M.rd (i := 0) rfl) rfl) rfl rfl ?_; clear F; intro φ F
          refine sq_pure F (wt0 rfl) (pu_move rfl (F.ev rfl)) rfl rfl ?_; clear F; intro φ F
          refine sq_pure F (wt0 rfl) (pu_move rfl (F.ev rfl)) rfl rfl ?_; clear F; intro φ F
          refine sq_pure F (wt0 rfl) (pu_add rfl (F.ev rfl) (F.ev rfl) (by omega) (by omega)) rfl rfl ?_; clear F; intro φ F
          refine sq_pure F (wt0 rfl) (pu_move rfl (F.ev rfl)) rfl rfl ?_; clear F; intro φ F
          refine sq_pure F (wt0 rfl) (pu_move rfl (F.ev rfl)) rfl rfl ?_; clear F; intro φ F
          refine sq_pure F (wt0 rfl) (pu_add rfl (F.ev rfl) (F.ev rfl) (by omega) (by omega)) rfl rfl ?_; clear F; intro φ F
          refine sq_swap F M (wt0 rfl) rfl (F.ev rfl) (evc (F.ev rfl) (evc (F.ev rfl) evn)) (i := 1) rfl (hS.at (d := d1) (i := (((fi : Nat) : Int) + r).toNat) (j := (((fi : Nat) : Int) + 2 * r + 1 + 1).toNat) (by first | assumption | (simp only [swp_size]; assumption)) (by omega) (by omega) (by omega) (by omega) (M.at (i := 1) rfl)) rfl rfl ?_; clear F M; intro φ ω F M
          refine nx ?_
          -- region 8
          refine wp_region_lit ?_
          refine sq_pure F (wt0 rfl) (pu_move rfl (F.ev rfl)) rfl rfl ?_; clear F; intro φ F
          refine sq_pure F (wt0 rfl) (pu_assign rfl (F.ev rfl)) rfl rfl ?_; clear F; intro φ F
          refine wpList_nil ?_
          refine nxb ?_
          exact ⟨2 * r + 1 + 1, by omega, _, ((((((F.nil.cons (F.get (k := 8) rfl)).cons (F.get (k := 4) rfl)).cons (F.get (k := 3) rfl)).cons (F.get (k := 2) rfl)).cons (F.get (k := 1) rfl)).cons (F.get (k := 0) rfl)), M, by omega, by omega, by first | assumption | (simp only [swp_size]; assumption), by rw [← hp1_3]; exact (sift_R (r' := (2 * r + 1 + 1).toNat) (by omega) (by omega) (by omega) (by omega) (by omega) hs5 hs7).symm⟩
  · rw [hs2] at F
    have hs2i := of_decide_eq_true hs2
    refine wp_cond_true (F.ev rfl) ?_
    refine wp_exit ?_
    refine nxe ?_
    refine nxo rfl ?_
    refine nxe ?_
    refine nxm ?_
    refine rt_end F rfl ?_
    exact ⟨_, _, rfl, M.out, M.at (i := 1) rfl, rfl, hp1_2, by rw [← hp1_3, sift_stop (by omega)]⟩

set_option maxHeartbeats 2000000 in
theorem rev_any {α : Type} [Inhabited α] {lt : α → α → Bool} {g : Nat} {lb : Array Value} {sf : Nat} {sb : Array Value} {blk t n : Nat} {W0 : World} {cA : Array α → Array Value} (eg : enters Try.prog g = true) (hL : LessOK Try.prog g lb lt blk t n W0 cA) (hS : SwapOK Try.prog sf sb blk t n cA) (hn : n ≤ 1000000000) (a b : Nat) (d : Array α) (hs : d.size = n) (hab : a ≤ b) (hb : b ≤ n) (aI bI : Int) (eaI : aI = ((a : Nat) : Int)) (ebI : bI = ((b : Nat) : Int)) (w : World) (hW : Out [blk] W0 w) (hB : Blk w blk t (cA d)) :
    Calls Try.prog 83 #[.agg #[.func (.func g) #[] lb, .func (.func sf) #[] sb], .int .i64 aI, .int .i64 bI] w (Turns blk t cA w fun v d' => v = .tuple #[] ∧ d'.size = n ∧ d' = reverseRange d a b) := by
  subst eaI
  subst ebI
  have _ := eg
  have _ := hL
  have _ := hS
  have _ := hn
  have _ := hs
  have _ := hab
  have _ := hb
  have _ := hW
  have _ := hB
  refine enterF Try.func83 rfl 23 Try.ntmps83 [.agg #[.func (.func g) #[] lb, .func (.func sf) #[] sb], .int .i64 ((a : Nat) : Int), .int .i64 ((b : Nat) : Int)] rfl [(0, .agg #[.func (.func g) #[] lb, .func (.func sf) #[] sb]), (1, .int .i64 ((a : Nat) : Int)), (2, .int .i64 ((b : Nat) : Int))] rfl ?_
  intro φ F
  have M := Mm.start [blk] w
  replace M := M.addX (hB) (by simp) (by simp [Ent.fp] <;> omega)
  refine wp_seq ?_
  -- region 0
  refine wp_region_lit ?_
  refine sq_box F M (wt0 rfl) rfl (F.ev rfl) (cs := #[.func (.func g) #[] lb, .func (.func sf) #[] sb]) rfl rfl rfl ?_; clear F M; intro φ ω g1 F M
  refine nx ?_
  refine wp_seq ?_
  -- region 1
  refine wp_region_lit ?_
  refine sq_pure F (wt0 rfl) (pu_move rfl (F.ev rfl)) rfl rfl ?_; clear F; intro φ F
  refine sq_pure F (wt0 rfl) (pu_assign rfl (F.ev rfl)) rfl rfl ?_; clear F; intro φ F
  refine nx ?_
  refine wp_seq ?_
  -- region 2
  refine wp_region_lit ?_
  refine sq_pure F (wt0 rfl) (pu_move rfl (F.ev rfl)) rfl rfl ?_; clear F; intro φ F
  refine sq_pure F (wt0 rfl) (pu_sub rfl (F.ev rfl) (evk) (by omega) (by omega)) rfl rfl ?_; clear F; intro φ F
  refine sq_pure F (wt0 rfl) (pu_assign rfl (F.ev rfl)) rfl rfl ?_; clear F; intro φ F
  refine nx ?_
  refine wp_block ?_
  refine lp (σ := Int) (fun i φ' w' => ∃ j : Int, ∃ d1 : Array α, Fr φ' 23 [(0, .agg #[.func (.func g) #[] lb, .func (.func sf) #[] sb]), (1, .int .i64 ((a : Nat) : Int)), (2, .int .i64 ((b : Nat) : Int)), (3, .pointer (some ⟨g1, 0, none⟩)), (6, .int .i64 i), (7, .int .i64 j)] ∧ Mm [blk] w w' [.blk g1 97 #[.func (.func g) #[] lb, .func (.func sf) #[] sb], .blk blk t (cA d1)] ∧ ((a : Int) ≤ i) ∧ (j < (b : Int)) ∧ (j ≤ (b : Int) - 1 - (i - (a : Int))) ∧ (d1.size = n) ∧ (reverseLoop i.toNat j.toNat d1 = reverseLoop a (b - 1) d)) (fun i => ((b : Int) + 1 - i).toNat) ((a : Int)) ⟨(b : Int) - 1, d, ((((((F.nil.cons (F.get (k := 7) rfl)).cons (F.get (k := 6) rfl)).cons (F.get (k := 3) rfl)).cons (F.get (k := 2) rfl)).cons (F.get (k := 1) rfl)).cons (F.get (k := 0) rfl)), M, by omega, by omega, by omega, hs, by congr 1; omega⟩ ?_
  clear F M
  rintro i φ ω ⟨j, d1, F, M, hp1_0, hp1_1, hp1_2, hp1_3, hp1_4⟩
  refine wp_seq ?_
  refine wp_seq ?_
  -- region 3
  refine wp_region_lit ?_
  refine sq_pure F (wt0 rfl) (pu_move rfl (F.ev rfl)) rfl rfl ?_; clear F; intro φ F
  refine sq_pure F (wt0 rfl) (pu_move rfl (F.ev rfl)) rfl rfl ?_; clear F; intro φ F
  refine sq_pure F (wt0 rfl) (pu_lss rfl (F.ev rfl) (F.ev rfl)) rfl rfl ?_; clear F; intro φ F
  refine nx ?_
  cases hs2 : (decide (i < j))
  · rw [hs2] at F
    have hs2i := of_decide_eq_false hs2
    refine wp_cond_false (F.ev rfl) ?_
    refine wp_exit ?_
    refine nxe ?_
    refine nxe ?_
    refine nxm ?_
    refine rt_end F rfl ?_
    exact ⟨_, _, rfl, M.out, M.at (i := 1) rfl, rfl, hp1_3, by unfold reverseRange; rw [← hp1_4, rev_stop (by omega)]⟩
  · rw [hs2] at F
    have hs2i := of_decide_eq_true hs2
    refine wp_cond_true (F.ev rfl) ?_
    refine wp_skip ?_
    refine nxq ?_
    refine wp_block ?_
    refine wp_seq ?_
    -- region 4
    refine wp_region_lit ?_
    refine sq_pure F (wt0 rfl) (pu_field rfl (F.ev rfl) fo97_1) rfl rfl ?_; clear F; intro φ F
    refine sq_rd F (wt0 rfl) (ld_cell rfl (F.ev rfl) one90 (M.rd (i := 0) rfl) rfl) rfl rfl ?_; clear F; intro φ F
    refine sq_pure F (wt0 rfl) (pu_move rfl (F.ev rfl)) rfl rfl ?_; clear F; intro φ F
    refine sq_pure F (wt0 rfl) (pu_move rfl (F.ev rfl)) rfl rfl ?_; clear F; intro φ F
    refine sq_swap F M (wt0 rfl) rfl (F.ev rfl) (evc (F.ev rfl) (evc (F.ev rfl) evn)) (i := 1) rfl (hS.at (d := d1) (i := (i).toNat) (j := (j).toNat) (by first | assumption | (simp only [swp_size]; assumption)) (by omega) (by omega) (by omega) (by omega) (M.at (i := 1) rfl)) rfl rfl ?_; clear F M; intro φ ω F M
    refine nx ?_
    refine wp_seq ?_
    -- region 5
    refine wp_region_lit ?_
    refine sq_pure F (wt0 rfl) (pu_move rfl (F.ev rfl)) rfl rfl ?_; clear F; intro φ F
    refine sq_pure F (wt0 rfl) (pu_add rfl (F.ev rfl) (evk) (by omega) (by omega)) rfl rfl ?_; clear F; intro φ F
    refine sq_pure F (wt0 rfl) (pu_assign rfl (F.ev rfl)) rfl rfl ?_; clear F; intro φ F
    refine nx ?_
    -- region 6
    refine wp_region_lit ?_
    refine sq_pure F (wt0 rfl) (pu_move rfl (F.ev rfl)) rfl rfl ?_; clear F; intro φ F
    refine sq_pure F (wt0 rfl) (pu_sub rfl (F.ev rfl) (evk) (by omega) (by omega)) rfl rfl ?_; clear F; intro φ F
    refine sq_pure F (wt0 rfl) (pu_assign rfl (F.ev rfl)) rfl rfl ?_; clear F; intro φ F
    refine wpList_nil ?_
    refine nxb ?_
    exact ⟨i + 1, by omega, j - 1, _, ((((((F.nil.cons (F.get (k := 7) rfl)).cons (F.get (k := 6) rfl)).cons (F.get (k := 3) rfl)).cons (F.get (k := 2) rfl)).cons (F.get (k := 1) rfl)).cons (F.get (k := 0) rfl)), M, by omega, by omega, by omega, by first | assumption | (simp only [swp_size]; assumption), by rw [← hp1_4]; exact (rev_go (by omega) (by omega) (by omega)).symm⟩

set_option maxHeartbeats 2000000 in
theorem heap_any {α : Type} [Inhabited α] {lt : α → α → Bool} {g : Nat} {lb : Array Value} {sf : Nat} {sb : Array Value} {blk t n : Nat} {W0 : World} {cA : Array α → Array Value} (eg : enters Try.prog g = true) (hL : LessOK Try.prog g lb lt blk t n W0 cA) (hS : SwapOK Try.prog sf sb blk t n cA) (hn : n ≤ 1000000000) (a b : Nat) (d : Array α) (hs : d.size = n) (hab : a < b) (hb : b ≤ n) (aI bI : Int) (eaI : aI = ((a : Nat) : Int)) (ebI : bI = ((b : Nat) : Int)) (w : World) (hW : Out [blk] W0 w) (hB : Blk w blk t (cA d)) :
    Calls Try.prog 80 #[.agg #[.func (.func g) #[] lb, .func (.func sf) #[] sb], .int .i64 aI, .int .i64 bI] w (Turns blk t cA w fun v d' => v = .tuple #[] ∧ d'.size = n ∧ d' = heapSort lt d a b) := by
  subst eaI
  subst ebI
  have _ := eg
  have _ := hL
  have _ := hS
  have _ := hn
  have _ := hs
  have _ := hab
  have _ := hb
  have _ := hW
  have _ := hB
  refine enterF Try.func80 rfl 45 Try.ntmps80 [.agg #[.func (.func g) #[] lb, .func (.func sf) #[] sb], .int .i64 ((a : Nat) : Int), .int .i64 ((b : Nat) : Int)] rfl [(0, .agg #[.func (.func g) #[] lb, .func (.func sf) #[] sb]), (1, .int .i64 ((a : Nat) : Int)), (2, .int .i64 ((b : Nat) : Int))] rfl ?_
  intro φ F
  have M := Mm.start [blk] w
  replace M := M.addX (hB) (by simp) (by simp [Ent.fp] <;> omega)
  refine wp_seq ?_
  -- region 0
  refine wp_region_lit ?_
  refine sq_box F M (wt0 rfl) rfl (F.ev rfl) (cs := #[.func (.func g) #[] lb, .func (.func sf) #[] sb]) rfl rfl rfl ?_; clear F M; intro φ ω g1 F M
  refine nx ?_
  refine wp_seq ?_
  -- region 1
  refine wp_region_lit ?_
  refine sq_pure F (wt0 rfl) (pu_move rfl (F.ev rfl)) rfl rfl ?_; clear F; intro φ F
  refine sq_pure F (wt0 rfl) (pu_assign rfl (F.ev rfl)) rfl rfl ?_; clear F; intro φ F
  refine nx ?_
  refine wp_seq ?_
  -- region 2
  refine wp_region_lit ?_
  refine sq_pure F (wt0 rfl) (pu_assign rfl (evk)) rfl rfl ?_; clear F; intro φ F
  refine nx ?_
  refine wp_seq ?_
  -- region 3
  refine wp_region_lit ?_
  refine sq_pure F (wt0 rfl) (pu_move rfl (F.ev rfl)) rfl rfl ?_; clear F; intro φ F
  refine sq_pure F (wt0 rfl) (pu_move rfl (F.ev rfl)) rfl rfl ?_; clear F; intro φ F
  refine sq_pure F (wt0 rfl) (pu_sub rfl (F.ev rfl) (F.ev rfl) (by omega) (by omega)) rfl rfl ?_; clear F; intro φ F
  refine sq_pure F (wt0 rfl) (pu_assign rfl (F.ev rfl)) rfl rfl ?_; clear F; intro φ F
  refine nx ?_
  refine wp_seq ?_
  refine wp_seq ?_
  -- region 4
  refine wp_region_lit ?_
  refine sq_pure F (wt0 rfl) (pu_move rfl (F.ev rfl)) rfl rfl ?_; clear F; intro φ F
  refine sq_pure F (wt0 rfl) (pu_sub rfl (F.ev rfl) (evk) (by omega) (by omega)) rfl rfl ?_; clear F; intro φ F
  refine sq_pure F (wt0 rfl) (pu_quo rfl (F.ev rfl) (evk) (by omega) (by omega) (by omega)) rfl rfl ?_; clear F; intro φ F
  refine sq_pure F (wt0 rfl) (pu_assign rfl (F.ev rfl)) rfl rfl ?_; clear F; intro φ F
  refine nx ?_
  refine wp_block ?_
  refine lp (σ := Int) (fun i φ' w' => ∃ d1 : Array α, Fr φ' 45 [(0, .agg #[.func (.func g) #[] lb, .func (.func sf) #[] sb]), (1, .int .i64 ((a : Nat) : Int)), (2, .int .i64 ((b : Nat) : Int)), (3, .pointer (some ⟨g1, 0, none⟩)), (6, .int .i64 ((a : Nat) : Int)), (7, .int .i64 0), (8, .int .i64 (((b : Nat) : Int) - ((a : Nat) : Int))), (9, .int .i64 i)] ∧ Mm [blk] w w' [.blk g1 97 #[.func (.func g) #[] lb, .func (.func sf) #[] sb], .blk blk t (cA d1)] ∧ (-1 ≤ i) ∧ (i ≤ (n : Int)) ∧ (d1.size = n) ∧ (heapBuild lt (b - a) a (i + 1).toNat d1 = heapBuild lt (b - a) a ((b - a - 1) / 2 + 1) d)) (fun i => (i + 1).toNat) ((((b : Nat) : Int) - ((a : Nat) : Int) - 1) / 2) ⟨d, ((((((((F.nil.cons (F.get (k := 9) rfl)).cons (F.get (k := 8) rfl)).cons (F.get (k := 7) rfl)).cons (F.get (k := 6) rfl)).cons (F.get (k := 3) rfl)).cons (F.get (k := 2) rfl)).cons (F.get (k := 1) rfl)).cons (F.get (k := 0) rfl)), M, by omega, by omega, hs, by congr 1; omega⟩ ?_
  clear F M
  rintro i φ ω ⟨d1, F, M, hp1_0, hp1_1, hp1_2, hp1_3⟩
  refine wp_seq ?_
  refine wp_seq ?_
  -- region 5
  refine wp_region_lit ?_
  refine sq_pure F (wt0 rfl) (pu_move rfl (F.ev rfl)) rfl rfl ?_; clear F; intro φ F
  refine sq_pure F (wt0 rfl) (pu_geq rfl (F.ev rfl) (evk)) rfl rfl ?_; clear F; intro φ F
  refine nx ?_
  cases hs2 : (decide (0 ≤ i))
  · rw [hs2] at F
    have hs2i := of_decide_eq_false hs2
    refine wp_cond_false (F.ev rfl) ?_
    refine wp_exit ?_
    refine nxe ?_
    refine nxe ?_
    refine nxm ?_
    refine nxq ?_
    refine wp_seq ?_
    -- region 8
    refine wp_region_lit ?_
    refine sq_pure F (wt0 rfl) (pu_move rfl (F.ev rfl)) rfl rfl ?_; clear F; intro φ F
    refine sq_pure F (wt0 rfl) (pu_sub rfl (F.ev rfl) (evk) (by omega) (by omega)) rfl rfl ?_; clear F; intro φ F
    refine sq_pure F (wt0 rfl) (pu_assign rfl (F.ev rfl)) rfl rfl ?_; clear F; intro φ F
    refine nx ?_
    refine wp_block ?_
    refine lp (σ := Int) (fun k φ' w' => ∃ d2 : Array α, Fr φ' 45 [(0, .agg #[.func (.func g) #[] lb, .func (.func sf) #[] sb]), (1, .int .i64 ((a : Nat) : Int)), (2, .int .i64 ((b : Nat) : Int)), (3, .pointer (some ⟨g1, 0, none⟩)), (6, .int .i64 ((a : Nat) : Int)), (7, .int .i64 0), (8, .int .i64 (((b : Nat) : Int) - ((a : Nat) : Int))), (10, .int .i64 k)] ∧ Mm [blk] w w' [.blk g1 97 #[.func (.func g) #[] lb, .func (.func sf) #[] sb], .blk blk t (cA d2)] ∧ (-1 ≤ k) ∧ (k < (b : Int) - a) ∧ (d2.size = n) ∧ (heapPop lt a (k + 1).toNat d2 = heapPop lt a (b - a) d1)) (fun k => (k + 1).toNat) (((b : Nat) : Int) - ((a : Nat) : Int) - 1) ⟨d1, ((((((((F.nil.cons (F.get (k := 10) rfl)).cons (F.get (k := 8) rfl)).cons (F.get (k := 7) rfl)).cons (F.get (k := 6) rfl)).cons (F.get (k := 3) rfl)).cons (F.get (k := 2) rfl)).cons (F.get (k := 1) rfl)).cons (F.get (k := 0) rfl)), M, by omega, by omega, hp1_2, by congr 1; omega⟩ ?_
    clear F M
    rintro k φ ω ⟨d2, F, M, hp3_0, hp3_1, hp3_2, hp3_3⟩
    refine wp_seq ?_
    refine wp_seq ?_
    -- region 9
    refine wp_region_lit ?_
    refine sq_pure F (wt0 rfl) (pu_move rfl (F.ev rfl)) rfl rfl ?_; clear F; intro φ F
    refine sq_pure F (wt0 rfl) (pu_geq rfl (F.ev rfl) (evk)) rfl rfl ?_; clear F; intro φ F
    refine nx ?_
    cases hs4 : (decide (0 ≤ k))
    · rw [hs4] at F
      have hs4i := of_decide_eq_false hs4
      refine wp_cond_false (F.ev rfl) ?_
      refine wp_exit ?_
      refine nxe ?_
      refine nxe ?_
      refine nxm ?_
      refine rt_end F rfl ?_
      refine ⟨_, _, rfl, M.out, M.at (i := 1) rfl, rfl, hp3_2, ?_⟩
      have z1 := hp1_3
      have z2 := hp3_3
      rw [show (i + 1).toNat = 0 by omega] at z1
      rw [show (k + 1).toNat = 0 by omega] at z2
      unfold heapSort; rw [← z1]; exact z2
    · rw [hs4] at F
      have hs4i := of_decide_eq_true hs4
      refine wp_cond_true (F.ev rfl) ?_
      refine wp_skip ?_
      refine nxq ?_
      refine wp_seq ?_
      refine wp_block ?_
      refine wp_seq ?_
      -- region 11
      refine wp_region_lit ?_
      refine sq_pure F (wt0 rfl) (pu_field rfl (F.ev rfl) fo97_1) rfl rfl ?_; clear F; intro φ F
      refine sq_rd F (wt0 rfl) (ld_cell rfl (F.ev rfl) one90 (M.rd (i := 0) rfl) rfl) rfl rfl ?_; clear F; intro φ F
      refine sq_pure F (wt0 rfl) (pu_move rfl (F.ev rfl)) rfl rfl ?_; clear F; intro φ F
      refine sq_pure F (wt0 rfl) (pu_move rfl (F.ev rfl)) rfl rfl ?_; clear F; intro φ F
      refine sq_pure F (wt0 rfl) (pu_move rfl (F.ev rfl)) rfl rfl ?_; clear F; intro φ F
      refine sq_pure F (wt0 rfl) (pu_add rfl (F.ev rfl) (F.ev rfl) (by omega) (by omega)) rfl rfl ?_; clear F; intro φ F
      refine sq_swap F M (wt0 rfl) rfl (F.ev rfl) (evc (F.ev rfl) (evc (F.ev rfl) evn)) (i := 1) rfl (hS.at (d := d2) (i := a) (j := (((a : Nat) : Int) + k).toNat) (by first | assumption | (simp only [swp_size]; assumption)) (by omega) (by omega) (by omega) (by omega) (M.at (i := 1) rfl)) rfl rfl ?_; clear F M; intro φ ω F M
      refine nx ?_
      -- region 12
      refine wp_region_lit ?_
      refine sq_rd F (wt0 rfl) (ld_agg rfl (F.ev rfl) agg97 (M.rd (i := 0) rfl) rfl) rfl rfl ?_; clear F; intro φ F
      refine sq_pure F (wt0 rfl) (pu_move rfl (F.ev rfl)) rfl rfl ?_; clear F; intro φ F
      refine sq_pure F (wt0 rfl) (pu_move rfl (F.ev rfl)) rfl rfl ?_; clear F; intro φ F
      refine sq_pure F (wt0 rfl) (pu_move rfl (F.ev rfl)) rfl rfl ?_; clear F; intro φ F
      refine sq_callX F M (wt0 rfl) rfl en87 (evc (F.ev rfl) (evc (F.ev rfl) (evc (F.ev rfl) (evc (F.ev rfl) evn)))) (i := 1) rfl (sift_any eg hL hS hn 0 ((k).toNat) a (swp d2 a ((((a : Nat) : Int) + k).toNat)) (by first | assumption | (simp only [swp_size]; assumption)) (by omega) (by omega) _ _ _ (by omega) (by omega) (by omega) _ (hW.trans M.out (fun _ hg => .inr hg)) (M.at (i := 1) rfl)) rfl rfl ?_; clear F M; rintro φ ω _ e1 ⟨rfl, hz1, he1⟩ F M
      refine wpList_nil ?_
      refine nxb ?_
      refine nxq ?_
      -- region 10
      refine wp_region_lit ?_
      refine sq_pure F (wt0 rfl) (pu_move rfl (F.ev rfl)) rfl rfl ?_; clear F; intro φ F
      refine sq_pure F (wt0 rfl) (pu_sub rfl (F.ev rfl) (evk) (by omega) (by omega)) rfl rfl ?_; clear F; intro φ F
      refine sq_pure F (wt0 rfl) (pu_assign rfl (F.ev rfl)) rfl rfl ?_; clear F; intro φ F
      refine wpList_nil ?_
      exact ⟨k - 1, by omega, _, ((((((((F.nil.cons (F.get (k := 10) rfl)).cons (F.get (k := 8) rfl)).cons (F.get (k := 7) rfl)).cons (F.get (k := 6) rfl)).cons (F.get (k := 3) rfl)).cons (F.get (k := 2) rfl)).cons (F.get (k := 1) rfl)).cons (F.get (k := 0) rfl)), M, by omega, by omega, by assumption, by rw [← hp3_3, hpop_go (i := (k + 1).toNat) (i' := k.toNat) (o := a) (p := ((a : Int) + k).toNat) (by omega) rfl (by omega), show (k - 1 + 1).toNat = k.toNat by omega, he1]⟩
  · rw [hs2] at F
    have hs2i := of_decide_eq_true hs2
    refine wp_cond_true (F.ev rfl) ?_
    refine wp_skip ?_
    refine nxq ?_
    refine wp_seq ?_
    refine wp_block ?_
    -- region 7
    refine wp_region_lit ?_
    refine sq_rd F (wt0 rfl) (ld_agg rfl (F.ev rfl) agg97 (M.rd (i := 0) rfl) rfl) rfl rfl ?_; clear F; intro φ F
    refine sq_pure F (wt0 rfl) (pu_move rfl (F.ev rfl)) rfl rfl ?_; clear F; intro φ F
    refine sq_pure F (wt0 rfl) (pu_move rfl (F.ev rfl)) rfl rfl ?_; clear F; intro φ F
    refine sq_pure F (wt0 rfl) (pu_move rfl (F.ev rfl)) rfl rfl ?_; clear F; intro φ F
    refine sq_callX F M (wt0 rfl) rfl en87 (evc (F.ev rfl) (evc (F.ev rfl) (evc (F.ev rfl) (evc (F.ev rfl) evn)))) (i := 1) rfl (sift_any eg hL hS hn ((i).toNat) ((((b : Nat) : Int) - ((a : Nat) : Int)).toNat) a d1 (by first | assumption | (simp only [swp_size]; assumption)) (by omega) (by omega) _ _ _ (by omega) (by omega) (by omega) _ (hW.trans M.out (fun _ hg => .inr hg)) (M.at (i := 1) rfl)) rfl rfl ?_; clear F M; rintro φ ω _ e2 ⟨rfl, hz2, he2⟩ F M
    refine wpList_nil ?_
    refine nxb ?_
    refine nxq ?_
    -- region 6
    refine wp_region_lit ?_
    refine sq_pure F (wt0 rfl) (pu_move rfl (F.ev rfl)) rfl rfl ?_; clear F; intro φ F
    refine sq_pure F (wt0 rfl) (pu_sub rfl (F.ev rfl) (evk) (by omega) (by omega)) rfl rfl ?_; clear F; intro φ F
    refine sq_pure F (wt0 rfl) (pu_assign rfl (F.ev rfl)) rfl rfl ?_; clear F; intro φ F
    refine wpList_nil ?_
    exact ⟨i - 1, by omega, _, ((((((((F.nil.cons (F.get (k := 9) rfl)).cons (F.get (k := 8) rfl)).cons (F.get (k := 7) rfl)).cons (F.get (k := 6) rfl)).cons (F.get (k := 3) rfl)).cons (F.get (k := 2) rfl)).cons (F.get (k := 1) rfl)).cons (F.get (k := 0) rfl)), M, by omega, by omega, by assumption, by rw [← hp1_3, hbuild_go (i := (i + 1).toNat) (i' := i.toNat) (by omega), show (i - 1 + 1).toNat = i.toNat by omega, he2, show ((b : Int) - (a : Int)).toNat = b - a by omega]⟩

set_option maxHeartbeats 2000000 in
theorem part_any {α : Type} [Inhabited α] {lt : α → α → Bool} {g : Nat} {lb : Array Value} {sf : Nat} {sb : Array Value} {blk t n : Nat} {W0 : World} {cA : Array α → Array Value} (eg : enters Try.prog g = true) (hL : LessOK Try.prog g lb lt blk t n W0 cA) (hS : SwapOK Try.prog sf sb blk t n cA) (hn : n ≤ 1000000000) (a b pivot : Nat) (d : Array α) (hs : d.size = n) (h1 : a ≤ pivot) (h2 : pivot < b) (hb : b ≤ n) (aI bI pivotI : Int) (eaI : aI = ((a : Nat) : Int)) (ebI : bI = ((b : Nat) : Int)) (epivotI : pivotI = ((pivot : Nat) : Int)) (w : World) (hW : Out [blk] W0 w) (hB : Blk w blk t (cA d)) :
    Calls Try.prog 86 #[.agg #[.func (.func g) #[] lb, .func (.func sf) #[] sb], .int .i64 aI, .int .i64 bI, .int .i64 pivotI] w (Turns blk t cA w fun v d' => ∃ (m : Nat) (ap : Bool), v = .tuple #[.int .i64 (m : Int), .bool ap] ∧ d'.size = n ∧ Sort.partition lt d a b pivot = (m, ap, d')) := by
  subst eaI
  subst ebI
  subst epivotI
  have _ := eg
  have _ := hL
  have _ := hS
  have _ := hn
  have _ := hs
  have _ := h1
  have _ := h2
  have _ := hb
  have _ := hW
  have _ := hB
  refine enterF Try.func86 rfl 107 Try.ntmps86 [.agg #[.func (.func g) #[] lb, .func (.func sf) #[] sb], .int .i64 ((a : Nat) : Int), .int .i64 ((b : Nat) : Int), .int .i64 ((pivot : Nat) : Int)] rfl [(0, .agg #[.func (.func g) #[] lb, .func (.func sf) #[] sb]), (1, .int .i64 ((a : Nat) : Int)), (2, .int .i64 ((b : Nat) : Int)), (3, .int .i64 ((pivot : Nat) : Int))] rfl ?_
  intro φ F
  have M := Mm.start [blk] w
  replace M := M.addX (hB) (by simp) (by simp [Ent.fp] <;> omega)
  refine wp_seq ?_
  -- region 0
  refine wp_region_lit ?_
  refine sq_box F M (wt0 rfl) rfl (F.ev rfl) (cs := #[.func (.func g) #[] lb, .func (.func sf) #[] sb]) rfl rfl rfl ?_; clear F M; intro φ ω g1 F M
  refine sq_pure F (wt0 rfl) (pu_assign rfl (evk)) rfl rfl ?_; clear F; intro φ F
  refine sq_pure F (wt0 rfl) (pu_assign rfl (evk)) rfl rfl ?_; clear F; intro φ F
  refine nx ?_
  refine wp_seq ?_
  -- region 1
  refine wp_region_lit ?_
  refine sq_pure F (wt0 rfl) (pu_field rfl (F.ev rfl) fo97_1) rfl rfl ?_; clear F; intro φ F
  refine sq_rd F (wt0 rfl) (ld_cell rfl (F.ev rfl) one90 (M.rd (i := 0) rfl) rfl) rfl rfl ?_; clear F; intro φ F
  refine sq_pure F (wt0 rfl) (pu_move rfl (F.ev rfl)) rfl rfl ?_; clear F; intro φ F
  refine sq_pure F (wt0 rfl) (pu_move rfl (F.ev rfl)) rfl rfl ?_; clear F; intro φ F
  refine sq_swap F M (wt0 rfl) rfl (F.ev rfl) (evc (F.ev rfl) (evc (F.ev rfl) evn)) (i := 1) rfl (hS.at (d := d) (i := a) (j := pivot) (by first | assumption | (simp only [swp_size]; assumption)) (by omega) (by omega) (by omega) (by omega) (M.at (i := 1) rfl)) rfl rfl ?_; clear F M; intro φ ω F M
  obtain ⟨q1, hq1⟩ : ∃ q, q = swp d a pivot := ⟨_, rfl⟩
  rw [← hq1] at M
  have hq1s : q1.size = n := by rw [hq1, swp_size]; assumption
  refine nx ?_
  refine wp_seq ?_
  -- region 2
  refine wp_region_lit ?_
  refine sq_pure F (wt0 rfl) (pu_move rfl (F.ev rfl)) rfl rfl ?_; clear F; intro φ F
  refine sq_pure F (wt0 rfl) (pu_add rfl (F.ev rfl) (evk) (by omega) (by omega)) rfl rfl ?_; clear F; intro φ F
  refine sq_pure F (wt0 rfl) (pu_move rfl (F.ev rfl)) rfl rfl ?_; clear F; intro φ F
  refine sq_pure F (wt0 rfl) (pu_sub rfl (F.ev rfl) (evk) (by omega) (by omega)) rfl rfl ?_; clear F; intro φ F
  refine sq_pure F (wt0 rfl) (pu_assign rfl (F.ev rfl)) rfl rfl ?_; clear F; intro φ F
  refine sq_pure F (wt0 rfl) (pu_assign rfl (F.ev rfl)) rfl rfl ?_; clear F; intro φ F
  refine nx ?_
  refine wp_seq ?_
  refine wp_cut (fun φ' w' => ∃ i1 : Int, Fr φ' 107 [(0, .agg #[.func (.func g) #[] lb, .func (.func sf) #[] sb]), (1, .int .i64 ((a : Nat) : Int)), (2, .int .i64 ((b : Nat) : Int)), (3, .int .i64 ((pivot : Nat) : Int)), (4, .pointer (some ⟨g1, 0, none⟩)), (8, .int .i64 0), (9, .bool false), (10, .int .i64 i1), (11, .int .i64 ((b : Int) - 1))] ∧ Mm [blk] w w' [.blk g1 97 #[.func (.func g) #[] lb, .func (.func sf) #[] sb], .blk blk t (cA q1)] ∧ (((a : Int) + 1) ≤ i1) ∧ (i1 ≤ ((b : Int) - 1) + 1) ∧ (scanUp (fun x => lt x q1[a]!) q1 (b - 1) (a + 1) = i1.toNat)) ?_ ?_
  · skip
    refine wp_block ?_
    refine lp (σ := Int) (fun i1u φ' w' => Fr φ' 107 [(0, .agg #[.func (.func g) #[] lb, .func (.func sf) #[] sb]), (1, .int .i64 ((a : Nat) : Int)), (2, .int .i64 ((b : Nat) : Int)), (3, .int .i64 ((pivot : Nat) : Int)), (4, .pointer (some ⟨g1, 0, none⟩)), (8, .int .i64 0), (9, .bool false), (10, .int .i64 i1u), (11, .int .i64 ((b : Int) - 1))] ∧ Mm [blk] w w' [.blk g1 97 #[.func (.func g) #[] lb, .func (.func sf) #[] sb], .blk blk t (cA q1)] ∧ (((a : Int) + 1) ≤ i1u) ∧ (i1u ≤ ((b : Int) - 1) + 1) ∧ (scanUp (fun x => lt x q1[a]!) q1 (b - 1) i1u.toNat = scanUp (fun x => lt x q1[a]!) q1 (b - 1) (a + 1))) (fun i1u => (((b : Int) - 1) + 1 - i1u).toNat) (((a : Int) + 1)) ⟨(((((((((F.nil.cons (F.get (k := 11) rfl)).cons (F.get (k := 10) rfl)).cons (F.get (k := 9) rfl)).cons (F.get (k := 8) rfl)).cons (F.get (k := 4) rfl)).cons (F.get (k := 3) rfl)).cons (F.get (k := 2) rfl)).cons (F.get (k := 1) rfl)).cons (F.get (k := 0) rfl)), M, by omega, by omega, by first | rfl | (congr 1; omega)⟩ ?_
    clear F M
    rintro i1u φ ω ⟨F, M, hp1_0, hp1_1, hp1_2⟩
    refine wp_seq ?_
    refine wp_seq ?_
    -- region 3
    refine wp_region_lit ?_
    refine sq_pure F (wt0 rfl) (pu_move rfl (F.ev rfl)) rfl rfl ?_; clear F; intro φ F
    refine sq_pure F (wt0 rfl) (pu_move rfl (F.ev rfl)) rfl rfl ?_; clear F; intro φ F
    refine sq_pure F (wt0 rfl) (pu_leq rfl (F.ev rfl) (F.ev rfl)) rfl rfl ?_; clear F; intro φ F
    refine sq_pure F (wt0 rfl) (pu_move rfl (F.ev rfl)) rfl rfl ?_; clear F; intro φ F
    cases hs2 : (decide (i1u ≤ ((b : Int) - 1)))
    · rw [hs2] at F
      have hs2i := of_decide_eq_false hs2
      refine sq_skip F (wtn F rfl rfl rfl rfl rfl) rfl rfl ?_; clear F; intro φ F
      refine sq_skip F (wtn F rfl rfl rfl rfl rfl) rfl rfl ?_; clear F; intro φ F
      refine sq_skip F (wtn F rfl rfl rfl rfl rfl) rfl rfl ?_; clear F; intro φ F
      refine sq_skip F (wtn F rfl rfl rfl rfl rfl) rfl rfl ?_; clear F; intro φ F
      refine sq_skip F (wtn F rfl rfl rfl rfl rfl) rfl rfl ?_; clear F; intro φ F
      refine sq_pure F (wt0 rfl) (pu_pickf rfl (F.ev rfl) (evk)) rfl rfl ?_; clear F; intro φ F
      refine nx ?_
      refine wp_cond_false (F.ev rfl) ?_
      refine wp_exit ?_
      refine nxe ?_
      refine nxe ?_
      refine nxm ?_
      exact ⟨i1u, (((((((((F.nil.cons (F.get (k := 11) rfl)).cons (F.get (k := 10) rfl)).cons (F.get (k := 9) rfl)).cons (F.get (k := 8) rfl)).cons (F.get (k := 4) rfl)).cons (F.get (k := 3) rfl)).cons (F.get (k := 2) rfl)).cons (F.get (k := 1) rfl)).cons (F.get (k := 0) rfl)), M, by omega, by omega, by rw [← hp1_2]; exact scanUp_stop (.inl (by omega))⟩
    · rw [hs2] at F
      have hs2i := of_decide_eq_true hs2
      refine sq_pure F (wt1 F rfl rfl rfl rfl rfl) (pu_field rfl (F.ev rfl) fo97_0) rfl rfl ?_; clear F; intro φ F
      refine sq_rd F (wt1 F rfl rfl rfl rfl rfl) (ld_cell rfl (F.ev rfl) one83 (M.rd (i := 0) rfl) rfl) rfl rfl ?_; clear F; intro φ F
      refine sq_pure F (wt1 F rfl rfl rfl rfl rfl) (pu_move rfl (F.ev rfl)) rfl rfl ?_; clear F; intro φ F
      refine sq_pure F (wt1 F rfl rfl rfl rfl rfl) (pu_move rfl (F.ev rfl)) rfl rfl ?_; clear F; intro φ F
      refine sq_callV F M (wt1 F rfl rfl rfl rfl rfl) rfl (F.ev rfl) eg (evc (F.ev rfl) (evc (F.ev rfl) evn)) (hL.at (d := q1) (i := (i1u).toNat) (j := a) (by first | assumption | (simp only [swp_size]; assumption)) (by omega) (by omega) (by omega) (by omega) (hW.trans M.out (fun _ hg => .inr hg)) (M.at (i := 1) rfl)) rfl rfl ?_; clear F M; intro φ ω F M
      refine sq_pure F (wt0 rfl) (pu_pickt rfl (F.ev rfl) (F.ev rfl)) rfl rfl ?_; clear F; intro φ F
      refine nx ?_
      cases hs3 : (lt q1[(i1u).toNat]! q1[a]!)
      · rw [hs3] at F
        refine wp_cond_false (F.ev rfl) ?_
        refine wp_exit ?_
        refine nxe ?_
        refine nxe ?_
        refine nxm ?_
        exact ⟨i1u, (((((((((F.nil.cons (F.get (k := 11) rfl)).cons (F.get (k := 10) rfl)).cons (F.get (k := 9) rfl)).cons (F.get (k := 8) rfl)).cons (F.get (k := 4) rfl)).cons (F.get (k := 3) rfl)).cons (F.get (k := 2) rfl)).cons (F.get (k := 1) rfl)).cons (F.get (k := 0) rfl)), M, by omega, by omega, by rw [← hp1_2]; exact scanUp_stop (.inr (by simp [hs3]))⟩
      · rw [hs3] at F
        refine wp_cond_true (F.ev rfl) ?_
        refine wp_skip ?_
        refine nxq ?_
        refine wp_block ?_
        -- region 4
        refine wp_region_lit ?_
        refine sq_pure F (wt0 rfl) (pu_move rfl (F.ev rfl)) rfl rfl ?_; clear F; intro φ F
        refine sq_pure F (wt0 rfl) (pu_add rfl (F.ev rfl) (evk) (by omega) (by omega)) rfl rfl ?_; clear F; intro φ F
        refine sq_pure F (wt0 rfl) (pu_assign rfl (F.ev rfl)) rfl rfl ?_; clear F; intro φ F
        refine wpList_nil ?_
        refine nxb ?_
        exact ⟨i1u + 1, by omega, (((((((((F.nil.cons (F.get (k := 11) rfl)).cons (F.get (k := 10) rfl)).cons (F.get (k := 9) rfl)).cons (F.get (k := 8) rfl)).cons (F.get (k := 4) rfl)).cons (F.get (k := 3) rfl)).cons (F.get (k := 2) rfl)).cons (F.get (k := 1) rfl)).cons (F.get (k := 0) rfl)), M, by omega, by omega, by rw [← hp1_2]; exact (scanUp_go (i := i1u.toNat) (i' := (i1u + 1).toNat) (by omega) hs3 (by omega)).symm⟩
  · skip
    clear F M
    rintro φ ω ⟨i1, F, M, hp4_0, hp4_1, hp4_2⟩
    refine nxq ?_
    refine wp_seq ?_
    refine wp_cut (fun φ' w' => ∃ j1 : Int, Fr φ' 107 [(0, .agg #[.func (.func g) #[] lb, .func (.func sf) #[] sb]), (1, .int .i64 ((a : Nat) : Int)), (2, .int .i64 ((b : Nat) : Int)), (3, .int .i64 ((pivot : Nat) : Int)), (4, .pointer (some ⟨g1, 0, none⟩)), (8, .int .i64 0), (9, .bool false), (10, .int .i64 i1), (11, .int .i64 j1)] ∧ Mm [blk] w w' [.blk g1 97 #[.func (.func g) #[] lb, .func (.func sf) #[] sb], .blk blk t (cA q1)] ∧ (i1 - 1 ≤ j1) ∧ (j1 ≤ ((b : Int) - 1)) ∧ (scanDown (fun x => !lt x q1[a]!) q1 i1.toNat (b - 1) = j1.toNat)) ?_ ?_
    · skip
      refine wp_block ?_
      refine lp (σ := Int) (fun j1u φ' w' => Fr φ' 107 [(0, .agg #[.func (.func g) #[] lb, .func (.func sf) #[] sb]), (1, .int .i64 ((a : Nat) : Int)), (2, .int .i64 ((b : Nat) : Int)), (3, .int .i64 ((pivot : Nat) : Int)), (4, .pointer (some ⟨g1, 0, none⟩)), (8, .int .i64 0), (9, .bool false), (10, .int .i64 i1), (11, .int .i64 j1u)] ∧ Mm [blk] w w' [.blk g1 97 #[.func (.func g) #[] lb, .func (.func sf) #[] sb], .blk blk t (cA q1)] ∧ (i1 - 1 ≤ j1u) ∧ (j1u ≤ ((b : Int) - 1)) ∧ (scanDown (fun x => !lt x q1[a]!) q1 i1.toNat j1u.toNat = scanDown (fun x => !lt x q1[a]!) q1 i1.toNat (b - 1))) (fun j1u => (j1u + 1 - i1).toNat) (((b : Int) - 1)) ⟨(((((((((F.nil.cons (F.get (k := 11) rfl)).cons (F.get (k := 10) rfl)).cons (F.get (k := 9) rfl)).cons (F.get (k := 8) rfl)).cons (F.get (k := 4) rfl)).cons (F.get (k := 3) rfl)).cons (F.get (k := 2) rfl)).cons (F.get (k := 1) rfl)).cons (F.get (k := 0) rfl)), M, by omega, by omega, by first | rfl | (congr 1; omega)⟩ ?_
      clear F M
      rintro j1u φ ω ⟨F, M, hp5_0, hp5_1, hp5_2⟩
      refine wp_seq ?_
      refine wp_seq ?_
      -- region 5
      refine wp_region_lit ?_
      refine sq_pure F (wt0 rfl) (pu_move rfl (F.ev rfl)) rfl rfl ?_; clear F; intro φ F
      refine sq_pure F (wt0 rfl) (pu_move rfl (F.ev rfl)) rfl rfl ?_; clear F; intro φ F
      refine sq_pure F (wt0 rfl) (pu_leq rfl (F.ev rfl) (F.ev rfl)) rfl rfl ?_; clear F; intro φ F
      refine sq_pure F (wt0 rfl) (pu_move rfl (F.ev rfl)) rfl rfl ?_; clear F; intro φ F
      cases hs6 : (decide (i1 ≤ j1u))
      · rw [hs6] at F
        have hs6i := of_decide_eq_false hs6
        refine sq_skip F (wtn F rfl rfl rfl rfl rfl) rfl rfl ?_; clear F; intro φ F
        refine sq_skip F (wtn F rfl rfl rfl rfl rfl) rfl rfl ?_; clear F; intro φ F
        refine sq_skip F (wtn F rfl rfl rfl rfl rfl) rfl rfl ?_; clear F; intro φ F
        refine sq_skip F (wtn F rfl rfl rfl rfl rfl) rfl rfl ?_; clear F; intro φ F
        refine sq_skip F (wtn F rfl rfl rfl rfl rfl) rfl rfl ?_; clear F; intro φ F
        refine sq_skip F (wtn F rfl rfl rfl rfl rfl) rfl rfl ?_; clear F; intro φ F
        refine sq_pure F (wt0 rfl) (pu_pickf rfl (F.ev rfl) (evk)) rfl rfl ?_; clear F; intro φ F
        refine nx ?_
        refine wp_cond_false (F.ev rfl) ?_
        refine wp_exit ?_
        refine nxe ?_
        refine nxe ?_
        refine nxm ?_
        exact ⟨j1u, (((((((((F.nil.cons (F.get (k := 11) rfl)).cons (F.get (k := 10) rfl)).cons (F.get (k := 9) rfl)).cons (F.get (k := 8) rfl)).cons (F.get (k := 4) rfl)).cons (F.get (k := 3) rfl)).cons (F.get (k := 2) rfl)).cons (F.get (k := 1) rfl)).cons (F.get (k := 0) rfl)), M, by omega, by omega, by rw [← hp5_2]; exact scanDown_stop (.inl (by omega))⟩
      · rw [hs6] at F
        have hs6i := of_decide_eq_true hs6
        refine sq_pure F (wt1 F rfl rfl rfl rfl rfl) (pu_field rfl (F.ev rfl) fo97_0) rfl rfl ?_; clear F; intro φ F
        refine sq_rd F (wt1 F rfl rfl rfl rfl rfl) (ld_cell rfl (F.ev rfl) one83 (M.rd (i := 0) rfl) rfl) rfl rfl ?_; clear F; intro φ F
        refine sq_pure F (wt1 F rfl rfl rfl rfl rfl) (pu_move rfl (F.ev rfl)) rfl rfl ?_; clear F; intro φ F
        refine sq_pure F (wt1 F rfl rfl rfl rfl rfl) (pu_move rfl (F.ev rfl)) rfl rfl ?_; clear F; intro φ F
        refine sq_callV F M (wt1 F rfl rfl rfl rfl rfl) rfl (F.ev rfl) eg (evc (F.ev rfl) (evc (F.ev rfl) evn)) (hL.at (d := q1) (i := (j1u).toNat) (j := a) (by first | assumption | (simp only [swp_size]; assumption)) (by omega) (by omega) (by omega) (by omega) (hW.trans M.out (fun _ hg => .inr hg)) (M.at (i := 1) rfl)) rfl rfl ?_; clear F M; intro φ ω F M
        cases hs7 : (lt q1[(j1u).toNat]! q1[a]!)
        · rw [hs7] at F
          refine sq_pure F (wt1 F rfl rfl rfl rfl rfl) (pu_not rfl (F.ev rfl)) rfl rfl ?_; clear F; intro φ F
          rw [show (!false) = true from rfl] at F
          refine sq_pure F (wt0 rfl) (pu_pickt rfl (F.ev rfl) (F.ev rfl)) rfl rfl ?_; clear F; intro φ F
          refine nx ?_
          refine wp_cond_true (F.ev rfl) ?_
          refine wp_skip ?_
          refine nxq ?_
          refine wp_block ?_
          -- region 6
          refine wp_region_lit ?_
          refine sq_pure F (wt0 rfl) (pu_move rfl (F.ev rfl)) rfl rfl ?_; clear F; intro φ F
          refine sq_pure F (wt0 rfl) (pu_sub rfl (F.ev rfl) (evk) (by omega) (by omega)) rfl rfl ?_; clear F; intro φ F
          refine sq_pure F (wt0 rfl) (pu_assign rfl (F.ev rfl)) rfl rfl ?_; clear F; intro φ F
          refine wpList_nil ?_
          refine nxb ?_
          exact ⟨j1u - 1, by omega, (((((((((F.nil.cons (F.get (k := 11) rfl)).cons (F.get (k := 10) rfl)).cons (F.get (k := 9) rfl)).cons (F.get (k := 8) rfl)).cons (F.get (k := 4) rfl)).cons (F.get (k := 3) rfl)).cons (F.get (k := 2) rfl)).cons (F.get (k := 1) rfl)).cons (F.get (k := 0) rfl)), M, by omega, by omega, by rw [← hp5_2]; exact (scanDown_go (j := j1u.toNat) (j' := (j1u - 1).toNat) (by omega) (by simp [hs7]) (by omega)).symm⟩
        · rw [hs7] at F
          refine sq_pure F (wt1 F rfl rfl rfl rfl rfl) (pu_not rfl (F.ev rfl)) rfl rfl ?_; clear F; intro φ F
          rw [show (!true) = false from rfl] at F
          refine sq_pure F (wt0 rfl) (pu_pickt rfl (F.ev rfl) (F.ev rfl)) rfl rfl ?_; clear F; intro φ F
          refine nx ?_
          refine wp_cond_false (F.ev rfl) ?_
          refine wp_exit ?_
          refine nxe ?_
          refine nxe ?_
          refine nxm ?_
          exact ⟨j1u, (((((((((F.nil.cons (F.get (k := 11) rfl)).cons (F.get (k := 10) rfl)).cons (F.get (k := 9) rfl)).cons (F.get (k := 8) rfl)).cons (F.get (k := 4) rfl)).cons (F.get (k := 3) rfl)).cons (F.get (k := 2) rfl)).cons (F.get (k := 1) rfl)).cons (F.get (k := 0) rfl)), M, by omega, by omega, by rw [← hp5_2]; exact scanDown_stop (.inr (by simp [hs7]))⟩
    · skip
      clear F M
      rintro φ ω ⟨j1, F, M, hp8_0, hp8_1, hp8_2⟩
      refine nxq ?_
      refine wp_seq ?_
      refine wp_seq ?_
      -- region 7
      refine wp_region_lit ?_
      refine sq_pure F (wt0 rfl) (pu_move rfl (F.ev rfl)) rfl rfl ?_; clear F; intro φ F
      refine sq_pure F (wt0 rfl) (pu_move rfl (F.ev rfl)) rfl rfl ?_; clear F; intro φ F
      refine sq_pure F (wt0 rfl) (pu_gtr rfl (F.ev rfl) (F.ev rfl)) rfl rfl ?_; clear F; intro φ F
      refine nx ?_
      cases hs9 : (decide (j1 < i1))
      · rw [hs9] at F
        have hs9i := of_decide_eq_false hs9
        refine wp_cond_false (F.ev rfl) ?_
        refine wp_skip ?_
        refine nxq ?_
        refine wp_seq ?_
        -- region 10
        refine wp_region_lit ?_
        refine sq_pure F (wt0 rfl) (pu_field rfl (F.ev rfl) fo97_1) rfl rfl ?_; clear F; intro φ F
        refine sq_rd F (wt0 rfl) (ld_cell rfl (F.ev rfl) one90 (M.rd (i := 0) rfl) rfl) rfl rfl ?_; clear F; intro φ F
        refine sq_pure F (wt0 rfl) (pu_move rfl (F.ev rfl)) rfl rfl ?_; clear F; intro φ F
        refine sq_pure F (wt0 rfl) (pu_move rfl (F.ev rfl)) rfl rfl ?_; clear F; intro φ F
        refine sq_swap F M (wt0 rfl) rfl (F.ev rfl) (evc (F.ev rfl) (evc (F.ev rfl) evn)) (i := 1) rfl (hS.at (d := q1) (i := (i1).toNat) (j := (j1).toNat) (by first | assumption | (simp only [swp_size]; assumption)) (by omega) (by omega) (by omega) (by omega) (M.at (i := 1) rfl)) rfl rfl ?_; clear F M; intro φ ω F M
        obtain ⟨q2, hq2⟩ : ∃ q, q = swp q1 ((i1).toNat) ((j1).toNat) := ⟨_, rfl⟩
        rw [← hq2] at M
        have hq2s : q2.size = n := by rw [hq2, swp_size]; assumption
        refine nx ?_
        refine wp_seq ?_
        -- region 11
        refine wp_region_lit ?_
        refine sq_pure F (wt0 rfl) (pu_move rfl (F.ev rfl)) rfl rfl ?_; clear F; intro φ F
        refine sq_pure F (wt0 rfl) (pu_add rfl (F.ev rfl) (evk) (by omega) (by omega)) rfl rfl ?_; clear F; intro φ F
        refine sq_pure F (wt0 rfl) (pu_assign rfl (F.ev rfl)) rfl rfl ?_; clear F; intro φ F
        refine nx ?_
        refine wp_seq ?_
        -- region 12
        refine wp_region_lit ?_
        refine sq_pure F (wt0 rfl) (pu_move rfl (F.ev rfl)) rfl rfl ?_; clear F; intro φ F
        refine sq_pure F (wt0 rfl) (pu_sub rfl (F.ev rfl) (evk) (by omega) (by omega)) rfl rfl ?_; clear F; intro φ F
        refine sq_pure F (wt0 rfl) (pu_assign rfl (F.ev rfl)) rfl rfl ?_; clear F; intro φ F
        refine nx ?_
        refine wp_seq ?_
        refine wp_block ?_
        refine lp (σ := Int) (fun i2 φ' w' => ∃ j2 : Int, ∃ d1 : Array α, Fr φ' 107 [(0, .agg #[.func (.func g) #[] lb, .func (.func sf) #[] sb]), (1, .int .i64 ((a : Nat) : Int)), (2, .int .i64 ((b : Nat) : Int)), (3, .int .i64 ((pivot : Nat) : Int)), (4, .pointer (some ⟨g1, 0, none⟩)), (8, .int .i64 0), (9, .bool false), (10, .int .i64 i2), (11, .int .i64 j2)] ∧ Mm [blk] w w' [.blk g1 97 #[.func (.func g) #[] lb, .func (.func sf) #[] sb], .blk blk t (cA d1)] ∧ ((a : Int) + 1 < i2) ∧ (j2 < (b : Int) - 1) ∧ (i2 - 1 ≤ j2 + 1) ∧ ((a : Int) ≤ j2) ∧ (d1.size = n) ∧ (partLoop lt a i2.toNat j2.toNat d1 = partLoop lt a (i1.toNat + 1) (j1.toNat - 1) q2)) (fun i2 => ((b : Int) + 2 - i2).toNat) (i1 + 1) ⟨j1 - 1, q2, (((((((((F.nil.cons (F.get (k := 11) rfl)).cons (F.get (k := 10) rfl)).cons (F.get (k := 9) rfl)).cons (F.get (k := 8) rfl)).cons (F.get (k := 4) rfl)).cons (F.get (k := 3) rfl)).cons (F.get (k := 2) rfl)).cons (F.get (k := 1) rfl)).cons (F.get (k := 0) rfl)), M, by omega, by omega, by omega, by omega, by assumption, by congr 1 <;> first | rfl | omega⟩ ?_
        clear F M
        rintro i2 φ ω ⟨j2, d1, F, M, hp10_0, hp10_1, hp10_2, hp10_3, hp10_4, hp10_5⟩
        refine wp_block ?_
        refine wp_seq ?_
        refine wp_cut (fun φ' w' => ∃ i3 : Int, Fr φ' 107 [(0, .agg #[.func (.func g) #[] lb, .func (.func sf) #[] sb]), (1, .int .i64 ((a : Nat) : Int)), (2, .int .i64 ((b : Nat) : Int)), (3, .int .i64 ((pivot : Nat) : Int)), (4, .pointer (some ⟨g1, 0, none⟩)), (8, .int .i64 0), (9, .bool false), (10, .int .i64 i3), (11, .int .i64 j2)] ∧ Mm [blk] w w' [.blk g1 97 #[.func (.func g) #[] lb, .func (.func sf) #[] sb], .blk blk t (cA d1)] ∧ (i2 ≤ i3) ∧ (i3 ≤ j2 + 2) ∧ (scanUp (fun x => lt x d1[a]!) d1 j2.toNat i2.toNat = i3.toNat)) ?_ ?_
        · skip
          refine wp_block ?_
          refine lp (σ := Int) (fun i3u φ' w' => Fr φ' 107 [(0, .agg #[.func (.func g) #[] lb, .func (.func sf) #[] sb]), (1, .int .i64 ((a : Nat) : Int)), (2, .int .i64 ((b : Nat) : Int)), (3, .int .i64 ((pivot : Nat) : Int)), (4, .pointer (some ⟨g1, 0, none⟩)), (8, .int .i64 0), (9, .bool false), (10, .int .i64 i3u), (11, .int .i64 j2)] ∧ Mm [blk] w w' [.blk g1 97 #[.func (.func g) #[] lb, .func (.func sf) #[] sb], .blk blk t (cA d1)] ∧ (i2 ≤ i3u) ∧ (i3u ≤ j2 + 2) ∧ (scanUp (fun x => lt x d1[a]!) d1 j2.toNat i3u.toNat = scanUp (fun x => lt x d1[a]!) d1 j2.toNat i2.toNat)) (fun i3u => (j2 + 1 - i3u).toNat) (i2) ⟨(((((((((F.nil.cons (F.get (k := 11) rfl)).cons (F.get (k := 10) rfl)).cons (F.get (k := 9) rfl)).cons (F.get (k := 8) rfl)).cons (F.get (k := 4) rfl)).cons (F.get (k := 3) rfl)).cons (F.get (k := 2) rfl)).cons (F.get (k := 1) rfl)).cons (F.get (k := 0) rfl)), M, by omega, by omega, by first | rfl | (congr 1; omega)⟩ ?_
          clear F M
          rintro i3u φ ω ⟨F, M, hp11_0, hp11_1, hp11_2⟩
          refine wp_seq ?_
          refine wp_seq ?_
          -- region 13
          refine wp_region_lit ?_
          refine sq_pure F (wt0 rfl) (pu_move rfl (F.ev rfl)) rfl rfl ?_; clear F; intro φ F
          refine sq_pure F (wt0 rfl) (pu_move rfl (F.ev rfl)) rfl rfl ?_; clear F; intro φ F
          refine sq_pure F (wt0 rfl) (pu_leq rfl (F.ev rfl) (F.ev rfl)) rfl rfl ?_; clear F; intro φ F
          refine sq_pure F (wt0 rfl) (pu_move rfl (F.ev rfl)) rfl rfl ?_; clear F; intro φ F
          cases hs12 : (decide (i3u ≤ j2))
          · rw [hs12] at F
            have hs12i := of_decide_eq_false hs12
            refine sq_skip F (wtn F rfl rfl rfl rfl rfl) rfl rfl ?_; clear F; intro φ F
            refine sq_skip F (wtn F rfl rfl rfl rfl rfl) rfl rfl ?_; clear F; intro φ F
            refine sq_skip F (wtn F rfl rfl rfl rfl rfl) rfl rfl ?_; clear F; intro φ F
            refine sq_skip F (wtn F rfl rfl rfl rfl rfl) rfl rfl ?_; clear F; intro φ F
            refine sq_skip F (wtn F rfl rfl rfl rfl rfl) rfl rfl ?_; clear F; intro φ F
            refine sq_pure F (wt0 rfl) (pu_pickf rfl (F.ev rfl) (evk)) rfl rfl ?_; clear F; intro φ F
            refine nx ?_
            refine wp_cond_false (F.ev rfl) ?_
            refine wp_exit ?_
            refine nxe ?_
            refine nxe ?_
            refine nxm ?_
            exact ⟨i3u, (((((((((F.nil.cons (F.get (k := 11) rfl)).cons (F.get (k := 10) rfl)).cons (F.get (k := 9) rfl)).cons (F.get (k := 8) rfl)).cons (F.get (k := 4) rfl)).cons (F.get (k := 3) rfl)).cons (F.get (k := 2) rfl)).cons (F.get (k := 1) rfl)).cons (F.get (k := 0) rfl)), M, by omega, by omega, by rw [← hp11_2]; exact scanUp_stop (.inl (by omega))⟩
          · rw [hs12] at F
            have hs12i := of_decide_eq_true hs12
            refine sq_pure F (wt1 F rfl rfl rfl rfl rfl) (pu_field rfl (F.ev rfl) fo97_0) rfl rfl ?_; clear F; intro φ F
            refine sq_rd F (wt1 F rfl rfl rfl rfl rfl) (ld_cell rfl (F.ev rfl) one83 (M.rd (i := 0) rfl) rfl) rfl rfl ?_; clear F; intro φ F
            refine sq_pure F (wt1 F rfl rfl rfl rfl rfl) (pu_move rfl (F.ev rfl)) rfl rfl ?_; clear F; intro φ F
            refine sq_pure F (wt1 F rfl rfl rfl rfl rfl) (pu_move rfl (F.ev rfl)) rfl rfl ?_; clear F; intro φ F
            refine sq_callV F M (wt1 F rfl rfl rfl rfl rfl) rfl (F.ev rfl) eg (evc (F.ev rfl) (evc (F.ev rfl) evn)) (hL.at (d := d1) (i := (i3u).toNat) (j := a) (by first | assumption | (simp only [swp_size]; assumption)) (by omega) (by omega) (by omega) (by omega) (hW.trans M.out (fun _ hg => .inr hg)) (M.at (i := 1) rfl)) rfl rfl ?_; clear F M; intro φ ω F M
            refine sq_pure F (wt0 rfl) (pu_pickt rfl (F.ev rfl) (F.ev rfl)) rfl rfl ?_; clear F; intro φ F
            refine nx ?_
            cases hs13 : (lt d1[(i3u).toNat]! d1[a]!)
            · rw [hs13] at F
              refine wp_cond_false (F.ev rfl) ?_
              refine wp_exit ?_
              refine nxe ?_
              refine nxe ?_
              refine nxm ?_
              exact ⟨i3u, (((((((((F.nil.cons (F.get (k := 11) rfl)).cons (F.get (k := 10) rfl)).cons (F.get (k := 9) rfl)).cons (F.get (k := 8) rfl)).cons (F.get (k := 4) rfl)).cons (F.get (k := 3) rfl)).cons (F.get (k := 2) rfl)).cons (F.get (k := 1) rfl)).cons (F.get (k := 0) rfl)), M, by omega, by omega, by rw [← hp11_2]; exact scanUp_stop (.inr (by simp [hs13]))⟩
            · rw [hs13] at F
              refine wp_cond_true (F.ev rfl) ?_
              refine wp_skip ?_
              refine nxq ?_
              refine wp_block ?_
              -- region 14
              refine wp_region_lit ?_
              refine sq_pure F (wt0 rfl) (pu_move rfl (F.ev rfl)) rfl rfl ?_; clear F; intro φ F
              refine sq_pure F (wt0 rfl) (pu_add rfl (F.ev rfl) (evk) (by omega) (by omega)) rfl rfl ?_; clear F; intro φ F
              refine sq_pure F (wt0 rfl) (pu_assign rfl (F.ev rfl)) rfl rfl ?_; clear F; intro φ F
              refine wpList_nil ?_
              refine nxb ?_
              exact ⟨i3u + 1, by omega, (((((((((F.nil.cons (F.get (k := 11) rfl)).cons (F.get (k := 10) rfl)).cons (F.get (k := 9) rfl)).cons (F.get (k := 8) rfl)).cons (F.get (k := 4) rfl)).cons (F.get (k := 3) rfl)).cons (F.get (k := 2) rfl)).cons (F.get (k := 1) rfl)).cons (F.get (k := 0) rfl)), M, by omega, by omega, by rw [← hp11_2]; exact (scanUp_go (i := i3u.toNat) (i' := (i3u + 1).toNat) (by omega) hs13 (by omega)).symm⟩
        · skip
          clear F M
          rintro φ ω ⟨i3, F, M, hp14_0, hp14_1, hp14_2⟩
          refine nxq ?_
          refine wp_seq ?_
          refine wp_cut (fun φ' w' => ∃ j3 : Int, Fr φ' 107 [(0, .agg #[.func (.func g) #[] lb, .func (.func sf) #[] sb]), (1, .int .i64 ((a : Nat) : Int)), (2, .int .i64 ((b : Nat) : Int)), (3, .int .i64 ((pivot : Nat) : Int)), (4, .pointer (some ⟨g1, 0, none⟩)), (8, .int .i64 0), (9, .bool false), (10, .int .i64 i3), (11, .int .i64 j3)] ∧ Mm [blk] w w' [.blk g1 97 #[.func (.func g) #[] lb, .func (.func sf) #[] sb], .blk blk t (cA d1)] ∧ (i3 - 2 ≤ j3) ∧ (j3 ≤ j2) ∧ (scanDown (fun x => !lt x d1[a]!) d1 i3.toNat j2.toNat = j3.toNat)) ?_ ?_
          · skip
            refine wp_block ?_
            refine lp (σ := Int) (fun j3u φ' w' => Fr φ' 107 [(0, .agg #[.func (.func g) #[] lb, .func (.func sf) #[] sb]), (1, .int .i64 ((a : Nat) : Int)), (2, .int .i64 ((b : Nat) : Int)), (3, .int .i64 ((pivot : Nat) : Int)), (4, .pointer (some ⟨g1, 0, none⟩)), (8, .int .i64 0), (9, .bool false), (10, .int .i64 i3), (11, .int .i64 j3u)] ∧ Mm [blk] w w' [.blk g1 97 #[.func (.func g) #[] lb, .func (.func sf) #[] sb], .blk blk t (cA d1)] ∧ (i3 - 2 ≤ j3u) ∧ (j3u ≤ j2) ∧ (scanDown (fun x => !lt x d1[a]!) d1 i3.toNat j3u.toNat = scanDown (fun x => !lt x d1[a]!) d1 i3.toNat j2.toNat)) (fun j3u => (j3u + 1 - i3).toNat) (j2) ⟨(((((((((F.nil.cons (F.get (k := 11) rfl)).cons (F.get (k := 10) rfl)).cons (F.get (k := 9) rfl)).cons (F.get (k := 8) rfl)).cons (F.get (k := 4) rfl)).cons (F.get (k := 3) rfl)).cons (F.get (k := 2) rfl)).cons (F.get (k := 1) rfl)).cons (F.get (k := 0) rfl)), M, by omega, by omega, by first | rfl | (congr 1; omega)⟩ ?_
            clear F M
            rintro j3u φ ω ⟨F, M, hp15_0, hp15_1, hp15_2⟩
            refine wp_seq ?_
            refine wp_seq ?_
            -- region 15
            refine wp_region_lit ?_
            refine sq_pure F (wt0 rfl) (pu_move rfl (F.ev rfl)) rfl rfl ?_; clear F; intro φ F
            refine sq_pure F (wt0 rfl) (pu_move rfl (F.ev rfl)) rfl rfl ?_; clear F; intro φ F
            refine sq_pure F (wt0 rfl) (pu_leq rfl (F.ev rfl) (F.ev rfl)) rfl rfl ?_; clear F; intro φ F
            refine sq_pure F (wt0 rfl) (pu_move rfl (F.ev rfl)) rfl rfl ?_; clear F; intro φ F
            cases hs16 : (decide (i3 ≤ j3u))
            · rw [hs16] at F
              have hs16i := of_decide_eq_false hs16
              refine sq_skip F (wtn F rfl rfl rfl rfl rfl) rfl rfl ?_; clear F; intro φ F
              refine sq_skip F (wtn F rfl rfl rfl rfl rfl) rfl rfl ?_; clear F; intro φ F
              refine sq_skip F (wtn F rfl rfl rfl rfl rfl) rfl rfl ?_; clear F; intro φ F
              refine sq_skip F (wtn F rfl rfl rfl rfl rfl) rfl rfl ?_; clear F; intro φ F
              refine sq_skip F (wtn F rfl rfl rfl rfl rfl) rfl rfl ?_; clear F; intro φ F
              refine sq_skip F (wtn F rfl rfl rfl rfl rfl) rfl rfl ?_; clear F; intro φ F
              refine sq_pure F (wt0 rfl) (pu_pickf rfl (F.ev rfl) (evk)) rfl rfl ?_; clear F; intro φ F
              refine nx ?_
              refine wp_cond_false (F.ev rfl) ?_
              refine wp_exit ?_
              refine nxe ?_
              refine nxe ?_
              refine nxm ?_
              exact ⟨j3u, (((((((((F.nil.cons (F.get (k := 11) rfl)).cons (F.get (k := 10) rfl)).cons (F.get (k := 9) rfl)).cons (F.get (k := 8) rfl)).cons (F.get (k := 4) rfl)).cons (F.get (k := 3) rfl)).cons (F.get (k := 2) rfl)).cons (F.get (k := 1) rfl)).cons (F.get (k := 0) rfl)), M, by omega, by omega, by rw [← hp15_2]; exact scanDown_stop (.inl (by omega))⟩
            · rw [hs16] at F
              have hs16i := of_decide_eq_true hs16
              refine sq_pure F (wt1 F rfl rfl rfl rfl rfl) (pu_field rfl (F.ev rfl) fo97_0) rfl rfl ?_; clear F; intro φ F
              refine sq_rd F (wt1 F rfl rfl rfl rfl rfl) (ld_cell rfl (F.ev rfl) one83 (M.rd (i := 0) rfl) rfl) rfl rfl ?_; clear F; intro φ F
              refine sq_pure F (wt1 F rfl rfl rfl rfl rfl) (pu_move rfl (F.ev rfl)) rfl rfl ?_; clear F; intro φ F
              refine sq_pure F (wt1 F rfl rfl rfl rfl rfl) (pu_move rfl (F.ev rfl)) rfl rfl ?_; clear F; intro φ F
              refine sq_callV F M (wt1 F rfl rfl rfl rfl rfl) rfl (F.ev rfl) eg (evc (F.ev rfl) (evc (F.ev rfl) evn)) (hL.at (d := d1) (i := (j3u).toNat) (j := a) (by first | assumption | (simp only [swp_size]; assumption)) (by omega) (by omega) (by omega) (by omega) (hW.trans M.out (fun _ hg => .inr hg)) (M.at (i := 1) rfl)) rfl rfl ?_; clear F M; intro φ ω F M
              cases hs17 : (lt d1[(j3u).toNat]! d1[a]!)
              · rw [hs17] at F
                refine sq_pure F (wt1 F rfl rfl rfl rfl rfl) (pu_not rfl (F.ev rfl)) rfl rfl ?_; clear F; intro φ F
                rw [show (!false) = true from rfl] at F
                refine sq_pure F (wt0 rfl) (pu_pickt rfl (F.ev rfl) (F.ev rfl)) rfl rfl ?_; clear F; intro φ F
                refine nx ?_
                refine wp_cond_true (F.ev rfl) ?_
                refine wp_skip ?_
                refine nxq ?_
                refine wp_block ?_
                -- region 16
                refine wp_region_lit ?_
                refine sq_pure F (wt0 rfl) (pu_move rfl (F.ev rfl)) rfl rfl ?_; clear F; intro φ F
                refine sq_pure F (wt0 rfl) (pu_sub rfl (F.ev rfl) (evk) (by omega) (by omega)) rfl rfl ?_; clear F; intro φ F
                refine sq_pure F (wt0 rfl) (pu_assign rfl (F.ev rfl)) rfl rfl ?_; clear F; intro φ F
                refine wpList_nil ?_
                refine nxb ?_
                exact ⟨j3u - 1, by omega, (((((((((F.nil.cons (F.get (k := 11) rfl)).cons (F.get (k := 10) rfl)).cons (F.get (k := 9) rfl)).cons (F.get (k := 8) rfl)).cons (F.get (k := 4) rfl)).cons (F.get (k := 3) rfl)).cons (F.get (k := 2) rfl)).cons (F.get (k := 1) rfl)).cons (F.get (k := 0) rfl)), M, by omega, by omega, by rw [← hp15_2]; exact (scanDown_go (j := j3u.toNat) (j' := (j3u - 1).toNat) (by omega) (by simp [hs17]) (by omega)).symm⟩
              · rw [hs17] at F
                refine sq_pure F (wt1 F rfl rfl rfl rfl rfl) (pu_not rfl (F.ev rfl)) rfl rfl ?_; clear F; intro φ F
                rw [show (!true) = false from rfl] at F
                refine sq_pure F (wt0 rfl) (pu_pickt rfl (F.ev rfl) (F.ev rfl)) rfl rfl ?_; clear F; intro φ F
                refine nx ?_
                refine wp_cond_false (F.ev rfl) ?_
                refine wp_exit ?_
                refine nxe ?_
                refine nxe ?_
                refine nxm ?_
                exact ⟨j3u, (((((((((F.nil.cons (F.get (k := 11) rfl)).cons (F.get (k := 10) rfl)).cons (F.get (k := 9) rfl)).cons (F.get (k := 8) rfl)).cons (F.get (k := 4) rfl)).cons (F.get (k := 3) rfl)).cons (F.get (k := 2) rfl)).cons (F.get (k := 1) rfl)).cons (F.get (k := 0) rfl)), M, by omega, by omega, by rw [← hp15_2]; exact scanDown_stop (.inr (by simp [hs17]))⟩
          · skip
            clear F M
            rintro φ ω ⟨j3, F, M, hp18_0, hp18_1, hp18_2⟩
            refine nxq ?_
            refine wp_seq ?_
            refine wp_seq ?_
            -- region 17
            refine wp_region_lit ?_
            refine sq_pure F (wt0 rfl) (pu_move rfl (F.ev rfl)) rfl rfl ?_; clear F; intro φ F
            refine sq_pure F (wt0 rfl) (pu_move rfl (F.ev rfl)) rfl rfl ?_; clear F; intro φ F
            refine sq_pure F (wt0 rfl) (pu_gtr rfl (F.ev rfl) (F.ev rfl)) rfl rfl ?_; clear F; intro φ F
            refine nx ?_
            cases hs19 : (decide (j3 < i3))
            · rw [hs19] at F
              have hs19i := of_decide_eq_false hs19
              refine wp_cond_false (F.ev rfl) ?_
              refine wp_skip ?_
              refine nxq ?_
              refine wp_seq ?_
              -- region 18
              refine wp_region_lit ?_
              refine sq_pure F (wt0 rfl) (pu_field rfl (F.ev rfl) fo97_1) rfl rfl ?_; clear F; intro φ F
              refine sq_rd F (wt0 rfl) (ld_cell rfl (F.ev rfl) one90 (M.rd (i := 0) rfl) rfl) rfl rfl ?_; clear F; intro φ F
              refine sq_pure F (wt0 rfl) (pu_move rfl (F.ev rfl)) rfl rfl ?_; clear F; intro φ F
              refine sq_pure F (wt0 rfl) (pu_move rfl (F.ev rfl)) rfl rfl ?_; clear F; intro φ F
              refine sq_swap F M (wt0 rfl) rfl (F.ev rfl) (evc (F.ev rfl) (evc (F.ev rfl) evn)) (i := 1) rfl (hS.at (d := d1) (i := (i3).toNat) (j := (j3).toNat) (by first | assumption | (simp only [swp_size]; assumption)) (by omega) (by omega) (by omega) (by omega) (M.at (i := 1) rfl)) rfl rfl ?_; clear F M; intro φ ω F M
              obtain ⟨q3, hq3⟩ : ∃ q, q = swp d1 ((i3).toNat) ((j3).toNat) := ⟨_, rfl⟩
              rw [← hq3] at M
              have hq3s : q3.size = n := by rw [hq3, swp_size]; assumption
              refine nx ?_
              refine wp_seq ?_
              -- region 19
              refine wp_region_lit ?_
              refine sq_pure F (wt0 rfl) (pu_move rfl (F.ev rfl)) rfl rfl ?_; clear F; intro φ F
              refine sq_pure F (wt0 rfl) (pu_add rfl (F.ev rfl) (evk) (by omega) (by omega)) rfl rfl ?_; clear F; intro φ F
              refine sq_pure F (wt0 rfl) (pu_assign rfl (F.ev rfl)) rfl rfl ?_; clear F; intro φ F
              refine nx ?_
              -- region 20
              refine wp_region_lit ?_
              refine sq_pure F (wt0 rfl) (pu_move rfl (F.ev rfl)) rfl rfl ?_; clear F; intro φ F
              refine sq_pure F (wt0 rfl) (pu_sub rfl (F.ev rfl) (evk) (by omega) (by omega)) rfl rfl ?_; clear F; intro φ F
              refine sq_pure F (wt0 rfl) (pu_assign rfl (F.ev rfl)) rfl rfl ?_; clear F; intro φ F
              refine wpList_nil ?_
              refine nxb ?_
              exact ⟨i3 + 1, by omega, j3 - 1, q3, (((((((((F.nil.cons (F.get (k := 11) rfl)).cons (F.get (k := 10) rfl)).cons (F.get (k := 9) rfl)).cons (F.get (k := 8) rfl)).cons (F.get (k := 4) rfl)).cons (F.get (k := 3) rfl)).cons (F.get (k := 2) rfl)).cons (F.get (k := 1) rfl)).cons (F.get (k := 0) rfl)), M, by omega, by omega, by omega, by omega, by assumption, by rw [← hp10_5, hq3]; exact (partLoop_go hp14_2 hp18_2 (by omega) (by omega) (by omega) (by omega) (by omega) (by omega)).symm⟩
            · rw [hs19] at F
              have hs19i := of_decide_eq_true hs19
              refine wp_cond_true (F.ev rfl) ?_
              refine wp_exit ?_
              refine nxe ?_
              refine nxo rfl ?_
              refine nxe ?_
              refine nxm ?_
              refine nxq ?_
              refine wp_seq ?_
              -- region 21
              refine wp_region_lit ?_
              refine sq_pure F (wt0 rfl) (pu_field rfl (F.ev rfl) fo97_1) rfl rfl ?_; clear F; intro φ F
              refine sq_rd F (wt0 rfl) (ld_cell rfl (F.ev rfl) one90 (M.rd (i := 0) rfl) rfl) rfl rfl ?_; clear F; intro φ F
              refine sq_pure F (wt0 rfl) (pu_move rfl (F.ev rfl)) rfl rfl ?_; clear F; intro φ F
              refine sq_pure F (wt0 rfl) (pu_move rfl (F.ev rfl)) rfl rfl ?_; clear F; intro φ F
              refine sq_swap F M (wt0 rfl) rfl (F.ev rfl) (evc (F.ev rfl) (evc (F.ev rfl) evn)) (i := 1) rfl (hS.at (d := d1) (i := (j3).toNat) (j := a) (by first | assumption | (simp only [swp_size]; assumption)) (by omega) (by omega) (by omega) (by omega) (M.at (i := 1) rfl)) rfl rfl ?_; clear F M; intro φ ω F M
              obtain ⟨q4, hq4⟩ : ∃ q, q = swp d1 ((j3).toNat) a := ⟨_, rfl⟩
              rw [← hq4] at M
              have hq4s : q4.size = n := by rw [hq4, swp_size]; assumption
              refine nx ?_
              refine wp_seq ?_
              -- region 22
              refine wp_region_lit ?_
              refine sq_pure F (wt0 rfl) (pu_move rfl (F.ev rfl)) rfl rfl ?_; clear F; intro φ F
              refine sq_pure F (wt0 rfl) (pu_assign rfl (F.ev rfl)) rfl rfl ?_; clear F; intro φ F
              refine sq_pure F (wt0 rfl) (pu_assign rfl (evk)) rfl rfl ?_; clear F; intro φ F
              refine nx ?_
              refine wp_ret ?_
              refine rt_tmp2 F rfl rfl rfl ?_
              have z := hp10_5
              rw [partLoop_stop hp14_2 hp18_2 (by omega)] at z
              refine ⟨_, _, rfl, M.out, M.at (i := 1) rfl, j3.toNat, false, by rw [Int.toNat_of_nonneg (by omega)], by assumption, ?_⟩
              unfold Sort.partition; simp only []
              rw [← hq1, hp4_2, hp8_2, if_neg (by omega), ← hq2, ← z, hq4]
      · rw [hs9] at F
        have hs9i := of_decide_eq_true hs9
        refine wp_cond_true (F.ev rfl) ?_
        refine wp_seq ?_
        -- region 8
        refine wp_region_lit ?_
        refine sq_pure F (wt0 rfl) (pu_field rfl (F.ev rfl) fo97_1) rfl rfl ?_; clear F; intro φ F
        refine sq_rd F (wt0 rfl) (ld_cell rfl (F.ev rfl) one90 (M.rd (i := 0) rfl) rfl) rfl rfl ?_; clear F; intro φ F
        refine sq_pure F (wt0 rfl) (pu_move rfl (F.ev rfl)) rfl rfl ?_; clear F; intro φ F
        refine sq_pure F (wt0 rfl) (pu_move rfl (F.ev rfl)) rfl rfl ?_; clear F; intro φ F
        refine sq_swap F M (wt0 rfl) rfl (F.ev rfl) (evc (F.ev rfl) (evc (F.ev rfl) evn)) (i := 1) rfl (hS.at (d := q1) (i := (j1).toNat) (j := a) (by first | assumption | (simp only [swp_size]; assumption)) (by omega) (by omega) (by omega) (by omega) (M.at (i := 1) rfl)) rfl rfl ?_; clear F M; intro φ ω F M
        obtain ⟨q5, hq5⟩ : ∃ q, q = swp q1 ((j1).toNat) a := ⟨_, rfl⟩
        rw [← hq5] at M
        have hq5s : q5.size = n := by rw [hq5, swp_size]; assumption
        refine nx ?_
        refine wp_seq ?_
        -- region 9
        refine wp_region_lit ?_
        refine sq_pure F (wt0 rfl) (pu_move rfl (F.ev rfl)) rfl rfl ?_; clear F; intro φ F
        refine sq_pure F (wt0 rfl) (pu_assign rfl (F.ev rfl)) rfl rfl ?_; clear F; intro φ F
        refine sq_pure F (wt0 rfl) (pu_assign rfl (evk)) rfl rfl ?_; clear F; intro φ F
        refine nx ?_
        refine wp_ret ?_
        refine nxr ?_
        refine rt_tmp2 F rfl rfl rfl ?_
        refine ⟨_, _, rfl, M.out, M.at (i := 1) rfl, j1.toNat, true, by rw [Int.toNat_of_nonneg (by omega)], by assumption, ?_⟩
        unfold Sort.partition; simp only []; rw [← hq1, hp4_2, hp8_2, if_pos (by omega), hq5]

set_option maxHeartbeats 2000000 in
theorem parteq_any {α : Type} [Inhabited α] {lt : α → α → Bool} {g : Nat} {lb : Array Value} {sf : Nat} {sb : Array Value} {blk t n : Nat} {W0 : World} {cA : Array α → Array Value} (eg : enters Try.prog g = true) (hL : LessOK Try.prog g lb lt blk t n W0 cA) (hS : SwapOK Try.prog sf sb blk t n cA) (hn : n ≤ 1000000000) (a b pivot : Nat) (d : Array α) (hs : d.size = n) (h1 : a ≤ pivot) (h2 : pivot < b) (hb : b ≤ n) (aI bI pivotI : Int) (eaI : aI = ((a : Nat) : Int)) (ebI : bI = ((b : Nat) : Int)) (epivotI : pivotI = ((pivot : Nat) : Int)) (w : World) (hW : Out [blk] W0 w) (hB : Blk w blk t (cA d)) :
    Calls Try.prog 85 #[.agg #[.func (.func g) #[] lb, .func (.func sf) #[] sb], .int .i64 aI, .int .i64 bI, .int .i64 pivotI] w (Turns blk t cA w fun v d' => ∃ m : Nat, v = .int .i64 (m : Int) ∧ d'.size = n ∧ partitionEqual lt d a b pivot = (m, d')) := by
  subst eaI
  subst ebI
  subst epivotI
  have _ := eg
  have _ := hL
  have _ := hS
  have _ := hn
  have _ := hs
  have _ := h1
  have _ := h2
  have _ := hb
  have _ := hW
  have _ := hB
  refine enterF Try.func85 rfl 58 Try.ntmps85 [.agg #[.func (.func g) #[] lb, .func (.func sf) #[] sb], .int .i64 ((a : Nat) : Int), .int .i64 ((b : Nat) : Int), .int .i64 ((pivot : Nat) : Int)] rfl [(0, .agg #[.func (.func g) #[] lb, .func (.func sf) #[] sb]), (1, .int .i64 ((a : Nat) : Int)), (2, .int .i64 ((b : Nat) : Int)), (3, .int .i64 ((pivot : Nat) : Int))] rfl ?_
  intro φ F
  have M := Mm.start [blk] w
  replace M := M.addX (hB) (by simp) (by simp [Ent.fp] <;> omega)
  refine wp_seq ?_
  -- region 0
  refine wp_region_lit ?_
  refine sq_box F M (wt0 rfl) rfl (F.ev rfl) (cs := #[.func (.func g) #[] lb, .func (.func sf) #[] sb]) rfl rfl rfl ?_; clear F M; intro φ ω g1 F M
  refine sq_pure F (wt0 rfl) (pu_assign rfl (evk)) rfl rfl ?_; clear F; intro φ F
  refine nx ?_
  refine wp_seq ?_
  -- region 1
  refine wp_region_lit ?_
  refine sq_pure F (wt0 rfl) (pu_field rfl (F.ev rfl) fo97_1) rfl rfl ?_; clear F; intro φ F
  refine sq_rd F (wt0 rfl) (ld_cell rfl (F.ev rfl) one90 (M.rd (i := 0) rfl) rfl) rfl rfl ?_; clear F; intro φ F
  refine sq_pure F (wt0 rfl) (pu_move rfl (F.ev rfl)) rfl rfl ?_; clear F; intro φ F
  refine sq_pure F (wt0 rfl) (pu_move rfl (F.ev rfl)) rfl rfl ?_; clear F; intro φ F
  refine sq_swap F M (wt0 rfl) rfl (F.ev rfl) (evc (F.ev rfl) (evc (F.ev rfl) evn)) (i := 1) rfl (hS.at (d := d) (i := a) (j := pivot) (by first | assumption | (simp only [swp_size]; assumption)) (by omega) (by omega) (by omega) (by omega) (M.at (i := 1) rfl)) rfl rfl ?_; clear F M; intro φ ω F M
  obtain ⟨q1, hq1⟩ : ∃ q, q = swp d a pivot := ⟨_, rfl⟩
  rw [← hq1] at M
  have hq1s : q1.size = n := by rw [hq1, swp_size]; assumption
  refine nx ?_
  refine wp_seq ?_
  -- region 2
  refine wp_region_lit ?_
  refine sq_pure F (wt0 rfl) (pu_move rfl (F.ev rfl)) rfl rfl ?_; clear F; intro φ F
  refine sq_pure F (wt0 rfl) (pu_add rfl (F.ev rfl) (evk) (by omega) (by omega)) rfl rfl ?_; clear F; intro φ F
  refine sq_pure F (wt0 rfl) (pu_move rfl (F.ev rfl)) rfl rfl ?_; clear F; intro φ F
  refine sq_pure F (wt0 rfl) (pu_sub rfl (F.ev rfl) (evk) (by omega) (by omega)) rfl rfl ?_; clear F; intro φ F
  refine sq_pure F (wt0 rfl) (pu_assign rfl (F.ev rfl)) rfl rfl ?_; clear F; intro φ F
  refine sq_pure F (wt0 rfl) (pu_assign rfl (F.ev rfl)) rfl rfl ?_; clear F; intro φ F
  refine nx ?_
  refine wp_seq ?_
  refine wp_block ?_
  refine lp (σ := Int) (fun i2 φ' w' => ∃ j2 : Int, ∃ d1 : Array α, Fr φ' 58 [(0, .agg #[.func (.func g) #[] lb, .func (.func sf) #[] sb]), (1, .int .i64 ((a : Nat) : Int)), (2, .int .i64 ((b : Nat) : Int)), (3, .int .i64 ((pivot : Nat) : Int)), (4, .pointer (some ⟨g1, 0, none⟩)), (8, .int .i64 0), (9, .int .i64 i2), (10, .int .i64 j2)] ∧ Mm [blk] w w' [.blk g1 97 #[.func (.func g) #[] lb, .func (.func sf) #[] sb], .blk blk t (cA d1)] ∧ ((a : Int) + 1 ≤ i2) ∧ (j2 ≤ (b : Int) - 1) ∧ (i2 - 1 ≤ j2 + 1) ∧ ((a : Int) ≤ j2) ∧ (d1.size = n) ∧ ((i2 : Int) ≤ b) ∧ (partEqLoop lt a i2.toNat j2.toNat d1 = partEqLoop lt a (a + 1) (b - 1) q1)) (fun i2 => ((b : Int) + 2 - i2).toNat) ((a : Int) + 1) ⟨(b : Int) - 1, q1, ((((((((F.nil.cons (F.get (k := 10) rfl)).cons (F.get (k := 9) rfl)).cons (F.get (k := 8) rfl)).cons (F.get (k := 4) rfl)).cons (F.get (k := 3) rfl)).cons (F.get (k := 2) rfl)).cons (F.get (k := 1) rfl)).cons (F.get (k := 0) rfl)), M, by omega, by omega, by omega, by omega, by assumption, by omega, by congr 1 <;> first | rfl | omega⟩ ?_
  clear F M
  rintro i2 φ ω ⟨j2, d1, F, M, hp1_0, hp1_1, hp1_2, hp1_3, hp1_4, hp1_5, hp1_6⟩
  refine wp_block ?_
  refine wp_seq ?_
  refine wp_cut (fun φ' w' => ∃ i3 : Int, Fr φ' 58 [(0, .agg #[.func (.func g) #[] lb, .func (.func sf) #[] sb]), (1, .int .i64 ((a : Nat) : Int)), (2, .int .i64 ((b : Nat) : Int)), (3, .int .i64 ((pivot : Nat) : Int)), (4, .pointer (some ⟨g1, 0, none⟩)), (8, .int .i64 0), (9, .int .i64 i3), (10, .int .i64 j2)] ∧ Mm [blk] w w' [.blk g1 97 #[.func (.func g) #[] lb, .func (.func sf) #[] sb], .blk blk t (cA d1)] ∧ (i2 ≤ i3) ∧ (i3 ≤ j2 + 2) ∧ (scanUp (fun x => !lt d1[a]! x) d1 j2.toNat i2.toNat = i3.toNat)) ?_ ?_
  · skip
    refine wp_block ?_
    refine lp (σ := Int) (fun i3u φ' w' => Fr φ' 58 [(0, .agg #[.func (.func g) #[] lb, .func (.func sf) #[] sb]), (1, .int .i64 ((a : Nat) : Int)), (2, .int .i64 ((b : Nat) : Int)), (3, .int .i64 ((pivot : Nat) : Int)), (4, .pointer (some ⟨g1, 0, none⟩)), (8, .int .i64 0), (9, .int .i64 i3u), (10, .int .i64 j2)] ∧ Mm [blk] w w' [.blk g1 97 #[.func (.func g) #[] lb, .func (.func sf) #[] sb], .blk blk t (cA d1)] ∧ (i2 ≤ i3u) ∧ (i3u ≤ j2 + 2) ∧ (scanUp (fun x => !lt d1[a]! x) d1 j2.toNat i3u.toNat = scanUp (fun x => !lt d1[a]! x) d1 j2.toNat i2.toNat)) (fun i3u => (j2 + 1 - i3u).toNat) (i2) ⟨((((((((F.nil.cons (F.get (k := 10) rfl)).cons (F.get (k := 9) rfl)).cons (F.get (k := 8) rfl)).cons (F.get (k := 4) rfl)).cons (F.get (k := 3) rfl)).cons (F.get (k := 2) rfl)).cons (F.get (k := 1) rfl)).cons (F.get (k := 0) rfl)), M, by omega, by omega, by first | rfl | (congr 1; omega)⟩ ?_
    clear F M
    rintro i3u φ ω ⟨F, M, hp2_0, hp2_1, hp2_2⟩
    refine wp_seq ?_
    refine wp_seq ?_
    -- region 3
    refine wp_region_lit ?_
    refine sq_pure F (wt0 rfl) (pu_move rfl (F.ev rfl)) rfl rfl ?_; clear F; intro φ F
    refine sq_pure F (wt0 rfl) (pu_move rfl (F.ev rfl)) rfl rfl ?_; clear F; intro φ F
    refine sq_pure F (wt0 rfl) (pu_leq rfl (F.ev rfl) (F.ev rfl)) rfl rfl ?_; clear F; intro φ F
    refine sq_pure F (wt0 rfl) (pu_move rfl (F.ev rfl)) rfl rfl ?_; clear F; intro φ F
    cases hs3 : (decide (i3u ≤ j2))
    · rw [hs3] at F
      have hs3i := of_decide_eq_false hs3
      refine sq_skip F (wtn F rfl rfl rfl rfl rfl) rfl rfl ?_; clear F; intro φ F
      refine sq_skip F (wtn F rfl rfl rfl rfl rfl) rfl rfl ?_; clear F; intro φ F
      refine sq_skip F (wtn F rfl rfl rfl rfl rfl) rfl rfl ?_; clear F; intro φ F
      refine sq_skip F (wtn F rfl rfl rfl rfl rfl) rfl rfl ?_; clear F; intro φ F
      refine sq_skip F (wtn F rfl rfl rfl rfl rfl) rfl rfl ?_; clear F; intro φ F
      refine sq_skip F (wtn F rfl rfl rfl rfl rfl) rfl rfl ?_; clear F; intro φ F
      refine sq_pure F (wt0 rfl) (pu_pickf rfl (F.ev rfl) (evk)) rfl rfl ?_; clear F; intro φ F
      refine nx ?_
      refine wp_cond_false (F.ev rfl) ?_
      refine wp_exit ?_
      refine nxe ?_
      refine nxe ?_
      refine nxm ?_
      exact ⟨i3u, ((((((((F.nil.cons (F.get (k := 10) rfl)).cons (F.get (k := 9) rfl)).cons (F.get (k := 8) rfl)).cons (F.get (k := 4) rfl)).cons (F.get (k := 3) rfl)).cons (F.get (k := 2) rfl)).cons (F.get (k := 1) rfl)).cons (F.get (k := 0) rfl)), M, by omega, by omega, by rw [← hp2_2]; exact scanUp_stop (.inl (by omega))⟩
    · rw [hs3] at F
      have hs3i := of_decide_eq_true hs3
      refine sq_pure F (wt1 F rfl rfl rfl rfl rfl) (pu_field rfl (F.ev rfl) fo97_0) rfl rfl ?_; clear F; intro φ F
      refine sq_rd F (wt1 F rfl rfl rfl rfl rfl) (ld_cell rfl (F.ev rfl) one83 (M.rd (i := 0) rfl) rfl) rfl rfl ?_; clear F; intro φ F
      refine sq_pure F (wt1 F rfl rfl rfl rfl rfl) (pu_move rfl (F.ev rfl)) rfl rfl ?_; clear F; intro φ F
      refine sq_pure F (wt1 F rfl rfl rfl rfl rfl) (pu_move rfl (F.ev rfl)) rfl rfl ?_; clear F; intro φ F
      refine sq_callV F M (wt1 F rfl rfl rfl rfl rfl) rfl (F.ev rfl) eg (evc (F.ev rfl) (evc (F.ev rfl) evn)) (hL.at (d := d1) (i := a) (j := (i3u).toNat) (by first | assumption | (simp only [swp_size]; assumption)) (by omega) (by omega) (by omega) (by omega) (hW.trans M.out (fun _ hg => .inr hg)) (M.at (i := 1) rfl)) rfl rfl ?_; clear F M; intro φ ω F M
      cases hs4 : (lt d1[a]! d1[(i3u).toNat]!)
      · rw [hs4] at F
        refine sq_pure F (wt1 F rfl rfl rfl rfl rfl) (pu_not rfl (F.ev rfl)) rfl rfl ?_; clear F; intro φ F
        rw [show (!false) = true from rfl] at F
        refine sq_pure F (wt0 rfl) (pu_pickt rfl (F.ev rfl) (F.ev rfl)) rfl rfl ?_; clear F; intro φ F
        refine nx ?_
        refine wp_cond_true (F.ev rfl) ?_
        refine wp_skip ?_
        refine nxq ?_
        refine wp_block ?_
        -- region 4
        refine wp_region_lit ?_
        refine sq_pure F (wt0 rfl) (pu_move rfl (F.ev rfl)) rfl rfl ?_; clear F; intro φ F
        refine sq_pure F (wt0 rfl) (pu_add rfl (F.ev rfl) (evk) (by omega) (by omega)) rfl rfl ?_; clear F; intro φ F
        refine sq_pure F (wt0 rfl) (pu_assign rfl (F.ev rfl)) rfl rfl ?_; clear F; intro φ F
        refine wpList_nil ?_
        refine nxb ?_
        exact ⟨i3u + 1, by omega, ((((((((F.nil.cons (F.get (k := 10) rfl)).cons (F.get (k := 9) rfl)).cons (F.get (k := 8) rfl)).cons (F.get (k := 4) rfl)).cons (F.get (k := 3) rfl)).cons (F.get (k := 2) rfl)).cons (F.get (k := 1) rfl)).cons (F.get (k := 0) rfl)), M, by omega, by omega, by rw [← hp2_2]; exact (scanUp_go (i := i3u.toNat) (i' := (i3u + 1).toNat) (by omega) (by simp [hs4]) (by omega)).symm⟩
      · rw [hs4] at F
        refine sq_pure F (wt1 F rfl rfl rfl rfl rfl) (pu_not rfl (F.ev rfl)) rfl rfl ?_; clear F; intro φ F
        rw [show (!true) = false from rfl] at F
        refine sq_pure F (wt0 rfl) (pu_pickt rfl (F.ev rfl) (F.ev rfl)) rfl rfl ?_; clear F; intro φ F
        refine nx ?_
        refine wp_cond_false (F.ev rfl) ?_
        refine wp_exit ?_
        refine nxe ?_
        refine nxe ?_
        refine nxm ?_
        exact ⟨i3u, ((((((((F.nil.cons (F.get (k := 10) rfl)).cons (F.get (k := 9) rfl)).cons (F.get (k := 8) rfl)).cons (F.get (k := 4) rfl)).cons (F.get (k := 3) rfl)).cons (F.get (k := 2) rfl)).cons (F.get (k := 1) rfl)).cons (F.get (k := 0) rfl)), M, by omega, by omega, by rw [← hp2_2]; exact scanUp_stop (.inr (by simp [hs4]))⟩
  · skip
    clear F M
    rintro φ ω ⟨i3, F, M, hp5_0, hp5_1, hp5_2⟩
    refine nxq ?_
    refine wp_seq ?_
    refine wp_cut (fun φ' w' => ∃ j3 : Int, Fr φ' 58 [(0, .agg #[.func (.func g) #[] lb, .func (.func sf) #[] sb]), (1, .int .i64 ((a : Nat) : Int)), (2, .int .i64 ((b : Nat) : Int)), (3, .int .i64 ((pivot : Nat) : Int)), (4, .pointer (some ⟨g1, 0, none⟩)), (8, .int .i64 0), (9, .int .i64 i3), (10, .int .i64 j3)] ∧ Mm [blk] w w' [.blk g1 97 #[.func (.func g) #[] lb, .func (.func sf) #[] sb], .blk blk t (cA d1)] ∧ (i3 - 2 ≤ j3) ∧ (j3 ≤ j2) ∧ (scanDown (fun x => lt d1[a]! x) d1 i3.toNat j2.toNat = j3.toNat)) ?_ ?_
    · skip
      refine wp_block ?_
      refine lp (σ := Int) (fun j3u φ' w' => Fr φ' 58 [(0, .agg #[.func (.func g) #[] lb, .func (.func sf) #[] sb]), (1, .int .i64 ((a : Nat) : Int)), (2, .int .i64 ((b : Nat) : Int)), (3, .int .i64 ((pivot : Nat) : Int)), (4, .pointer (some ⟨g1, 0, none⟩)), (8, .int .i64 0), (9, .int .i64 i3), (10, .int .i64 j3u)] ∧ Mm [blk] w w' [.blk g1 97 #[.func (.func g) #[] lb, .func (.func sf) #[] sb], .blk blk t (cA d1)] ∧ (i3 - 2 ≤ j3u) ∧ (j3u ≤ j2) ∧ (scanDown (fun x => lt d1[a]! x) d1 i3.toNat j3u.toNat = scanDown (fun x => lt d1[a]! x) d1 i3.toNat j2.toNat)) (fun j3u => (j3u + 1 - i3).toNat) (j2) ⟨((((((((F.nil.cons (F.get (k := 10) rfl)).cons (F.get (k := 9) rfl)).cons (F.get (k := 8) rfl)).cons (F.get (k := 4) rfl)).cons (F.get (k := 3) rfl)).cons (F.get (k := 2) rfl)).cons (F.get (k := 1) rfl)).cons (F.get (k := 0) rfl)), M, by omega, by omega, by first | rfl | (congr 1; omega)⟩ ?_
      clear F M
      rintro j3u φ ω ⟨F, M, hp6_0, hp6_1, hp6_2⟩
      refine wp_seq ?_
      refine wp_seq ?_
      -- region 5
      refine wp_region_lit ?_
      refine sq_pure F (wt0 rfl) (pu_move rfl (F.ev rfl)) rfl rfl ?_; clear F; intro φ F
      refine sq_pure F (wt0 rfl) (pu_move rfl (F.ev rfl)) rfl rfl ?_; clear F; intro φ F
      refine sq_pure F (wt0 rfl) (pu_leq rfl (F.ev rfl) (F.ev rfl)) rfl rfl ?_; clear F; intro φ F
      refine sq_pure F (wt0 rfl) (pu_move rfl (F.ev rfl)) rfl rfl ?_; clear F; intro φ F
      cases hs7 : (decide (i3 ≤ j3u))
      · rw [hs7] at F
        have hs7i := of_decide_eq_false hs7
        refine sq_skip F (wtn F rfl rfl rfl rfl rfl) rfl rfl ?_; clear F; intro φ F
        refine sq_skip F (wtn F rfl rfl rfl rfl rfl) rfl rfl ?_; clear F; intro φ F
        refine sq_skip F (wtn F rfl rfl rfl rfl rfl) rfl rfl ?_; clear F; intro φ F
        refine sq_skip F (wtn F rfl rfl rfl rfl rfl) rfl rfl ?_; clear F; intro φ F
        refine sq_skip F (wtn F rfl rfl rfl rfl rfl) rfl rfl ?_; clear F; intro φ F
        refine sq_pure F (wt0 rfl) (pu_pickf rfl (F.ev rfl) (evk)) rfl rfl ?_; clear F; intro φ F
        refine nx ?_
        refine wp_cond_false (F.ev rfl) ?_
        refine wp_exit ?_
        refine nxe ?_
        refine nxe ?_
        refine nxm ?_
        exact ⟨j3u, ((((((((F.nil.cons (F.get (k := 10) rfl)).cons (F.get (k := 9) rfl)).cons (F.get (k := 8) rfl)).cons (F.get (k := 4) rfl)).cons (F.get (k := 3) rfl)).cons (F.get (k := 2) rfl)).cons (F.get (k := 1) rfl)).cons (F.get (k := 0) rfl)), M, by omega, by omega, by rw [← hp6_2]; exact scanDown_stop (.inl (by omega))⟩
      · rw [hs7] at F
        have hs7i := of_decide_eq_true hs7
        refine sq_pure F (wt1 F rfl rfl rfl rfl rfl) (pu_field rfl (F.ev rfl) fo97_0) rfl rfl ?_; clear F; intro φ F
        refine sq_rd F (wt1 F rfl rfl rfl rfl rfl) (ld_cell rfl (F.ev rfl) one83 (M.rd (i := 0) rfl) rfl) rfl rfl ?_; clear F; intro φ F
        refine sq_pure F (wt1 F rfl rfl rfl rfl rfl) (pu_move rfl (F.ev rfl)) rfl rfl ?_; clear F; intro φ F
        refine sq_pure F (wt1 F rfl rfl rfl rfl rfl) (pu_move rfl (F.ev rfl)) rfl rfl ?_; clear F; intro φ F
        refine sq_callV F M (wt1 F rfl rfl rfl rfl rfl) rfl (F.ev rfl) eg (evc (F.ev rfl) (evc (F.ev rfl) evn)) (hL.at (d := d1) (i := a) (j := (j3u).toNat) (by first | assumption | (simp only [swp_size]; assumption)) (by omega) (by omega) (by omega) (by omega) (hW.trans M.out (fun _ hg => .inr hg)) (M.at (i := 1) rfl)) rfl rfl ?_; clear F M; intro φ ω F M
        refine sq_pure F (wt0 rfl) (pu_pickt rfl (F.ev rfl) (F.ev rfl)) rfl rfl ?_; clear F; intro φ F
        refine nx ?_
        cases hs8 : (lt d1[a]! d1[(j3u).toNat]!)
        · rw [hs8] at F
          refine wp_cond_false (F.ev rfl) ?_
          refine wp_exit ?_
          refine nxe ?_
          refine nxe ?_
          refine nxm ?_
          exact ⟨j3u, ((((((((F.nil.cons (F.get (k := 10) rfl)).cons (F.get (k := 9) rfl)).cons (F.get (k := 8) rfl)).cons (F.get (k := 4) rfl)).cons (F.get (k := 3) rfl)).cons (F.get (k := 2) rfl)).cons (F.get (k := 1) rfl)).cons (F.get (k := 0) rfl)), M, by omega, by omega, by rw [← hp6_2]; exact scanDown_stop (.inr (by simp [hs8]))⟩
        · rw [hs8] at F
          refine wp_cond_true (F.ev rfl) ?_
          refine wp_skip ?_
          refine nxq ?_
          refine wp_block ?_
          -- region 6
          refine wp_region_lit ?_
          refine sq_pure F (wt0 rfl) (pu_move rfl (F.ev rfl)) rfl rfl ?_; clear F; intro φ F
          refine sq_pure F (wt0 rfl) (pu_sub rfl (F.ev rfl) (evk) (by omega) (by omega)) rfl rfl ?_; clear F; intro φ F
          refine sq_pure F (wt0 rfl) (pu_assign rfl (F.ev rfl)) rfl rfl ?_; clear F; intro φ F
          refine wpList_nil ?_
          refine nxb ?_
          exact ⟨j3u - 1, by omega, ((((((((F.nil.cons (F.get (k := 10) rfl)).cons (F.get (k := 9) rfl)).cons (F.get (k := 8) rfl)).cons (F.get (k := 4) rfl)).cons (F.get (k := 3) rfl)).cons (F.get (k := 2) rfl)).cons (F.get (k := 1) rfl)).cons (F.get (k := 0) rfl)), M, by omega, by omega, by rw [← hp6_2]; exact (scanDown_go (j := j3u.toNat) (j' := (j3u - 1).toNat) (by omega) hs8 (by omega)).symm⟩
    · skip
      clear F M
      rintro φ ω ⟨j3, F, M, hp9_0, hp9_1, hp9_2⟩
      refine nxq ?_
      refine wp_seq ?_
      refine wp_seq ?_
      -- region 7
      refine wp_region_lit ?_
      refine sq_pure F (wt0 rfl) (pu_move rfl (F.ev rfl)) rfl rfl ?_; clear F; intro φ F
      refine sq_pure F (wt0 rfl) (pu_move rfl (F.ev rfl)) rfl rfl ?_; clear F; intro φ F
      refine sq_pure F (wt0 rfl) (pu_gtr rfl (F.ev rfl) (F.ev rfl)) rfl rfl ?_; clear F; intro φ F
      refine nx ?_
      cases hs10 : (decide (j3 < i3))
      · rw [hs10] at F
        have hs10i := of_decide_eq_false hs10
        refine wp_cond_false (F.ev rfl) ?_
        refine wp_skip ?_
        refine nxq ?_
        refine wp_seq ?_
        -- region 8
        refine wp_region_lit ?_
        refine sq_pure F (wt0 rfl) (pu_field rfl (F.ev rfl) fo97_1) rfl rfl ?_; clear F; intro φ F
        refine sq_rd F (wt0 rfl) (ld_cell rfl (F.ev rfl) one90 (M.rd (i := 0) rfl) rfl) rfl rfl ?_; clear F; intro φ F
        refine sq_pure F (wt0 rfl) (pu_move rfl (F.ev rfl)) rfl rfl ?_; clear F; intro φ F
        refine sq_pure F (wt0 rfl) (pu_move rfl (F.ev rfl)) rfl rfl ?_; clear F; intro φ F
        refine sq_swap F M (wt0 rfl) rfl (F.ev rfl) (evc (F.ev rfl) (evc (F.ev rfl) evn)) (i := 1) rfl (hS.at (d := d1) (i := (i3).toNat) (j := (j3).toNat) (by first | assumption | (simp only [swp_size]; assumption)) (by omega) (by omega) (by omega) (by omega) (M.at (i := 1) rfl)) rfl rfl ?_; clear F M; intro φ ω F M
        obtain ⟨q2, hq2⟩ : ∃ q, q = swp d1 ((i3).toNat) ((j3).toNat) := ⟨_, rfl⟩
        rw [← hq2] at M
        have hq2s : q2.size = n := by rw [hq2, swp_size]; assumption
        refine nx ?_
        refine wp_seq ?_
        -- region 9
        refine wp_region_lit ?_
        refine sq_pure F (wt0 rfl) (pu_move rfl (F.ev rfl)) rfl rfl ?_; clear F; intro φ F
        refine sq_pure F (wt0 rfl) (pu_add rfl (F.ev rfl) (evk) (by omega) (by omega)) rfl rfl ?_; clear F; intro φ F
        refine sq_pure F (wt0 rfl) (pu_assign rfl (F.ev rfl)) rfl rfl ?_; clear F; intro φ F
        refine nx ?_
        -- region 10
        refine wp_region_lit ?_
        refine sq_pure F (wt0 rfl) (pu_move rfl (F.ev rfl)) rfl rfl ?_; clear F; intro φ F
        refine sq_pure F (wt0 rfl) (pu_sub rfl (F.ev rfl) (evk) (by omega) (by omega)) rfl rfl ?_; clear F; intro φ F
        refine sq_pure F (wt0 rfl) (pu_assign rfl (F.ev rfl)) rfl rfl ?_; clear F; intro φ F
        refine wpList_nil ?_
        refine nxb ?_
        exact ⟨i3 + 1, by omega, j3 - 1, q2, ((((((((F.nil.cons (F.get (k := 10) rfl)).cons (F.get (k := 9) rfl)).cons (F.get (k := 8) rfl)).cons (F.get (k := 4) rfl)).cons (F.get (k := 3) rfl)).cons (F.get (k := 2) rfl)).cons (F.get (k := 1) rfl)).cons (F.get (k := 0) rfl)), M, by omega, by omega, by omega, by omega, by assumption, by omega, by rw [← hp1_6, hq2]; exact (partEqLoop_go hp5_2 hp9_2 (by omega) (by omega) (by omega) (by omega) (by omega) (by omega)).symm⟩
      · rw [hs10] at F
        have hs10i := of_decide_eq_true hs10
        refine wp_cond_true (F.ev rfl) ?_
        refine wp_exit ?_
        refine nxe ?_
        refine nxo rfl ?_
        refine nxe ?_
        refine nxm ?_
        refine nxq ?_
        refine wp_seq ?_
        -- region 11
        refine wp_region_lit ?_
        refine sq_pure F (wt0 rfl) (pu_move rfl (F.ev rfl)) rfl rfl ?_; clear F; intro φ F
        refine sq_pure F (wt0 rfl) (pu_assign rfl (F.ev rfl)) rfl rfl ?_; clear F; intro φ F
        refine nx ?_
        refine wp_ret ?_
        refine rt_tmp F rfl rfl ?_
        have z := hp1_6
        rw [partEqLoop_stop hp5_2 hp9_2 (by omega)] at z
        refine ⟨_, _, rfl, M.out, M.at (i := 1) rfl, i3.toNat, by rw [Int.toNat_of_nonneg (by omega)], by assumption, ?_⟩
        unfold partitionEqual
        rw [← hq1, ← z]

set_option maxHeartbeats 2000000 in
theorem pins_any {α : Type} [Inhabited α] {lt : α → α → Bool} {g : Nat} {lb : Array Value} {sf : Nat} {sb : Array Value} {blk t n : Nat} {W0 : World} {cA : Array α → Array Value} (eg : enters Try.prog g = true) (hL : LessOK Try.prog g lb lt blk t n W0 cA) (hS : SwapOK Try.prog sf sb blk t n cA) (hn : n ≤ 1000000000) (a b : Nat) (d : Array α) (hs : d.size = n) (hab : a < b) (hb : b ≤ n) (aI bI : Int) (eaI : aI = ((a : Nat) : Int)) (ebI : bI = ((b : Nat) : Int)) (w : World) (hW : Out [blk] W0 w) (hB : Blk w blk t (cA d)) :
    Calls Try.prog 84 #[.agg #[.func (.func g) #[] lb, .func (.func sf) #[] sb], .int .i64 aI, .int .i64 bI] w (Turns blk t cA w fun v d' => ∃ r : Bool, v = .bool r ∧ d'.size = n ∧ partialInsertionSort lt d a b = (d', r)) := by
  subst eaI
  subst ebI
  have _ := eg
  have _ := hL
  have _ := hS
  have _ := hn
  have _ := hs
  have _ := hab
  have _ := hb
  have _ := hW
  have _ := hB
  refine enterF Try.func84 rfl 91 Try.ntmps84 [.agg #[.func (.func g) #[] lb, .func (.func sf) #[] sb], .int .i64 ((a : Nat) : Int), .int .i64 ((b : Nat) : Int)] rfl [(0, .agg #[.func (.func g) #[] lb, .func (.func sf) #[] sb]), (1, .int .i64 ((a : Nat) : Int)), (2, .int .i64 ((b : Nat) : Int))] rfl ?_
  intro φ F
  have M := Mm.start [blk] w
  replace M := M.addX (hB) (by simp) (by simp [Ent.fp] <;> omega)
  refine wp_seq ?_
  -- region 0
  refine wp_region_lit ?_
  refine sq_box F M (wt0 rfl) rfl (F.ev rfl) (cs := #[.func (.func g) #[] lb, .func (.func sf) #[] sb]) rfl rfl rfl ?_; clear F M; intro φ ω g1 F M
  refine sq_pure F (wt0 rfl) (pu_assign rfl (evk)) rfl rfl ?_; clear F; intro φ F
  refine nx ?_
  refine wp_seq ?_
  -- region 1
  refine wp_region_lit ?_
  refine sq_pure F (wt0 rfl) (pu_move rfl (F.ev rfl)) rfl rfl ?_; clear F; intro φ F
  refine sq_pure F (wt0 rfl) (pu_add rfl (F.ev rfl) (evk) (by omega) (by omega)) rfl rfl ?_; clear F; intro φ F
  refine sq_pure F (wt0 rfl) (pu_assign rfl (F.ev rfl)) rfl rfl ?_; clear F; intro φ F
  refine nx ?_
  refine wp_seq ?_
  refine wp_seq ?_
  -- region 2
  refine wp_region_lit ?_
  refine sq_pure F (wt0 rfl) (pu_assign rfl (evk)) rfl rfl ?_; clear F; intro φ F
  refine nx ?_
  refine wp_block ?_
  refine lp (σ := Int) (fun j φ' w' => ∃ i : Int, ∃ d1 : Array α, Fr φ' 91 [(0, .agg #[.func (.func g) #[] lb, .func (.func sf) #[] sb]), (1, .int .i64 ((a : Nat) : Int)), (2, .int .i64 ((b : Nat) : Int)), (3, .pointer (some ⟨g1, 0, none⟩)), (6, .bool false), (7, .int .i64 i), (8, .int .i64 j)] ∧ Mm [blk] w w' [.blk g1 97 #[.func (.func g) #[] lb, .func (.func sf) #[] sb], .blk blk t (cA d1)] ∧ (0 ≤ j) ∧ (j ≤ 5) ∧ ((a : Int) < i) ∧ (i ≤ (b : Int)) ∧ (d1.size = n) ∧ (partialIns lt a b (5 - j).toNat i.toNat d1 = partialIns lt a b 5 (a + 1) d)) (fun j => (5 - j).toNat) (0) ⟨(a : Int) + 1, d, (((((((F.nil.cons (F.get (k := 8) rfl)).cons (F.get (k := 7) rfl)).cons (F.get (k := 6) rfl)).cons (F.get (k := 3) rfl)).cons (F.get (k := 2) rfl)).cons (F.get (k := 1) rfl)).cons (F.get (k := 0) rfl)), M, by omega, by omega, by omega, by omega, hs, by first | rfl | (congr 1; omega)⟩ ?_
  clear F M
  rintro j φ ω ⟨i, d1, F, M, hp1_0, hp1_1, hp1_2, hp1_3, hp1_4, hp1_5⟩
  refine wp_seq ?_
  refine wp_seq ?_
  -- region 3
  refine wp_region_lit ?_
  refine sq_pure F (wt0 rfl) (pu_move rfl (F.ev rfl)) rfl rfl ?_; clear F; intro φ F
  refine sq_pure F (wt0 rfl) (pu_lss rfl (F.ev rfl) (evk)) rfl rfl ?_; clear F; intro φ F
  refine nx ?_
  cases hs2 : (decide (j < 5))
  · rw [hs2] at F
    have hs2i := of_decide_eq_false hs2
    refine wp_cond_false (F.ev rfl) ?_
    refine wp_exit ?_
    refine nxe ?_
    refine nxe ?_
    refine nxm ?_
    refine nxq ?_
    refine wp_seq ?_
    -- region 24
    refine wp_region_lit ?_
    refine sq_pure F (wt0 rfl) (pu_assign rfl (evk)) rfl rfl ?_; clear F; intro φ F
    refine nx ?_
    refine wp_ret ?_
    refine rt_tmp F rfl rfl ?_
    exact ⟨_, _, rfl, M.out, M.at (i := 1) rfl, _, rfl, hp1_4, by unfold partialInsertionSort; rw [← hp1_5, show (5 - j).toNat = 0 by omega, partialIns_zero]⟩
  · rw [hs2] at F
    have hs2i := of_decide_eq_true hs2
    refine wp_cond_true (F.ev rfl) ?_
    refine wp_skip ?_
    refine nxq ?_
    refine wp_seq ?_
    refine wp_block ?_
    refine wp_seq ?_
    refine wp_cut (fun φ' w' => ∃ i2 : Int, Fr φ' 91 [(0, .agg #[.func (.func g) #[] lb, .func (.func sf) #[] sb]), (1, .int .i64 ((a : Nat) : Int)), (2, .int .i64 ((b : Nat) : Int)), (3, .pointer (some ⟨g1, 0, none⟩)), (6, .bool false), (8, .int .i64 j), (7, .int .i64 i2)] ∧ Mm [blk] w w' [.blk g1 97 #[.func (.func g) #[] lb, .func (.func sf) #[] sb], .blk blk t (cA d1)] ∧ (i ≤ i2) ∧ (i2 ≤ (b : Int)) ∧ (scanSorted lt d1 b i.toNat = i2.toNat)) ?_ ?_
    · skip
      refine wp_block ?_
      refine lp (σ := Int) (fun iu φ' w' => Fr φ' 91 [(0, .agg #[.func (.func g) #[] lb, .func (.func sf) #[] sb]), (1, .int .i64 ((a : Nat) : Int)), (2, .int .i64 ((b : Nat) : Int)), (3, .pointer (some ⟨g1, 0, none⟩)), (6, .bool false), (8, .int .i64 j), (7, .int .i64 iu)] ∧ Mm [blk] w w' [.blk g1 97 #[.func (.func g) #[] lb, .func (.func sf) #[] sb], .blk blk t (cA d1)] ∧ (i ≤ iu) ∧ (iu ≤ (b : Int)) ∧ (scanSorted lt d1 b iu.toNat = scanSorted lt d1 b i.toNat)) (fun iu => ((b : Int) - iu).toNat) (i) ⟨(((((((F.nil.cons (F.get (k := 7) rfl)).cons (F.get (k := 8) rfl)).cons (F.get (k := 6) rfl)).cons (F.get (k := 3) rfl)).cons (F.get (k := 2) rfl)).cons (F.get (k := 1) rfl)).cons (F.get (k := 0) rfl)), M, by omega, by omega, rfl⟩ ?_
      clear F M
      rintro iu φ ω ⟨F, M, hp3_0, hp3_1, hp3_2⟩
      refine wp_seq ?_
      refine wp_seq ?_
      -- region 5
      refine wp_region_lit ?_
      refine sq_pure F (wt0 rfl) (pu_move rfl (F.ev rfl)) rfl rfl ?_; clear F; intro φ F
      refine sq_pure F (wt0 rfl) (pu_move rfl (F.ev rfl)) rfl rfl ?_; clear F; intro φ F
      refine sq_pure F (wt0 rfl) (pu_lss rfl (F.ev rfl) (F.ev rfl)) rfl rfl ?_; clear F; intro φ F
      refine sq_pure F (wt0 rfl) (pu_move rfl (F.ev rfl)) rfl rfl ?_; clear F; intro φ F
      cases hs4 : (decide (iu < ((b : Nat) : Int)))
      · rw [hs4] at F
        have hs4i := of_decide_eq_false hs4
        refine sq_skip F (wtn F rfl rfl rfl rfl rfl) rfl rfl ?_; clear F; intro φ F
        refine sq_skip F (wtn F rfl rfl rfl rfl rfl) rfl rfl ?_; clear F; intro φ F
        refine sq_skip F (wtn F rfl rfl rfl rfl rfl) rfl rfl ?_; clear F; intro φ F
        refine sq_skip F (wtn F rfl rfl rfl rfl rfl) rfl rfl ?_; clear F; intro φ F
        refine sq_skip F (wtn F rfl rfl rfl rfl rfl) rfl rfl ?_; clear F; intro φ F
        refine sq_skip F (wtn F rfl rfl rfl rfl rfl) rfl rfl ?_; clear F; intro φ F
        refine sq_skip F (wtn F rfl rfl rfl rfl rfl) rfl rfl ?_; clear F; intro φ F
        refine sq_pure F (wt0 rfl) (pu_pickf rfl (F.ev rfl) (evk)) rfl rfl ?_; clear F; intro φ F
        refine nx ?_
        refine wp_cond_false (F.ev rfl) ?_
        refine wp_exit ?_
        refine nxe ?_
        refine nxe ?_
        refine nxm ?_
        exact ⟨iu, (((((((F.nil.cons (F.get (k := 7) rfl)).cons (F.get (k := 8) rfl)).cons (F.get (k := 6) rfl)).cons (F.get (k := 3) rfl)).cons (F.get (k := 2) rfl)).cons (F.get (k := 1) rfl)).cons (F.get (k := 0) rfl)), M, by omega, by omega, by rw [← hp3_2]; exact scanSorted_stop1 (by omega)⟩
      · rw [hs4] at F
        have hs4i := of_decide_eq_true hs4
        refine sq_pure F (wt1 F rfl rfl rfl rfl rfl) (pu_field rfl (F.ev rfl) fo97_0) rfl rfl ?_; clear F; intro φ F
        refine sq_rd F (wt1 F rfl rfl rfl rfl rfl) (ld_cell rfl (F.ev rfl) one83 (M.rd (i := 0) rfl) rfl) rfl rfl ?_; clear F; intro φ F
        refine sq_pure F (wt1 F rfl rfl rfl rfl rfl) (pu_move rfl (F.ev rfl)) rfl rfl ?_; clear F; intro φ F
        refine sq_pure F (wt1 F rfl rfl rfl rfl rfl) (pu_move rfl (F.ev rfl)) rfl rfl ?_; clear F; intro φ F
        refine sq_pure F (wt1 F rfl rfl rfl rfl rfl) (pu_sub rfl (F.ev rfl) (evk) (by omega) (by omega)) rfl rfl ?_; clear F; intro φ F
        refine sq_callV F M (wt1 F rfl rfl rfl rfl rfl) rfl (F.ev rfl) eg (evc (F.ev rfl) (evc (F.ev rfl) evn)) (hL.at (d := d1) (i := (iu).toNat) (j := (iu - 1).toNat) (by first | assumption | (simp only [swp_size]; assumption)) (by omega) (by omega) (by omega) (by omega) (hW.trans M.out (fun _ hg => .inr hg)) (M.at (i := 1) rfl)) rfl rfl ?_; clear F M; intro φ ω F M
        cases hs5 : (lt d1[(iu).toNat]! d1[(iu - 1).toNat]!)
        · rw [hs5] at F
          refine sq_pure F (wt1 F rfl rfl rfl rfl rfl) (pu_not rfl (F.ev rfl)) rfl rfl ?_; clear F; intro φ F
          rw [show (!false) = true from rfl] at F
          refine sq_pure F (wt0 rfl) (pu_pickt rfl (F.ev rfl) (F.ev rfl)) rfl rfl ?_; clear F; intro φ F
          refine nx ?_
          refine wp_cond_true (F.ev rfl) ?_
          refine wp_skip ?_
          refine nxq ?_
          refine wp_block ?_
          -- region 6
          refine wp_region_lit ?_
          refine sq_pure F (wt0 rfl) (pu_move rfl (F.ev rfl)) rfl rfl ?_; clear F; intro φ F
          refine sq_pure F (wt0 rfl) (pu_add rfl (F.ev rfl) (evk) (by omega) (by omega)) rfl rfl ?_; clear F; intro φ F
          refine sq_pure F (wt0 rfl) (pu_assign rfl (F.ev rfl)) rfl rfl ?_; clear F; intro φ F
          refine wpList_nil ?_
          refine nxb ?_
          exact ⟨iu + 1, by omega, (((((((F.nil.cons (F.get (k := 7) rfl)).cons (F.get (k := 8) rfl)).cons (F.get (k := 6) rfl)).cons (F.get (k := 3) rfl)).cons (F.get (k := 2) rfl)).cons (F.get (k := 1) rfl)).cons (F.get (k := 0) rfl)), M, by omega, by omega, by rw [← hp3_2]; exact (scanSorted_go (i := iu.toNat) (i' := (iu + 1).toNat) (k := (iu - 1).toNat) (by omega) (by omega) (by omega) hs5).symm⟩
        · rw [hs5] at F
          refine sq_pure F (wt1 F rfl rfl rfl rfl rfl) (pu_not rfl (F.ev rfl)) rfl rfl ?_; clear F; intro φ F
          rw [show (!true) = false from rfl] at F
          refine sq_pure F (wt0 rfl) (pu_pickt rfl (F.ev rfl) (F.ev rfl)) rfl rfl ?_; clear F; intro φ F
          refine nx ?_
          refine wp_cond_false (F.ev rfl) ?_
          refine wp_exit ?_
          refine nxe ?_
          refine nxe ?_
          refine nxm ?_
          exact ⟨iu, (((((((F.nil.cons (F.get (k := 7) rfl)).cons (F.get (k := 8) rfl)).cons (F.get (k := 6) rfl)).cons (F.get (k := 3) rfl)).cons (F.get (k := 2) rfl)).cons (F.get (k := 1) rfl)).cons (F.get (k := 0) rfl)), M, by omega, by omega, by rw [← hp3_2]; exact scanSorted_stop2 (k := (iu - 1).toNat) (by omega) hs5⟩
    · skip
      clear F M
      rintro φ ω ⟨i2, F, M, hp6_0, hp6_1, hp6_2⟩
      refine nxq ?_
      refine wp_seq ?_
      refine wp_seq ?_
      -- region 7
      refine wp_region_lit ?_
      refine sq_pure F (wt0 rfl) (pu_move rfl (F.ev rfl)) rfl rfl ?_; clear F; intro φ F
      refine sq_pure F (wt0 rfl) (pu_move rfl (F.ev rfl)) rfl rfl ?_; clear F; intro φ F
      refine sq_pure F (wt0 rfl) (pu_eqlI rfl (F.ev rfl) (F.ev rfl)) rfl rfl ?_; clear F; intro φ F
      refine nx ?_
      cases hs7 : (decide (i2 = ((b : Nat) : Int)))
      · rw [hs7] at F
        have hs7i := of_decide_eq_false hs7
        refine wp_cond_false (F.ev rfl) ?_
        refine wp_skip ?_
        refine nxq ?_
        refine wp_seq ?_
        refine wp_seq ?_
        -- region 9
        refine wp_region_lit ?_
        refine sq_pure F (wt0 rfl) (pu_move rfl (F.ev rfl)) rfl rfl ?_; clear F; intro φ F
        refine sq_pure F (wt0 rfl) (pu_move rfl (F.ev rfl)) rfl rfl ?_; clear F; intro φ F
        refine sq_pure F (wt0 rfl) (pu_sub rfl (F.ev rfl) (F.ev rfl) (by omega) (by omega)) rfl rfl ?_; clear F; intro φ F
        refine sq_pure F (wt0 rfl) (pu_lss rfl (F.ev rfl) (evk)) rfl rfl ?_; clear F; intro φ F
        refine nx ?_
        cases hs8 : (decide (((b : Nat) : Int) - ((a : Nat) : Int) < 50))
        · rw [hs8] at F
          have hs8i := of_decide_eq_false hs8
          refine wp_cond_false (F.ev rfl) ?_
          refine wp_skip ?_
          refine nxq ?_
          refine wp_seq ?_
          -- region 11
          refine wp_region_lit ?_
          refine sq_pure F (wt0 rfl) (pu_field rfl (F.ev rfl) fo97_1) rfl rfl ?_; clear F; intro φ F
          refine sq_rd F (wt0 rfl) (ld_cell rfl (F.ev rfl) one90 (M.rd (i := 0) rfl) rfl) rfl rfl ?_; clear F; intro φ F
          refine sq_pure F (wt0 rfl) (pu_move rfl (F.ev rfl)) rfl rfl ?_; clear F; intro φ F
          refine sq_pure F (wt0 rfl) (pu_move rfl (F.ev rfl)) rfl rfl ?_; clear F; intro φ F
          refine sq_pure F (wt0 rfl) (pu_sub rfl (F.ev rfl) (evk) (by omega) (by omega)) rfl rfl ?_; clear F; intro φ F
          refine sq_swap F M (wt0 rfl) rfl (F.ev rfl) (evc (F.ev rfl) (evc (F.ev rfl) evn)) (i := 1) rfl (hS.at (d := d1) (i := (i2).toNat) (j := (i2 - 1).toNat) (by first | assumption | (simp only [swp_size]; assumption)) (by omega) (by omega) (by omega) (by omega) (M.at (i := 1) rfl)) rfl rfl ?_; clear F M; intro φ ω F M
          obtain ⟨q1, hq1⟩ : ∃ q, q = swp d1 ((i2).toNat) ((i2 - 1).toNat) := ⟨_, rfl⟩
          rw [← hq1] at M
          have hq1s : q1.size = n := by rw [hq1, swp_size]; assumption
          refine nx ?_
          refine wp_seq ?_
          refine wp_seq ?_
          -- region 12
          refine wp_region_lit ?_
          refine sq_pure F (wt0 rfl) (pu_move rfl (F.ev rfl)) rfl rfl ?_; clear F; intro φ F
          refine sq_pure F (wt0 rfl) (pu_move rfl (F.ev rfl)) rfl rfl ?_; clear F; intro φ F
          refine sq_pure F (wt0 rfl) (pu_sub rfl (F.ev rfl) (F.ev rfl) (by omega) (by omega)) rfl rfl ?_; clear F; intro φ F
          refine sq_pure F (wt0 rfl) (pu_geq rfl (F.ev rfl) (evk)) rfl rfl ?_; clear F; intro φ F
          refine nx ?_
          refine wp_cut (fun φ' w' => ∃ d3 : Array α, Fr φ' 91 [(0, .agg #[.func (.func g) #[] lb, .func (.func sf) #[] sb]), (1, .int .i64 ((a : Nat) : Int)), (2, .int .i64 ((b : Nat) : Int)), (3, .pointer (some ⟨g1, 0, none⟩)), (6, .bool false), (7, .int .i64 i2), (8, .int .i64 j)] ∧ Mm [blk] w w' [.blk g1 97 #[.func (.func g) #[] lb, .func (.func sf) #[] sb], .blk blk t (cA d3)] ∧ (d3.size = n) ∧ (d3 = if i2.toNat - a ≥ 2 then shiftDown lt (i2 - 1).toNat q1 else q1)) ?_ ?_
          · skip
            cases hs9 : (decide (2 ≤ i2 - ((a : Nat) : Int)))
            · rw [hs9] at F
              have hs9i := of_decide_eq_false hs9
              refine wp_cond_false (F.ev rfl) ?_
              refine wp_skip ?_
              exact ⟨q1, (((((((F.nil.cons (F.get (k := 8) rfl)).cons (F.get (k := 7) rfl)).cons (F.get (k := 6) rfl)).cons (F.get (k := 3) rfl)).cons (F.get (k := 2) rfl)).cons (F.get (k := 1) rfl)).cons (F.get (k := 0) rfl)), M, by assumption, by rw [if_neg (by omega)]⟩
            · rw [hs9] at F
              have hs9i := of_decide_eq_true hs9
              refine wp_cond_true (F.ev rfl) ?_
              refine wp_seq ?_
              -- region 13
              refine wp_region_lit ?_
              refine sq_pure F (wt0 rfl) (pu_move rfl (F.ev rfl)) rfl rfl ?_; clear F; intro φ F
              refine sq_pure F (wt0 rfl) (pu_sub rfl (F.ev rfl) (evk) (by omega) (by omega)) rfl rfl ?_; clear F; intro φ F
              refine sq_pure F (wt0 rfl) (pu_assign rfl (F.ev rfl)) rfl rfl ?_; clear F; intro φ F
              refine nx ?_
              refine wp_block ?_
              refine lp (σ := Int) (fun kd φ' w' => ∃ d2 : Array α, Fr φ' 91 [(0, .agg #[.func (.func g) #[] lb, .func (.func sf) #[] sb]), (1, .int .i64 ((a : Nat) : Int)), (2, .int .i64 ((b : Nat) : Int)), (3, .pointer (some ⟨g1, 0, none⟩)), (6, .bool false), (7, .int .i64 i2), (8, .int .i64 j), (9, .int .i64 kd)] ∧ Mm [blk] w w' [.blk g1 97 #[.func (.func g) #[] lb, .func (.func sf) #[] sb], .blk blk t (cA d2)] ∧ (0 ≤ kd) ∧ (kd ≤ i2 - 1) ∧ (d2.size = n) ∧ (shiftDown lt kd.toNat d2 = shiftDown lt (i2 - 1).toNat q1)) (fun kd => kd.toNat) (i2 - 1) ⟨q1, ((((((((F.nil.cons (F.get (k := 9) rfl)).cons (F.get (k := 8) rfl)).cons (F.get (k := 7) rfl)).cons (F.get (k := 6) rfl)).cons (F.get (k := 3) rfl)).cons (F.get (k := 2) rfl)).cons (F.get (k := 1) rfl)).cons (F.get (k := 0) rfl)), M, by omega, by omega, by assumption, rfl⟩ ?_
              clear F M
              rintro kd φ ω ⟨d2, F, M, hp10_0, hp10_1, hp10_2, hp10_3⟩
              refine wp_seq ?_
              refine wp_seq ?_
              -- region 14
              refine wp_region_lit ?_
              refine sq_pure F (wt0 rfl) (pu_move rfl (F.ev rfl)) rfl rfl ?_; clear F; intro φ F
              refine sq_pure F (wt0 rfl) (pu_geq rfl (F.ev rfl) (evk)) rfl rfl ?_; clear F; intro φ F
              refine nx ?_
              cases hs11 : (decide (1 ≤ kd))
              · rw [hs11] at F
                have hs11i := of_decide_eq_false hs11
                refine wp_cond_false (F.ev rfl) ?_
                refine wp_exit ?_
                refine nxe ?_
                refine nxe ?_
                refine nxm ?_
                exact ⟨d2, (((((((F.nil.cons (F.get (k := 8) rfl)).cons (F.get (k := 7) rfl)).cons (F.get (k := 6) rfl)).cons (F.get (k := 3) rfl)).cons (F.get (k := 2) rfl)).cons (F.get (k := 1) rfl)).cons (F.get (k := 0) rfl)), M, hp10_2, by rw [if_pos (by omega), ← hp10_3]; exact (shiftDown_stop1 (by omega)).symm⟩
              · rw [hs11] at F
                have hs11i := of_decide_eq_true hs11
                refine wp_cond_true (F.ev rfl) ?_
                refine wp_skip ?_
                refine nxq ?_
                refine wp_seq ?_
                refine wp_block ?_
                refine wp_seq ?_
                refine wp_seq ?_
                -- region 16
                refine wp_region_lit ?_
                refine sq_pure F (wt0 rfl) (pu_field rfl (F.ev rfl) fo97_0) rfl rfl ?_; clear F; intro φ F
                refine sq_rd F (wt0 rfl) (ld_cell rfl (F.ev rfl) one83 (M.rd (i := 0) rfl) rfl) rfl rfl ?_; clear F; intro φ F
                refine sq_pure F (wt0 rfl) (pu_move rfl (F.ev rfl)) rfl rfl ?_; clear F; intro φ F
                refine sq_pure F (wt0 rfl) (pu_move rfl (F.ev rfl)) rfl rfl ?_; clear F; intro φ F
                refine sq_pure F (wt0 rfl) (pu_sub rfl (F.ev rfl) (evk) (by omega) (by omega)) rfl rfl ?_; clear F; intro φ F
                refine sq_callV F M (wt0 rfl) rfl (F.ev rfl) eg (evc (F.ev rfl) (evc (F.ev rfl) evn)) (hL.at (d := d2) (i := (kd).toNat) (j := (kd - 1).toNat) (by first | assumption | (simp only [swp_size]; assumption)) (by omega) (by omega) (by omega) (by omega) (hW.trans M.out (fun _ hg => .inr hg)) (M.at (i := 1) rfl)) rfl rfl ?_; clear F M; intro φ ω F M
                cases hs12 : (lt d2[(kd).toNat]! d2[(kd - 1).toNat]!)
                · rw [hs12] at F
                  refine sq_pure F (wt0 rfl) (pu_not rfl (F.ev rfl)) rfl rfl ?_; clear F; intro φ F
                  rw [show (!false) = true from rfl] at F
                  refine nx ?_
                  refine wp_cond_true (F.ev rfl) ?_
                  refine wp_exit ?_
                  refine nxe ?_
                  refine nxo rfl ?_
                  refine nxe ?_
                  refine nxe ?_
                  refine nxm ?_
                  exact ⟨d2, (((((((F.nil.cons (F.get (k := 8) rfl)).cons (F.get (k := 7) rfl)).cons (F.get (k := 6) rfl)).cons (F.get (k := 3) rfl)).cons (F.get (k := 2) rfl)).cons (F.get (k := 1) rfl)).cons (F.get (k := 0) rfl)), M, hp10_2, by rw [if_pos (by omega), ← hp10_3]; exact (shiftDown_stop2 (j' := (kd - 1).toNat) (by omega) hs12).symm⟩
                · rw [hs12] at F
                  refine sq_pure F (wt0 rfl) (pu_not rfl (F.ev rfl)) rfl rfl ?_; clear F; intro φ F
                  rw [show (!true) = false from rfl] at F
                  refine nx ?_
                  refine wp_cond_false (F.ev rfl) ?_
                  refine wp_skip ?_
                  refine nxq ?_
                  -- region 17
                  refine wp_region_lit ?_
                  refine sq_pure F (wt0 rfl) (pu_field rfl (F.ev rfl) fo97_1) rfl rfl ?_; clear F; intro φ F
                  refine sq_rd F (wt0 rfl) (ld_cell rfl (F.ev rfl) one90 (M.rd (i := 0) rfl) rfl) rfl rfl ?_; clear F; intro φ F
                  refine sq_pure F (wt0 rfl) (pu_move rfl (F.ev rfl)) rfl rfl ?_; clear F; intro φ F
                  refine sq_pure F (wt0 rfl) (pu_move rfl (F.ev rfl)) rfl rfl ?_; clear F; intro φ F
                  refine sq_pure F (wt0 rfl) (pu_sub rfl (F.ev rfl) (evk) (by omega) (by omega)) rfl rfl ?_; clear F; intro φ F
                  refine sq_swap F M (wt0 rfl) rfl (F.ev rfl) (evc (F.ev rfl) (evc (F.ev rfl) evn)) (i := 1) rfl (hS.at (d := d2) (i := (kd).toNat) (j := (kd - 1).toNat) (by first | assumption | (simp only [swp_size]; assumption)) (by omega) (by omega) (by omega) (by omega) (M.at (i := 1) rfl)) rfl rfl ?_; clear F M; intro φ ω F M
                  obtain ⟨q2, hq2⟩ : ∃ q, q = swp d2 ((kd).toNat) ((kd - 1).toNat) := ⟨_, rfl⟩
                  rw [← hq2] at M
                  have hq2s : q2.size = n := by rw [hq2, swp_size]; assumption
                  refine wpList_nil ?_
                  refine nxb ?_
                  refine nxq ?_
                  -- region 15
                  refine wp_region_lit ?_
                  refine sq_pure F (wt0 rfl) (pu_move rfl (F.ev rfl)) rfl rfl ?_; clear F; intro φ F
                  refine sq_pure F (wt0 rfl) (pu_sub rfl (F.ev rfl) (evk) (by omega) (by omega)) rfl rfl ?_; clear F; intro φ F
                  refine sq_pure F (wt0 rfl) (pu_assign rfl (F.ev rfl)) rfl rfl ?_; clear F; intro φ F
                  refine wpList_nil ?_
                  exact ⟨kd - 1, by omega, q2, ((((((((F.nil.cons (F.get (k := 9) rfl)).cons (F.get (k := 8) rfl)).cons (F.get (k := 7) rfl)).cons (F.get (k := 6) rfl)).cons (F.get (k := 3) rfl)).cons (F.get (k := 2) rfl)).cons (F.get (k := 1) rfl)).cons (F.get (k := 0) rfl)), M, by omega, by omega, by assumption, by rw [← hp10_3, hq2]; exact (shiftDown_go (j := kd.toNat) (j' := (kd - 1).toNat) (by omega) hs12).symm⟩
          · skip
            clear F M
            rintro φ ω ⟨d3, F, M, hp13_0, hp13_1⟩
            refine nxq ?_
            refine wp_seq ?_
            -- region 18
            refine wp_region_lit ?_
            refine sq_pure F (wt0 rfl) (pu_move rfl (F.ev rfl)) rfl rfl ?_; clear F; intro φ F
            refine sq_pure F (wt0 rfl) (pu_move rfl (F.ev rfl)) rfl rfl ?_; clear F; intro φ F
            refine sq_pure F (wt0 rfl) (pu_sub rfl (F.ev rfl) (F.ev rfl) (by omega) (by omega)) rfl rfl ?_; clear F; intro φ F
            refine sq_pure F (wt0 rfl) (pu_geq rfl (F.ev rfl) (evk)) rfl rfl ?_; clear F; intro φ F
            refine nx ?_
            refine wp_cut (fun φ' w' => ∃ d4 : Array α, Fr φ' 91 [(0, .agg #[.func (.func g) #[] lb, .func (.func sf) #[] sb]), (1, .int .i64 ((a : Nat) : Int)), (2, .int .i64 ((b : Nat) : Int)), (3, .pointer (some ⟨g1, 0, none⟩)), (6, .bool false), (7, .int .i64 i2), (8, .int .i64 j)] ∧ Mm [blk] w w' [.blk g1 97 #[.func (.func g) #[] lb, .func (.func sf) #[] sb], .blk blk t (cA d4)] ∧ (d4.size = n) ∧ (d4 = if b - i2.toNat ≥ 2 then shiftUp lt b (i2.toNat + 1) d3 else d3)) ?_ ?_
            · skip
              cases hs14 : (decide (2 ≤ ((b : Nat) : Int) - i2))
              · rw [hs14] at F
                have hs14i := of_decide_eq_false hs14
                refine wp_cond_false (F.ev rfl) ?_
                refine wp_skip ?_
                exact ⟨d3, (((((((F.nil.cons (F.get (k := 8) rfl)).cons (F.get (k := 7) rfl)).cons (F.get (k := 6) rfl)).cons (F.get (k := 3) rfl)).cons (F.get (k := 2) rfl)).cons (F.get (k := 1) rfl)).cons (F.get (k := 0) rfl)), M, by assumption, by rw [if_neg (by omega)]⟩
              · rw [hs14] at F
                have hs14i := of_decide_eq_true hs14
                refine wp_cond_true (F.ev rfl) ?_
                refine wp_seq ?_
                -- region 19
                refine wp_region_lit ?_
                refine sq_pure F (wt0 rfl) (pu_move rfl (F.ev rfl)) rfl rfl ?_; clear F; intro φ F
                refine sq_pure F (wt0 rfl) (pu_add rfl (F.ev rfl) (evk) (by omega) (by omega)) rfl rfl ?_; clear F; intro φ F
                refine sq_pure F (wt0 rfl) (pu_assign rfl (F.ev rfl)) rfl rfl ?_; clear F; intro φ F
                refine nx ?_
                refine wp_block ?_
                refine lp (σ := Int) (fun ku φ' w' => ∃ d5 : Array α, Fr φ' 91 [(0, .agg #[.func (.func g) #[] lb, .func (.func sf) #[] sb]), (1, .int .i64 ((a : Nat) : Int)), (2, .int .i64 ((b : Nat) : Int)), (3, .pointer (some ⟨g1, 0, none⟩)), (6, .bool false), (7, .int .i64 i2), (8, .int .i64 j), (10, .int .i64 ku)] ∧ Mm [blk] w w' [.blk g1 97 #[.func (.func g) #[] lb, .func (.func sf) #[] sb], .blk blk t (cA d5)] ∧ (i2 + 1 ≤ ku) ∧ (ku ≤ (b : Int)) ∧ (d5.size = n) ∧ (shiftUp lt b ku.toNat d5 = shiftUp lt b (i2.toNat + 1) d3)) (fun ku => ((b : Int) - ku).toNat) (i2 + 1) ⟨d3, ((((((((F.nil.cons (F.get (k := 10) rfl)).cons (F.get (k := 8) rfl)).cons (F.get (k := 7) rfl)).cons (F.get (k := 6) rfl)).cons (F.get (k := 3) rfl)).cons (F.get (k := 2) rfl)).cons (F.get (k := 1) rfl)).cons (F.get (k := 0) rfl)), M, by omega, by omega, by assumption, by congr 1; omega⟩ ?_
                clear F M
                rintro ku φ ω ⟨d5, F, M, hp15_0, hp15_1, hp15_2, hp15_3⟩
                refine wp_seq ?_
                refine wp_seq ?_
                -- region 20
                refine wp_region_lit ?_
                refine sq_pure F (wt0 rfl) (pu_move rfl (F.ev rfl)) rfl rfl ?_; clear F; intro φ F
                refine sq_pure F (wt0 rfl) (pu_move rfl (F.ev rfl)) rfl rfl ?_; clear F; intro φ F
                refine sq_pure F (wt0 rfl) (pu_lss rfl (F.ev rfl) (F.ev rfl)) rfl rfl ?_; clear F; intro φ F
                refine nx ?_
                cases hs16 : (decide (ku < ((b : Nat) : Int)))
                · rw [hs16] at F
                  have hs16i := of_decide_eq_false hs16
                  refine wp_cond_false (F.ev rfl) ?_
                  refine wp_exit ?_
                  refine nxe ?_
                  refine nxe ?_
                  refine nxm ?_
                  exact ⟨d5, (((((((F.nil.cons (F.get (k := 8) rfl)).cons (F.get (k := 7) rfl)).cons (F.get (k := 6) rfl)).cons (F.get (k := 3) rfl)).cons (F.get (k := 2) rfl)).cons (F.get (k := 1) rfl)).cons (F.get (k := 0) rfl)), M, hp15_2, by rw [if_pos (by omega), ← hp15_3]; exact (shiftUp_stop1 (by omega)).symm⟩
                · rw [hs16] at F
                  have hs16i := of_decide_eq_true hs16
                  refine wp_cond_true (F.ev rfl) ?_
                  refine wp_skip ?_
                  refine nxq ?_
                  refine wp_seq ?_
                  refine wp_block ?_
                  refine wp_seq ?_
                  refine wp_seq ?_
                  -- region 22
                  refine wp_region_lit ?_
                  refine sq_pure F (wt0 rfl) (pu_field rfl (F.ev rfl) fo97_0) rfl rfl ?_; clear F; intro φ F
                  refine sq_rd F (wt0 rfl) (ld_cell rfl (F.ev rfl) one83 (M.rd (i := 0) rfl) rfl) rfl rfl ?_; clear F; intro φ F
                  refine sq_pure F (wt0 rfl) (pu_move rfl (F.ev rfl)) rfl rfl ?_; clear F; intro φ F
                  refine sq_pure F (wt0 rfl) (pu_move rfl (F.ev rfl)) rfl rfl ?_; clear F; intro φ F
                  refine sq_pure F (wt0 rfl) (pu_sub rfl (F.ev rfl) (evk) (by omega) (by omega)) rfl rfl ?_; clear F; intro φ F
                  refine sq_callV F M (wt0 rfl) rfl (F.ev rfl) eg (evc (F.ev rfl) (evc (F.ev rfl) evn)) (hL.at (d := d5) (i := (ku).toNat) (j := (ku - 1).toNat) (by first | assumption | (simp only [swp_size]; assumption)) (by omega) (by omega) (by omega) (by omega) (hW.trans M.out (fun _ hg => .inr hg)) (M.at (i := 1) rfl)) rfl rfl ?_; clear F M; intro φ ω F M
                  cases hs17 : (lt d5[(ku).toNat]! d5[(ku - 1).toNat]!)
                  · rw [hs17] at F
                    refine sq_pure F (wt0 rfl) (pu_not rfl (F.ev rfl)) rfl rfl ?_; clear F; intro φ F
                    rw [show (!false) = true from rfl] at F
                    refine nx ?_
                    refine wp_cond_true (F.ev rfl) ?_
                    refine wp_exit ?_
                    refine nxe ?_
                    refine nxo rfl ?_
                    refine nxe ?_
                    refine nxe ?_
                    refine nxm ?_
                    exact ⟨d5, (((((((F.nil.cons (F.get (k := 8) rfl)).cons (F.get (k := 7) rfl)).cons (F.get (k := 6) rfl)).cons (F.get (k := 3) rfl)).cons (F.get (k := 2) rfl)).cons (F.get (k := 1) rfl)).cons (F.get (k := 0) rfl)), M, hp15_2, by rw [if_pos (by omega), ← hp15_3]; exact (shiftUp_stop2 (k := (ku - 1).toNat) (by omega) hs17).symm⟩
                  · rw [hs17] at F
                    refine sq_pure F (wt0 rfl) (pu_not rfl (F.ev rfl)) rfl rfl ?_; clear F; intro φ F
                    rw [show (!true) = false from rfl] at F
                    refine nx ?_
                    refine wp_cond_false (F.ev rfl) ?_
                    refine wp_skip ?_
                    refine nxq ?_
                    -- region 23
                    refine wp_region_lit ?_
                    refine sq_pure F (wt0 rfl) (pu_field rfl (F.ev rfl) fo97_1) rfl rfl ?_; clear F; intro φ F
                    refine sq_rd F (wt0 rfl) (ld_cell rfl (F.ev rfl) one90 (M.rd (i := 0) rfl) rfl) rfl rfl ?_; clear F; intro φ F
                    refine sq_pure F (wt0 rfl) (pu_move rfl (F.ev rfl)) rfl rfl ?_; clear F; intro φ F
                    refine sq_pure F (wt0 rfl) (pu_move rfl (F.ev rfl)) rfl rfl ?_; clear F; intro φ F
                    refine sq_pure F (wt0 rfl) (pu_sub rfl (F.ev rfl) (evk) (by omega) (by omega)) rfl rfl ?_; clear F; intro φ F
                    refine sq_swap F M (wt0 rfl) rfl (F.ev rfl) (evc (F.ev rfl) (evc (F.ev rfl) evn)) (i := 1) rfl (hS.at (d := d5) (i := (ku).toNat) (j := (ku - 1).toNat) (by first | assumption | (simp only [swp_size]; assumption)) (by omega) (by omega) (by omega) (by omega) (M.at (i := 1) rfl)) rfl rfl ?_; clear F M; intro φ ω F M
                    obtain ⟨q3, hq3⟩ : ∃ q, q = swp d5 ((ku).toNat) ((ku - 1).toNat) := ⟨_, rfl⟩
                    rw [← hq3] at M
                    have hq3s : q3.size = n := by rw [hq3, swp_size]; assumption
                    refine wpList_nil ?_
                    refine nxb ?_
                    refine nxq ?_
                    -- region 21
                    refine wp_region_lit ?_
                    refine sq_pure F (wt0 rfl) (pu_move rfl (F.ev rfl)) rfl rfl ?_; clear F; intro φ F
                    refine sq_pure F (wt0 rfl) (pu_add rfl (F.ev rfl) (evk) (by omega) (by omega)) rfl rfl ?_; clear F; intro φ F
                    refine sq_pure F (wt0 rfl) (pu_assign rfl (F.ev rfl)) rfl rfl ?_; clear F; intro φ F
                    refine wpList_nil ?_
                    exact ⟨ku + 1, by omega, q3, ((((((((F.nil.cons (F.get (k := 10) rfl)).cons (F.get (k := 8) rfl)).cons (F.get (k := 7) rfl)).cons (F.get (k := 6) rfl)).cons (F.get (k := 3) rfl)).cons (F.get (k := 2) rfl)).cons (F.get (k := 1) rfl)).cons (F.get (k := 0) rfl)), M, by omega, by omega, by assumption, by rw [← hp15_3, hq3]; exact (shiftUp_go (j := ku.toNat) (j' := (ku + 1).toNat) (k := (ku - 1).toNat) (by omega) (by omega) (by omega) hs17).symm⟩
            · skip
              clear F M
              rintro φ ω ⟨d4, F, M, hp18_0, hp18_1⟩
              refine nxb ?_
              refine nxq ?_
              -- region 4
              refine wp_region_lit ?_
              refine sq_pure F (wt0 rfl) (pu_move rfl (F.ev rfl)) rfl rfl ?_; clear F; intro φ F
              refine sq_pure F (wt0 rfl) (pu_add rfl (F.ev rfl) (evk) (by omega) (by omega)) rfl rfl ?_; clear F; intro φ F
              refine sq_pure F (wt0 rfl) (pu_assign rfl (F.ev rfl)) rfl rfl ?_; clear F; intro φ F
              refine wpList_nil ?_
              exact ⟨j + 1, by omega, i2, d4, (((((((F.nil.cons (F.get (k := 8) rfl)).cons (F.get (k := 7) rfl)).cons (F.get (k := 6) rfl)).cons (F.get (k := 3) rfl)).cons (F.get (k := 2) rfl)).cons (F.get (k := 1) rfl)).cons (F.get (k := 0) rfl)), M, by omega, by omega, by omega, by omega, hp18_0, by rw [← hp1_5]; exact (partialIns_go (s' := (5 - (j + 1)).toNat) (i1 := (i2 - 1).toNat) (by omega) hp6_2 (by omega) (by omega) (by omega) (by rw [← hq1]; exact hp13_1) hp18_1).symm⟩
        · rw [hs8] at F
          have hs8i := of_decide_eq_true hs8
          refine wp_cond_true (F.ev rfl) ?_
          refine wp_seq ?_
          -- region 10
          refine wp_region_lit ?_
          refine sq_pure F (wt0 rfl) (pu_assign rfl (evk)) rfl rfl ?_; clear F; intro φ F
          refine nx ?_
          refine wp_ret ?_
          refine nxr ?_
          refine nxrb ?_
          refine nxr ?_
          refine nxr ?_
          refine nxrb ?_
          refine nxr ?_
          refine rt_tmp F rfl rfl ?_
          exact ⟨_, _, rfl, M.out, M.at (i := 1) rfl, _, rfl, hp1_4, by unfold partialInsertionSort; rw [← hp1_5, partialIns_short (s' := (5 - j).toNat - 1) (by omega) hp6_2 (by omega) (by omega)]⟩
      · rw [hs7] at F
        have hs7i := of_decide_eq_true hs7
        refine wp_cond_true (F.ev rfl) ?_
        refine wp_seq ?_
        -- region 8
        refine wp_region_lit ?_
        refine sq_pure F (wt0 rfl) (pu_assign rfl (evk)) rfl rfl ?_; clear F; intro φ F
        refine nx ?_
        refine wp_ret ?_
        refine nxr ?_
        refine nxrb ?_
        refine nxr ?_
        refine nxr ?_
        refine nxrb ?_
        refine nxr ?_
        refine rt_tmp F rfl rfl ?_
        exact ⟨_, _, rfl, M.out, M.at (i := 1) rfl, _, rfl, hp1_4, by unfold partialInsertionSort; rw [← hp1_5, partialIns_end (s' := (5 - j).toNat - 1) (by omega) (by rw [hp6_2]; omega)]⟩

set_option maxHeartbeats 2000000 in
theorem ord2_any {α : Type} [Inhabited α] {lt : α → α → Bool} {g : Nat} {lb : Array Value} {sf : Nat} {sb : Array Value} {blk t n : Nat} {W0 : World} {cA : Array α → Array Value} (eg : enters Try.prog g = true) (hL : LessOK Try.prog g lb lt blk t n W0 cA) (hS : SwapOK Try.prog sf sb blk t n cA) (hn : n ≤ 1000000000) (a : Nat) (b : Nat) (hla : a < n) (hlb : b < n) (sg ti : Nat) (s : Int) (d : Array α) (hs : d.size = n) (hsg : W0.heap.size ≤ sg) (hne : ¬ blk ∈ [sg]) (hs0 : 0 ≤ s) (hs1 : s ≤ 1000) (aI bI : Int) (eaI : aI = ((a : Nat) : Int)) (ebI : bI = ((b : Nat) : Int)) (w : World) (hW : Out [blk] W0 w) (hB : Blk w blk t (cA d)) (hG : Blk w sg ti #[.int .i64 s]) :
    Calls Try.prog 92 #[.agg #[.func (.func g) #[] lb, .func (.func sf) #[] sb], .int .i64 aI, .int .i64 bI, .pointer (some ⟨sg, 0, none⟩)] w (Turns sg ti cOne w fun v s' => (∃ x y : Int, v = .tuple #[.int .i64 x, .int .i64 y] ∧ ((x = (a : Int) ∧ y = (b : Int)) ∨ (x = (b : Int) ∧ y = (a : Int)))) ∧ 0 ≤ s'[0]! ∧ s'[0]! ≤ s + 1) := by
  subst eaI
  subst ebI
  have _ := eg
  have _ := hL
  have _ := hS
  have _ := hn
  have _ := hla
  have _ := hlb
  have _ := hs
  have _ := hsg
  have _ := hne
  have _ := hs0
  have _ := hs1
  have _ := hW
  have _ := hB
  have _ := hG
  refine enterF Try.func92 rfl 24 Try.ntmps92 [.agg #[.func (.func g) #[] lb, .func (.func sf) #[] sb], .int .i64 ((a : Nat) : Int), .int .i64 ((b : Nat) : Int), .pointer (some ⟨sg, 0, none⟩)] rfl [(0, .agg #[.func (.func g) #[] lb, .func (.func sf) #[] sb]), (1, .int .i64 ((a : Nat) : Int)), (2, .int .i64 ((b : Nat) : Int)), (3, .pointer (some ⟨sg, 0, none⟩))] rfl ?_
  intro φ F
  have M := Mm.start [sg] w
  replace M := M.addX (hG) (by simp) (by simp [Ent.fp] <;> omega)
  refine wp_seq ?_
  -- region 0
  refine wp_region_lit ?_
  refine sq_box F M (wt0 rfl) rfl (F.ev rfl) (cs := #[.func (.func g) #[] lb, .func (.func sf) #[] sb]) rfl rfl rfl ?_; clear F M; intro φ ω g1 F M
  refine sq_pure F (wt0 rfl) (pu_assign rfl (evk)) rfl rfl ?_; clear F; intro φ F
  refine sq_pure F (wt0 rfl) (pu_assign rfl (evk)) rfl rfl ?_; clear F; intro φ F
  refine nx ?_
  refine wp_seq ?_
  refine wp_seq ?_
  -- region 1
  refine wp_region_lit ?_
  refine sq_pure F (wt0 rfl) (pu_field rfl (F.ev rfl) fo97_0) rfl rfl ?_; clear F; intro φ F
  refine sq_rd F (wt0 rfl) (ld_cell rfl (F.ev rfl) one83 (M.rd (i := 0) rfl) rfl) rfl rfl ?_; clear F; intro φ F
  refine sq_pure F (wt0 rfl) (pu_move rfl (F.ev rfl)) rfl rfl ?_; clear F; intro φ F
  refine sq_pure F (wt0 rfl) (pu_move rfl (F.ev rfl)) rfl rfl ?_; clear F; intro φ F
  refine sq_callV F M (wt0 rfl) rfl (F.ev rfl) eg (evc (F.ev rfl) (evc (F.ev rfl) evn)) (hL.at (d := d) (i := b) (j := a) hs (by omega) (by omega) (by omega) (by omega) (hW.trans M.out (fun g hg => .inl (by simp at hg; subst hg; exact hsg))) (M.out.blk hB hne)) rfl rfl ?_; clear F M; intro φ ω F M
  refine nx ?_
  cases hs1 : (lt d[b]! d[a]!)
  · rw [hs1] at F
    refine wp_cond_false (F.ev rfl) ?_
    refine wp_skip ?_
    refine nxq ?_
    refine wp_seq ?_
    -- region 4
    refine wp_region_lit ?_
    refine sq_pure F (wt0 rfl) (pu_move rfl (F.ev rfl)) rfl rfl ?_; clear F; intro φ F
    refine sq_pure F (wt0 rfl) (pu_move rfl (F.ev rfl)) rfl rfl ?_; clear F; intro φ F
    refine sq_pure F (wt0 rfl) (pu_assign rfl (F.ev rfl)) rfl rfl ?_; clear F; intro φ F
    refine sq_pure F (wt0 rfl) (pu_assign rfl (F.ev rfl)) rfl rfl ?_; clear F; intro φ F
    refine nx ?_
    refine wp_ret ?_
    refine rt_tmp2 F rfl rfl rfl ?_
    exact ⟨_, #[s], rfl, M.out, M.at (i := 1) rfl, ⟨_, _, rfl, by omega⟩, by simp; try omega, by simp; try omega⟩
  · rw [hs1] at F
    refine wp_cond_true (F.ev rfl) ?_
    refine wp_seq ?_
    -- region 2
    refine wp_region_lit ?_
    refine sq_pure F (wt0 rfl) (pu_move rfl (F.ev rfl)) rfl rfl ?_; clear F; intro φ F
    refine sq_pure F (wt0 rfl) (pu_nilCheck rfl (F.ev rfl)) rfl rfl ?_; clear F; intro φ F
    refine sq_rd F (wt0 rfl) (ld_cell rfl (F.ev rfl) one3 (M.rd (i := 1) rfl) rfl) rfl rfl ?_; clear F; intro φ F
    refine sq_pure F (wt0 rfl) (pu_add rfl (F.ev rfl) (evk) (by omega) (by omega)) rfl rfl ?_; clear F; intro φ F
    refine sq_pure F (wt0 rfl) (pu_nilCheck rfl (F.ev rfl)) rfl rfl ?_; clear F; intro φ F
    refine sq_stC F M (wt0 rfl) rfl (F.ev rfl) (F.ev rfl) (i := 1) rfl (by simp) si3 rfl rfl rfl ?_; clear M; intro ω M
    replace M : Mm [sg] w ω [.blk g1 97 #[.func (.func g) #[] lb, .func (.func sf) #[] sb], .blk sg ti #[.int .i64 (s + 1)]] := M
    refine nx ?_
    refine wp_seq ?_
    -- region 3
    refine wp_region_lit ?_
    refine sq_pure F (wt0 rfl) (pu_move rfl (F.ev rfl)) rfl rfl ?_; clear F; intro φ F
    refine sq_pure F (wt0 rfl) (pu_move rfl (F.ev rfl)) rfl rfl ?_; clear F; intro φ F
    refine sq_pure F (wt0 rfl) (pu_assign rfl (F.ev rfl)) rfl rfl ?_; clear F; intro φ F
    refine sq_pure F (wt0 rfl) (pu_assign rfl (F.ev rfl)) rfl rfl ?_; clear F; intro φ F
    refine nx ?_
    refine wp_ret ?_
    refine nxr ?_
    refine rt_tmp2 F rfl rfl rfl ?_
    exact ⟨_, #[s + 1], rfl, M.out, M.at (i := 1) rfl, ⟨_, _, rfl, by omega⟩, by simp; try omega, by simp; try omega⟩

set_option maxHeartbeats 2000000 in
theorem med_any {α : Type} [Inhabited α] {lt : α → α → Bool} {g : Nat} {lb : Array Value} {sf : Nat} {sb : Array Value} {blk t n : Nat} {W0 : World} {cA : Array α → Array Value} (eg : enters Try.prog g = true) (hL : LessOK Try.prog g lb lt blk t n W0 cA) (hS : SwapOK Try.prog sf sb blk t n cA) (hn : n ≤ 1000000000) (a : Nat) (b : Nat) (c : Nat) (hla : a < n) (hlb : b < n) (hlc : c < n) (sg ti : Nat) (s : Int) (d : Array α) (hs : d.size = n) (hsg : W0.heap.size ≤ sg) (hne : ¬ blk ∈ [sg]) (hs0 : 0 ≤ s) (hs1 : s ≤ 990) (aI bI cI : Int) (eaI : aI = ((a : Nat) : Int)) (ebI : bI = ((b : Nat) : Int)) (ecI : cI = ((c : Nat) : Int)) (w : World) (hW : Out [blk] W0 w) (hB : Blk w blk t (cA d)) (hG : Blk w sg ti #[.int .i64 s]) :
    Calls Try.prog 91 #[.agg #[.func (.func g) #[] lb, .func (.func sf) #[] sb], .int .i64 aI, .int .i64 bI, .int .i64 cI, .pointer (some ⟨sg, 0, none⟩)] w (Turns sg ti cOne w fun v s' => (∃ x : Int, v = .int .i64 x ∧ (x = (a : Int) ∨ x = (b : Int) ∨ x = (c : Int))) ∧ 0 ≤ s'[0]! ∧ s'[0]! ≤ s + 3) := by
  subst eaI
  subst ebI
  subst ecI
  have _ := eg
  have _ := hL
  have _ := hS
  have _ := hn
  have _ := hla
  have _ := hlb
  have _ := hlc
  have _ := hs
  have _ := hsg
  have _ := hne
  have _ := hs0
  have _ := hs1
  have _ := hW
  have _ := hB
  have _ := hG
  refine enterF Try.func91 rfl 36 Try.ntmps91 [.agg #[.func (.func g) #[] lb, .func (.func sf) #[] sb], .int .i64 ((a : Nat) : Int), .int .i64 ((b : Nat) : Int), .int .i64 ((c : Nat) : Int), .pointer (some ⟨sg, 0, none⟩)] rfl [(0, .agg #[.func (.func g) #[] lb, .func (.func sf) #[] sb]), (1, .int .i64 ((a : Nat) : Int)), (2, .int .i64 ((b : Nat) : Int)), (3, .int .i64 ((c : Nat) : Int)), (4, .pointer (some ⟨sg, 0, none⟩))] rfl ?_
  intro φ F
  have M := Mm.start [sg] w
  replace M := M.addX (hG) (by simp) (by simp [Ent.fp] <;> omega)
  refine wp_seq ?_
  -- region 0
  refine wp_region_lit ?_
  refine sq_box F M (wt0 rfl) rfl (F.ev rfl) (cs := #[.func (.func g) #[] lb, .func (.func sf) #[] sb]) rfl rfl rfl ?_; clear F M; intro φ ω g1 F M
  refine sq_pure F (wt0 rfl) (pu_assign rfl (evk)) rfl rfl ?_; clear F; intro φ F
  refine nx ?_
  refine wp_seq ?_
  -- region 1
  refine wp_region_lit ?_
  refine sq_rd F (wt0 rfl) (ld_agg rfl (F.ev rfl) agg97 (M.rd (i := 0) rfl) rfl) rfl rfl ?_; clear F; intro φ F
  refine sq_pure F (wt0 rfl) (pu_move rfl (F.ev rfl)) rfl rfl ?_; clear F; intro φ F
  refine sq_pure F (wt0 rfl) (pu_move rfl (F.ev rfl)) rfl rfl ?_; clear F; intro φ F
  refine sq_pure F (wt0 rfl) (pu_move rfl (F.ev rfl)) rfl rfl ?_; clear F; intro φ F
  refine sq_callX F M (wt0 rfl) rfl en92 (evc (F.ev rfl) (evc (F.ev rfl) (evc (F.ev rfl) (evc (F.ev rfl) evn)))) (i := 1) (cA := cOne) (d0 := #[s]) rfl (ord2_any eg hL hS hn a b (by omega) (by omega) sg ti s d hs hsg hne (by omega) (by omega) _ _ (by omega) (by omega) _ (hW.trans M.out (fun g hg => .inl (by simp at hg; subst hg; exact hsg))) (M.out.blk hB hne) (M.at (i := 1) rfl)) rfl rfl ?_; clear F M; rintro φ ω _ e1 ⟨⟨x1, y1, rfl, hxy1⟩, hc1, hcc1⟩ F M
  replace M : Mm [sg] w ω [.blk g1 97 #[.func (.func g) #[] lb, .func (.func sf) #[] sb], .blk sg ti #[.int .i64 (e1[0]!)]] := M
  refine sq_pure F (wt0 rfl) (pu_move rfl (F.ev rfl)) rfl rfl ?_; clear F; intro φ F
  refine sq_pure F (wt0 rfl) (pu_extract rfl (F.ev rfl) rfl) rfl rfl ?_; clear F; intro φ F
  refine sq_pure F (wt0 rfl) (pu_extract rfl (F.ev rfl) rfl) rfl rfl ?_; clear F; intro φ F
  refine sq_pure F (wt0 rfl) (pu_assign rfl (F.ev rfl)) rfl rfl ?_; clear F; intro φ F
  refine sq_pure F (wt0 rfl) (pu_assign rfl (F.ev rfl)) rfl rfl ?_; clear F; intro φ F
  refine nx ?_
  refine wp_seq ?_
  -- region 2
  refine wp_region_lit ?_
  refine sq_rd F (wt0 rfl) (ld_agg rfl (F.ev rfl) agg97 (M.rd (i := 0) rfl) rfl) rfl rfl ?_; clear F; intro φ F
  refine sq_pure F (wt0 rfl) (pu_move rfl (F.ev rfl)) rfl rfl ?_; clear F; intro φ F
  refine sq_pure F (wt0 rfl) (pu_move rfl (F.ev rfl)) rfl rfl ?_; clear F; intro φ F
  refine sq_pure F (wt0 rfl) (pu_move rfl (F.ev rfl)) rfl rfl ?_; clear F; intro φ F
  refine sq_callX F M (wt0 rfl) rfl en92 (evc (F.ev rfl) (evc (F.ev rfl) (evc (F.ev rfl) (evc (F.ev rfl) evn)))) (i := 1) (cA := cOne) (d0 := #[(e1[0]!)]) rfl (ord2_any eg hL hS hn ((y1).toNat) c (by omega) (by omega) sg ti (e1[0]!) d hs hsg hne (by omega) (by omega) _ _ (by omega) (by omega) _ (hW.trans M.out (fun g hg => .inl (by simp at hg; subst hg; exact hsg))) (M.out.blk hB hne) (M.at (i := 1) rfl)) rfl rfl ?_; clear F M; rintro φ ω _ e2 ⟨⟨x2, y2, rfl, hxy2⟩, hc2, hcc2⟩ F M
  replace M : Mm [sg] w ω [.blk g1 97 #[.func (.func g) #[] lb, .func (.func sf) #[] sb], .blk sg ti #[.int .i64 (e2[0]!)]] := M
  refine sq_pure F (wt0 rfl) (pu_move rfl (F.ev rfl)) rfl rfl ?_; clear F; intro φ F
  refine sq_pure F (wt0 rfl) (pu_extract rfl (F.ev rfl) rfl) rfl rfl ?_; clear F; intro φ F
  refine sq_pure F (wt0 rfl) (pu_extract rfl (F.ev rfl) rfl) rfl rfl ?_; clear F; intro φ F
  refine sq_pure F (wt0 rfl) (pu_assign rfl (F.ev rfl)) rfl rfl ?_; clear F; intro φ F
  refine sq_pure F (wt0 rfl) (pu_assign rfl (F.ev rfl)) rfl rfl ?_; clear F; intro φ F
  refine nx ?_
  refine wp_seq ?_
  -- region 3
  refine wp_region_lit ?_
  refine sq_rd F (wt0 rfl) (ld_agg rfl (F.ev rfl) agg97 (M.rd (i := 0) rfl) rfl) rfl rfl ?_; clear F; intro φ F
  refine sq_pure F (wt0 rfl) (pu_move rfl (F.ev rfl)) rfl rfl ?_; clear F; intro φ F
  refine sq_pure F (wt0 rfl) (pu_move rfl (F.ev rfl)) rfl rfl ?_; clear F; intro φ F
  refine sq_pure F (wt0 rfl) (pu_move rfl (F.ev rfl)) rfl rfl ?_; clear F; intro φ F
  refine sq_callX F M (wt0 rfl) rfl en92 (evc (F.ev rfl) (evc (F.ev rfl) (evc (F.ev rfl) (evc (F.ev rfl) evn)))) (i := 1) (cA := cOne) (d0 := #[(e2[0]!)]) rfl (ord2_any eg hL hS hn ((x1).toNat) ((x2).toNat) (by omega) (by omega) sg ti (e2[0]!) d hs hsg hne (by omega) (by omega) _ _ (by omega) (by omega) _ (hW.trans M.out (fun g hg => .inl (by simp at hg; subst hg; exact hsg))) (M.out.blk hB hne) (M.at (i := 1) rfl)) rfl rfl ?_; clear F M; rintro φ ω _ e3 ⟨⟨x3, y3, rfl, hxy3⟩, hc3, hcc3⟩ F M
  replace M : Mm [sg] w ω [.blk g1 97 #[.func (.func g) #[] lb, .func (.func sf) #[] sb], .blk sg ti #[.int .i64 (e3[0]!)]] := M
  refine sq_pure F (wt0 rfl) (pu_move rfl (F.ev rfl)) rfl rfl ?_; clear F; intro φ F
  refine sq_pure F (wt0 rfl) (pu_extract rfl (F.ev rfl) rfl) rfl rfl ?_; clear F; intro φ F
  refine sq_pure F (wt0 rfl) (pu_extract rfl (F.ev rfl) rfl) rfl rfl ?_; clear F; intro φ F
  refine sq_pure F (wt0 rfl) (pu_assign rfl (F.ev rfl)) rfl rfl ?_; clear F; intro φ F
  refine sq_pure F (wt0 rfl) (pu_assign rfl (F.ev rfl)) rfl rfl ?_; clear F; intro φ F
  refine nx ?_
  refine wp_seq ?_
  -- region 4
  refine wp_region_lit ?_
  refine sq_pure F (wt0 rfl) (pu_move rfl (F.ev rfl)) rfl rfl ?_; clear F; intro φ F
  refine sq_pure F (wt0 rfl) (pu_assign rfl (F.ev rfl)) rfl rfl ?_; clear F; intro φ F
  refine nx ?_
  refine wp_ret ?_
  refine rt_tmp F rfl rfl ?_
  exact ⟨_, #[(e3[0]!)], rfl, M.out, M.at (i := 1) rfl, ⟨_, rfl, by omega⟩, by simp; try omega, by simp; try omega⟩

set_option maxHeartbeats 2000000 in
theorem meda_any {α : Type} [Inhabited α] {lt : α → α → Bool} {g : Nat} {lb : Array Value} {sf : Nat} {sb : Array Value} {blk t n : Nat} {W0 : World} {cA : Array α → Array Value} (eg : enters Try.prog g = true) (hL : LessOK Try.prog g lb lt blk t n W0 cA) (hS : SwapOK Try.prog sf sb blk t n cA) (hn : n ≤ 1000000000) (a : Nat) (hl0 : 1 ≤ a) (hla : a + 1 < n) (sg ti : Nat) (s : Int) (d : Array α) (hs : d.size = n) (hsg : W0.heap.size ≤ sg) (hne : ¬ blk ∈ [sg]) (hs0 : 0 ≤ s) (hs1 : s ≤ 980) (aI : Int) (eaI : aI = ((a : Nat) : Int)) (w : World) (hW : Out [blk] W0 w) (hB : Blk w blk t (cA d)) (hG : Blk w sg ti #[.int .i64 s]) :
    Calls Try.prog 90 #[.agg #[.func (.func g) #[] lb, .func (.func sf) #[] sb], .int .i64 aI, .pointer (some ⟨sg, 0, none⟩)] w (Turns sg ti cOne w fun v s' => (∃ x : Int, v = .int .i64 x ∧ (a : Int) - 1 ≤ x ∧ x ≤ (a : Int) + 1) ∧ 0 ≤ s'[0]! ∧ s'[0]! ≤ s + 3) := by
  subst eaI
  have _ := eg
  have _ := hL
  have _ := hS
  have _ := hn
  have _ := hl0
  have _ := hla
  have _ := hs
  have _ := hsg
  have _ := hne
  have _ := hs0
  have _ := hs1
  have _ := hW
  have _ := hB
  have _ := hG
  refine enterF Try.func90 rfl 15 Try.ntmps90 [.agg #[.func (.func g) #[] lb, .func (.func sf) #[] sb], .int .i64 ((a : Nat) : Int), .pointer (some ⟨sg, 0, none⟩)] rfl [(0, .agg #[.func (.func g) #[] lb, .func (.func sf) #[] sb]), (1, .int .i64 ((a : Nat) : Int)), (2, .pointer (some ⟨sg, 0, none⟩))] rfl ?_
  intro φ F
  have M := Mm.start [sg] w
  replace M := M.addX (hG) (by simp) (by simp [Ent.fp] <;> omega)
  refine wp_seq ?_
  -- region 0
  refine wp_region_lit ?_
  refine sq_box F M (wt0 rfl) rfl (F.ev rfl) (cs := #[.func (.func g) #[] lb, .func (.func sf) #[] sb]) rfl rfl rfl ?_; clear F M; intro φ ω g1 F M
  refine sq_pure F (wt0 rfl) (pu_assign rfl (evk)) rfl rfl ?_; clear F; intro φ F
  refine nx ?_
  refine wp_seq ?_
  -- region 1
  refine wp_region_lit ?_
  refine sq_rd F (wt0 rfl) (ld_agg rfl (F.ev rfl) agg97 (M.rd (i := 0) rfl) rfl) rfl rfl ?_; clear F; intro φ F
  refine sq_pure F (wt0 rfl) (pu_move rfl (F.ev rfl)) rfl rfl ?_; clear F; intro φ F
  refine sq_pure F (wt0 rfl) (pu_sub rfl (F.ev rfl) (evk) (by omega) (by omega)) rfl rfl ?_; clear F; intro φ F
  refine sq_pure F (wt0 rfl) (pu_move rfl (F.ev rfl)) rfl rfl ?_; clear F; intro φ F
  refine sq_pure F (wt0 rfl) (pu_move rfl (F.ev rfl)) rfl rfl ?_; clear F; intro φ F
  refine sq_pure F (wt0 rfl) (pu_add rfl (F.ev rfl) (evk) (by omega) (by omega)) rfl rfl ?_; clear F; intro φ F
  refine sq_pure F (wt0 rfl) (pu_move rfl (F.ev rfl)) rfl rfl ?_; clear F; intro φ F
  refine sq_callX F M (wt0 rfl) rfl en91 (evc (F.ev rfl) (evc (F.ev rfl) (evc (F.ev rfl) (evc (F.ev rfl) (evc (F.ev rfl) evn))))) (i := 1) (cA := cOne) (d0 := #[s]) rfl (med_any eg hL hS hn ((((a : Nat) : Int) - 1).toNat) a ((((a : Nat) : Int) + 1).toNat) (by omega) (by omega) (by omega) sg ti s d hs hsg hne (by omega) (by omega) _ _ _ (by omega) (by omega) (by omega) _ (hW.trans M.out (fun g hg => .inl (by simp at hg; subst hg; exact hsg))) (M.out.blk hB hne) (M.at (i := 1) rfl)) rfl rfl ?_; clear F M; rintro φ ω _ e1 ⟨⟨x1, rfl, hxy1⟩, hc1, hcc1⟩ F M
  replace M : Mm [sg] w ω [.blk g1 97 #[.func (.func g) #[] lb, .func (.func sf) #[] sb], .blk sg ti #[.int .i64 (e1[0]!)]] := M
  refine sq_pure F (wt0 rfl) (pu_assign rfl (F.ev rfl)) rfl rfl ?_; clear F; intro φ F
  refine nx ?_
  refine wp_ret ?_
  refine rt_tmp F rfl rfl ?_
  exact ⟨_, #[(e1[0]!)], rfl, M.out, M.at (i := 1) rfl, ⟨_, rfl, by omega⟩, by simp; try omega, by simp; try omega⟩

set_option maxHeartbeats 2000000 in
theorem pivot_any {α : Type} [Inhabited α] {lt : α → α → Bool} {g : Nat} {lb : Array Value} {sf : Nat} {sb : Array Value} {blk t n : Nat} {W0 : World} {cA : Array α → Array Value} (eg : enters Try.prog g = true) (hL : LessOK Try.prog g lb lt blk t n W0 cA) (hS : SwapOK Try.prog sf sb blk t n cA) (hn : n ≤ 1000000000) (a b : Nat) (d : Array α) (hs : d.size = n) (hab : a + 12 < b) (hb : b ≤ n) (aI bI : Int) (eaI : aI = ((a : Nat) : Int)) (ebI : bI = ((b : Nat) : Int)) (w : World) (hW : Out [blk] W0 w) (hB : Blk w blk t (cA d)) :
    Calls Try.prog 82 #[.agg #[.func (.func g) #[] lb, .func (.func sf) #[] sb], .int .i64 aI, .int .i64 bI] w (fun e w' => ∃ v, e = .returned v ∧ Below w.heap.size w w' ∧ ∃ p h : Int, v = .tuple #[.int .i64 p, .int .i64 h] ∧ (a : Int) ≤ p ∧ p < (b : Int)) := by
  subst eaI
  subst ebI
  have _ := eg
  have _ := hL
  have _ := hS
  have _ := hn
  have _ := hs
  have _ := hab
  have _ := hb
  have _ := hW
  have _ := hB
  refine enterF Try.func82 rfl 57 Try.ntmps82 [.agg #[.func (.func g) #[] lb, .func (.func sf) #[] sb], .int .i64 ((a : Nat) : Int), .int .i64 ((b : Nat) : Int)] rfl [(0, .agg #[.func (.func g) #[] lb, .func (.func sf) #[] sb]), (1, .int .i64 ((a : Nat) : Int)), (2, .int .i64 ((b : Nat) : Int))] rfl ?_
  intro φ F
  have M := Mm.start [] w
  refine wp_seq ?_
  -- region 0
  refine wp_region_lit ?_
  refine sq_box F M (wt0 rfl) rfl (F.ev rfl) (cs := #[.func (.func g) #[] lb, .func (.func sf) #[] sb]) rfl rfl rfl ?_; clear F M; intro φ ω g1 F M
  refine sq_pure F (wt0 rfl) (pu_assign rfl (evk)) rfl rfl ?_; clear F; intro φ F
  refine sq_pure F (wt0 rfl) (pu_assign rfl (evk)) rfl rfl ?_; clear F; intro φ F
  refine nx ?_
  refine wp_seq ?_
  -- region 1
  refine wp_region_lit ?_
  refine sq_pure F (wt0 rfl) (pu_move rfl (F.ev rfl)) rfl rfl ?_; clear F; intro φ F
  refine sq_pure F (wt0 rfl) (pu_move rfl (F.ev rfl)) rfl rfl ?_; clear F; intro φ F
  refine sq_pure F (wt0 rfl) (pu_sub rfl (F.ev rfl) (F.ev rfl) (by omega) (by omega)) rfl rfl ?_; clear F; intro φ F
  refine sq_pure F (wt0 rfl) (pu_assign rfl (F.ev rfl)) rfl rfl ?_; clear F; intro φ F
  refine nx ?_
  refine wp_seq ?_
  -- region 2
  refine wp_region_lit ?_
  refine sq_alloc F M (wt0 rfl) rfl z3 rfl rfl ?_; clear F M; intro φ ω g2 F M
  refine nx ?_
  refine wp_seq ?_
  -- region 3
  refine wp_region_lit ?_
  refine sq_pure F (wt0 rfl) (pu_move rfl (F.ev rfl)) rfl rfl ?_; clear F; intro φ F
  refine sq_pure F (wt0 rfl) (pu_move rfl (F.ev rfl)) rfl rfl ?_; clear F; intro φ F
  refine sq_pure F (wt0 rfl) (pu_quo rfl (F.ev rfl) (evk) (by omega) (by omega) (by omega)) rfl rfl ?_; clear F; intro φ F
  refine sq_pure F (wt0 rfl) (pu_mul rfl (F.ev rfl) (evk) (by omega) (by omega)) rfl rfl ?_; clear F; intro φ F
  refine sq_pure F (wt0 rfl) (pu_add rfl (F.ev rfl) (F.ev rfl) (by omega) (by omega)) rfl rfl ?_; clear F; intro φ F
  refine sq_pure F (wt0 rfl) (pu_assign rfl (F.ev rfl)) rfl rfl ?_; clear F; intro φ F
  refine nx ?_
  refine wp_seq ?_
  -- region 4
  refine wp_region_lit ?_
  refine sq_pure F (wt0 rfl) (pu_move rfl (F.ev rfl)) rfl rfl ?_; clear F; intro φ F
  refine sq_pure F (wt0 rfl) (pu_move rfl (F.ev rfl)) rfl rfl ?_; clear F; intro φ F
  refine sq_pure F (wt0 rfl) (pu_quo rfl (F.ev rfl) (evk) (by omega) (by omega) (by omega)) rfl rfl ?_; clear F; intro φ F
  refine sq_pure F (wt0 rfl) (pu_mul rfl (F.ev rfl) (evk) (by omega) (by omega)) rfl rfl ?_; clear F; intro φ F
  refine sq_pure F (wt0 rfl) (pu_add rfl (F.ev rfl) (F.ev rfl) (by omega) (by omega)) rfl rfl ?_; clear F; intro φ F
  refine sq_pure F (wt0 rfl) (pu_assign rfl (F.ev rfl)) rfl rfl ?_; clear F; intro φ F
  refine nx ?_
  refine wp_seq ?_
  -- region 5
  refine wp_region_lit ?_
  refine sq_pure F (wt0 rfl) (pu_move rfl (F.ev rfl)) rfl rfl ?_; clear F; intro φ F
  refine sq_pure F (wt0 rfl) (pu_move rfl (F.ev rfl)) rfl rfl ?_; clear F; intro φ F
  refine sq_pure F (wt0 rfl) (pu_quo rfl (F.ev rfl) (evk) (by omega) (by omega) (by omega)) rfl rfl ?_; clear F; intro φ F
  refine sq_pure F (wt0 rfl) (pu_mul rfl (F.ev rfl) (evk) (by omega) (by omega)) rfl rfl ?_; clear F; intro φ F
  refine sq_pure F (wt0 rfl) (pu_add rfl (F.ev rfl) (F.ev rfl) (by omega) (by omega)) rfl rfl ?_; clear F; intro φ F
  refine sq_pure F (wt0 rfl) (pu_assign rfl (F.ev rfl)) rfl rfl ?_; clear F; intro φ F
  refine nx ?_
  refine wp_seq ?_
  refine wp_cut (fun φ' w' => ∃ jv : Int, ∃ sv : Int, Fr φ' 57 [(0, .agg #[.func (.func g) #[] lb, .func (.func sf) #[] sb]), (1, .int .i64 ((a : Nat) : Int)), (2, .int .i64 ((b : Nat) : Int)), (3, .pointer (some ⟨g1, 0, none⟩)), (8, .int .i64 (((b : Nat) : Int) - ((a : Nat) : Int))), (9, .pointer (some ⟨g2, 0, none⟩)), (11, .int .i64 jv)] ∧ Mm [] w w' [.blk g2 3 #[.int .i64 sv], .blk g1 97 #[.func (.func g) #[] lb, .func (.func sf) #[] sb]] ∧ ((a : Int) ≤ jv) ∧ (jv < (b : Int)) ∧ (0 ≤ sv) ∧ (sv ≤ 12)) ?_ ?_
  · skip
    refine wp_seq ?_
    -- region 6
    refine wp_region_lit ?_
    refine sq_pure F (wt0 rfl) (pu_move rfl (F.ev rfl)) rfl rfl ?_; clear F; intro φ F
    refine sq_pure F (wt0 rfl) (pu_geq rfl (F.ev rfl) (evk)) rfl rfl ?_; clear F; intro φ F
    refine nx ?_
    cases hs1 : (decide (8 ≤ ((b : Nat) : Int) - ((a : Nat) : Int)))
    · rw [hs1] at F
      have hs1i := of_decide_eq_false hs1
      refine wp_cond_false (F.ev rfl) ?_
      refine wp_skip ?_
      exact ⟨((a : Nat) : Int) + ((((b : Nat) : Int) - ((a : Nat) : Int)) / 4) * 2, 0, (((((((F.nil.cons (F.get (k := 11) rfl)).cons (F.get (k := 9) rfl)).cons (F.get (k := 8) rfl)).cons (F.get (k := 3) rfl)).cons (F.get (k := 2) rfl)).cons (F.get (k := 1) rfl)).cons (F.get (k := 0) rfl)), M, by omega, by omega, by omega, by omega⟩
    · rw [hs1] at F
      have hs1i := of_decide_eq_true hs1
      refine wp_cond_true (F.ev rfl) ?_
      refine wp_seq ?_
      refine wp_cut (fun φ' w' => ∃ iv : Int, ∃ jv : Int, ∃ kv : Int, ∃ sv : Int, Fr φ' 57 [(0, .agg #[.func (.func g) #[] lb, .func (.func sf) #[] sb]), (1, .int .i64 ((a : Nat) : Int)), (2, .int .i64 ((b : Nat) : Int)), (3, .pointer (some ⟨g1, 0, none⟩)), (8, .int .i64 (((b : Nat) : Int) - ((a : Nat) : Int))), (9, .pointer (some ⟨g2, 0, none⟩)), (10, .int .i64 iv), (11, .int .i64 jv), (12, .int .i64 kv)] ∧ Mm [] w w' [.blk g2 3 #[.int .i64 sv], .blk g1 97 #[.func (.func g) #[] lb, .func (.func sf) #[] sb]] ∧ ((a : Int) ≤ iv) ∧ (iv < (b : Int)) ∧ ((a : Int) ≤ jv) ∧ (jv < (b : Int)) ∧ ((a : Int) ≤ kv) ∧ (kv < (b : Int)) ∧ (0 ≤ sv) ∧ (sv ≤ 9)) ?_ ?_
      · skip
        refine wp_seq ?_
        -- region 7
        refine wp_region_lit ?_
        refine sq_pure F (wt0 rfl) (pu_move rfl (F.ev rfl)) rfl rfl ?_; clear F; intro φ F
        refine sq_pure F (wt0 rfl) (pu_geq rfl (F.ev rfl) (evk)) rfl rfl ?_; clear F; intro φ F
        refine nx ?_
        cases hs2 : (decide (50 ≤ ((b : Nat) : Int) - ((a : Nat) : Int)))
        · rw [hs2] at F
          have hs2i := of_decide_eq_false hs2
          refine wp_cond_false (F.ev rfl) ?_
          refine wp_skip ?_
          exact ⟨((a : Nat) : Int) + ((((b : Nat) : Int) - ((a : Nat) : Int)) / 4) * 1, ((a : Nat) : Int) + ((((b : Nat) : Int) - ((a : Nat) : Int)) / 4) * 2, ((a : Nat) : Int) + ((((b : Nat) : Int) - ((a : Nat) : Int)) / 4) * 3, 0, (((((((((F.nil.cons (F.get (k := 12) rfl)).cons (F.get (k := 11) rfl)).cons (F.get (k := 10) rfl)).cons (F.get (k := 9) rfl)).cons (F.get (k := 8) rfl)).cons (F.get (k := 3) rfl)).cons (F.get (k := 2) rfl)).cons (F.get (k := 1) rfl)).cons (F.get (k := 0) rfl)), M, by omega, by omega, by omega, by omega, by omega, by omega, by omega, by omega⟩
        · rw [hs2] at F
          have hs2i := of_decide_eq_true hs2
          refine wp_cond_true (F.ev rfl) ?_
          refine wp_seq ?_
          -- region 8
          refine wp_region_lit ?_
          refine sq_rd F (wt0 rfl) (ld_agg rfl (F.ev rfl) agg97 (M.rd (i := 1) rfl) rfl) rfl rfl ?_; clear F; intro φ F
          refine sq_pure F (wt0 rfl) (pu_move rfl (F.ev rfl)) rfl rfl ?_; clear F; intro φ F
          refine sq_callX F M (wt0 rfl) rfl en90 (evc (F.ev rfl) (evc (F.ev rfl) (evc (F.ev rfl) evn))) (i := 0) (cA := cOne) (d0 := #[0]) rfl (meda_any eg hL hS hn ((((a : Nat) : Int) + ((((b : Nat) : Int) - ((a : Nat) : Int)) / 4) * 1).toNat) (by omega) (by omega) g2 3 0 d hs (by have := M.newer (i := 0) rfl (by simp); have := hW.size; omega) (by have := M.newer (i := 0) rfl (by simp); have := hB.lt; simp; omega) (by omega) (by omega) _ (by omega) _ (hW.trans M.out (fun _ h => absurd h (by simp))) (M.out.blk hB (by simp)) (M.at (i := 0) rfl)) rfl rfl ?_; clear F M; rintro φ ω _ e1 ⟨⟨x1, rfl, hxy1⟩, hc1, hcc1⟩ F M
          replace M : Mm [] w ω [.blk g2 3 #[.int .i64 (e1[0]!)], .blk g1 97 #[.func (.func g) #[] lb, .func (.func sf) #[] sb]] := M
          refine sq_pure F (wt0 rfl) (pu_assign rfl (F.ev rfl)) rfl rfl ?_; clear F; intro φ F
          refine nx ?_
          refine wp_seq ?_
          -- region 9
          refine wp_region_lit ?_
          refine sq_rd F (wt0 rfl) (ld_agg rfl (F.ev rfl) agg97 (M.rd (i := 1) rfl) rfl) rfl rfl ?_; clear F; intro φ F
          refine sq_pure F (wt0 rfl) (pu_move rfl (F.ev rfl)) rfl rfl ?_; clear F; intro φ F
          refine sq_callX F M (wt0 rfl) rfl en90 (evc (F.ev rfl) (evc (F.ev rfl) (evc (F.ev rfl) evn))) (i := 0) (cA := cOne) (d0 := #[(e1[0]!)]) rfl (meda_any eg hL hS hn ((((a : Nat) : Int) + ((((b : Nat) : Int) - ((a : Nat) : Int)) / 4) * 2).toNat) (by omega) (by omega) g2 3 (e1[0]!) d hs (by have := M.newer (i := 0) rfl (by simp); have := hW.size; omega) (by have := M.newer (i := 0) rfl (by simp); have := hB.lt; simp; omega) (by omega) (by omega) _ (by omega) _ (hW.trans M.out (fun _ h => absurd h (by simp))) (M.out.blk hB (by simp)) (M.at (i := 0) rfl)) rfl rfl ?_; clear F M; rintro φ ω _ e2 ⟨⟨x2, rfl, hxy2⟩, hc2, hcc2⟩ F M
          replace M : Mm [] w ω [.blk g2 3 #[.int .i64 (e2[0]!)], .blk g1 97 #[.func (.func g) #[] lb, .func (.func sf) #[] sb]] := M
          refine sq_pure F (wt0 rfl) (pu_assign rfl (F.ev rfl)) rfl rfl ?_; clear F; intro φ F
          refine nx ?_
          -- region 10
          refine wp_region_lit ?_
          refine sq_rd F (wt0 rfl) (ld_agg rfl (F.ev rfl) agg97 (M.rd (i := 1) rfl) rfl) rfl rfl ?_; clear F; intro φ F
          refine sq_pure F (wt0 rfl) (pu_move rfl (F.ev rfl)) rfl rfl ?_; clear F; intro φ F
          refine sq_callX F M (wt0 rfl) rfl en90 (evc (F.ev rfl) (evc (F.ev rfl) (evc (F.ev rfl) evn))) (i := 0) (cA := cOne) (d0 := #[(e2[0]!)]) rfl (meda_any eg hL hS hn ((((a : Nat) : Int) + ((((b : Nat) : Int) - ((a : Nat) : Int)) / 4) * 3).toNat) (by omega) (by omega) g2 3 (e2[0]!) d hs (by have := M.newer (i := 0) rfl (by simp); have := hW.size; omega) (by have := M.newer (i := 0) rfl (by simp); have := hB.lt; simp; omega) (by omega) (by omega) _ (by omega) _ (hW.trans M.out (fun _ h => absurd h (by simp))) (M.out.blk hB (by simp)) (M.at (i := 0) rfl)) rfl rfl ?_; clear F M; rintro φ ω _ e3 ⟨⟨x3, rfl, hxy3⟩, hc3, hcc3⟩ F M
          replace M : Mm [] w ω [.blk g2 3 #[.int .i64 (e3[0]!)], .blk g1 97 #[.func (.func g) #[] lb, .func (.func sf) #[] sb]] := M
          refine sq_pure F (wt0 rfl) (pu_assign rfl (F.ev rfl)) rfl rfl ?_; clear F; intro φ F
          refine wpList_nil ?_
          exact ⟨x1, x2, x3, (e3[0]!), (((((((((F.nil.cons (F.get (k := 12) rfl)).cons (F.get (k := 11) rfl)).cons (F.get (k := 10) rfl)).cons (F.get (k := 9) rfl)).cons (F.get (k := 8) rfl)).cons (F.get (k := 3) rfl)).cons (F.get (k := 2) rfl)).cons (F.get (k := 1) rfl)).cons (F.get (k := 0) rfl)), M, by omega, by omega, by omega, by omega, by omega, by omega, by omega, by omega⟩
      · skip
        clear F M
        rintro φ ω ⟨iv, jv, kv, sv, F, M, hp3_0, hp3_1, hp3_2, hp3_3, hp3_4, hp3_5, hp3_6, hp3_7⟩
        refine nxq ?_
        -- region 11
        refine wp_region_lit ?_
        refine sq_rd F (wt0 rfl) (ld_agg rfl (F.ev rfl) agg97 (M.rd (i := 1) rfl) rfl) rfl rfl ?_; clear F; intro φ F
        refine sq_pure F (wt0 rfl) (pu_move rfl (F.ev rfl)) rfl rfl ?_; clear F; intro φ F
        refine sq_pure F (wt0 rfl) (pu_move rfl (F.ev rfl)) rfl rfl ?_; clear F; intro φ F
        refine sq_pure F (wt0 rfl) (pu_move rfl (F.ev rfl)) rfl rfl ?_; clear F; intro φ F
        refine sq_callX F M (wt0 rfl) rfl en91 (evc (F.ev rfl) (evc (F.ev rfl) (evc (F.ev rfl) (evc (F.ev rfl) (evc (F.ev rfl) evn))))) (i := 0) (cA := cOne) (d0 := #[sv]) rfl (med_any eg hL hS hn ((iv).toNat) ((jv).toNat) ((kv).toNat) (by omega) (by omega) (by omega) g2 3 sv d hs (by have := M.newer (i := 0) rfl (by simp); have := hW.size; omega) (by have := M.newer (i := 0) rfl (by simp); have := hB.lt; simp; omega) (by omega) (by omega) _ _ _ (by omega) (by omega) (by omega) _ (hW.trans M.out (fun _ h => absurd h (by simp))) (M.out.blk hB (by simp)) (M.at (i := 0) rfl)) rfl rfl ?_; clear F M; rintro φ ω _ e4 ⟨⟨x4, rfl, hxy4⟩, hc4, hcc4⟩ F M
        replace M : Mm [] w ω [.blk g2 3 #[.int .i64 (e4[0]!)], .blk g1 97 #[.func (.func g) #[] lb, .func (.func sf) #[] sb]] := M
        refine sq_pure F (wt0 rfl) (pu_assign rfl (F.ev rfl)) rfl rfl ?_; clear F; intro φ F
        refine wpList_nil ?_
        exact ⟨x4, (e4[0]!), (((((((F.nil.cons (F.get (k := 11) rfl)).cons (F.get (k := 9) rfl)).cons (F.get (k := 8) rfl)).cons (F.get (k := 3) rfl)).cons (F.get (k := 2) rfl)).cons (F.get (k := 1) rfl)).cons (F.get (k := 0) rfl)), M, by omega, by omega, by omega, by omega⟩
  · skip
    clear F M
    rintro φ ω ⟨jv, sv, F, M, hp4_0, hp4_1, hp4_2, hp4_3⟩
    refine nxq ?_
    refine wp_seq ?_
    -- region 12
    refine wp_region_lit ?_
    refine sq_rd F (wt0 rfl) (ld_cell rfl (F.ev rfl) one3 (M.rd (i := 0) rfl) rfl) rfl rfl ?_; clear F; intro φ F
    refine nx ?_
    refine wp_block ?_
    refine wp_seq ?_
    -- region 14
    refine wp_region_lit ?_
    refine sq_pure F (wt0 rfl) (pu_eqlI rfl (F.ev rfl) (evk)) rfl rfl ?_; clear F; intro φ F
    refine sq_pure F (wt0 rfl) (pu_assign rfl (F.ev rfl)) rfl rfl ?_; clear F; intro φ F
    refine nx ?_
    cases hs5 : (decide (sv = 0))
    · rw [hs5] at F
      have hs5i := of_decide_eq_false hs5
      refine wp_cond_false (F.ev rfl) ?_
      refine wp_seq ?_
      -- region 16
      refine wp_region_lit ?_
      refine sq_pure F (wt0 rfl) (pu_eqlI rfl (F.ev rfl) (evk)) rfl rfl ?_; clear F; intro φ F
      refine sq_pure F (wt0 rfl) (pu_assign rfl (F.ev rfl)) rfl rfl ?_; clear F; intro φ F
      refine nx ?_
      cases hs6 : (decide (sv = 12))
      · rw [hs6] at F
        have hs6i := of_decide_eq_false hs6
        refine wp_cond_false (F.ev rfl) ?_
        refine wp_seq ?_
        -- region 13
        refine wp_region_lit ?_
        refine sq_pure F (wt0 rfl) (pu_move rfl (F.ev rfl)) rfl rfl ?_; clear F; intro φ F
        refine sq_pure F (wt0 rfl) (pu_assign rfl (F.ev rfl)) rfl rfl ?_; clear F; intro φ F
        refine sq_pure F (wt0 rfl) (pu_assign rfl (evk)) rfl rfl ?_; clear F; intro φ F
        refine nx ?_
        refine wp_ret ?_
        refine nxrb ?_
        refine rt_tmp2 F rfl rfl rfl ?_
        exact ⟨_, rfl, M.bel, _, _, rfl, by omega, by omega⟩
      · rw [hs6] at F
        have hs6i := of_decide_eq_true hs6
        refine wp_cond_true (F.ev rfl) ?_
        refine wp_seq ?_
        -- region 17
        refine wp_region_lit ?_
        refine sq_pure F (wt0 rfl) (pu_move rfl (F.ev rfl)) rfl rfl ?_; clear F; intro φ F
        refine sq_pure F (wt0 rfl) (pu_assign rfl (F.ev rfl)) rfl rfl ?_; clear F; intro φ F
        refine sq_pure F (wt0 rfl) (pu_assign rfl (evk)) rfl rfl ?_; clear F; intro φ F
        refine nx ?_
        refine wp_ret ?_
        refine nxrb ?_
        refine rt_tmp2 F rfl rfl rfl ?_
        exact ⟨_, rfl, M.bel, _, _, rfl, by omega, by omega⟩
    · rw [hs5] at F
      have hs5i := of_decide_eq_true hs5
      refine wp_cond_true (F.ev rfl) ?_
      refine wp_seq ?_
      -- region 15
      refine wp_region_lit ?_
      refine sq_pure F (wt0 rfl) (pu_move rfl (F.ev rfl)) rfl rfl ?_; clear F; intro φ F
      refine sq_pure F (wt0 rfl) (pu_assign rfl (F.ev rfl)) rfl rfl ?_; clear F; intro φ F
      refine sq_pure F (wt0 rfl) (pu_assign rfl (evk)) rfl rfl ?_; clear F; intro φ F
      refine nx ?_
      refine wp_ret ?_
      refine nxrb ?_
      refine rt_tmp2 F rfl rfl rfl ?_
      exact ⟨_, rfl, M.bel, _, _, rfl, by omega, by omega⟩

theorem bp_at {α : Type} {n blk t : Nat} {cA : Array α → Array Value} {D : Value} {Z : Nat → Nat → Array α → Value → Array α → Prop} (h : ∀ (a b : Nat) (d : Array α) (w : World), d.size = n → a ≤ b → b ≤ n → Blk w blk t (cA d) → Calls Try.prog 81 #[D, .int .i64 a, .int .i64 b] w (Turns blk t cA w (Z a b d)))
    (a b : Nat) (d : Array α) {ai bi : Int} (ea : ai = a) (eb : bi = b) (hs : d.size = n) (hab : a ≤ b) (hb : b ≤ n) (w : World) (hB : Blk w blk t (cA d)) : Calls Try.prog 81 [D, .int .i64 ai, .int .i64 bi].toArray w (Turns blk t cA w (Z a b d)) := by
  subst ea; subst eb; exact h a b d w hs hab hb hB
def PdqIH (m : Nat) {α : Type} [Inhabited α] (lt : α → α → Bool) (n : Nat) (W0 : World) (blk t : Nat) (cA : Array α → Array Value) (D : Value) : Prop :=
  ∀ (a b l : Nat) (d : Array α) (w : World), b - a < m → d.size = n → a ≤ b → b ≤ n → l ≤ 1000 → Sort.Below lt a b d → Out [blk] W0 w → Blk w blk t (cA d) → Calls Try.prog 67 #[D, .int .i64 a, .int .i64 b, .int .i64 l] w (Turns blk t cA w fun v d' => v = .tuple #[] ∧ d'.size = n ∧ PermIn a b d d' ∧ SortedIn lt a b d')
theorem pdq_at {α : Type} [Inhabited α] {m : Nat} {lt : α → α → Bool} {n : Nat} {W0 : World} {blk t : Nat} {cA : Array α → Array Value} {D : Value} (h : PdqIH m lt n W0 blk t cA D) (a b l : Nat) (d : Array α) (hm : b - a < m) (hs : d.size = n) (hab : a ≤ b) (hb : b ≤ n) (hl : l ≤ 1000) (hBl : Sort.Below lt a b d)
    {ai bi li : Int} (ea : ai = a) (eb : bi = b) (el : li = l) (w : World) (hW : Out [blk] W0 w) (hB : Blk w blk t (cA d)) : Calls Try.prog 67 [D, .int .i64 ai, .int .i64 bi, .int .i64 li].toArray w (Turns blk t cA w fun v d' => v = .tuple #[] ∧ d'.size = n ∧ PermIn a b d d' ∧ SortedIn lt a b d') := by
  subst ea; subst eb; subst el; exact h a b l d w hm hs hab hb hl hBl hW hB

set_option maxHeartbeats 2000000 in
theorem pdq_step {α : Type} [Inhabited α] {lt : α → α → Bool} {g : Nat} {lb : Array Value} {sf : Nat} {sb : Array Value} {blk t n : Nat} {W0 : World} {cA : Array α → Array Value} (eg : enters Try.prog g = true) (hL : LessOK Try.prog g lb lt blk t n W0 cA) (hS : SwapOK Try.prog sf sb blk t n cA) (hn : n ≤ 1000000000) (hO : SWO lt) (hBP : ∀ (a b : Nat) (d : Array α) (w : World), d.size = n → a ≤ b → b ≤ n → Blk w blk t (cA d) → Calls Try.prog 81 #[.agg #[.func (.func g) #[] lb, .func (.func sf) #[] sb], .int .i64 a, .int .i64 b] w (Turns blk t cA w fun v d' => v = .tuple #[] ∧ d'.size = n ∧ PermIn a b d d')) (a b l : Nat) (IH : PdqIH (b - a) lt n W0 blk t cA (.agg #[.func (.func g) #[] lb, .func (.func sf) #[] sb])) (d : Array α) (hs : d.size = n) (hab : a ≤ b) (hb : b ≤ n) (hl : l ≤ 1000) (hBl : Sort.Below lt a b d) (aI bI lI : Int) (eaI : aI = ((a : Nat) : Int)) (ebI : bI = ((b : Nat) : Int)) (elI : lI = ((l : Nat) : Int)) (w : World) (hW : Out [blk] W0 w) (hB : Blk w blk t (cA d)) :
    Calls Try.prog 67 #[.agg #[.func (.func g) #[] lb, .func (.func sf) #[] sb], .int .i64 aI, .int .i64 bI, .int .i64 lI] w (Turns blk t cA w fun v d' => v = .tuple #[] ∧ d'.size = n ∧ PermIn a b d d' ∧ SortedIn lt a b d') := by
  subst eaI
  subst ebI
  subst elI
  have _ := eg
  have _ := hL
  have _ := hS
  have _ := hn
  have _ := hO
  have _ := hBP
  have _ := hs
  have _ := hab
  have _ := hb
  have _ := hl
  have _ := hBl
  have _ := hW
  have _ := hB
  refine enterF Try.func67 rfl 130 Try.ntmps67 [.agg #[.func (.func g) #[] lb, .func (.func sf) #[] sb], .int .i64 ((a : Nat) : Int), .int .i64 ((b : Nat) : Int), .int .i64 ((l : Nat) : Int)] rfl [(0, .agg #[.func (.func g) #[] lb, .func (.func sf) #[] sb]), (1, .int .i64 ((a : Nat) : Int)), (2, .int .i64 ((b : Nat) : Int)), (3, .int .i64 ((l : Nat) : Int))] rfl ?_
  intro φ F
  have M := Mm.start [blk] w
  replace M := M.addX (hB) (by simp) (by simp [Ent.fp] <;> omega)
  refine wp_seq ?_
  -- region 0
  refine wp_region_lit ?_
  refine sq_box F M (wt0 rfl) rfl (F.ev rfl) (cs := #[.func (.func g) #[] lb, .func (.func sf) #[] sb]) rfl rfl rfl ?_; clear F M; intro φ ω g1 F M
  refine nx ?_
  refine wp_seq ?_
  -- region 1
  refine wp_region_lit ?_
  refine sq_pure F (wt0 rfl) (pu_assign rfl (evk)) rfl rfl ?_; clear F; intro φ F
  refine nx ?_
  refine wp_seq ?_
  -- region 2
  refine wp_region_lit ?_
  refine sq_pure F (wt0 rfl) (pu_assign rfl (evk)) rfl rfl ?_; clear F; intro φ F
  refine nx ?_
  refine wp_block ?_
  refine lp (σ := Nat) (fun m φ' w' => ∃ a1 : Int, ∃ b1 : Int, ∃ l1 : Int, ∃ wb : Bool, ∃ wp : Bool, ∃ d1 : Array α, Fr φ' 130 [(0, .agg #[.func (.func g) #[] lb, .func (.func sf) #[] sb]), (1, .int .i64 a1), (2, .int .i64 b1), (3, .int .i64 l1), (4, .pointer (some ⟨g1, 0, none⟩)), (8, .bool wb), (9, .bool wp)] ∧ Mm [blk] w w' [.blk g1 97 #[.func (.func g) #[] lb, .func (.func sf) #[] sb], .blk blk t (cA d1)] ∧ ((a : Int) ≤ a1) ∧ (a1 ≤ b1) ∧ (b1 ≤ (b : Int)) ∧ (b1 - a1 ≤ (m : Int)) ∧ (d1.size = n) ∧ (0 ≤ l1) ∧ (l1 ≤ 1000) ∧ (Sort.Below lt a1.toNat b1.toNat d1) ∧ ((∀ X, PermIn a1.toNat b1.toNat d1 X → SortedIn lt a1.toNat b1.toNat X → PermIn a b d X ∧ SortedIn lt a b X))) (fun m => m) (b - a) ⟨(a : Int), (b : Int), (l : Int), true, true, d, (((((((F.nil.cons (F.get (k := 9) rfl)).cons (F.get (k := 8) rfl)).cons (F.get (k := 4) rfl)).cons (F.get (k := 3) rfl)).cons (F.get (k := 2) rfl)).cons (F.get (k := 1) rfl)).cons (F.get (k := 0) rfl)), M, by omega, by omega, by omega, by omega, hs, by omega, by omega, hBl, fun X h1 h2 => ⟨h1, h2⟩⟩ ?_
  clear F M
  rintro m φ ω ⟨a1, b1, l1, wb, wp, d1, F, M, hp1_0, hp1_1, hp1_2, hp1_3, hp1_4, hp1_5, hp1_6, hp1_7, hp1_8⟩
  refine wp_block ?_
  refine wp_seq ?_
  -- region 3
  refine wp_region_lit ?_
  refine sq_pure F (wt0 rfl) (pu_move rfl (F.ev rfl)) rfl rfl ?_; clear F; intro φ F
  refine sq_pure F (wt0 rfl) (pu_move rfl (F.ev rfl)) rfl rfl ?_; clear F; intro φ F
  refine sq_pure F (wt0 rfl) (pu_sub rfl (F.ev rfl) (F.ev rfl) (by omega) (by omega)) rfl rfl ?_; clear F; intro φ F
  refine sq_pure F (wt0 rfl) (pu_assign rfl (F.ev rfl)) rfl rfl ?_; clear F; intro φ F
  refine nx ?_
  refine wp_seq ?_
  refine wp_seq ?_
  -- region 4
  refine wp_region_lit ?_
  refine sq_pure F (wt0 rfl) (pu_move rfl (F.ev rfl)) rfl rfl ?_; clear F; intro φ F
  refine sq_pure F (wt0 rfl) (pu_leq rfl (F.ev rfl) (evk)) rfl rfl ?_; clear F; intro φ F
  refine nx ?_
  cases hs2 : (decide (b1 - a1 ≤ 12))
  · rw [hs2] at F
    have hs2i := of_decide_eq_false hs2
    refine wp_cond_false (F.ev rfl) ?_
    refine wp_skip ?_
    refine nxq ?_
    refine wp_seq ?_
    refine wp_seq ?_
    -- region 6
    refine wp_region_lit ?_
    refine sq_pure F (wt0 rfl) (pu_move rfl (F.ev rfl)) rfl rfl ?_; clear F; intro φ F
    refine sq_pure F (wt0 rfl) (pu_eqlI rfl (F.ev rfl) (evk)) rfl rfl ?_; clear F; intro φ F
    refine nx ?_
    cases hs3 : (decide (l1 = 0))
    · rw [hs3] at F
      have hs3i := of_decide_eq_false hs3
      refine wp_cond_false (F.ev rfl) ?_
      refine wp_skip ?_
      refine nxq ?_
      refine wp_seq ?_
      refine wp_cut (fun φ' w' => ∃ l2 : Int, ∃ d2 : Array α, Fr φ' 130 [(0, .agg #[.func (.func g) #[] lb, .func (.func sf) #[] sb]), (1, .int .i64 a1), (2, .int .i64 b1), (4, .pointer (some ⟨g1, 0, none⟩)), (8, .bool wb), (9, .bool wp), (10, .int .i64 (b1 - a1)), (3, .int .i64 l2)] ∧ Mm [blk] w w' [.blk g1 97 #[.func (.func g) #[] lb, .func (.func sf) #[] sb], .blk blk t (cA d2)] ∧ (0 ≤ l2) ∧ (l2 ≤ 1000) ∧ (d2.size = n) ∧ (PermIn a1.toNat b1.toNat d1 d2)) ?_ ?_
      · skip
        refine wp_seq ?_
        -- region 8
        refine wp_region_lit ?_
        refine sq_pure F (wt0 rfl) (pu_move rfl (F.ev rfl)) rfl rfl ?_; clear F; intro φ F
        cases hs4 : wb
        · rw [hs4] at F
          refine sq_pure F (wt0 rfl) (pu_not rfl (F.ev rfl)) rfl rfl ?_; clear F; intro φ F
          rw [show (!false) = true from rfl] at F
          refine nx ?_
          refine wp_cond_true (F.ev rfl) ?_
          refine wp_seq ?_
          -- region 9
          refine wp_region_lit ?_
          refine sq_rd F (wt0 rfl) (ld_agg rfl (F.ev rfl) agg97 (M.rd (i := 0) rfl) rfl) rfl rfl ?_; clear F; intro φ F
          refine sq_pure F (wt0 rfl) (pu_move rfl (F.ev rfl)) rfl rfl ?_; clear F; intro φ F
          refine sq_pure F (wt0 rfl) (pu_move rfl (F.ev rfl)) rfl rfl ?_; clear F; intro φ F
          refine sq_callX F M (wt0 rfl) rfl en81 (evc (F.ev rfl) (evc (F.ev rfl) (evc (F.ev rfl) evn))) (i := 1) rfl (bp_at hBP (a1).toNat (b1).toNat d1 (by omega) (by omega) (by first | assumption | (simp only [swp_size]; assumption)) (by omega) (by omega) _ (M.at (i := 1) rfl)) rfl rfl ?_; clear F M; rintro φ ω _ e1 ⟨rfl, hz1, he1⟩ F M
          refine nx ?_
          -- region 10
          refine wp_region_lit ?_
          refine sq_pure F (wt0 rfl) (pu_move rfl (F.ev rfl)) rfl rfl ?_; clear F; intro φ F
          refine sq_pure F (wt0 rfl) (pu_sub rfl (F.ev rfl) (evk) (by omega) (by omega)) rfl rfl ?_; clear F; intro φ F
          refine sq_pure F (wt0 rfl) (pu_assign rfl (F.ev rfl)) rfl rfl ?_; clear F; intro φ F
          refine wpList_nil ?_
          exact ⟨l1 - 1, e1, ((((((((F.nil.cons (F.get (k := 3) rfl)).cons (F.get (k := 10) rfl)).cons (F.get (k := 9) rfl)).cons (F.get (k := 8) rfl)).cons (F.get (k := 4) rfl)).cons (F.get (k := 2) rfl)).cons (F.get (k := 1) rfl)).cons (F.get (k := 0) rfl)), M, by omega, by omega, by assumption, he1⟩
        · rw [hs4] at F
          refine sq_pure F (wt0 rfl) (pu_not rfl (F.ev rfl)) rfl rfl ?_; clear F; intro φ F
          rw [show (!true) = false from rfl] at F
          refine nx ?_
          refine wp_cond_false (F.ev rfl) ?_
          refine wp_skip ?_
          exact ⟨l1, d1, ((((((((F.nil.cons (F.get (k := 3) rfl)).cons (F.get (k := 10) rfl)).cons (F.get (k := 9) rfl)).cons (F.get (k := 8) rfl)).cons (F.get (k := 4) rfl)).cons (F.get (k := 2) rfl)).cons (F.get (k := 1) rfl)).cons (F.get (k := 0) rfl)), M, by omega, by omega, by assumption, permIn_refl _ _ _⟩
      · skip
        clear F M
        rintro φ ω ⟨l2, d2, F, M, hp5_0, hp5_1, hp5_2, hp5_3⟩
        refine nxq ?_
        refine wp_seq ?_
        -- region 11
        refine wp_region_lit ?_
        refine sq_rd F (wt0 rfl) (ld_agg rfl (F.ev rfl) agg97 (M.rd (i := 0) rfl) rfl) rfl rfl ?_; clear F; intro φ F
        refine sq_pure F (wt0 rfl) (pu_move rfl (F.ev rfl)) rfl rfl ?_; clear F; intro φ F
        refine sq_pure F (wt0 rfl) (pu_move rfl (F.ev rfl)) rfl rfl ?_; clear F; intro φ F
        refine sq_callE F M (wt0 rfl) rfl en82 (evc (F.ev rfl) (evc (F.ev rfl) (evc (F.ev rfl) evn))) (pivot_any eg hL hS hn (a1).toNat (b1).toNat d2 (by first | assumption | (simp only [swp_size]; assumption)) (by omega) (by omega) _ _ (by omega) (by omega) _ (hW.trans M.out (fun _ hg => .inr hg)) (M.at (i := 1) rfl)) rfl rfl ?_; clear F M; rintro φ ω _ hbl ⟨p2, h2, rfl, hpa2, hpb2⟩ F M
        refine sq_pure F (wt0 rfl) (pu_move rfl (F.ev rfl)) rfl rfl ?_; clear F; intro φ F
        refine sq_pure F (wt0 rfl) (pu_extract rfl (F.ev rfl) rfl) rfl rfl ?_; clear F; intro φ F
        refine sq_pure F (wt0 rfl) (pu_extract rfl (F.ev rfl) rfl) rfl rfl ?_; clear F; intro φ F
        refine sq_pure F (wt0 rfl) (pu_assign rfl (F.ev rfl)) rfl rfl ?_; clear F; intro φ F
        refine sq_pure F (wt0 rfl) (pu_assign rfl (F.ev rfl)) rfl rfl ?_; clear F; intro φ F
        refine nx ?_
        refine wp_seq ?_
        refine wp_cut (fun φ' w' => ∃ p3 : Int, ∃ h3 : Int, ∃ d3 : Array α, Fr φ' 130 [(0, .agg #[.func (.func g) #[] lb, .func (.func sf) #[] sb]), (1, .int .i64 a1), (2, .int .i64 b1), (4, .pointer (some ⟨g1, 0, none⟩)), (8, .bool wb), (9, .bool wp), (10, .int .i64 (b1 - a1)), (3, .int .i64 l2), (11, .int .i64 p3), (12, .int .i64 h3)] ∧ Mm [blk] w w' [.blk g1 97 #[.func (.func g) #[] lb, .func (.func sf) #[] sb], .blk blk t (cA d3)] ∧ (a1 ≤ p3) ∧ (p3 < b1) ∧ (d3.size = n) ∧ (PermIn a1.toNat b1.toNat d2 d3)) ?_ ?_
        · skip
          refine wp_seq ?_
          -- region 12
          refine wp_region_lit ?_
          refine sq_pure F (wt0 rfl) (pu_move rfl (F.ev rfl)) rfl rfl ?_; clear F; intro φ F
          refine sq_pure F (wt0 rfl) (pu_eqlI rfl (F.ev rfl) (evk)) rfl rfl ?_; clear F; intro φ F
          refine nx ?_
          cases hs6 : (decide (h2 = 2))
          · rw [hs6] at F
            have hs6i := of_decide_eq_false hs6
            refine wp_cond_false (F.ev rfl) ?_
            refine wp_skip ?_
            exact ⟨p2, h2, d2, ((((((((((F.nil.cons (F.get (k := 12) rfl)).cons (F.get (k := 11) rfl)).cons (F.get (k := 3) rfl)).cons (F.get (k := 10) rfl)).cons (F.get (k := 9) rfl)).cons (F.get (k := 8) rfl)).cons (F.get (k := 4) rfl)).cons (F.get (k := 2) rfl)).cons (F.get (k := 1) rfl)).cons (F.get (k := 0) rfl)), M, by omega, by omega, by assumption, permIn_refl _ _ _⟩
          · rw [hs6] at F
            have hs6i := of_decide_eq_true hs6
            refine wp_cond_true (F.ev rfl) ?_
            refine wp_seq ?_
            -- region 13
            refine wp_region_lit ?_
            refine sq_rd F (wt0 rfl) (ld_agg rfl (F.ev rfl) agg97 (M.rd (i := 0) rfl) rfl) rfl rfl ?_; clear F; intro φ F
            refine sq_pure F (wt0 rfl) (pu_move rfl (F.ev rfl)) rfl rfl ?_; clear F; intro φ F
            refine sq_pure F (wt0 rfl) (pu_move rfl (F.ev rfl)) rfl rfl ?_; clear F; intro φ F
            refine sq_callX F M (wt0 rfl) rfl en83 (evc (F.ev rfl) (evc (F.ev rfl) (evc (F.ev rfl) evn))) (i := 1) rfl (rev_any eg hL hS hn ((a1).toNat) ((b1).toNat) d2 (by first | assumption | (simp only [swp_size]; assumption)) (by omega) (by omega) _ _ (by omega) (by omega) _ (hW.trans M.out (fun _ hg => .inr hg)) (M.at (i := 1) rfl)) rfl rfl ?_; clear F M; rintro φ ω _ e3 ⟨rfl, hz3, he3⟩ F M
            refine nx ?_
            refine wp_seq ?_
            -- region 14
            refine wp_region_lit ?_
            refine sq_pure F (wt0 rfl) (pu_move rfl (F.ev rfl)) rfl rfl ?_; clear F; intro φ F
            refine sq_pure F (wt0 rfl) (pu_sub rfl (F.ev rfl) (evk) (by omega) (by omega)) rfl rfl ?_; clear F; intro φ F
            refine sq_pure F (wt0 rfl) (pu_move rfl (F.ev rfl)) rfl rfl ?_; clear F; intro φ F
            refine sq_pure F (wt0 rfl) (pu_move rfl (F.ev rfl)) rfl rfl ?_; clear F; intro φ F
            refine sq_pure F (wt0 rfl) (pu_sub rfl (F.ev rfl) (F.ev rfl) (by omega) (by omega)) rfl rfl ?_; clear F; intro φ F
            refine sq_pure F (wt0 rfl) (pu_sub rfl (F.ev rfl) (F.ev rfl) (by omega) (by omega)) rfl rfl ?_; clear F; intro φ F
            refine sq_pure F (wt0 rfl) (pu_assign rfl (F.ev rfl)) rfl rfl ?_; clear F; intro φ F
            refine nx ?_
            -- region 15
            refine wp_region_lit ?_
            refine sq_pure F (wt0 rfl) (pu_assign rfl (evk)) rfl rfl ?_; clear F; intro φ F
            refine wpList_nil ?_
            exact ⟨b1 - 1 - (p2 - a1), 1, e3, ((((((((((F.nil.cons (F.get (k := 12) rfl)).cons (F.get (k := 11) rfl)).cons (F.get (k := 3) rfl)).cons (F.get (k := 10) rfl)).cons (F.get (k := 9) rfl)).cons (F.get (k := 8) rfl)).cons (F.get (k := 4) rfl)).cons (F.get (k := 2) rfl)).cons (F.get (k := 1) rfl)).cons (F.get (k := 0) rfl)), M, by omega, by omega, by assumption, by rw [he3]; exact reverseRange_holds _ _ _ (by omega) (by omega)⟩
        · skip
          clear F M
          rintro φ ω ⟨p3, h3, d3, F, M, hp7_0, hp7_1, hp7_2, hp7_3⟩
          refine nxq ?_
          refine wp_seq ?_
          have B3 : Sort.Below lt a1.toNat b1.toNat d3 := (hp1_7.perm (by omega) (permIn_trans _ _ _ _ _ hp5_3 hp7_3))
          have P3 : PermIn a1.toNat b1.toNat d1 d3 := permIn_trans _ _ _ _ _ hp5_3 hp7_3
          refine wp_cut (fun φ' w' => ∃ d4 : Array α, Fr φ' 130 [(0, .agg #[.func (.func g) #[] lb, .func (.func sf) #[] sb]), (1, .int .i64 a1), (2, .int .i64 b1), (4, .pointer (some ⟨g1, 0, none⟩)), (8, .bool wb), (9, .bool wp), (10, .int .i64 (b1 - a1)), (3, .int .i64 l2), (11, .int .i64 p3)] ∧ Mm [blk] w w' [.blk g1 97 #[.func (.func g) #[] lb, .func (.func sf) #[] sb], .blk blk t (cA d4)] ∧ (d4.size = n) ∧ (PermIn a1.toNat b1.toNat d3 d4)) ?_ ?_
          · skip
            refine wp_seq ?_
            -- region 16
            refine wp_region_lit ?_
            refine sq_pure F (wt0 rfl) (pu_move rfl (F.ev rfl)) rfl rfl ?_; clear F; intro φ F
            refine sq_pure F (wt0 rfl) (pu_move rfl (F.ev rfl)) rfl rfl ?_; clear F; intro φ F
            cases hs8 : wb
            · rw [hs8] at F
              refine sq_skip F (wtn F rfl rfl rfl rfl rfl) rfl rfl ?_; clear F; intro φ F
              refine sq_pure F (wt0 rfl) (pu_pickf rfl (F.ev rfl) (evk)) rfl rfl ?_; clear F; intro φ F
              refine sq_pure F (wt0 rfl) (pu_move rfl (F.ev rfl)) rfl rfl ?_; clear F; intro φ F
              refine sq_skip F (wtn F rfl rfl rfl rfl rfl) rfl rfl ?_; clear F; intro φ F
              refine sq_skip F (wtn F rfl rfl rfl rfl rfl) rfl rfl ?_; clear F; intro φ F
              refine sq_pure F (wt0 rfl) (pu_pickf rfl (F.ev rfl) (evk)) rfl rfl ?_; clear F; intro φ F
              refine nx ?_
              refine wp_cond_false (F.ev rfl) ?_
              refine wp_skip ?_
              exact ⟨d3, (((((((((F.nil.cons (F.get (k := 11) rfl)).cons (F.get (k := 3) rfl)).cons (F.get (k := 10) rfl)).cons (F.get (k := 9) rfl)).cons (F.get (k := 8) rfl)).cons (F.get (k := 4) rfl)).cons (F.get (k := 2) rfl)).cons (F.get (k := 1) rfl)).cons (F.get (k := 0) rfl)), M, by assumption, permIn_refl _ _ _⟩
            · rw [hs8] at F
              refine sq_pure F (wt1 F rfl rfl rfl rfl rfl) (pu_move rfl (F.ev rfl)) rfl rfl ?_; clear F; intro φ F
              refine sq_pure F (wt0 rfl) (pu_pickt rfl (F.ev rfl) (F.ev rfl)) rfl rfl ?_; clear F; intro φ F
              refine sq_pure F (wt0 rfl) (pu_move rfl (F.ev rfl)) rfl rfl ?_; clear F; intro φ F
              cases hs9 : wp
              · rw [hs9] at F
                refine sq_skip F (wtn F rfl rfl rfl rfl rfl) rfl rfl ?_; clear F; intro φ F
                refine sq_skip F (wtn F rfl rfl rfl rfl rfl) rfl rfl ?_; clear F; intro φ F
                refine sq_pure F (wt0 rfl) (pu_pickf rfl (F.ev rfl) (evk)) rfl rfl ?_; clear F; intro φ F
                refine nx ?_
                refine wp_cond_false (F.ev rfl) ?_
                refine wp_skip ?_
                exact ⟨d3, (((((((((F.nil.cons (F.get (k := 11) rfl)).cons (F.get (k := 3) rfl)).cons (F.get (k := 10) rfl)).cons (F.get (k := 9) rfl)).cons (F.get (k := 8) rfl)).cons (F.get (k := 4) rfl)).cons (F.get (k := 2) rfl)).cons (F.get (k := 1) rfl)).cons (F.get (k := 0) rfl)), M, by assumption, permIn_refl _ _ _⟩
              · rw [hs9] at F
                refine sq_pure F (wt1 F rfl rfl rfl rfl rfl) (pu_move rfl (F.ev rfl)) rfl rfl ?_; clear F; intro φ F
                refine sq_pure F (wt1 F rfl rfl rfl rfl rfl) (pu_eqlI rfl (F.ev rfl) (evk)) rfl rfl ?_; clear F; intro φ F
                refine sq_pure F (wt0 rfl) (pu_pickt rfl (F.ev rfl) (F.ev rfl)) rfl rfl ?_; clear F; intro φ F
                refine nx ?_
                cases hs10 : (decide (h3 = 1))
                · rw [hs10] at F
                  have hs10i := of_decide_eq_false hs10
                  refine wp_cond_false (F.ev rfl) ?_
                  refine wp_skip ?_
                  exact ⟨d3, (((((((((F.nil.cons (F.get (k := 11) rfl)).cons (F.get (k := 3) rfl)).cons (F.get (k := 10) rfl)).cons (F.get (k := 9) rfl)).cons (F.get (k := 8) rfl)).cons (F.get (k := 4) rfl)).cons (F.get (k := 2) rfl)).cons (F.get (k := 1) rfl)).cons (F.get (k := 0) rfl)), M, by assumption, permIn_refl _ _ _⟩
                · rw [hs10] at F
                  have hs10i := of_decide_eq_true hs10
                  refine wp_cond_true (F.ev rfl) ?_
                  refine wp_seq ?_
                  -- region 17
                  refine wp_region_lit ?_
                  refine sq_rd F (wt0 rfl) (ld_agg rfl (F.ev rfl) agg97 (M.rd (i := 0) rfl) rfl) rfl rfl ?_; clear F; intro φ F
                  refine sq_pure F (wt0 rfl) (pu_move rfl (F.ev rfl)) rfl rfl ?_; clear F; intro φ F
                  refine sq_pure F (wt0 rfl) (pu_move rfl (F.ev rfl)) rfl rfl ?_; clear F; intro φ F
                  refine sq_callX F M (wt0 rfl) rfl en84 (evc (F.ev rfl) (evc (F.ev rfl) (evc (F.ev rfl) evn))) (i := 1) rfl (pins_any eg hL hS hn ((a1).toNat) ((b1).toNat) d3 (by first | assumption | (simp only [swp_size]; assumption)) (by omega) (by omega) _ _ (by omega) (by omega) _ (hW.trans M.out (fun _ hg => .inr hg)) (M.at (i := 1) rfl)) rfl rfl ?_; clear F M; rintro φ ω _ e4 ⟨r4, rfl, hz4, he4⟩ F M
                  refine nx ?_
                  cases hs11 : r4
                  · rw [hs11] at F
                    refine wp_cond_false (F.ev rfl) ?_
                    refine wp_skip ?_
                    exact ⟨e4, (((((((((F.nil.cons (F.get (k := 11) rfl)).cons (F.get (k := 3) rfl)).cons (F.get (k := 10) rfl)).cons (F.get (k := 9) rfl)).cons (F.get (k := 8) rfl)).cons (F.get (k := 4) rfl)).cons (F.get (k := 2) rfl)).cons (F.get (k := 1) rfl)).cons (F.get (k := 0) rfl)), M, by assumption, by have := (partialInsertionSort_holds hO d3 _ _ (by omega) (by omega) B3).1; rw [he4] at this; exact this⟩
                  · rw [hs11] at F
                    refine wp_cond_true (F.ev rfl) ?_
                    refine wp_ret ?_
                    refine nxcR ?_
                    refine nxr ?_
                    refine nxrb ?_
                    refine nxr ?_
                    refine nxrb ?_
                    refine rt_none F rfl ?_
                    have z := partialInsertionSort_holds hO d3 a1.toNat b1.toNat (by omega) (by omega) B3
                    rw [he4] at z
                    obtain ⟨z1, z2⟩ := hp1_8 _ (permIn_trans _ _ _ _ _ P3 z.1) (z.2 hs11)
                    exact ⟨_, _, rfl, M.out, M.at (i := 1) rfl, rfl, by assumption, z1, z2⟩
          · skip
            clear F M
            rintro φ ω ⟨d4, F, M, hp12_0, hp12_1⟩
            refine nxq ?_
            refine wp_seq ?_
            have B4 : Sort.Below lt a1.toNat b1.toNat d4 := B3.perm (by omega) hp12_1
            have P4 : PermIn a1.toNat b1.toNat d1 d4 := permIn_trans _ _ _ _ _ P3 hp12_1
            have CL4 : (∀ X, PermIn a1.toNat b1.toNat d4 X → SortedIn lt a1.toNat b1.toNat X → PermIn a b d X ∧ SortedIn lt a b X) := fun X h1 h2 => hp1_8 X (permIn_trans _ _ _ _ _ P4 h1) h2
            refine wp_cut (fun φ' w' => Fr φ' 130 [(0, .agg #[.func (.func g) #[] lb, .func (.func sf) #[] sb]), (1, .int .i64 a1), (2, .int .i64 b1), (4, .pointer (some ⟨g1, 0, none⟩)), (8, .bool wb), (9, .bool wp), (10, .int .i64 (b1 - a1)), (3, .int .i64 l2), (11, .int .i64 p3)] ∧ Mm [blk] w w' [.blk g1 97 #[.func (.func g) #[] lb, .func (.func sf) #[] sb], .blk blk t (cA d4)]) ?_ ?_
            · skip
              refine wp_seq ?_
              -- region 18
              refine wp_region_lit ?_
              refine sq_pure F (wt0 rfl) (pu_move rfl (F.ev rfl)) rfl rfl ?_; clear F; intro φ F
              refine sq_pure F (wt0 rfl) (pu_gtr rfl (F.ev rfl) (evk)) rfl rfl ?_; clear F; intro φ F
              refine sq_pure F (wt0 rfl) (pu_move rfl (F.ev rfl)) rfl rfl ?_; clear F; intro φ F
              cases hs13 : (decide (0 < a1))
              · rw [hs13] at F
                have hs13i := of_decide_eq_false hs13
                refine sq_skip F (wtn F rfl rfl rfl rfl rfl) rfl rfl ?_; clear F; intro φ F
                refine sq_skip F (wtn F rfl rfl rfl rfl rfl) rfl rfl ?_; clear F; intro φ F
                refine sq_skip F (wtn F rfl rfl rfl rfl rfl) rfl rfl ?_; clear F; intro φ F
                refine sq_skip F (wtn F rfl rfl rfl rfl rfl) rfl rfl ?_; clear F; intro φ F
                refine sq_skip F (wtn F rfl rfl rfl rfl rfl) rfl rfl ?_; clear F; intro φ F
                refine sq_skip F (wtn F rfl rfl rfl rfl rfl) rfl rfl ?_; clear F; intro φ F
                refine sq_skip F (wtn F rfl rfl rfl rfl rfl) rfl rfl ?_; clear F; intro φ F
                refine sq_pure F (wt0 rfl) (pu_pickf rfl (F.ev rfl) (evk)) rfl rfl ?_; clear F; intro φ F
                refine nx ?_
                refine wp_cond_false (F.ev rfl) ?_
                refine wp_skip ?_
                exact ⟨(((((((((F.nil.cons (F.get (k := 11) rfl)).cons (F.get (k := 3) rfl)).cons (F.get (k := 10) rfl)).cons (F.get (k := 9) rfl)).cons (F.get (k := 8) rfl)).cons (F.get (k := 4) rfl)).cons (F.get (k := 2) rfl)).cons (F.get (k := 1) rfl)).cons (F.get (k := 0) rfl)), M⟩
              · rw [hs13] at F
                have hs13i := of_decide_eq_true hs13
                refine sq_pure F (wt1 F rfl rfl rfl rfl rfl) (pu_field rfl (F.ev rfl) fo97_0) rfl rfl ?_; clear F; intro φ F
                refine sq_rd F (wt1 F rfl rfl rfl rfl rfl) (ld_cell rfl (F.ev rfl) one83 (M.rd (i := 0) rfl) rfl) rfl rfl ?_; clear F; intro φ F
                refine sq_pure F (wt1 F rfl rfl rfl rfl rfl) (pu_move rfl (F.ev rfl)) rfl rfl ?_; clear F; intro φ F
                refine sq_pure F (wt1 F rfl rfl rfl rfl rfl) (pu_sub rfl (F.ev rfl) (evk) (by omega) (by omega)) rfl rfl ?_; clear F; intro φ F
                refine sq_pure F (wt1 F rfl rfl rfl rfl rfl) (pu_move rfl (F.ev rfl)) rfl rfl ?_; clear F; intro φ F
                refine sq_callV F M (wt1 F rfl rfl rfl rfl rfl) rfl (F.ev rfl) eg (evc (F.ev rfl) (evc (F.ev rfl) evn)) (hL.at (d := d4) (i := (a1 - 1).toNat) (j := (p3).toNat) (by first | assumption | (simp only [swp_size]; assumption)) (by omega) (by omega) (by omega) (by omega) (hW.trans M.out (fun _ hg => .inr hg)) (M.at (i := 1) rfl)) rfl rfl ?_; clear F M; intro φ ω F M
                cases hs14 : (lt d4[(a1 - 1).toNat]! d4[(p3).toNat]!)
                · rw [hs14] at F
                  refine sq_pure F (wt1 F rfl rfl rfl rfl rfl) (pu_not rfl (F.ev rfl)) rfl rfl ?_; clear F; intro φ F
                  rw [show (!false) = true from rfl] at F
                  refine sq_pure F (wt0 rfl) (pu_pickt rfl (F.ev rfl) (F.ev rfl)) rfl rfl ?_; clear F; intro φ F
                  refine nx ?_
                  refine wp_cond_true (F.ev rfl) ?_
                  refine wp_seq ?_
                  -- region 19
                  refine wp_region_lit ?_
                  refine sq_rd F (wt0 rfl) (ld_agg rfl (F.ev rfl) agg97 (M.rd (i := 0) rfl) rfl) rfl rfl ?_; clear F; intro φ F
                  refine sq_pure F (wt0 rfl) (pu_move rfl (F.ev rfl)) rfl rfl ?_; clear F; intro φ F
                  refine sq_pure F (wt0 rfl) (pu_move rfl (F.ev rfl)) rfl rfl ?_; clear F; intro φ F
                  refine sq_pure F (wt0 rfl) (pu_move rfl (F.ev rfl)) rfl rfl ?_; clear F; intro φ F
                  refine sq_callX F M (wt0 rfl) rfl en85 (evc (F.ev rfl) (evc (F.ev rfl) (evc (F.ev rfl) (evc (F.ev rfl) evn)))) (i := 1) rfl (parteq_any eg hL hS hn ((a1).toNat) ((b1).toNat) ((p3).toNat) d4 (by first | assumption | (simp only [swp_size]; assumption)) (by omega) (by omega) (by omega) _ _ _ (by omega) (by omega) (by omega) _ (hW.trans M.out (fun _ hg => .inr hg)) (M.at (i := 1) rfl)) rfl rfl ?_; clear F M; rintro φ ω _ e5 ⟨m5, rfl, hz5, he5⟩ F M
                  obtain ⟨g15, g25, g35, g45, g55⟩ := round_eq hO (partitionEqual_holds lt) (by omega) (by omega) (by omega) (by omega) B4 (by rw [show a1.toNat - 1 = (a1 - 1).toNat by omega]; exact hs14) he5
                  refine sq_pure F (wt0 rfl) (pu_assign rfl (F.ev rfl)) rfl rfl ?_; clear F; intro φ F
                  refine nx ?_
                  refine wp_seq ?_
                  -- region 20
                  refine wp_region_lit ?_
                  refine sq_pure F (wt0 rfl) (pu_move rfl (F.ev rfl)) rfl rfl ?_; clear F; intro φ F
                  refine sq_pure F (wt0 rfl) (pu_assign rfl (F.ev rfl)) rfl rfl ?_; clear F; intro φ F
                  refine nx ?_
                  refine wp_exit ?_
                  refine nxcE ?_
                  refine nxe ?_
                  refine nxm ?_
                  exact ⟨m - 1, by omega, ((m5 : Nat) : Int), b1, l2, wb, wp, e5, (((((((F.nil.cons (F.get (k := 9) rfl)).cons (F.get (k := 8) rfl)).cons (F.get (k := 4) rfl)).cons (F.get (k := 3) rfl)).cons (F.get (k := 2) rfl)).cons (F.get (k := 1) rfl)).cons (F.get (k := 0) rfl)), M, by omega, by omega, by omega, by omega, by assumption, by omega, by omega, by simpa using g45, fun X h1 h2 => by obtain ⟨z1, z2⟩ := g55 X (by simpa using h1) (by simpa using h2); exact CL4 X z1 z2⟩
                · rw [hs14] at F
                  refine sq_pure F (wt1 F rfl rfl rfl rfl rfl) (pu_not rfl (F.ev rfl)) rfl rfl ?_; clear F; intro φ F
                  rw [show (!true) = false from rfl] at F
                  refine sq_pure F (wt0 rfl) (pu_pickt rfl (F.ev rfl) (F.ev rfl)) rfl rfl ?_; clear F; intro φ F
                  refine nx ?_
                  refine wp_cond_false (F.ev rfl) ?_
                  refine wp_skip ?_
                  exact ⟨(((((((((F.nil.cons (F.get (k := 11) rfl)).cons (F.get (k := 3) rfl)).cons (F.get (k := 10) rfl)).cons (F.get (k := 9) rfl)).cons (F.get (k := 8) rfl)).cons (F.get (k := 4) rfl)).cons (F.get (k := 2) rfl)).cons (F.get (k := 1) rfl)).cons (F.get (k := 0) rfl)), M⟩
            · skip
              clear F M
              rintro φ ω ⟨F, M⟩
              refine nxq ?_
              refine wp_seq ?_
              -- region 21
              refine wp_region_lit ?_
              refine sq_rd F (wt0 rfl) (ld_agg rfl (F.ev rfl) agg97 (M.rd (i := 0) rfl) rfl) rfl rfl ?_; clear F; intro φ F
              refine sq_pure F (wt0 rfl) (pu_move rfl (F.ev rfl)) rfl rfl ?_; clear F; intro φ F
              refine sq_pure F (wt0 rfl) (pu_move rfl (F.ev rfl)) rfl rfl ?_; clear F; intro φ F
              refine sq_pure F (wt0 rfl) (pu_move rfl (F.ev rfl)) rfl rfl ?_; clear F; intro φ F
              refine sq_callX F M (wt0 rfl) rfl en86 (evc (F.ev rfl) (evc (F.ev rfl) (evc (F.ev rfl) (evc (F.ev rfl) evn)))) (i := 1) rfl (part_any eg hL hS hn ((a1).toNat) ((b1).toNat) ((p3).toNat) d4 (by first | assumption | (simp only [swp_size]; assumption)) (by omega) (by omega) (by omega) _ _ _ (by omega) (by omega) (by omega) _ (hW.trans M.out (fun _ hg => .inr hg)) (M.at (i := 1) rfl)) rfl rfl ?_; clear F M; rintro φ ω _ e6 ⟨m6, ap6, rfl, hz6, he6⟩ F M
              obtain ⟨g16, g26, g36, g46, g56, g66, g76⟩ := round_part hO (partition_holds lt) (by omega) (by omega) (by omega) B4 he6
              refine sq_pure F (wt0 rfl) (pu_move rfl (F.ev rfl)) rfl rfl ?_; clear F; intro φ F
              refine sq_pure F (wt0 rfl) (pu_extract rfl (F.ev rfl) rfl) rfl rfl ?_; clear F; intro φ F
              refine sq_pure F (wt0 rfl) (pu_extract rfl (F.ev rfl) rfl) rfl rfl ?_; clear F; intro φ F
              refine sq_pure F (wt0 rfl) (pu_assign rfl (F.ev rfl)) rfl rfl ?_; clear F; intro φ F
              refine sq_pure F (wt0 rfl) (pu_assign rfl (F.ev rfl)) rfl rfl ?_; clear F; intro φ F
              refine nx ?_
              refine wp_seq ?_
              -- region 22
              refine wp_region_lit ?_
              refine sq_pure F (wt0 rfl) (pu_move rfl (F.ev rfl)) rfl rfl ?_; clear F; intro φ F
              refine sq_pure F (wt0 rfl) (pu_assign rfl (F.ev rfl)) rfl rfl ?_; clear F; intro φ F
              refine nx ?_
              refine wp_seq ?_
              -- region 23
              refine wp_region_lit ?_
              refine sq_pure F (wt0 rfl) (pu_move rfl (F.ev rfl)) rfl rfl ?_; clear F; intro φ F
              refine sq_pure F (wt0 rfl) (pu_move rfl (F.ev rfl)) rfl rfl ?_; clear F; intro φ F
              refine sq_pure F (wt0 rfl) (pu_sub rfl (F.ev rfl) (F.ev rfl) (by omega) (by omega)) rfl rfl ?_; clear F; intro φ F
              refine sq_pure F (wt0 rfl) (pu_move rfl (F.ev rfl)) rfl rfl ?_; clear F; intro φ F
              refine sq_pure F (wt0 rfl) (pu_move rfl (F.ev rfl)) rfl rfl ?_; clear F; intro φ F
              refine sq_pure F (wt0 rfl) (pu_sub rfl (F.ev rfl) (F.ev rfl) (by omega) (by omega)) rfl rfl ?_; clear F; intro φ F
              refine sq_pure F (wt0 rfl) (pu_assign rfl (F.ev rfl)) rfl rfl ?_; clear F; intro φ F
              refine sq_pure F (wt0 rfl) (pu_assign rfl (F.ev rfl)) rfl rfl ?_; clear F; intro φ F
              refine nx ?_
              refine wp_seq ?_
              -- region 24
              refine wp_region_lit ?_
              refine sq_pure F (wt0 rfl) (pu_move rfl (F.ev rfl)) rfl rfl ?_; clear F; intro φ F
              refine sq_pure F (wt0 rfl) (pu_quo rfl (F.ev rfl) (evk) (by omega) (by omega) (by omega)) rfl rfl ?_; clear F; intro φ F
              refine sq_pure F (wt0 rfl) (pu_assign rfl (F.ev rfl)) rfl rfl ?_; clear F; intro φ F
              refine nx ?_
              refine wp_seq ?_
              -- region 25
              refine wp_region_lit ?_
              refine sq_pure F (wt0 rfl) (pu_move rfl (F.ev rfl)) rfl rfl ?_; clear F; intro φ F
              refine sq_pure F (wt0 rfl) (pu_move rfl (F.ev rfl)) rfl rfl ?_; clear F; intro φ F
              refine sq_pure F (wt0 rfl) (pu_lss rfl (F.ev rfl) (F.ev rfl)) rfl rfl ?_; clear F; intro φ F
              refine nx ?_
              cases hs16 : (decide (((m6 : Nat) : Int) - a1 < b1 - ((m6 : Nat) : Int)))
              · rw [hs16] at F
                have hs16i := of_decide_eq_false hs16
                refine wp_cond_false (F.ev rfl) ?_
                refine wp_seq ?_
                -- region 29
                refine wp_region_lit ?_
                refine sq_pure F (wt0 rfl) (pu_move rfl (F.ev rfl)) rfl rfl ?_; clear F; intro φ F
                refine sq_pure F (wt0 rfl) (pu_move rfl (F.ev rfl)) rfl rfl ?_; clear F; intro φ F
                refine sq_pure F (wt0 rfl) (pu_geq rfl (F.ev rfl) (F.ev rfl)) rfl rfl ?_; clear F; intro φ F
                refine sq_pure F (wt0 rfl) (pu_assign rfl (F.ev rfl)) rfl rfl ?_; clear F; intro φ F
                refine nx ?_
                refine wp_seq ?_
                -- region 30
                refine wp_region_lit ?_
                refine sq_rd F (wt0 rfl) (ld_agg rfl (F.ev rfl) agg97 (M.rd (i := 0) rfl) rfl) rfl rfl ?_; clear F; intro φ F
                refine sq_pure F (wt0 rfl) (pu_move rfl (F.ev rfl)) rfl rfl ?_; clear F; intro φ F
                refine sq_pure F (wt0 rfl) (pu_add rfl (F.ev rfl) (evk) (by omega) (by omega)) rfl rfl ?_; clear F; intro φ F
                refine sq_pure F (wt0 rfl) (pu_move rfl (F.ev rfl)) rfl rfl ?_; clear F; intro φ F
                refine sq_pure F (wt0 rfl) (pu_move rfl (F.ev rfl)) rfl rfl ?_; clear F; intro φ F
                refine sq_callX F M (wt0 rfl) rfl en67 (evc (F.ev rfl) (evc (F.ev rfl) (evc (F.ev rfl) (evc (F.ev rfl) evn)))) (i := 1) rfl (pdq_at IH (((m6 : Nat) : Int) + 1).toNat (b1).toNat (l2).toNat e6 (by omega) (by first | assumption | (simp only [swp_size]; assumption)) (by omega) (by omega) (by omega) (by simpa using g56) (by omega) (by omega) (by omega) _ (hW.trans M.out (fun _ hg => .inr hg)) (M.at (i := 1) rfl)) rfl rfl ?_; clear F M; rintro φ ω _ e7 ⟨rfl, hz7, hpm7, hso7⟩ F M
                obtain ⟨f1, f2⟩ := g76 _ (by simpa using hpm7) (by simpa using hso7)
                refine nx ?_
                -- region 31
                refine wp_region_lit ?_
                refine sq_pure F (wt0 rfl) (pu_move rfl (F.ev rfl)) rfl rfl ?_; clear F; intro φ F
                refine sq_pure F (wt0 rfl) (pu_assign rfl (F.ev rfl)) rfl rfl ?_; clear F; intro φ F
                refine wpList_nil ?_
                refine nxb ?_
                exact ⟨m - 1, by omega, a1, ((m6 : Nat) : Int), l2, (decide ((b1 - a1) / 8 ≤ b1 - ((m6 : Nat) : Int))), ap6, e7, (((((((F.nil.cons (F.get (k := 9) rfl)).cons (F.get (k := 8) rfl)).cons (F.get (k := 4) rfl)).cons (F.get (k := 3) rfl)).cons (F.get (k := 2) rfl)).cons (F.get (k := 1) rfl)).cons (F.get (k := 0) rfl)), M, by omega, by omega, by omega, by omega, by assumption, by omega, by omega, by rw [show ((m6 : Int)).toNat = m6 by omega]; exact f1, by rw [show ((m6 : Int)).toNat = m6 by omega]; intro X h1 h2; obtain ⟨z1, z2⟩ := f2 X h1 h2; exact CL4 X z1 z2⟩
              · rw [hs16] at F
                have hs16i := of_decide_eq_true hs16
                refine wp_cond_true (F.ev rfl) ?_
                refine wp_seq ?_
                -- region 26
                refine wp_region_lit ?_
                refine sq_pure F (wt0 rfl) (pu_move rfl (F.ev rfl)) rfl rfl ?_; clear F; intro φ F
                refine sq_pure F (wt0 rfl) (pu_move rfl (F.ev rfl)) rfl rfl ?_; clear F; intro φ F
                refine sq_pure F (wt0 rfl) (pu_geq rfl (F.ev rfl) (F.ev rfl)) rfl rfl ?_; clear F; intro φ F
                refine sq_pure F (wt0 rfl) (pu_assign rfl (F.ev rfl)) rfl rfl ?_; clear F; intro φ F
                refine nx ?_
                refine wp_seq ?_
                -- region 27
                refine wp_region_lit ?_
                refine sq_rd F (wt0 rfl) (ld_agg rfl (F.ev rfl) agg97 (M.rd (i := 0) rfl) rfl) rfl rfl ?_; clear F; intro φ F
                refine sq_pure F (wt0 rfl) (pu_move rfl (F.ev rfl)) rfl rfl ?_; clear F; intro φ F
                refine sq_pure F (wt0 rfl) (pu_move rfl (F.ev rfl)) rfl rfl ?_; clear F; intro φ F
                refine sq_pure F (wt0 rfl) (pu_move rfl (F.ev rfl)) rfl rfl ?_; clear F; intro φ F
                refine sq_callX F M (wt0 rfl) rfl en67 (evc (F.ev rfl) (evc (F.ev rfl) (evc (F.ev rfl) (evc (F.ev rfl) evn)))) (i := 1) rfl (pdq_at IH (a1).toNat m6 (l2).toNat e6 (by omega) (by first | assumption | (simp only [swp_size]; assumption)) (by omega) (by omega) (by omega) g46 (by omega) (by omega) (by omega) _ (hW.trans M.out (fun _ hg => .inr hg)) (M.at (i := 1) rfl)) rfl rfl ?_; clear F M; rintro φ ω _ e8 ⟨rfl, hz8, hpm8, hso8⟩ F M
                obtain ⟨f1, f2⟩ := g66 _ (by simpa using hpm8) (by simpa using hso8)
                refine nx ?_
                -- region 28
                refine wp_region_lit ?_
                refine sq_pure F (wt0 rfl) (pu_move rfl (F.ev rfl)) rfl rfl ?_; clear F; intro φ F
                refine sq_pure F (wt0 rfl) (pu_add rfl (F.ev rfl) (evk) (by omega) (by omega)) rfl rfl ?_; clear F; intro φ F
                refine sq_pure F (wt0 rfl) (pu_assign rfl (F.ev rfl)) rfl rfl ?_; clear F; intro φ F
                refine wpList_nil ?_
                refine nxb ?_
                exact ⟨m - 1, by omega, ((m6 : Nat) : Int) + 1, b1, l2, (decide ((b1 - a1) / 8 ≤ ((m6 : Nat) : Int) - a1)), ap6, e8, (((((((F.nil.cons (F.get (k := 9) rfl)).cons (F.get (k := 8) rfl)).cons (F.get (k := 4) rfl)).cons (F.get (k := 3) rfl)).cons (F.get (k := 2) rfl)).cons (F.get (k := 1) rfl)).cons (F.get (k := 0) rfl)), M, by omega, by omega, by omega, by omega, by assumption, by omega, by omega, by rw [show ((m6 : Int) + 1).toNat = m6 + 1 by omega]; exact f1, by rw [show ((m6 : Int) + 1).toNat = m6 + 1 by omega]; intro X h1 h2; obtain ⟨z1, z2⟩ := f2 X h1 h2; exact CL4 X z1 z2⟩
    · rw [hs3] at F
      have hs3i := of_decide_eq_true hs3
      refine wp_cond_true (F.ev rfl) ?_
      refine wp_seq ?_
      -- region 7
      refine wp_region_lit ?_
      refine sq_rd F (wt0 rfl) (ld_agg rfl (F.ev rfl) agg97 (M.rd (i := 0) rfl) rfl) rfl rfl ?_; clear F; intro φ F
      refine sq_pure F (wt0 rfl) (pu_move rfl (F.ev rfl)) rfl rfl ?_; clear F; intro φ F
      refine sq_pure F (wt0 rfl) (pu_move rfl (F.ev rfl)) rfl rfl ?_; clear F; intro φ F
      refine sq_callX F M (wt0 rfl) rfl en80 (evc (F.ev rfl) (evc (F.ev rfl) (evc (F.ev rfl) evn))) (i := 1) rfl (heap_any eg hL hS hn ((a1).toNat) ((b1).toNat) d1 (by first | assumption | (simp only [swp_size]; assumption)) (by omega) (by omega) _ _ (by omega) (by omega) _ (hW.trans M.out (fun _ hg => .inr hg)) (M.at (i := 1) rfl)) rfl rfl ?_; clear F M; rintro φ ω _ e9 ⟨rfl, hz9, he9⟩ F M
      refine nx ?_
      refine wp_ret ?_
      refine nxr ?_
      refine nxrb ?_
      refine nxr ?_
      refine nxrb ?_
      refine rt_none F rfl ?_
      have z := heapSort_holds hO d1 a1.toNat b1.toNat (by omega) (by omega)
      rw [← he9] at z
      obtain ⟨z1, z2⟩ := hp1_8 _ z.1 z.2
      exact ⟨_, _, rfl, M.out, M.at (i := 1) rfl, rfl, by assumption, z1, z2⟩
  · rw [hs2] at F
    have hs2i := of_decide_eq_true hs2
    refine wp_cond_true (F.ev rfl) ?_
    refine wp_seq ?_
    -- region 5
    refine wp_region_lit ?_
    refine sq_rd F (wt0 rfl) (ld_agg rfl (F.ev rfl) agg97 (M.rd (i := 0) rfl) rfl) rfl rfl ?_; clear F; intro φ F
    refine sq_pure F (wt0 rfl) (pu_move rfl (F.ev rfl)) rfl rfl ?_; clear F; intro φ F
    refine sq_pure F (wt0 rfl) (pu_move rfl (F.ev rfl)) rfl rfl ?_; clear F; intro φ F
    refine sq_callX F M (wt0 rfl) rfl en79 (evc (F.ev rfl) (evc (F.ev rfl) (evc (F.ev rfl) evn))) (i := 1) rfl (ins_any eg hL hS hn ((a1).toNat) ((b1).toNat) d1 (by first | assumption | (simp only [swp_size]; assumption)) (by omega) (by omega) _ _ (by omega) (by omega) _ (hW.trans M.out (fun _ hg => .inr hg)) (M.at (i := 1) rfl)) rfl rfl ?_; clear F M; rintro φ ω _ e10 ⟨rfl, hz10, he10⟩ F M
    refine nx ?_
    refine wp_ret ?_
    refine nxr ?_
    refine nxrb ?_
    refine nxr ?_
    refine nxrb ?_
    refine rt_none F rfl ?_
    have z := insertionSort_holds hO d1 a1.toNat b1.toNat (by omega) (by omega)
    rw [← he10] at z
    obtain ⟨z1, z2⟩ := hp1_8 _ z.1 z.2
    exact ⟨_, _, rfl, M.out, M.at (i := 1) rfl, rfl, by assumption, z1, z2⟩

end Go.Proofs.Ytbleefegobmboaa
