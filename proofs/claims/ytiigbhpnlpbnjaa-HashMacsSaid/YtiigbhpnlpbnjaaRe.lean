/- The reference's Sum. Made by walks/refsum.py. -/
import Derived.Test.YtiigbhpnlpbnjaaRh
import Derived.Test.YtiigbhpnlpbnjaaRd
import Derived.Deep.Onto
namespace Go.Proofs.Ytiigbhpnlpbnjaa
open Go.RowKit Rm

theorem mixedOK : Try.prog.follows .mixedOrders = true := by kernel_rfl
theorem agg39 : AggTy Try.prog 39 8 := ⟨_, Try.underlying39, rfl, by kernel_rfl⟩
theorem agg24 : AggTy Try.prog 24 32 := ⟨_, Try.underlying24, rfl, by kernel_rfl⟩
theorem one38 : OneTy Try.prog 38 := ⟨_, Try.underlying38, rfl⟩
theorem z39 : (Try.prog.info? 39).map (fun i => i.zero.map (·.cells)) = some (some (U64 (List.replicate 8 0))) := by kernel_rfl
theorem z24 : (Try.prog.info? 24).map (fun i => i.zero.map (·.cells)) = some (some (B8 (List.replicate 32 0))) := by kernel_rfl
theorem sl22 : SlTy Try.prog 22 5 1 := ⟨Try.underlying22, by kernel_rfl⟩
theorem en19 : enters Try.prog 19 = true := by kernel_rfl
theorem en20 : enters Try.prog 20 = true := by kernel_rfl
def stAt (l : List Nat) (i : Int) : List Nat := absorbK initN (padded 0 l) (i.toNat / 64)
def chk (l : List Nat) (i : Int) : List Nat := ((padded 0 l).drop (64 * (i.toNat / 64))).take 64
theorem stAt_len (l : List Nat) (i : Int) : (stAt l i).length = 8 := absorbK_length rfl _
theorem stAt_lt (l : List Nat) (i : Int) : W32 (stAt l i) := absorbK_lt (by unfold W32; decide) _
theorem U64_ones (l : List Nat) : (U64 l).toList.all (·.oneCell') = true := by simp [U64, Value.oneCell']
theorem padded_mod (l : List Nat) : (padded 0 l).length % 64 = 0 := by
  simp only [padded, List.length_append, List.length_cons, List.length_replicate, be8_length]; omega
theorem padded_le (l : List Nat) : (padded 0 l).length ≤ l.length + 72 := by
  simp only [padded, List.length_append, List.length_cons, List.length_replicate, be8_length]; omega
theorem step_le {l : List Nat} {i : Int} (h1 : i % 64 = 0) (h2 : i < ((padded 0 l).length : Int)) : i + 64 ≤ ((padded 0 l).length : Int) := by
  have := padded_mod l; omega
theorem chk_len {l : List Nat} {i : Int} (h0 : 0 ≤ i) (h1 : i % 64 = 0) (h2 : i < ((padded 0 l).length : Int)) : (chk l i).length = 64 := by
  have := step_le h1 h2
  simp only [chk, List.length_take, List.length_drop]; omega
theorem stAt_succ {l : List Nat} {i : Int} (h0 : 0 ≤ i) : stAt l (i + 64) = absorbN (stAt l i) (chk l i) := by
  unfold stAt chk
  rw [show (i + 64).toNat / 64 = i.toNat / 64 + 1 by omega, absorbK]
theorem chk_lt {l : List Nat} (h : W8 l) (i : Int) : W8 (chk l i) := by
  have hp : W8 (padded 0 l) := h.append (W8.cons (by omega) ((W8.zeros _).append (be8_lt _)))
  intro x hx
  exact hp x (List.mem_of_mem_drop (List.mem_of_mem_take hx))
theorem chk_rd {l : List Nat} {i : Int} {w : World} {v : Value} (h0 : 0 ≤ i) (h1 : i % 64 = 0) (h2 : i < ((padded 0 l).length : Int)) (hr : RdV w 1 v (padded 0 l).length (B8 (padded 0 l)).toList) : RdV w 1 (subS 1 i.toNat (i + 64).toNat v) 64 (B8 (chk l i)).toList := by
  have := step_le h1 h2
  have h := sub_rdv (l := i.toNat) (h := (i + 64).toNat) hr (by omega) (by omega)
  rw [show (i + 64).toNat - i.toNat = 64 by omega] at h
  have e : ((B8 (padded 0 l)).toList.drop (i.toNat * 1)).take (64 * 1) = (B8 (chk l i)).toList := by
    unfold chk B8
    rw [show 64 * (i.toNat / 64) = i.toNat by omega]
    simp [List.map_take, List.map_drop]
  rwa [e] at h
theorem rblock_rd (st b : List Nat) (v : Value) (w : World) (hs : st.length = 8) (hs' : W32 st) (hb : b.length = 64) (hb' : W8 b) (hr : RdV w 1 v 64 (B8 b).toList) :
    Calls Try.prog 20 #[.agg (U64 st), v] w fun e w' => e = .returned (.agg (U64 (absorbN st b))) ∧ Below w.heap.size w w' := by
  obtain ⟨c, hv, _, _, hg, hc⟩ := hr.form (by omega)
  rw [hv]
  exact block_any st b (gof v) (oof v) c w hs hs' hb hb' hg (fun j hj => hc j _ (by
    rw [B8_list, List.getElem?_map, List.getElem?_eq_getElem (by omega), at0_eq (by omega)]; rfl))
theorem ar39 : ArTy Try.prog 39 38 8 1 := ⟨Try.underlying39, by kernel_rfl⟩
theorem ar24 : ArTy Try.prog 24 5 32 1 := ⟨Try.underlying24, by kernel_rfl⟩
theorem U64_at {x : List Nat} {k : Nat} (h : k < x.length) : (U64 x)[k]? = some (.int .u64 ((at0 x k : Nat) : Int)) := by
  unfold U64; rw [at0_eq h]; simp [h]
theorem B8_ones (l : List Nat) : (B8 l).toList.all (·.oneCell') = true := by simp [B8, Value.oneCell']
theorem out_step {st : List Nat} {j : Int} (h0 : 0 ≤ j) (h1 : j < 32) : B8 (pad 32 ((bytesN st).take (j + 1).toNat)) = (B8 (pad 32 ((bytesN st).take j.toNat))).setIfInBounds (0 + j.toNat * 1) (.int .u8 ((at0 st (0 + (j / 4).toNat * 1) / 2 ^ (24 - (j % 4) * 8).toNat % 256 : Nat) : Int)) := by
  have hl : ((bytesN st).take j.toNat).length = j.toNat := by rw [List.length_take, bytesN_length]; omega
  have := B8_set 32 ((bytesN st).take j.toNat) (byteOf st j.toNat) (by omega)
  rw [hl] at this
  have e1 : 0 + j.toNat * 1 = j.toNat := by omega
  have e2 : at0 st (0 + (j / 4).toNat * 1) / 2 ^ (24 - (j % 4) * 8).toNat % 256 = byteOf st j.toNat := by
    unfold byteOf
    rw [show 0 + (j / 4).toNat * 1 = j.toNat / 4 by omega, show (24 - (j % 4) * 8).toNat = 24 - j.toNat % 4 * 8 by omega]
  rw [e1, e2, this]
  congr 2
  rw [show (j + 1).toNat = j.toNat + 1 by omega, List.take_add_one, List.getElem?_eq_getElem (by rw [bytesN_length]; omega)]
  have := at0_bytesN st j.toNat (by omega)
  rw [at0_eq (by rw [bytesN_length]; omega)] at this
  rw [this]
  rfl
theorem fin_eq {l : List Nat} {i j : Int} (h0 : ¬ i < ((padded 0 l).length : Int)) (h1 : i ≤ ((padded 0 l).length : Int)) (h2 : j = 32) : pad 32 ((bytesN (stAt l i)).take j.toNat) = sumN l := by
  subst h2
  have hi : i.toNat = (padded 0 l).length := by omega
  rw [List.take_of_length_le (by rw [bytesN_length]; decide)]
  unfold pad
  rw [bytesN_length, Nat.sub_self, List.replicate_zero, List.append_nil]
  unfold stAt sumN finishN
  rw [hi]
section
variable {o : Oper} {a : Act} {x y : Operand}
theorem pu_shr64 {n : Nat} {s : Int} (ho : o.op = .binOp .shr 38 x y 3) (hx : a.eval x = .int .u64 (n : Int)) (hy : a.eval y = .int .i64 s) (_hn : n < 18446744073709551616) (_h0 : 0 ≤ s) (_h1 : s < 64) : Pure Try.prog o a (.int .u64 ((n / 2 ^ s.toNat : Nat) : Int)) := fun w => by
  simp only [execOp, ho, hx, hy]
  simp [go_sem]
theorem pu_cv8 {n : Nat} (ho : o.op = .convert 38 5 x) (hx : a.eval x = .int .u64 (n : Int)) : Pure Try.prog o a (.int .u8 ((n % 256 : Nat) : Int)) := fun w => by
  simp only [execOp, ho, hx]
  simp [go_sem]
  first | rfl | (simp [IntKind.wrap, IntKind.signed, IntKind.bits]; done) | (unfold IntKind.wrap; simp)
theorem bu39 (ho : o.op = .build 39 #[(0, .const (.int .u64 1779033703)), (1, .const (.int .u64 3144134277)), (2, .const (.int .u64 1013904242)), (3, .const (.int .u64 2773480762)), (4, .const (.int .u64 1359893119)), (5, .const (.int .u64 2600822924)), (6, .const (.int .u64 528734635)), (7, .const (.int .u64 1541459225))]) : Pure Try.prog o a (.agg (U64 initN)) := fun w => by
  simp only [execOp, ho, List.map_toArray, List.map, Act.eval]
  simp [go_sem, U64, initN]
end
set_option maxHeartbeats 1000000 in
theorem rsum_any (l : List Nat) (A : Option Addr) (c : Nat) (w : World) (hl' : W8 l) (hr : Rd w w.heap.size A l) (hbig : l.length < 900000) :
    Calls Try.prog 13 #[.slice A l.length c] w fun e w' => e = .returned (.agg (B8 (sumN l))) ∧ Below w.heap.size w w' := by
  have hple := padded_le l
  refine enterF Try.func13 rfl 41 Try.ntmps13 [.slice A l.length c] rfl [(0, .slice A l.length c)] rfl ?_
  intro φ F
  have M := Mm.start w
  refine wp_seq ?_
  -- region 0
  refine wp_region_lit ?_
  refine sq_alloc F M (wt0 rfl) rfl z24 rfl rfl ?_; clear F M; intro φ ω g1 F M
  refine nx ?_
  refine wp_seq ?_
  -- region 1
  refine wp_region_lit ?_
  refine sq_pure F (wt0 rfl) (bu39 rfl) rfl rfl ?_; clear F; intro φ F
  refine sq_alloc F M (wt0 rfl) rfl z39 rfl rfl ?_; clear F M; intro φ ω g2 F M
  refine sq_stA F M (wt0 rfl) rfl (F.ev rfl) (F.ev rfl) (i := 0) rfl agg39 rfl rfl rfl rfl ?_; clear M; intro ω M
  refine nx ?_
  refine wp_seq ?_
  -- region 2
  refine wp_region_lit ?_
  refine sq_pure F (wt0 rfl) (pu_move rfl (F.ev rfl)) rfl rfl ?_; clear F; intro φ F
  refine sq_callR F (wt0 rfl) rfl en19 (evc (F.ev rfl) evn) (padded_any l A c _ ((hr.below M.bel).more M.bel.size) hbig) rfl rfl ?_
  rintro e ω1 ⟨v1, rfl, hown, hb⟩; refine ⟨v1, rfl, ?_⟩; clear F; intro φ F
  have hown' := World.ownsRow.mono (show ω1.ownsRow ω.heap.size 5 1 v1 (padded 0 l).length (B8 (padded 0 l)).toList from hown) M.bel.size
  replace M := M.add hb (x := .row 5 1 v1 (padded 0 l).length (B8 (padded 0 l)).toList) hown' (fun k hk => (World.ownsRow.lt hown k hk).1)
  clear hown hown' hb
  refine sq_pure F (wt0 rfl) (pu_assign rfl (F.ev rfl)) rfl rfl ?_; clear F; intro φ F
  refine nx ?_
  refine wp_seq ?_
  refine wp_seq ?_
  -- region 3
  refine wp_region_lit ?_
  refine sq_pure F (wt0 rfl) (pu_assign rfl (evk)) rfl rfl ?_; clear F; intro φ F
  refine nx ?_
  refine wp_block ?_
  refine lp (σ := Int) (fun i a w' => Fr a 41 [(2, .pointer (some ⟨g1, 0, none⟩)), (3, .pointer (some ⟨g2, 0, none⟩)), (4, v1), (5, .int .i64 i)] ∧ Mm w w' [.row 5 1 v1 ((padded 0 l).length) ((B8 (padded 0 l)).toList), .blk g2 39 (U64 (stAt l i)), .blk g1 24 (B8 (List.replicate 32 0))] ∧ 0 ≤ i ∧ i ≤ ((padded 0 l).length : Int) ∧ i % 64 = 0) (fun i => (((padded 0 l).length : Int) - i).toNat) (0) ⟨((((F.nil.cons (F.get (k := 5) rfl)).cons (F.get (k := 4) rfl)).cons (F.get (k := 3) rfl)).cons (F.get (k := 2) rfl)), M, Int.le_refl _, by omega, rfl⟩ ?_
  clear F M
  rintro i φ ω ⟨F, M, hp1_0, hp1_1, hp1_2⟩
  refine wp_seq ?_
  refine wp_seq ?_
  -- region 4
  refine wp_region_lit ?_
  refine sq_pure F (wt0 rfl) (pu_move rfl (F.ev rfl)) rfl rfl ?_; clear F; intro φ F
  refine sq_pure F (wt0 rfl) (pu_move rfl (F.ev rfl)) rfl rfl ?_; clear F; intro φ F
  refine sq_pure F (wt0 rfl) (pu_len rfl (F.ev rfl) sl22 (M.rv (i := 0) rfl)) rfl rfl ?_; clear F; intro φ F
  refine sq_pure F (wt0 rfl) (pu_lss rfl (F.ev rfl) (F.ev rfl)) rfl rfl ?_; clear F; intro φ F
  refine nx ?_
  cases hs2 : (decide (i < (((padded 0 l).length) : Int)))
  · rw [hs2] at F
    have hs2i := of_decide_eq_false hs2
    refine wp_cond_false (F.ev rfl) ?_
    refine wp_exit ?_
    refine nxe ?_
    refine nxe ?_
    refine nxm ?_
    refine nxq ?_
    refine wp_seq ?_
    -- region 7
    refine wp_region_lit ?_
    refine sq_alloc F M (wt0 rfl) rfl z24 rfl rfl ?_; clear F M; intro φ ω g3 F M
    refine nx ?_
    refine wp_seq ?_
    refine wp_seq ?_
    -- region 8
    refine wp_region_lit ?_
    refine sq_pure F (wt0 rfl) (pu_assign rfl (evk)) rfl rfl ?_; clear F; intro φ F
    refine nx ?_
    refine wp_block ?_
    refine lp (σ := Int) (fun j a w' => Fr a 41 [(2, .pointer (some ⟨g1, 0, none⟩)), (3, .pointer (some ⟨g2, 0, none⟩)), (6, .pointer (some ⟨g3, 0, none⟩)), (7, .int .i64 j)] ∧ Mm w w' [.blk g3 24 (B8 (pad 32 ((bytesN (stAt l i)).take j.toNat))), .row 5 1 v1 ((padded 0 l).length) ((B8 (padded 0 l)).toList), .blk g2 39 (U64 (stAt l i)), .blk g1 24 (B8 (List.replicate 32 0))] ∧ 0 ≤ j ∧ j ≤ 32) (fun j => (32 - j).toNat) (0) ⟨((((F.nil.cons (F.get (k := 7) rfl)).cons (F.get (k := 6) rfl)).cons (F.get (k := 3) rfl)).cons (F.get (k := 2) rfl)), (by exact M), Int.le_refl _, by omega⟩ ?_
    clear F M
    rintro j φ ω ⟨F, M, hp3_0, hp3_1⟩
    refine wp_seq ?_
    refine wp_seq ?_
    -- region 9
    refine wp_region_lit ?_
    refine sq_pure F (wt0 rfl) (pu_move rfl (F.ev rfl)) rfl rfl ?_; clear F; intro φ F
    refine sq_pure F (wt0 rfl) (pu_lss rfl (F.ev rfl) (evk)) rfl rfl ?_; clear F; intro φ F
    refine nx ?_
    cases hs4 : (decide (j < 32))
    · rw [hs4] at F
      have hs4i := of_decide_eq_false hs4
      refine wp_cond_false (F.ev rfl) ?_
      refine wp_exit ?_
      refine nxe ?_
      refine nxe ?_
      refine nxm ?_
      refine nxq ?_
      refine wp_seq ?_
      -- region 12
      refine wp_region_lit ?_
      refine sq_rd F (wt0 rfl) (ld_agg rfl (F.ev rfl) agg24 (M.rd (i := 0) rfl) (by rw [B8_size, pad_length (by simp; omega)])) rfl rfl ?_; clear F; intro φ F
      refine sq_stA F M (wt0 rfl) rfl (F.ev rfl) (F.ev rfl) (i := 3) rfl agg24 rfl (by rw [B8_size, pad_length (by simp; omega)]) (B8_ones _) rfl ?_; clear M; intro ω M
      refine nx ?_
      refine wp_ret ?_
      refine rt_cell F M rfl rfl (i := 3) rfl agg24 (by rw [B8_size, pad_length (by simp; omega)]) ?_
      refine ⟨?_, M.bel⟩
      rw [fin_eq (l := l) (i := i) (j := j) (by omega) (by omega) (by omega)]
    · rw [hs4] at F
      have hs4i := of_decide_eq_true hs4
      refine wp_cond_true (F.ev rfl) ?_
      refine wp_skip ?_
      refine nxq ?_
      refine wp_seq ?_
      refine wp_block ?_
      -- region 11
      refine wp_region_lit ?_
      refine sq_pure F (wt0 rfl) (pu_move rfl (F.ev rfl)) rfl rfl ?_; clear F; intro φ F
      refine sq_pure F (wt0 rfl) (pu_move rfl (F.ev rfl)) rfl rfl ?_; clear F; intro φ F
      refine sq_pure F (wt0 rfl) (pu_quo rfl (F.ev rfl) (evk) (by omega) (by omega) (by omega)) rfl rfl ?_; clear F; intro φ F
      refine sq_pure F (wt0 rfl) (pu_ixA rfl (F.ev rfl) (F.ev rfl) ar39 (by omega) (by omega)) rfl rfl ?_; clear F; intro φ F
      refine sq_rd F (wt0 rfl) (ld_cell rfl (F.ev rfl) one38 (M.rd (i := 2) rfl) (U64_at (by rw [stAt_len]; omega))) rfl rfl ?_; clear F; intro φ F
      refine sq_pure F (wt0 rfl) (pu_move rfl (F.ev rfl)) rfl rfl ?_; clear F; intro φ F
      refine sq_pure F (wt0 rfl) (pu_rem rfl (F.ev rfl) (evk) (by omega) (by omega) (by omega)) rfl rfl ?_; clear F; intro φ F
      refine sq_pure F (wt0 rfl) (pu_mul rfl (F.ev rfl) (evk) (by omega) (by omega)) rfl rfl ?_; clear F; intro φ F
      refine sq_pure F (wt0 rfl) (pu_sub rfl (evk) (F.ev rfl) (by omega) (by omega)) rfl rfl ?_; clear F; intro φ F
      refine sq_pure F (wt0 rfl) (pu_shr64 rfl (F.ev rfl) (F.ev rfl) (by have := (stAt_lt l i).at (0 + (j / 4).toNat * 1); omega) (by omega) (by omega)) rfl rfl ?_; clear F; intro φ F
      refine sq_pure F (wt0 rfl) (pu_cv8 rfl (F.ev rfl)) rfl rfl ?_; clear F; intro φ F
      refine sq_pure F (wt0 rfl) (pu_ixA rfl (F.ev rfl) (F.ev rfl) ar24 (by omega) (by omega)) rfl rfl ?_; clear F; intro φ F
      refine sq_stC F M (wt0 rfl) rfl (F.ev rfl) (F.ev rfl) (i := 0) rfl (by rw [B8_size, pad_length (by simp; omega)]; omega) (by kernel_rfl) rfl rfl rfl ?_; clear M; intro ω M
      refine wpList_nil ?_
      refine nxb ?_
      refine nxq ?_
      -- region 10
      refine wp_region_lit ?_
      refine sq_pure F (wt0 rfl) (pu_move rfl (F.ev rfl)) rfl rfl ?_; clear F; intro φ F
      refine sq_pure F (wt0 rfl) (pu_add rfl (F.ev rfl) (evk) (by omega) (by omega)) rfl rfl ?_; clear F; intro φ F
      refine sq_pure F (wt0 rfl) (pu_assign rfl (F.ev rfl)) rfl rfl ?_; clear F; intro φ F
      refine wpList_nil ?_
      exact ⟨j + 1, by omega, ((((F.nil.cons (F.get (k := 7) rfl)).cons (F.get (k := 6) rfl)).cons (F.get (k := 3) rfl)).cons (F.get (k := 2) rfl)), (by rw [out_step hp3_0 (by omega)]; exact M), by omega, by omega⟩
  · rw [hs2] at F
    have hs2i := of_decide_eq_true hs2; have hstep := step_le hp1_2 hs2i
    refine wp_cond_true (F.ev rfl) ?_
    refine wp_skip ?_
    refine nxq ?_
    refine wp_seq ?_
    refine wp_block ?_
    -- region 6
    refine rg_heads0 F M 7 [.val (.agg (U64 (stAt l i))), .val (v1), .val (.int .i64 i), .val (.int .i64 i), .val (.int .i64 (i + 64)), .val (subS 1 i.toNat (i + 64).toNat v1), .val (.agg (U64 (absorbN (stAt l i) (chk l i))))] rfl mixedOK (by kernel_rfl) rfl rfl ⟨?_, ?_, ?_, ?_, ?_, ?_, ?_, trivial⟩ ?_
    · intro φ1 ω1 hb F1 hdep hold; have F := (F1.cons (F.was hold (s := 3) rfl rfl)); have M := M.below hb; exact ob_rd (wt0 rfl) (ld_agg rfl (F.ev rfl) agg39 (M.rd (i := 1) rfl) (by rw [U64_size, stAt_len])) rfl
    · intro φ1 ω1 hb F1 hdep hold; have F := (F1.cons (F.was hold (s := 4) rfl rfl)); have M := M.below hb; exact ob_rd (wt0 rfl) (Pure.rdy (pu_move rfl (F.ev rfl))) rfl
    · intro φ1 ω1 hb F1 hdep hold; have F := (F1.cons (F.was hold (s := 5) rfl rfl)); have M := M.below hb; exact ob_rd (wt0 rfl) (Pure.rdy (pu_move rfl (F.ev rfl))) rfl
    · intro φ1 ω1 hb F1 hdep hold; have F := (F1.cons (F.was hold (s := 5) rfl rfl)); have M := M.below hb; exact ob_rd (wt0 rfl) (Pure.rdy (pu_move rfl (F.ev rfl))) rfl
    · intro φ1 ω1 hb F1 hdep hold; have F := (F1.cons (F1.dep hdep 3 (by kernel_rfl) rfl rfl rfl)); have M := M.below hb; exact ob_rd (wt0 rfl) (Pure.rdy (pu_add rfl (F.ev rfl) (evk) (by omega) (by omega))) rfl
    · intro φ1 ω1 hb F1 hdep hold; have F := (((F1.cons (F1.dep hdep 1 (by kernel_rfl) rfl rfl rfl)).cons (F1.dep hdep 2 (by kernel_rfl) rfl rfl rfl)).cons (F1.dep hdep 4 (by kernel_rfl) rfl rfl rfl)); have M := M.below hb; exact ob_rd (wt0 rfl) (Pure.rdy (pu_slice2 rfl (F.ev rfl) (F.ev rfl) (F.ev rfl) sl22 (M.rv (i := 0) rfl) (by omega) (by omega) (by omega))) rfl
    · intro φ1 ω1 hb F1 hdep hold; have F := ((F1.cons (F1.dep hdep 0 (by kernel_rfl) rfl rfl rfl)).cons (F1.dep hdep 5 (by kernel_rfl) rfl rfl rfl)); have M := M.below hb; exact ob_call (wt0 rfl) rfl en20 (evc (F.ev rfl) (evc (F.ev rfl) evn)) (rblock_rd (stAt l i) (chk l i) _ _ (stAt_len l i) (stAt_lt l i) (chk_len hp1_0 hp1_2 hs2i) (chk_lt hl' i) (chk_rd hp1_0 hp1_2 hs2i (M.rv (i := 0) rfl))) rfl
    clear F M; intro φ ω F M
    simp only [headL, List.take_succ_cons, List.take_zero, HV.value] at F
    refine sq_stA F M (wt0 rfl) rfl (F.ev rfl) (F.ev rfl) (i := 1) rfl agg39 (by rw [U64_size, stAt_len]) (by rw [U64_size]; rfl) (U64_ones _) rfl ?_; clear M; intro ω M
    refine wpList_nil ?_
    refine nxb ?_
    refine nxq ?_
    -- region 5
    refine wp_region_lit ?_
    refine sq_pure F (wt0 rfl) (pu_move rfl (F.ev rfl)) rfl rfl ?_; clear F; intro φ F
    refine sq_pure F (wt0 rfl) (pu_add rfl (F.ev rfl) (evk) (by omega) (by omega)) rfl rfl ?_; clear F; intro φ F
    refine sq_pure F (wt0 rfl) (pu_assign rfl (F.ev rfl)) rfl rfl ?_; clear F; intro φ F
    refine wpList_nil ?_
    exact ⟨i + 64, by have := step_le hp1_2 hs2i; omega, ((((F.nil.cons (F.get (k := 5) rfl)).cons (F.get (k := 4) rfl)).cons (F.get (k := 3) rfl)).cons (F.get (k := 2) rfl)), (by rw [stAt_succ hp1_0]; exact M), by omega, step_le hp1_2 hs2i, by omega⟩
end Go.Proofs.Ytiigbhpnlpbnjaa
