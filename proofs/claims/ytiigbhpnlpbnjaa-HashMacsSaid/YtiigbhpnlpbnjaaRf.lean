/- The reference's Mac. Made by walks/refmac.py. -/
import Derived.Test.YtiigbhpnlpbnjaaRe
import Derived.Test.YtiigbhpnlpbnjaaLe
import Derived.Test.YtiigbhpnlpbnjaaWf
import Derived.Test.YtiigbhpnlpbnjaaAp
namespace Go.Proofs.Ytiigbhpnlpbnjaa
open Go.RowKit Rm

theorem el5 : ElTy Try.prog 5 1 1 := ⟨by omega, .int .u8 0, rfl, info5p⟩
theorem B8_ones' (l : List Nat) : ∀ z ∈ (B8 l).toList, z.oneCell' = true := fun z hz => List.all_eq_true.1 (B8_ones l) z hz
theorem one_ones {k : IntKind} (n : Int) : ∀ z ∈ [Value.int k n], z.oneCell' = true := fun z hz => by
  rw [List.mem_singleton] at hz; subst hz; rfl
theorem B8_app (x y : List Nat) : (B8 (x ++ y)).toList = (B8 x).toList ++ (B8 y).toList := by simp [B8_list]
theorem B8_atI {X : List Nat} {j : Int} (h : j.toNat < X.length) : (B8 X).toList[j.toNat * 1]? = some (.int .u8 ((at0 X j.toNat : Nat) : Int)) := by
  rw [Nat.mul_one, B8_list, List.getElem?_map, List.getElem?_eq_getElem h, at0_eq h]; rfl
theorem rd_rdv {w : World} {A : Option Addr} {l : List Nat} {c : Nat} (hr : Rd w w.heap.size A l) (hc : l.length ≤ c) (hm : c ≤ maxLen) : RdV w 1 (.slice A l.length c) l.length (B8 l).toList := by
  refine ⟨by simp [B8_list], A, c, rfl, hc, hm, fun h0 => ?_⟩
  obtain ⟨ad, rfl, hb, hcell⟩ := hr h0
  have h1 := hcell 0 h0
  have hsp : ad.spot = none := by
    have e : ad.add 0 = ad := by unfold Addr.add; simp
    rw [e] at h1
    unfold World.cell? at h1
    cases hs : ad.spot with
    | none => rfl
    | some x => rw [hs] at h1; split at h1 <;> simp at h1
  obtain ⟨g, off, sp⟩ := ad
  subst hsp
  refine ⟨g, off, rfl, hb, fun j u hj => ?_⟩
  have hjl : j < l.length := by
    rcases Nat.lt_or_ge j l.length with h | h
    · exact h
    · rw [List.getElem?_eq_none (by simpa [B8_list] using h)] at hj; cases hj
  have := hcell j hjl
  rw [addr_add] at this
  rw [this, ← hj, B8_list, List.getElem?_map, List.getElem?_eq_getElem hjl, at0_eq hjl]; rfl
theorem rsum_rd (l : List Nat) (v : Value) (w : World) (hl' : W8 l) (hr : RdV w 1 v l.length (B8 l).toList) (hbig : l.length < 900000) :
    Calls Try.prog 13 #[v] w fun e w' => e = .returned (.agg (B8 (sumN l))) ∧ Below w.heap.size w w' := by
  obtain ⟨_, A, c, rfl, hc, _, h3⟩ := hr
  refine rsum_any l A c w hl' (fun h0 => ?_) hbig
  obtain ⟨g, off, rfl, hg, hcell⟩ := h3 h0
  refine ⟨_, rfl, hg, fun j hj => ?_⟩
  rw [addr_add]
  exact hcell j _ (by rw [B8_list, List.getElem?_map, List.getElem?_eq_getElem hj, at0_eq hj]; rfl)
theorem key_long {key : List Nat} (h : 64 < key.length) : keyN key = pad 64 (sumN key) := by rw [keyN_eq]; unfold key64; rw [if_pos h]
theorem key_short {key : List Nat} (h : ¬ 64 < key.length) : keyN key = pad 64 key := by rw [keyN_eq]; unfold key64; rw [if_neg h]
theorem kat_in {key kk : List Nat} {j : Int} (hK : keyN key = pad 64 kk) (_h0 : 0 ≤ j) (_h : j < 64) : at0 (keyN key) j.toNat = at0 kk j.toNat := by rw [hK, at0_pad]
theorem kat_out {key kk : List Nat} {j : Int} (hK : keyN key = pad 64 kk) (h0 : 0 ≤ j) (_h : j < 64) (h1 : ¬ j < (kk.length : Int)) : at0 (keyN key) j.toNat = 0 := by
  rw [hK, at0_pad, at0_out (by omega)]
theorem nat_succ {j : Int} (h : 0 ≤ j) : (j + 1).toNat = j.toNat + 1 := by omega
theorem mask_step {key : List Nat} {j : Int} {x m : Nat} (h0 : 0 ≤ j) (h1 : j < 64) (hx : at0 (keyN key) j.toNat = x) : (B8 (maskN ((keyN key).take (j + 1).toNat) m)).toList = (B8 (maskN ((keyN key).take j.toNat) m)).toList ++ [.int .u8 ((x ^^^ m : Nat) : Int)] := by
  have hl := keyN_length key
  rw [nat_succ h0, List.take_succ_eq_append_getElem (by omega), ← hx, at0_eq (by omega)]
  simp only [B8_list, maskN, List.map_append, List.map_cons, List.map_nil]
theorem mask_lt {K : List Nat} (h : W8 K) (j m : Nat) (hm : m < 256) : W8 (maskN (K.take j) m) := by
  intro a ha
  unfold maskN at ha
  obtain ⟨x, hx, rfl⟩ := List.mem_map.1 ha
  exact Nat.xor_lt_two_pow (n := 8) (h x (List.mem_of_mem_take hx)) hm
theorem mlen {key : List Nat} {j : Int} {m : Nat} (_h0 : 0 ≤ j) (h1 : j ≤ 64) : (maskN ((keyN key).take j.toNat) m).length = j.toNat := by simp [maskN, keyN_length]; omega
theorem mac_eq {key l : List Nat} {j : Int} (h : j = 64) : sumN (maskN ((keyN key).take j.toNat) 92 ++ sumN (maskN ((keyN key).take j.toNat) 54 ++ l)) = macN key l := by
  subst h
  have e : (keyN key).take (64 : Int).toNat = keyN key := List.take_of_length_le (by rw [keyN_length]; decide)
  rw [e, sum_block _ _ (by simp [maskN, keyN_length]), sum_block _ _ (by simp [maskN, keyN_length])]
  rfl
section
variable {o : Oper} {a : Act} {x y : Operand}
theorem bs22_0 {w : World} (ho : o.op = .buildSlice 22 0 #[]) : (execOp a.eval o).run Try.prog w = .ok (.value (.slice (some ⟨w.heap.size, 0, none⟩) 0 0)) (w.alloc (.cells #[] 5)) := by
  simp only [execOp, ho, List.map_toArray, List.map]
  simp [go_sem]
theorem bs22_1 {w : World} {i : Int} (ho : o.op = .buildSlice 22 1 #[(0, x)]) (hx : a.eval x = .int .u8 i) : (execOp a.eval o).run Try.prog w = .ok (.value (.slice (some ⟨w.heap.size, 0, none⟩) 1 1)) (w.alloc (.cells #[.int .u8 i] 5)) := by
  simp only [execOp, ho, List.map_toArray, List.map, hx]
  simp [go_sem]
theorem pu_xor8 {n m : Nat} (ho : o.op = .binOp .xor 5 x y 5) (hx : a.eval x = .int .u8 (n : Int)) (hy : a.eval y = .int .u8 (m : Int)) (hn : n < 256) (hm : m < 256) : Pure Try.prog o a (.int .u8 ((n ^^^ m : Nat) : Int)) := fun w => by
  have := u8_xor_nat n m hn hm
  simp only [execOp, ho, hx, hy]
  simp [go_sem, this]
end
theorem one5 : OneTy Try.prog 5 := ⟨_, Try.underlying5, rfl⟩
theorem en13 : enters Try.prog 13 = true := by kernel_rfl
set_option maxHeartbeats 2000000 in
theorem rmac_rd (key l : List Nat) (A0 A : Option Addr) (c0 c : Nat) (w : World) (hk' : W8 key) (hl' : W8 l) (hrk : Rd w w.heap.size A0 key) (hr : Rd w w.heap.size A l) (hc0 : key.length ≤ c0) (hc : l.length ≤ c) (hm0 : c0 ≤ maxLen) (hm : c ≤ maxLen) (hbk : key.length < 100000) (hbig : l.length < 100000) :
    Calls Try.prog 15 #[.slice A0 key.length c0, .slice A l.length c] w fun e w' => e = .returned (.agg (B8 (macN key l))) ∧ Below w.heap.size w w' := by
  have hs32 := sumN_length key
  refine enterF Try.func15 rfl 53 Try.ntmps15 [(.slice A0 key.length c0), (.slice A l.length c)] rfl [(0, (.slice A0 key.length c0)), (1, (.slice A l.length c))] rfl ?_
  intro φ F
  have M := Mm.start w
  replace M := M.addArg (rd_rdv hr hc hm)
  replace M := M.addArg (rd_rdv hrk hc0 hm0)
  refine wp_seq ?_
  -- region 0
  refine wp_region_lit ?_
  refine sq_alloc F M (wt0 rfl) rfl z24 rfl rfl ?_; clear F M; intro φ ω g1 F M
  refine nx ?_
  refine wp_seq ?_
  -- region 1
  refine wp_region_lit ?_
  refine sq_bs F M (wt0 rfl) (parts := #[]) (m := 1) (e := 5) (k := 0) (cs := #[]) (bs22_0 rfl) (by omega) rfl rfl rfl ?_; clear F M; intro φ ω g2 F M
  replace M : Mm w ω [.row 5 1 (.slice (some ⟨g2, 0, none⟩) 0 0) 0 ([]), .blk g1 24 (B8 (List.replicate 32 0)), .arg 1 (.slice A0 key.length c0) key.length ((B8 key).toList), .arg 1 (.slice A l.length c) l.length ((B8 l).toList)] := M
  refine sq_pure F (wt0 rfl) (pu_move rfl (F.ev rfl)) rfl rfl ?_; clear F; intro φ F
  refine sq_app F M (wt0 rfl) rfl sl22.1 el5 (F.ev rfl) (i := 0) rfl (F.ev rfl) (M.av (i := 2) rfl) (B8_ones' _) (by omega) (by omega) rfl rfl ?_; clear F M; intro φ ω v1 F M
  replace M : Mm w ω [.row 5 1 v1 key.length ((B8 key).toList), .blk g1 24 (B8 (List.replicate 32 0)), .arg 1 (.slice A0 key.length c0) key.length ((B8 key).toList), .arg 1 (.slice A l.length c) l.length ((B8 l).toList)] := by simpa using M
  refine sq_pure F (wt0 rfl) (pu_assign rfl (F.ev rfl)) rfl rfl ?_; clear F; intro φ F
  refine nx ?_
  refine wp_seq ?_
  refine wp_seq ?_
  -- region 2
  refine wp_region_lit ?_
  refine sq_pure F (wt0 rfl) (pu_move rfl (F.ev rfl)) rfl rfl ?_; clear F; intro φ F
  refine sq_pure F (wt0 rfl) (pu_len rfl (F.ev rfl) sl22 (M.rv (i := 0) rfl)) rfl rfl ?_; clear F; intro φ F
  refine sq_pure F (wt0 rfl) (pu_gtr rfl (F.ev rfl) (evk)) rfl rfl ?_; clear F; intro φ F
  refine nx ?_
  cases hs1 : (decide (64 < ((key.length : Nat) : Int)))
  · rw [hs1] at F
    have hs1i := of_decide_eq_false hs1; have hK := key_short (key := key) (by omega)
    refine wp_cond_false (F.ev rfl) ?_
    refine wp_skip ?_
    refine nxq ?_
    refine wp_seq ?_
    -- region 5
    refine wp_region_lit ?_
    refine sq_pure F (wt0 rfl) (pu_assign rfl (evk)) rfl rfl ?_; clear F; intro φ F
    refine nx ?_
    refine wp_seq ?_
    -- region 6
    refine wp_region_lit ?_
    refine sq_pure F (wt0 rfl) (pu_assign rfl (evk)) rfl rfl ?_; clear F; intro φ F
    refine nx ?_
    refine wp_seq ?_
    refine wp_seq ?_
    -- region 7
    refine wp_region_lit ?_
    refine sq_pure F (wt0 rfl) (pu_assign rfl (evk)) rfl rfl ?_; clear F; intro φ F
    refine nx ?_
    refine wp_block ?_
    have HX : ∀ k, at0 key k < 256 := fun k => W8.at hk' k
    refine lp (σ := Int) (fun j a w' => ∃ vi : Value, ∃ vo : Value, Fr a 53 [(0, (.slice A0 key.length c0)), (1, (.slice A l.length c)), (4, .pointer (some ⟨g1, 0, none⟩)), (5, v1), (7, vi), (8, vo), (9, .int .i64 j)] ∧ Mm w w' [.row 5 1 vi j.toNat ((B8 (maskN ((keyN key).take j.toNat) 54)).toList), .row 5 1 vo j.toNat ((B8 (maskN ((keyN key).take j.toNat) 92)).toList), .row 5 1 v1 key.length ((B8 key).toList), .blk g1 24 (B8 (List.replicate 32 0)), .arg 1 (.slice A0 key.length c0) key.length ((B8 key).toList), .arg 1 (.slice A l.length c) l.length ((B8 l).toList)] ∧ 0 ≤ j ∧ j ≤ 64) (fun j => (64 - j).toNat) (0) ⟨.slice none 0 0, .slice none 0 0, (((((((F.nil.cons (F.get (k := 9) rfl)).cons (F.get (k := 8) rfl)).cons (F.get (k := 7) rfl)).cons (F.get (k := 5) rfl)).cons (F.get (k := 4) rfl)).cons (F.get (k := 1) rfl)).cons (F.get (k := 0) rfl)), ((M.nilRow 5 1).nilRow 5 1), Int.le_refl _, by omega⟩ ?_
    clear F M
    rintro j φ ω ⟨vi, vo, F, M, hp2_0, hp2_1⟩
    refine wp_seq ?_
    refine wp_seq ?_
    -- region 8
    refine wp_region_lit ?_
    refine sq_pure F (wt0 rfl) (pu_move rfl (F.ev rfl)) rfl rfl ?_; clear F; intro φ F
    refine sq_pure F (wt0 rfl) (pu_lss rfl (F.ev rfl) (evk)) rfl rfl ?_; clear F; intro φ F
    refine nx ?_
    cases hs3 : (decide (j < 64))
    · rw [hs3] at F
      have hs3i := of_decide_eq_false hs3
      refine wp_cond_false (F.ev rfl) ?_
      refine wp_exit ?_
      refine nxe ?_
      refine nxe ?_
      refine nxm ?_
      refine nxq ?_
      refine wp_seq ?_
      -- region 15
      refine wp_region_lit ?_
      refine sq_pure F (wt0 rfl) (pu_move rfl (F.ev rfl)) rfl rfl ?_; clear F; intro φ F
      refine sq_pure F (wt0 rfl) (pu_move rfl (F.ev rfl)) rfl rfl ?_; clear F; intro φ F
      refine sq_app F M (wt0 rfl) rfl sl22.1 el5 (F.ev rfl) (i := 0) rfl (F.ev rfl) (M.av (i := 5) rfl) (B8_ones' _) (by omega) (by omega) rfl rfl ?_; clear F M; intro φ ω v2 F M
      replace M : Mm w ω [.row 5 1 v2 (j.toNat + l.length) ((B8 (maskN ((keyN key).take j.toNat) 54)).toList ++ (B8 l).toList), .row 5 1 vo j.toNat ((B8 (maskN ((keyN key).take j.toNat) 92)).toList), .row 5 1 v1 key.length ((B8 key).toList), .blk g1 24 (B8 (List.replicate 32 0)), .arg 1 (.slice A0 key.length c0) key.length ((B8 key).toList), .arg 1 (.slice A l.length c) l.length ((B8 l).toList)] := by simpa using M
      refine sq_call F M (wt0 rfl) rfl en13 (evc (F.ev rfl) evn) (rsum_rd (maskN ((keyN key).take j.toNat) 54 ++ l) _ _ ((mask_lt (keyN_lt hk') _ 54 (by omega)).append hl') (by have hq := M.rv (i := 0) rfl; rw [List.length_append, mlen hp2_0 hp2_1, B8_app]; exact hq) (by rw [List.length_append, mlen hp2_0 hp2_1]; omega)) rfl rfl ?_; clear F M; intro φ ω F M
      refine sq_alloc F M (wt0 rfl) rfl z24 rfl rfl ?_; clear F M; intro φ ω g3 F M
      refine sq_stA F M (wt0 rfl) rfl (F.ev rfl) (F.ev rfl) (i := 0) rfl agg24 rfl (by rw [B8_size, sumN_length]) (B8_ones _) rfl ?_; clear M; intro ω M
      refine nx ?_
      refine wp_seq ?_
      -- region 16
      refine wp_region_lit ?_
      refine sq_pure F (wt0 rfl) (pu_move rfl (F.ev rfl)) rfl rfl ?_; clear F; intro φ F
      refine sq_pure F (wt0 rfl) (pu_sliceA rfl (F.ev rfl) ar24) rfl rfl ?_; clear F; intro φ F
      refine sq_app F M (wt0 rfl) rfl sl22.1 el5 (F.ev rfl) (i := 2) rfl (F.ev rfl) (blk_rdv (m := 1) (n := 32) (M.at (i := 0) rfl) (by rw [B8_size, sumN_length]) (by omega)) (B8_ones' _) (by omega) (by omega) rfl rfl ?_; clear F M; intro φ ω v3 F M
      replace M : Mm w ω [.blk g3 24 (B8 (sumN (maskN ((keyN key).take j.toNat) 54 ++ l))), .row 5 1 v2 (j.toNat + l.length) ((B8 (maskN ((keyN key).take j.toNat) 54)).toList ++ (B8 l).toList), .row 5 1 v3 (j.toNat + 32) ((B8 (maskN ((keyN key).take j.toNat) 92)).toList ++ (B8 (sumN (maskN ((keyN key).take j.toNat) 54 ++ l))).toList), .row 5 1 v1 key.length ((B8 key).toList), .blk g1 24 (B8 (List.replicate 32 0)), .arg 1 (.slice A0 key.length c0) key.length ((B8 key).toList), .arg 1 (.slice A l.length c) l.length ((B8 l).toList)] := by simpa using M
      refine sq_call F M (wt0 rfl) rfl en13 (evc (F.ev rfl) evn) (rsum_rd (maskN ((keyN key).take j.toNat) 92 ++ sumN (maskN ((keyN key).take j.toNat) 54 ++ l)) _ _ ((mask_lt (keyN_lt hk') _ 92 (by omega)).append (sumN_lt _)) (by have hq := M.rv (i := 2) rfl; rw [List.length_append, mlen hp2_0 hp2_1, sumN_length, B8_app]; exact hq) (by rw [List.length_append, mlen hp2_0 hp2_1, sumN_length]; omega)) rfl rfl ?_; clear F M; intro φ ω F M
      refine sq_stA F M (wt0 rfl) rfl (F.ev rfl) (F.ev rfl) (i := 4) rfl agg24 rfl (by rw [B8_size, sumN_length]) (B8_ones _) rfl ?_; clear M; intro ω M
      refine nx ?_
      refine wp_ret ?_
      refine rt_cell F M rfl rfl (i := 4) rfl agg24 (by rw [B8_size, sumN_length]) ?_
      refine ⟨?_, M.bel⟩
      rw [mac_eq (by omega)]
    · rw [hs3] at F
      have hs3i := of_decide_eq_true hs3
      refine wp_cond_true (F.ev rfl) ?_
      refine wp_skip ?_
      refine nxq ?_
      refine wp_seq ?_
      refine wp_block ?_
      refine wp_seq ?_
      -- region 10
      refine wp_region_lit ?_
      refine sq_pure F (wt0 rfl) (pu_assign rfl (evk)) rfl rfl ?_; clear F; intro φ F
      refine nx ?_
      refine wp_seq ?_
      refine wp_seq ?_
      -- region 11
      refine wp_region_lit ?_
      refine sq_pure F (wt0 rfl) (pu_move rfl (F.ev rfl)) rfl rfl ?_; clear F; intro φ F
      refine sq_pure F (wt0 rfl) (pu_move rfl (F.ev rfl)) rfl rfl ?_; clear F; intro φ F
      refine sq_pure F (wt0 rfl) (pu_len rfl (F.ev rfl) sl22 (M.rv (i := 2) rfl)) rfl rfl ?_; clear F; intro φ F
      refine sq_pure F (wt0 rfl) (pu_lss rfl (F.ev rfl) (F.ev rfl)) rfl rfl ?_; clear F; intro φ F
      refine nx ?_
      cases hs4 : (decide (j < ((key.length : Nat) : Int)))
      · rw [hs4] at F
        have hs4i := of_decide_eq_false hs4
        refine wp_cond_false (F.ev rfl) ?_
        refine wp_skip ?_
        refine nxq ?_
        refine wp_seq ?_
        -- region 13
        refine wp_region_lit ?_
        refine sq_pure F (wt0 rfl) (pu_move rfl (F.ev rfl)) rfl rfl ?_; clear F; intro φ F
        refine sq_pure F (wt0 rfl) (pu_move rfl (F.ev rfl)) rfl rfl ?_; clear F; intro φ F
        refine sq_pure F (wt0 rfl) (pu_xor8 (n := 0) (m := 54) rfl (F.ev rfl) evk (by omega) (by omega)) rfl rfl ?_; clear F; intro φ F
        refine sq_bs F M (wt0 rfl) (parts := #[]) (m := 1) (e := 5) (k := 1) (cs := #[.int .u8 ((0 ^^^ 54 : Nat) : Int)]) (bs22_1 rfl (F.ev rfl)) (by omega) rfl rfl rfl ?_; clear F M; intro φ ω g4 F M
        replace M : Mm w ω [.row 5 1 (.slice (some ⟨g4, 0, none⟩) 1 1) 1 ([.int .u8 ((0 ^^^ 54 : Nat) : Int)]), .row 5 1 vi j.toNat ((B8 (maskN ((keyN key).take j.toNat) 54)).toList), .row 5 1 vo j.toNat ((B8 (maskN ((keyN key).take j.toNat) 92)).toList), .row 5 1 v1 key.length ((B8 key).toList), .blk g1 24 (B8 (List.replicate 32 0)), .arg 1 (.slice A0 key.length c0) key.length ((B8 key).toList), .arg 1 (.slice A l.length c) l.length ((B8 l).toList)] := M
        refine sq_app F M (wt0 rfl) rfl sl22.1 el5 (F.ev rfl) (i := 1) rfl (F.ev rfl) (M.rv (i := 0) rfl) (one_ones _) (by omega) (by omega) rfl rfl ?_; clear F M; intro φ ω v4 F M
        replace M : Mm w ω [.row 5 1 (.slice (some ⟨g4, 0, none⟩) 1 1) 1 ([.int .u8 ((0 ^^^ 54 : Nat) : Int)]), .row 5 1 v4 (j.toNat + 1) ((B8 (maskN ((keyN key).take j.toNat) 54)).toList ++ [.int .u8 ((0 ^^^ 54 : Nat) : Int)]), .row 5 1 vo j.toNat ((B8 (maskN ((keyN key).take j.toNat) 92)).toList), .row 5 1 v1 key.length ((B8 key).toList), .blk g1 24 (B8 (List.replicate 32 0)), .arg 1 (.slice A0 key.length c0) key.length ((B8 key).toList), .arg 1 (.slice A l.length c) l.length ((B8 l).toList)] := by simpa using M
        refine sq_pure F (wt0 rfl) (pu_assign rfl (F.ev rfl)) rfl rfl ?_; clear F; intro φ F
        refine nx ?_
        -- region 14
        refine wp_region_lit ?_
        refine sq_pure F (wt0 rfl) (pu_move rfl (F.ev rfl)) rfl rfl ?_; clear F; intro φ F
        refine sq_pure F (wt0 rfl) (pu_move rfl (F.ev rfl)) rfl rfl ?_; clear F; intro φ F
        refine sq_pure F (wt0 rfl) (pu_xor8 (n := 0) (m := 92) rfl (F.ev rfl) evk (by omega) (by omega)) rfl rfl ?_; clear F; intro φ F
        refine sq_bs F M (wt0 rfl) (parts := #[]) (m := 1) (e := 5) (k := 1) (cs := #[.int .u8 ((0 ^^^ 92 : Nat) : Int)]) (bs22_1 rfl (F.ev rfl)) (by omega) rfl rfl rfl ?_; clear F M; intro φ ω g5 F M
        replace M : Mm w ω [.row 5 1 (.slice (some ⟨g5, 0, none⟩) 1 1) 1 ([.int .u8 ((0 ^^^ 92 : Nat) : Int)]), .row 5 1 (.slice (some ⟨g4, 0, none⟩) 1 1) 1 ([.int .u8 ((0 ^^^ 54 : Nat) : Int)]), .row 5 1 v4 (j.toNat + 1) ((B8 (maskN ((keyN key).take j.toNat) 54)).toList ++ [.int .u8 ((0 ^^^ 54 : Nat) : Int)]), .row 5 1 vo j.toNat ((B8 (maskN ((keyN key).take j.toNat) 92)).toList), .row 5 1 v1 key.length ((B8 key).toList), .blk g1 24 (B8 (List.replicate 32 0)), .arg 1 (.slice A0 key.length c0) key.length ((B8 key).toList), .arg 1 (.slice A l.length c) l.length ((B8 l).toList)] := M
        refine sq_app F M (wt0 rfl) rfl sl22.1 el5 (F.ev rfl) (i := 3) rfl (F.ev rfl) (M.rv (i := 0) rfl) (one_ones _) (by omega) (by omega) rfl rfl ?_; clear F M; intro φ ω v5 F M
        replace M : Mm w ω [.row 5 1 (.slice (some ⟨g5, 0, none⟩) 1 1) 1 ([.int .u8 ((0 ^^^ 92 : Nat) : Int)]), .row 5 1 (.slice (some ⟨g4, 0, none⟩) 1 1) 1 ([.int .u8 ((0 ^^^ 54 : Nat) : Int)]), .row 5 1 v4 (j.toNat + 1) ((B8 (maskN ((keyN key).take j.toNat) 54)).toList ++ [.int .u8 ((0 ^^^ 54 : Nat) : Int)]), .row 5 1 v5 (j.toNat + 1) ((B8 (maskN ((keyN key).take j.toNat) 92)).toList ++ [.int .u8 ((0 ^^^ 92 : Nat) : Int)]), .row 5 1 v1 key.length ((B8 key).toList), .blk g1 24 (B8 (List.replicate 32 0)), .arg 1 (.slice A0 key.length c0) key.length ((B8 key).toList), .arg 1 (.slice A l.length c) l.length ((B8 l).toList)] := by simpa using M
        refine sq_pure F (wt0 rfl) (pu_assign rfl (F.ev rfl)) rfl rfl ?_; clear F; intro φ F
        refine wpList_nil ?_
        refine nxb ?_
        refine nxq ?_
        -- region 9
        refine wp_region_lit ?_
        refine sq_pure F (wt0 rfl) (pu_move rfl (F.ev rfl)) rfl rfl ?_; clear F; intro φ F
        refine sq_pure F (wt0 rfl) (pu_add rfl (F.ev rfl) (evk) (by omega) (by omega)) rfl rfl ?_; clear F; intro φ F
        refine sq_pure F (wt0 rfl) (pu_assign rfl (F.ev rfl)) rfl rfl ?_; clear F; intro φ F
        refine wpList_nil ?_
        exact ⟨j + 1, by omega, v4, v5, (((((((F.nil.cons (F.get (k := 9) rfl)).cons (F.get (k := 8) rfl)).cons (F.get (k := 7) rfl)).cons (F.get (k := 5) rfl)).cons (F.get (k := 4) rfl)).cons (F.get (k := 1) rfl)).cons (F.get (k := 0) rfl)), (by rw [mask_step hp2_0 (by omega) (kat_out hK hp2_0 (by omega) (by omega)), mask_step hp2_0 (by omega) (kat_out hK hp2_0 (by omega) (by omega)), nat_succ hp2_0]; exact (M.sub (.cons _ (.cons _ (.cons_cons _ (.cons_cons _ (.cons_cons _ (.cons_cons _ (.cons_cons _ (.cons_cons _ .slnil)))))))))), by omega, by omega⟩
      · rw [hs4] at F
        have hs4i := of_decide_eq_true hs4
        refine wp_cond_true (F.ev rfl) ?_
        -- region 12
        refine wp_region_lit ?_
        refine sq_pure F (wt0 rfl) (pu_move rfl (F.ev rfl)) rfl rfl ?_; clear F; intro φ F
        refine sq_pure F (wt0 rfl) (pu_move rfl (F.ev rfl)) rfl rfl ?_; clear F; intro φ F
        refine sq_pure F (wt0 rfl) (pu_ix rfl (F.ev rfl) (F.ev rfl) sl22 (M.rv (i := 2) rfl) (by omega) (by omega)) rfl rfl ?_; clear F; intro φ F
        refine sq_rd F (wt0 rfl) (ld_el1 rfl (F.ev rfl) one5 (M.rvE (i := 2) rfl) (by omega) (B8_atI (by omega))) rfl rfl ?_; clear F; intro φ F
        refine sq_pure F (wt0 rfl) (pu_assign rfl (F.ev rfl)) rfl rfl ?_; clear F; intro φ F
        refine nx ?_
        refine wp_seq ?_
        -- region 13
        refine wp_region_lit ?_
        refine sq_pure F (wt0 rfl) (pu_move rfl (F.ev rfl)) rfl rfl ?_; clear F; intro φ F
        refine sq_pure F (wt0 rfl) (pu_move rfl (F.ev rfl)) rfl rfl ?_; clear F; intro φ F
        refine sq_pure F (wt0 rfl) (pu_xor8 (n := at0 key j.toNat) (m := 54) rfl (F.ev rfl) evk (HX _) (by omega)) rfl rfl ?_; clear F; intro φ F
        refine sq_bs F M (wt0 rfl) (parts := #[]) (m := 1) (e := 5) (k := 1) (cs := #[.int .u8 ((at0 key j.toNat ^^^ 54 : Nat) : Int)]) (bs22_1 rfl (F.ev rfl)) (by omega) rfl rfl rfl ?_; clear F M; intro φ ω g6 F M
        replace M : Mm w ω [.row 5 1 (.slice (some ⟨g6, 0, none⟩) 1 1) 1 ([.int .u8 ((at0 key j.toNat ^^^ 54 : Nat) : Int)]), .row 5 1 vi j.toNat ((B8 (maskN ((keyN key).take j.toNat) 54)).toList), .row 5 1 vo j.toNat ((B8 (maskN ((keyN key).take j.toNat) 92)).toList), .row 5 1 v1 key.length ((B8 key).toList), .blk g1 24 (B8 (List.replicate 32 0)), .arg 1 (.slice A0 key.length c0) key.length ((B8 key).toList), .arg 1 (.slice A l.length c) l.length ((B8 l).toList)] := M
        refine sq_app F M (wt0 rfl) rfl sl22.1 el5 (F.ev rfl) (i := 1) rfl (F.ev rfl) (M.rv (i := 0) rfl) (one_ones _) (by omega) (by omega) rfl rfl ?_; clear F M; intro φ ω v6 F M
        replace M : Mm w ω [.row 5 1 (.slice (some ⟨g6, 0, none⟩) 1 1) 1 ([.int .u8 ((at0 key j.toNat ^^^ 54 : Nat) : Int)]), .row 5 1 v6 (j.toNat + 1) ((B8 (maskN ((keyN key).take j.toNat) 54)).toList ++ [.int .u8 ((at0 key j.toNat ^^^ 54 : Nat) : Int)]), .row 5 1 vo j.toNat ((B8 (maskN ((keyN key).take j.toNat) 92)).toList), .row 5 1 v1 key.length ((B8 key).toList), .blk g1 24 (B8 (List.replicate 32 0)), .arg 1 (.slice A0 key.length c0) key.length ((B8 key).toList), .arg 1 (.slice A l.length c) l.length ((B8 l).toList)] := by simpa using M
        refine sq_pure F (wt0 rfl) (pu_assign rfl (F.ev rfl)) rfl rfl ?_; clear F; intro φ F
        refine nx ?_
        -- region 14
        refine wp_region_lit ?_
        refine sq_pure F (wt0 rfl) (pu_move rfl (F.ev rfl)) rfl rfl ?_; clear F; intro φ F
        refine sq_pure F (wt0 rfl) (pu_move rfl (F.ev rfl)) rfl rfl ?_; clear F; intro φ F
        refine sq_pure F (wt0 rfl) (pu_xor8 (n := at0 key j.toNat) (m := 92) rfl (F.ev rfl) evk (HX _) (by omega)) rfl rfl ?_; clear F; intro φ F
        refine sq_bs F M (wt0 rfl) (parts := #[]) (m := 1) (e := 5) (k := 1) (cs := #[.int .u8 ((at0 key j.toNat ^^^ 92 : Nat) : Int)]) (bs22_1 rfl (F.ev rfl)) (by omega) rfl rfl rfl ?_; clear F M; intro φ ω g7 F M
        replace M : Mm w ω [.row 5 1 (.slice (some ⟨g7, 0, none⟩) 1 1) 1 ([.int .u8 ((at0 key j.toNat ^^^ 92 : Nat) : Int)]), .row 5 1 (.slice (some ⟨g6, 0, none⟩) 1 1) 1 ([.int .u8 ((at0 key j.toNat ^^^ 54 : Nat) : Int)]), .row 5 1 v6 (j.toNat + 1) ((B8 (maskN ((keyN key).take j.toNat) 54)).toList ++ [.int .u8 ((at0 key j.toNat ^^^ 54 : Nat) : Int)]), .row 5 1 vo j.toNat ((B8 (maskN ((keyN key).take j.toNat) 92)).toList), .row 5 1 v1 key.length ((B8 key).toList), .blk g1 24 (B8 (List.replicate 32 0)), .arg 1 (.slice A0 key.length c0) key.length ((B8 key).toList), .arg 1 (.slice A l.length c) l.length ((B8 l).toList)] := M
        refine sq_app F M (wt0 rfl) rfl sl22.1 el5 (F.ev rfl) (i := 3) rfl (F.ev rfl) (M.rv (i := 0) rfl) (one_ones _) (by omega) (by omega) rfl rfl ?_; clear F M; intro φ ω v7 F M
        replace M : Mm w ω [.row 5 1 (.slice (some ⟨g7, 0, none⟩) 1 1) 1 ([.int .u8 ((at0 key j.toNat ^^^ 92 : Nat) : Int)]), .row 5 1 (.slice (some ⟨g6, 0, none⟩) 1 1) 1 ([.int .u8 ((at0 key j.toNat ^^^ 54 : Nat) : Int)]), .row 5 1 v6 (j.toNat + 1) ((B8 (maskN ((keyN key).take j.toNat) 54)).toList ++ [.int .u8 ((at0 key j.toNat ^^^ 54 : Nat) : Int)]), .row 5 1 v7 (j.toNat + 1) ((B8 (maskN ((keyN key).take j.toNat) 92)).toList ++ [.int .u8 ((at0 key j.toNat ^^^ 92 : Nat) : Int)]), .row 5 1 v1 key.length ((B8 key).toList), .blk g1 24 (B8 (List.replicate 32 0)), .arg 1 (.slice A0 key.length c0) key.length ((B8 key).toList), .arg 1 (.slice A l.length c) l.length ((B8 l).toList)] := by simpa using M
        refine sq_pure F (wt0 rfl) (pu_assign rfl (F.ev rfl)) rfl rfl ?_; clear F; intro φ F
        refine wpList_nil ?_
        refine nxb ?_
        refine nxq ?_
        -- region 9
        refine wp_region_lit ?_
        refine sq_pure F (wt0 rfl) (pu_move rfl (F.ev rfl)) rfl rfl ?_; clear F; intro φ F
        refine sq_pure F (wt0 rfl) (pu_add rfl (F.ev rfl) (evk) (by omega) (by omega)) rfl rfl ?_; clear F; intro φ F
        refine sq_pure F (wt0 rfl) (pu_assign rfl (F.ev rfl)) rfl rfl ?_; clear F; intro φ F
        refine wpList_nil ?_
        exact ⟨j + 1, by omega, v6, v7, (((((((F.nil.cons (F.get (k := 9) rfl)).cons (F.get (k := 8) rfl)).cons (F.get (k := 7) rfl)).cons (F.get (k := 5) rfl)).cons (F.get (k := 4) rfl)).cons (F.get (k := 1) rfl)).cons (F.get (k := 0) rfl)), (by rw [mask_step hp2_0 (by omega) (kat_in hK hp2_0 (by omega)), mask_step hp2_0 (by omega) (kat_in hK hp2_0 (by omega)), nat_succ hp2_0]; exact (M.sub (.cons _ (.cons _ (.cons_cons _ (.cons_cons _ (.cons_cons _ (.cons_cons _ (.cons_cons _ (.cons_cons _ .slnil)))))))))), by omega, by omega⟩
  · rw [hs1] at F
    have hs1i := of_decide_eq_true hs1; have hK := key_long (key := key) (by omega)
    refine wp_cond_true (F.ev rfl) ?_
    refine wp_seq ?_
    -- region 3
    refine wp_region_lit ?_
    refine sq_pure F (wt0 rfl) (pu_move rfl (F.ev rfl)) rfl rfl ?_; clear F; intro φ F
    refine sq_call F M (wt0 rfl) rfl en13 (evc (F.ev rfl) evn) (rsum_rd key _ _ hk' (M.rv (i := 0) rfl) (by omega)) rfl rfl ?_; clear F M; intro φ ω F M
    refine sq_alloc F M (wt0 rfl) rfl z24 rfl rfl ?_; clear F M; intro φ ω g8 F M
    refine sq_stA F M (wt0 rfl) rfl (F.ev rfl) (F.ev rfl) (i := 0) rfl agg24 rfl (by rw [B8_size, sumN_length]) (B8_ones _) rfl ?_; clear M; intro ω M
    refine nx ?_
    -- region 4
    refine wp_region_lit ?_
    refine sq_bs F M (wt0 rfl) (parts := #[]) (m := 1) (e := 5) (k := 0) (cs := #[]) (bs22_0 rfl) (by omega) rfl rfl rfl ?_; clear F M; intro φ ω g9 F M
    replace M : Mm w ω [.row 5 1 (.slice (some ⟨g9, 0, none⟩) 0 0) 0 ([]), .blk g8 24 (B8 (sumN key)), .row 5 1 v1 key.length ((B8 key).toList), .blk g1 24 (B8 (List.replicate 32 0)), .arg 1 (.slice A0 key.length c0) key.length ((B8 key).toList), .arg 1 (.slice A l.length c) l.length ((B8 l).toList)] := M
    refine sq_pure F (wt0 rfl) (pu_sliceA rfl (F.ev rfl) ar24) rfl rfl ?_; clear F; intro φ F
    refine sq_app F M (wt0 rfl) rfl sl22.1 el5 (F.ev rfl) (i := 0) rfl (F.ev rfl) (blk_rdv (m := 1) (n := 32) (M.at (i := 1) rfl) (by rw [B8_size, sumN_length]) (by omega)) (B8_ones' _) (by omega) (by omega) rfl rfl ?_; clear F M; intro φ ω v8 F M
    replace M : Mm w ω [.row 5 1 v8 32 ((B8 (sumN key)).toList), .blk g8 24 (B8 (sumN key)), .row 5 1 v1 key.length ((B8 key).toList), .blk g1 24 (B8 (List.replicate 32 0)), .arg 1 (.slice A0 key.length c0) key.length ((B8 key).toList), .arg 1 (.slice A l.length c) l.length ((B8 l).toList)] := by simpa using M
    refine sq_pure F (wt0 rfl) (pu_assign rfl (F.ev rfl)) rfl rfl ?_; clear F; intro φ F
    refine nx ?_
    refine wp_seq ?_
    -- region 5
    refine wp_region_lit ?_
    refine sq_pure F (wt0 rfl) (pu_assign rfl (evk)) rfl rfl ?_; clear F; intro φ F
    refine nx ?_
    refine wp_seq ?_
    -- region 6
    refine wp_region_lit ?_
    refine sq_pure F (wt0 rfl) (pu_assign rfl (evk)) rfl rfl ?_; clear F; intro φ F
    refine nx ?_
    refine wp_seq ?_
    refine wp_seq ?_
    -- region 7
    refine wp_region_lit ?_
    refine sq_pure F (wt0 rfl) (pu_assign rfl (evk)) rfl rfl ?_; clear F; intro φ F
    refine nx ?_
    refine wp_block ?_
    have HX : ∀ k, at0 (sumN key) k < 256 := fun k => W8.at (sumN_lt key) k
    refine lp (σ := Int) (fun j a w' => ∃ vi : Value, ∃ vo : Value, Fr a 53 [(0, (.slice A0 key.length c0)), (1, (.slice A l.length c)), (4, .pointer (some ⟨g1, 0, none⟩)), (5, v8), (7, vi), (8, vo), (9, .int .i64 j)] ∧ Mm w w' [.row 5 1 vi j.toNat ((B8 (maskN ((keyN key).take j.toNat) 54)).toList), .row 5 1 vo j.toNat ((B8 (maskN ((keyN key).take j.toNat) 92)).toList), .row 5 1 v8 32 ((B8 (sumN key)).toList), .blk g8 24 (B8 (sumN key)), .row 5 1 v1 key.length ((B8 key).toList), .blk g1 24 (B8 (List.replicate 32 0)), .arg 1 (.slice A0 key.length c0) key.length ((B8 key).toList), .arg 1 (.slice A l.length c) l.length ((B8 l).toList)] ∧ 0 ≤ j ∧ j ≤ 64) (fun j => (64 - j).toNat) (0) ⟨.slice none 0 0, .slice none 0 0, (((((((F.nil.cons (F.get (k := 9) rfl)).cons (F.get (k := 8) rfl)).cons (F.get (k := 7) rfl)).cons (F.get (k := 5) rfl)).cons (F.get (k := 4) rfl)).cons (F.get (k := 1) rfl)).cons (F.get (k := 0) rfl)), ((M.nilRow 5 1).nilRow 5 1), Int.le_refl _, by omega⟩ ?_
    clear F M
    rintro j φ ω ⟨vi, vo, F, M, hp5_0, hp5_1⟩
    refine wp_seq ?_
    refine wp_seq ?_
    -- region 8
    refine wp_region_lit ?_
    refine sq_pure F (wt0 rfl) (pu_move rfl (F.ev rfl)) rfl rfl ?_; clear F; intro φ F
    refine sq_pure F (wt0 rfl) (pu_lss rfl (F.ev rfl) (evk)) rfl rfl ?_; clear F; intro φ F
    refine nx ?_
    cases hs6 : (decide (j < 64))
    · rw [hs6] at F
      have hs6i := of_decide_eq_false hs6
      refine wp_cond_false (F.ev rfl) ?_
      refine wp_exit ?_
      refine nxe ?_
      refine nxe ?_
      refine nxm ?_
      refine nxq ?_
      refine wp_seq ?_
      -- region 15
      refine wp_region_lit ?_
      refine sq_pure F (wt0 rfl) (pu_move rfl (F.ev rfl)) rfl rfl ?_; clear F; intro φ F
      refine sq_pure F (wt0 rfl) (pu_move rfl (F.ev rfl)) rfl rfl ?_; clear F; intro φ F
      refine sq_app F M (wt0 rfl) rfl sl22.1 el5 (F.ev rfl) (i := 0) rfl (F.ev rfl) (M.av (i := 7) rfl) (B8_ones' _) (by omega) (by omega) rfl rfl ?_; clear F M; intro φ ω v9 F M
      replace M : Mm w ω [.row 5 1 v9 (j.toNat + l.length) ((B8 (maskN ((keyN key).take j.toNat) 54)).toList ++ (B8 l).toList), .row 5 1 vo j.toNat ((B8 (maskN ((keyN key).take j.toNat) 92)).toList), .row 5 1 v8 32 ((B8 (sumN key)).toList), .blk g8 24 (B8 (sumN key)), .row 5 1 v1 key.length ((B8 key).toList), .blk g1 24 (B8 (List.replicate 32 0)), .arg 1 (.slice A0 key.length c0) key.length ((B8 key).toList), .arg 1 (.slice A l.length c) l.length ((B8 l).toList)] := by simpa using M
      refine sq_call F M (wt0 rfl) rfl en13 (evc (F.ev rfl) evn) (rsum_rd (maskN ((keyN key).take j.toNat) 54 ++ l) _ _ ((mask_lt (keyN_lt hk') _ 54 (by omega)).append hl') (by have hq := M.rv (i := 0) rfl; rw [List.length_append, mlen hp5_0 hp5_1, B8_app]; exact hq) (by rw [List.length_append, mlen hp5_0 hp5_1]; omega)) rfl rfl ?_; clear F M; intro φ ω F M
      refine sq_alloc F M (wt0 rfl) rfl z24 rfl rfl ?_; clear F M; intro φ ω g10 F M
      refine sq_stA F M (wt0 rfl) rfl (F.ev rfl) (F.ev rfl) (i := 0) rfl agg24 rfl (by rw [B8_size, sumN_length]) (B8_ones _) rfl ?_; clear M; intro ω M
      refine nx ?_
      refine wp_seq ?_
      -- region 16
      refine wp_region_lit ?_
      refine sq_pure F (wt0 rfl) (pu_move rfl (F.ev rfl)) rfl rfl ?_; clear F; intro φ F
      refine sq_pure F (wt0 rfl) (pu_sliceA rfl (F.ev rfl) ar24) rfl rfl ?_; clear F; intro φ F
      refine sq_app F M (wt0 rfl) rfl sl22.1 el5 (F.ev rfl) (i := 2) rfl (F.ev rfl) (blk_rdv (m := 1) (n := 32) (M.at (i := 0) rfl) (by rw [B8_size, sumN_length]) (by omega)) (B8_ones' _) (by omega) (by omega) rfl rfl ?_; clear F M; intro φ ω v10 F M
      replace M : Mm w ω [.blk g10 24 (B8 (sumN (maskN ((keyN key).take j.toNat) 54 ++ l))), .row 5 1 v9 (j.toNat + l.length) ((B8 (maskN ((keyN key).take j.toNat) 54)).toList ++ (B8 l).toList), .row 5 1 v10 (j.toNat + 32) ((B8 (maskN ((keyN key).take j.toNat) 92)).toList ++ (B8 (sumN (maskN ((keyN key).take j.toNat) 54 ++ l))).toList), .row 5 1 v8 32 ((B8 (sumN key)).toList), .blk g8 24 (B8 (sumN key)), .row 5 1 v1 key.length ((B8 key).toList), .blk g1 24 (B8 (List.replicate 32 0)), .arg 1 (.slice A0 key.length c0) key.length ((B8 key).toList), .arg 1 (.slice A l.length c) l.length ((B8 l).toList)] := by simpa using M
      refine sq_call F M (wt0 rfl) rfl en13 (evc (F.ev rfl) evn) (rsum_rd (maskN ((keyN key).take j.toNat) 92 ++ sumN (maskN ((keyN key).take j.toNat) 54 ++ l)) _ _ ((mask_lt (keyN_lt hk') _ 92 (by omega)).append (sumN_lt _)) (by have hq := M.rv (i := 2) rfl; rw [List.length_append, mlen hp5_0 hp5_1, sumN_length, B8_app]; exact hq) (by rw [List.length_append, mlen hp5_0 hp5_1, sumN_length]; omega)) rfl rfl ?_; clear F M; intro φ ω F M
      refine sq_stA F M (wt0 rfl) rfl (F.ev rfl) (F.ev rfl) (i := 6) rfl agg24 rfl (by rw [B8_size, sumN_length]) (B8_ones _) rfl ?_; clear M; intro ω M
      refine nx ?_
      refine wp_ret ?_
      refine rt_cell F M rfl rfl (i := 6) rfl agg24 (by rw [B8_size, sumN_length]) ?_
      refine ⟨?_, M.bel⟩
      rw [mac_eq (by omega)]
    · rw [hs6] at F
      have hs6i := of_decide_eq_true hs6
      refine wp_cond_true (F.ev rfl) ?_
      refine wp_skip ?_
      refine nxq ?_
      refine wp_seq ?_
      refine wp_block ?_
      refine wp_seq ?_
      -- region 10
      refine wp_region_lit ?_
      refine sq_pure F (wt0 rfl) (pu_assign rfl (evk)) rfl rfl ?_; clear F; intro φ F
      refine nx ?_
      refine wp_seq ?_
      refine wp_seq ?_
      -- region 11
      refine wp_region_lit ?_
      refine sq_pure F (wt0 rfl) (pu_move rfl (F.ev rfl)) rfl rfl ?_; clear F; intro φ F
      refine sq_pure F (wt0 rfl) (pu_move rfl (F.ev rfl)) rfl rfl ?_; clear F; intro φ F
      refine sq_pure F (wt0 rfl) (pu_len rfl (F.ev rfl) sl22 (M.rv (i := 2) rfl)) rfl rfl ?_; clear F; intro φ F
      refine sq_pure F (wt0 rfl) (pu_lss rfl (F.ev rfl) (F.ev rfl)) rfl rfl ?_; clear F; intro φ F
      refine nx ?_
      cases hs7 : (decide (j < ((32 : Nat) : Int)))
      · rw [hs7] at F
        have hs7i := of_decide_eq_false hs7
        refine wp_cond_false (F.ev rfl) ?_
        refine wp_skip ?_
        refine nxq ?_
        refine wp_seq ?_
        -- region 13
        refine wp_region_lit ?_
        refine sq_pure F (wt0 rfl) (pu_move rfl (F.ev rfl)) rfl rfl ?_; clear F; intro φ F
        refine sq_pure F (wt0 rfl) (pu_move rfl (F.ev rfl)) rfl rfl ?_; clear F; intro φ F
        refine sq_pure F (wt0 rfl) (pu_xor8 (n := 0) (m := 54) rfl (F.ev rfl) evk (by omega) (by omega)) rfl rfl ?_; clear F; intro φ F
        refine sq_bs F M (wt0 rfl) (parts := #[]) (m := 1) (e := 5) (k := 1) (cs := #[.int .u8 ((0 ^^^ 54 : Nat) : Int)]) (bs22_1 rfl (F.ev rfl)) (by omega) rfl rfl rfl ?_; clear F M; intro φ ω g11 F M
        replace M : Mm w ω [.row 5 1 (.slice (some ⟨g11, 0, none⟩) 1 1) 1 ([.int .u8 ((0 ^^^ 54 : Nat) : Int)]), .row 5 1 vi j.toNat ((B8 (maskN ((keyN key).take j.toNat) 54)).toList), .row 5 1 vo j.toNat ((B8 (maskN ((keyN key).take j.toNat) 92)).toList), .row 5 1 v8 32 ((B8 (sumN key)).toList), .blk g8 24 (B8 (sumN key)), .row 5 1 v1 key.length ((B8 key).toList), .blk g1 24 (B8 (List.replicate 32 0)), .arg 1 (.slice A0 key.length c0) key.length ((B8 key).toList), .arg 1 (.slice A l.length c) l.length ((B8 l).toList)] := M
        refine sq_app F M (wt0 rfl) rfl sl22.1 el5 (F.ev rfl) (i := 1) rfl (F.ev rfl) (M.rv (i := 0) rfl) (one_ones _) (by omega) (by omega) rfl rfl ?_; clear F M; intro φ ω v11 F M
        replace M : Mm w ω [.row 5 1 (.slice (some ⟨g11, 0, none⟩) 1 1) 1 ([.int .u8 ((0 ^^^ 54 : Nat) : Int)]), .row 5 1 v11 (j.toNat + 1) ((B8 (maskN ((keyN key).take j.toNat) 54)).toList ++ [.int .u8 ((0 ^^^ 54 : Nat) : Int)]), .row 5 1 vo j.toNat ((B8 (maskN ((keyN key).take j.toNat) 92)).toList), .row 5 1 v8 32 ((B8 (sumN key)).toList), .blk g8 24 (B8 (sumN key)), .row 5 1 v1 key.length ((B8 key).toList), .blk g1 24 (B8 (List.replicate 32 0)), .arg 1 (.slice A0 key.length c0) key.length ((B8 key).toList), .arg 1 (.slice A l.length c) l.length ((B8 l).toList)] := by simpa using M
        refine sq_pure F (wt0 rfl) (pu_assign rfl (F.ev rfl)) rfl rfl ?_; clear F; intro φ F
        refine nx ?_
        -- region 14
        refine wp_region_lit ?_
        refine sq_pure F (wt0 rfl) (pu_move rfl (F.ev rfl)) rfl rfl ?_; clear F; intro φ F
        refine sq_pure F (wt0 rfl) (pu_move rfl (F.ev rfl)) rfl rfl ?_; clear F; intro φ F
        refine sq_pure F (wt0 rfl) (pu_xor8 (n := 0) (m := 92) rfl (F.ev rfl) evk (by omega) (by omega)) rfl rfl ?_; clear F; intro φ F
        refine sq_bs F M (wt0 rfl) (parts := #[]) (m := 1) (e := 5) (k := 1) (cs := #[.int .u8 ((0 ^^^ 92 : Nat) : Int)]) (bs22_1 rfl (F.ev rfl)) (by omega) rfl rfl rfl ?_; clear F M; intro φ ω g12 F M
        replace M : Mm w ω [.row 5 1 (.slice (some ⟨g12, 0, none⟩) 1 1) 1 ([.int .u8 ((0 ^^^ 92 : Nat) : Int)]), .row 5 1 (.slice (some ⟨g11, 0, none⟩) 1 1) 1 ([.int .u8 ((0 ^^^ 54 : Nat) : Int)]), .row 5 1 v11 (j.toNat + 1) ((B8 (maskN ((keyN key).take j.toNat) 54)).toList ++ [.int .u8 ((0 ^^^ 54 : Nat) : Int)]), .row 5 1 vo j.toNat ((B8 (maskN ((keyN key).take j.toNat) 92)).toList), .row 5 1 v8 32 ((B8 (sumN key)).toList), .blk g8 24 (B8 (sumN key)), .row 5 1 v1 key.length ((B8 key).toList), .blk g1 24 (B8 (List.replicate 32 0)), .arg 1 (.slice A0 key.length c0) key.length ((B8 key).toList), .arg 1 (.slice A l.length c) l.length ((B8 l).toList)] := M
        refine sq_app F M (wt0 rfl) rfl sl22.1 el5 (F.ev rfl) (i := 3) rfl (F.ev rfl) (M.rv (i := 0) rfl) (one_ones _) (by omega) (by omega) rfl rfl ?_; clear F M; intro φ ω v12 F M
        replace M : Mm w ω [.row 5 1 (.slice (some ⟨g12, 0, none⟩) 1 1) 1 ([.int .u8 ((0 ^^^ 92 : Nat) : Int)]), .row 5 1 (.slice (some ⟨g11, 0, none⟩) 1 1) 1 ([.int .u8 ((0 ^^^ 54 : Nat) : Int)]), .row 5 1 v11 (j.toNat + 1) ((B8 (maskN ((keyN key).take j.toNat) 54)).toList ++ [.int .u8 ((0 ^^^ 54 : Nat) : Int)]), .row 5 1 v12 (j.toNat + 1) ((B8 (maskN ((keyN key).take j.toNat) 92)).toList ++ [.int .u8 ((0 ^^^ 92 : Nat) : Int)]), .row 5 1 v8 32 ((B8 (sumN key)).toList), .blk g8 24 (B8 (sumN key)), .row 5 1 v1 key.length ((B8 key).toList), .blk g1 24 (B8 (List.replicate 32 0)), .arg 1 (.slice A0 key.length c0) key.length ((B8 key).toList), .arg 1 (.slice A l.length c) l.length ((B8 l).toList)] := by simpa using M
        refine sq_pure F (wt0 rfl) (pu_assign rfl (F.ev rfl)) rfl rfl ?_; clear F; intro φ F
        refine wpList_nil ?_
        refine nxb ?_
        refine nxq ?_
        -- region 9
        refine wp_region_lit ?_
        refine sq_pure F (wt0 rfl) (pu_move rfl (F.ev rfl)) rfl rfl ?_; clear F; intro φ F
        refine sq_pure F (wt0 rfl) (pu_add rfl (F.ev rfl) (evk) (by omega) (by omega)) rfl rfl ?_; clear F; intro φ F
        refine sq_pure F (wt0 rfl) (pu_assign rfl (F.ev rfl)) rfl rfl ?_; clear F; intro φ F
        refine wpList_nil ?_
        exact ⟨j + 1, by omega, v11, v12, (((((((F.nil.cons (F.get (k := 9) rfl)).cons (F.get (k := 8) rfl)).cons (F.get (k := 7) rfl)).cons (F.get (k := 5) rfl)).cons (F.get (k := 4) rfl)).cons (F.get (k := 1) rfl)).cons (F.get (k := 0) rfl)), (by rw [mask_step hp5_0 (by omega) (kat_out hK hp5_0 (by omega) (by omega)), mask_step hp5_0 (by omega) (kat_out hK hp5_0 (by omega) (by omega)), nat_succ hp5_0]; exact (M.sub (.cons _ (.cons _ (.cons_cons _ (.cons_cons _ (.cons_cons _ (.cons_cons _ (.cons_cons _ (.cons_cons _ (.cons_cons _ (.cons_cons _ .slnil)))))))))))), by omega, by omega⟩
      · rw [hs7] at F
        have hs7i := of_decide_eq_true hs7
        refine wp_cond_true (F.ev rfl) ?_
        -- region 12
        refine wp_region_lit ?_
        refine sq_pure F (wt0 rfl) (pu_move rfl (F.ev rfl)) rfl rfl ?_; clear F; intro φ F
        refine sq_pure F (wt0 rfl) (pu_move rfl (F.ev rfl)) rfl rfl ?_; clear F; intro φ F
        refine sq_pure F (wt0 rfl) (pu_ix rfl (F.ev rfl) (F.ev rfl) sl22 (M.rv (i := 2) rfl) (by omega) (by omega)) rfl rfl ?_; clear F; intro φ F
        refine sq_rd F (wt0 rfl) (ld_el1 rfl (F.ev rfl) one5 (M.rvE (i := 2) rfl) (by omega) (B8_atI (by omega))) rfl rfl ?_; clear F; intro φ F
        refine sq_pure F (wt0 rfl) (pu_assign rfl (F.ev rfl)) rfl rfl ?_; clear F; intro φ F
        refine nx ?_
        refine wp_seq ?_
        -- region 13
        refine wp_region_lit ?_
        refine sq_pure F (wt0 rfl) (pu_move rfl (F.ev rfl)) rfl rfl ?_; clear F; intro φ F
        refine sq_pure F (wt0 rfl) (pu_move rfl (F.ev rfl)) rfl rfl ?_; clear F; intro φ F
        refine sq_pure F (wt0 rfl) (pu_xor8 (n := at0 (sumN key) j.toNat) (m := 54) rfl (F.ev rfl) evk (HX _) (by omega)) rfl rfl ?_; clear F; intro φ F
        refine sq_bs F M (wt0 rfl) (parts := #[]) (m := 1) (e := 5) (k := 1) (cs := #[.int .u8 ((at0 (sumN key) j.toNat ^^^ 54 : Nat) : Int)]) (bs22_1 rfl (F.ev rfl)) (by omega) rfl rfl rfl ?_; clear F M; intro φ ω g13 F M
        replace M : Mm w ω [.row 5 1 (.slice (some ⟨g13, 0, none⟩) 1 1) 1 ([.int .u8 ((at0 (sumN key) j.toNat ^^^ 54 : Nat) : Int)]), .row 5 1 vi j.toNat ((B8 (maskN ((keyN key).take j.toNat) 54)).toList), .row 5 1 vo j.toNat ((B8 (maskN ((keyN key).take j.toNat) 92)).toList), .row 5 1 v8 32 ((B8 (sumN key)).toList), .blk g8 24 (B8 (sumN key)), .row 5 1 v1 key.length ((B8 key).toList), .blk g1 24 (B8 (List.replicate 32 0)), .arg 1 (.slice A0 key.length c0) key.length ((B8 key).toList), .arg 1 (.slice A l.length c) l.length ((B8 l).toList)] := M
        refine sq_app F M (wt0 rfl) rfl sl22.1 el5 (F.ev rfl) (i := 1) rfl (F.ev rfl) (M.rv (i := 0) rfl) (one_ones _) (by omega) (by omega) rfl rfl ?_; clear F M; intro φ ω v13 F M
        replace M : Mm w ω [.row 5 1 (.slice (some ⟨g13, 0, none⟩) 1 1) 1 ([.int .u8 ((at0 (sumN key) j.toNat ^^^ 54 : Nat) : Int)]), .row 5 1 v13 (j.toNat + 1) ((B8 (maskN ((keyN key).take j.toNat) 54)).toList ++ [.int .u8 ((at0 (sumN key) j.toNat ^^^ 54 : Nat) : Int)]), .row 5 1 vo j.toNat ((B8 (maskN ((keyN key).take j.toNat) 92)).toList), .row 5 1 v8 32 ((B8 (sumN key)).toList), .blk g8 24 (B8 (sumN key)), .row 5 1 v1 key.length ((B8 key).toList), .blk g1 24 (B8 (List.replicate 32 0)), .arg 1 (.slice A0 key.length c0) key.length ((B8 key).toList), .arg 1 (.slice A l.length c) l.length ((B8 l).toList)] := by simpa using M
        refine sq_pure F (wt0 rfl) (pu_assign rfl (F.ev rfl)) rfl rfl ?_; clear F; intro φ F
        refine nx ?_
        -- region 14
        refine wp_region_lit ?_
        refine sq_pure F (wt0 rfl) (pu_move rfl (F.ev rfl)) rfl rfl ?_; clear F; intro φ F
        refine sq_pure F (wt0 rfl) (pu_move rfl (F.ev rfl)) rfl rfl ?_; clear F; intro φ F
        refine sq_pure F (wt0 rfl) (pu_xor8 (n := at0 (sumN key) j.toNat) (m := 92) rfl (F.ev rfl) evk (HX _) (by omega)) rfl rfl ?_; clear F; intro φ F
        refine sq_bs F M (wt0 rfl) (parts := #[]) (m := 1) (e := 5) (k := 1) (cs := #[.int .u8 ((at0 (sumN key) j.toNat ^^^ 92 : Nat) : Int)]) (bs22_1 rfl (F.ev rfl)) (by omega) rfl rfl rfl ?_; clear F M; intro φ ω g14 F M
        replace M : Mm w ω [.row 5 1 (.slice (some ⟨g14, 0, none⟩) 1 1) 1 ([.int .u8 ((at0 (sumN key) j.toNat ^^^ 92 : Nat) : Int)]), .row 5 1 (.slice (some ⟨g13, 0, none⟩) 1 1) 1 ([.int .u8 ((at0 (sumN key) j.toNat ^^^ 54 : Nat) : Int)]), .row 5 1 v13 (j.toNat + 1) ((B8 (maskN ((keyN key).take j.toNat) 54)).toList ++ [.int .u8 ((at0 (sumN key) j.toNat ^^^ 54 : Nat) : Int)]), .row 5 1 vo j.toNat ((B8 (maskN ((keyN key).take j.toNat) 92)).toList), .row 5 1 v8 32 ((B8 (sumN key)).toList), .blk g8 24 (B8 (sumN key)), .row 5 1 v1 key.length ((B8 key).toList), .blk g1 24 (B8 (List.replicate 32 0)), .arg 1 (.slice A0 key.length c0) key.length ((B8 key).toList), .arg 1 (.slice A l.length c) l.length ((B8 l).toList)] := M
        refine sq_app F M (wt0 rfl) rfl sl22.1 el5 (F.ev rfl) (i := 3) rfl (F.ev rfl) (M.rv (i := 0) rfl) (one_ones _) (by omega) (by omega) rfl rfl ?_; clear F M; intro φ ω v14 F M
        replace M : Mm w ω [.row 5 1 (.slice (some ⟨g14, 0, none⟩) 1 1) 1 ([.int .u8 ((at0 (sumN key) j.toNat ^^^ 92 : Nat) : Int)]), .row 5 1 (.slice (some ⟨g13, 0, none⟩) 1 1) 1 ([.int .u8 ((at0 (sumN key) j.toNat ^^^ 54 : Nat) : Int)]), .row 5 1 v13 (j.toNat + 1) ((B8 (maskN ((keyN key).take j.toNat) 54)).toList ++ [.int .u8 ((at0 (sumN key) j.toNat ^^^ 54 : Nat) : Int)]), .row 5 1 v14 (j.toNat + 1) ((B8 (maskN ((keyN key).take j.toNat) 92)).toList ++ [.int .u8 ((at0 (sumN key) j.toNat ^^^ 92 : Nat) : Int)]), .row 5 1 v8 32 ((B8 (sumN key)).toList), .blk g8 24 (B8 (sumN key)), .row 5 1 v1 key.length ((B8 key).toList), .blk g1 24 (B8 (List.replicate 32 0)), .arg 1 (.slice A0 key.length c0) key.length ((B8 key).toList), .arg 1 (.slice A l.length c) l.length ((B8 l).toList)] := by simpa using M
        refine sq_pure F (wt0 rfl) (pu_assign rfl (F.ev rfl)) rfl rfl ?_; clear F; intro φ F
        refine wpList_nil ?_
        refine nxb ?_
        refine nxq ?_
        -- region 9
        refine wp_region_lit ?_
        refine sq_pure F (wt0 rfl) (pu_move rfl (F.ev rfl)) rfl rfl ?_; clear F; intro φ F
        refine sq_pure F (wt0 rfl) (pu_add rfl (F.ev rfl) (evk) (by omega) (by omega)) rfl rfl ?_; clear F; intro φ F
        refine sq_pure F (wt0 rfl) (pu_assign rfl (F.ev rfl)) rfl rfl ?_; clear F; intro φ F
        refine wpList_nil ?_
        exact ⟨j + 1, by omega, v13, v14, (((((((F.nil.cons (F.get (k := 9) rfl)).cons (F.get (k := 8) rfl)).cons (F.get (k := 7) rfl)).cons (F.get (k := 5) rfl)).cons (F.get (k := 4) rfl)).cons (F.get (k := 1) rfl)).cons (F.get (k := 0) rfl)), (by rw [mask_step hp5_0 (by omega) (kat_in hK hp5_0 (by omega)), mask_step hp5_0 (by omega) (kat_in hK hp5_0 (by omega)), nat_succ hp5_0]; exact (M.sub (.cons _ (.cons _ (.cons_cons _ (.cons_cons _ (.cons_cons _ (.cons_cons _ (.cons_cons _ (.cons_cons _ (.cons_cons _ (.cons_cons _ .slnil)))))))))))), by omega, by omega⟩
end Go.Proofs.Ytiigbhpnlpbnjaa
