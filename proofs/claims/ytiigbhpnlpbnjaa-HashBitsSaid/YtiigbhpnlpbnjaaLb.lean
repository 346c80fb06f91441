import Derived.Test.YtiigbhpnlpbnjaaLa
namespace Go.Proofs.Ytiigbhpnlpbnjaa
open Go.RowKit

set_option maxHeartbeats 1000000 in
theorem hashBits_walk (l : List Nat) (A : Option Addr) (c : Nat) (bit : Int) (w : World) (hl' : W8 l) (hr : Rd w w.heap.size A l) (hc : l.length ≤ c) (hb1 : -9223372036854775808 ≤ bit) (hb2 : bit ≤ 9223372036854775807) :
    Calls Try.prog 10 #[.slice A l.length c, .int .i64 bit] w fun e w' => e = .returned (.bool true) ∧ Below w.heap.size w w' := by
  have HL' := Lib.hid hl'; have HR := Lib.hid hr
  clear hl' hr
  go_enter Try.func10, Try.ntmps10
  go_wp2_with fail
  refine (awake_any _).mono ?_
  rintro e w1 ⟨rfl, hb1⟩
  have B1 := Lib.hid hb1
  clear hb1
  by_cases h1 : 1500 < l.length
  · have h1' : (1500 : Int) < l.length := by omega
    go_wp2
    go_ret
    exact ⟨rfl, B1.out⟩
  have h1' : (l.length : Int) ≤ 1500 := by omega
  by_cases h2 : bit < 0
  · go_wp2
    go_ret
    exact ⟨rfl, B1.out⟩
  have h2' : 0 ≤ bit := by omega
  go_wp2_with fail
  refine (sum_any l A c _ HL'.out ((HR.out.below B1.out).more B1.out.size) hc (by omega)).mono ?_
  rintro e w2 ⟨rfl, hb2⟩
  have b2 := B1.out.trans (hb2.mono B1.out.size)
  have B2 := Lib.hid b2
  clear hb2 b2 B1
  go_upto_region 5 with (refine wpList_store_new rfl 24 (.tmp 6) (.tmp 19) rfl (B8 (sumN l)) rfl rfl 24 _ (by rw [B8_size, sumN_length]; exact info24) (by rw [B8_size, sumN_length]; rfl) (B8_one _) ?_)
  have c0 := Blk.new w2 24 (B8 (sumN l))
  have b3 := B2.out.alloc B2.out.size (Obj.cells (B8 (sumN l)) 24)
  generalize w2.alloc (Obj.cells (B8 (sumN l)) 24) = W at *
  generalize w2.heap.size = g at *
  have C0 := Lib.hid c0; have B3 := Lib.hid b3
  clear c0 b3 B2
  go_upto_region 6 with (first
    | (refine wpList_load_any rfl 24 (.tmp 6) rfl g rfl 24 (B8 (sumN l)) _ 32 C0.out Try.underlying24 rfl info24 (by rw [B8_size, sumN_length]) ?_)
    | (refine wpList_store_new rfl 24 (.tmp 7) (.tmp 20) rfl (B8 (sumN l)) rfl rfl 24 _ (by rw [B8_size, sumN_length]; exact info24) (by rw [B8_size, sumN_length]; rfl) (B8_one _) ?_))
  have c0 := C0.out.alloc (Obj.cells (B8 (sumN l)) 24)
  have c1 := Blk.new W 24 (B8 (sumN l))
  have b3 := B3.out.alloc B3.out.size (Obj.cells (B8 (sumN l)) 24)
  have hne : g < W.heap.size := C0.out.lt
  have hwg : w.heap.size ≤ W.heap.size := B3.out.size
  generalize W.alloc (Obj.cells (B8 (sumN l)) 24) = W' at *
  generalize W.heap.size = g' at *
  replace C0 := Lib.hid c0; replace B3 := Lib.hid b3; have C1 := Lib.hid c1
  clear c0 b3 c1
  obtain ⟨k, hk⟩ : ∃ k : Nat, bit % 256 = (k : Int) := ⟨(bit % 256).toNat, by omega⟩
  have hk256 : k < 256 := by omega
  go_upto_region 7 with fail
  rw [hk]
  clear hk
  obtain ⟨q, hq⟩ : ∃ q : Nat, q = k / 8 := ⟨_, rfl⟩
  obtain ⟨m, hm⟩ : ∃ m : Nat, m = k % 8 := ⟨_, rfl⟩
  have i8 : IntKind.i64.wrap ((k : Int) / 8) = (q : Int) := by rw [IntWalk.i64_in _ (by omega)]; omega
  have i9 : (k : Int).tmod 8 = (m : Int) := by rw [Int.tmod_eq_emod_of_nonneg (by omega)]; omega
  have r1 : q < 32 := by omega
  have r2 : (q : Int) < 32 := by omega
  have r3 : m < 8 := by omega
  clear hq hm
  have cq := C1.out.cell q
  rw [B8_get (by rw [sumN_length]; omega)] at cq
  have fq := C1.out.frozen q
  go_still_tail 11, (by kernel_rfl)
  rw [fold_drew]
  go_upto_region 8 with fail
  have hx : bits BinOp.xor IntKind.u8 (at0 (sumN l) q : Int) (2 ^ m % 256) = ((at0 (sumN l) q ^^^ 2 ^ m : Nat) : Int) := by
    have h2 : (2 : Nat) ^ m < 256 := Nat.pow_lt_pow_right (a := 2) (n := 8) (by omega) r3
    have h3 : ((2 : Int) ^ m % 256) = ((2 ^ m : Nat) : Int) := by
      rw [show ((2 : Int) ^ m) = ((2 ^ m : Nat) : Int) by simp]
      generalize (2 : Nat) ^ m = z at *
      omega
    rw [h3, u8_xor_nat _ _ ((sumN_lt l).at q) h2]
  have d1 := (C1.out.set8 q (at0 (sumN l) q ^^^ 2 ^ m) _ hx).drew
  have d0 := (C0.out.far (p := ⟨g', q, none⟩) (by simp; omega) (.int .u8 (bits BinOp.xor IntKind.u8 (at0 (sumN l) q : Int) (2 ^ m % 256)))).drew
  have db := (B3.out.setCell (p := ⟨g', q, none⟩) (by simp; omega) (.int .u8 (bits BinOp.xor IntKind.u8 (at0 (sumN l) q : Int) (2 ^ m % 256)))).drew
  generalize (W'.setCell ⟨g', q, none⟩ (.int .u8 (bits BinOp.xor IntKind.u8 (at0 (sumN l) q : Int) (2 ^ m % 256)))).drew = W2 at *
  obtain ⟨y, hy⟩ : ∃ y, y = (sumN l).set q (at0 (sumN l) q ^^^ 2 ^ m) := ⟨_, rfl⟩
  have hyl : y.length = 32 := by rw [hy, List.length_set, sumN_length]
  have hy8 : W8 y := by
    rw [hy]
    intro a ha
    rcases List.mem_or_eq_of_mem_set ha with h | h
    · exact sumN_lt l a h
    · rw [h]; exact Nat.xor_lt_two_pow (n := 8) ((sumN_lt l).at q) (Nat.pow_lt_pow_right (by omega) r3)
  have hne2 : decide (sumN l = y) = false := by
    rw [decide_eq_false_iff_not]
    intro e
    have h1 : at0 y q = at0 (sumN l) q ^^^ 2 ^ m := by
      rw [at0_eq (by rw [hyl]; exact r1)]
      simp only [hy, List.getElem_set_self]
    rw [← e] at h1
    have h2 : at0 (sumN l) q ^^^ at0 (sumN l) q = at0 (sumN l) q ^^^ (at0 (sumN l) q ^^^ 2 ^ m) := by rw [← h1]
    rw [Nat.xor_self, ← Nat.xor_assoc, Nat.xor_self, Nat.zero_xor] at h2
    have : 0 < 2 ^ m := Nat.pow_pos (by omega)
    omega
  rw [← hy] at d1
  have HYL := Lib.hid hyl; have HY8 := Lib.hid hy8; have NE := Lib.hid hne2
  replace C0 := Lib.hid d0; replace C1 := Lib.hid d1; replace B3 := Lib.hid db
  clear d0 d1 db hy hyl hy8 hne2 hx cq fq i8 i9
  go_wp2_with (first
    | (refine wpList_load_any (o := ⟨some 36, _, _, _, _, _⟩) rfl 24 (.tmp 6) rfl g rfl 24 (B8 (sumN l)) _ 32 C0.out Try.underlying24 rfl info24 (by rw [B8_size, sumN_length]) ?_)
    | (refine wpList_load_any rfl 24 (.tmp 7) rfl g' rfl 24 (B8 y) _ 32 C1.out Try.underlying24 rfl info24 (by rw [B8_size, HYL.out]) ?_))
  refine (same_any _ _ _ (sumN_length _) HYL.out (sumN_lt _) HY8.out).mono ?_
  rw [NE.out]
  rintro e w3 ⟨rfl, hb3⟩
  have d0 := C0.out.below hb3 C0.out.lt
  have db := B3.out.trans (hb3.mono B3.out.size)
  replace C0 := Lib.hid d0; replace B3 := Lib.hid db
  clear d0 db hb3
  go_wp2_with (refine wpList_load_any rfl 24 (.tmp 6) rfl g rfl 24 (B8 (sumN l)) _ 32 C0.out Try.underlying24 rfl info24 (by rw [B8_size, sumN_length]) ?_)
  refine (same_any _ _ _ (sumN_length _) (sumN_length _) (sumN_lt _) (sumN_lt _)).mono ?_
  rintro e w4 ⟨rfl, hb4⟩
  have db := B3.out.trans (hb4.mono B3.out.size)
  replace B3 := Lib.hid db
  clear db hb4
  go_wp2
  go_ret
  exact ⟨by simp, B3.out⟩
end Go.Proofs.Ytiigbhpnlpbnjaa
