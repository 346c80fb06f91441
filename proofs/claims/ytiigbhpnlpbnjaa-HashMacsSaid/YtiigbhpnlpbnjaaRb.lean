import Derived.Test.YtiigbhpnlpbnjaaRa
namespace Go.Proofs.Ytiigbhpnlpbnjaa
open Go.RowKit

def lenV : Value → Nat
  | .slice _ n _ => n
  | _ => 0
theorem own_below {w w0 w' : World} {B : Nat} {u : Value} {lu : List Nat} (hu : OwnB w B u lu) (hb : Below B w0 w) (hB : B ≤ w.heap.size) (hg : w.grownBy w' u.ownBlock) : Below B w0 w' :=
  hb.grown hg hB (fun k hk' => (hu.lt k hk').1)

set_option maxHeartbeats 1000000 in
theorem padded_any (l : List Nat) (A : Option Addr) (c : Nat) (w : World) (hr : Rd w w.heap.size A l) (hbig : l.length < 900000) :
    Calls Try.prog 19 #[.slice A l.length c] w (POwn w.heap.size (padded 0 l) w) := by
  have HR := Lib.hid hr
  clear hr
  have a0 : Below w.heap.size w (w.alloc (Obj.cells #[] 5)) := (Below.refl _ _).alloc (Nat.le_refl _) _
  have A0 := Lib.hid a0
  clear a0
  go_enter Try.func19, Try.ntmps19
  go_upto_region 2 with (refine wpList_app8 rfl (.tmp 6) (.tmp 7) rfl w.heap.size _ [] rfl (OwnB.made w w.heap.size (Nat.le_refl _)) (w.alloc (.cells #[] 5)).heap.size A _ l c rfl rfl ((HR.out.below A0.out).more A0.out.size) (by simp; omega) A0.out.size ?_; intro v1 w1 hown hg hat)
  have b1 : Below w.heap.size w w1 := own_below (OwnB.made w w.heap.size (Nat.le_refl _)) A0.out A0.out.size hg
  rw [List.nil_append] at hown
  have O1 := Lib.hid hown; have B1 := Lib.hid b1
  clear hown b1 hg hat A0
  have ba : Below w1.heap.size w1 (w1.alloc (Obj.cells #[Value.int .u8 128] 5)) := (Below.refl _ _).alloc (Nat.le_refl _) _
  have BA := Lib.hid ba
  clear ba
  have hbs1 := B1.out.size
  go_wp2_with (refine wpList_app8 rfl (.tmp 9) (.tmp 10) rfl w.heap.size v1 l rfl (O1.out.below BA.out) (w1.alloc (Obj.cells #[Value.int .u8 128] 5)).heap.size (some ⟨w1.heap.size, 0, none⟩) 1 [128] 1 rfl rfl (rd_blk (Blk.new _ _ _) (by simp)) (by simp; omega) (by simp; omega) ?_; intro v2 w2 hown hg hat)
  have b2 : Below w.heap.size w w2 := own_below (O1.out.below BA.out) (B1.out.trans (BA.out.mono B1.out.size)) (by simp; omega) hg
  have O2 := Lib.hid hown; have B2 := Lib.hid b2
  clear hown b2 hg hat B1 O1 BA hbs1
  go_loopw [3] (fun s wr => ∃ j : Nat, j ≤ (119 - l.length % 64) % 64 ∧ OwnB wr w.heap.size s (l ++ 128 :: List.replicate j 0) ∧ Below w.heap.size w wr) (fun s _ => l.length + 100 - lenV s)
  case atStart => exact ⟨0, by omega, O2.out, B2.out⟩
  case round =>
    clear O2 B2
    obtain ⟨j, hj, hown, hb⟩ := hrel
    obtain ⟨A3, c3, rfl, hc3, hr3⟩ := hown.form
    have hlen : (l ++ 128 :: List.replicate j 0).length = l.length + 1 + j := by simp; omega
    rw [hlen] at hown ⊢
    obtain ⟨N, hN⟩ : ∃ N, N = l.length + 1 + j := ⟨_, rfl⟩
    rw [← hN] at hown ⊢
    have hbs := hb.size
    have O2 := Lib.hid hown; have B2 := Lib.hid hb; have HN := Lib.hid hN; have HLN := Lib.hid hlen
    have hN1 : N ≤ 1000000 := by omega
    by_cases hlt : j < (119 - l.length % 64) % 64
    · have ht : (((N : Int) % 64) != 56) = true := by rw [bne_iff_ne]; omega
      clear hown hb hr3 hc3 hlen hN
      have ba : Below wr.heap.size wr (wr.alloc (Obj.cells #[Value.int .u8 0] 5)) := (Below.refl _ _).alloc (Nat.le_refl _) _
      have BA := Lib.hid ba
      clear ba
      go_wp2_with (refine wpList_app8 rfl (.tmp 16) (.tmp 17) rfl w.heap.size _ (l ++ 128 :: List.replicate j 0) rfl (O2.out.below BA.out) (wr.alloc (Obj.cells #[Value.int .u8 0] 5)).heap.size (some ⟨wr.heap.size, 0, none⟩) 1 [0] 1 rfl rfl (rd_blk (Blk.new _ _ _) (by simp)) (by rw [HLN.out]; simp; have := HN.out; omega) (by simp; omega) ?_; intro v3 w3 hown hg hat)
      have b3 : Below w.heap.size w w3 := own_below (O2.out.below BA.out) (B2.out.trans (BA.out.mono B2.out.size)) (by simp; omega) hg
      have e : (l ++ 128 :: List.replicate j 0) ++ [0] = l ++ 128 :: List.replicate (j + 1) 0 := by
        rw [List.append_assoc, List.cons_append, List.replicate_succ']
      rw [e] at hown
      obtain ⟨A4, c4, rfl, _, _⟩ := hown.form
      refine ⟨⟨j + 1, by omega, hown, b3⟩, ?_⟩
      have := HN.out
      simp [lenV]
      omega
    · have hj2 : j = (119 - l.length % 64) % 64 := by omega
      have ht : (((N : Int) % 64) != 56) = false := by
        have : (N : Int) % 64 = 56 := by omega
        rw [this]; rfl
      clear hown hb hr3 hc3 hlen hN
      have HJ := Lib.hid hj2
      clear hj2
      go_wp2
      obtain ⟨M, hM⟩ : ∃ M, M = l ++ 128 :: List.replicate j 0 := ⟨_, rfl⟩
      have o2 := O2.out
      rw [← hM] at o2
      have hMl : M.length ≤ 1000000 := by rw [hM, HLN.out]; have := HN.out; omega
      have HM := Lib.hid hM
      replace O2 := Lib.hid o2
      clear o2 hM
      go_loopw [3, 5] (fun s i wr => ∃ k : Nat, k ≤ 8 ∧ i = .int .i64 k ∧ OwnB wr w.heap.size s (M ++ (be8 (8 * (0 + l.length))).take k) ∧ Below w.heap.size w wr) (fun _ i _ => 8 - (intOf i).toNat)
      case atStart => exact ⟨0, by omega, rfl, by rw [List.take_zero, List.append_nil]; exact O2.out, B2.out⟩
      case round =>
        clear O2 B2
        obtain ⟨k, hk, rfl, hown, hb⟩ := hrel
        obtain ⟨A4, c4, rfl, hc4, hr4⟩ := hown.form
        have hbs2 := hb.size
        have O2 := Lib.hid hown; have B2 := Lib.hid hb
        have hl4 : (M ++ (be8 (8 * (0 + l.length))).take k).length ≤ 1000008 := by rw [List.length_append, List.length_take, be8_length]; omega
        by_cases hlt2 : k < 8
        · clear hown hb hr4 hc4
          have z1 : (0 : Int) ≤ 56 - 8 * (k : Int) := by omega
          have z2 : (56 - 8 * (k : Int)).toNat = 56 - 8 * k := by omega
          have z4 : 8 * (k : Int) ≤ 56 := by omega
          obtain ⟨x, hx⟩ : ∃ x, x = at0 (be8 (8 * (0 + l.length))) k := ⟨_, rfl⟩
          have hv : (l.length : Int) * 8 / 2 ^ (56 - 8 * k) % 256 = (x : Int) := by
            rw [hx, at0_be8 _ _ hlt2, Nat.zero_add]
            simp [Int.mul_comm]
          have hsn := take_snoc (be8 (8 * (0 + l.length))) k (by rw [be8_length]; exact hlt2)
          rw [← hx] at hsn
          have HSN := Lib.hid hsn
          clear hx hsn
          have ba : Below wr.heap.size wr (wr.alloc (Obj.cells #[Value.int .u8 (x : Int)] 5)) := (Below.refl _ _).alloc (Nat.le_refl _) _
          have BA := Lib.hid ba
          clear ba
          generalize hL : M ++ (be8 (8 * (0 + l.length))).take k = L at *
          have HL := Lib.hid hL
          clear hL
          go_wp2_with (refine wpList_app8 rfl (.tmp 27) (.tmp 34) rfl w.heap.size _ L rfl (O2.out.below BA.out) (wr.alloc (Obj.cells #[Value.int .u8 (x : Int)] 5)).heap.size (some ⟨wr.heap.size, 0, none⟩) 1 [x] 1 rfl rfl (rd_blk (Blk.new _ _ _) (by simp)) (by simp; omega) (by simp; omega) ?_; intro v3 w3 hown hg hat)
          have b3 : Below w.heap.size w w3 := own_below (O2.out.below BA.out) (B2.out.trans (BA.out.mono B2.out.size)) (by simp; omega) hg
          rw [← HL.out, List.append_assoc, ← HSN.out] at hown
          exact ⟨⟨k + 1, by omega, by go_num, hown, b3⟩, by simp [intOf]; omega⟩
        · obtain rfl : k = 8 := by omega
          have e : M ++ (be8 (8 * (0 + l.length))).take 8 = padded 0 l := by
            rw [List.take_of_length_le (by rw [be8_length]; omega), HM.out, HJ.out]
            unfold padded
            simp
          have o2 := O2.out
          rw [e] at o2
          have hle : (M ++ (be8 (8 * (0 + l.length))).take 8).length = (padded 0 l).length := by rw [e]
          rw [hle]
          replace O2 := Lib.hid o2
          clear hown hb hr4 hc4 e o2 hle hl4
          go_wp2
          go_ret
          exact ⟨_, rfl, O2.out, B2.out⟩
end Go.Proofs.Ytiigbhpnlpbnjaa
