import Derived.Test.YtiigbhpnlpbnjaaLa
import Derived.Test.YtiigbhpnlpbnjaaAp
namespace Go.Proofs.Ytiigbhpnlpbnjaa
open Go.RowKit

theorem run_conv8 {w : World} {B : Nat} {A : Option Addr} {l : List Nat} (hr : Rd w B A l) (c : Nat) :
    (convert 22 9 (.slice A l.length c)).run Try.prog w = .ok (.string (strOfNums (l.map fun (x : Nat) => (x : Int)))) w := by
  by_cases h0 : l.length = 0
  · obtain rfl : l = [] := List.eq_nil_of_length_eq_zero h0
    rcases A with _ | ad
    · rw [List.length_nil, run_convert_bytes_nil w 22 5 Try.underlying22 Try.underlying5 0 c 9 Try.underlying9]; rfl
    · have hl : (loadCells ad 0).run Try.prog w = .ok (([] : List Int).map (Value.int .u8)).toArray w := by simp [loadCells, loadCellsFrom]
      rw [List.length_nil, run_convert_bytes_string w 22 9 5 _ 0 c Try.underlying22 Try.underlying5 Try.underlying9, run_bytesToString w _ 0 c [] hl]
      simp [strOfNums]
      rfl
  · obtain ⟨ad, rfl, _, hc⟩ := hr (by omega)
    have hl : (loadCells ad l.length).run Try.prog w = .ok ((l.map fun (x : Nat) => (x : Int)).map (Value.int .u8)).toArray w := by
      have := run_loadCells_list (P := Try.prog) w ad ((l.map fun (x : Nat) => (x : Int)).map (Value.int .u8)) (fun j v hj => by
        have hj2 : j < l.length := by
          rcases Nat.lt_or_ge j l.length with h | h
          · exact h
          · rw [List.getElem?_eq_none (by simpa using h)] at hj; cases hj
        simp only [List.getElem?_map, List.getElem?_eq_getElem hj2, Option.map_some] at hj
        injection hj with hj
        rw [← hj, hc j hj2, at0_eq hj2])
      simpa using this
    rw [run_convert_bytes_string w 22 9 5 _ l.length c Try.underlying22 Try.underlying5 Try.underlying9, run_bytesToString w _ l.length c _ hl, foldl_push_bytes]
    simp [strOfNums, ByteArray.empty, ByteArray.emptyWithCapacity]
    rfl

theorem Rd.take {w : World} {B : Nat} {A : Option Addr} {l : List Nat} (h : Rd w B A l) (k : Nat) : Rd w B A (l.take k) := fun h0 => by
  rw [List.length_take] at h0
  obtain ⟨ad, rfl, hB, hc⟩ := h (by omega)
  refine ⟨ad, rfl, hB, fun j hj => ?_⟩
  rw [List.length_take] at hj
  rw [hc j (by omega), at0_take (by omega)]

set_option maxHeartbeats 1000000 in
theorem hashLong_walk (l : List Nat) (A : Option Addr) (c : Nat) (at' : Int) (w : World) (hl' : W8 l) (hr : Rd w w.heap.size A l) (hc : l.length ≤ c) (hb1 : -9223372036854775808 ≤ at') (hb2 : at' ≤ 9223372036854775807) :
    Calls Try.prog 8 #[.slice A l.length c, .int .i64 at'] w fun e w' => e = .returned (.bool true) ∧ Below w.heap.size w w' := by
  have HL' := Lib.hid hl'; have HR := Lib.hid hr
  clear hl' hr
  go_enter Try.func8, Try.ntmps8
  go_wp2_with fail
  refine (awake_any _).mono ?_
  rintro e w1 ⟨rfl, hb1⟩
  have B1 := Lib.hid hb1
  clear hb1
  by_cases h1 : 1500 < l.length
  · have h1' : (1500 : Int) < l.length := by omega
    go_wp2
    go_ret
    exact ⟨rfl, B1.out⟩
  have h1' : (l.length : Int) ≤ 1500 := by omega
  by_cases h2 : at' < 0
  · go_wp2
    go_ret
    exact ⟨rfl, B1.out⟩
  have h2' : 0 ≤ at' := by omega
  obtain ⟨k, hk⟩ : ∃ k : Nat, at' % ((l.length : Int) + 1) = (k : Int) := ⟨(at' % ((l.length : Int) + 1)).toNat, by have := Int.emod_nonneg at' (b := (l.length : Int) + 1) (by omega); omega⟩
  have hkl : k ≤ l.length := by have := Int.emod_lt_of_pos at' (b := (l.length : Int) + 1) (by omega); omega
  go_upto_region 5 with fail
  rw [hk]
  clear hk
  go_upto_region 6 with (refine wpList_app8 rfl (.tmp 24) (.tmp 25) rfl w.heap.size _ [] rfl (OwnB.made w1 w.heap.size B1.out.size) (w1.alloc (.cells #[] 5)).heap.size A _ l c rfl rfl ((HR.out.below (B1.out.alloc B1.out.size _)).more (B1.out.alloc B1.out.size _).size) (by simp; omega) (B1.out.alloc B1.out.size _).size ?_; intro v1 w2 hown hg hat)
  have b2 : Below w.heap.size w w2 := (B1.out.alloc B1.out.size _).grown hg (B1.out.alloc B1.out.size _).size (fun k hk => by
    have e : some w1.heap.size = some k := hk
    injection e with e
    have := B1.out.size
    omega)
  rw [List.nil_append] at hown
  obtain ⟨A1, c1, rfl, hc1, hr1⟩ := hown.form
  have B2 := Lib.hid b2; have R1 := Lib.hid hr1
  clear b2 hr1 hown hg hat B1
  have hkl' : (k : Int) ≤ (l.length : Int) := by omega
  have hkc : k ≤ c := by omega
  have hkc' : (k : Int) ≤ (c : Int) := by omega
  have hkc1 : k ≤ c1 := by omega
  have hkc1' : (k : Int) ≤ (c1 : Int) := by omega
  have htl : (l.take k).length = k := by rw [List.length_take]; omega
  have HTL := Lib.hid htl
  clear htl
  go_wp2_with fail
  have hs1 := sum_any (l.take k) A1 c1 w2 (HL'.out.take k) (R1.out.take k) (by rw [HTL.out]; omega) (by rw [HTL.out]; omega)
  rw [HTL.out] at hs1
  refine hs1.mono ?_
  clear hs1
  rintro e w3 ⟨rfl, hb3⟩
  have b3 := B2.out.trans (hb3.mono B2.out.size)
  have r1 := (R1.out.below hb3).more hb3.size
  replace B2 := Lib.hid b3; replace R1 := Lib.hid r1
  clear b3 r1 hb3
  go_upto_region 7 with (refine wpList_store_new rfl 24 (.tmp 8) (.tmp 30) rfl (B8 (sumN (l.take k))) rfl rfl 24 _ (by rw [B8_size, sumN_length]; exact info24) (by rw [B8_size, sumN_length]; rfl) (B8_one _) ?_)
  have d0 := Blk.new w3 24 (B8 (sumN (l.take k)))
  have b3 := B2.out.alloc B2.out.size (Obj.cells (B8 (sumN (l.take k))) 24)
  have r1 : Rd (w3.alloc (Obj.cells (B8 (sumN (l.take k))) 24)) (w3.alloc (Obj.cells (B8 (sumN (l.take k))) 24)).heap.size A1 l := (R1.out.below ((Below.refl _ _).alloc (Nat.le_refl _) _)).more (by simp)
  generalize w3.alloc (Obj.cells (B8 (sumN (l.take k))) 24) = W at *
  generalize w3.heap.size = g at *
  replace B2 := Lib.hid b3; replace R1 := Lib.hid r1; have D0 := Lib.hid d0
  clear b3 r1 d0
  go_wp2_with (refine wpList_app8 rfl (.tmp 31) (.tmp 34) rfl w.heap.size _ [] rfl (OwnB.made W w.heap.size B2.out.size) (W.alloc (.cells #[] 5)).heap.size A _ (l.take k) c rfl HTL.out (((HR.out.take k).below (B2.out.alloc B2.out.size _)).more (B2.out.alloc B2.out.size _).size) (by simp; omega) (B2.out.alloc B2.out.size _).size ?_; intro v2 w4 hown hg hat)
  have b4 : Below W.heap.size W w4 := ((Below.refl W.heap.size W).alloc (Nat.le_refl _) (Obj.cells #[] 5)).grown hg (by simp) (fun k hk => by
    have e : some W.heap.size = some k := hk
    injection e with e
    omega)
  rw [List.nil_append] at hown
  obtain ⟨A2, c2, rfl, hc2, hr2⟩ := hown.form
  have d0 := D0.out.below b4 D0.out.lt
  have b3 := B2.out.trans (b4.mono B2.out.size)
  have r1 := (R1.out.below b4).more b4.size
  replace B2 := Lib.hid b3; replace R1 := Lib.hid r1; replace D0 := Lib.hid d0
  clear b3 r1 d0 b4 hown hg hat
  refine (sum_any (l.take k) A2 c2 w4 (HL'.out.take k) hr2 hc2 (by rw [HTL.out]; omega)).mono ?_
  rintro e w5 ⟨rfl, hb5⟩
  have d0 := D0.out.below hb5 D0.out.lt
  have b3 := B2.out.trans (hb5.mono B2.out.size)
  have r1 := (R1.out.below hb5).more hb5.size
  replace B2 := Lib.hid b3; replace R1 := Lib.hid r1; replace D0 := Lib.hid d0
  clear b3 r1 d0 hb5 hr2 hc2
  go_upto_region 8 with (refine wpList_store_new rfl 24 (.tmp 9) (.tmp 36) rfl (B8 (sumN (l.take k))) rfl rfl 24 _ (by rw [B8_size, sumN_length]; exact info24) (by rw [B8_size, sumN_length]; rfl) (B8_one _) ?_)
  have d1 := Blk.new w5 24 (B8 (sumN (l.take k)))
  have d0 := D0.out.alloc (Obj.cells (B8 (sumN (l.take k))) 24)
  have b3 := B2.out.alloc B2.out.size (Obj.cells (B8 (sumN (l.take k))) 24)
  have r1 : Rd (w5.alloc (Obj.cells (B8 (sumN (l.take k))) 24)) (w5.alloc (Obj.cells (B8 (sumN (l.take k))) 24)).heap.size A1 l := (R1.out.below ((Below.refl _ _).alloc (Nat.le_refl _) _)).more (by simp)
  generalize w5.alloc (Obj.cells (B8 (sumN (l.take k))) 24) = W5 at *
  generalize w5.heap.size = g5 at *
  have E := eq24 (sumN (l.take k)) (sumN (l.take k)) (sumN_length _) (sumN_length _) W5
  have V1 := run_conv8 r1 c1
  have V2 := run_conv8 (HR.out.below b3) c
  have B3 := Lib.hid b3; have D1 := Lib.hid d1; replace D0 := Lib.hid d0
  clear b3 r1 d0 d1 B2 R1
  go_wp2_with (first
    | (refine wpList_load_any rfl 24 (.tmp 8) rfl g rfl 24 (B8 (sumN (l.take k))) _ 32 D0.out Try.underlying24 rfl info24 (by rw [B8_size, sumN_length]) ?_)
    | (refine wpList_load_any rfl 24 (.tmp 9) rfl g5 rfl 24 (B8 (sumN (l.take k))) _ 32 D1.out Try.underlying24 rfl info24 (by rw [B8_size, sumN_length]) ?_))
  go_ret
  exact ⟨by simp, B3.out⟩
end Go.Proofs.Ytiigbhpnlpbnjaa
