import Derived.Test.YtiigbhpnlpbnjaaWe
import Derived.Deep.RegionHeld3
import Derived.Deep.RegionLaw
namespace Go.Proofs.Ytiigbhpnlpbnjaa
open Go.RowKit

def key64 (key : List Nat) : List Nat := if key.length > 64 then sumN key else key
theorem keyN_eq (key : List Nat) : keyN key = pad 64 (key64 key) := rfl
theorem key64_le (key : List Nat) : (key64 key).length ≤ 64 := by
  unfold key64; split
  · rw [show (sumN key).length = 32 from finishN_length _ _ _]; omega
  · omega
theorem key64_lt {key : List Nat} (h : W8 key) : W8 (key64 key) := by
  unfold key64; split
  · exact finishN_lt _ _ _
  · exact h
theorem keyN_length (key : List Nat) : (keyN key).length = 64 := pad_length (key64_le key)
theorem keyN_lt {key : List Nat} (h : W8 key) : W8 (keyN key) := (key64_lt h).append (W8.zeros _)

set_option maxHeartbeats 1000000 in
theorem keyBlock_any (l : List Nat) (A : Option Addr) (c : Nat) (w : World) (hl' : W8 l) (hr : Rd w w.heap.size A l) (hc : l.length ≤ c) (hbig : l.length < 1000000) :
    Calls Try.prog 21 #[.slice A l.length c] w fun e w' => e = .returned (.agg (B8 (keyN l))) ∧ Below w.heap.size w w' := by
  have HL' := Lib.hid hl'; have HR := Lib.hid hr
  clear hl' hr
  by_cases h64 : l.length ≤ 64
  · have h64' : (l.length : Int) ≤ 64 := by omega
    have hX : l.take 64 ++ (pad 64 []).drop l.length = keyN l := by
      rw [List.take_of_length_le h64, pad_nil_drop, keyN_eq, key64, if_neg (by omega)]; rfl
    have HX := Lib.hid hX
    clear hX
    go_enter Try.func21, Try.ntmps21
    have bel0 : Below w.heap.size w ((w.alloc (Obj.cells (B8 (pad 64 [])) 42)).alloc (Obj.cells (B8 (pad 64 [])) 42)) := ((Below.refl _ _).alloc (Nat.le_refl _) _).alloc (by simp) _
    have b0 : Blk ((w.alloc (Obj.cells (B8 (pad 64 [])) 42)).alloc (Obj.cells (B8 (pad 64 [])) 42)) w.heap.size 42 (B8 (pad 64 [])) := (Blk.new _ _ _).alloc _
    have b1 : Blk ((w.alloc (Obj.cells (B8 (pad 64 [])) 42)).alloc (Obj.cells (B8 (pad 64 [])) 42)) (w.heap.size + 1) 42 (B8 (pad 64 [])) := by
      have := Blk.new (w.alloc (Obj.cells (B8 (pad 64 [])) 42)) 42 (B8 (pad 64 []))
      rwa [show (w.alloc (Obj.cells (B8 (pad 64 [])) 42)).heap.size = w.heap.size + 1 from by simp] at this
    have B0 := Lib.hid b0; have B1 := Lib.hid b1; have BEL := Lib.hid bel0
    clear b0 b1 bel0
    go_wp2_with (first
      | (refine wpList_copy8 rfl (.tmp 13) (.tmp 14) rfl (w.heap.size + 1) 64 A _ c rfl rfl 42 (pad 64 []) l w.heap.size B1.out (pad_nil_length _) rfl (HR.out.below BEL.out) (keyN l) HX.out (l.length : Int) (by omega) ?_)
      | (refine wpList_load_blk rfl 42 (.tmp 3) rfl (w.heap.size + 1) rfl 42 (B8 (keyN l)) _ 64 (B1.out.row _) Try.underlying42 rfl info42 (by rw [B8_size, keyN_length]) ?_)
      | (refine wpList_store_blk rfl 42 (.tmp 2) (.tmp 16) rfl w.heap.size (B8 (keyN l)) rfl rfl 42 _ 64 (B0.out.rowFar (by omega) _) info42 (by rw [B8_size, keyN_length]) (by rw [B8_size, pad_nil_length]) (B8_one _) ?_))
    exact bodyPost_ret (results_cell_row (P := Try.prog) (fn := Try.f21) rfl _ _ w.heap.size 42 (B8 (keyN l)) (0, 0) _ rfl ((B0.out.rowFar (by omega) _).row _) Try.underlying42 rfl (by rw [B8_size, keyN_length]; exact info42)) rfl ⟨rfl, below_setRow (below_setRow BEL.out (by omega) _) (Nat.le_refl _) _⟩
  · have h64' : (64 : Int) < (l.length : Int) := by omega
    have hX : (sumN l).take 64 ++ (pad 64 []).drop (sumN l).length = keyN l := by
      rw [List.take_of_length_le (by rw [show (sumN l).length = 32 from finishN_length _ _ _]; omega), pad_nil_drop, keyN_eq, key64, if_pos (by omega)]; rfl
    have HX := Lib.hid hX
    have hsl : (sumN l).length = 32 := finishN_length _ _ _
    have HSL := Lib.hid hsl
    clear hX hsl
    go_enter Try.func21, Try.ntmps21
    have bel0 : Below w.heap.size w ((w.alloc (Obj.cells (B8 (pad 64 [])) 42)).alloc (Obj.cells (B8 (pad 64 [])) 42)) := ((Below.refl _ _).alloc (Nat.le_refl _) _).alloc (by simp) _
    have b0 : Blk ((w.alloc (Obj.cells (B8 (pad 64 [])) 42)).alloc (Obj.cells (B8 (pad 64 [])) 42)) w.heap.size 42 (B8 (pad 64 [])) := (Blk.new _ _ _).alloc _
    have b1 : Blk ((w.alloc (Obj.cells (B8 (pad 64 [])) 42)).alloc (Obj.cells (B8 (pad 64 [])) 42)) (w.heap.size + 1) 42 (B8 (pad 64 [])) := by
      have := Blk.new (w.alloc (Obj.cells (B8 (pad 64 [])) 42)) 42 (B8 (pad 64 []))
      rwa [show (w.alloc (Obj.cells (B8 (pad 64 [])) 42)).heap.size = w.heap.size + 1 from by simp] at this
    have z0 : ((w.alloc (Obj.cells (B8 (pad 64 [])) 42)).alloc (Obj.cells (B8 (pad 64 [])) 42)).heap.size = w.heap.size + 2 := by simp
    have B0 := Lib.hid b0; have B1 := Lib.hid b1; have BEL := Lib.hid bel0; have Z0 := Lib.hid z0
    clear b0 b1 bel0 z0
    go_wp2_with fail
    refine (sum_any l A c _ HL'.out ((HR.out.below BEL.out).more BEL.out.size) hc hbig).mono ?_
    rintro e w1 ⟨rfl, hb1⟩
    have sz1 : w.heap.size + 2 ≤ w1.heap.size := by have := hb1.size; have := Z0.out; omega
    have c0 : Blk w1 w.heap.size 42 (B8 (pad 64 [])) := B0.out.below hb1 (by have := Z0.out; omega)
    have c1 : Blk w1 (w.heap.size + 1) 42 (B8 (pad 64 [])) := B1.out.below hb1 (by have := Z0.out; omega)
    have bel1 : Below w.heap.size w w1 := BEL.out.trans (hb1.mono (by have := Z0.out; omega))
    clear hb1 Z0
    replace B0 := Lib.hid c0; replace B1 := Lib.hid c1; replace BEL := Lib.hid bel1
    clear c0 c1 bel1
    go_upto_region 4 with (refine wpList_store_new rfl 24 (.tmp 4) (.tmp 9) rfl (B8 (sumN l)) rfl rfl 24 _ (by rw [B8_size, HSL.out]; exact info24) (by rw [B8_size, HSL.out]; rfl) (B8_one _) ?_)
    have c0 := B0.out.alloc (Obj.cells (B8 (sumN l)) 24)
    have c1 := B1.out.alloc (Obj.cells (B8 (sumN l)) 24)
    have c2 := Blk.new w1 24 (B8 (sumN l))
    have bel2 := BEL.out.alloc (by omega) (Obj.cells (B8 (sumN l)) 24)
    have sz2 : (w1.alloc (Obj.cells (B8 (sumN l)) 24)).heap.size = w1.heap.size + 1 := by simp
    generalize w1.alloc (Obj.cells (B8 (sumN l)) 24) = W2 at *
    generalize w1.heap.size = g at *
    replace B0 := Lib.hid c0; replace B1 := Lib.hid c1; replace BEL := Lib.hid bel2; have B2 := Lib.hid c2; have SZ2 := Lib.hid sz2
    clear c0 c1 bel2 c2 sz2
    clear w1
    have hrd : Rd W2 (g + 1) (some ⟨g, 0, none⟩) (sumN l) := fun _ => ⟨⟨g, 0, none⟩, rfl, by simp, fun j hj => by
      have : (⟨g, 0, none⟩ : Addr).add j = ⟨g, j, none⟩ := by unfold Addr.add; split <;> simp_all
      rw [this, B2.out.cell, B8_get hj]⟩
    have HRD := Lib.hid hrd
    clear hrd
    go_still_tail 2, (by kernel_rfl)
    rw [fold_drew]
    go_wp2_with (first
      | (refine wpList_copy8 rfl (.tmp 10) (.tmp 11) rfl (w.heap.size + 1) 64 (some ⟨g, 0, none⟩) _ 32 rfl rfl 42 (pad 64 []) (sumN l) (g + 1) B1.out.drew (pad_nil_length _) HSL.out HRD.out (keyN l) HX.out 32 rfl ?_)
      | (refine wpList_load_blk rfl 42 (.tmp 3) rfl (w.heap.size + 1) rfl 42 (B8 (keyN l)) _ 64 (B1.out.drew.row _) Try.underlying42 rfl info42 (by rw [B8_size, keyN_length]) ?_)
      | (refine wpList_store_blk rfl 42 (.tmp 2) (.tmp 16) rfl w.heap.size (B8 (keyN l)) rfl rfl 42 _ 64 (B0.out.drew.rowFar (by omega) _) info42 (by rw [B8_size, keyN_length]) (by rw [B8_size, pad_nil_length]) (B8_one _) ?_))
    exact bodyPost_ret (results_cell_row (P := Try.prog) (fn := Try.f21) rfl _ _ w.heap.size 42 (B8 (keyN l)) (0, 0) _ rfl ((B0.out.drew.rowFar (by omega) _).row _) Try.underlying42 rfl (by rw [B8_size, keyN_length]; exact info42)) rfl ⟨rfl, below_setRow (below_setRow BEL.out.drew (by omega) _) (Nat.le_refl _) _⟩
end Go.Proofs.Ytiigbhpnlpbnjaa
