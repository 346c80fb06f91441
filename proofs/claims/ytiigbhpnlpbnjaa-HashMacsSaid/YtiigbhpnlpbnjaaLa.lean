import Derived.Test.YtiigbhpnlpbnjaaTl
import Derived.Test.YtiigbhpnlpbnjaaAbc
import Derived.Lib.SlBytesConst
namespace Go.Proofs.Ytiigbhpnlpbnjaa
open Go.RowKit

theorem rd_blk {w : World} {g : Nat} {t : TypeId} {l : List Nat} (h : Blk w g t (B8 l)) {B : Nat} (hB : g < B) : Rd w B (some ⟨g, 0, none⟩) l := fun _ => ⟨⟨g, 0, none⟩, rfl, hB, fun j hj => by
  have : (⟨g, 0, none⟩ : Addr).add j = ⟨g, j, none⟩ := by unfold Addr.add; split <;> simp_all
  rw [this, h.cell, B8_get hj]⟩
theorem sumN_length (l : List Nat) : (sumN l).length = 32 := finishN_length _ _ _
theorem sumN_lt (l : List Nat) : W8 (sumN l) := finishN_lt _ _ _

def abcN : List Nat := [97, 98, 99]
theorem abc0 : at0 (sumN abcN) 0 = 186 := by rw [show abcN = [97, 98, 99] from rfl, abcsum]; rfl
theorem abc1 : at0 (sumN abcN) 1 = 120 := by rw [show abcN = [97, 98, 99] from rfl, abcsum]; rfl
theorem abc31 : at0 (sumN abcN) 31 = 173 := by rw [show abcN = [97, 98, 99] from rfl, abcsum]; rfl

set_option maxHeartbeats 1000000 in
theorem awake_any (w : World) :
    Calls Try.prog 11 #[] w fun e w' => e = .returned (.bool true) ∧ Below w.heap.size w w' := by
  have hconv := Lib.run_convert_bytes_const (P := Try.prog) w 22 5 (B8 abcN) 3 3 Try.underlying22 Try.underlying5
  rw [show B8 abcN = #[Value.int IntKind.u8 97, Value.int IntKind.u8 98, Value.int IntKind.u8 99] from rfl] at hconv
  go_enter Try.func11, Try.ntmps11
  go_wp2_with fail
  clear hconv
  have hbel0 : Below w.heap.size w (w.alloc (Obj.cells (B8 abcN) 5 (3, 4))) := (Below.refl _ _).alloc (Nat.le_refl _) _
  have hrd : Rd (w.alloc (Obj.cells (B8 abcN) 5 (3, 4))) (w.alloc (Obj.cells (B8 abcN) 5 (3, 4))).heap.size (some ⟨w.heap.size, 0, none⟩) abcN := fun _ => ⟨⟨w.heap.size, 0, none⟩, rfl, by simp, fun j hj => by
    have : (⟨w.heap.size, 0, none⟩ : Addr).add j = ⟨w.heap.size, j, none⟩ := by unfold Addr.add; split <;> simp_all
    rw [this, cell_of_row _ _ _ (B8 abcN) 5 (3, 4) (heap_alloc_new w _), B8_get hj]⟩
  refine (sum_any abcN (some ⟨w.heap.size, 0, none⟩) 3 (w.alloc (Obj.cells (B8 abcN) 5 (3, 4))) (by unfold W8; decide) hrd (Nat.le_refl _) (by decide)).mono ?_
  rintro e w1 ⟨rfl, hb1⟩
  have bel1 : Below w.heap.size w w1 := hbel0.trans (hb1.mono (by simp))
  have BEL := Lib.hid bel1
  clear hbel0 hrd hb1 bel1
  go_upto_region 2 with (refine wpList_store_new rfl 24 (.tmp 1) (.tmp 4) rfl (B8 (sumN abcN)) rfl rfl 24 _ (by rw [B8_size, sumN_length]; exact info24) (by rw [B8_size, sumN_length]; rfl) (B8_one _) ?_)
  have c1 := Blk.new w1 24 (B8 (sumN abcN))
  have bel2 := BEL.out.alloc BEL.out.size (Obj.cells (B8 (sumN abcN)) 24)
  generalize w1.alloc (Obj.cells (B8 (sumN abcN)) 24) = W at *
  generalize w1.heap.size = g at *
  have d0 := c1.cell 0; have d1 := c1.cell 1; have d31 := c1.cell 31
  rw [B8_get (by rw [sumN_length]; omega)] at d0 d1 d31
  rw [abc0] at d0; rw [abc1] at d1; rw [abc31] at d31
  have B1 := Lib.hid c1; have BEL2 := Lib.hid bel2
  clear c1 bel2 BEL
  go_wp2_with (first
    | (refine wpList_load_any rfl 24 (.tmp 1) rfl g rfl 24 (B8 (sumN abcN)) _ 32 B1.out Try.underlying24 rfl info24 (by rw [B8_size, sumN_length]) ?_)
    | (go_at_call 16; refine (same_any _ _ _ (sumN_length _) (sumN_length _) (sumN_lt _) (sumN_lt _)).mono ?_; rintro e w2 ⟨rfl, hb2⟩))
  go_ret
  exact ⟨rfl, BEL2.out.trans (hb2.mono BEL2.out.size)⟩
theorem en16 : enters Try.prog 16 = true := by kernel_rfl

set_option maxHeartbeats 1000000 in
theorem hashSame_walk (x y : List Nat) (w : World) (hx : x.length = 32) (hy : y.length = 32) (hx' : W8 x) (hy' : W8 y) :
    Calls Try.prog 5 #[.agg (B8 x), .agg (B8 y)] w fun e w' => e = .returned (.bool true) ∧ Below w.heap.size w w' := by
  have HX := Lib.hid hx; have HY := Lib.hid hy; have HX' := Lib.hid hx'; have HY' := Lib.hid hy'
  clear hx hy hx' hy'
  go_enter Try.func5, Try.ntmps5
  go_wp2_with fail
  have b0 : Below w.heap.size w ((w.alloc (Obj.cells (B8 x) 24)).alloc (Obj.cells (B8 y) 24)) := ((Below.refl _ _).alloc (Nat.le_refl _) _).alloc (by simp) _
  have c0 : Blk ((w.alloc (Obj.cells (B8 x) 24)).alloc (Obj.cells (B8 y) 24)) w.heap.size 24 (B8 x) := (Blk.new _ _ _).alloc _
  have c1 : Blk ((w.alloc (Obj.cells (B8 x) 24)).alloc (Obj.cells (B8 y) 24)) (w.heap.size + 1) 24 (B8 y) := by
    have := Blk.new (w.alloc (Obj.cells (B8 x) 24)) 24 (B8 y)
    rwa [show (w.alloc (Obj.cells (B8 x) 24)).heap.size = w.heap.size + 1 from by simp] at this
  refine (awake_any _).mono ?_
  rintro e w1 ⟨rfl, hb1⟩
  have b1 := b0.trans (hb1.mono b0.size)
  replace c0 := c0.below hb1 c0.lt
  replace c1 := c1.below hb1 c1.lt
  have C0 := Lib.hid c0; have C1 := Lib.hid c1; have B1 := Lib.hid b1
  clear c0 c1 b0 b1 hb1
  have E := fun W => eq24 x y HX.out HY.out W
  go_wp2
  refine region_below (by kernel_rfl) (by kernel_rfl) ?_
  repeat (refine wpQuiet_step (fun K hK => ?_); go_simp; (first | (refine hK _ ?_) | (refine ⟨_, fun _ _ => rfl, hK _ ?_⟩)); clear hK K)
  refine q_load rfl 24 (.tmp 2) rfl w.heap.size rfl 24 (B8 x) _ 32 (fun w' h => C0.out.below h C0.out.lt) Try.underlying24 rfl info24 (by rw [B8_size, HX.out]) ?_
  refine q_load rfl 24 (.tmp 3) rfl (w.heap.size + 1) rfl 24 (B8 y) _ 32 (fun w' h => C1.out.below h C1.out.lt) Try.underlying24 rfl info24 (by rw [B8_size, HY.out]) ?_
  refine q_call rfl 16 [.tmp 9, .tmp 10] _ rfl en16 [.agg (B8 x), .agg (B8 y)] rfl (.bool (decide (x = y))) (fun w' h => calls_below h (same_any x y w' HX.out HY.out HX'.out HY'.out)) ?_
  refine q_load rfl 24 (.tmp 2) rfl w.heap.size rfl 24 (B8 x) _ 32 (fun w' h => C0.out.below h C0.out.lt) Try.underlying24 rfl info24 (by rw [B8_size, HX.out]) ?_
  refine q_load rfl 24 (.tmp 3) rfl (w.heap.size + 1) rfl 24 (B8 y) _ 32 (fun w' h => C1.out.below h C1.out.lt) Try.underlying24 rfl info24 (by rw [B8_size, HY.out]) ?_
  repeat (refine wpQuiet_step (fun K hK => ?_); go_simp; (first | (refine hK _ ?_) | (refine ⟨_, fun _ _ => rfl, hK _ ?_⟩)); clear hK K)
  refine q_load rfl 24 (.tmp 3) rfl (w.heap.size + 1) rfl 24 (B8 y) _ 32 (fun w' h => C1.out.below h C1.out.lt) Try.underlying24 rfl info24 (by rw [B8_size, HY.out]) ?_
  refine q_load rfl 24 (.tmp 3) rfl (w.heap.size + 1) rfl 24 (B8 y) _ 32 (fun w' h => C1.out.below h C1.out.lt) Try.underlying24 rfl info24 (by rw [B8_size, HY.out]) ?_
  refine q_call rfl 16 [.tmp 18, .tmp 19] _ rfl en16 [.agg (B8 y), .agg (B8 y)] rfl (.bool (decide (y = y))) (fun w' h => calls_below h (same_any y y w' HY.out HY.out HY'.out HY'.out)) ?_
  repeat (refine wpQuiet_step (fun K hK => ?_); go_simp; (first | (refine hK _ ?_) | (refine ⟨_, fun _ _ => rfl, hK _ ?_⟩)); clear hK K)
  refine wpQuiet_nil ?_
  intro w' hw'
  have HW := Lib.hid hw'
  clear hw'
  go_wp2
  go_ret
  exact ⟨rfl, B1.out.trans (HW.out.mono B1.out.size)⟩
end Go.Proofs.Ytiigbhpnlpbnjaa
