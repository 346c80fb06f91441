import Derived.Test.YtiigbhpnlpbnjaaWf
import Derived.Test.YtiigbhpnlpbnjaaRl
namespace Go.Proofs.Ytiigbhpnlpbnjaa
open Go.RowKit

theorem en18 : enters Try.prog 18 = true := by kernel_rfl
theorem en22 : enters Try.prog 22 = true := by kernel_rfl
theorem en23 : enters Try.prog 23 = true := by kernel_rfl
theorem en17 : enters Try.prog 17 = true := by kernel_rfl
theorem zero24 : (Try.prog.info? 24).map (·.zero) = some (some (.agg (B8 (pad 32 [])))) := by kernel_rfl
theorem rd_blk2 {w : World} {g : Nat} {t : TypeId} {l : List Nat} (h : Blk w g t (B8 l)) {B : Nat} (hB : g < B) : Rd w B (some ⟨g, 0, none⟩) l := fun _ => ⟨⟨g, 0, none⟩, rfl, hB, fun j hj => by
  have : (⟨g, 0, none⟩ : Addr).add j = ⟨g, j, none⟩ := by unfold Addr.add; split <;> simp_all
  rw [this, h.cell, B8_get hj]⟩

theorem run_slice24 (g : Nat) (w : World) : (Instr.sliceAt 24 (.pointer (some ⟨g, 0, none⟩)) none none none).run Try.prog w = .ok (.slice (some ⟨g, 0, none⟩) 32 32) w := by
  go_simp
def innerN (key l : List Nat) : List Nat := finishN (absorbN initN (maskN (keyN key) 54)) 64 l
theorem innerN_length (key l : List Nat) : (innerN key l).length = 32 := finishN_length _ _ _
theorem innerN_lt (key l : List Nat) : W8 (innerN key l) := finishN_lt _ _ _
theorem macN_eq (key l : List Nat) : macN key l = finishN (absorbN initN (maskN (keyN key) 92)) 64 (innerN key l) := rfl

def V1 (W : World) (key l : List Nat) (A : Option Addr) (c : Nat) (i : Nat) (x : Value) (w : World) : Prop :=
  match i with
  | 0 => x = .agg (U32 initN)
  | 1 => x = .agg (B8 (keyN key))
  | 2 => x = .agg (B8 (maskN (keyN key) 54))
  | 3 => x = .agg (U32 (absorbN initN (maskN (keyN key) 54)))
  | 4 => x = .slice A l.length c
  | 5 => x = .agg (B8 (innerN key l))
  | 6 => ∃ g, x = .pointer (some ⟨g, 0, none⟩) ∧ Blk w g 24 (B8 (pad 32 [])) ∧ W.heap.size ≤ g
  | _ => True
theorem V1_keep (W : World) (key l : List Nat) (A : Option Addr) (c : Nat) (i : Nat) (x : Value) (w w' : World) (h : V1 W key l A c i x w) (hb : Below w.heap.size w w') : V1 W key l A c i x w' := by
  unfold V1 at *
  split <;> simp only at h ⊢ <;> first | exact h | (obtain ⟨g, h1, h2, h3⟩ := h; exact ⟨g, h1, h2.below hb h2.lt, h3⟩) | trivial

def V2 (key l : List Nat) (g : Nat) (i : Nat) (x : Value) (_ : World) : Prop :=
  match i with
  | 0 => x = .agg (U32 initN)
  | 1 => x = .agg (B8 (keyN key))
  | 2 => x = .agg (B8 (maskN (keyN key) 92))
  | 3 => x = .agg (U32 (absorbN initN (maskN (keyN key) 92)))
  | 4 => x = .slice (some ⟨g, 0, none⟩) 32 32
  | 5 => x = .agg (B8 (macN key l))
  | _ => True
theorem V2_keep (key l : List Nat) (g : Nat) (i : Nat) (x : Value) (w w' : World) (h : V2 key l g i x w) (_ : Below w.heap.size w w') : V2 key l g i x w' := h

set_option maxRecDepth 100000 in
set_option maxHeartbeats 1000000 in
theorem mac_any (key l : List Nat) (A0 A : Option Addr) (c0 c : Nat) (w : World) (hk' : W8 key) (hl' : W8 l) (hrk : Rd w w.heap.size A0 key) (hr : Rd w w.heap.size A l) (hc0 : key.length ≤ c0) (hc : l.length ≤ c) (hbk : key.length < 1000000) (hbig : l.length < 900000) :
    Calls Try.prog 14 #[.slice A0 key.length c0, .slice A l.length c] w fun e w' => e = .returned (.agg (B8 (macN key l))) ∧ Below w.heap.size w w' := by
  have HK' := Lib.hid hk'; have HL' := Lib.hid hl'; have HR := Lib.hid hr; have HRK := Lib.hid hrk
  clear hk' hl' hr hrk
  go_enter Try.func14, Try.ntmps14
  go_wp2_with fail
  have b0 : Below w.heap.size w (w.alloc (Obj.cells (B8 (pad 32 [])) 24)) := (Below.refl _ _).alloc (Nat.le_refl _) _
  have c0' : Blk (w.alloc (Obj.cells (B8 (pad 32 [])) 24)) w.heap.size 24 (B8 (pad 32 [])) := Blk.new _ _ _
  refine (keyBlock_any key A0 c0 (w.alloc (Obj.cells (B8 (pad 32 [])) 24)) HK'.out ((HRK.out.below b0).more b0.size) hc0 hbk).mono ?_
  rintro e w1 ⟨rfl, hb1⟩
  have b1 := b0.trans (hb1.mono b0.size)
  replace c0' := c0'.below hb1 c0'.lt
  have B1 := Lib.hid b1; have C0 := Lib.hid c0'
  clear b0 b1 hb1 c0'
  go_upto_region 2 with (refine wpList_store_new rfl 42 (.tmp 5) (.tmp 8) rfl (B8 (keyN key)) rfl rfl 42 _ (by rw [B8_size, keyN_length]; exact info42) (by rw [B8_size, keyN_length]; rfl) (B8_one _) ?_)
  have c0' := C0.out.alloc (Obj.cells (B8 (keyN key)) 42)
  have c1' := Blk.new w1 42 (B8 (keyN key))
  have b1 := B1.out.alloc B1.out.size (Obj.cells (B8 (keyN key)) 42)
  generalize w1.alloc (Obj.cells (B8 (keyN key)) 42) = W at *
  generalize w1.heap.size = g5 at *
  replace B1 := Lib.hid b1; replace C0 := Lib.hid c0'; have C1 := Lib.hid c1'
  clear b1 c0' c1'
  refine region_rel_lit 7 (V1 W key l A c) (by kernel_rfl) (by kernel_rfl) rfl (V1_keep W key l A c) ?_ ?_
  · intro i o hi a v w' hb hv ht hout
    rcases i with _ | _ | _ | _ | _ | _ | _ | i
    · obtain rfl := Option.some.inj hi
      exact ow_call 18 [] _ rfl en18 [] rfl (.agg (U32 initN)) (initial_any w') (fun _ _ => rfl)
    · obtain rfl := Option.some.inj hi
      exact ow_load 42 (.tmp 5) rfl g5 (hout 5 (by kernel_rfl)) 42 (B8 (keyN key)) _ 64 (C1.out.below hb C1.out.lt) Try.underlying42 rfl info42 (by rw [B8_size, keyN_length]) rfl
    · obtain rfl := Option.some.inj hi
      have e1 : v 1 = .agg (B8 (keyN key)) := hv 1 (by kernel_rfl)
      have t1 := ht 1 _ 10 (by kernel_rfl) rfl rfl
      exact ow_call 23 [.tmp 10, .const (.int .u8 54)] _ rfl en23 [.agg (B8 (keyN key)), .int .u8 54] (by rw [← e1, ← t1]; rfl) (.agg (B8 (maskN (keyN key) 54)))
        (masked_any (keyN key) 54 w' (keyN_length key) (keyN_lt HK'.out) (by omega)) (fun _ _ => rfl)
    · obtain rfl := Option.some.inj hi
      have e0 : v 0 = .agg (U32 initN) := hv 0 (by kernel_rfl)
      have e2 : v 2 = .agg (B8 (maskN (keyN key) 54)) := hv 2 (by kernel_rfl)
      have t0 := ht 0 _ 9 (by kernel_rfl) rfl rfl
      have t2 := ht 2 _ 11 (by kernel_rfl) rfl rfl
      exact ow_call 22 [.tmp 9, .tmp 11] _ rfl en22 [.agg (U32 initN), .agg (B8 (maskN (keyN key) 54))] (by rw [← e0, ← e2, ← t0, ← t2]; rfl) (.agg (U32 (absorbN initN (maskN (keyN key) 54))))
        (absorb_any initN _ w' initN_length initN_lt (by rw [maskN_length, keyN_length]) (maskN_lt (keyN_lt HK'.out) (by omega))) (fun _ _ => rfl)
    · obtain rfl := Option.some.inj hi
      have t1 := hout 1 (by kernel_rfl)
      exact ow_move (.tmp 1) rfl t1
    · obtain rfl := Option.some.inj hi
      have e3 : v 3 = .agg (U32 (absorbN initN (maskN (keyN key) 54))) := hv 3 (by kernel_rfl)
      have e4 : v 4 = .slice A l.length c := hv 4 (by kernel_rfl)
      have t3 := ht 3 _ 12 (by kernel_rfl) rfl rfl
      have t4 := ht 4 _ 13 (by kernel_rfl) rfl rfl
      exact ow_call 17 [.tmp 12, .const (.int .u64 64), .tmp 13] _ rfl en17 [.agg (U32 (absorbN initN (maskN (keyN key) 54))), .int .u64 64, .slice A l.length c] (by rw [← e3, ← e4, ← t3, ← t4]; rfl) (.agg (B8 (innerN key l)))
        (finish_any _ l 64 A c w' (addS_length _ _) (addS_lt _ _) HL'.out ((HR.out.below (B1.out.trans (hb.mono B1.out.size))).more (Nat.le_trans B1.out.size hb.size)) hc (by omega)) (fun _ _ => rfl)
    · obtain rfl := Option.some.inj hi
      exact ow_alloc 24 rfl _ zero24 ⟨w'.heap.size, rfl, Blk.new _ _ _, hb.size⟩
    · simp at hi
  · intro v W2 hb hv
    have e0 : v 0 = .agg (U32 initN) := hv 0 (by simp)
    have e1 : v 1 = .agg (B8 (keyN key)) := hv 1 (by simp)
    have e2 : v 2 = .agg (B8 (maskN (keyN key) 54)) := hv 2 (by simp)
    have e3 : v 3 = .agg (U32 (absorbN initN (maskN (keyN key) 54))) := hv 3 (by simp)
    have e4 : v 4 = .slice A l.length c := hv 4 (by simp)
    have e5 : v 5 = .agg (B8 (innerN key l)) := hv 5 (by simp)
    obtain ⟨g, e6, h6, hg6⟩ : ∃ g, v 6 = .pointer (some ⟨g, 0, none⟩) ∧ Blk W2 g 24 (B8 (pad 32 [])) ∧ W.heap.size ≤ g := hv 6 (by simp)
    simp only [List.take_succ_cons, List.drop_succ_cons, List.take_zero, List.drop_zero, putsFrom, if_true, Nat.zero_add, Nat.reduceAdd, e0, e1, e2, e3, e4, e5, e6]
    clear hv e0 e1 e2 e3 e4 e5 e6
    have c0' := C0.out.below hb C0.out.lt
    have c1' := C1.out.below hb C1.out.lt
    have b1 := B1.out.trans (hb.mono B1.out.size)
    have n5 : g5 < g := Nat.lt_of_lt_of_le C1.out.lt hg6
    have n0 : w.heap.size < g := Nat.lt_of_lt_of_le C0.out.lt hg6
    replace B1 := Lib.hid b1; replace C0 := Lib.hid c0'; replace C1 := Lib.hid c1'; have C6 := Lib.hid h6
    clear b1 c0' c1' h6 hb hg6 v
    clear W
    simp only [Act.put, List.setIfInBounds_toArray, List.set_cons_succ, List.set_cons_zero]
    go_upto_region 3 with (refine wpList_store_blk rfl 24 (.tmp 6) (.tmp 14) rfl g (B8 (innerN key l)) rfl rfl 24 _ 32 C6.out info24 (by rw [B8_size, innerN_length]) (by rw [B8_size, pad_nil_length]) (B8_one _) ?_)
    have c0' := C0.out.rowFar (g' := g) (by omega) (B8 (innerN key l))
    have c1' := C1.out.rowFar (g' := g) (by omega) (B8 (innerN key l))
    have c6' := C6.out.row (B8 (innerN key l))
    have b1 := below_setRow B1.out (g := g) (by omega) (B8 (innerN key l))
    generalize W2.setRow g (B8 (innerN key l)) = W3 at *
    replace B1 := Lib.hid b1; replace C0 := Lib.hid c0'; replace C1 := Lib.hid c1'; replace C6 := Lib.hid c6'
    clear b1 c0' c1' c6' W2
    refine region_rel_lit 6 (V2 key l g) (by kernel_rfl) (by kernel_rfl) rfl (V2_keep key l g) ?_ ?_
    · intro i o hi a v w' hb hv ht hout
      rcases i with _ | _ | _ | _ | _ | _ | i
      · obtain rfl := Option.some.inj hi
        exact ow_call 18 [] _ rfl en18 [] rfl (.agg (U32 initN)) (initial_any w') (fun _ _ => rfl)
      · obtain rfl := Option.some.inj hi
        exact ow_load 42 (.tmp 5) rfl g5 (hout 5 (by kernel_rfl)) 42 (B8 (keyN key)) _ 64 (C1.out.below hb C1.out.lt) Try.underlying42 rfl info42 (by rw [B8_size, keyN_length]) rfl
      · obtain rfl := Option.some.inj hi
        have e1 : v 1 = .agg (B8 (keyN key)) := hv 1 (by kernel_rfl)
        have t1 := ht 1 _ 16 (by kernel_rfl) rfl rfl
        exact ow_call 23 [.tmp 16, .const (.int .u8 92)] _ rfl en23 [.agg (B8 (keyN key)), .int .u8 92] (by rw [← e1, ← t1]; rfl) (.agg (B8 (maskN (keyN key) 92)))
          (masked_any (keyN key) 92 w' (keyN_length key) (keyN_lt HK'.out) (by omega)) (fun _ _ => rfl)
      · obtain rfl := Option.some.inj hi
        have e0 : v 0 = .agg (U32 initN) := hv 0 (by kernel_rfl)
        have e2 : v 2 = .agg (B8 (maskN (keyN key) 92)) := hv 2 (by kernel_rfl)
        have t0 := ht 0 _ 15 (by kernel_rfl) rfl rfl
        have t2 := ht 2 _ 17 (by kernel_rfl) rfl rfl
        exact ow_call 22 [.tmp 15, .tmp 17] _ rfl en22 [.agg (U32 initN), .agg (B8 (maskN (keyN key) 92))] (by rw [← e0, ← e2, ← t0, ← t2]; rfl) (.agg (U32 (absorbN initN (maskN (keyN key) 92))))
          (absorb_any initN _ w' initN_length initN_lt (by rw [maskN_length, keyN_length]) (maskN_lt (keyN_lt HK'.out) (by omega))) (fun _ _ => rfl)
      · obtain rfl := Option.some.inj hi
        have t1 : a.eval (.tmp 6) = .pointer (some ⟨g, 0, none⟩) := hout 6 (by kernel_rfl)
        exact ow_value (.slice (some ⟨g, 0, none⟩) 32 32) w' (by
          unfold execOp
          simp only [t1, Sem.run_bind, Option.map_none, run_slice24, Result.andThen_ok, Sem.run_pure]) (Below.refl _ _) rfl
      · obtain rfl := Option.some.inj hi
        have e3 : v 3 = .agg (U32 (absorbN initN (maskN (keyN key) 92))) := hv 3 (by kernel_rfl)
        have e4 : v 4 = .slice (some ⟨g, 0, none⟩) 32 32 := hv 4 (by kernel_rfl)
        have t3 := ht 3 _ 18 (by kernel_rfl) rfl rfl
        have t4 := ht 4 _ 19 (by kernel_rfl) rfl rfl
        have hfin := finish_any (absorbN initN (maskN (keyN key) 92)) (innerN key l) 64 (some ⟨g, 0, none⟩) 32 w' (addS_length _ _) (addS_lt _ _) (innerN_lt key l) (rd_blk2 (C6.out.below hb C6.out.lt) (Nat.lt_of_lt_of_le C6.out.lt hb.size)) (by rw [innerN_length]; exact Nat.le_refl _) (by rw [innerN_length]; omega)
        rw [innerN_length] at hfin
        exact ow_call 17 [.tmp 18, .const (.int .u64 64), .tmp 19] _ rfl en17 [.agg (U32 (absorbN initN (maskN (keyN key) 92))), .int .u64 64, .slice (some ⟨g, 0, none⟩) 32 32] (by rw [← e3, ← e4, ← t3, ← t4]; rfl) (.agg (B8 (macN key l)))
          hfin (fun _ _ => rfl)
      · simp at hi
    · intro v W2 hb hv
      have e0 : v 0 = .agg (U32 initN) := hv 0 (by simp)
      have e1 : v 1 = .agg (B8 (keyN key)) := hv 1 (by simp)
      have e2 : v 2 = .agg (B8 (maskN (keyN key) 92)) := hv 2 (by simp)
      have e3 : v 3 = .agg (U32 (absorbN initN (maskN (keyN key) 92))) := hv 3 (by simp)
      have e4 : v 4 = .slice (some ⟨g, 0, none⟩) 32 32 := hv 4 (by simp)
      have e5 : v 5 = .agg (B8 (macN key l)) := hv 5 (by simp)
      simp only [List.take_succ_cons, List.drop_succ_cons, List.take_zero, List.drop_zero, putsFrom, if_true, Nat.zero_add, Nat.reduceAdd, e0, e1, e2, e3, e4, e5]
      clear hv e0 e1 e2 e3 e4 e5
      have c0' := C0.out.below hb C0.out.lt
      have b1 := B1.out.trans (hb.mono B1.out.size)
      replace B1 := Lib.hid b1; replace C0 := Lib.hid c0'
      clear b1 c0' hb v C1 C6
      simp only [Act.put, List.setIfInBounds_toArray, List.set_cons_succ, List.set_cons_zero]
      have hml : (macN key l).length = 32 := finishN_length _ _ _
      have HML := Lib.hid hml
      clear hml
      go_wp2_with (refine wpList_store_blk rfl 24 (.tmp 4) (.tmp 20) rfl w.heap.size (B8 (macN key l)) rfl rfl 24 _ 32 C0.out info24 (by rw [B8_size, HML.out]) (by rw [B8_size, pad_nil_length]) (B8_one _) ?_)
      exact bodyPost_ret (results_cell_row (P := Try.prog) (fn := Try.f14) rfl _ _ w.heap.size 24 (B8 (macN key l)) (0, 0) _ rfl (C0.out.row _) Try.underlying24 rfl (by rw [B8_size, HML.out]; exact info24)) rfl ⟨rfl, below_setRow B1.out (Nat.le_refl _) _⟩
end Go.Proofs.Ytiigbhpnlpbnjaa
