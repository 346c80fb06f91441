import Derived.Test.YtiigbhpnlpbnjaaWg
import Derived.Test.YtiigbhpnlpbnjaaAp
import Derived.Test.YtiigbhpnlpbnjaaLa
namespace Go.Proofs.Ytiigbhpnlpbnjaa
open Go.RowKit

theorem en12 : enters Try.prog 12 = true := by kernel_rfl
theorem en14 : enters Try.prog 14 = true := by kernel_rfl
theorem en16' : enters Try.prog 16 = true := by kernel_rfl
/-- Values that are known, or (none) an empty slice. -/
def VL (vals : List (Option Value)) (i : Nat) (x : Value) (_ : World) : Prop :=
  match vals[i]? with
  | some (some y) => x = y
  | some none => ∃ g, x = .slice (some ⟨g, 0, none⟩) 0 0
  | none => True
theorem VL_keep (vals : List (Option Value)) (i : Nat) (x : Value) (w w' : World) (h : VL vals i x w) (_ : Below w.heap.size w w') : VL vals i x w' := h
theorem emp0 : at0 (sumN []) 0 = 227 := by rw [empsum]; rfl
theorem emp31 : at0 (sumN []) 31 = 85 := by rw [empsum]; rfl

section
variable {Q : Exit → Act → World → Prop} {o : Oper} {a : Act} {w : World} {V : Value → World → Prop}
theorem ow_pick {P : Program} (c x y : Operand) (ho : o.op = .pick c x y) (b : Bool) (hc : a.eval c = .bool b) (hx : V (if b then a.eval x else a.eval y) w) :
    o.wp P a w (fun a' w' => ∃ x, a' = a.put o.dst x ∧ Below w.heap.size w w' ∧ V x w') Q :=
  ow_value _ w (by unfold execOp; simp only [ho, hc, asBool, Sem.run_bind, Sem.run_pure, Result.andThen_ok]) (Below.refl _ _) hx
theorem ow_eql24 (x y : Operand) (t : TypeId) (ho : o.op = .binOp .eql 24 x y t) (l m : List Nat) (hx : a.eval x = .agg (B8 l)) (hy : a.eval y = .agg (B8 m)) (hl : l.length = 32) (hm : m.length = 32) (hv : V (.bool (decide (l = m))) w) :
    o.wp Try.prog a w (fun a' w' => ∃ x, a' = a.put o.dst x ∧ Below w.heap.size w w' ∧ V x w') Q :=
  ow_value _ w (by
    have E := eq24 l m hl hm w
    unfold execOp
    simp only [ho, hx, hy]
    go_simp) (Below.refl _ _) hv
theorem ow_eql5 (x y : Operand) (t : TypeId) (ho : o.op = .binOp .eql 5 x y t) (n m : Int) (hx : a.eval x = .int .u8 n) (hy : a.eval y = .int .u8 m) (hv : V (.bool (n == m)) w) :
    o.wp Try.prog a w (fun a' w' => ∃ x, a' = a.put o.dst x ∧ Below w.heap.size w w' ∧ V x w') Q :=
  ow_value _ w (by
    unfold execOp
    simp only [ho, hx, hy]
    go_simp) (Below.refl _ _) hv
theorem ow_idx24 (x : Operand) (k : Nat) (hk : k < 32) (ho : o.op = .indexAddr 24 x (.const (.int .i64 k))) (g : Nat) (hx : a.eval x = .pointer (some ⟨g, 0, none⟩)) (hv : V (.pointer (some ⟨g, k, none⟩)) w) :
    o.wp Try.prog a w (fun a' w' => ∃ x, a' = a.put o.dst x ∧ Below w.heap.size w w' ∧ V x w') Q :=
  ow_value _ w (by
    have h1 : (k : Int) < 32 := by omega
    have hc : a.eval (.const (.int .i64 (k : Int))) = .int .i64 (k : Int) := rfl
    unfold execOp
    simp only [ho, hx, hc]
    go_simp) (Below.refl _ _) hv
theorem ow_load5 (x : Operand) (ho : o.op = .load 5 x) (p : Addr) (hx : a.eval x = .pointer (some p)) (n : Int) (hc : w.cell? p = some (.int .u8 n)) (hv : V (.int .u8 n) w) :
    o.wp Try.prog a w (fun a' w' => ∃ x, a' = a.put o.dst x ∧ Below w.heap.size w w' ∧ V x w') Q :=
  ow_value _ w (by
    unfold execOp
    simp only [ho, hx]
    go_simp) (Below.refl _ _) hv
theorem ow_bs0 (ho : o.op = .buildSlice 22 0 #[]) (hv : V (.slice (some ⟨w.heap.size, 0, none⟩) 0 0) (w.alloc (.cells #[] 5))) :
    o.wp Try.prog a w (fun a' w' => ∃ x, a' = a.put o.dst x ∧ Below w.heap.size w w' ∧ V x w') Q :=
  ow_value _ _ (by
    unfold execOp
    simp only [ho]
    go_simp) ((Below.refl _ _).alloc (Nat.le_refl _) _) hv
end
theorem args2 {a : Act} {x y : Operand} {u v : Value} (h1 : a.eval x = u) (h2 : a.eval y = v) : [x, y].map a.eval = [u, v] := by rw [List.map_cons, List.map_cons, h1, h2]; rfl
theorem macN_length (k l : List Nat) : (macN k l).length = 32 := finishN_length _ _ _
theorem macN_lt (k l : List Nat) : W8 (macN k l) := finishN_lt _ _ _
theorem Rd.nil (w : World) (B : Nat) (A : Option Addr) : Rd w B A [] := fun h => absurd h (by simp)

def emptyVals (M S : List Nat) (g6 : Nat) : List (Option Value) :=
  [some (.bool true), some (.bool true), some (.agg (B8 M)), some (.agg (B8 M)), some (.bool true), some (.bool true), some (.bool true), some (.agg (B8 S)), none, some (.agg (B8 S)), some (.bool true), some (.bool true), some (.bool true),
   some (.pointer (some ⟨g6, 0, none⟩)), some (.int .u8 227), some (.bool true), some (.bool true), some (.bool true), some (.pointer (some ⟨g6, 31, none⟩)), some (.int .u8 85), some (.bool true), some (.bool true), some (.bool true),
   some (.agg (B8 M)), some (.agg (B8 M)), some (.bool true), some (.bool true)]

set_option maxRecDepth 100000 in
set_option maxHeartbeats 1000000 in
theorem hashEmpty_walk (key : List Nat) (A0 : Option Addr) (c0 : Nat) (w : World) (hk' : W8 key) (hrk : Rd w w.heap.size A0 key) (hc0 : key.length ≤ c0) :
    Calls Try.prog 9 #[.slice A0 key.length c0] w fun e w' => e = .returned (.bool true) ∧ Below w.heap.size w w' := by
  have HK' := Lib.hid hk'; have HRK := Lib.hid hrk
  clear hk' hrk
  go_enter Try.func9, Try.ntmps9
  go_wp2_with fail
  refine (awake_any _).mono ?_
  rintro e w1 ⟨rfl, hb1⟩
  have B1 := Lib.hid hb1
  clear hb1
  by_cases h1 : 500 < key.length
  · have h1' : (500 : Int) < key.length := by omega
    go_wp2
    go_ret
    exact ⟨rfl, B1.out⟩
  have h1' : (key.length : Int) ≤ 500 := by omega
  obtain ⟨M, hM⟩ : ∃ M, M = macN key [] := ⟨_, rfl⟩
  have hMl : M.length = 32 := by rw [hM]; exact macN_length _ _
  have hM8 : W8 M := by rw [hM]; exact macN_lt _ _
  obtain ⟨S, hS⟩ : ∃ S, S = sumN [] := ⟨_, rfl⟩
  have hSl : S.length = 32 := by rw [hS]; exact finishN_length _ _ _
  have s0 : at0 S 0 = 227 := by rw [hS, emp0]
  have s31 : at0 S 31 = 85 := by rw [hS, emp31]
  have HM := Lib.hid hM; have HML := Lib.hid hMl; have HM8 := Lib.hid hM8; have HS := Lib.hid hS; have HSL := Lib.hid hSl; have S0 := Lib.hid s0; have S31 := Lib.hid s31
  clear hM hMl hM8 hS hSl s0 s31
  go_wp2_with fail
  refine (mac_any key [] A0 none c0 0 w1 HK'.out (fun _ h => (by cases h)) ((HRK.out.below B1.out).more B1.out.size) (Rd.nil _ _ _) hc0 (Nat.le_refl _) (by omega) (by simp)).mono ?_
  rw [← HM.out]
  rintro e w2 ⟨rfl, hb2⟩
  have b2 := B1.out.trans (hb2.mono B1.out.size)
  have B2 := Lib.hid b2
  clear hb2 b2 B1
  go_upto_region 5 with (refine wpList_store_new rfl 24 (.tmp 4) (.tmp 13) rfl (B8 M) rfl rfl 24 _ (by rw [B8_size, HML.out]; exact info24) (by rw [B8_size, HML.out]; rfl) (B8_one _) ?_)
  have c4 := Blk.new w2 24 (B8 M)
  have b3 := B2.out.alloc B2.out.size (Obj.cells (B8 M) 24)
  generalize w2.alloc (Obj.cells (B8 M) 24) = W at *
  generalize w2.heap.size = g4 at *
  have C4 := Lib.hid c4; replace B2 := Lib.hid b3
  clear c4 b3
  go_wp2_with fail
  have b4 := B2.out.alloc B2.out.size (Obj.cells #[] 5)
  have b4' : Below W.heap.size W (W.alloc (Obj.cells #[] 5)) := (Below.refl _ _).alloc (Nat.le_refl _) _
  refine (mac_any key [] A0 (some ⟨W.heap.size, 0, none⟩) c0 0 (W.alloc (Obj.cells #[] 5)) HK'.out (fun _ h => (by cases h)) ((HRK.out.below b4).more b4.size) (Rd.nil _ _ _) hc0 (Nat.le_refl _) (by omega) (by simp)).mono ?_
  rw [← HM.out]
  rintro e w3 ⟨rfl, hb3⟩
  have c4 := (C4.out.below b4' C4.out.lt).below hb3 (Nat.lt_of_lt_of_le C4.out.lt b4'.size)
  have b3 := b4.trans (hb3.mono b4.size)
  replace C4 := Lib.hid c4; replace B2 := Lib.hid b3
  clear c4 b3 b4 b4' hb3
  go_upto_region 6 with (refine wpList_store_new rfl 24 (.tmp 5) (.tmp 16) rfl (B8 M) rfl rfl 24 _ (by rw [B8_size, HML.out]; exact info24) (by rw [B8_size, HML.out]; rfl) (B8_one _) ?_)
  have c4 := C4.out.alloc (Obj.cells (B8 M) 24)
  have c5 := Blk.new w3 24 (B8 M)
  have b3 := B2.out.alloc B2.out.size (Obj.cells (B8 M) 24)
  generalize w3.alloc (Obj.cells (B8 M) 24) = W3 at *
  generalize w3.heap.size = g5 at *
  replace C4 := Lib.hid c4; have C5 := Lib.hid c5; replace B2 := Lib.hid b3
  clear c4 c5 b3
  go_wp2_with fail
  refine (sum_any [] none 0 W3 (fun _ h => (by cases h)) (Rd.nil _ _ _) (Nat.le_refl _) (by simp)).mono ?_
  rw [← HS.out]
  rintro e w4 ⟨rfl, hb4⟩
  have c4 := C4.out.below hb4 C4.out.lt
  have c5 := C5.out.below hb4 C5.out.lt
  have b3 := B2.out.trans (hb4.mono B2.out.size)
  replace C4 := Lib.hid c4; replace C5 := Lib.hid c5; replace B2 := Lib.hid b3
  clear c4 c5 b3 hb4
  go_upto_region 7 with (refine wpList_store_new rfl 24 (.tmp 6) (.tmp 17) rfl (B8 S) rfl rfl 24 _ (by rw [B8_size, HSL.out]; exact info24) (by rw [B8_size, HSL.out]; rfl) (B8_one _) ?_)
  have c4 := C4.out.alloc (Obj.cells (B8 S) 24)
  have c5 := C5.out.alloc (Obj.cells (B8 S) 24)
  have c6 := Blk.new w4 24 (B8 S)
  have b3 := B2.out.alloc B2.out.size (Obj.cells (B8 S) 24)
  generalize w4.alloc (Obj.cells (B8 S) 24) = W4 at *
  generalize w4.heap.size = g6 at *
  replace C4 := Lib.hid c4; replace C5 := Lib.hid c5; have C6 := Lib.hid c6; replace B2 := Lib.hid b3
  clear c4 c5 c6 b3
  refine region_relG 27 (VL (emptyVals M S g6)) (by kernel_rfl) (by kernel_rfl) rfl (VL_keep _) ?_ ?_
  · intro i o hi a v w' hb hv ht hout
    rcases i with _ | _ | _ | _ | _ | _ | _ | _ | _ | _ | _ | _ | _ | _ | _ | _ | _ | _ | _ | _ | _ | _ | _ | _ | _ | _ | _ | i
    · obtain rfl := Option.some.inj hi
      have t := hout 3 (by kernel_rfl)
      exact ⟨rfl, ow_move (.tmp 3) rfl t⟩
    · obtain rfl := Option.some.inj hi
      have e : v 0 = .bool true := hv 0 (by kernel_rfl)
      have t := ht 0 _ 18 (by kernel_rfl) rfl rfl
      exact ⟨rfl, ow_move (.tmp 18) rfl (t.trans e)⟩
    · obtain rfl := Option.some.inj hi
      have e : v 1 = .bool true := hv 1 (by kernel_rfl)
      have t := ht 1 _ 19 (by kernel_rfl) rfl rfl
      exact ⟨wanted_some rfl rfl rfl (t.trans e), ow_load 24 (.tmp 4) rfl g4 (hout 4 (by kernel_rfl)) 24 (B8 M) _ 32 (C4.out.below hb C4.out.lt) Try.underlying24 rfl info24 (by rw [B8_size, HML.out]) rfl⟩
    · obtain rfl := Option.some.inj hi
      have e1 : v 1 = .bool true := hv 1 (by kernel_rfl)
      have t1 := ht 1 _ 19 (by kernel_rfl) rfl rfl
      exact ⟨wanted_some rfl rfl rfl (t1.trans e1), ow_load 24 (.tmp 5) rfl g5 (hout 5 (by kernel_rfl)) 24 (B8 M) _ 32 (C5.out.below hb C5.out.lt) Try.underlying24 rfl info24 (by rw [B8_size, HML.out]) rfl⟩
    · obtain rfl := Option.some.inj hi
      have e1 : v 1 = .bool true := hv 1 (by kernel_rfl)
      have t1 := ht 1 _ 19 (by kernel_rfl) rfl rfl
      have e2 : v 2 = .agg (B8 M) := hv 2 (by kernel_rfl)
      have t2 := ht 2 _ 20 (by kernel_rfl) rfl rfl
      have e3 : v 3 = .agg (B8 M) := hv 3 (by kernel_rfl)
      have t3 := ht 3 _ 21 (by kernel_rfl) rfl rfl
      exact ⟨wanted_some rfl rfl rfl (t1.trans e1), ow_eql24 (.tmp 20) (.tmp 21) _ rfl M M (t2.trans e2) (t3.trans e3) HML.out HML.out (by show Value.bool (decide (M = M)) = _; simp)⟩
    · obtain rfl := Option.some.inj hi
      have e1 : v 1 = .bool true := hv 1 (by kernel_rfl)
      have t1 := ht 1 _ 19 (by kernel_rfl) rfl rfl
      have e4 : v 4 = .bool true := hv 4 (by kernel_rfl)
      have t4 := ht 4 _ 22 (by kernel_rfl) rfl rfl
      exact ⟨rfl, ow_pick (.tmp 19) (.tmp 22) _ rfl true (t1.trans e1) (t4.trans e4)⟩
    · obtain rfl := Option.some.inj hi
      have e5 : v 5 = .bool true := hv 5 (by kernel_rfl)
      have t5 := ht 5 _ 23 (by kernel_rfl) rfl rfl
      exact ⟨rfl, ow_move (.tmp 23) rfl (t5.trans e5)⟩
    · obtain rfl := Option.some.inj hi
      have e6 : v 6 = .bool true := hv 6 (by kernel_rfl)
      have t6 := ht 6 _ 24 (by kernel_rfl) rfl rfl
      exact ⟨wanted_some rfl rfl rfl (t6.trans e6), ow_load 24 (.tmp 6) rfl g6 (hout 6 (by kernel_rfl)) 24 (B8 S) _ 32 (C6.out.below hb C6.out.lt) Try.underlying24 rfl info24 (by rw [B8_size, HSL.out]) rfl⟩
    · obtain rfl := Option.some.inj hi
      have e6 : v 6 = .bool true := hv 6 (by kernel_rfl)
      have t6 := ht 6 _ 24 (by kernel_rfl) rfl rfl
      exact ⟨wanted_some rfl rfl rfl (t6.trans e6), ow_bs0 rfl ⟨w'.heap.size, rfl⟩⟩
    · obtain rfl := Option.some.inj hi
      have e6 : v 6 = .bool true := hv 6 (by kernel_rfl)
      have t6 := ht 6 _ 24 (by kernel_rfl) rfl rfl
      obtain ⟨g, e8⟩ : ∃ g, v 8 = .slice (some ⟨g, 0, none⟩) 0 0 := hv 8 (by kernel_rfl)
      have t8 := ht 8 _ 26 (by kernel_rfl) rfl rfl
      have hsum := sum_any [] (some ⟨g, 0, none⟩) 0 w' (fun _ h => (by cases h)) (Rd.nil _ _ _) (Nat.le_refl _) (by simp)
      rw [← HS.out] at hsum
      exact ⟨wanted_some rfl rfl rfl (t6.trans e6), ow_call 12 [.tmp 26] _ rfl en12 [.slice (some ⟨g, 0, none⟩) 0 0] (by rw [← e8, ← t8]; rfl) (.agg (B8 S)) hsum (fun _ _ => rfl)⟩
    · obtain rfl := Option.some.inj hi
      have e6 : v 6 = .bool true := hv 6 (by kernel_rfl)
      have t6 := ht 6 _ 24 (by kernel_rfl) rfl rfl
      have e7 : v 7 = .agg (B8 S) := hv 7 (by kernel_rfl)
      have t7 := ht 7 _ 25 (by kernel_rfl) rfl rfl
      have e9 : v 9 = .agg (B8 S) := hv 9 (by kernel_rfl)
      have t9 := ht 9 _ 27 (by kernel_rfl) rfl rfl
      exact ⟨wanted_some rfl rfl rfl (t6.trans e6), ow_eql24 (.tmp 25) (.tmp 27) _ rfl S S (t7.trans e7) (t9.trans e9) HSL.out HSL.out (by show Value.bool (decide (S = S)) = _; simp)⟩
    · obtain rfl := Option.some.inj hi
      have e6 : v 6 = .bool true := hv 6 (by kernel_rfl)
      have t6 := ht 6 _ 24 (by kernel_rfl) rfl rfl
      have e10 : v 10 = .bool true := hv 10 (by kernel_rfl)
      have t10 := ht 10 _ 28 (by kernel_rfl) rfl rfl
      exact ⟨rfl, ow_pick (.tmp 24) (.tmp 28) _ rfl true (t6.trans e6) (t10.trans e10)⟩
    · obtain rfl := Option.some.inj hi
      have e11 : v 11 = .bool true := hv 11 (by kernel_rfl)
      have t11 := ht 11 _ 29 (by kernel_rfl) rfl rfl
      exact ⟨rfl, ow_move (.tmp 29) rfl (t11.trans e11)⟩
    · obtain rfl := Option.some.inj hi
      have e12 : v 12 = .bool true := hv 12 (by kernel_rfl)
      have t12 := ht 12 _ 30 (by kernel_rfl) rfl rfl
      exact ⟨wanted_some rfl rfl rfl (t12.trans e12), ow_idx24 (.tmp 6) 0 (by omega) rfl g6 (hout 6 (by kernel_rfl)) rfl⟩
    · obtain rfl := Option.some.inj hi
      have e12 : v 12 = .bool true := hv 12 (by kernel_rfl)
      have t12 := ht 12 _ 30 (by kernel_rfl) rfl rfl
      have e13 : v 13 = .pointer (some ⟨g6, 0, none⟩) := hv 13 (by kernel_rfl)
      have t13 := ht 13 _ 31 (by kernel_rfl) rfl rfl
      exact ⟨wanted_some rfl rfl rfl (t12.trans e12), ow_load5 (.tmp 31) rfl ⟨g6, 0, none⟩ (t13.trans e13) 227 (by rw [(C6.out.below hb C6.out.lt).cell, B8_get (by rw [HSL.out]; omega), S0.out]; rfl) rfl⟩
    · obtain rfl := Option.some.inj hi
      have e12 : v 12 = .bool true := hv 12 (by kernel_rfl)
      have t12 := ht 12 _ 30 (by kernel_rfl) rfl rfl
      have e14 : v 14 = .int .u8 227 := hv 14 (by kernel_rfl)
      have t14 := ht 14 _ 32 (by kernel_rfl) rfl rfl
      exact ⟨wanted_some rfl rfl rfl (t12.trans e12), ow_eql5 (.tmp 32) (.const (.int .u8 227)) _ rfl 227 227 (t14.trans e14) rfl rfl⟩
    · obtain rfl := Option.some.inj hi
      have e12 : v 12 = .bool true := hv 12 (by kernel_rfl)
      have t12 := ht 12 _ 30 (by kernel_rfl) rfl rfl
      have e15 : v 15 = .bool true := hv 15 (by kernel_rfl)
      have t15 := ht 15 _ 33 (by kernel_rfl) rfl rfl
      exact ⟨rfl, ow_pick (.tmp 30) (.tmp 33) _ rfl true (t12.trans e12) (t15.trans e15)⟩
    · obtain rfl := Option.some.inj hi
      have e16 : v 16 = .bool true := hv 16 (by kernel_rfl)
      have t16 := ht 16 _ 34 (by kernel_rfl) rfl rfl
      exact ⟨rfl, ow_move (.tmp 34) rfl (t16.trans e16)⟩
    · obtain rfl := Option.some.inj hi
      have e17 : v 17 = .bool true := hv 17 (by kernel_rfl)
      have t17 := ht 17 _ 35 (by kernel_rfl) rfl rfl
      exact ⟨wanted_some rfl rfl rfl (t17.trans e17), ow_idx24 (.tmp 6) 31 (by omega) rfl g6 (hout 6 (by kernel_rfl)) rfl⟩
    · obtain rfl := Option.some.inj hi
      have e17 : v 17 = .bool true := hv 17 (by kernel_rfl)
      have t17 := ht 17 _ 35 (by kernel_rfl) rfl rfl
      have e18 : v 18 = .pointer (some ⟨g6, 31, none⟩) := hv 18 (by kernel_rfl)
      have t18 := ht 18 _ 36 (by kernel_rfl) rfl rfl
      exact ⟨wanted_some rfl rfl rfl (t17.trans e17), ow_load5 (.tmp 36) rfl ⟨g6, 31, none⟩ (t18.trans e18) 85 (by rw [(C6.out.below hb C6.out.lt).cell, B8_get (by rw [HSL.out]; omega), S31.out]; rfl) rfl⟩
    · obtain rfl := Option.some.inj hi
      have e17 : v 17 = .bool true := hv 17 (by kernel_rfl)
      have t17 := ht 17 _ 35 (by kernel_rfl) rfl rfl
      have e19 : v 19 = .int .u8 85 := hv 19 (by kernel_rfl)
      have t19 := ht 19 _ 37 (by kernel_rfl) rfl rfl
      exact ⟨wanted_some rfl rfl rfl (t17.trans e17), ow_eql5 (.tmp 37) (.const (.int .u8 85)) _ rfl 85 85 (t19.trans e19) rfl rfl⟩
    · obtain rfl := Option.some.inj hi
      have e17 : v 17 = .bool true := hv 17 (by kernel_rfl)
      have t17 := ht 17 _ 35 (by kernel_rfl) rfl rfl
      have e20 : v 20 = .bool true := hv 20 (by kernel_rfl)
      have t20 := ht 20 _ 38 (by kernel_rfl) rfl rfl
      exact ⟨rfl, ow_pick (.tmp 35) (.tmp 38) _ rfl true (t17.trans e17) (t20.trans e20)⟩
    · obtain rfl := Option.some.inj hi
      have e21 : v 21 = .bool true := hv 21 (by kernel_rfl)
      have t21 := ht 21 _ 39 (by kernel_rfl) rfl rfl
      exact ⟨rfl, ow_move (.tmp 39) rfl (t21.trans e21)⟩
    · obtain rfl := Option.some.inj hi
      have e22 : v 22 = .bool true := hv 22 (by kernel_rfl)
      have t22 := ht 22 _ 40 (by kernel_rfl) rfl rfl
      exact ⟨wanted_some rfl rfl rfl (t22.trans e22), ow_load 24 (.tmp 4) rfl g4 (hout 4 (by kernel_rfl)) 24 (B8 M) _ 32 (C4.out.below hb C4.out.lt) Try.underlying24 rfl info24 (by rw [B8_size, HML.out]) rfl⟩
    · obtain rfl := Option.some.inj hi
      have e22 : v 22 = .bool true := hv 22 (by kernel_rfl)
      have t22 := ht 22 _ 40 (by kernel_rfl) rfl rfl
      exact ⟨wanted_some rfl rfl rfl (t22.trans e22), ow_load 24 (.tmp 5) rfl g5 (hout 5 (by kernel_rfl)) 24 (B8 M) _ 32 (C5.out.below hb C5.out.lt) Try.underlying24 rfl info24 (by rw [B8_size, HML.out]) rfl⟩
    · obtain rfl := Option.some.inj hi
      have e22 : v 22 = .bool true := hv 22 (by kernel_rfl)
      have t22 := ht 22 _ 40 (by kernel_rfl) rfl rfl
      have e23 : v 23 = .agg (B8 M) := hv 23 (by kernel_rfl)
      have t23 := ht 23 _ 41 (by kernel_rfl) rfl rfl
      have e24 : v 24 = .agg (B8 M) := hv 24 (by kernel_rfl)
      have t24 := ht 24 _ 42 (by kernel_rfl) rfl rfl
      have hsame := same_any M M w' HML.out HML.out HM8.out HM8.out
      simp only [decide_true] at hsame
      exact ⟨wanted_some rfl rfl rfl (t22.trans e22), ow_call 16 [.tmp 41, .tmp 42] _ rfl en16' [.agg (B8 M), .agg (B8 M)] (args2 (t23.trans e23) (t24.trans e24)) (.bool true) hsame (fun _ _ => rfl)⟩
    · obtain rfl := Option.some.inj hi
      have e22 : v 22 = .bool true := hv 22 (by kernel_rfl)
      have t22 := ht 22 _ 40 (by kernel_rfl) rfl rfl
      have e25 : v 25 = .bool true := hv 25 (by kernel_rfl)
      have t25 := ht 25 _ 43 (by kernel_rfl) rfl rfl
      exact ⟨rfl, ow_pick (.tmp 40) (.tmp 43) _ rfl true (t22.trans e22) (t25.trans e25)⟩
    · simp at hi
  · intro v W5 hb hv
    have e26 : v 26 = .bool true := hv 26 (by simp)
    clear hv
    have b3 := B2.out.trans (hb.mono B2.out.size)
    replace B2 := Lib.hid b3
    clear b3 hb
    simp only [List.take_succ_cons, List.drop_succ_cons, List.take_zero, List.drop_zero, putsFrom, if_true, Nat.zero_add, Nat.reduceAdd, e26]
    clear e26
    simp only [Act.put, List.setIfInBounds_toArray, List.set_cons_succ, List.set_cons_zero]
    go_wp2
    go_ret
    exact ⟨rfl, B2.out⟩
end Go.Proofs.Ytiigbhpnlpbnjaa
