import Derived.Test.YtiigbhpnlpbnjaaLd
import Derived.Test.YtiigbhpnlpbnjaaAq
namespace Go.Proofs.Ytiigbhpnlpbnjaa
open Go.RowKit

theorem key64_short {k : List Nat} (h : k.length ≤ 64) : key64 k = k := by unfold key64; rw [if_neg (by omega)]
theorem mac_of_key {k k' : List Nat} (h : keyN k = keyN k') (l : List Nat) : macN k l = macN k' l := by unfold macN; rw [h]
theorem keyN_sum {k : List Nat} (h : 64 < k.length) : keyN k = keyN (sumN k) := by
  rw [keyN_eq, keyN_eq, key64_short (k := sumN k) (by rw [sumN_length]; omega), key64, if_pos (by omega)]
theorem keyN_zeros {k : List Nat} {r : Nat} (h : k.length + r ≤ 64) : keyN k = keyN (k ++ List.replicate r 0) := by
  rw [keyN_eq, keyN_eq, key64_short (by omega), key64_short (by simp; omega)]
  unfold pad
  rw [List.append_assoc, List.replicate_append_replicate]
  congr 2
  simp
  omega

def keysVals (T : List Nat) (A0 A : Option Addr) (n0 n c0 c g : Nat) : List (Option Value) :=
  [some (.bool true), some (.bool true), some (.slice A0 n0 c0), some (.slice A n c), some (.agg (B8 T)), some (.slice (some ⟨g, 0, none⟩) 32 32), some (.slice A n c), some (.agg (B8 T)), some (.bool true), some (.bool true)]

def V7 (B : Nat) (key : List Nat) (A0 : Option Addr) (c0 : Nat) (n : Int) (r : Nat) (i : Nat) (x : Value) (w : World) : Prop :=
  match i with
  | 0 => ∃ g, x = .slice (some ⟨g, 0, none⟩) 0 0 ∧ Blk w g 5 #[] ∧ B ≤ g
  | 1 => x = .slice A0 key.length c0
  | 2 => OwnB w B x key
  | 3 => x = .int .i64 n
  | 4 => x = .slice A0 key.length c0
  | 5 => x = .int .i64 key.length
  | 6 => x = .int .i64 (65 - (key.length : Int))
  | 7 => x = .int .i64 r
  | _ => True
theorem V7_keep (B : Nat) (key : List Nat) (A0 : Option Addr) (c0 : Nat) (n : Int) (r : Nat) (i : Nat) (x : Value) (w w' : World) (h : V7 B key A0 c0 n r i x w) (hb : Below w.heap.size w w') : V7 B key A0 c0 n r i x w' := by
  unfold V7 at *
  split <;> simp only at h ⊢ <;> first | exact h | (obtain ⟨g, h1, h2, h3⟩ := h; exact ⟨g, h1, h2.below hb h2.lt, h3⟩) | exact OwnB.below h hb | trivial

set_option maxRecDepth 100000 in
set_option maxHeartbeats 1000000 in
theorem hashKeys_walk (key l : List Nat) (A0 A : Option Addr) (c0 c : Nat) (n : Int) (w : World) (hk' : W8 key) (hrk : Rd w w.heap.size A0 key) (hc0 : key.length ≤ c0) (hl' : W8 l) (hr : Rd w w.heap.size A l) (hc : l.length ≤ c) (hn1 : -9223372036854775808 ≤ n) (hn2 : n ≤ 9223372036854775807) :
    Calls Try.prog 6 #[.slice A0 key.length c0, .slice A l.length c, .int .i64 n] w fun e w' => e = .returned (.bool true) ∧ Below w.heap.size w w' := by
  have HK' := Lib.hid hk'; have HRK := Lib.hid hrk; have HL' := Lib.hid hl'; have HR := Lib.hid hr
  clear hk' hrk hl' hr
  go_enter Try.func6, Try.ntmps6
  go_wp2_with fail
  refine (awake_any _).mono ?_
  rintro e w1 ⟨rfl, hb1⟩
  have B1 := Lib.hid hb1
  clear hb1
  by_cases h1 : 500 < key.length
  · have h1' : (500 : Int) < key.length := by omega
    go_wp2
    go_ret
    exact ⟨rfl, B1.out⟩
  have h1' : (key.length : Int) ≤ 500 := by omega
  by_cases h2 : 1500 < l.length
  · have h2' : (1500 : Int) < l.length := by omega
    go_wp2
    go_ret
    exact ⟨rfl, B1.out⟩
  have h2' : (l.length : Int) ≤ 1500 := by omega
  by_cases h3 : n < 0
  · go_wp2
    go_ret
    exact ⟨rfl, B1.out⟩
  have h3' : 0 ≤ n := by omega
  obtain ⟨T, hT⟩ : ∃ T, T = macN key l := ⟨_, rfl⟩
  have hTl : T.length = 32 := by rw [hT]; exact macN_length _ _
  have HT := Lib.hid hT; have HTL := Lib.hid hTl
  clear hT hTl
  by_cases h4 : 64 < key.length
  · have h4' : (64 : Int) < key.length := by omega
    go_wp2_with fail
    refine (sum_any key A0 c0 w1 HK'.out ((HRK.out.below B1.out).more B1.out.size) hc0 (by omega)).mono ?_
    rintro e w2 ⟨rfl, hb2⟩
    have b2 := B1.out.trans (hb2.mono B1.out.size)
    have B2 := Lib.hid b2
    clear hb2 b2 B1
    go_upto_region 6 with (refine wpList_store_new rfl 24 (.tmp 8) (.tmp 28) rfl (B8 (sumN key)) rfl rfl 24 _ (by rw [B8_size, sumN_length]; exact info24) (by rw [B8_size, sumN_length]; rfl) (B8_one _) ?_)
    have c8 := Blk.new w2 24 (B8 (sumN key))
    have b3 := B2.out.alloc B2.out.size (Obj.cells (B8 (sumN key)) 24)
    generalize w2.alloc (Obj.cells (B8 (sumN key)) 24) = W at *
    generalize w2.heap.size = g at *
    have C8 := Lib.hid c8; replace B2 := Lib.hid b3
    clear c8 b3
    refine region_relG 10 (VL (keysVals T A0 A key.length l.length c0 c g)) (by kernel_rfl) (by kernel_rfl) rfl (VL_keep _) ?_ ?_
    · intro i o hi a v w' hb hv ht hout
      have rdl : Rd w' w'.heap.size A l := (HR.out.below (B2.out.trans (hb.mono B2.out.size))).more (Nat.le_trans B2.out.size hb.size)
      have rdk : Rd w' w'.heap.size A0 key := (HRK.out.below (B2.out.trans (hb.mono B2.out.size))).more (Nat.le_trans B2.out.size hb.size)
      rcases i with _ | _ | _ | _ | _ | _ | _ | _ | _ | _ | i
      · obtain rfl := Option.some.inj hi
        exact ⟨rfl, ow_move (.tmp 7) rfl (hout 7 (by kernel_rfl))⟩
      · obtain rfl := Option.some.inj hi
        have e0 : v 0 = .bool true := hv 0 (by kernel_rfl)
        have t0 := ht 0 _ 29 (by kernel_rfl) rfl rfl
        exact ⟨rfl, ow_move (.tmp 29) rfl (t0.trans e0)⟩
      · obtain rfl := Option.some.inj hi
        have e1 : v 1 = .bool true := hv 1 (by kernel_rfl)
        have t1 := ht 1 _ 30 (by kernel_rfl) rfl rfl
        exact ⟨wanted_some rfl rfl rfl (t1.trans e1), ow_move (.tmp 0) rfl (hout 0 (by kernel_rfl))⟩
      · obtain rfl := Option.some.inj hi
        have e1 : v 1 = .bool true := hv 1 (by kernel_rfl)
        have t1 := ht 1 _ 30 (by kernel_rfl) rfl rfl
        exact ⟨wanted_some rfl rfl rfl (t1.trans e1), ow_move (.tmp 1) rfl (hout 1 (by kernel_rfl))⟩
      · obtain rfl := Option.some.inj hi
        have e1 : v 1 = .bool true := hv 1 (by kernel_rfl)
        have t1 := ht 1 _ 30 (by kernel_rfl) rfl rfl
        have e2 : v 2 = .slice A0 key.length c0 := hv 2 (by kernel_rfl)
        have t2 := ht 2 _ 31 (by kernel_rfl) rfl rfl
        have e3 : v 3 = .slice A l.length c := hv 3 (by kernel_rfl)
        have t3 := ht 3 _ 32 (by kernel_rfl) rfl rfl
        exact ⟨wanted_some rfl rfl rfl (t1.trans e1), ow_call 14 [.tmp 31, .tmp 32] _ rfl en14 [.slice A0 key.length c0, .slice A l.length c] (args2 (t2.trans e2) (t3.trans e3)) (.agg (B8 T))
          (by rw [HT.out]; exact mac_any key l A0 A c0 c w' HK'.out HL'.out rdk rdl hc0 hc (by omega) (by omega)) (fun _ _ => rfl)⟩
      · obtain rfl := Option.some.inj hi
        have e1 : v 1 = .bool true := hv 1 (by kernel_rfl)
        have t1 := ht 1 _ 30 (by kernel_rfl) rfl rfl
        have t8 : a.eval (.tmp 8) = .pointer (some ⟨g, 0, none⟩) := hout 8 (by kernel_rfl)
        exact ⟨wanted_some rfl rfl rfl (t1.trans e1), ow_value (.slice (some ⟨g, 0, none⟩) 32 32) w' (by
          unfold execOp
          simp only [t8, Sem.run_bind, Option.map_none, run_slice24, Result.andThen_ok, Sem.run_pure]) (Below.refl _ _) rfl⟩
      · obtain rfl := Option.some.inj hi
        have e1 : v 1 = .bool true := hv 1 (by kernel_rfl)
        have t1 := ht 1 _ 30 (by kernel_rfl) rfl rfl
        exact ⟨wanted_some rfl rfl rfl (t1.trans e1), ow_move (.tmp 1) rfl (hout 1 (by kernel_rfl))⟩
      · obtain rfl := Option.some.inj hi
        have e1 : v 1 = .bool true := hv 1 (by kernel_rfl)
        have t1 := ht 1 _ 30 (by kernel_rfl) rfl rfl
        have e5 : v 5 = .slice (some ⟨g, 0, none⟩) 32 32 := hv 5 (by kernel_rfl)
        have t5 := ht 5 _ 34 (by kernel_rfl) rfl rfl
        have e6 : v 6 = .slice A l.length c := hv 6 (by kernel_rfl)
        have t6 := ht 6 _ 35 (by kernel_rfl) rfl rfl
        have hmac := mac_any (sumN key) l (some ⟨g, 0, none⟩) A 32 c w' (sumN_lt _) HL'.out (rd_blk (C8.out.below hb C8.out.lt) (Nat.lt_of_lt_of_le C8.out.lt hb.size)) rdl (by rw [sumN_length]; exact Nat.le_refl _) hc (by rw [sumN_length]; omega) (by omega)
        rw [sumN_length, ← mac_of_key (keyN_sum h4) l, ← HT.out] at hmac
        exact ⟨wanted_some rfl rfl rfl (t1.trans e1), ow_call 14 [.tmp 34, .tmp 35] _ rfl en14 [.slice (some ⟨g, 0, none⟩) 32 32, .slice A l.length c] (args2 (t5.trans e5) (t6.trans e6)) (.agg (B8 T)) hmac (fun _ _ => rfl)⟩
      · obtain rfl := Option.some.inj hi
        have e1 : v 1 = .bool true := hv 1 (by kernel_rfl)
        have t1 := ht 1 _ 30 (by kernel_rfl) rfl rfl
        have e4 : v 4 = .agg (B8 T) := hv 4 (by kernel_rfl)
        have t4 := ht 4 _ 33 (by kernel_rfl) rfl rfl
        have e7 : v 7 = .agg (B8 T) := hv 7 (by kernel_rfl)
        have t7 := ht 7 _ 36 (by kernel_rfl) rfl rfl
        exact ⟨wanted_some rfl rfl rfl (t1.trans e1), ow_eql24 (.tmp 33) (.tmp 36) _ rfl T T (t4.trans e4) (t7.trans e7) HTL.out HTL.out (by show Value.bool (decide (T = T)) = _; simp)⟩
      · obtain rfl := Option.some.inj hi
        have e1 : v 1 = .bool true := hv 1 (by kernel_rfl)
        have t1 := ht 1 _ 30 (by kernel_rfl) rfl rfl
        have e8 : v 8 = .bool true := hv 8 (by kernel_rfl)
        have t8 := ht 8 _ 37 (by kernel_rfl) rfl rfl
        exact ⟨rfl, ow_pick (.tmp 30) (.tmp 37) _ rfl true (t1.trans e1) (t8.trans e8)⟩
      · simp at hi
    · intro v W5 hb hv
      have e9 : v 9 = .bool true := hv 9 (by simp)
      clear hv
      have b3 := B2.out.trans (hb.mono B2.out.size)
      replace B2 := Lib.hid b3
      clear b3 hb
      simp only [List.take_succ_cons, List.drop_succ_cons, List.take_zero, List.drop_zero, putsFrom, if_true, Nat.zero_add, Nat.reduceAdd, e9]
      clear e9
      simp only [Act.put, List.setIfInBounds_toArray, List.set_cons_succ, List.set_cons_zero]
      go_wp2
      go_ret
      exact ⟨rfl, B2.out⟩
  · have h4' : (key.length : Int) ≤ 64 := by omega
    go_upto_region 7 with fail
    obtain ⟨r, hr⟩ : ∃ r : Nat, n % (65 - (key.length : Int)) = (r : Int) := ⟨(n % (65 - (key.length : Int))).toNat, by have := Int.emod_nonneg n (b := 65 - (key.length : Int)) (by omega); omega⟩
    have hrl : key.length + r ≤ 64 := by have := Int.emod_lt_of_pos n (b := 65 - (key.length : Int)) (by omega); omega
    have HRR := Lib.hid hr
    clear hr
    refine region_relG 8 (V7 w.heap.size key A0 c0 n r) (by kernel_rfl) (by kernel_rfl) rfl (V7_keep _ _ _ _ _ _) ?_ ?_
    · intro i o hi a v w' hb hv ht hout
      have rdk : Rd w' w'.heap.size A0 key := (HRK.out.below (B1.out.trans (hb.mono B1.out.size))).more (Nat.le_trans B1.out.size hb.size)
      rcases i with _ | _ | _ | _ | _ | _ | _ | _ | i
      · obtain rfl := Option.some.inj hi
        exact ⟨rfl, ow_bs0 rfl ⟨w'.heap.size, rfl, Blk.new _ _ _, Nat.le_trans B1.out.size hb.size⟩⟩
      · obtain rfl := Option.some.inj hi
        exact ⟨rfl, ow_move (.tmp 0) rfl (hout 0 (by kernel_rfl))⟩
      · obtain rfl := Option.some.inj hi
        obtain ⟨g, e0, hg, hbg⟩ : ∃ g, v 0 = .slice (some ⟨g, 0, none⟩) 0 0 ∧ Blk w' g 5 #[] ∧ w.heap.size ≤ g := hv 0 (by kernel_rfl)
        have t0 := ht 0 _ 39 (by kernel_rfl) rfl rfl
        have e1 : v 1 = .slice A0 key.length c0 := hv 1 (by kernel_rfl)
        have t1 := ht 1 _ 40 (by kernel_rfl) rfl rfl
        have s0 : a.eval (.tmp 39) = .slice (some ⟨g, 0, none⟩) 0 0 := t0.trans e0
        have s1 : a.eval (.tmp 40) = .slice A0 key.length c0 := t1.trans e1
        obtain ⟨v', w'', hrun, hown, hbel⟩ := run_app_empty (ty := 22) g rdk c0 (by omega) w.heap.size (Nat.le_trans B1.out.size hb.size) hbg hg
        exact ⟨rfl, ow_value v' w'' (by
          unfold execOp
          simp only [resolve, invoke, builtin, Sem.run_bind, Sem.run_pure, Result.andThen_ok, List.map_toArray, List.map_cons, List.map_nil, s0, s1, hrun]) hbel hown⟩
      · obtain rfl := Option.some.inj hi
        exact ⟨rfl, ow_move (.tmp 2) rfl (hout 2 (by kernel_rfl))⟩
      · obtain rfl := Option.some.inj hi
        exact ⟨rfl, ow_move (.tmp 0) rfl (hout 0 (by kernel_rfl))⟩
      · obtain rfl := Option.some.inj hi
        have e4 : v 4 = .slice A0 key.length c0 := hv 4 (by kernel_rfl)
        have t4 := ht 4 _ 43 (by kernel_rfl) rfl rfl
        have s4 : a.eval (.tmp 43) = .slice A0 key.length c0 := t4.trans e4
        exact ⟨rfl, ow_value (.int .i64 key.length) w' (by
          unfold execOp
          simp only [resolve, List.map_toArray, List.map_cons, List.map_nil, s4]
          go_simp) (Below.refl _ _) rfl⟩
      · obtain rfl := Option.some.inj hi
        have e5 : v 5 = .int .i64 key.length := hv 5 (by kernel_rfl)
        have t5 := ht 5 _ 44 (by kernel_rfl) rfl rfl
        have s5 : a.eval (.tmp 44) = .int .i64 key.length := t5.trans e5
        have s6 : a.eval (.const (.int .i64 65)) = .int .i64 65 := rfl
        exact ⟨rfl, ow_value (.int .i64 (65 - (key.length : Int))) w' (by
          have hw : IntKind.i64.wrap (65 - (key.length : Int)) = 65 - (key.length : Int) := IntWalk.i64_in _ (by omega)
          unfold execOp
          simp only [s5, s6]
          go_simp) (Below.refl _ _) rfl⟩
      · obtain rfl := Option.some.inj hi
        have e3 : v 3 = .int .i64 n := hv 3 (by kernel_rfl)
        have t3 := ht 3 _ 42 (by kernel_rfl) rfl rfl
        have e6 : v 6 = .int .i64 (65 - (key.length : Int)) := hv 6 (by kernel_rfl)
        have t6 := ht 6 _ 45 (by kernel_rfl) rfl rfl
        have s3 : a.eval (.tmp 42) = .int .i64 n := t3.trans e3
        have s6 : a.eval (.tmp 45) = .int .i64 (65 - (key.length : Int)) := t6.trans e6
        exact ⟨rfl, ow_value (.int .i64 r) w' (by
          have hm : n.tmod (65 - (key.length : Int)) = (r : Int) := by rw [Int.tmod_eq_emod_of_nonneg h3']; exact HRR.out
          have hz : ¬ (65 - (key.length : Int) = 0) := by omega
          unfold execOp
          simp only [s3, s6]
          go_simp) (Below.refl _ _) rfl⟩
      · simp at hi
    · intro v W2 hb hv
      have hown : OwnB W2 w.heap.size (v 2) key := hv 2 (by simp)
      have e7 : v 7 = .int .i64 r := hv 7 (by simp)
      clear hv
      have b3 := B1.out.trans (hb.mono B1.out.size)
      have hbs := Nat.le_trans B1.out.size hb.size
      clear hb B1
      simp only [List.take_succ_cons, List.drop_succ_cons, List.take_zero, List.drop_zero, putsFrom, if_true, Nat.zero_add, Nat.reduceAdd, e7]
      clear e7
      simp only [Act.put, List.setIfInBounds_toArray, List.set_cons_succ, List.set_cons_zero]
      generalize v 0 = v0; generalize v 1 = v1; generalize v 3 = v3; generalize v 4 = v4; generalize v 5 = v5; generalize v 6 = v6
      generalize v 2 = v2 at *
      clear v
      obtain ⟨v', w3, hrun, hown', hgr⟩ := run_zeros (ty := 22) hown r (by omega) hbs
      have b4 : Below w.heap.size w w3 := b3.grown hgr hbs (fun k hk => (hown.lt k hk).1)
      obtain ⟨A2, c2, rfl, hc2, hr2⟩ := hown'.form
      have hkr : macN key l = macN (key ++ List.replicate r 0) l := mac_of_key (keyN_zeros hrl) l
      have hl2 : (key ++ List.replicate r 0).length ≤ 64 := by simp; omega
      have h82 : W8 (key ++ List.replicate r 0) := HK'.out.append (W8.zeros _)
      generalize key ++ List.replicate r 0 = key2 at *
      have HRUN := Lib.hid hrun; have B4 := Lib.hid b4; have R2 := Lib.hid hr2; have HKR := Lib.hid hkr; have H82 := Lib.hid h82
      clear hrun b4 hr2 hkr h82 hown hown' hgr b3 hbs
      go_upto_region 8 with (refine Lib.wpList_append_run _ rfl (.tmp 41) (.tmp 46) 22 3 rfl _ _ rfl rfl _ _ HRUN.out ?_)
      go_wp2_with fail
      refine (mac_any key l A0 A c0 c w3 HK'.out HL'.out ((HRK.out.below B4.out).more B4.out.size) ((HR.out.below B4.out).more B4.out.size) hc0 hc (by omega) (by omega)).mono ?_
      rw [← HT.out]
      rintro e w4 ⟨rfl, hb4⟩
      have b5 := B4.out.trans (hb4.mono B4.out.size)
      have r2 := (R2.out.below hb4).more hb4.size
      replace B4 := Lib.hid b5; replace R2 := Lib.hid r2
      clear b5 r2 hb4
      go_wp2_with fail
      refine (mac_any key2 l A2 A c2 c w4 H82.out HL'.out R2.out ((HR.out.below B4.out).more B4.out.size) hc2 hc (by omega) (by omega)).mono ?_
      rw [← HKR.out, ← HT.out]
      rintro e w5 ⟨rfl, hb5⟩
      have b5 := B4.out.trans (hb5.mono B4.out.size)
      replace B4 := Lib.hid b5
      clear b5 hb5
      have E := eq24 T T HTL.out HTL.out w5
      go_wp2
      go_ret
      exact ⟨by simp, B4.out⟩
end Go.Proofs.Ytiigbhpnlpbnjaa
