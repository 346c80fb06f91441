import Derived.Test.YtiigbhpnlpbnjaaLd
import Derived.Test.YtiigbhpnlpbnjaaAq
import Derived.Test.YtiigbhpnlpbnjaaLf
namespace Go.Proofs.Ytiigbhpnlpbnjaa
open Go.RowKit

def Apart (v u : Value) : Prop := ∀ g, v.ownBlock = some g → u.ownBlock ≠ some g
theorem OwnB.kept {w w' : World} {base : Nat} {v u : Value} {l : List Nat} (h : OwnB w base v l) (hg : w.grownBy w' u.ownBlock) (ha : Apart u v) : OwnB w' base v l := by
  refine World.ownsRow.kept h hg ?_
  cases hv : v.ownBlock with
  | none => exact .inl rfl
  | some g => exact .inr (fun e => ha g e.symm hv)
theorem apart_next {w : World} {base : Nat} {v v' u : Value} {l : List Nat} (ha : Apart v u) (hu : OwnB w base u l) (hat : v'.ownBlock = v.ownBlock ∨ v'.ownBlock = some w.heap.size) : Apart v' u := by
  intro g hg hug
  rcases hat with h | h
  · exact ha g (by rw [← h]; exact hg) hug
  · rw [h] at hg
    injection hg with hg
    have := (hu.lt g hug).2
    omega
theorem Apart.symm {v u : Value} (h : Apart v u) : Apart u v := fun g h1 h2 => h g h2 h1
theorem Blk.grown {w w' : World} {g : Nat} {t : TypeId} {cs : Array Value} {row : Option Nat} (h : Blk w g t cs) (hb : w.grownBy w' row) (hg : some g ≠ row) : Blk w' g t cs := (hb.block g h.lt hg).trans h

theorem step_own {w w0 w' : World} {B : Nat} {u v v' : Value} {lu lv : List Nat} {key : List Nat} (hu : OwnB w (B + 1) u lu) (hv : OwnB w (B + 1) v lv) (ha : Apart u v) (hk : Blk w B 31 (B8 key)) (hb : Below B w0 w)
    (hg : w.grownBy w' u.ownBlock) (hat : v'.ownBlock = u.ownBlock ∨ v'.ownBlock = some w.heap.size) : OwnB w' (B + 1) v lv ∧ Apart v' v ∧ Blk w' B 31 (B8 key) ∧ Below B w0 w' ∧ w.heap.size ≤ w'.heap.size := by
  refine ⟨hv.kept hg ha, apart_next ha hv hat, hk.grown hg ?_, hb.grown hg (Nat.le_of_lt hk.lt) (fun k hk' => by have := (hu.lt k hk').1; omega), hg.size⟩
  intro e
  have := (hu.lt B e.symm).1
  omega
def padK (key : List Nat) : List Nat := pad 64 key
theorem padK_length {key : List Nat} (h : key.length = 8) : (padK key).length = 64 := pad_length (by omega)
theorem mask_snoc {key : List Nat} (h : key.length = 8) (m k : Nat) (hk : k < 64) : (maskN (padK key) m).take (k + 1) = (maskN (padK key) m).take k ++ [at0 key k ^^^ m] := by
  rw [take_snoc _ _ (by rw [maskN_length, padK_length h]; exact hk), at0_maskN (by rw [padK_length h]; exact hk)]
  unfold padK
  rw [at0_pad]

theorem run_slice31 (g : Nat) (w : World) : (Instr.sliceAt 31 (.pointer (some ⟨g, 0, none⟩)) none none none).run Try.prog w = .ok (.slice (some ⟨g, 0, none⟩) 8 8) w := by
  go_simp
theorem wpList_app8g {ops : Array Oper} {rest : List Oper} {o : Oper} {a : Act} {w : World} {Q : Exit → Act → World → Prop} (hw : Region.wanted o (yielded ops a.tmps) = true) (s x : Operand)
    (ho : o.op = .call { callee := .builtin .append, args := #[s, x], argTypes := #[22, 22] })
    (base : Nat) (v : Value) (l : List Nat) (hs : a.eval s = v) (hown : OwnB w base v l) (B : Nat) (A : Option Addr) (n : Nat) (m : List Nat) (c : Nat) (hx : a.eval x = .slice A n c) (hn : m.length = n) (hr : Rd w B A m)
    (hbig : l.length + m.length ≤ 100000000) (hbase : base ≤ w.heap.size)
    (h : ∀ v' w', OwnB w' base v' (l ++ m) → w.grownBy w' v.ownBlock → (v'.ownBlock = v.ownBlock ∨ v'.ownBlock = some w.heap.size) → wpList Try.prog ops Q rest (a.put o.dst v') w') : wpList Try.prog ops Q (o :: rest) a w :=
  wpList_step fun _ hK => by
    rw [if_pos hw]
    subst hn
    obtain ⟨v', w', hrun, h2, h3, h4⟩ := run_app8 (ty := o.type) hown hr c hbig hbase
    unfold Oper.wp execOp
    simp only [ho, resolve, invoke, builtin, Sem.run_bind, Sem.run_pure, Result.andThen_ok, List.map_toArray, List.map_cons, List.map_nil, hs, hx, hrun]
    exact hK _ _ (h v' w' h2 h3 h4)
theorem absorbK_front (st b m : List Nat) (hb : b.length = 64) (k : Nat) : absorbK st (b ++ m) (k + 1) = absorbK (absorbN st b) m k := by
  induction k with
  | zero =>
    show absorbN st (((b ++ m).drop (64 * 0)).take 64) = absorbN st b
    rw [Nat.mul_zero, List.drop_zero, ← hb, List.take_left]
  | succ k ih =>
    show absorbN (absorbK st (b ++ m) (k + 1)) (((b ++ m).drop (64 * (k + 1))).take 64) = absorbN (absorbK (absorbN st b) m k) ((m.drop (64 * k)).take 64)
    rw [ih, show 64 * (k + 1) = b.length + 64 * k by omega, ← List.drop_drop, List.drop_left]
theorem sum_block (b l : List Nat) (hb : b.length = 64) : sumN (b ++ l) = finishN (absorbN initN b) 64 l := by
  unfold sumN finishN
  have e : padded 0 (b ++ l) = b ++ padded 64 l := by
    unfold padded
    rw [List.length_append, hb, show (64 + l.length) % 64 = l.length % 64 by omega, Nat.zero_add, List.append_assoc]
  rw [e, List.length_append, hb, show (64 + (padded 64 l).length) / 64 = (padded 64 l).length / 64 + 1 by omega, absorbK_front initN b _ hb]
theorem keyN8 {key : List Nat} (h : key.length = 8) : keyN key = padK key := by rw [keyN_eq, key64_short (by omega)]; rfl
theorem sum_inner {key : List Nat} (h : key.length = 8) {l : List Nat} : sumN (maskN (padK key) 54 ++ l) = innerN key l := by
  rw [sum_block _ _ (by rw [maskN_length, padK_length h]), ← keyN8 h]; rfl
theorem sum_outer {key : List Nat} (h : key.length = 8) (l : List Nat) : sumN (maskN (padK key) 92 ++ innerN key l) = macN key l := by
  rw [sum_block _ _ (by rw [maskN_length, padK_length h]), ← keyN8 h, macN_eq]

set_option maxRecDepth 100000 in
set_option maxHeartbeats 1000000 in
theorem hashOut_walk (key l : List Nat) (A : Option Addr) (c : Nat) (w : World) (hkl : key.length = 8) (hk' : W8 key) (hl' : W8 l) (hr : Rd w w.heap.size A l) (hc : l.length ≤ c) :
    Calls Try.prog 7 #[.agg (B8 key), .slice A l.length c] w fun e w' => e = .returned (.bool true) ∧ Below w.heap.size w w' := by
  have HKL := Lib.hid hkl; have HK' := Lib.hid hk'; have HL' := Lib.hid hl'; have HR := Lib.hid hr
  clear hkl hk' hl' hr
  go_enter Try.func7, Try.ntmps7
  go_wp2_with fail
  have b0 : Below w.heap.size w (w.alloc (Obj.cells (B8 key) 31)) := (Below.refl _ _).alloc (Nat.le_refl _) _
  have k0 : Blk (w.alloc (Obj.cells (B8 key) 31)) w.heap.size 31 (B8 key) := Blk.new _ _ _
  refine (awake_any _).mono ?_
  rintro e w1 ⟨rfl, hb1⟩
  have b1 := b0.trans (hb1.mono b0.size)
  have k1 := k0.below hb1 k0.lt
  have hs1 : w.heap.size + 1 ≤ w1.heap.size := k1.lt
  have B1 := Lib.hid b1; have K1 := Lib.hid k1
  clear b0 k0 hb1 b1 k1
  by_cases h1 : 1500 < l.length
  · have h1' : (1500 : Int) < l.length := by omega
    go_wp2
    go_ret
    exact ⟨rfl, B1.out⟩
  have h1' : (l.length : Int) ≤ 1500 := by omega
  go_wp2
  go_loopw [6, 7, 8] (fun v6 v7 i wr => ∃ k : Nat, k ≤ 64 ∧ i = .int .i64 k ∧ OwnB wr (w.heap.size + 1) v6 ((maskN (padK key) 54).take k) ∧ OwnB wr (w.heap.size + 1) v7 ((maskN (padK key) 92).take k) ∧ Apart v6 v7 ∧
      Blk wr w.heap.size 31 (B8 key) ∧ Below w.heap.size w wr) (fun _ _ i _ => 64 - (intOf i).toNat)
  case atStart => exact ⟨0, by omega, rfl, OwnB.nil _ _, OwnB.nil _ _, (fun g h => by simp [Value.ownBlock] at h), K1.out, B1.out⟩
  case round =>
    clear K1 B1
    obtain ⟨k, hk, rfl, o6, o7, hap, kb, bel⟩ := hrel
    have O6 := Lib.hid o6; have O7 := Lib.hid o7; have AP := Lib.hid hap; have KB := Lib.hid kb; have BEL := Lib.hid bel
    clear o6 o7 hap kb bel
    by_cases hlt : k < 64
    · have hlt' : (k : Int) < 64 := by omega
      go_upto_if 21 with fail
      go_cut [9] (fun s wx => s = .int .u8 (at0 key k) ∧ wx = wr)
      case first =>
        by_cases hk8 : k < 8
        · have hk8' : (k : Int) < 8 := by omega
          have ck := KB.out.cell k
          rw [B8_get (by rw [HKL.out]; exact hk8)] at ck
          go_wp2
          go_meet
          exact ⟨rfl, rfl⟩
        · have hk8' : (8 : Int) ≤ (k : Int) := by omega
          have hz : at0 key k = 0 := at0_out (by rw [HKL.out]; omega)
          have HZ := Lib.hid hz
          clear hz
          go_wp2
          go_meet
          exact ⟨by rw [HZ.out]; rfl, rfl⟩
      case rest =>
        obtain ⟨rfl, rfl⟩ := hcut
        have hx8 := HK'.out.at k
        have x54 : bits BinOp.xor IntKind.u8 (at0 key k : Int) 54 = ((at0 key k ^^^ 54 : Nat) : Int) := u8_xor_nat _ 54 hx8 (by omega)
        have x92 : bits BinOp.xor IntKind.u8 (at0 key k : Int) 92 = ((at0 key k ^^^ 92 : Nat) : Int) := u8_xor_nat _ 92 hx8 (by omega)
        obtain ⟨p, hp⟩ : ∃ p, p = at0 key k ^^^ 54 := ⟨_, rfl⟩
        obtain ⟨q, hq⟩ : ∃ q, q = at0 key k ^^^ 92 := ⟨_, rfl⟩
        rw [← hp] at x54
        rw [← hq] at x92
        have s6 := mask_snoc HKL.out 54 k hlt
        have s7 := mask_snoc HKL.out 92 k hlt
        rw [← hp] at s6
        rw [← hq] at s7
        have S6 := Lib.hid s6; have S7 := Lib.hid s7
        clear s6 s7 hp hq hx8
        have l6 : ((maskN (padK key) 54).take k).length ≤ 64 := by rw [List.length_take]; omega
        have l7 : ((maskN (padK key) 92).take k).length ≤ 64 := by rw [List.length_take]; omega
        have hbs : w.heap.size + 1 ≤ wc.heap.size := KB.out.lt
        have ba : Below wc.heap.size wc (wc.alloc (Obj.cells #[Value.int .u8 (p : Int)] 5)) := (Below.refl _ _).alloc (Nat.le_refl _) _
        have BA := Lib.hid ba
        clear ba
        go_upto_region 13 with (refine wpList_app8 rfl (.tmp 25) (.tmp 28) rfl (w.heap.size + 1) u6 ((maskN (padK key) 54).take k) rfl (O6.out.below BA.out) (wc.alloc (Obj.cells #[Value.int .u8 (p : Int)] 5)).heap.size (some ⟨wc.heap.size, 0, none⟩) 1 [p] 1 rfl rfl (rd_blk (Blk.new _ _ _) (by simp)) (by simp; omega) (by simp; omega) ?_; intro v6 w2 hown hg hat)
        rw [← S6.out] at hown
        have st := step_own (B := w.heap.size) (O6.out.below BA.out) (O7.out.below BA.out) AP.out (KB.out.below BA.out KB.out.lt) (BEL.out.trans (BA.out.mono BEL.out.size)) hg hat
        clear O6 O7 AP KB BEL hg hat
        obtain ⟨o7, ap, kb, bel, hsz⟩ := st
        have O6 := Lib.hid hown; have O7 := Lib.hid o7; have AP := Lib.hid ap; have KB := Lib.hid kb; have BEL := Lib.hid bel
        clear hown o7 ap kb bel BA
        have ba : Below w2.heap.size w2 (w2.alloc (Obj.cells #[Value.int .u8 (q : Int)] 5)) := (Below.refl _ _).alloc (Nat.le_refl _) _
        have BA := Lib.hid ba
        have hbs2 : w.heap.size + 1 ≤ w2.heap.size := KB.out.lt
        clear ba hsz
        go_wp2_with (refine wpList_app8 rfl (.tmp 30) (.tmp 33) rfl (w.heap.size + 1) u7 ((maskN (padK key) 92).take k) rfl (O7.out.below BA.out) (w2.alloc (Obj.cells #[Value.int .u8 (q : Int)] 5)).heap.size (some ⟨w2.heap.size, 0, none⟩) 1 [q] 1 rfl rfl (rd_blk (Blk.new _ _ _) (by simp)) (by simp; omega) (by simp; omega) ?_; intro v7 w3 hown hg hat)
        rw [← S7.out] at hown
        have st := step_own (B := w.heap.size) (O7.out.below BA.out) (O6.out.below BA.out) AP.out.symm (KB.out.below BA.out KB.out.lt) (BEL.out.trans (BA.out.mono BEL.out.size)) hg hat
        obtain ⟨o6, ap, kb, bel, hsz⟩ := st
        exact ⟨⟨k + 1, by omega, by go_num, o6, hown, ap.symm, kb, bel⟩, by simp [intOf]; omega⟩
    · obtain rfl : k = 64 := by omega
      have e6 : (maskN (padK key) 54).take 64 = maskN (padK key) 54 := List.take_of_length_le (by rw [maskN_length, padK_length HKL.out]; omega)
      have e7 : (maskN (padK key) 92).take 64 = maskN (padK key) 92 := List.take_of_length_le (by rw [maskN_length, padK_length HKL.out]; omega)
      have o6 := O6.out; have o7 := O7.out
      rw [e6] at o6
      rw [e7] at o7
      have l6 : (maskN (padK key) 54).length = 64 := by rw [maskN_length, padK_length HKL.out]
      have l7 : (maskN (padK key) 92).length = 64 := by rw [maskN_length, padK_length HKL.out]
      have w6 : W8 (maskN (padK key) 54) := maskN_lt (HK'.out.append (W8.zeros _)) (by omega)
      have w7 : W8 (maskN (padK key) 92) := maskN_lt (HK'.out.append (W8.zeros _)) (by omega)
      have hbs : w.heap.size + 1 ≤ wr.heap.size := KB.out.lt
      replace O6 := Lib.hid o6; replace O7 := Lib.hid o7; have L6 := Lib.hid l6; have L7 := Lib.hid l7; have W6 := Lib.hid w6; have W7 := Lib.hid w7
      clear o6 o7 l6 l7 w6 w7 e6 e7
      go_wp2_with (refine wpList_app8 rfl (.tmp 35) (.tmp 36) rfl (w.heap.size + 1) u6 (maskN (padK key) 54) rfl O6.out wr.heap.size A _ l c rfl rfl ((HR.out.below BEL.out).more BEL.out.size) (by rw [L6.out]; omega) hbs ?_; intro v6 w2 hown hg hat)
      have st := step_own (B := w.heap.size) O6.out O7.out AP.out KB.out BEL.out hg hat
      obtain ⟨o7, ap, kb, bel, hsz⟩ := st
      clear O6 O7 AP KB BEL hg hat hsz
      obtain ⟨A6, c6, rfl, hc6, hr6⟩ := hown.form
      have O7 := Lib.hid o7; have KB := Lib.hid kb; have BEL := Lib.hid bel
      clear o7 ap kb bel hown
      have hlen6 : (maskN (padK key) 54 ++ l).length < 1000000 := by rw [List.length_append, L6.out]; omega
      have hs6 := sum_any (maskN (padK key) 54 ++ l) A6 c6 w2 (W6.out.append HL'.out) hr6 hc6 hlen6
      rw [sum_inner HKL.out] at hs6
      refine hs6.mono ?_
      clear hs6 hr6 hc6 hlen6
      obtain ⟨I, hI⟩ : ∃ I, I = innerN key l := ⟨_, rfl⟩
      have hIl : I.length = 32 := by rw [hI]; exact innerN_length _ _
      have hI8 : W8 I := by rw [hI]; exact innerN_lt _ _
      obtain ⟨T, hT⟩ : ∃ T, T = macN key l := ⟨_, rfl⟩
      have hTl : T.length = 32 := by rw [hT]; exact macN_length _ _
      have hTs : sumN (maskN (padK key) 92 ++ I) = T := by rw [hT, hI]; exact sum_outer HKL.out l
      rw [← hI]
      have HIL := Lib.hid hIl; have HI8 := Lib.hid hI8; have HT := Lib.hid hT; have HTL := Lib.hid hTl; have HTS := Lib.hid hTs
      clear hI hIl hI8 hT hTl hTs
      rintro e w3 ⟨rfl, hb3⟩
      have o7 := O7.out.below hb3
      have kb := KB.out.below hb3 KB.out.lt
      have bel := BEL.out.trans (hb3.mono BEL.out.size)
      replace O7 := Lib.hid o7; replace KB := Lib.hid kb; replace BEL := Lib.hid bel
      clear o7 kb bel hb3
      go_upto_region 15 with (refine wpList_store_new rfl 24 (.tmp 10) (.tmp 38) rfl (B8 I) rfl rfl 24 _ (by rw [B8_size, HIL.out]; exact info24) (by rw [B8_size, HIL.out]; rfl) (B8_one _) ?_)
      have ba : Below w3.heap.size w3 (w3.alloc (Obj.cells (B8 I) 24)) := (Below.refl _ _).alloc (Nat.le_refl _) _
      have o7 := O7.out.below ba
      have kb := KB.out.below ba KB.out.lt
      have bel := BEL.out.trans (ba.mono BEL.out.size)
      have c10 := Blk.new w3 24 (B8 I)
      generalize w3.alloc (Obj.cells (B8 I) 24) = W at *
      generalize w3.heap.size = g at *
      replace O7 := Lib.hid o7; replace KB := Lib.hid kb; replace BEL := Lib.hid bel; have C10 := Lib.hid c10
      clear o7 kb bel ba c10
      refine region_relG 7 (VL [some (.bool true), some (.bool true), some (.slice (some ⟨w.heap.size, 0, none⟩) 8 8), some (.slice A l.length c), some (.agg (B8 T)), some u7, some (.slice (some ⟨g, 0, none⟩) 32 32)]) (by kernel_rfl) (by kernel_rfl) rfl (VL_keep _) ?_ ?_
      · intro i o hi a v w' hb hv ht hout
        have rdl : Rd w' w'.heap.size A l := (HR.out.below (BEL.out.trans (hb.mono BEL.out.size))).more (Nat.le_trans BEL.out.size hb.size)
        rcases i with _ | _ | _ | _ | _ | _ | _ | i
        · obtain rfl := Option.some.inj hi
          exact ⟨rfl, ow_move (.tmp 5) rfl (hout 5 (by kernel_rfl))⟩
        · obtain rfl := Option.some.inj hi
          have e0 : v 0 = .bool true := hv 0 (by kernel_rfl)
          have t0 := ht 0 _ 39 (by kernel_rfl) rfl rfl
          exact ⟨rfl, ow_move (.tmp 39) rfl (t0.trans e0)⟩
        · obtain rfl := Option.some.inj hi
          have e1 : v 1 = .bool true := hv 1 (by kernel_rfl)
          have t1 := ht 1 _ 40 (by kernel_rfl) rfl rfl
          have t2 : a.eval (.tmp 2) = .pointer (some ⟨w.heap.size, 0, none⟩) := hout 2 (by kernel_rfl)
          exact ⟨wanted_some rfl rfl rfl (t1.trans e1), ow_value (.slice (some ⟨w.heap.size, 0, none⟩) 8 8) w' (by
            unfold execOp
            simp only [t2, Sem.run_bind, Option.map_none, run_slice31, Result.andThen_ok, Sem.run_pure]) (Below.refl _ _) rfl⟩
        · obtain rfl := Option.some.inj hi
          have e1 : v 1 = .bool true := hv 1 (by kernel_rfl)
          have t1 := ht 1 _ 40 (by kernel_rfl) rfl rfl
          exact ⟨wanted_some rfl rfl rfl (t1.trans e1), ow_move (.tmp 1) rfl (hout 1 (by kernel_rfl))⟩
        · obtain rfl := Option.some.inj hi
          have e1 : v 1 = .bool true := hv 1 (by kernel_rfl)
          have t1 := ht 1 _ 40 (by kernel_rfl) rfl rfl
          have e2 : v 2 = .slice (some ⟨w.heap.size, 0, none⟩) 8 8 := hv 2 (by kernel_rfl)
          have t2 := ht 2 _ 41 (by kernel_rfl) rfl rfl
          have e3 : v 3 = .slice A l.length c := hv 3 (by kernel_rfl)
          have t3 := ht 3 _ 42 (by kernel_rfl) rfl rfl
          have hmac := mac_any key l (some ⟨w.heap.size, 0, none⟩) A 8 c w' HK'.out HL'.out (rd_blk (KB.out.below hb KB.out.lt) (Nat.lt_of_lt_of_le KB.out.lt hb.size)) rdl (by rw [HKL.out]; exact Nat.le_refl _) hc (by rw [HKL.out]; omega) (by omega)
          rw [HKL.out, ← HT.out] at hmac
          exact ⟨wanted_some rfl rfl rfl (t1.trans e1), ow_call 14 [.tmp 41, .tmp 42] _ rfl en14 [.slice (some ⟨w.heap.size, 0, none⟩) 8 8, .slice A l.length c] (args2 (t2.trans e2) (t3.trans e3)) (.agg (B8 T)) hmac (fun _ _ => rfl)⟩
        · obtain rfl := Option.some.inj hi
          have e1 : v 1 = .bool true := hv 1 (by kernel_rfl)
          have t1 := ht 1 _ 40 (by kernel_rfl) rfl rfl
          exact ⟨wanted_some rfl rfl rfl (t1.trans e1), ow_move (.tmp 7) rfl (hout 7 (by kernel_rfl))⟩
        · obtain rfl := Option.some.inj hi
          have e1 : v 1 = .bool true := hv 1 (by kernel_rfl)
          have t1 := ht 1 _ 40 (by kernel_rfl) rfl rfl
          have t10 : a.eval (.tmp 10) = .pointer (some ⟨g, 0, none⟩) := hout 10 (by kernel_rfl)
          exact ⟨wanted_some rfl rfl rfl (t1.trans e1), ow_value (.slice (some ⟨g, 0, none⟩) 32 32) w' (by
            unfold execOp
            simp only [t10, Sem.run_bind, Option.map_none, run_slice24, Result.andThen_ok, Sem.run_pure]) (Below.refl _ _) rfl⟩
        · simp at hi
      · intro v W2 hb hv
        have e0 : v 0 = .bool true := hv 0 (by simp)
        have e1 : v 1 = .bool true := hv 1 (by simp)
        have e4 : v 4 = .agg (B8 T) := hv 4 (by simp)
        have e5 : v 5 = u7 := hv 5 (by simp)
        have e6 : v 6 = .slice (some ⟨g, 0, none⟩) 32 32 := hv 6 (by simp)
        clear hv
        have o7 := O7.out.below hb
        have bel := BEL.out.trans (hb.mono BEL.out.size)
        have c10 := C10.out.below hb C10.out.lt
        have hbs2 : w.heap.size + 1 ≤ W2.heap.size := (KB.out.below hb KB.out.lt).lt
        replace O7 := Lib.hid o7; replace BEL := Lib.hid bel; replace C10 := Lib.hid c10
        clear o7 bel c10 hb KB
        simp only [List.take_succ_cons, List.drop_succ_cons, List.take_zero, List.drop_zero, putsFrom, if_true, Nat.zero_add, Nat.reduceAdd, e0, e1, e4, e5, e6]
        clear e0 e1 e4 e5 e6
        simp only [Act.put, List.setIfInBounds_toArray, List.set_cons_succ, List.set_cons_zero]
        generalize v 2 = v2; generalize v 3 = v3
        clear v
        go_wp2_with (refine wpList_app8g rfl (.tmp 44) (.tmp 45) rfl (w.heap.size + 1) u7 (maskN (padK key) 92) rfl O7.out W2.heap.size (some ⟨g, 0, none⟩) 32 I 32 rfl HIL.out (rd_blk C10.out C10.out.lt) (by rw [L7.out, HIL.out]; omega) hbs2 ?_; intro v8 w4 hown hg hat)
        have bel := BEL.out.grown hg (by omega) (fun k hk => by have := (O7.out.lt k hk).1; omega)
        obtain ⟨A8, c8, rfl, hc8, hr8⟩ := hown.form
        have hlen8 : (maskN (padK key) 92 ++ I).length < 1000000 := by rw [List.length_append, L7.out, HIL.out]; omega
        have hs8 := sum_any (maskN (padK key) 92 ++ I) A8 c8 w4 (W7.out.append HI8.out) hr8 hc8 hlen8
        rw [HTS.out] at hs8
        refine hs8.mono ?_
        rintro e w5 ⟨rfl, hb5⟩
        have bel5 := bel.trans (hb5.mono bel.size)
        have BEL5 := Lib.hid bel5
        clear bel bel5 hb5 hs8 hlen8 hr8 hc8 hown hg hat
        have E := eq24 T T HTL.out HTL.out w5
        go_wp2
        go_ret
        exact ⟨by simp, BEL5.out⟩
theorem cells31 : Try.prog.cellsOf 31 = 8 := by kernel_rfl
theorem rd31 : Try.prog.readableRec 31 = true ∧ 31 < Try.prog.types.size := ⟨by kernel_rfl, of_decide_eq_true (by kernel_rfl)⟩
end Go.Proofs.Ytiigbhpnlpbnjaa
