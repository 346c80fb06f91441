import Derived.Test.YtiigbhpnlpbnjaaWb
import Derived.Deep.Light
namespace Go.Proofs.Ytiigbhpnlpbnjaa
open Go.RowKit

theorem quiet_add_same {P : Program} {f : FuncId} {args : Array Value} {w : World} {a n : Nat} {v : Value}
    (h : Calls P f args (w.drewN (a + n)) fun e w' => e = .returned v ∧ w' = w.drewN (a + n)) :
    Calls P f args (w.drewN (a + n)) fun e w'' => e = .returned v ∧ ∃ m, w'' = w.drewN (a + m) :=
  h.mono fun _ _ ⟨he, hm⟩ => ⟨he, n, hm⟩

structure S8.Ok (s : S8) : Prop where
  a : s.a < 4294967296
  b : s.b < 4294967296
  c : s.c < 4294967296
  d : s.d < 4294967296
  e : s.e < 4294967296
  f : s.f < 4294967296
  g : s.g < 4294967296
  h : s.h < 4294967296
theorem roundN_ok {s : S8} (h : s.Ok) (k w : Nat) : (roundN s k w).Ok :=
  ⟨Nat.mod_lt _ (by omega), h.a, h.b, h.c, Nat.mod_lt _ (by omega), h.e, h.f, h.g⟩
theorem s8_ok {st : List Nat} (h : W32 st) : (s8 st).Ok := ⟨h.at _, h.at _, h.at _, h.at _, h.at _, h.at _, h.at _, h.at _⟩
theorem roundsN_ok {W : List Nat} {s : S8} (h : s.Ok) (k : Nat) : (roundsN W s k).Ok := by
  induction k with
  | zero => exact h
  | succ k ih => exact roundN_ok ih _ _
theorem KN_lt : W32 KN := by unfold W32; decide +kernel
theorem KN_length : KN.length = 64 := by decide +kernel
theorem addS_length (st : List Nat) (r : S8) : (addS st r).length = 8 := rfl
theorem addS_lt (st : List Nat) (r : S8) : W32 (addS st r) := by
  intro a ha
  simp only [addS, List.mem_cons, List.not_mem_nil, or_false] at ha
  rcases ha with rfl | rfl | rfl | rfl | rfl | rfl | rfl | rfl <;> exact Nat.mod_lt _ (by omega)

theorem and32 {x y : Nat} (hx : x < 4294967296) : x &&& y < 4294967296 := Nat.lt_of_le_of_lt Nat.and_le_left hx
theorem xor_all (e : Nat) (he : e < 4294967296) : 4294967295 ^^^ e = 4294967295 - e := by
  have h := BitVec.toNat_not (x := BitVec.ofNat 32 e)
  have h2 : (BitVec.allOnes 32 ^^^ BitVec.ofNat 32 e) = ~~~ (BitVec.ofNat 32 e) := BitVec.allOnes_xor
  rw [← h2, BitVec.toNat_xor] at h
  simp only [BitVec.toNat_allOnes, BitVec.toNat_ofNat] at h
  rw [Nat.mod_eq_of_lt (by omega)] at h
  simpa using h
theorem usig_cast {x i j k : Nat} (hx : x < 4294967296) :
    bits BinOp.xor IntKind.u32 (bits BinOp.xor IntKind.u32 (rotr x i : Int) (rotr x j : Int)) (rotr x k : Int) = ((rotr x i ^^^ rotr x j ^^^ rotr x k : Nat) : Int) := by
  rw [u32_xor_nat _ _ (rotr_lt x i hx) (rotr_lt x j hx), u32_xor_nat _ _ (xor32 (rotr_lt x i hx) (rotr_lt x j hx)) (rotr_lt x k hx)]
theorem ch_cast {e f g : Nat} (he : e < 4294967296) (hf : f < 4294967296) (hg : g < 4294967296) :
    bits BinOp.xor IntKind.u32 (bits BinOp.and IntKind.u32 (e : Int) (f : Int))
      (bits BinOp.and IntKind.u32 (bits BinOp.xor IntKind.u32 (if IntKind.u32.signed = true then -1 else IntKind.u32.max) (e : Int)) (g : Int)) = ((ch e f g : Nat) : Int) := by
  have hm : (if IntKind.u32.signed = true then -1 else IntKind.u32.max : Int) = ((4294967295 : Nat) : Int) := by decide
  rw [hm, u32_xor_nat _ _ (by omega) he, xor_all e he, u32_and_nat _ _ he hf, u32_and_nat _ _ (by omega) hg, u32_xor_nat _ _ (and32 he) (and32 (by omega))]
  rfl
theorem maj_cast {a b c : Nat} (ha : a < 4294967296) (hb : b < 4294967296) (hc : c < 4294967296) :
    bits BinOp.xor IntKind.u32 (bits BinOp.xor IntKind.u32 (bits BinOp.and IntKind.u32 (a : Int) (b : Int)) (bits BinOp.and IntKind.u32 (a : Int) (c : Int))) (bits BinOp.and IntKind.u32 (b : Int) (c : Int)) = ((maj a b c : Nat) : Int) := by
  rw [u32_and_nat _ _ ha hb, u32_and_nat _ _ ha hc, u32_and_nat _ _ hb hc, u32_xor_nat _ _ (and32 ha) (and32 ha), u32_xor_nat _ _ (xor32 (and32 ha) (and32 ha)) (and32 hb)]
  rfl
theorem T1_cast {s : S8} (h : s.Ok) (kt wt : Nat) :
    ((s.h : Int) + bits BinOp.xor IntKind.u32 (bits BinOp.xor IntKind.u32 (rotr s.e 6 : Int) (rotr s.e 11 : Int)) (rotr s.e 25 : Int) +
      bits BinOp.xor IntKind.u32 (bits BinOp.and IntKind.u32 (s.e : Int) (s.f : Int))
      (bits BinOp.and IntKind.u32 (bits BinOp.xor IntKind.u32 (if IntKind.u32.signed = true then -1 else IntKind.u32.max) (s.e : Int)) (s.g : Int)) + (kt : Int) + (wt : Int)) % 4294967296 = ((T1 s kt wt : Nat) : Int) := by
  rw [usig_cast h.e, ch_cast h.e h.f h.g]
  unfold T1 usig1
  omega
theorem T2_cast {s : S8} (h : s.Ok) :
    (bits BinOp.xor IntKind.u32 (bits BinOp.xor IntKind.u32 (rotr s.a 2 : Int) (rotr s.a 13 : Int)) (rotr s.a 22 : Int) +
      bits BinOp.xor IntKind.u32 (bits BinOp.xor IntKind.u32 (bits BinOp.and IntKind.u32 (s.a : Int) (s.b : Int)) (bits BinOp.and IntKind.u32 (s.a : Int) (s.c : Int))) (bits BinOp.and IntKind.u32 (s.b : Int) (s.c : Int))) % 4294967296 = ((T2 s : Nat) : Int) := by
  rw [usig_cast h.a, maj_cast h.a h.b h.c]
  unfold T2 usig0
  omega

set_option maxRecDepth 100000 in
set_option maxHeartbeats 2000000 in
theorem absorb_any (st b : List Nat) (w : World) (hs : st.length = 8) (hs' : W32 st) (hb : b.length = 64) (hb' : W8 b) :
    Calls Try.prog 22 #[.agg (U32 st), .agg (B8 b)] w fun e w' => e = .returned (.agg (U32 (absorbN st b))) ∧ Below w.heap.size w w' := by
  have HS := Lib.hid hs; have HS' := Lib.hid hs'; have HB := Lib.hid hb; have HB' := Lib.hid hb'
  clear hs hb hs' hb'
  go_enter Try.func22, Try.ntmps22
  go_wp2_with fail
  refine (table_any _).mono ?_
  rintro e w1 ⟨rfl, hb1⟩
  have bS : Blk w1 w.heap.size 36 (U32 st) := (((Blk.new w 36 (U32 st)).alloc _).alloc _).below hb1 (by simp; omega)
  have bB : Blk w1 (w.heap.size + 1) 42 (B8 b) := by
    have := ((Blk.new (w.alloc (Obj.cells (U32 st) 36)) 42 (B8 b)).alloc _).below hb1 (by simp)
    rwa [show (w.alloc (Obj.cells (U32 st) 36)).heap.size = w.heap.size + 1 from by simp] at this
  have bR : Blk w1 (w.heap.size + 1 + 1) 36 (U32 (pad 8 [])) := by
    have := (Blk.new ((w.alloc (Obj.cells (U32 st) 36)).alloc (Obj.cells (B8 b) 42)) 36 (U32 (pad 8 []))).below hb1 (by simp)
    rwa [show ((w.alloc (Obj.cells (U32 st) 36)).alloc (Obj.cells (B8 b) 42)).heap.size = w.heap.size + 1 + 1 from by simp] at this
  have bel1 : Below w.heap.size w w1 := ((((Below.refl w.heap.size w).alloc (Nat.le_refl _) _).alloc (by simp) _).alloc (by simp; omega) _).trans (hb1.mono (by simp; omega))
  have sz1 : w.heap.size + 3 ≤ w1.heap.size := by have := hb1.size; simpa using this
  replace bS := Lib.hid bS; replace bB := Lib.hid bB; replace bR := Lib.hid bR; replace bel1 := Lib.hid bel1
  clear hb1
  go_wp2_with (first
    | (refine wpList_store_new rfl 51 _ _ rfl (U32 KN) rfl rfl 51 _ (by kernel_rfl) (by kernel_rfl) (by kernel_rfl) ?_)
    | (refine wpList_load_row rfl 42 _ rfl (w.heap.size + 1) rfl 42 (B8 b) (0, 0) _ (bB.out.alloc _) Try.underlying42 rfl (by rw [B8_size, HB.out]; exact info42) ?_))
  refine (schedule_any b _ HB.out HB'.out).mono ?_
  rintro e w2 ⟨rfl, hb2⟩
  have sz2 : w1.heap.size + 1 ≤ w2.heap.size := by have := hb2.size; simpa using this
  have cS : Blk w2 w.heap.size 36 (U32 st) := (bS.out.alloc _).below hb2 (by simp; omega)
  have cR : Blk w2 (w.heap.size + 1 + 1) 36 (U32 (pad 8 [])) := (bR.out.alloc _).below hb2 (by simp; omega)
  have cK : Blk w2 w1.heap.size 51 (U32 KN) := (Blk.new w1 51 (U32 KN)).below hb2 (by simp)
  have bel2 : Below w.heap.size w w2 := (bel1.out.alloc (by omega) _).trans (hb2.mono (by simp; omega))
  replace cS := Lib.hid cS; replace cR := Lib.hid cR; replace cK := Lib.hid cK; replace bel2 := Lib.hid bel2
  clear hb2 bS bB bR bel1
  go_wp2_with (first
    | (refine wpList_store_new rfl 51 _ _ rfl (U32 (wordsN b 64)) rfl rfl 51 _ (by rw [U32_size, wordsN_length]; exact info51) (by rw [U32_size, wordsN_length]; rfl) (U32_one _) ?_))
  have dS : Blk (w2.alloc (Obj.cells (U32 (wordsN b 64)) 51)) w.heap.size 36 (U32 st) := cS.out.alloc _
  have dR : Blk (w2.alloc (Obj.cells (U32 (wordsN b 64)) 51)) (w.heap.size + 1 + 1) 36 (U32 (pad 8 [])) := cR.out.alloc _
  have dK : Blk (w2.alloc (Obj.cells (U32 (wordsN b 64)) 51)) w1.heap.size 51 (U32 KN) := cK.out.alloc _
  have dW : Blk (w2.alloc (Obj.cells (U32 (wordsN b 64)) 51)) w2.heap.size 51 (U32 (wordsN b 64)) := Blk.new _ _ _
  have bel : Below w.heap.size w (w2.alloc (Obj.cells (U32 (wordsN b 64)) 51)) := bel2.out.alloc (by omega) _
  generalize w2.alloc (Obj.cells (U32 (wordsN b 64)) 51) = W at *
  have s0 := dS.cell 0; have s1 := dS.cell 1; have s2 := dS.cell 2; have s3 := dS.cell 3
  have s4 := dS.cell 4; have s5 := dS.cell 5; have s6 := dS.cell 6; have s7 := dS.cell 7
  rw [U32_get (by rw [HS.out]; omega)] at s0 s1 s2 s3 s4 s5 s6 s7
  replace dR := Lib.hid dR; replace dK := Lib.hid dK; replace dW := Lib.hid dW; replace bel := Lib.hid bel
  clear cS cR cK bel2 dS sz1 sz2
  generalize w1.heap.size = g5 at *
  generalize w2.heap.size = g6 at *
  clear w1 w2
  go_quiet (fail)
  go_wp2
  go_quiet (fail)
  go_wp2
  go_loopw [7, 8, 9, 10, 11, 12, 13, 14, 37] (fun a b' c d e f g h i wr => ∃ k : Nat, k ≤ 64 ∧ i = .int .i64 k ∧
      a = .int .u32 (roundsN (wordsN b 64) (s8 st) k).a ∧ b' = .int .u32 (roundsN (wordsN b 64) (s8 st) k).b ∧ c = .int .u32 (roundsN (wordsN b 64) (s8 st) k).c ∧ d = .int .u32 (roundsN (wordsN b 64) (s8 st) k).d ∧
      e = .int .u32 (roundsN (wordsN b 64) (s8 st) k).e ∧ f = .int .u32 (roundsN (wordsN b 64) (s8 st) k).f ∧ g = .int .u32 (roundsN (wordsN b 64) (s8 st) k).g ∧ h = .int .u32 (roundsN (wordsN b 64) (s8 st) k).h ∧
      ∃ n, wr = W.drewN n) (fun _ _ _ _ _ _ _ _ i _ => 64 - (intOf i).toNat)
  case atStart =>
    exact ⟨0, by omega, rfl, rfl, rfl, rfl, rfl, rfl, rfl, rfl, rfl, _, World.drewN_drewN _ _ _⟩
  case round =>
    obtain ⟨k, hk, rfl, rfl, rfl, rfl, rfl, rfl, rfl, rfl, rfl, n, rfl⟩ := hrel
    have hok := roundsN_ok (W := wordsN b 64) (s8_ok HS'.out) k
    have ha := hok.a; have he := hok.e
    by_cases hlt : k < 64
    · have gk := dK.out.cell k
      have gw := dW.out.cell k
      rw [U32_get (by rw [KN_length]; exact hlt)] at gk
      rw [U32_get (by rw [wordsN_length]; exact hlt)] at gw
      have HOK := Lib.hid hok
      clear hok
      go_wp2
      go_quiet ((go_at_call 30; first | exact quiet_add_same (rotr_any _ _ _ he (by omega) (by omega)) | exact Calls.quiet_of_same (rotr_any _ _ _ he (by omega) (by omega))))
      go_wp2_with (go_at_call 30; refine (rotr_any _ _ _ ha (by omega) (by omega)).mono ?_; rintro e w' ⟨rfl, rfl⟩)
      rw [T1_cast HOK.out, T2_cast HOK.out]
      refine ⟨⟨k + 1, by omega, by go_num, ?_, rfl, rfl, rfl, ?_, rfl, rfl, rfl, _, rfl⟩, by simp [intOf]; omega⟩
      · show _ = Value.int .u32 ((roundN (roundsN (wordsN b 64) (s8 st) k) (at0 KN k) (at0 (wordsN b 64) k)).a : Int)
        unfold roundN; simp
      · show _ = Value.int .u32 ((roundN (roundsN (wordsN b 64) (s8 st) k) (at0 KN k) (at0 (wordsN b 64) k)).e : Int)
        unfold roundN; simp
    · obtain rfl : k = 64 := by omega
      clear hok ha he
      have RR := dR.out.drewN n
      replace RR := Lib.hid RR
      go_wp2_with (first
        | (refine wpList_store_row rfl 36 _ _ rfl (w.heap.size + 1 + 1) _ rfl rfl 36 _ RR.out ?si ?sj ?sk ?_))
      case si => exact info36
      case sj => go_light; simp [U32, pad]
      case sk => go_light; simp [Value.oneCell']
      refine bodyPost_ret (results_cell_row (P := Try.prog) (fn := Try.f22) rfl _ _ (w.heap.size + 1 + 1) 36 _ (0, 0) _ rfl (RR.out.row _) Try.underlying36 rfl info36) rfl ⟨?_, below_setRow (below_drewN bel.out n) (by omega) _⟩
      simp [U32, absorbN, addS]
end Go.Proofs.Ytiigbhpnlpbnjaa
