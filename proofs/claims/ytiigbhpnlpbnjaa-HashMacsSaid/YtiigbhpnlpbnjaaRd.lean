import Derived.Test.YtiigbhpnlpbnjaaRc
namespace Go.Proofs.Ytiigbhpnlpbnjaa
open Go.RowKit

theorem info39 : (Try.prog.info? 39).map (·.size) = some 8 := by kernel_rfl
def lst (s : S8) : List Nat := [s.a, s.b, s.c, s.d, s.e, s.f, s.g, s.h]
theorem U64_setAt (l : List Nat) (i v : Nat) : (U64 l).setIfInBounds i (.int .u64 (v : Int)) = U64 (l.set i v) := by
  unfold U64
  apply Array.ext'
  simp only [Array.toList_setIfInBounds, ← List.map_set]
theorem Blk.set64 {w : World} {g : Nat} {t : TypeId} {L : List Nat} (h : Blk w g t (U64 L)) (i x : Nat) :
    Blk (w.setCell ⟨g, i, none⟩ (.int .u64 (x : Int))) g t (U64 (L.set i x)) := by
  rw [← U64_setAt]
  exact h.set_ _ _
theorem lst_length (s : S8) : (lst s).length = 8 := rfl
theorem lst_s8 {st : List Nat} (h : st.length = 8) : lst (s8 st) = st := by
  match st, h with
  | [a, b, c, d, e, f, g, h'], _ => rfl

theorem U64_lst (s : S8) : U64 (lst s) = #[.int .u64 (s.a : Int), .int .u64 (s.b : Int), .int .u64 (s.c : Int), .int .u64 (s.d : Int), .int .u64 (s.e : Int), .int .u64 (s.f : Int), .int .u64 (s.g : Int), .int .u64 (s.h : Int)] := rfl
theorem roundN_b (s : S8) (k w : Nat) : (roundN s k w).b = s.a := rfl
theorem roundN_c (s : S8) (k w : Nat) : (roundN s k w).c = s.b := rfl
theorem roundN_d (s : S8) (k w : Nat) : (roundN s k w).d = s.c := rfl
theorem roundN_f (s : S8) (k w : Nat) : (roundN s k w).f = s.e := rfl
theorem roundN_g (s : S8) (k w : Nat) : (roundN s k w).g = s.f := rfl
theorem roundN_h (s : S8) (k w : Nat) : (roundN s k w).h = s.g := rfl
theorem at_addS (st : List Nat) (R : S8) (i : Nat) (hi : i < 8) : at0 (addS st R) i = (at0 st i + at0 (lst R) i) % 4294967296 := by
  match i, hi with
  | 0, _ => rfl
  | 1, _ => rfl
  | 2, _ => rfl
  | 3, _ => rfl
  | 4, _ => rfl
  | 5, _ => rfl
  | 6, _ => rfl
  | 7, _ => rfl
theorem lst_lt {R : S8} (h : R.Ok) : W32 (lst R) := by
  intro a ha
  simp only [lst, List.mem_cons, List.not_mem_nil, or_false] at ha
  rcases ha with rfl | rfl | rfl | rfl | rfl | rfl | rfl | rfl
  · exact h.a
  · exact h.b
  · exact h.c
  · exact h.d
  · exact h.e
  · exact h.f
  · exact h.g
  · exact h.h
theorem absorbN_eq (st b : List Nat) : absorbN st b = addS st (roundsN (wordsN b 64) (s8 st) 64) := rfl
theorem absorbN_length (st b : List Nat) : (absorbN st b).length = 8 := rfl
theorem usig1_lt {x : Nat} (hx : x < 4294967296) : usig1 x < 4294967296 := xor32 (xor32 (rotr_lt x _ hx) (rotr_lt x _ hx)) (rotr_lt x _ hx)
theorem usig0_lt {x : Nat} (hx : x < 4294967296) : usig0 x < 4294967296 := xor32 (xor32 (rotr_lt x _ hx) (rotr_lt x _ hx)) (rotr_lt x _ hx)
theorem ch_lt {s : S8} (h : s.Ok) : ch s.e s.f s.g < 4294967296 := xor32 (and32 h.e) (and32 (by omega))
theorem maj_lt {s : S8} (h : s.Ok) : maj s.a s.b s.c < 4294967296 := xor32 (xor32 (and32 h.a) (and32 h.a)) (and32 h.b)
theorem wrap64u (z : Int) : IntKind.u64.wrap z = z % 18446744073709551616 := by simp [IntKind.wrap, IntKind.bits, IntKind.signed]
theorem usig_cast64 {x i j k : Nat} (hx : x < 4294967296) :
    bits BinOp.xor IntKind.u64 (bits BinOp.xor IntKind.u64 (rotr x i : Int) (rotr x j : Int)) (rotr x k : Int) = ((rotr x i ^^^ rotr x j ^^^ rotr x k : Nat) : Int) := by
  have h1 := rotr_lt x i hx; have h2 := rotr_lt x j hx; have h3 := rotr_lt x k hx; have h4 := xor32 h1 h2
  rw [u64_xor_nat _ _ (by omega) (by omega), u64_xor_nat _ _ (by omega) (by omega)]
theorem X_cast {s : S8} (h : s.Ok) {kt wt : Nat} (hk : kt < 4294967296) (hw : wt < 4294967296) :
    IntKind.u64.wrap (IntKind.u64.wrap (IntKind.u64.wrap (IntKind.u64.wrap ((s.h : Int) + bits BinOp.xor IntKind.u64 (bits BinOp.xor IntKind.u64 (rotr s.e 6 : Int) (rotr s.e 11 : Int)) (rotr s.e 25 : Int)) +
      bits BinOp.xor IntKind.u64 (bits BinOp.and IntKind.u64 (s.e : Int) (s.f : Int)) (bits BinOp.and IntKind.u64 (4294967295 - (s.e : Int)) (s.g : Int))) + (kt : Int)) + (wt : Int)) = ((s.h + usig1 s.e + ch s.e s.f s.g + kt + wt : Nat) : Int) := by
  have he := h.e; have hf := h.f; have hg := h.g; have hh := h.h
  have hc := ch_lt h
  have hu := usig1_lt he
  have e1 : (4294967295 - (s.e : Int)) = ((4294967295 - s.e : Nat) : Int) := by omega
  have a1 : s.e &&& s.f < 4294967296 := and32 he
  have a2 : (4294967295 - s.e) &&& s.g < 4294967296 := and32 (by omega)
  have e2 : bits BinOp.xor IntKind.u64 (bits BinOp.and IntKind.u64 (s.e : Int) (s.f : Int)) (bits BinOp.and IntKind.u64 (4294967295 - (s.e : Int)) (s.g : Int)) = ((ch s.e s.f s.g : Nat) : Int) := by
    rw [e1, u64_and_nat _ _ (by omega) (by omega), u64_and_nat _ _ (by omega) (by omega), u64_xor_nat _ _ (by omega) (by omega)]
    rfl
  rw [e2, usig_cast64 he, wrap64u, wrap64u, wrap64u, wrap64u]
  unfold usig1 at *
  omega
theorem Y_cast {s : S8} (h : s.Ok) :
    IntKind.u64.wrap (bits BinOp.xor IntKind.u64 (bits BinOp.xor IntKind.u64 (rotr s.a 2 : Int) (rotr s.a 13 : Int)) (rotr s.a 22 : Int) +
      bits BinOp.xor IntKind.u64 (bits BinOp.xor IntKind.u64 (bits BinOp.and IntKind.u64 (s.a : Int) (s.b : Int)) (bits BinOp.and IntKind.u64 (s.a : Int) (s.c : Int))) (bits BinOp.and IntKind.u64 (s.b : Int) (s.c : Int))) = ((usig0 s.a + maj s.a s.b s.c : Nat) : Int) := by
  have ha := h.a; have hb := h.b; have hc := h.c
  have hm := maj_lt h
  have hu := usig0_lt ha
  have a1 : s.a &&& s.b < 4294967296 := and32 ha
  have a2 : s.a &&& s.c < 4294967296 := and32 ha
  have a3 : s.b &&& s.c < 4294967296 := and32 hb
  have a4 := xor32 a1 a2
  have e2 : bits BinOp.xor IntKind.u64 (bits BinOp.xor IntKind.u64 (bits BinOp.and IntKind.u64 (s.a : Int) (s.b : Int)) (bits BinOp.and IntKind.u64 (s.a : Int) (s.c : Int))) (bits BinOp.and IntKind.u64 (s.b : Int) (s.c : Int)) = ((maj s.a s.b s.c : Nat) : Int) := by
    rw [u64_and_nat _ _ (by omega) (by omega), u64_and_nat _ _ (by omega) (by omega), u64_and_nat _ _ (by omega) (by omega), u64_xor_nat _ _ (by omega) (by omega), u64_xor_nat _ _ (by omega) (by omega)]
    rfl
  rw [e2, usig_cast64 ha, wrap64u]
  unfold usig0 at *
  omega

set_option maxRecDepth 100000 in
set_option maxHeartbeats 2000000 in
theorem block_any (st b : List Nat) (g off c : Nat) (w : World) (hs : st.length = 8) (hs' : W32 st) (hb : b.length = 64) (hb' : W8 b) (hg : g < w.heap.size) (hcell : ∀ j, j < 64 → w.cell? ⟨g, off + j, none⟩ = some (.int .u8 ((at0 b j : Nat) : Int))) :
    Calls Try.prog 20 #[.agg (U64 st), .slice (some ⟨g, off, none⟩) 64 c] w fun e w' => e = .returned (.agg (U64 (absorbN st b))) ∧ Below w.heap.size w w' := by
  have HS := Lib.hid hs; have HS' := Lib.hid hs'; have HB := Lib.hid hb; have HB' := Lib.hid hb'; have HC := Lib.hid hcell
  clear hs hs' hb hb' hcell
  go_enter Try.func20, Try.ntmps20
  go_wp2_with fail
  have b0 : Below w.heap.size w ((w.alloc (Obj.cells (U64 st) 39)).alloc (Obj.cells (U64 (pad 8 [])) 39)) := ((Below.refl _ _).alloc (Nat.le_refl _) _).alloc (by simp) _
  have c0 : Blk ((w.alloc (Obj.cells (U64 st) 39)).alloc (Obj.cells (U64 (pad 8 [])) 39)) w.heap.size 39 (U64 st) := (Blk.new _ _ _).alloc _
  have c1 : Blk ((w.alloc (Obj.cells (U64 st) 39)).alloc (Obj.cells (U64 (pad 8 [])) 39)) (w.heap.size + 1) 39 (U64 (pad 8 [])) := by
    have := Blk.new (w.alloc (Obj.cells (U64 st) 39)) 39 (U64 (pad 8 []))
    rwa [show (w.alloc (Obj.cells (U64 st) 39)).heap.size = w.heap.size + 1 from by simp] at this
  refine (words_any b g off c ((w.alloc (Obj.cells (U64 st) 39)).alloc (Obj.cells (U64 (pad 8 [])) 39)) HB.out HB'.out (by simp; omega) (fun j hj => (b0.cell (p := ⟨g, off + j, none⟩) hg).trans (HC.out j hj))).mono ?_
  rintro e w1 ⟨v5, rfl, hown, hb1⟩
  obtain ⟨g5, c5, rfl, hc5, hbg5, hlg5, hcells⟩ := hown.form (by rw [wordsN_length]; omega)
  rw [wordsN_length] at hcells ⊢
  have b1 := b0.trans (hb1.mono b0.size)
  replace c0 := c0.below hb1 c0.lt
  replace c1 := c1.below hb1 c1.lt
  have C0 := Lib.hid c0; have C1 := Lib.hid c1; have B1 := Lib.hid b1; have W5 := Lib.hid hcells
  clear c0 c1 b0 b1 hb1 hown hcells hc5 hbg5
  go_wp2_with fail
  refine (rtable_any _).mono ?_
  rintro e w2 ⟨rfl, rfl⟩
  have ba : Below w1.heap.size w1 (w1.alloc (Obj.cells (U64 KN) 38)) := (Below.refl _ _).alloc (Nat.le_refl _) _
  have c0 := C0.out.below ba C0.out.lt
  have c1 := C1.out.below ba C1.out.lt
  have c6 := Blk.new w1 38 (U64 KN)
  have b1 := B1.out.trans (ba.mono B1.out.size)
  have w5 : ∀ j, j < 64 → (w1.alloc (Obj.cells (U64 KN) 38)).cell? ⟨g5, j, none⟩ = some (.int .u64 ((at0 (wordsN b 64) j : Nat) : Int)) := fun j hj => (ba.cell (p := ⟨g5, j, none⟩) hlg5).trans (W5.out j hj)
  have hlg5' : g5 < (w1.alloc (Obj.cells (U64 KN) 38)).heap.size := Nat.lt_of_lt_of_le hlg5 ba.size
  generalize w1.alloc (Obj.cells (U64 KN) 38) = W2 at *
  generalize w1.heap.size = g6 at *
  replace C0 := Lib.hid c0; replace C1 := Lib.hid c1; replace B1 := Lib.hid b1; replace W5 := Lib.hid w5; have C6 := Lib.hid c6
  clear c0 c1 b1 w5 c6 ba hlg5
  go_upto_region 4 with (first
    | (refine wpList_load_blk rfl 39 (.tmp 2) rfl w.heap.size rfl 39 (U64 st) _ 8 C0.out Try.underlying39 rfl info39 (by rw [U64_size, HS.out]) ?_)
    | (refine wpList_store_new rfl 39 (.tmp 7) (.tmp 18) rfl (U64 st) rfl rfl 39 _ (by rw [U64_size, HS.out]; exact info39) (by rw [U64_size, HS.out]; rfl) (U64_one _) ?_))
  have ba : Below W2.heap.size W2 (W2.alloc (Obj.cells (U64 st) 39)) := (Below.refl _ _).alloc (Nat.le_refl _) _
  have c0 := C0.out.below ba C0.out.lt
  have c1 := C1.out.below ba C1.out.lt
  have c6 := C6.out.below ba C6.out.lt
  have c7 := Blk.new W2 39 (U64 st)
  have b1 := B1.out.trans (ba.mono B1.out.size)
  have w5 : ∀ j, j < 64 → (W2.alloc (Obj.cells (U64 st) 39)).cell? ⟨g5, j, none⟩ = some (.int .u64 ((at0 (wordsN b 64) j : Nat) : Int)) := fun j hj => (ba.cell (p := ⟨g5, j, none⟩) hlg5').trans (W5.out j hj)
  have n5 : g5 < W2.heap.size := hlg5'
  have n6 : g6 < W2.heap.size := C6.out.lt
  have n1 : w.heap.size + 1 < W2.heap.size := C1.out.lt
  generalize W2.alloc (Obj.cells (U64 st) 39) = W at *
  generalize W2.heap.size = g7 at *
  replace C0 := Lib.hid c0; replace C1 := Lib.hid c1; replace B1 := Lib.hid b1; replace W5 := Lib.hid w5; replace C6 := Lib.hid c6; have C7 := Lib.hid c7
  clear c0 c1 b1 w5 c6 c7 ba hlg5'
  clear W2 w1
  go_wp2
  go_loopw [8] (fun i wr => ∃ k : Nat, k ≤ 64 ∧ i = .int .i64 k ∧ Below g7 W wr ∧ Blk wr g7 39 (U64 (lst (roundsN (wordsN b 64) (s8 st) k)))) (fun i _ => 64 - (intOf i).toNat)
  case atStart => exact ⟨0, by omega, rfl, Below.refl _ _, by show Blk W g7 39 (U64 (lst (s8 st))); rw [lst_s8 HS.out]; exact C7.out⟩
  case round =>
    obtain ⟨k, hk, rfl, hbel, h7⟩ := hrel
    have hok := roundsN_ok (W := wordsN b 64) (s8_ok HS'.out) k
    by_cases hlt : k < 64
    · have hkk : roundsN (wordsN b 64) (s8 st) (k + 1) = roundN (roundsN (wordsN b 64) (s8 st) k) (at0 KN k) (at0 (wordsN b 64) k) := rfl
      generalize roundsN (wordsN b 64) (s8 st) k = s at *
      have q0 := h7.cell 0; have q1 := h7.cell 1; have q2 := h7.cell 2; have q3 := h7.cell 3
      have q4 := h7.cell 4; have q5 := h7.cell 5; have q6 := h7.cell 6; have q7 := h7.cell 7
      rw [U64_get (by rw [lst_length]; omega)] at q0 q1 q2 q3 q4 q5 q6 q7
      replace q0 : wr.cell? ⟨g7, 0, none⟩ = some (.int .u64 (s.a : Int)) := q0
      replace q1 : wr.cell? ⟨g7, 1, none⟩ = some (.int .u64 (s.b : Int)) := q1
      replace q2 : wr.cell? ⟨g7, 2, none⟩ = some (.int .u64 (s.c : Int)) := q2
      replace q3 : wr.cell? ⟨g7, 3, none⟩ = some (.int .u64 (s.d : Int)) := q3
      replace q4 : wr.cell? ⟨g7, 4, none⟩ = some (.int .u64 (s.e : Int)) := q4
      replace q5 : wr.cell? ⟨g7, 5, none⟩ = some (.int .u64 (s.f : Int)) := q5
      replace q6 : wr.cell? ⟨g7, 6, none⟩ = some (.int .u64 (s.g : Int)) := q6
      replace q7 : wr.cell? ⟨g7, 7, none⟩ = some (.int .u64 (s.h : Int)) := q7
      have qk := (hbel.cell (p := ⟨g6, k, none⟩) n6).trans (C6.out.cell k)
      rw [U64_get (by rw [KN_length]; exact hlt)] at qk
      have qw := (hbel.cell (p := ⟨g5, k, none⟩) n5).trans (W5.out k hlt)
      have Lk := KN_lt.at k
      have Lw := (wordsN_lt HB'.out 64).at k
      generalize at0 KN k = kt at *
      generalize at0 (wordsN b 64) k = wt at *
      have ha := hok.a; have he := hok.e
      have he' : (s.e : Int) ≤ 4294967295 := by omega
      have hlt' : (k : Int) < 64 := by omega
      have HOK := Lib.hid hok; have HKK := Lib.hid hkk; have BEL := Lib.hid hbel; have H7 := Lib.hid h7
      clear hok hkk hbel h7
      go_upto_region 10 with fail
      go_quiet ((go_at_call 27; exact Calls.quiet_of_same (turn_any _ _ _ he (by omega) (by omega))))
      go_upto_region 11 with fail
      rw [X_cast HOK.out Lk Lw]
      obtain ⟨X, hX⟩ : ∃ X, X = s.h + usig1 s.e + ch s.e s.f s.g + kt + wt := ⟨_, rfl⟩
      rw [← hX]
      have hXl : X < 5 * 4294967296 := by have h1 := usig1_lt he; have h2 := ch_lt HOK.out; have h3 := HOK.out.h; omega
      have HX := Lib.hid hX
      clear hX
      replace q0 : (wr.drewN nq).cell? _ = _ := q0
      replace q1 : (wr.drewN nq).cell? _ = _ := q1
      replace q2 : (wr.drewN nq).cell? _ = _ := q2
      replace q3 : (wr.drewN nq).cell? _ = _ := q3
      replace q4 : (wr.drewN nq).cell? _ = _ := q4
      replace q5 : (wr.drewN nq).cell? _ = _ := q5
      replace q6 : (wr.drewN nq).cell? _ = _ := q6
      clear q7 qk qw
      replace BEL := Lib.hid (below_drewN BEL.out nq)
      replace H7 := Lib.hid (H7.out.drewN nq)
      generalize wr.drewN nq = wr2 at *
      clear nq
      go_quiet ((go_at_call 27; exact Calls.quiet_of_same (turn_any _ _ _ ha (by omega) (by omega))))
      go_upto_region 12 with fail
      rw [Y_cast HOK.out]
      obtain ⟨Y, hY⟩ : ∃ Y, Y = usig0 s.a + maj s.a s.b s.c := ⟨_, rfl⟩
      rw [← hY]
      have hYl : Y < 2 * 4294967296 := by have h1 := usig0_lt ha; have h2 := maj_lt HOK.out; omega
      have HY := Lib.hid hY
      clear hY
      replace q0 : (wr2.drewN nq).cell? _ = _ := q0
      replace q1 : (wr2.drewN nq).cell? _ = _ := q1
      replace q2 : (wr2.drewN nq).cell? _ = _ := q2
      replace q3 : (wr2.drewN nq).cell? _ = _ := q3
      replace q4 : (wr2.drewN nq).cell? _ = _ := q4
      replace q5 : (wr2.drewN nq).cell? _ = _ := q5
      replace q6 : (wr2.drewN nq).cell? _ = _ := q6
      replace BEL := Lib.hid (below_drewN BEL.out nq)
      replace H7 := Lib.hid (H7.out.drewN nq)
      generalize wr2.drewN nq = wr3 at *
      clear nq
      have hd := HOK.out.d
      have hd' : (s.d : Int) < 4294967296 := by omega
      have hX' : (X : Int) < 21474836480 := by omega
      have hY' : (Y : Int) < 8589934592 := by omega
      go_wp2_with (refine wpList_store_blk rfl 39 (.tmp 7) (.tmp 105) rfl g7 _ rfl rfl 39 _ 8 H7.out info39 ?s1 ?s2 ?s3 ?_)
      case s1 => go_light; simp
      case s2 => go_light; simp [U64, lst]
      case s3 => go_light; simp [Value.oneCell']
      refine ⟨⟨k + 1, by omega, by go_num, below_setRow BEL.out (Nat.le_refl _) _, ?_⟩, by simp [intOf]; omega⟩
      rw [HKK.out]
      have e1 : ((X : Int) + (Y : Int)) % 4294967296 = ((roundN s kt wt).a : Int) := by
        show _ = (((T1 s kt wt + T2 s) % 4294967296 : Nat) : Int)
        unfold T1 T2
        rw [← HX.out, ← HY.out]
        omega
      have e2 : ((s.d : Int) + (X : Int)) % 4294967296 = ((roundN s kt wt).e : Int) := by
        show _ = (((s.d + T1 s kt wt) % 4294967296 : Nat) : Int)
        unfold T1
        rw [← HX.out]
        omega
      rw [e1, e2, U64_lst (roundN s kt wt), roundN_b, roundN_c, roundN_d, roundN_f, roundN_g, roundN_h]
      exact H7.out.row _
    · obtain rfl : k = 64 := by omega
      have habs := absorbN_eq st b
      generalize roundsN (wordsN b 64) (s8 st) 64 = R at *
      have c0 := C0.out.below hbel (by omega)
      have c1 := C1.out.below hbel n1
      have b1 := B1.out.trans (hbel.mono (by omega))
      have HABS := Lib.hid habs; have HOK := Lib.hid hok
      replace C0 := Lib.hid c0; replace C1 := Lib.hid c1; replace B1 := Lib.hid b1; replace C7 := Lib.hid h7
      clear c0 c1 b1 h7 hbel habs hok C6 W5
      rw [show ((64 : Nat) : Int) = 64 from rfl]
      go_wp2
      go_loopw [14] (fun i wr => ∃ k : Nat, k ≤ 8 ∧ i = .int .i64 k ∧ Below w.heap.size w wr ∧ Blk wr w.heap.size 39 (U64 ((absorbN st b).take k ++ st.drop k)) ∧ Blk wr (w.heap.size + 1) 39 (U64 (pad 8 [])) ∧ Blk wr g7 39 (U64 (lst R))) (fun i _ => 8 - (intOf i).toNat)
      case atStart => exact ⟨0, by omega, rfl, B1.out, C0.out, C1.out, C7.out⟩
      case round =>
        clear C0 C1 C7 B1
        obtain ⟨i, hi, rfl, hbel, h0, h1, h7⟩ := hrel
        have hal := absorbN_length st b
        by_cases hlt2 : i < 8
        · have lk : ((absorbN st b).take i).length = i := by rw [List.length_take, hal]; omega
          have cq := h0.cell i
          rw [U64_get (by rw [List.length_append, lk, List.length_drop, HS.out]; omega), at0_append_right (by omega), lk, at0_drop, Nat.sub_self, Nat.add_zero] at cq
          have fq := h0.frozen i
          have cs := h7.cell i
          rw [U64_get (by rw [lst_length]; exact hlt2)] at cs
          have hx1 : at0 st i < 4294967296 := HS'.out.at i
          have hx2 : at0 (lst R) i < 4294967296 := (lst_lt HOK.out).at i
          have hat : at0 (absorbN st b) i = (at0 st i + at0 (lst R) i) % 4294967296 := by rw [HABS.out]; exact at_addS st R i hlt2
          generalize at0 st i = p at *
          generalize at0 (lst R) i = q at *
          obtain ⟨z, hz⟩ : ∃ z, z = (p + q) % 4294967296 := ⟨_, rfl⟩
          have hw : IntKind.u64.wrap ((p : Int) + (q : Int)) = ((p + q : Nat) : Int) := by rw [wrap64u]; omega
          have hm : ((p + q : Nat) : Int).tmod 4294967296 = (z : Int) := by rw [Int.tmod_eq_emod_of_nonneg (by omega), hz]; omega
          have hsm := set_mid (absorbN st b) st i (by omega) (by rw [HS.out]; exact hlt2)
          rw [hat, ← hz] at hsm
          have HSM := Lib.hid hsm; have H0 := Lib.hid h0; have H1 := Lib.hid h1; have H7 := Lib.hid h7; have BEL := Lib.hid hbel
          obtain ⟨pq, hpq⟩ : ∃ pq, pq = p + q := ⟨_, rfl⟩
          rw [← hpq] at hw hm
          clear hsm h0 h1 h7 hbel hat hz lk hal hpq
          have hi' : (i : Int) < 8 := by omega
          go_upto_region 16 with fail
          go_still_tail 10, (by kernel_rfl)
          rw [fold_drew]
          go_wp2
          have p0 := H0.out.set64 i z
          rw [HSM.out] at p0
          refine ⟨⟨i + 1, by omega, by go_num, ?_, ?_, ?_, ?_⟩, by simp [intOf]; omega⟩
          · exact below_drewN (BEL.out.setCell (by simp) _) 1
          · exact p0.drew
          · exact (H1.out.far (by simp) _).drew
          · exact (H7.out.far (by simp; omega) _).drew
        · obtain rfl : i = 8 := by omega
          have e8 : (absorbN st b).take 8 ++ st.drop 8 = absorbN st b := by
            rw [List.take_of_length_le (by rw [absorbN_length]; omega), List.drop_of_length_le (by rw [HS.out]; omega), List.append_nil]
          rw [e8] at h0
          have H0 := Lib.hid h0; have H1 := Lib.hid h1; have BEL := Lib.hid hbel
          clear h0 h1 h7 hbel e8
          generalize hA : absorbN st b = A at *
          have HAL := Lib.hid hal
          clear hal
          rw [show ((8 : Nat) : Int) = 8 from rfl]
          go_wp2_with (first
            | (refine wpList_load_blk rfl 39 (.tmp 2) rfl w.heap.size rfl 39 (U64 A) _ 8 H0.out Try.underlying39 rfl info39 (by rw [U64_size, HAL.out]) ?_)
            | (refine wpList_store_blk rfl 39 (.tmp 4) (.tmp 120) rfl (w.heap.size + 1) (U64 A) rfl rfl 39 _ 8 H1.out info39 (by rw [U64_size, HAL.out]) (by rw [U64_size]; rfl) (U64_one _) ?_))
          exact bodyPost_ret (results_cell_row (P := Try.prog) (fn := Try.f20) rfl _ _ (w.heap.size + 1) 39 (U64 A) (0, 0) _ rfl (H1.out.row _) Try.underlying39 rfl (by rw [U64_size, HAL.out]; exact info39)) rfl ⟨by rw [hA], below_setRow BEL.out (by omega) _⟩
end Go.Proofs.Ytiigbhpnlpbnjaa
