import Derived.Test.YtiigbhpnlpbnjaaWa
namespace Go.Proofs.Ytiigbhpnlpbnjaa
open Go.RowKit

def Blk (w : World) (g : Nat) (t : TypeId) (cs : Array Value) : Prop := w.heap[g]? = some (.cells cs t (0, 0))
section
variable {w w' : World} {g : Nat} {t : TypeId} {cs : Array Value}
theorem Blk.lt (h : Blk w g t cs) : g < w.heap.size := by
  rcases Nat.lt_or_ge g w.heap.size with hlt | hge
  · exact hlt
  · unfold Blk at h; rw [Array.getElem?_eq_none hge] at h; cases h
theorem Blk.cell (h : Blk w g t cs) (i : Nat) : w.cell? ⟨g, i, none⟩ = cs[i]? := cell_of_row w g i cs t (0, 0) h
theorem Blk.frozen (h : Blk w g t cs) (i : Nat) : w.frozen? ⟨g, i, none⟩ = false := by
  unfold Blk at h
  simp [World.frozen?, h]
theorem Blk.new (w : World) (t : TypeId) (cs : Array Value) : Blk (w.alloc (.cells cs t)) w.heap.size t cs := heap_alloc_new w _
theorem Blk.drew (h : Blk w g t cs) : Blk w.drew g t cs := h
theorem Blk.drewN (h : Blk w g t cs) (n : Nat) : Blk (w.drewN n) g t cs := h
theorem Blk.alloc (h : Blk w g t cs) (o : Obj) : Blk (w.alloc o) g t cs := (Below.heap_alloc w o g h.lt).trans h
theorem Blk.set_ (h : Blk w g t cs) (i : Nat) (u : Value) : Blk (w.setCell ⟨g, i, none⟩ u) g t (cs.setIfInBounds i u) := by
  unfold Blk at h ⊢
  simp [World.setCell, Array.getElem?_modify, h]
theorem Blk.far (h : Blk w g t cs) {p : Addr} (hp : g ≠ p.block) (u : Value) : Blk (w.setCell p u) g t cs := (Below.heap_setCell w p u g hp).trans h
theorem Blk.below {B : Nat} (h : Blk w g t cs) (hb : Below B w w') (hg : g < B) : Blk w' g t cs := (hb.block g hg).trans h
theorem Blk.row (h : Blk w g t cs) (cs' : Array Value) : Blk (w.setRow g cs') g t cs' := by
  unfold Blk at h ⊢
  simp [World.setRow, Array.getElem?_modify, h]
theorem Blk.rowFar (h : Blk w g t cs) {g' : Nat} (hg : g ≠ g') (cs' : Array Value) : Blk (w.setRow g' cs') g t cs := by
  unfold Blk at h ⊢
  simp [World.setRow, Array.getElem?_modify, h]; omega
end
theorem below_setRow {B : Nat} {a w : World} (h : Below B a w) {g : Nat} (hp : B ≤ g) (cs : Array Value) : Below B a (w.setRow g cs) :=
  h.trans ⟨rfl, rfl, rfl, by simp, fun k hk => by simp [World.setRow, Array.getElem?_modify]; omega⟩
theorem below_drewN {B : Nat} {a w : World} (h : Below B a w) (n : Nat) : Below B a (w.drewN n) := ⟨h.os, h.tape, h.output, h.size, h.block⟩

theorem info51 : (Try.prog.info? 51).map (·.size) = some 64 := by kernel_rfl
theorem info42 : (Try.prog.info? 42).map (·.size) = some 64 := by kernel_rfl
theorem info24 : (Try.prog.info? 24).map (·.size) = some 32 := by kernel_rfl
theorem info36 : (Try.prog.info? 36).map (·.size) = some 8 := by kernel_rfl
theorem U32_one (l : List Nat) : (U32 l).all (·.oneCell') = true := by simp [U32, Value.oneCell']
theorem B8_one (l : List Nat) : (B8 l).all (·.oneCell') = true := by simp [B8, Value.oneCell']
theorem fold_drew (w : World) : ({ heap := w.heap, tape := w.tape, drawn := w.drawn + 1, os := w.os, output := w.output } : World) = w.drew := rfl
def pad (n : Nat) (l : List Nat) : List Nat := l ++ List.replicate (n - l.length) 0
theorem pad_length {n : Nat} {l : List Nat} (h : l.length ≤ n) : (pad n l).length = n := by simp [pad]; omega
theorem at0_pad {n : Nat} {l : List Nat} {k : Nat} : at0 (pad n l) k = at0 l k := by
  by_cases h : k < l.length
  · exact at0_append_left h
  · rw [pad, at0_append_right (by omega), at0_out (l := l) (by omega)]
    unfold at0
    simp only [List.getD_eq_getElem?_getD, List.getElem?_replicate]; split <;> rfl
theorem U32_set (n : Nat) (l : List Nat) (x : Nat) (h : l.length < n) : (U32 (pad n l)).setIfInBounds l.length (.int .u32 (x : Int)) = U32 (pad n (l ++ [x])) := by
  unfold U32 pad
  apply Array.ext'
  simp only [Array.toList_setIfInBounds, List.length_append, List.length_singleton]
  rw [← List.map_set]
  congr 1
  rw [List.set_append_right (h := Nat.le_refl _), Nat.sub_self, show n - l.length = (n - (l.length + 1)) + 1 by omega, List.replicate_succ]
  simp
theorem B8_set (n : Nat) (l : List Nat) (x : Nat) (h : l.length < n) : (B8 (pad n l)).setIfInBounds l.length (.int .u8 (x : Int)) = B8 (pad n (l ++ [x])) := by
  unfold B8 pad
  apply Array.ext'
  simp only [Array.toList_setIfInBounds, List.length_append, List.length_singleton]
  rw [← List.map_set]
  congr 1
  rw [List.set_append_right (h := Nat.le_refl _), Nat.sub_self, show n - l.length = (n - (l.length + 1)) + 1 by omega, List.replicate_succ]
  simp
theorem wordsN_length (b : List Nat) (k : Nat) : (wordsN b k).length = k := by
  induction k with
  | zero => rfl
  | succ k ih => simp [wordsN, ih]

theorem word_lt {b : List Nat} (h : W8 b) (k : Nat) : word b k < 4294967296 := by
  have h0 := h.at (4 * k); have h1 := h.at (4 * k + 1); have h2 := h.at (4 * k + 2); have h3 := h.at (4 * k + 3)
  unfold word; omega
theorem word_cast {b : List Nat} (h : W8 b) (k : Nat) :
    bits BinOp.or IntKind.u32
      (bits BinOp.or IntKind.u32
        (bits BinOp.or IntKind.u32 ((at0 b (4 * k) : Int) % 4294967296 * 16777216 % 4294967296)
          ((at0 b (4 * k + 1) : Int) % 4294967296 * 65536 % 4294967296))
        ((at0 b (4 * k + 2) : Int) % 4294967296 * 256 % 4294967296))
      ((at0 b (4 * k + 3) : Int) % 4294967296) = ((word b k : Nat) : Int) := by
  have h0 := h.at (4 * k); have h1 := h.at (4 * k + 1); have h2 := h.at (4 * k + 2); have h3 := h.at (4 * k + 3)
  unfold word
  generalize at0 b (4 * k) = x0 at *
  generalize at0 b (4 * k + 1) = x1 at *
  generalize at0 b (4 * k + 2) = x2 at *
  generalize at0 b (4 * k + 3) = x3 at *
  rw [show ((x0 : Int) % 4294967296 * 16777216 % 4294967296) = ((x0 * 16777216 : Nat) : Int) by omega,
    show ((x1 : Int) % 4294967296 * 65536 % 4294967296) = ((x1 * 65536 : Nat) : Int) by omega,
    show ((x2 : Int) % 4294967296 * 256 % 4294967296) = ((x2 * 256 : Nat) : Int) by omega,
    show ((x3 : Int) % 4294967296) = (x3 : Int) by omega]
  rw [u32_or_nat _ _ (by omega) (by omega), nat_join 24 _ _ (by omega) (by omega), u32_or_nat _ _ (by omega) (by omega), nat_join 16 _ _ (by omega) (by omega),
    u32_or_nat _ _ (by omega) (by omega), nat_join 8 _ _ (by omega) (by omega)]

theorem xor32 {x y : Nat} (hx : x < 4294967296) (hy : y < 4294967296) : x ^^^ y < 4294967296 := Nat.xor_lt_two_pow (n := 32) hx hy
theorem sig_cast {x i j d : Nat} (hx : x < 4294967296) :
    bits BinOp.xor IntKind.u32 (bits BinOp.xor IntKind.u32 (rotr x i : Int) (rotr x j : Int)) ((x : Int) / (d : Int)) = ((rotr x i ^^^ rotr x j ^^^ (x / d) : Nat) : Int) := by
  rw [← Int.natCast_ediv, u32_xor_nat _ _ (rotr_lt x i hx) (rotr_lt x j hx), u32_xor_nat _ _ (xor32 (rotr_lt x i hx) (rotr_lt x j hx)) (Nat.lt_of_le_of_lt (Nat.div_le_self _ _) hx)]
theorem ext_cast {l : List Nat} (hl : W32 l) (k : Nat) :
    (bits BinOp.xor IntKind.u32 (bits BinOp.xor IntKind.u32 (rotr (at0 l (k - 2)) 17 : Int) (rotr (at0 l (k - 2)) 19 : Int)) ((at0 l (k - 2) : Int) / 1024) + (at0 l (k - 7) : Int) +
      bits BinOp.xor IntKind.u32 (bits BinOp.xor IntKind.u32 (rotr (at0 l (k - 15)) 7 : Int) (rotr (at0 l (k - 15)) 18 : Int)) ((at0 l (k - 15) : Int) / 8) + (at0 l (k - 16) : Int)) % 4294967296 = ((extW l k : Nat) : Int) := by
  have h1 := sig_cast (x := at0 l (k - 2)) (i := 17) (j := 19) (d := 1024) (hl.at _)
  have h2 := sig_cast (x := at0 l (k - 15)) (i := 7) (j := 18) (d := 8) (hl.at _)
  rw [show ((1024 : Nat) : Int) = 1024 from rfl] at h1
  rw [show ((8 : Nat) : Int) = 8 from rfl] at h2
  rw [h1, h2]
  unfold extW lsig1 lsig0
  omega

theorem wordsN_lt {b : List Nat} (h : W8 b) (k : Nat) : W32 (wordsN b k) := by
  induction k with
  | zero => intro a ha; cases ha
  | succ k ih =>
    intro a ha
    simp only [wordsN, List.mem_append, List.mem_singleton] at ha
    rcases ha with ha | rfl
    · exact ih a ha
    · split
      · exact word_lt h k
      · unfold extW; omega

set_option maxRecDepth 100000 in
set_option maxHeartbeats 1000000 in
theorem schedule_any (b : List Nat) (w : World) (hb : b.length = 64) (hb' : W8 b) :
    Calls Try.prog 29 #[.agg (B8 b)] w fun e w' => e = .returned (.agg (U32 (wordsN b 64))) ∧ Below w.heap.size w w' := by
  have HB := Lib.hid hb; have HB' := Lib.hid hb'
  clear hb hb'
  go_enter Try.func29, Try.ntmps29
  go_wp2
  go_loopw [8] (fun i wr => ∃ k : Nat, k ≤ 16 ∧ i = .int .i64 k ∧ Below w.heap.size w wr ∧ wr.heap.size = w.heap.size + 3 ∧ Blk wr w.heap.size 42 (B8 b) ∧ Blk wr (w.heap.size + 1) 51 (U32 (pad 64 [])) ∧ Blk wr (w.heap.size + 1 + 1) 51 (U32 (pad 64 (wordsN b k)))) (fun i _ => 16 - (intOf i).toNat)
  case atStart =>
    refine ⟨0, by omega, rfl, (((Below.refl _ _).alloc (Nat.le_refl _) _).alloc (by simp) _).alloc (by simp; omega) _, by simp, ((Blk.new _ _ _).alloc _).alloc _, ?_, ?_⟩
    · have := (Blk.new (w.alloc (Obj.cells (B8 b) 42)) 51 (U32 (pad 64 []))).alloc (Obj.cells (U32 (pad 64 [])) 51)
      rw [show (w.alloc (Obj.cells (B8 b) 42)).heap.size = w.heap.size + 1 from by simp] at this
      exact this
    · have := Blk.new ((w.alloc (Obj.cells (B8 b) 42)).alloc (Obj.cells (U32 (pad 64 [])) 51)) 51 (U32 (pad 64 []))
      rw [show ((w.alloc (Obj.cells (B8 b) 42)).alloc (Obj.cells (U32 (pad 64 [])) 51)).heap.size = w.heap.size + 1 + 1 from by simp] at this
      exact this
  case round =>
    obtain ⟨k, hk, rfl, hbel, hsz, hb0, hb1, hb2⟩ := hrel
    have HBEL := Lib.hid hbel; have HSZ := Lib.hid hsz; have H0 := Lib.hid hb0; have H1 := Lib.hid hb1; have H2 := Lib.hid hb2
    clear hbel hsz hb0 hb1 hb2
    by_cases hlt : k < 16
    · have g0 : ∀ j, j < 4 → wr.cell? ⟨w.heap.size, 4 * k + j, none⟩ = some (.int .u8 ((at0 b (4 * k + j) : Nat) : Int)) := fun j hj => by
        rw [H0.out.cell, B8_get (by rw [HB.out]; omega)]
      have q0 := g0 0 (by omega)
      have q1 := g0 1 (by omega)
      have q2 := g0 2 (by omega)
      have q3 := g0 3 (by omega)
      simp only [Nat.add_zero] at q0
      have qs : ∃ u, wr.cell? ⟨w.heap.size + 1 + 1, k, none⟩ = some u := ⟨_, by rw [H2.out.cell, U32_get (by rw [pad_length (by rw [wordsN_length]; omega)]; omega)]⟩
      obtain ⟨u, qs⟩ := qs
      have qf := H2.out.frozen k
      clear g0
      have i0 : IntKind.i64.wrap (4 * (k : Int)) = 4 * (k : Int) := IntWalk.i64_in _ (by omega)
      have i1 : IntKind.i64.wrap (4 * (k : Int) + 1) = 4 * (k : Int) + 1 := IntWalk.i64_in _ (by omega)
      have i2 : IntKind.i64.wrap (4 * (k : Int) + 2) = 4 * (k : Int) + 2 := IntWalk.i64_in _ (by omega)
      have i3 : IntKind.i64.wrap (4 * (k : Int) + 3) = 4 * (k : Int) + 3 := IntWalk.i64_in _ (by omega)
      have n0 : (4 * (k : Int)).toNat = 4 * k := by omega
      have n1 : (4 * (k : Int) + 1).toNat = 4 * k + 1 := by omega
      have n2 : (4 * (k : Int) + 2).toNat = 4 * k + 2 := by omega
      have n3 : (4 * (k : Int) + 3).toNat = 4 * k + 3 := by omega
      have p0 : 0 ≤ 4 * (k : Int) := by omega
      have p1 : 0 ≤ 4 * (k : Int) + 1 := by omega
      have p2 : 0 ≤ 4 * (k : Int) + 2 := by omega
      have p3 : 0 ≤ 4 * (k : Int) + 3 := by omega
      have r0 : 4 * (k : Int) < 64 := by omega
      have r1 : 4 * (k : Int) + 1 < 64 := by omega
      have r2 : 4 * (k : Int) + 2 < 64 := by omega
      have r3 : 4 * (k : Int) + 3 < 64 := by omega
      have r4 : k < 64 := by omega
      have r5 : (k : Int) < 64 := by omega
      go_wp2
      go_still_tail 31, (by kernel_rfl)
      go_wp2
      rw [word_cast HB'.out]
      have hw : wordsN b (k + 1) = wordsN b k ++ [word b k] := by simp [wordsN, hlt]
      have hu := U32_set 64 (wordsN b k) (word b k) (by rw [wordsN_length]; omega)
      rw [wordsN_length] at hu
      refine ⟨⟨k + 1, by omega, by go_num, (HBEL.out.setCell (by simp; omega) _).drew, ?_, (H0.out.far (by simp; omega) _).drew, (H1.out.far (by simp) _).drew, ?_⟩, by simp [intOf]; omega⟩
      · simp [HSZ.out, World.setCell, World.drew]
      · rw [hw, ← hu]; exact (H2.out.set_ k _).drew
    · obtain rfl : k = 16 := by omega
      rw [show ((16 : Nat) : Int) = 16 from rfl]
      go_wp2
      go_loopw [5] (fun i wr => ∃ k : Nat, k ≤ 64 ∧ 16 ≤ k ∧ i = .int .i64 k ∧ Below w.heap.size w wr ∧ wr.heap.size = w.heap.size + 3 ∧ Blk wr (w.heap.size + 1) 51 (U32 (pad 64 [])) ∧ Blk wr (w.heap.size + 1 + 1) 51 (U32 (pad 64 (wordsN b k)))) (fun i _ => 64 - (intOf i).toNat)
      case atStart => exact ⟨16, by omega, by omega, rfl, HBEL.out, HSZ.out, H1.out, H2.out⟩
      case round =>
        clear HBEL HSZ H0 H1 H2
        rename_i wr0 _ _ _ _ 
        obtain ⟨k, hk, hk', rfl, hbel, hsz, hb1, hb2⟩ := hrel
        have HBEL := Lib.hid hbel; have HSZ := Lib.hid hsz; have H1 := Lib.hid hb1; have H2 := Lib.hid hb2
        clear hbel hsz hb1 hb2
        by_cases hlt : k < 64
        · have gc : ∀ j, j < 64 → wr.cell? ⟨w.heap.size + 1 + 1, j, none⟩ = some (.int .u32 ((at0 (wordsN b k) j : Nat) : Int)) := fun j hj => by
            rw [H2.out.cell, U32_get (by rw [pad_length (by rw [wordsN_length]; omega)]; omega), at0_pad]
          have c2 := gc (k - 2) (by omega)
          have c7 := gc (k - 7) (by omega)
          have c15 := gc (k - 15) (by omega)
          have c16 := gc (k - 16) (by omega)
          have ck := gc k (by omega)
          have qf := H2.out.frozen k
          clear gc
          have L2 := (wordsN_lt HB'.out k).at (k - 2)
          have L7 := (wordsN_lt HB'.out k).at (k - 7)
          have L15 := (wordsN_lt HB'.out k).at (k - 15)
          have L16 := (wordsN_lt HB'.out k).at (k - 16)
          have i2 : IntKind.i64.wrap ((k : Int) - 2) = (k : Int) - 2 := IntWalk.i64_in _ (by omega)
          have i7 : IntKind.i64.wrap ((k : Int) - 7) = (k : Int) - 7 := IntWalk.i64_in _ (by omega)
          have i15 : IntKind.i64.wrap ((k : Int) - 15) = (k : Int) - 15 := IntWalk.i64_in _ (by omega)
          have i16 : IntKind.i64.wrap ((k : Int) - 16) = (k : Int) - 16 := IntWalk.i64_in _ (by omega)
          have n2 : ((k : Int) - 2).toNat = k - 2 := by omega
          have n7 : ((k : Int) - 7).toNat = k - 7 := by omega
          have n15 : ((k : Int) - 15).toNat = k - 15 := by omega
          have n16 : ((k : Int) - 16).toNat = k - 16 := by omega
          have p2 : 0 ≤ (k : Int) - 2 := by omega
          have p7 : 0 ≤ (k : Int) - 7 := by omega
          have p15 : 0 ≤ (k : Int) - 15 := by omega
          have p16 : 0 ≤ (k : Int) - 16 := by omega
          have r2 : (k : Int) - 2 < 64 := by omega
          have r7 : (k : Int) - 7 < 64 := by omega
          have r15 : (k : Int) - 15 < 64 := by omega
          have r16 : (k : Int) - 16 < 64 := by omega
          have m2 : 2 ≤ k := by omega
          have m2' : (2 : Int) ≤ k := by omega
          have l2 : k < 66 := by omega
          have l2' : (k : Int) < 66 := by omega
          have m7 : 7 ≤ k := by omega
          have m7' : (7 : Int) ≤ k := by omega
          have l7 : k < 71 := by omega
          have l7' : (k : Int) < 71 := by omega
          have m15 : 15 ≤ k := by omega
          have m15' : (15 : Int) ≤ k := by omega
          have l15 : k < 79 := by omega
          have l15' : (k : Int) < 79 := by omega
          have m16 : 16 ≤ k := by omega
          have m16' : (16 : Int) ≤ k := by omega
          have l16 : k < 80 := by omega
          have l16' : (k : Int) < 80 := by omega
          go_wp2
          go_still (by kernel_rfl)
          go_wp2
          rw [fold_drew]
          replace c7 : wr.drew.cell? _ = _ := c7
          replace c16 : wr.drew.cell? _ = _ := c16
          replace ck : wr.drew.cell? _ = _ := ck
          replace qf : wr.drew.frozen? _ = _ := qf
          clear c2 c15
          replace HBEL := Lib.hid HBEL.out.drew
          replace HSZ : Hid (wr.drew.heap.size = _) := HSZ
          replace H1 := Lib.hid H1.out.drew
          replace H2 := Lib.hid H2.out.drew
          generalize wr.drew = wr2 at *
          go_still_tail 29, (by kernel_rfl)
          still_call (rotr_any _ 17 _ L2 (by omega) (by omega))
          repeat still_step
          still_call (rotr_any _ 19 _ L2 (by omega) (by omega))
          repeat still_step
          still_call (rotr_any _ 7 _ L15 (by omega) (by omega))
          repeat still_step
          still_call (rotr_any _ 18 _ L15 (by omega) (by omega))
          repeat still_step
          refine wpStill_nil ?_
          go_wp2
          rw [ext_cast (wordsN_lt HB'.out k)]
          have hw : wordsN b (k + 1) = wordsN b k ++ [extW (wordsN b k) k] := by simp [wordsN]; omega
          have hu := U32_set 64 (wordsN b k) (extW (wordsN b k) k) (by rw [wordsN_length]; omega)
          rw [wordsN_length] at hu
          refine ⟨⟨k + 1, by omega, by omega, by go_num, (HBEL.out.setCell (by simp; omega) _).drew, ?_, (H1.out.far (by simp) _).drew, ?_⟩, by simp [intOf]; omega⟩
          · have := HSZ.out; simpa [World.setCell, World.drew] using this
          · rw [hw, ← hu]; exact (H2.out.set_ k _).drew
        · obtain rfl : k = 64 := by omega
          have e64 : pad 64 (wordsN b 64) = wordsN b 64 := by simp [pad, wordsN_length]
          have h2 := H2.out
          rw [e64] at h2
          have h1 := H1.out
          replace H1 := Lib.hid h1; replace H2 := Lib.hid h2
          clear h1 h2 e64
          go_wp2_with (first
            | ((refine wpList_load_row rfl 51 _ rfl (w.heap.size + 1 + 1) rfl 51 (U32 (wordsN b 64)) (0, 0) _ H2.out Try.underlying51 rfl (by rw [U32_size, wordsN_length]; exact info51) ?_))
            | (refine wpList_store_row rfl 51 _ _ rfl (w.heap.size + 1) (U32 (wordsN b 64)) rfl rfl 51 _ H1.out (by rw [U32_size, wordsN_length]; exact info51) (by rw [U32_size, U32_size, wordsN_length]; rfl) (U32_one _) ?_))
          exact bodyPost_ret (results_cell_row (P := Try.prog) (fn := Try.f29) rfl _ _ (w.heap.size + 1) 51 (U32 (wordsN b 64)) (0, 0) _ rfl (H1.out.row _) Try.underlying51 rfl (by rw [U32_size, wordsN_length]; exact info51)) rfl ⟨rfl, below_setRow HBEL.out (by omega) _⟩
end Go.Proofs.Ytiigbhpnlpbnjaa
