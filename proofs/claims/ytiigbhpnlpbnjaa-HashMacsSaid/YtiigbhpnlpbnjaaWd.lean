import Derived.Test.YtiigbhpnlpbnjaaWc
namespace Go.Proofs.Ytiigbhpnlpbnjaa
open Go.RowKit

theorem bytesN_length (st : List Nat) : (bytesN st).length = 32 := by simp [bytesN]
theorem bytesN_lt (st : List Nat) : W8 (bytesN st) := by
  intro a ha
  simp only [bytesN, List.mem_map] at ha
  obtain ⟨i, _, rfl⟩ := ha
  exact Nat.mod_lt _ (by omega)
theorem at0_bytesN (st : List Nat) (i : Nat) (hi : i < 32) : at0 (bytesN st) i = byteOf st i := by
  rw [at0_eq (by rw [bytesN_length]; exact hi)]; simp [bytesN]
theorem take_snoc (l : List Nat) (k : Nat) (h : k < l.length) : l.take (k + 1) = l.take k ++ [at0 l k] := by
  rw [at0_eq h, List.take_append_getElem]
theorem wpList_store_blk {P : Program} {ops : Array Oper} {rest : List Oper} {o : Oper} {a : Act} {w : World} {Q : Exit → Act → World → Prop} (hgd : o.guard = none) (ty : TypeId) (x y : Operand) (ho : o.op = .store ty x y)
    (g : Nat) (cells : Array Value) (hx : a.eval x = .pointer (some ⟨g, 0, none⟩)) (hy : a.eval y = .agg cells)
    (t : TypeId) (old : Array Value) (n : Nat) (hg : Blk w g t old) (hi : (P.info? ty).map (·.size) = some n) (hn : cells.size = n)
    (hold : old.size = n) (h1 : cells.all (·.oneCell') = true)
    (h : wpList P ops Q rest (a.put o.dst undef) (w.setRow g cells)) : wpList P ops Q (o :: rest) a w :=
  wpList_store_row hgd ty x y ho g cells hx hy t old hg (by rw [hn]; exact hi) (by omega) h1 h
theorem wpList_load_blk {P : Program} {ops : Array Oper} {rest : List Oper} {o : Oper} {a : Act} {w : World} {Q : Exit → Act → World → Prop} (hgd : o.guard = none) (ty : TypeId) (x : Operand) (ho : o.op = .load ty x)
    (g : Nat) (hx : a.eval x = .pointer (some ⟨g, 0, none⟩)) (t : TypeId) (cs : Array Value) (d : TypeDesc) (n : Nat) (hg : Blk w g t cs)
    (hu : P.underlying ty = some d) (hd : (match d with | .struct _ | .array _ _ => true | _ => false) = true) (hi : (P.info? ty).map (·.size) = some n) (hn : cs.size = n)
    (h : wpList P ops Q rest (a.put o.dst (.agg cs)) w) : wpList P ops Q (o :: rest) a w :=
  wpList_load_row hgd ty x ho g hx t cs (0, 0) d hg hu hd (by rw [hn]; exact hi) h

theorem Blk.push8 {w : World} {g : Nat} {t : TypeId} {n : Nat} {L : List Nat} (h : Blk w g t (B8 (pad n L))) {i : Nat} (hi : L.length = i) (hn : i < n) (x : Nat) (y : Int) (hy : y = (x : Int)) :
    Blk (w.setCell ⟨g, i, none⟩ (.int .u8 y)) g t (B8 (pad n (L ++ [x]))) := by
  subst hi; subst hy
  rw [← B8_set n L x hn]
  exact h.set_ _ _
theorem bytesN_at (st : List Nat) (k j : Nat) (hk : k < 8) (hj : j < 4) : at0 (bytesN st) (4 * k + j) = at0 st k / 2 ^ (24 - j * 8) % 256 := by
  rw [at0_bytesN _ _ (by omega), byteOf, show (4 * k + j) / 4 = k by omega, show (4 * k + j) % 4 = j by omega]
theorem run_index36 (cs : Array Value) (k : Nat) (v : Value) (hv : cs[k]? = some v) (hk : k < 8) (W : World) :
    (Instr.index 36 (.agg cs) (.int .i64 (k : Int))).run Try.prog W = .ok v W := by
  have hi : (Try.prog.info? 35).map (·.size) = some 1 := by kernel_rfl
  cases hq : Try.prog.info? 35 with
  | none => simp [hq] at hi
  | some i =>
    have hi' : i.size = 1 := by simpa [hq] using hi
    simp [Instr.index, run_underlying Try.underlying36, asIntOf, hk, sizeOf, typeInfo, hq, hi', part, hv]

set_option maxRecDepth 100000 in
set_option maxHeartbeats 1000000 in
theorem bytesOf_any (st : List Nat) (w : World) (hs : st.length = 8) (hs' : W32 st) :
    Calls Try.prog 24 #[.agg (U32 st)] w fun e w' => e = .returned (.agg (B8 (bytesN st))) ∧ Below w.heap.size w w' := by
  have HS := Lib.hid hs; have HS' := Lib.hid hs'
  clear hs hs'
  go_enter Try.func24, Try.ntmps24
  go_wp2_with (refine wpList_load_blk rfl 36 _ rfl w.heap.size rfl 36 (U32 st) _ 8 (((Blk.new w 36 (U32 st)).alloc _).alloc _) Try.underlying36 rfl info36 (by rw [U32_size]; exact HS.out) ?_)
  go_loopw [7] (fun i wr => ∃ k : Nat, k ≤ 8 ∧ i = .int .i64 k ∧ Below w.heap.size w wr ∧ Blk wr (w.heap.size + 1) 24 (B8 (pad 32 [])) ∧ Blk wr (w.heap.size + 1 + 1) 24 (B8 (pad 32 ((bytesN st).take (4 * k))))) (fun i _ => 8 - (intOf i).toNat)
  case atStart =>
    refine ⟨0, by omega, rfl, (((Below.refl _ _).alloc (Nat.le_refl _) _).alloc (by simp) _).alloc (by simp; omega) _, ?_, ?_⟩
    · have := (Blk.new (w.alloc (Obj.cells (U32 st) 36)) 24 (B8 (pad 32 []))).alloc (Obj.cells (B8 (pad 32 [])) 24)
      rw [show (w.alloc (Obj.cells (U32 st) 36)).heap.size = w.heap.size + 1 from by simp] at this
      exact this
    · have := Blk.new ((w.alloc (Obj.cells (U32 st) 36)).alloc (Obj.cells (B8 (pad 32 [])) 24)) 24 (B8 (pad 32 []))
      rw [show ((w.alloc (Obj.cells (U32 st) 36)).alloc (Obj.cells (B8 (pad 32 [])) 24)).heap.size = w.heap.size + 1 + 1 from by simp] at this
      exact this
  case round =>
    obtain ⟨k, hk, rfl, hbel, hb1, hb2⟩ := hrel
    have HBEL := Lib.hid hbel; have H1 := Lib.hid hb1; have H2 := Lib.hid hb2
    clear hbel hb1 hb2
    by_cases hlt : k < 8
    · have gk : (U32 st)[k]? = some (.int .u32 ((at0 st k : Nat) : Int)) := U32_get (by rw [HS.out]; exact hlt)
      have ri := run_index36 (U32 st) k _ gk hlt
      clear gk
      have gc : ∀ j, j < 32 → ∃ u, wr.cell? ⟨w.heap.size + 1 + 1, j, none⟩ = some u := fun j hj => ⟨_, by rw [H2.out.cell, B8_get (by rw [pad_length (by simp [bytesN_length]; omega)]; omega)]⟩
      obtain ⟨v0, c0⟩ := gc (4 * k) (by omega)
      obtain ⟨v1, c1⟩ := gc (4 * k + 1) (by omega)
      obtain ⟨v2, c2⟩ := gc (4 * k + 2) (by omega)
      obtain ⟨v3, c3⟩ := gc (4 * k + 3) (by omega)
      have f0 := H2.out.frozen (4 * k)
      have f1 := H2.out.frozen (4 * k + 1)
      have f2 := H2.out.frozen (4 * k + 2)
      have f3 := H2.out.frozen (4 * k + 3)
      clear gc
      go_wp2
      have e0 := bytesN_at st k 0 hlt (by omega)
      have e1 := bytesN_at st k 1 hlt (by omega)
      have e2 := bytesN_at st k 2 hlt (by omega)
      have e3 := bytesN_at st k 3 hlt (by omega)
      have t0 := take_snoc (bytesN st) (4 * k) (by rw [bytesN_length]; omega)
      have t1 := take_snoc (bytesN st) (4 * k + 1) (by rw [bytesN_length]; omega)
      have t2 := take_snoc (bytesN st) (4 * k + 2) (by rw [bytesN_length]; omega)
      have t3 := take_snoc (bytesN st) (4 * k + 3) (by rw [bytesN_length]; omega)
      have lk : ((bytesN st).take (4 * k)).length = 4 * k := by simp [bytesN_length]; omega
      have p0 := H2.out.push8 (i := 4 * k) lk (by omega) (at0 (bytesN st) (4 * k)) (((at0 st k : Nat) : Int) / 16777216 % 256) (by rw [Nat.add_zero] at e0; rw [e0]; simp)
      have p1 := p0.push8 (i := 4 * k + 1) (by simp [lk]) (by omega) (at0 (bytesN st) (4 * k + 1)) (((at0 st k : Nat) : Int) / 65536 % 256) (by rw [e1]; simp)
      have p2 := p1.push8 (i := 4 * k + 2) (by simp [lk]) (by omega) (at0 (bytesN st) (4 * k + 2)) (((at0 st k : Nat) : Int) / 256 % 256) (by rw [e2]; simp)
      have p3 := p2.push8 (i := 4 * k + 3) (by simp [lk]) (by omega) (at0 (bytesN st) (4 * k + 3)) (((at0 st k : Nat) : Int) % 256) (by rw [e3]; simp)
      rw [← t0, ← t1, ← t2, ← t3] at p3
      refine ⟨⟨k + 1, by omega, by go_num, ?_, ?_, p3⟩, by simp [intOf]; omega⟩
      · exact (((HBEL.out.setCell (by simp; omega) _).setCell (by simp; omega) _).setCell (by simp; omega) _).setCell (by simp; omega) _
      · exact (((H1.out.far (by simp) _).far (by simp) _).far (by simp) _).far (by simp) _
    · obtain rfl : k = 8 := by omega
      have e32 : pad 32 ((bytesN st).take (4 * 8)) = bytesN st := by
        rw [List.take_of_length_le (by rw [bytesN_length]; omega)]; simp [pad, bytesN_length]
      have h2 := H2.out
      rw [e32] at h2
      replace H2 := Lib.hid h2
      clear h2 e32
      go_wp2_with (first
        | (refine wpList_load_blk rfl 24 _ rfl (w.heap.size + 1 + 1) rfl 24 (B8 (bytesN st)) _ 32 H2.out Try.underlying24 rfl info24 (by rw [B8_size, bytesN_length]) ?_)
        | (refine wpList_store_blk rfl 24 _ _ rfl (w.heap.size + 1) (B8 (bytesN st)) rfl rfl 24 _ 32 H1.out info24 (by rw [B8_size, bytesN_length]) (by rw [B8_size]; rfl) (B8_one _) ?_))
      exact bodyPost_ret (results_cell_row (P := Try.prog) (fn := Try.f24) rfl _ _ (w.heap.size + 1) 24 (B8 (bytesN st)) (0, 0) _ rfl (H1.out.row _) Try.underlying24 rfl (by rw [B8_size, bytesN_length]; exact info24)) rfl ⟨rfl, below_setRow HBEL.out (by omega) _⟩

theorem maskN_length (b : List Nat) (m : Nat) : (maskN b m).length = b.length := by simp [maskN]
theorem maskN_lt {b : List Nat} (h : W8 b) {m : Nat} (hm : m < 256) : W8 (maskN b m) := by
  intro a ha
  simp only [maskN, List.mem_map] at ha
  obtain ⟨x, hx, rfl⟩ := ha
  exact Nat.xor_lt_two_pow (n := 8) (h x hx) (by omega)
theorem at0_maskN {b : List Nat} {k m : Nat} (h : k < b.length) : at0 (maskN b m) k = at0 b k ^^^ m := by
  rw [at0_eq (by rw [maskN_length]; exact h), at0_eq h]; simp [maskN]
theorem B8_setAt (l : List Nat) (i v : Nat) : (B8 l).setIfInBounds i (.int .u8 (v : Int)) = B8 (l.set i v) := by
  unfold B8
  apply Array.ext'
  simp only [Array.toList_setIfInBounds, ← List.map_set]
theorem set_mid (x y : List Nat) (k : Nat) (hx : k < x.length) (hy : k < y.length) : (x.take k ++ y.drop k).set k (at0 x k) = x.take (k + 1) ++ y.drop (k + 1) := by
  have lk : (x.take k).length = k := by simp; omega
  rw [List.set_append_right (h := by omega), lk, Nat.sub_self, List.drop_eq_getElem_cons hy, List.set_cons_zero, take_snoc x k hx, List.append_assoc, List.singleton_append]
theorem Blk.set8 {w : World} {g : Nat} {t : TypeId} {L : List Nat} (h : Blk w g t (B8 L)) (i x : Nat) (y : Int) (hy : y = (x : Int)) :
    Blk (w.setCell ⟨g, i, none⟩ (.int .u8 y)) g t (B8 (L.set i x)) := by
  subst hy
  rw [← B8_setAt]
  exact h.set_ _ _

set_option maxRecDepth 100000 in
set_option maxHeartbeats 1000000 in
theorem masked_any (b : List Nat) (m : Nat) (w : World) (hb : b.length = 64) (hb' : W8 b) (hm : m < 256) :
    Calls Try.prog 23 #[.agg (B8 b), .int .u8 m] w fun e w' => e = .returned (.agg (B8 (maskN b m))) ∧ Below w.heap.size w w' := by
  have HB := Lib.hid hb; have HB' := Lib.hid hb'; have HM := Lib.hid hm
  clear hb hb' hm
  go_enter Try.func23, Try.ntmps23
  go_wp2
  go_loopw [6] (fun i wr => ∃ k : Nat, k ≤ 64 ∧ i = .int .i64 k ∧ Below w.heap.size w wr ∧ Blk wr w.heap.size 42 (B8 ((maskN b m).take k ++ b.drop k)) ∧ Blk wr (w.heap.size + 1) 42 (B8 (pad 64 []))) (fun i _ => 64 - (intOf i).toNat)
  case atStart =>
    refine ⟨0, by omega, rfl, ((Below.refl _ _).alloc (Nat.le_refl _) _).alloc (by simp) _, (Blk.new _ _ _).alloc _, ?_⟩
    have := Blk.new (w.alloc (Obj.cells (B8 b) 42)) 42 (B8 (pad 64 []))
    rw [show (w.alloc (Obj.cells (B8 b) 42)).heap.size = w.heap.size + 1 from by simp] at this
    exact this
  case round =>
    obtain ⟨k, hk, rfl, hbel, hb1, hb2⟩ := hrel
    have HBEL := Lib.hid hbel; have H1 := Lib.hid hb1; have H2 := Lib.hid hb2
    clear hbel hb1 hb2
    by_cases hlt : k < 64
    · have lk : ((maskN b m).take k).length = k := by simp [maskN_length, HB.out]; omega
      have gc : wr.cell? ⟨w.heap.size, k, none⟩ = some (.int .u8 ((at0 b k : Nat) : Int)) := by
        rw [H1.out.cell, B8_get (by simp [maskN_length, HB.out]; omega), at0_append_right (by omega), lk, at0_drop, Nat.sub_self, Nat.add_zero]
      have gf := H1.out.frozen k
      have LK := Lib.hid lk
      clear lk
      go_wp2
      have hx : bits BinOp.xor IntKind.u8 (at0 b k : Int) (m : Int) = ((at0 (maskN b m) k : Nat) : Int) := by
        rw [at0_maskN (by rw [HB.out]; exact hlt), u8_xor_nat _ _ (HB'.out.at k) HM.out]
      have p1 := H1.out.set8 k (at0 (maskN b m) k) _ hx
      rw [set_mid _ _ _ (by rw [maskN_length, HB.out]; exact hlt) (by rw [HB.out]; exact hlt)] at p1
      exact ⟨⟨k + 1, by omega, by go_num, HBEL.out.setCell (by simp) _, p1, H2.out.far (by simp) _⟩, by simp [intOf]; omega⟩
    · obtain rfl : k = 64 := by omega
      have e64 : (maskN b m).take 64 ++ b.drop 64 = maskN b m := by
        rw [List.take_of_length_le (by rw [maskN_length, HB.out]; omega), List.drop_of_length_le (by rw [HB.out]; omega), List.append_nil]
      have h1 := H1.out
      rw [e64] at h1
      replace H1 := Lib.hid h1
      clear h1 e64
      go_wp2_with (first
        | (refine wpList_load_blk rfl 42 _ rfl w.heap.size rfl 42 (B8 (maskN b m)) _ 64 H1.out Try.underlying42 rfl info42 (by rw [B8_size, maskN_length, HB.out]) ?_)
        | (refine wpList_store_blk rfl 42 _ _ rfl (w.heap.size + 1) (B8 (maskN b m)) rfl rfl 42 _ 64 H2.out info42 (by rw [B8_size, maskN_length, HB.out]) (by rw [B8_size]; rfl) (B8_one _) ?_))
      exact bodyPost_ret (results_cell_row (P := Try.prog) (fn := Try.f23) rfl _ _ (w.heap.size + 1) 42 (B8 (maskN b m)) (0, 0) _ rfl (H2.out.row _) Try.underlying42 rfl (by rw [B8_size, maskN_length, HB.out]; exact info42)) rfl ⟨rfl, below_setRow HBEL.out (by omega) _⟩
end Go.Proofs.Ytiigbhpnlpbnjaa
