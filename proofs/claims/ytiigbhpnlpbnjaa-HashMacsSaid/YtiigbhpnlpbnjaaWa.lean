import Derived.Test.YtiigbhpnlpbnjaaRows
import Derived.Test.YtiigbhpnlpbnjaaMath
import Derived.WalkKit
import Derived.WalkSpells
import Derived.WalkLawsBesides
import Derived.Deep.QuietTactic
import Derived.BigQuiet
import Derived.Lib.Hide
import Derived.Deep.WholeRow
import Derived.StillTailTactics
namespace Go.Proofs.Ytiigbhpnlpbnjaa
open Go.RowKit

theorem rotr_lt (x n : Nat) (hx : x < 4294967296) : rotr x n < 4294967296 := by
  unfold rotr
  exact Nat.or_lt_two_pow (n := 32) (Nat.lt_of_le_of_lt (Nat.div_le_self _ _) hx) (Nat.mod_lt _ (by omega))

theorem rotr_cast (x n : Nat) (hx : x < 4294967296) : bits .or .u32 ((x : Int) / 2 ^ n) ((x : Int) * 2 ^ (32 - n) % 4294967296) = (rotr x n : Int) := by
  have h1 : ((x : Int) / 2 ^ n) = ((x / 2 ^ n : Nat) : Int) := by simp
  have h2 : ((x : Int) * 2 ^ (32 - n) % 4294967296) = ((x * 2 ^ (32 - n) % 4294967296 : Nat) : Int) := by simp
  rw [h1, h2, u32_or_nat _ _ (Nat.lt_of_le_of_lt (Nat.div_le_self _ _) hx) (Nat.mod_lt _ (by omega))]
  rfl

set_option maxHeartbeats 400000 in
theorem rotr_any (x : Nat) (b : Int) (w : World) (hx : x < 4294967296) (hb : 1 ≤ b) (hb' : b ≤ 31) :
    Calls Try.prog 30 #[.int .u32 x, .int .u64 b] w fun e w' => e = .returned (.int .u32 (rotr x b.toNat)) ∧ w' = w := by
  go_enter Try.func30, Try.ntmps30
  go_wp2
  go_ret
  refine ⟨?_, rfl⟩
  have := rotr_cast x b.toNat hx
  rw [← this, show 32 - b.toNat = (32 - b).toNat from by omega]
  simp

set_option maxHeartbeats 400000 in
theorem initial_any (w : World) :
    Calls Try.prog 18 #[] w fun e w' => e = .returned (.agg (U32 initN)) ∧ Below w.heap.size w w' := by
  go_enter Try.func18, Try.ntmps18
  go_wp2
  exact bodyPost_ret (v := .agg (U32 initN)) (by simp [results, Try.results18, go_sem, U32, initN]) rfl ⟨rfl, (Below.refl _ _).alloc (Nat.le_refl _) _⟩

theorem wpList_build_to {P : Program} {ops : Array Oper} {rest : List Oper} {o : Oper} {a : Act} {w : World} {Q : Exit → Act → World → Prop} (hg : o.guard = none) (t : TypeId) (parts : Array (Nat × Operand)) (ho : o.op = .build t parts)
    (cs : Array Value) (hf : P.built t (parts.map fun (i, x) => (i, a.eval x)).toList = some cs)
    (h : wpList P ops Q rest (a.put o.dst (.agg cs)) w) : wpList P ops Q (o :: rest) a w :=
  wpList_build hg t parts ho (by rw [hf]; rfl) (by rw [hf]; exact h)
theorem wpList_store_new {P : Program} {ops : Array Oper} {rest : List Oper} {o : Oper} {a : Act} {w : World} {Q : Exit → Act → World → Prop} (hgd : o.guard = none) (ty : TypeId) (x y : Operand) (ho : o.op = .store ty x y)
    (cells : Array Value) (hx : a.eval x = .pointer (some ⟨w.heap.size, 0, none⟩)) (hy : a.eval y = .agg cells)
    (t : TypeId) (old : Array Value) (hi : (P.info? ty).map (·.size) = some cells.size)
    (hold : old.size = cells.size) (h1 : cells.all (·.oneCell') = true)
    (h : wpList P ops Q rest (a.put o.dst undef) (w.alloc (.cells cells t))) : wpList P ops Q (o :: rest) a (w.alloc (.cells old t)) :=
  wpList_store_row hgd ty x y ho _ cells hx hy t old (heap_alloc_last w _) hi hold h1 (by rw [World.setRow_alloc_new]; exact h)

set_option maxRecDepth 100000 in
set_option maxHeartbeats 1000000 in
theorem table_any (w : World) :
    Calls Try.prog 28 #[] w fun e w' => e = .returned (.agg (U32 KN)) ∧ Below w.heap.size w w' := by
  go_enter Try.func28, Try.ntmps28
  go_wp2_with (first
    | (with_reducible refine wpList_build_to rfl 51 _ rfl (U32 KN) (by kernel_rfl) ?_)
    | (with_reducible refine wpList_store_new rfl 51 _ _ rfl (U32 KN) rfl rfl 51 _ (by kernel_rfl) (by kernel_rfl) (by kernel_rfl) ?_))
  exact bodyPost_ret (results_cell_row (P := Try.prog) (fn := Try.f28) rfl _ _ w.heap.size 51 (U32 KN) (0, 0) _ rfl (heap_alloc_last w _) Try.underlying51 rfl (by kernel_rfl)) rfl ⟨rfl, (Below.refl _ _).alloc (Nat.le_refl _) _⟩

set_option maxHeartbeats 400000 in
theorem same_any (x y : List Nat) (w : World) (hx : x.length = 32) (hy : y.length = 32) (hx' : W8 x) (hy' : W8 y) :
    Calls Try.prog 16 #[.agg (B8 x), .agg (B8 y)] w fun e w' => e = .returned (.bool (decide (x = y))) ∧ Below w.heap.size w w' := by
  have HX := Lib.hid hx; have HY := Lib.hid hy; have HX' := Lib.hid hx'; have HY' := Lib.hid hy'
  clear hx hy hx' hy'
  go_enter Try.func16, Try.ntmps16
  go_wp2
  have hb : Below w.heap.size w ((w.alloc (Obj.cells (B8 x) 24)).alloc (Obj.cells (B8 y) 24)) := ((Below.refl _ _).alloc (Nat.le_refl _) _).alloc (by simp) _
  have c1 : ∀ k, ((w.alloc (Obj.cells (B8 x) 24)).alloc (Obj.cells (B8 y) 24)).cell? ⟨w.heap.size, k, none⟩ = (B8 x)[k]? := by intro k; simp [go_sem]
  have c2 : ∀ k, ((w.alloc (Obj.cells (B8 x) 24)).alloc (Obj.cells (B8 y) 24)).cell? ⟨w.heap.size + 1, k, none⟩ = (B8 y)[k]? := by intro k; simp [go_sem]
  generalize (w.alloc (Obj.cells (B8 x) 24)).alloc (Obj.cells (B8 y) 24) = W at *
  have HB := Lib.hid hb; have C1 := Lib.hid c1; have C2 := Lib.hid c2
  clear hb c1 c2
  go_loopw [5, 7] (fun u i wr => ∃ k : Nat, k ≤ 32 ∧ i = .int .i64 k ∧ u = .int .u8 (sameAcc x y k) ∧ ∃ n, wr = W.drewN n) (fun _ i _ => 32 - (intOf i).toNat)
  case atStart => exact ⟨0, by omega, rfl, rfl, 0, rfl⟩
  case round =>
    obtain ⟨k, hk, rfl, rfl, n, rfl⟩ := hrel
    by_cases hlt : k < 32
    · have g1 := C1.out k
      rw [B8_get (x := x) (k := k) (by rw [HX.out]; exact hlt)] at g1
      have g2 := C2.out k
      rw [B8_get (x := y) (k := k) (by rw [HY.out]; exact hlt)] at g2
      go_wp2
      go_quiet (fail)
      go_wp2
      refine ⟨⟨k + 1, by omega, by go_num, ?_, n + nq, rfl⟩, by simp [intOf]; omega⟩
      rw [sameAcc_step HX'.out HY'.out]
    · obtain rfl : k = 32 := by omega
      go_wp2
      go_ret
      refine ⟨?_, ?_⟩
      · have := same_iff x y HX.out HY.out
        simp [← this]
      · exact ⟨HB.out.os, HB.out.tape, HB.out.output, HB.out.size, HB.out.block⟩
end Go.Proofs.Ytiigbhpnlpbnjaa
