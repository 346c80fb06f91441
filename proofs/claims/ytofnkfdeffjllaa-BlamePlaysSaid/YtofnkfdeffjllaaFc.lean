/- Closed facts of this seat's program: types, functions. Made by gen.py. -/
import Derived.Test.YtofnkfdeffjllaaFx
namespace Go.Proofs.Ytofnkfdeffjllaa
open Go.RowKit
set_option maxRecDepth 100000
set_option linter.unusedSimpArgs false
set_option linter.unusedVariables false

theorem mixedOK : Try.prog.follows .mixedOrders = true := by kernel_rfl
theorem agg32 : AggTy Try.prog 32 2 := ⟨_, Try.underlying32, rfl, by kernel_rfl⟩
theorem agg43 : AggTy Try.prog 43 7 := ⟨_, Try.underlying43, rfl, by kernel_rfl⟩
theorem agg52 : AggTy Try.prog 52 2 := ⟨_, Try.underlying52, rfl, by kernel_rfl⟩
theorem one3 : OneTy Try.prog 3 := ⟨_, Try.underlying3, rfl⟩
theorem one4 : OneTy Try.prog 4 := ⟨_, Try.underlying4, rfl⟩
theorem one36 : OneTy Try.prog 36 := ⟨_, Try.underlying36, rfl⟩
theorem one47 : OneTy Try.prog 47 := ⟨_, Try.underlying47, rfl⟩
theorem si4 : (Try.prog.info? 4).map (·.size) = some 1 := by kernel_rfl
theorem si36 : (Try.prog.info? 36).map (·.size) = some 1 := by kernel_rfl
theorem si47 : (Try.prog.info? 47).map (·.size) = some 1 := by kernel_rfl
theorem fo32_0 : fieldOff Try.prog 32 0 = some 0 := by kernel_rfl
theorem fo32_1 : fieldOff Try.prog 32 1 = some 1 := by kernel_rfl
theorem fo46_0 : fieldOff Try.prog 46 0 = some 0 := by kernel_rfl
theorem fo46_1 : fieldOff Try.prog 46 1 = some 1 := by kernel_rfl
theorem fo46_2 : fieldOff Try.prog 46 2 = some 2 := by kernel_rfl
theorem fo46_3 : fieldOff Try.prog 46 3 = some 51 := by kernel_rfl
theorem fo49_0 : fieldOff Try.prog 49 0 = some 0 := by kernel_rfl
theorem fo49_1 : fieldOff Try.prog 49 1 = some 1 := by kernel_rfl
theorem fo49_2 : fieldOff Try.prog 49 2 = some 2 := by kernel_rfl
theorem fo49_3 : fieldOff Try.prog 49 3 = some 3 := by kernel_rfl
theorem z32 : (Try.prog.info? 32).map (fun i => i.zero.map (·.cells)) = some (some #[.int .i64 0, .int .i64 0]) := by kernel_rfl
theorem z43 : (Try.prog.info? 43).map (fun i => i.zero.map (·.cells)) = some (some #[.bool false, .bool false, .bool false, .bool false, .bool false, .bool false, .bool false]) := by kernel_rfl
theorem eqg52 : Try.prog.eqGuardType Try.prog.depth 52 = false := by kernel_rfl
theorem en8 : enters Try.prog 8 = true := by kernel_rfl
theorem en9 : enters Try.prog 9 = true := by kernel_rfl
theorem en10 : enters Try.prog 10 = true := by kernel_rfl
theorem en11 : enters Try.prog 11 = true := by kernel_rfl
theorem en12 : enters Try.prog 12 = true := by kernel_rfl
theorem en13 : enters Try.prog 13 = true := by kernel_rfl
theorem en14 : enters Try.prog 14 = true := by kernel_rfl
theorem en15 : enters Try.prog 15 = true := by kernel_rfl
theorem en16 : enters Try.prog 16 = true := by kernel_rfl
theorem en17 : enters Try.prog 17 = true := by kernel_rfl
theorem en18 : enters Try.prog 18 = true := by kernel_rfl
theorem en19 : enters Try.prog 19 = true := by kernel_rfl
theorem en20 : enters Try.prog 20 = true := by kernel_rfl
theorem en21 : enters Try.prog 21 = true := by kernel_rfl
theorem en22 : enters Try.prog 22 = true := by kernel_rfl
theorem en23 : enters Try.prog 23 = true := by kernel_rfl
theorem en24 : enters Try.prog 24 = true := by kernel_rfl
theorem en25 : enters Try.prog 25 = true := by kernel_rfl
theorem en26 : enters Try.prog 26 = true := by kernel_rfl
theorem en27 : enters Try.prog 27 = true := by kernel_rfl
theorem sl22 : SlTy Try.prog 22 32 2 := ⟨Try.underlying22, by kernel_rfl⟩
theorem el32 : ElTy Try.prog 32 2 16 := ⟨by omega, .agg #[.int .i64 0, .int .i64 0], rfl, by kernel_rfl⟩
theorem sl36 : SlTy Try.prog 36 3 1 := ⟨Try.underlying36, by kernel_rfl⟩
theorem el3 : ElTy Try.prog 3 1 8 := ⟨by omega, .int .i64 0, rfl, by kernel_rfl⟩
theorem sl47 : SlTy Try.prog 47 52 2 := ⟨Try.underlying47, by kernel_rfl⟩
theorem el52 : ElTy Try.prog 52 2 16 := ⟨by omega, .agg #[.int .i64 0, .int .i64 0], rfl, by kernel_rfl⟩
section
variable {o : Oper} {a : Act}
theorem bu46_0_1 {x0 : Operand} {i0 : Int} {x1 : Operand} {i1 : Int} (ho : o.op = .build 46 #[(0, x0), (1, x1)]) (h0 : a.eval x0 = .int .i64 i0) (h1 : a.eval x1 = .int .i64 i1) : Pure Try.prog o a (.agg #[.int .i64 i0, .int .i64 i1, .bool false, .bool false, .bool false, .bool false, .bool false, .bool false, .bool false, .bool false, .bool false, .bool false, .bool false, .bool false, .bool false, .bool false, .bool false, .bool false, .bool false, .bool false, .bool false, .bool false, .bool false, .bool false, .bool false, .bool false, .bool false, .bool false, .bool false, .bool false, .bool false, .bool false, .bool false, .bool false, .bool false, .bool false, .bool false, .bool false, .bool false, .bool false, .bool false, .bool false, .bool false, .bool false, .bool false, .bool false, .bool false, .bool false, .bool false, .bool false, .bool false, .bool false, .bool false, .bool false, .bool false, .bool false, .bool false, .bool false]) := fun w => by
  simp only [execOp, ho, List.map_toArray, List.map, h0, h1]
  simp [go_sem]
theorem bu49_0_1 {x0 : Operand} {i0 : Int} {x1 : Operand} {i1 : Int} (ho : o.op = .build 49 #[(0, x0), (1, x1)]) (h0 : a.eval x0 = .int .i64 i0) (h1 : a.eval x1 = .int .i64 i1) : Pure Try.prog o a (.agg #[.int .i64 i0, .int .i64 i1, (.slice none 0 0), (.slice none 0 0)]) := fun w => by
  simp only [execOp, ho, List.map_toArray, List.map, h0, h1]
  simp [go_sem]
theorem bu52_0_1 {x0 : Operand} {i0 : Int} {x1 : Operand} {i1 : Int} (ho : o.op = .build 52 #[(0, x0), (1, x1)]) (h0 : a.eval x0 = .int .i64 i0) (h1 : a.eval x1 = .int .i64 i1) : Pure Try.prog o a (.agg #[.int .i64 i0, .int .i64 i1]) := fun w => by
  simp only [execOp, ho, List.map_toArray, List.map, h0, h1]
  simp [go_sem]
theorem bs36_1 {x0 : Operand} {i0 : Int} (ho : o.op = .buildSlice 36 1 #[(0, x0)]) (h0 : a.eval x0 = .int .i64 i0) (w : World) : (execOp a.eval o).run Try.prog w = .ok (.value (.slice (some ⟨w.heap.size, 0, none⟩) 1 1)) (w.alloc (.cells #[.int .i64 i0] 3)) := by
  simp only [execOp, ho, List.map_toArray, List.map, h0]
  simp [go_sem]
theorem bs47_1 {x0 : Operand} {i0_0 : Int} {i0_1 : Int} (ho : o.op = .buildSlice 47 1 #[(0, x0)]) (h0 : a.eval x0 = .agg #[.int .i64 i0_0, .int .i64 i0_1]) (w : World) : (execOp a.eval o).run Try.prog w = .ok (.value (.slice (some ⟨w.heap.size, 0, none⟩) 1 1)) (w.alloc (.cells #[.int .i64 i0_0, .int .i64 i0_1] 52)) := by
  simp only [execOp, ho, List.map_toArray, List.map, h0]
  simp [go_sem]
theorem ixv43 {x y : Operand} {g : Nat} {i : Int} (ho : o.op = .indexAddr 43 x y) (hx : a.eval x = .pointer (some ⟨g, 0, none⟩)) (hy : a.eval y = .int .i64 i) (h0 : 0 ≤ i) (h1 : i < 7) : Pure Try.prog o a (.pointer (some ⟨g, 0 + i.toNat * 1, none⟩)) := fun w => by
  simp only [execOp, ho, hx, hy]
  obtain ⟨k, rfl⟩ := Int.eq_ofNat_of_zero_le h0
  first | (simp [go_sem]; done) | (simp [go_sem]; omega)
theorem ixv44 {x y : Operand} {g : Nat} {i : Int} (ho : o.op = .indexAddr 44 x y) (hx : a.eval x = .pointer (some ⟨g, 0, none⟩)) (hy : a.eval y = .int .i64 i) (h0 : 0 ≤ i) (h1 : i < 7) : Pure Try.prog o a (.pointer (some ⟨g, 0 + i.toNat * 7, none⟩)) := fun w => by
  simp only [execOp, ho, hx, hy]
  obtain ⟨k, rfl⟩ := Int.eq_ofNat_of_zero_le h0
  first | (simp [go_sem]; done) | (simp [go_sem]; omega)
theorem ixo43 {x y : Operand} {g og : Nat} {i : Int} (ho : o.op = .indexAddr 43 x y) (hx : a.eval x = .pointer (some ⟨g, og, none⟩)) (hy : a.eval y = .int .i64 i) (h0 : 0 ≤ i) (h1 : i < 7) : Pure Try.prog o a (.pointer (some ⟨g, og + i.toNat * 1, none⟩)) := fun w => by
  simp only [execOp, ho, hx, hy]
  obtain ⟨k, rfl⟩ := Int.eq_ofNat_of_zero_le h0
  first | (simp [go_sem]; done) | (simp [go_sem]; omega)
theorem ixo44 {x y : Operand} {g og : Nat} {i : Int} (ho : o.op = .indexAddr 44 x y) (hx : a.eval x = .pointer (some ⟨g, og, none⟩)) (hy : a.eval y = .int .i64 i) (h0 : 0 ≤ i) (h1 : i < 7) : Pure Try.prog o a (.pointer (some ⟨g, og + i.toNat * 7, none⟩)) := fun w => by
  simp only [execOp, ho, hx, hy]
  obtain ⟨k, rfl⟩ := Int.eq_ofNat_of_zero_le h0
  first | (simp [go_sem]; done) | (simp [go_sem]; omega)
end
section
variable {o : Oper} {a : Act} {x y : Operand} {i j : Int}
theorem pu_max (ho : o.op = .call { callee := .builtin .max, args := #[x, y], argTypes := #[3, 3] }) (hx : a.eval x = .int .i64 i) (hy : a.eval y = .int .i64 j) : Pure Try.prog o a (.int .i64 (max i j)) := fun w => by
  simp only [execOp, ho, resolve, List.map_toArray, List.map, hx, hy]
  first | (simp [go_sem]; done) | (simp [go_sem]; omega)
theorem pu_min (ho : o.op = .call { callee := .builtin .min, args := #[x, y], argTypes := #[3, 3] }) (hx : a.eval x = .int .i64 i) (hy : a.eval y = .int .i64 j) : Pure Try.prog o a (.int .i64 (min i j)) := fun w => by
  simp only [execOp, ho, resolve, List.map_toArray, List.map, hx, hy]
  first | (simp [go_sem]; done) | (simp [go_sem]; omega)
end
end Go.Proofs.Ytofnkfdeffjllaa
