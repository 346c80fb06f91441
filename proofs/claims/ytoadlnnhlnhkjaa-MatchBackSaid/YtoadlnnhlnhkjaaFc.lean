/- Closed facts of this seat's program: types, functions. Made by gen.py. -/
import Derived.Test.YtoadlnnhlnhkjaaFx
namespace Go.Proofs.Ytoadlnnhlnhkjaa
open Go.RowKit
set_option maxRecDepth 100000
set_option linter.unusedSimpArgs false
set_option linter.unusedVariables false

theorem mixedOK : Try.prog.follows .mixedOrders = true := by kernel_rfl
theorem agg28 : AggTy Try.prog 28 2 := ⟨_, Try.underlying28, rfl, by kernel_rfl⟩
theorem agg30 : AggTy Try.prog 30 3 := ⟨_, Try.underlying30, rfl, by kernel_rfl⟩
theorem agg32 : AggTy Try.prog 32 40 := ⟨_, Try.underlying32, rfl, by kernel_rfl⟩
theorem agg34 : AggTy Try.prog 34 42 := ⟨_, Try.underlying34, rfl, by kernel_rfl⟩
theorem agg52 : AggTy Try.prog 52 6 := ⟨_, Try.underlying52, rfl, by kernel_rfl⟩
theorem one3 : OneTy Try.prog 3 := ⟨_, Try.underlying3, rfl⟩
theorem one48 : OneTy Try.prog 48 := ⟨_, Try.underlying48, rfl⟩
theorem one78 : OneTy Try.prog 78 := ⟨_, Try.underlying78, rfl⟩
theorem si3 : (Try.prog.info? 3).map (·.size) = some 1 := by kernel_rfl
theorem si78 : (Try.prog.info? 78).map (·.size) = some 1 := by kernel_rfl
theorem fo28_0 : fieldOff Try.prog 28 0 = some 0 := by kernel_rfl
theorem fo28_1 : fieldOff Try.prog 28 1 = some 1 := by kernel_rfl
theorem fo30_0 : fieldOff Try.prog 30 0 = some 0 := by kernel_rfl
theorem fo30_1 : fieldOff Try.prog 30 1 = some 1 := by kernel_rfl
theorem fo32_2 : fieldOff Try.prog 32 2 = some 33 := by kernel_rfl
theorem fo32_3 : fieldOff Try.prog 32 3 = some 34 := by kernel_rfl
theorem fo32_4 : fieldOff Try.prog 32 4 = some 37 := by kernel_rfl
theorem fo32_5 : fieldOff Try.prog 32 5 = some 38 := by kernel_rfl
theorem fo32_6 : fieldOff Try.prog 32 6 = some 39 := by kernel_rfl
theorem fo34_1 : fieldOff Try.prog 34 1 = some 1 := by kernel_rfl
theorem fo34_2 : fieldOff Try.prog 34 2 = some 2 := by kernel_rfl
theorem fo44_1 : fieldOff Try.prog 44 1 = some 2 := by kernel_rfl
theorem fo50_0 : fieldOff Try.prog 50 0 = some 0 := by kernel_rfl
theorem fo52_0 : fieldOff Try.prog 52 0 = some 0 := by kernel_rfl
theorem fo52_1 : fieldOff Try.prog 52 1 = some 1 := by kernel_rfl
theorem fo52_3 : fieldOff Try.prog 52 3 = some 3 := by kernel_rfl
theorem z3 : (Try.prog.info? 3).map (fun i => i.zero.map (·.cells)) = some (some #[.int .i64 0]) := by kernel_rfl
theorem z28 : (Try.prog.info? 28).map (fun i => i.zero.map (·.cells)) = some (some #[.int .i64 0, .int .i64 0]) := by kernel_rfl
theorem z30 : (Try.prog.info? 30).map (fun i => i.zero.map (·.cells)) = some (some #[.int .i64 0, .int .i64 0, .int .i64 0]) := by kernel_rfl
theorem z32 : (Try.prog.info? 32).map (fun i => i.zero.map (·.cells)) = some (some #[.int .i64 0, .int .u8 0, .int .u8 0, .int .u8 0, .int .u8 0, .int .u8 0, .int .u8 0, .int .u8 0, .int .u8 0, .int .u8 0, .int .u8 0, .int .u8 0, .int .u8 0, .int .u8 0, .int .u8 0, .int .u8 0, .int .u8 0, .int .u8 0, .int .u8 0, .int .u8 0, .int .u8 0, .int .u8 0, .int .u8 0, .int .u8 0, .int .u8 0, .int .u8 0, .int .u8 0, .int .u8 0, .int .u8 0, .int .u8 0, .int .u8 0, .int .u8 0, .int .u8 0, .int .i64 0, .int .i64 0, .int .i64 0, .int .i64 0, .int .i64 0, .int .i64 0, .int .i64 0]) := by kernel_rfl
theorem z34 : (Try.prog.info? 34).map (fun i => i.zero.map (·.cells)) = some (some #[.int .i64 0, .int .i64 0, .int .i64 0, .int .u8 0, .int .u8 0, .int .u8 0, .int .u8 0, .int .u8 0, .int .u8 0, .int .u8 0, .int .u8 0, .int .u8 0, .int .u8 0, .int .u8 0, .int .u8 0, .int .u8 0, .int .u8 0, .int .u8 0, .int .u8 0, .int .u8 0, .int .u8 0, .int .u8 0, .int .u8 0, .int .u8 0, .int .u8 0, .int .u8 0, .int .u8 0, .int .u8 0, .int .u8 0, .int .u8 0, .int .u8 0, .int .u8 0, .int .u8 0, .int .u8 0, .int .u8 0, .int .i64 0, .int .i64 0, .int .i64 0, .int .i64 0, .int .i64 0, .int .i64 0, .int .i64 0]) := by kernel_rfl
theorem z52 : (Try.prog.info? 52).map (fun i => i.zero.map (·.cells)) = some (some #[.int .i64 0, .int .i64 0, .int .i64 0, .int .i64 0, .int .i64 0, .int .i64 0]) := by kernel_rfl
theorem z78 : (Try.prog.info? 78).map (fun i => i.zero.map (·.cells)) = some (some #[.int .u64 0]) := by kernel_rfl
theorem eqg28 : Try.prog.eqGuardType Try.prog.depth 28 = false := by kernel_rfl
theorem en7 : enters Try.prog 7 = true := by kernel_rfl
theorem en8 : enters Try.prog 8 = true := by kernel_rfl
theorem en9 : enters Try.prog 9 = true := by kernel_rfl
theorem en10 : enters Try.prog 10 = true := by kernel_rfl
theorem en11 : enters Try.prog 11 = true := by kernel_rfl
theorem en12 : enters Try.prog 12 = true := by kernel_rfl
theorem en13 : enters Try.prog 13 = true := by kernel_rfl
theorem en14 : enters Try.prog 14 = true := by kernel_rfl
theorem en15 : enters Try.prog 15 = true := by kernel_rfl
theorem en16 : enters Try.prog 16 = true := by kernel_rfl
theorem en17 : enters Try.prog 17 = true := by kernel_rfl
theorem en18 : enters Try.prog 18 = true := by kernel_rfl
theorem en20 : enters Try.prog 20 = true := by kernel_rfl
theorem en21 : enters Try.prog 21 = true := by kernel_rfl
theorem en22 : enters Try.prog 22 = true := by kernel_rfl
theorem en23 : enters Try.prog 23 = true := by kernel_rfl
theorem en24 : enters Try.prog 24 = true := by kernel_rfl
theorem en25 : enters Try.prog 25 = true := by kernel_rfl
theorem en26 : enters Try.prog 26 = true := by kernel_rfl
theorem en27 : enters Try.prog 27 = true := by kernel_rfl
theorem en28 : enters Try.prog 28 = true := by kernel_rfl
theorem en29 : enters Try.prog 29 = true := by kernel_rfl
theorem en30 : enters Try.prog 30 = true := by kernel_rfl
theorem en31 : enters Try.prog 31 = true := by kernel_rfl
theorem en32 : enters Try.prog 32 = true := by kernel_rfl
theorem en36 : enters Try.prog 36 = true := by kernel_rfl
theorem en37 : enters Try.prog 37 = true := by kernel_rfl
theorem en38 : enters Try.prog 38 = true := by kernel_rfl
theorem en39 : enters Try.prog 39 = true := by kernel_rfl
theorem en40 : enters Try.prog 40 = true := by kernel_rfl
theorem en41 : enters Try.prog 41 = true := by kernel_rfl
theorem sl22 : SlTy Try.prog 22 34 42 := ⟨Try.underlying22, by kernel_rfl⟩
theorem el34 : ElTy Try.prog 34 42 112 := ⟨by omega, .agg #[.int .i64 0, .int .i64 0, .int .i64 0, .int .u8 0, .int .u8 0, .int .u8 0, .int .u8 0, .int .u8 0, .int .u8 0, .int .u8 0, .int .u8 0, .int .u8 0, .int .u8 0, .int .u8 0, .int .u8 0, .int .u8 0, .int .u8 0, .int .u8 0, .int .u8 0, .int .u8 0, .int .u8 0, .int .u8 0, .int .u8 0, .int .u8 0, .int .u8 0, .int .u8 0, .int .u8 0, .int .u8 0, .int .u8 0, .int .u8 0, .int .u8 0, .int .u8 0, .int .u8 0, .int .u8 0, .int .u8 0, .int .i64 0, .int .i64 0, .int .i64 0, .int .i64 0, .int .i64 0, .int .i64 0, .int .i64 0], rfl, by kernel_rfl⟩
theorem sl41 : SlTy Try.prog 41 44 3 := ⟨Try.underlying41, by kernel_rfl⟩
theorem el44 : ElTy Try.prog 44 3 24 := ⟨by omega, .agg #[.int .i64 0, .int .i64 0, .int .i64 0], rfl, by kernel_rfl⟩
theorem sl57 : SlTy Try.prog 57 30 3 := ⟨Try.underlying57, by kernel_rfl⟩
theorem el30 : ElTy Try.prog 30 3 24 := ⟨by omega, .agg #[.int .i64 0, .int .i64 0, .int .i64 0], rfl, by kernel_rfl⟩
section
variable {o : Oper} {a : Act}
theorem bu28_0_1 {x0 : Operand} {i0 : Int} {x1 : Operand} {i1 : Int} (ho : o.op = .build 28 #[(0, x0), (1, x1)]) (h0 : a.eval x0 = .int .i64 i0) (h1 : a.eval x1 = .int .i64 i1) : Pure Try.prog o a (.agg #[.int .i64 i0, .int .i64 i1]) := fun w => by
  simp only [execOp, ho, List.map_toArray, List.map, h0, h1]
  simp [go_sem]
theorem bu30_ (ho : o.op = .build 30 #[]) : Pure Try.prog o a (.agg #[.int .i64 0, .int .i64 0, .int .i64 0]) := fun w => by
  simp only [execOp, ho, List.map_toArray, List.map]
  simp [go_sem]
theorem bu32_2_3_4_5_6 {x0 : Operand} {i0 : Int} {x1 : Operand} {i1_0 : Int} {i1_1 : Int} {i1_2 : Int} {x2 : Operand} {i2 : Int} {x3 : Operand} {i3 : Int} {x4 : Operand} {i4 : Int} (ho : o.op = .build 32 #[(2, x0), (3, x1), (4, x2), (5, x3), (6, x4)]) (h0 : a.eval x0 = .int .i64 i0) (h1 : a.eval x1 = .agg #[.int .i64 i1_0, .int .i64 i1_1, .int .i64 i1_2]) (h2 : a.eval x2 = .int .i64 i2) (h3 : a.eval x3 = .int .i64 i3) (h4 : a.eval x4 = .int .i64 i4) : Pure Try.prog o a (.agg #[.int .i64 0, .int .u8 0, .int .u8 0, .int .u8 0, .int .u8 0, .int .u8 0, .int .u8 0, .int .u8 0, .int .u8 0, .int .u8 0, .int .u8 0, .int .u8 0, .int .u8 0, .int .u8 0, .int .u8 0, .int .u8 0, .int .u8 0, .int .u8 0, .int .u8 0, .int .u8 0, .int .u8 0, .int .u8 0, .int .u8 0, .int .u8 0, .int .u8 0, .int .u8 0, .int .u8 0, .int .u8 0, .int .u8 0, .int .u8 0, .int .u8 0, .int .u8 0, .int .u8 0, .int .i64 i0, .int .i64 i1_0, .int .i64 i1_1, .int .i64 i1_2, .int .i64 i2, .int .i64 i3, .int .i64 i4]) := fun w => by
  simp only [execOp, ho, List.map_toArray, List.map, h0, h1, h2, h3, h4]
  simp [go_sem]
theorem bu32_2_5_6 {x0 : Operand} {i0 : Int} {x1 : Operand} {i1 : Int} {x2 : Operand} {i2 : Int} (ho : o.op = .build 32 #[(2, x0), (5, x1), (6, x2)]) (h0 : a.eval x0 = .int .i64 i0) (h1 : a.eval x1 = .int .i64 i1) (h2 : a.eval x2 = .int .i64 i2) : Pure Try.prog o a (.agg #[.int .i64 0, .int .u8 0, .int .u8 0, .int .u8 0, .int .u8 0, .int .u8 0, .int .u8 0, .int .u8 0, .int .u8 0, .int .u8 0, .int .u8 0, .int .u8 0, .int .u8 0, .int .u8 0, .int .u8 0, .int .u8 0, .int .u8 0, .int .u8 0, .int .u8 0, .int .u8 0, .int .u8 0, .int .u8 0, .int .u8 0, .int .u8 0, .int .u8 0, .int .u8 0, .int .u8 0, .int .u8 0, .int .u8 0, .int .u8 0, .int .u8 0, .int .u8 0, .int .u8 0, .int .i64 i0, .int .i64 0, .int .i64 0, .int .i64 0, .int .i64 0, .int .i64 i1, .int .i64 i2]) := fun w => by
  simp only [execOp, ho, List.map_toArray, List.map, h0, h1, h2]
  simp [go_sem]
theorem bu44_0_1 {x0 : Operand} {i0_0 : Int} {i0_1 : Int} {x1 : Operand} {i1 : Int} (ho : o.op = .build 44 #[(0, x0), (1, x1)]) (h0 : a.eval x0 = .agg #[.int .i64 i0_0, .int .i64 i0_1]) (h1 : a.eval x1 = .int .i64 i1) : Pure Try.prog o a (.agg #[.int .i64 i0_0, .int .i64 i0_1, .int .i64 i1]) := fun w => by
  simp only [execOp, ho, List.map_toArray, List.map, h0, h1]
  simp [go_sem]
theorem bu50_0 {x0 : Operand} {i0 : Value} (ho : o.op = .build 50 #[(0, x0)]) (h0 : a.eval x0 = i0) (c0 : i0.cells = #[i0]) : Pure Try.prog o a (.agg #[i0]) := fun w => by
  simp only [Value.cells] at c0
  simp only [execOp, ho, List.map_toArray, List.map, h0]
  simp [go_sem, c0]
theorem bu52_ (ho : o.op = .build 52 #[]) : Pure Try.prog o a (.agg #[.int .i64 0, .int .i64 0, .int .i64 0, .int .i64 0, .int .i64 0, .int .i64 0]) := fun w => by
  simp only [execOp, ho, List.map_toArray, List.map]
  simp [go_sem]
theorem bu52_0_1_2_3 {x0 : Operand} {i0 : Int} {x1 : Operand} {i1 : Int} {x2 : Operand} {i2 : Int} {x3 : Operand} {i3_0 : Int} {i3_1 : Int} {i3_2 : Int} (ho : o.op = .build 52 #[(0, x0), (1, x1), (2, x2), (3, x3)]) (h0 : a.eval x0 = .int .i64 i0) (h1 : a.eval x1 = .int .i64 i1) (h2 : a.eval x2 = .int .i64 i2) (h3 : a.eval x3 = .agg #[.int .i64 i3_0, .int .i64 i3_1, .int .i64 i3_2]) : Pure Try.prog o a (.agg #[.int .i64 i0, .int .i64 i1, .int .i64 i2, .int .i64 i3_0, .int .i64 i3_1, .int .i64 i3_2]) := fun w => by
  simp only [execOp, ho, List.map_toArray, List.map, h0, h1, h2, h3]
  simp [go_sem]
theorem bs22_1 {x0 : Operand} {i0_0 : Int} {i0_1 : Int} {i0_2 : Int} {i0_3 : Int} {i0_4 : Int} {i0_5 : Int} {i0_6 : Int} {i0_7 : Int} {i0_8 : Int} {i0_9 : Int} {i0_10 : Int} {i0_11 : Int} {i0_12 : Int} {i0_13 : Int} {i0_14 : Int} {i0_15 : Int} {i0_16 : Int} {i0_17 : Int} {i0_18 : Int} {i0_19 : Int} {i0_20 : Int} {i0_21 : Int} {i0_22 : Int} {i0_23 : Int} {i0_24 : Int} {i0_25 : Int} {i0_26 : Int} {i0_27 : Int} {i0_28 : Int} {i0_29 : Int} {i0_30 : Int} {i0_31 : Int} {i0_32 : Int} {i0_33 : Int} {i0_34 : Int} {i0_35 : Int} {i0_36 : Int} {i0_37 : Int} {i0_38 : Int} {i0_39 : Int} {i0_40 : Int} {i0_41 : Int} (ho : o.op = .buildSlice 22 1 #[(0, x0)]) (h0 : a.eval x0 = .agg #[.int .i64 i0_0, .int .i64 i0_1, .int .i64 i0_2, .int .u8 i0_3, .int .u8 i0_4, .int .u8 i0_5, .int .u8 i0_6, .int .u8 i0_7, .int .u8 i0_8, .int .u8 i0_9, .int .u8 i0_10, .int .u8 i0_11, .int .u8 i0_12, .int .u8 i0_13, .int .u8 i0_14, .int .u8 i0_15, .int .u8 i0_16, .int .u8 i0_17, .int .u8 i0_18, .int .u8 i0_19, .int .u8 i0_20, .int .u8 i0_21, .int .u8 i0_22, .int .u8 i0_23, .int .u8 i0_24, .int .u8 i0_25, .int .u8 i0_26, .int .u8 i0_27, .int .u8 i0_28, .int .u8 i0_29, .int .u8 i0_30, .int .u8 i0_31, .int .u8 i0_32, .int .u8 i0_33, .int .u8 i0_34, .int .i64 i0_35, .int .i64 i0_36, .int .i64 i0_37, .int .i64 i0_38, .int .i64 i0_39, .int .i64 i0_40, .int .i64 i0_41]) (w : World) : (execOp a.eval o).run Try.prog w = .ok (.value (.slice (some ⟨w.heap.size, 0, none⟩) 1 1)) (w.alloc (.cells #[.int .i64 i0_0, .int .i64 i0_1, .int .i64 i0_2, .int .u8 i0_3, .int .u8 i0_4, .int .u8 i0_5, .int .u8 i0_6, .int .u8 i0_7, .int .u8 i0_8, .int .u8 i0_9, .int .u8 i0_10, .int .u8 i0_11, .int .u8 i0_12, .int .u8 i0_13, .int .u8 i0_14, .int .u8 i0_15, .int .u8 i0_16, .int .u8 i0_17, .int .u8 i0_18, .int .u8 i0_19, .int .u8 i0_20, .int .u8 i0_21, .int .u8 i0_22, .int .u8 i0_23, .int .u8 i0_24, .int .u8 i0_25, .int .u8 i0_26, .int .u8 i0_27, .int .u8 i0_28, .int .u8 i0_29, .int .u8 i0_30, .int .u8 i0_31, .int .u8 i0_32, .int .u8 i0_33, .int .u8 i0_34, .int .i64 i0_35, .int .i64 i0_36, .int .i64 i0_37, .int .i64 i0_38, .int .i64 i0_39, .int .i64 i0_40, .int .i64 i0_41] 34)) := by
  simp only [execOp, ho, List.map_toArray, List.map, h0]
  simp [go_sem]
theorem bs41_1 {x0 : Operand} {i0_0 : Int} {i0_1 : Int} {i0_2 : Int} (ho : o.op = .buildSlice 41 1 #[(0, x0)]) (h0 : a.eval x0 = .agg #[.int .i64 i0_0, .int .i64 i0_1, .int .i64 i0_2]) (w : World) : (execOp a.eval o).run Try.prog w = .ok (.value (.slice (some ⟨w.heap.size, 0, none⟩) 1 1)) (w.alloc (.cells #[.int .i64 i0_0, .int .i64 i0_1, .int .i64 i0_2] 44)) := by
  simp only [execOp, ho, List.map_toArray, List.map, h0]
  simp [go_sem]
theorem bs57_1 {x0 : Operand} {i0_0 : Int} {i0_1 : Int} {i0_2 : Int} (ho : o.op = .buildSlice 57 1 #[(0, x0)]) (h0 : a.eval x0 = .agg #[.int .i64 i0_0, .int .i64 i0_1, .int .i64 i0_2]) (w : World) : (execOp a.eval o).run Try.prog w = .ok (.value (.slice (some ⟨w.heap.size, 0, none⟩) 1 1)) (w.alloc (.cells #[.int .i64 i0_0, .int .i64 i0_1, .int .i64 i0_2] 30)) := by
  simp only [execOp, ho, List.map_toArray, List.map, h0]
  simp [go_sem]
end
section
variable {o : Oper} {a : Act} {x y : Operand} {i j : Int}
theorem pu_max (ho : o.op = .call { callee := .builtin .max, args := #[x, y], argTypes := #[3, 3] }) (hx : a.eval x = .int .i64 i) (hy : a.eval y = .int .i64 j) : Pure Try.prog o a (.int .i64 (max i j)) := fun w => by
  simp only [execOp, ho, resolve, List.map_toArray, List.map, hx, hy]
  first | (simp [go_sem]; done) | (simp [go_sem]; omega)
theorem pu_min (ho : o.op = .call { callee := .builtin .min, args := #[x, y], argTypes := #[3, 3] }) (hx : a.eval x = .int .i64 i) (hy : a.eval y = .int .i64 j) : Pure Try.prog o a (.int .i64 (min i j)) := fun w => by
  simp only [execOp, ho, resolve, List.map_toArray, List.map, hx, hy]
  first | (simp [go_sem]; done) | (simp [go_sem]; omega)
end
end Go.Proofs.Ytoadlnnhlnhkjaa
