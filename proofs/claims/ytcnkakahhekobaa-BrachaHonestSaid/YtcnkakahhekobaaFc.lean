/- Closed facts of this seat's program: types, functions. Made by gen.py. -/
import Derived.Test.YtcnkakahhekobaaFx
namespace Go.Proofs.Ytcnkakahhekobaa
open Go.RowKit
set_option maxRecDepth 100000
set_option linter.unusedSimpArgs false
set_option linter.unusedVariables false

theorem mixedOK : Try.prog.follows .mixedOrders = true := by kernel_rfl
theorem agg32 : AggTy Try.prog 32 4 := ⟨_, Try.underlying32, rfl, by kernel_rfl⟩
theorem agg41 : AggTy Try.prog 41 38 := ⟨_, Try.underlying41, rfl, by kernel_rfl⟩
theorem agg53 : AggTy Try.prog 53 2 := ⟨_, Try.underlying53, rfl, by kernel_rfl⟩
theorem agg69 : AggTy Try.prog 69 3 := ⟨_, Try.underlying69, rfl, by kernel_rfl⟩
theorem agg77 : AggTy Try.prog 77 7 := ⟨_, Try.underlying77, rfl, by kernel_rfl⟩
theorem one3 : OneTy Try.prog 3 := ⟨_, Try.underlying3, rfl⟩
theorem one4 : OneTy Try.prog 4 := ⟨_, Try.underlying4, rfl⟩
theorem one9 : OneTy Try.prog 9 := ⟨_, Try.underlying9, rfl⟩
theorem one24 : OneTy Try.prog 24 := ⟨_, Try.underlying24, rfl⟩
theorem one51 : OneTy Try.prog 51 := ⟨_, Try.underlying51, rfl⟩
theorem one59 : OneTy Try.prog 59 := ⟨_, Try.underlying59, rfl⟩
theorem one60 : OneTy Try.prog 60 := ⟨_, Try.underlying60, rfl⟩
theorem si4 : (Try.prog.info? 4).map (·.size) = some 1 := by kernel_rfl
theorem si9 : (Try.prog.info? 9).map (·.size) = some 1 := by kernel_rfl
theorem si59 : (Try.prog.info? 59).map (·.size) = some 1 := by kernel_rfl
theorem si60 : (Try.prog.info? 60).map (·.size) = some 1 := by kernel_rfl
theorem fo32_0 : fieldOff Try.prog 32 0 = some 0 := by kernel_rfl
theorem fo32_1 : fieldOff Try.prog 32 1 = some 1 := by kernel_rfl
theorem fo32_2 : fieldOff Try.prog 32 2 = some 2 := by kernel_rfl
theorem fo32_3 : fieldOff Try.prog 32 3 = some 3 := by kernel_rfl
theorem fo41_0 : fieldOff Try.prog 41 0 = some 0 := by kernel_rfl
theorem fo41_5 : fieldOff Try.prog 41 5 = some 5 := by kernel_rfl
theorem fo53_0 : fieldOff Try.prog 53 0 = some 0 := by kernel_rfl
theorem fo53_1 : fieldOff Try.prog 53 1 = some 1 := by kernel_rfl
theorem fo55_0 : fieldOff Try.prog 55 0 = some 0 := by kernel_rfl
theorem fo55_1 : fieldOff Try.prog 55 1 = some 1 := by kernel_rfl
theorem fo55_2 : fieldOff Try.prog 55 2 = some 2 := by kernel_rfl
theorem fo55_3 : fieldOff Try.prog 55 3 = some 4 := by kernel_rfl
theorem fo55_4 : fieldOff Try.prog 55 4 = some 5 := by kernel_rfl
theorem fo55_5 : fieldOff Try.prog 55 5 = some 6 := by kernel_rfl
theorem fo55_6 : fieldOff Try.prog 55 6 = some 7 := by kernel_rfl
theorem fo55_7 : fieldOff Try.prog 55 7 = some 8 := by kernel_rfl
theorem fo62_0 : fieldOff Try.prog 62 0 = some 0 := by kernel_rfl
theorem fo62_1 : fieldOff Try.prog 62 1 = some 1 := by kernel_rfl
theorem fo62_2 : fieldOff Try.prog 62 2 = some 2 := by kernel_rfl
theorem fo62_3 : fieldOff Try.prog 62 3 = some 3 := by kernel_rfl
theorem fo62_4 : fieldOff Try.prog 62 4 = some 4 := by kernel_rfl
theorem fo62_5 : fieldOff Try.prog 62 5 = some 5 := by kernel_rfl
theorem fo62_6 : fieldOff Try.prog 62 6 = some 6 := by kernel_rfl
theorem fo62_7 : fieldOff Try.prog 62 7 = some 7 := by kernel_rfl
theorem fo69_0 : fieldOff Try.prog 69 0 = some 0 := by kernel_rfl
theorem fo69_1 : fieldOff Try.prog 69 1 = some 1 := by kernel_rfl
theorem fo69_2 : fieldOff Try.prog 69 2 = some 2 := by kernel_rfl
theorem z32 : (Try.prog.info? 32).map (fun i => i.zero.map (·.cells)) = some (some #[.int .i64 0, .int .i64 0, .int .i64 0, .string ⟨#[]⟩]) := by kernel_rfl
theorem z53 : (Try.prog.info? 53).map (fun i => i.zero.map (·.cells)) = some (some #[.string ⟨#[]⟩, .bool false]) := by kernel_rfl
theorem z77 : (Try.prog.info? 77).map (fun i => i.zero.map (·.cells)) = some (some #[.bool false, .bool false, .bool false, .bool false, .bool false, .bool false, .bool false]) := by kernel_rfl
theorem mk4 : (Try.prog.info? 4).map (fun i => (i.zero, i.size, i.bytes)) = some (some (.bool false), 1, 1) := by kernel_rfl
theorem eqg41 : Try.prog.eqGuardType Try.prog.depth 41 = false := by kernel_rfl
theorem eqg77 : Try.prog.eqGuardType Try.prog.depth 77 = false := by kernel_rfl
theorem en9 : enters Try.prog 9 = true := by kernel_rfl
theorem en10 : enters Try.prog 10 = true := by kernel_rfl
theorem en11 : enters Try.prog 11 = true := by kernel_rfl
theorem en12 : enters Try.prog 12 = true := by kernel_rfl
theorem en13 : enters Try.prog 13 = true := by kernel_rfl
theorem en14 : enters Try.prog 14 = true := by kernel_rfl
theorem en15 : enters Try.prog 15 = true := by kernel_rfl
theorem en16 : enters Try.prog 16 = true := by kernel_rfl
theorem en17 : enters Try.prog 17 = true := by kernel_rfl
theorem en18 : enters Try.prog 18 = true := by kernel_rfl
theorem en19 : enters Try.prog 19 = true := by kernel_rfl
theorem en20 : enters Try.prog 20 = true := by kernel_rfl
theorem en21 : enters Try.prog 21 = true := by kernel_rfl
theorem en22 : enters Try.prog 22 = true := by kernel_rfl
theorem en23 : enters Try.prog 23 = true := by kernel_rfl
theorem en24 : enters Try.prog 24 = true := by kernel_rfl
theorem en25 : enters Try.prog 25 = true := by kernel_rfl
theorem en26 : enters Try.prog 26 = true := by kernel_rfl
theorem en27 : enters Try.prog 27 = true := by kernel_rfl
theorem en28 : enters Try.prog 28 = true := by kernel_rfl
theorem en29 : enters Try.prog 29 = true := by kernel_rfl
theorem en30 : enters Try.prog 30 = true := by kernel_rfl
theorem en31 : enters Try.prog 31 = true := by kernel_rfl
theorem en32 : enters Try.prog 32 = true := by kernel_rfl
theorem sl22 : SlTy Try.prog 22 32 4 := ⟨Try.underlying22, by kernel_rfl⟩
theorem el32 : ElTy Try.prog 32 4 40 := ⟨by omega, .agg #[.int .i64 0, .int .i64 0, .int .i64 0, .string ⟨#[]⟩], rfl, by kernel_rfl⟩
theorem sl34 : SlTy Try.prog 34 41 38 := ⟨Try.underlying34, by kernel_rfl⟩
theorem el41 : ElTy Try.prog 41 38 88 := ⟨by omega, .agg #[.int .i64 0, .int .i64 0, .int .i64 0, .int .i64 0, .int .i64 0, .string ⟨#[]⟩, .int .u8 0, .int .u8 0, .int .u8 0, .int .u8 0, .int .u8 0, .int .u8 0, .int .u8 0, .int .u8 0, .int .u8 0, .int .u8 0, .int .u8 0, .int .u8 0, .int .u8 0, .int .u8 0, .int .u8 0, .int .u8 0, .int .u8 0, .int .u8 0, .int .u8 0, .int .u8 0, .int .u8 0, .int .u8 0, .int .u8 0, .int .u8 0, .int .u8 0, .int .u8 0, .int .u8 0, .int .u8 0, .int .u8 0, .int .u8 0, .int .u8 0, .int .u8 0], rfl, by kernel_rfl⟩
theorem sl42 : SlTy Try.prog 42 4 1 := ⟨Try.underlying42, by kernel_rfl⟩
theorem el4 : ElTy Try.prog 4 1 1 := ⟨by omega, .bool false, rfl, by kernel_rfl⟩
theorem sl43 : SlTy Try.prog 43 24 1 := ⟨Try.underlying43, by kernel_rfl⟩
theorem el24 : ElTy Try.prog 24 1 8 := ⟨by omega, .pointer none, rfl, by kernel_rfl⟩
theorem sl59 : SlTy Try.prog 59 9 1 := ⟨Try.underlying59, by kernel_rfl⟩
theorem el9 : ElTy Try.prog 9 1 16 := ⟨by omega, .string ⟨#[]⟩, rfl, by kernel_rfl⟩
theorem sl60 : SlTy Try.prog 60 69 3 := ⟨Try.underlying60, by kernel_rfl⟩
theorem el69 : ElTy Try.prog 69 3 32 := ⟨by omega, .agg #[.int .i64 0, .int .i64 0, .string ⟨#[]⟩], rfl, by kernel_rfl⟩
section
variable {o : Oper} {a : Act}
theorem bu32_0_1_2_3 {x0 : Operand} {i0 : Int} {x1 : Operand} {i1 : Int} {x2 : Operand} {i2 : Int} {x3 : Operand} {i3 : Value} (ho : o.op = .build 32 #[(0, x0), (1, x1), (2, x2), (3, x3)]) (h0 : a.eval x0 = .int .i64 i0) (h1 : a.eval x1 = .int .i64 i1) (h2 : a.eval x2 = .int .i64 i2) (h3 : a.eval x3 = i3) (c3 : i3.cells = #[i3]) : Pure Try.prog o a (.agg #[.int .i64 i0, .int .i64 i1, .int .i64 i2, i3]) := fun w => by
  simp only [Value.cells] at c3
  simp only [execOp, ho, List.map_toArray, List.map, h0, h1, h2, h3]
  simp [go_sem, c3]
theorem bu41_0_5 {x0 : Operand} {i0 : Int} {x1 : Operand} {i1 : Value} (ho : o.op = .build 41 #[(0, x0), (5, x1)]) (h0 : a.eval x0 = .int .i64 i0) (h1 : a.eval x1 = i1) (c1 : i1.cells = #[i1]) : Pure Try.prog o a (.agg #[.int .i64 i0, .int .i64 0, .int .i64 0, .int .i64 0, .int .i64 0, i1, .int .u8 0, .int .u8 0, .int .u8 0, .int .u8 0, .int .u8 0, .int .u8 0, .int .u8 0, .int .u8 0, .int .u8 0, .int .u8 0, .int .u8 0, .int .u8 0, .int .u8 0, .int .u8 0, .int .u8 0, .int .u8 0, .int .u8 0, .int .u8 0, .int .u8 0, .int .u8 0, .int .u8 0, .int .u8 0, .int .u8 0, .int .u8 0, .int .u8 0, .int .u8 0, .int .u8 0, .int .u8 0, .int .u8 0, .int .u8 0, .int .u8 0, .int .u8 0]) := fun w => by
  simp only [Value.cells] at c1
  simp only [execOp, ho, List.map_toArray, List.map, h0, h1]
  simp [go_sem, c1]
theorem bu53_0_1 {x0 : Operand} {i0 : Value} {x1 : Operand} {i1 : Bool} (ho : o.op = .build 53 #[(0, x0), (1, x1)]) (h0 : a.eval x0 = i0) (c0 : i0.cells = #[i0]) (h1 : a.eval x1 = .bool i1) : Pure Try.prog o a (.agg #[i0, .bool i1]) := fun w => by
  simp only [Value.cells] at c0
  simp only [execOp, ho, List.map_toArray, List.map, h0, h1]
  simp [go_sem, c0]
theorem bu55_0_1_4_5 {x0 : Operand} {i0 : Int} {x1 : Operand} {i1 : Int} {x2 : Operand} {i2 : Value} {x3 : Operand} {i3 : Value} (ho : o.op = .build 55 #[(0, x0), (1, x1), (4, x2), (5, x3)]) (h0 : a.eval x0 = .int .i64 i0) (h1 : a.eval x1 = .int .i64 i1) (h2 : a.eval x2 = i2) (c2 : i2.cells = #[i2]) (h3 : a.eval x3 = i3) (c3 : i3.cells = #[i3]) : Pure Try.prog o a (.agg #[.int .i64 i0, .int .i64 i1, .string ⟨#[]⟩, .bool false, .bool false, i2, i3, .bool false, .string ⟨#[]⟩, .bool false]) := fun w => by
  simp only [Value.cells] at c2
  simp only [Value.cells] at c3
  simp only [execOp, ho, List.map_toArray, List.map, h0, h1, h2, h3]
  simp [go_sem, c2, c3]
theorem bu62_0_1 {x0 : Operand} {i0 : Int} {x1 : Operand} {i1 : Int} (ho : o.op = .build 62 #[(0, x0), (1, x1)]) (h0 : a.eval x0 = .int .i64 i0) (h1 : a.eval x1 = .int .i64 i1) : Pure Try.prog o a (.agg #[.int .i64 i0, .int .i64 i1, (.slice none 0 0), (.slice none 0 0), .bool false, .bool false, .bool false, .string ⟨#[]⟩]) := fun w => by
  simp only [execOp, ho, List.map_toArray, List.map, h0, h1]
  simp [go_sem]
theorem bu69_0_1_2 {x0 : Operand} {i0 : Int} {x1 : Operand} {i1 : Int} {x2 : Operand} {i2 : Value} (ho : o.op = .build 69 #[(0, x0), (1, x1), (2, x2)]) (h0 : a.eval x0 = .int .i64 i0) (h1 : a.eval x1 = .int .i64 i1) (h2 : a.eval x2 = i2) (c2 : i2.cells = #[i2]) : Pure Try.prog o a (.agg #[.int .i64 i0, .int .i64 i1, i2]) := fun w => by
  simp only [Value.cells] at c2
  simp only [execOp, ho, List.map_toArray, List.map, h0, h1, h2]
  simp [go_sem, c2]
theorem bu75_0_1 {x0 : Operand} {i0 : Int} {x1 : Operand} {i1 : Int} (ho : o.op = .build 75 #[(0, x0), (1, x1)]) (h0 : a.eval x0 = .int .i64 i0) (h1 : a.eval x1 = .int .i64 i1) : Pure Try.prog o a (.agg #[.int .i64 i0, .int .i64 i1, (.slice none 0 0), (.slice none 0 0)]) := fun w => by
  simp only [execOp, ho, List.map_toArray, List.map, h0, h1]
  simp [go_sem]
theorem bs22_1 {x0 : Operand} {i0_0 : Int} {i0_1 : Int} {i0_2 : Int} {i0_3 : Value} (ho : o.op = .buildSlice 22 1 #[(0, x0)]) (h0 : a.eval x0 = .agg #[.int .i64 i0_0, .int .i64 i0_1, .int .i64 i0_2, i0_3]) (w : World) : (execOp a.eval o).run Try.prog w = .ok (.value (.slice (some ⟨w.heap.size, 0, none⟩) 1 1)) (w.alloc (.cells #[.int .i64 i0_0, .int .i64 i0_1, .int .i64 i0_2, i0_3] 32)) := by
  simp only [execOp, ho, List.map_toArray, List.map, h0]
  simp [go_sem]
theorem bs34_1 {x0 : Operand} {i0_0 : Int} {i0_1 : Int} {i0_2 : Int} {i0_3 : Int} {i0_4 : Int} {i0_5 : Value} {i0_6 : Int} {i0_7 : Int} {i0_8 : Int} {i0_9 : Int} {i0_10 : Int} {i0_11 : Int} {i0_12 : Int} {i0_13 : Int} {i0_14 : Int} {i0_15 : Int} {i0_16 : Int} {i0_17 : Int} {i0_18 : Int} {i0_19 : Int} {i0_20 : Int} {i0_21 : Int} {i0_22 : Int} {i0_23 : Int} {i0_24 : Int} {i0_25 : Int} {i0_26 : Int} {i0_27 : Int} {i0_28 : Int} {i0_29 : Int} {i0_30 : Int} {i0_31 : Int} {i0_32 : Int} {i0_33 : Int} {i0_34 : Int} {i0_35 : Int} {i0_36 : Int} {i0_37 : Int} (ho : o.op = .buildSlice 34 1 #[(0, x0)]) (h0 : a.eval x0 = .agg #[.int .i64 i0_0, .int .i64 i0_1, .int .i64 i0_2, .int .i64 i0_3, .int .i64 i0_4, i0_5, .int .u8 i0_6, .int .u8 i0_7, .int .u8 i0_8, .int .u8 i0_9, .int .u8 i0_10, .int .u8 i0_11, .int .u8 i0_12, .int .u8 i0_13, .int .u8 i0_14, .int .u8 i0_15, .int .u8 i0_16, .int .u8 i0_17, .int .u8 i0_18, .int .u8 i0_19, .int .u8 i0_20, .int .u8 i0_21, .int .u8 i0_22, .int .u8 i0_23, .int .u8 i0_24, .int .u8 i0_25, .int .u8 i0_26, .int .u8 i0_27, .int .u8 i0_28, .int .u8 i0_29, .int .u8 i0_30, .int .u8 i0_31, .int .u8 i0_32, .int .u8 i0_33, .int .u8 i0_34, .int .u8 i0_35, .int .u8 i0_36, .int .u8 i0_37]) (w : World) : (execOp a.eval o).run Try.prog w = .ok (.value (.slice (some ⟨w.heap.size, 0, none⟩) 1 1)) (w.alloc (.cells #[.int .i64 i0_0, .int .i64 i0_1, .int .i64 i0_2, .int .i64 i0_3, .int .i64 i0_4, i0_5, .int .u8 i0_6, .int .u8 i0_7, .int .u8 i0_8, .int .u8 i0_9, .int .u8 i0_10, .int .u8 i0_11, .int .u8 i0_12, .int .u8 i0_13, .int .u8 i0_14, .int .u8 i0_15, .int .u8 i0_16, .int .u8 i0_17, .int .u8 i0_18, .int .u8 i0_19, .int .u8 i0_20, .int .u8 i0_21, .int .u8 i0_22, .int .u8 i0_23, .int .u8 i0_24, .int .u8 i0_25, .int .u8 i0_26, .int .u8 i0_27, .int .u8 i0_28, .int .u8 i0_29, .int .u8 i0_30, .int .u8 i0_31, .int .u8 i0_32, .int .u8 i0_33, .int .u8 i0_34, .int .u8 i0_35, .int .u8 i0_36, .int .u8 i0_37] 41)) := by
  simp only [execOp, ho, List.map_toArray, List.map, h0]
  simp [go_sem]
theorem bs43_1 {x0 : Operand} {i0 : Value} (ho : o.op = .buildSlice 43 1 #[(0, x0)]) (h0 : a.eval x0 = i0) (c0 : i0.cells = #[i0]) (w : World) : (execOp a.eval o).run Try.prog w = .ok (.value (.slice (some ⟨w.heap.size, 0, none⟩) 1 1)) (w.alloc (.cells #[i0] 24)) := by
  simp only [Value.cells] at c0
  simp only [execOp, ho, List.map_toArray, List.map, h0]
  simp [go_sem, c0]
theorem bs59_0 (ho : o.op = .buildSlice 59 0 #[]) (w : World) : (execOp a.eval o).run Try.prog w = .ok (.value (.slice (some ⟨w.heap.size, 0, none⟩) 0 0)) (w.alloc (.cells #[] 9)) := by
  simp only [execOp, ho, List.map_toArray, List.map]
  simp [go_sem]
theorem bs59_1 {x0 : Operand} {i0 : Value} (ho : o.op = .buildSlice 59 1 #[(0, x0)]) (h0 : a.eval x0 = i0) (c0 : i0.cells = #[i0]) (w : World) : (execOp a.eval o).run Try.prog w = .ok (.value (.slice (some ⟨w.heap.size, 0, none⟩) 1 1)) (w.alloc (.cells #[i0] 9)) := by
  simp only [Value.cells] at c0
  simp only [execOp, ho, List.map_toArray, List.map, h0]
  simp [go_sem, c0]
theorem bs60_1 {x0 : Operand} {i0_0 : Int} {i0_1 : Int} {i0_2 : Value} (ho : o.op = .buildSlice 60 1 #[(0, x0)]) (h0 : a.eval x0 = .agg #[.int .i64 i0_0, .int .i64 i0_1, i0_2]) (w : World) : (execOp a.eval o).run Try.prog w = .ok (.value (.slice (some ⟨w.heap.size, 0, none⟩) 1 1)) (w.alloc (.cells #[.int .i64 i0_0, .int .i64 i0_1, i0_2] 69)) := by
  simp only [execOp, ho, List.map_toArray, List.map, h0]
  simp [go_sem]
theorem ix46_0 {x y : Operand} {g : Nat} (ho : o.op = .indexAddr 46 x y) (hx : a.eval x = .pointer (some ⟨g, 0, none⟩)) (hy : a.eval y = .int .i64 0) : Pure Try.prog o a (.pointer (some ⟨g, 0, none⟩)) := fun w => by
  simp only [execOp, ho, hx, hy]
  simp [go_sem]
theorem ix46_1 {x y : Operand} {g : Nat} (ho : o.op = .indexAddr 46 x y) (hx : a.eval x = .pointer (some ⟨g, 0, none⟩)) (hy : a.eval y = .int .i64 1) : Pure Try.prog o a (.pointer (some ⟨g, 1, none⟩)) := fun w => by
  simp only [execOp, ho, hx, hy]
  simp [go_sem]
theorem ixv77 {x y : Operand} {g : Nat} {i : Int} (ho : o.op = .indexAddr 77 x y) (hx : a.eval x = .pointer (some ⟨g, 0, none⟩)) (hy : a.eval y = .int .i64 i) (h0 : 0 ≤ i) (h1 : i < 7) : Pure Try.prog o a (.pointer (some ⟨g, 0 + i.toNat * 1, none⟩)) := fun w => by
  simp only [execOp, ho, hx, hy]
  obtain ⟨k, rfl⟩ := Int.eq_ofNat_of_zero_le h0
  first | (simp [go_sem]; done) | (simp [go_sem]; omega)
theorem ixo77 {x y : Operand} {g og : Nat} {i : Int} (ho : o.op = .indexAddr 77 x y) (hx : a.eval x = .pointer (some ⟨g, og, none⟩)) (hy : a.eval y = .int .i64 i) (h0 : 0 ≤ i) (h1 : i < 7) : Pure Try.prog o a (.pointer (some ⟨g, og + i.toNat * 1, none⟩)) := fun w => by
  simp only [execOp, ho, hx, hy]
  obtain ⟨k, rfl⟩ := Int.eq_ofNat_of_zero_le h0
  first | (simp [go_sem]; done) | (simp [go_sem]; omega)
end
section
variable {o : Oper} {a : Act} {x y : Operand} {i j : Int}
theorem pu_max (ho : o.op = .call { callee := .builtin .max, args := #[x, y], argTypes := #[3, 3] }) (hx : a.eval x = .int .i64 i) (hy : a.eval y = .int .i64 j) : Pure Try.prog o a (.int .i64 (max i j)) := fun w => by
  simp only [execOp, ho, resolve, List.map_toArray, List.map, hx, hy]
  first | (simp [go_sem]; done) | (simp [go_sem]; omega)
theorem pu_min (ho : o.op = .call { callee := .builtin .min, args := #[x, y], argTypes := #[3, 3] }) (hx : a.eval x = .int .i64 i) (hy : a.eval y = .int .i64 j) : Pure Try.prog o a (.int .i64 (min i j)) := fun w => by
  simp only [execOp, ho, resolve, List.map_toArray, List.map, hx, hy]
  first | (simp [go_sem]; done) | (simp [go_sem]; omega)
end
end Go.Proofs.Ytcnkakahhekobaa
