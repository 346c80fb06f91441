/- Closed facts of this seat's program: types, functions. Made by gen.py. -/
import Derived.Test.YtlgeodnbkndciaaFx
namespace Go.Proofs.Ytlgeodnbkndciaa
open Go.RowKit
set_option maxRecDepth 100000
set_option linter.unusedSimpArgs false
set_option linter.unusedVariables false

theorem mixedOK : Try.prog.follows .mixedOrders = true := by kernel_rfl
theorem agg24 : AggTy Try.prog 24 2 := ⟨_, Try.underlying24, rfl, by kernel_rfl⟩
theorem agg26 : AggTy Try.prog 26 3 := ⟨_, Try.underlying26, rfl, by kernel_rfl⟩
theorem agg36 : AggTy Try.prog 36 2 := ⟨_, Try.underlying36, rfl, by kernel_rfl⟩
theorem agg44 : AggTy Try.prog 44 2 := ⟨_, Try.underlying44, rfl, by kernel_rfl⟩
theorem agg46 : AggTy Try.prog 46 4 := ⟨_, Try.underlying46, rfl, by kernel_rfl⟩
theorem agg69 : AggTy Try.prog 69 8 := ⟨_, Try.underlying69, rfl, by kernel_rfl⟩
theorem agg100 : AggTy Try.prog 100 2 := ⟨_, Try.underlying100, rfl, by kernel_rfl⟩
theorem one3 : OneTy Try.prog 3 := ⟨_, Try.underlying3, rfl⟩
theorem one4 : OneTy Try.prog 4 := ⟨_, Try.underlying4, rfl⟩
theorem one30 : OneTy Try.prog 30 := ⟨_, Try.underlying30, rfl⟩
theorem one34 : OneTy Try.prog 34 := ⟨_, Try.underlying34, rfl⟩
theorem one52 : OneTy Try.prog 52 := ⟨_, Try.underlying52, rfl⟩
theorem one53 : OneTy Try.prog 53 := ⟨_, Try.underlying53, rfl⟩
theorem one79 : OneTy Try.prog 79 := ⟨_, Try.underlying79, rfl⟩
theorem one93 : OneTy Try.prog 93 := ⟨_, Try.underlying93, rfl⟩
theorem one120 : OneTy Try.prog 120 := ⟨_, Try.underlying120, rfl⟩
theorem si3 : (Try.prog.info? 3).map (·.size) = some 1 := by kernel_rfl
theorem si4 : (Try.prog.info? 4).map (·.size) = some 1 := by kernel_rfl
theorem si30 : (Try.prog.info? 30).map (·.size) = some 1 := by kernel_rfl
theorem si52 : (Try.prog.info? 52).map (·.size) = some 1 := by kernel_rfl
theorem si53 : (Try.prog.info? 53).map (·.size) = some 1 := by kernel_rfl
theorem si120 : (Try.prog.info? 120).map (·.size) = some 1 := by kernel_rfl
theorem fo24_0 : fieldOff Try.prog 24 0 = some 0 := by kernel_rfl
theorem fo24_1 : fieldOff Try.prog 24 1 = some 1 := by kernel_rfl
theorem fo26_0 : fieldOff Try.prog 26 0 = some 0 := by kernel_rfl
theorem fo26_1 : fieldOff Try.prog 26 1 = some 1 := by kernel_rfl
theorem fo36_0 : fieldOff Try.prog 36 0 = some 0 := by kernel_rfl
theorem fo36_1 : fieldOff Try.prog 36 1 = some 1 := by kernel_rfl
theorem fo44_0 : fieldOff Try.prog 44 0 = some 0 := by kernel_rfl
theorem fo44_1 : fieldOff Try.prog 44 1 = some 1 := by kernel_rfl
theorem fo46_0 : fieldOff Try.prog 46 0 = some 0 := by kernel_rfl
theorem fo46_1 : fieldOff Try.prog 46 1 = some 1 := by kernel_rfl
theorem fo46_2 : fieldOff Try.prog 46 2 = some 2 := by kernel_rfl
theorem fo100_0 : fieldOff Try.prog 100 0 = some 0 := by kernel_rfl
theorem fo100_1 : fieldOff Try.prog 100 1 = some 1 := by kernel_rfl
theorem z3 : (Try.prog.info? 3).map (fun i => i.zero.map (·.cells)) = some (some #[.int .i64 0]) := by kernel_rfl
theorem z24 : (Try.prog.info? 24).map (fun i => i.zero.map (·.cells)) = some (some #[.int .i64 0, .int .i64 0]) := by kernel_rfl
theorem z26 : (Try.prog.info? 26).map (fun i => i.zero.map (·.cells)) = some (some #[.int .i64 0, .int .i64 0, .int .i64 0]) := by kernel_rfl
theorem z30 : (Try.prog.info? 30).map (fun i => i.zero.map (·.cells)) = some (some #[(.slice none 0 0)]) := by kernel_rfl
theorem z44 : (Try.prog.info? 44).map (fun i => i.zero.map (·.cells)) = some (some #[.int .i64 0, .int .i64 0]) := by kernel_rfl
theorem z46 : (Try.prog.info? 46).map (fun i => i.zero.map (·.cells)) = some (some #[.int .i64 0, .int .i64 0, .int .i64 0, .int .i64 0]) := by kernel_rfl
theorem z69 : (Try.prog.info? 69).map (fun i => i.zero.map (·.cells)) = some (some #[.int .i64 0, .int .i64 0, .int .i64 0, .int .i64 0, .int .i64 0, .int .i64 0, .int .i64 0, .int .i64 0]) := by kernel_rfl
theorem z120 : (Try.prog.info? 120).map (fun i => i.zero.map (·.cells)) = some (some #[.int .u64 0]) := by kernel_rfl
theorem mk4 : (Try.prog.info? 4).map (fun i => (i.zero, i.size, i.bytes)) = some (some (.bool false), 1, 1) := by kernel_rfl
theorem mk52 : (Try.prog.info? 52).map (fun i => (i.zero, i.size, i.bytes)) = some (some ((.slice none 0 0)), 1, 24) := by kernel_rfl
theorem mk53 : (Try.prog.info? 53).map (fun i => (i.zero, i.size, i.bytes)) = some (some ((.slice none 0 0)), 1, 24) := by kernel_rfl
theorem eqg24 : Try.prog.eqGuardType Try.prog.depth 24 = false := by kernel_rfl
theorem eqg44 : Try.prog.eqGuardType Try.prog.depth 44 = false := by kernel_rfl
theorem eqg69 : Try.prog.eqGuardType Try.prog.depth 69 = false := by kernel_rfl
theorem en9 : enters Try.prog 9 = true := by kernel_rfl
theorem en10 : enters Try.prog 10 = true := by kernel_rfl
theorem en11 : enters Try.prog 11 = true := by kernel_rfl
theorem en12 : enters Try.prog 12 = true := by kernel_rfl
theorem en13 : enters Try.prog 13 = true := by kernel_rfl
theorem en14 : enters Try.prog 14 = true := by kernel_rfl
theorem en15 : enters Try.prog 15 = true := by kernel_rfl
theorem en16 : enters Try.prog 16 = true := by kernel_rfl
theorem en17 : enters Try.prog 17 = true := by kernel_rfl
theorem en18 : enters Try.prog 18 = true := by kernel_rfl
theorem en19 : enters Try.prog 19 = true := by kernel_rfl
theorem en20 : enters Try.prog 20 = true := by kernel_rfl
theorem en21 : enters Try.prog 21 = true := by kernel_rfl
theorem en22 : enters Try.prog 22 = true := by kernel_rfl
theorem en23 : enters Try.prog 23 = true := by kernel_rfl
theorem en24 : enters Try.prog 24 = true := by kernel_rfl
theorem en25 : enters Try.prog 25 = true := by kernel_rfl
theorem en26 : enters Try.prog 26 = true := by kernel_rfl
theorem en27 : enters Try.prog 27 = true := by kernel_rfl
theorem en28 : enters Try.prog 28 = true := by kernel_rfl
theorem en29 : enters Try.prog 29 = true := by kernel_rfl
theorem en30 : enters Try.prog 30 = true := by kernel_rfl
theorem en31 : enters Try.prog 31 = true := by kernel_rfl
theorem en32 : enters Try.prog 32 = true := by kernel_rfl
theorem en33 : enters Try.prog 33 = true := by kernel_rfl
theorem en34 : enters Try.prog 34 = true := by kernel_rfl
theorem en35 : enters Try.prog 35 = true := by kernel_rfl
theorem en36 : enters Try.prog 36 = true := by kernel_rfl
theorem en37 : enters Try.prog 37 = true := by kernel_rfl
theorem en38 : enters Try.prog 38 = true := by kernel_rfl
theorem en39 : enters Try.prog 39 = true := by kernel_rfl
theorem en40 : enters Try.prog 40 = true := by kernel_rfl
theorem en41 : enters Try.prog 41 = true := by kernel_rfl
theorem en42 : enters Try.prog 42 = true := by kernel_rfl
theorem en43 : enters Try.prog 43 = true := by kernel_rfl
theorem en44 : enters Try.prog 44 = true := by kernel_rfl
theorem en45 : enters Try.prog 45 = true := by kernel_rfl
theorem en46 : enters Try.prog 46 = true := by kernel_rfl
theorem en47 : enters Try.prog 47 = true := by kernel_rfl
theorem en48 : enters Try.prog 48 = true := by kernel_rfl
theorem en50 : enters Try.prog 50 = true := by kernel_rfl
theorem en51 : enters Try.prog 51 = true := by kernel_rfl
theorem en52 : enters Try.prog 52 = true := by kernel_rfl
theorem en53 : enters Try.prog 53 = true := by kernel_rfl
theorem en54 : enters Try.prog 54 = true := by kernel_rfl
theorem en55 : enters Try.prog 55 = true := by kernel_rfl
theorem en56 : enters Try.prog 56 = true := by kernel_rfl
theorem en57 : enters Try.prog 57 = true := by kernel_rfl
theorem en58 : enters Try.prog 58 = true := by kernel_rfl
theorem en59 : enters Try.prog 59 = true := by kernel_rfl
theorem en60 : enters Try.prog 60 = true := by kernel_rfl
theorem en61 : enters Try.prog 61 = true := by kernel_rfl
theorem en62 : enters Try.prog 62 = true := by kernel_rfl
theorem en66 : enters Try.prog 66 = true := by kernel_rfl
theorem en67 : enters Try.prog 67 = true := by kernel_rfl
theorem en68 : enters Try.prog 68 = true := by kernel_rfl
theorem en69 : enters Try.prog 69 = true := by kernel_rfl
theorem en70 : enters Try.prog 70 = true := by kernel_rfl
theorem en82 : enters Try.prog 82 = true := by kernel_rfl
theorem en83 : enters Try.prog 83 = true := by kernel_rfl
theorem en84 : enters Try.prog 84 = true := by kernel_rfl
theorem en85 : enters Try.prog 85 = true := by kernel_rfl
theorem en86 : enters Try.prog 86 = true := by kernel_rfl
theorem en87 : enters Try.prog 87 = true := by kernel_rfl
theorem en88 : enters Try.prog 88 = true := by kernel_rfl
theorem en89 : enters Try.prog 89 = true := by kernel_rfl
theorem en90 : enters Try.prog 90 = true := by kernel_rfl
theorem en91 : enters Try.prog 91 = true := by kernel_rfl
theorem en92 : enters Try.prog 92 = true := by kernel_rfl
theorem en93 : enters Try.prog 93 = true := by kernel_rfl
theorem en94 : enters Try.prog 94 = true := by kernel_rfl
theorem en95 : enters Try.prog 95 = true := by kernel_rfl
theorem sl22 : SlTy Try.prog 22 52 1 := ⟨Try.underlying22, by kernel_rfl⟩
theorem el52 : ElTy Try.prog 52 1 24 := ⟨by omega, (.slice none 0 0), rfl, by kernel_rfl⟩
theorem sl30 : SlTy Try.prog 30 24 2 := ⟨Try.underlying30, by kernel_rfl⟩
theorem el24 : ElTy Try.prog 24 2 16 := ⟨by omega, .agg #[.int .i64 0, .int .i64 0], rfl, by kernel_rfl⟩
theorem sl34 : SlTy Try.prog 34 46 4 := ⟨Try.underlying34, by kernel_rfl⟩
theorem el46 : ElTy Try.prog 46 4 32 := ⟨by omega, .agg #[.int .i64 0, .int .i64 0, .int .i64 0, .int .i64 0], rfl, by kernel_rfl⟩
theorem sl52 : SlTy Try.prog 52 53 1 := ⟨Try.underlying52, by kernel_rfl⟩
theorem el53 : ElTy Try.prog 53 1 24 := ⟨by omega, (.slice none 0 0), rfl, by kernel_rfl⟩
theorem sl53 : SlTy Try.prog 53 44 2 := ⟨Try.underlying53, by kernel_rfl⟩
theorem el44 : ElTy Try.prog 44 2 16 := ⟨by omega, .agg #[.int .i64 0, .int .i64 0], rfl, by kernel_rfl⟩
theorem sl64 : SlTy Try.prog 64 3 1 := ⟨Try.underlying64, by kernel_rfl⟩
theorem el3 : ElTy Try.prog 3 1 8 := ⟨by omega, .int .i64 0, rfl, by kernel_rfl⟩
theorem sl76 : SlTy Try.prog 76 4 1 := ⟨Try.underlying76, by kernel_rfl⟩
theorem el4 : ElTy Try.prog 4 1 1 := ⟨by omega, .bool false, rfl, by kernel_rfl⟩
theorem sl83 : SlTy Try.prog 83 44 2 := ⟨Try.underlying83, by kernel_rfl⟩
theorem sl103 : SlTy Try.prog 103 24 2 := ⟨Try.underlying103, by kernel_rfl⟩
section
variable {o : Oper} {a : Act}
theorem bu24_ (ho : o.op = .build 24 #[]) : Pure Try.prog o a (.agg #[.int .i64 0, .int .i64 0]) := fun w => by
  simp only [execOp, ho, List.map_toArray, List.map]
  simp [go_sem]
theorem bu24_0_1 {x0 : Operand} {i0 : Int} {x1 : Operand} {i1 : Int} (ho : o.op = .build 24 #[(0, x0), (1, x1)]) (h0 : a.eval x0 = .int .i64 i0) (h1 : a.eval x1 = .int .i64 i1) : Pure Try.prog o a (.agg #[.int .i64 i0, .int .i64 i1]) := fun w => by
  simp only [execOp, ho, List.map_toArray, List.map, h0, h1]
  simp [go_sem]
theorem bu26_0_1 {x0 : Operand} {i0 : Int} {x1 : Operand} {i1_0 : Int} {i1_1 : Int} (ho : o.op = .build 26 #[(0, x0), (1, x1)]) (h0 : a.eval x0 = .int .i64 i0) (h1 : a.eval x1 = .agg #[.int .i64 i1_0, .int .i64 i1_1]) : Pure Try.prog o a (.agg #[.int .i64 i0, .int .i64 i1_0, .int .i64 i1_1]) := fun w => by
  simp only [execOp, ho, List.map_toArray, List.map, h0, h1]
  simp [go_sem]
theorem bu26_1 {x0 : Operand} {i0_0 : Int} {i0_1 : Int} (ho : o.op = .build 26 #[(1, x0)]) (h0 : a.eval x0 = .agg #[.int .i64 i0_0, .int .i64 i0_1]) : Pure Try.prog o a (.agg #[.int .i64 0, .int .i64 i0_0, .int .i64 i0_1]) := fun w => by
  simp only [execOp, ho, List.map_toArray, List.map, h0]
  simp [go_sem]
theorem bu36_0_1 {x0 : Operand} {i0 : Int} {x1 : Operand} {i1 : Value} (ho : o.op = .build 36 #[(0, x0), (1, x1)]) (h0 : a.eval x0 = .int .i64 i0) (h1 : a.eval x1 = i1) (c1 : i1.cells = #[i1]) : Pure Try.prog o a (.agg #[.int .i64 i0, i1]) := fun w => by
  simp only [Value.cells] at c1
  simp only [execOp, ho, List.map_toArray, List.map, h0, h1]
  simp [go_sem, c1]
theorem bu44_ (ho : o.op = .build 44 #[]) : Pure Try.prog o a (.agg #[.int .i64 0, .int .i64 0]) := fun w => by
  simp only [execOp, ho, List.map_toArray, List.map]
  simp [go_sem]
theorem bu44_1 {x0 : Operand} {i0 : Int} (ho : o.op = .build 44 #[(1, x0)]) (h0 : a.eval x0 = .int .i64 i0) : Pure Try.prog o a (.agg #[.int .i64 0, .int .i64 i0]) := fun w => by
  simp only [execOp, ho, List.map_toArray, List.map, h0]
  simp [go_sem]
theorem bu46_0_1 {x0 : Operand} {i0 : Int} {x1 : Operand} {i1 : Int} (ho : o.op = .build 46 #[(0, x0), (1, x1)]) (h0 : a.eval x0 = .int .i64 i0) (h1 : a.eval x1 = .int .i64 i1) : Pure Try.prog o a (.agg #[.int .i64 i0, .int .i64 i1, .int .i64 0, .int .i64 0]) := fun w => by
  simp only [execOp, ho, List.map_toArray, List.map, h0, h1]
  simp [go_sem]
theorem bu46_0_1_2 {x0 : Operand} {i0 : Int} {x1 : Operand} {i1 : Int} {x2 : Operand} {i2_0 : Int} {i2_1 : Int} (ho : o.op = .build 46 #[(0, x0), (1, x1), (2, x2)]) (h0 : a.eval x0 = .int .i64 i0) (h1 : a.eval x1 = .int .i64 i1) (h2 : a.eval x2 = .agg #[.int .i64 i2_0, .int .i64 i2_1]) : Pure Try.prog o a (.agg #[.int .i64 i0, .int .i64 i1, .int .i64 i2_0, .int .i64 i2_1]) := fun w => by
  simp only [execOp, ho, List.map_toArray, List.map, h0, h1, h2]
  simp [go_sem]
theorem bs30_0 (ho : o.op = .buildSlice 30 0 #[]) (w : World) : (execOp a.eval o).run Try.prog w = .ok (.value (.slice (some ⟨w.heap.size, 0, none⟩) 0 0)) (w.alloc (.cells #[] 24)) := by
  simp only [execOp, ho, List.map_toArray, List.map]
  simp [go_sem]
theorem bs30_1 {x0 : Operand} {i0_0 : Int} {i0_1 : Int} (ho : o.op = .buildSlice 30 1 #[(0, x0)]) (h0 : a.eval x0 = .agg #[.int .i64 i0_0, .int .i64 i0_1]) (w : World) : (execOp a.eval o).run Try.prog w = .ok (.value (.slice (some ⟨w.heap.size, 0, none⟩) 1 1)) (w.alloc (.cells #[.int .i64 i0_0, .int .i64 i0_1] 24)) := by
  simp only [execOp, ho, List.map_toArray, List.map, h0]
  simp [go_sem]
theorem bs34_2 {x0 : Operand} {i0_0 : Int} {i0_1 : Int} {i0_2 : Int} {i0_3 : Int} {x1 : Operand} {i1_0 : Int} {i1_1 : Int} {i1_2 : Int} {i1_3 : Int} (ho : o.op = .buildSlice 34 2 #[(0, x0), (1, x1)]) (h0 : a.eval x0 = .agg #[.int .i64 i0_0, .int .i64 i0_1, .int .i64 i0_2, .int .i64 i0_3]) (h1 : a.eval x1 = .agg #[.int .i64 i1_0, .int .i64 i1_1, .int .i64 i1_2, .int .i64 i1_3]) (w : World) : (execOp a.eval o).run Try.prog w = .ok (.value (.slice (some ⟨w.heap.size, 0, none⟩) 2 2)) (w.alloc (.cells #[.int .i64 i0_0, .int .i64 i0_1, .int .i64 i0_2, .int .i64 i0_3, .int .i64 i1_0, .int .i64 i1_1, .int .i64 i1_2, .int .i64 i1_3] 46)) := by
  simp only [execOp, ho, List.map_toArray, List.map, h0, h1]
  simp [go_sem]
theorem bs53_1 {x0 : Operand} {i0_0 : Int} {i0_1 : Int} (ho : o.op = .buildSlice 53 1 #[(0, x0)]) (h0 : a.eval x0 = .agg #[.int .i64 i0_0, .int .i64 i0_1]) (w : World) : (execOp a.eval o).run Try.prog w = .ok (.value (.slice (some ⟨w.heap.size, 0, none⟩) 1 1)) (w.alloc (.cells #[.int .i64 i0_0, .int .i64 i0_1] 44)) := by
  simp only [execOp, ho, List.map_toArray, List.map, h0]
  simp [go_sem]
theorem bs64_1 {x0 : Operand} {i0 : Int} (ho : o.op = .buildSlice 64 1 #[(0, x0)]) (h0 : a.eval x0 = .int .i64 i0) (w : World) : (execOp a.eval o).run Try.prog w = .ok (.value (.slice (some ⟨w.heap.size, 0, none⟩) 1 1)) (w.alloc (.cells #[.int .i64 i0] 3)) := by
  simp only [execOp, ho, List.map_toArray, List.map, h0]
  simp [go_sem]
theorem ix37_0 {x y : Operand} {g : Nat} (ho : o.op = .indexAddr 37 x y) (hx : a.eval x = .pointer (some ⟨g, 0, none⟩)) (hy : a.eval y = .int .i64 0) : Pure Try.prog o a (.pointer (some ⟨g, 0, none⟩)) := fun w => by
  simp only [execOp, ho, hx, hy]
  simp [go_sem]
theorem ix37_1 {x y : Operand} {g : Nat} (ho : o.op = .indexAddr 37 x y) (hx : a.eval x = .pointer (some ⟨g, 0, none⟩)) (hy : a.eval y = .int .i64 1) : Pure Try.prog o a (.pointer (some ⟨g, 3, none⟩)) := fun w => by
  simp only [execOp, ho, hx, hy]
  simp [go_sem]
theorem ix37_2 {x y : Operand} {g : Nat} (ho : o.op = .indexAddr 37 x y) (hx : a.eval x = .pointer (some ⟨g, 0, none⟩)) (hy : a.eval y = .int .i64 2) : Pure Try.prog o a (.pointer (some ⟨g, 6, none⟩)) := fun w => by
  simp only [execOp, ho, hx, hy]
  simp [go_sem]
theorem ix43_0 {x y : Operand} {g : Nat} (ho : o.op = .indexAddr 43 x y) (hx : a.eval x = .pointer (some ⟨g, 0, none⟩)) (hy : a.eval y = .int .i64 0) : Pure Try.prog o a (.pointer (some ⟨g, 0, none⟩)) := fun w => by
  simp only [execOp, ho, hx, hy]
  simp [go_sem]
theorem ix43_1 {x y : Operand} {g : Nat} (ho : o.op = .indexAddr 43 x y) (hx : a.eval x = .pointer (some ⟨g, 0, none⟩)) (hy : a.eval y = .int .i64 1) : Pure Try.prog o a (.pointer (some ⟨g, 3, none⟩)) := fun w => by
  simp only [execOp, ho, hx, hy]
  simp [go_sem]
theorem ixv69 {x y : Operand} {g : Nat} {i : Int} (ho : o.op = .indexAddr 69 x y) (hx : a.eval x = .pointer (some ⟨g, 0, none⟩)) (hy : a.eval y = .int .i64 i) (h0 : 0 ≤ i) (h1 : i < 8) : Pure Try.prog o a (.pointer (some ⟨g, 0 + i.toNat * 1, none⟩)) := fun w => by
  simp only [execOp, ho, hx, hy]
  obtain ⟨k, rfl⟩ := Int.eq_ofNat_of_zero_le h0
  simp [go_sem]
  omega
end
section
variable {o : Oper} {a : Act} {x y : Operand} {i j : Int}
theorem pu_max (ho : o.op = .call { callee := .builtin .max, args := #[x, y], argTypes := #[3, 3] }) (hx : a.eval x = .int .i64 i) (hy : a.eval y = .int .i64 j) : Pure Try.prog o a (.int .i64 (max i j)) := fun w => by
  simp only [execOp, ho, resolve, List.map_toArray, List.map, hx, hy]
  simp [go_sem]
  omega
theorem pu_min (ho : o.op = .call { callee := .builtin .min, args := #[x, y], argTypes := #[3, 3] }) (hx : a.eval x = .int .i64 i) (hy : a.eval y = .int .i64 j) : Pure Try.prog o a (.int .i64 (min i j)) := fun w => by
  simp only [execOp, ho, resolve, List.map_toArray, List.map, hx, hy]
  simp [go_sem]
  omega
end
end Go.Proofs.Ytlgeodnbkndciaa
