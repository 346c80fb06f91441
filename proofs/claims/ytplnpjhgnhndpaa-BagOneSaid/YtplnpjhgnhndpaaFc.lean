/- Closed facts of this seat's program: types, functions. Made by gen.py. -/
import Derived.Test.YtplnpjhgnhndpaaFx
namespace Go.Proofs.Ytplnpjhgnhndpaa
open Go.RowKit

theorem mixedOK : Try.prog.follows .mixedOrders = true := by kernel_rfl
theorem agg30 : AggTy Try.prog 30 2 := ⟨_, Try.underlying30, rfl, by kernel_rfl⟩
theorem agg32 : AggTy Try.prog 32 3 := ⟨_, Try.underlying32, rfl, by kernel_rfl⟩
theorem agg70 : AggTy Try.prog 70 2 := ⟨_, Try.underlying70, rfl, by kernel_rfl⟩
theorem one3 : OneTy Try.prog 3 := ⟨_, Try.underlying3, rfl⟩
theorem one22 : OneTy Try.prog 22 := ⟨_, Try.underlying22, rfl⟩
theorem one38 : OneTy Try.prog 38 := ⟨_, Try.underlying38, rfl⟩
theorem one45 : OneTy Try.prog 45 := ⟨_, Try.underlying45, rfl⟩
theorem one50 : OneTy Try.prog 50 := ⟨_, Try.underlying50, rfl⟩
theorem one63 : OneTy Try.prog 63 := ⟨_, Try.underlying63, rfl⟩
theorem one87 : OneTy Try.prog 87 := ⟨_, Try.underlying87, rfl⟩
theorem si3 : (Try.prog.info? 3).map (·.size) = some 1 := by kernel_rfl
theorem si22 : (Try.prog.info? 22).map (·.size) = some 1 := by kernel_rfl
theorem si38 : (Try.prog.info? 38).map (·.size) = some 1 := by kernel_rfl
theorem si87 : (Try.prog.info? 87).map (·.size) = some 1 := by kernel_rfl
theorem fo28_0 : fieldOff Try.prog 28 0 = some 0 := by kernel_rfl
theorem fo30_0 : fieldOff Try.prog 30 0 = some 0 := by kernel_rfl
theorem fo30_1 : fieldOff Try.prog 30 1 = some 1 := by kernel_rfl
theorem fo32_0 : fieldOff Try.prog 32 0 = some 0 := by kernel_rfl
theorem fo32_1 : fieldOff Try.prog 32 1 = some 2 := by kernel_rfl
theorem fo52_0 : fieldOff Try.prog 52 0 = some 0 := by kernel_rfl
theorem fo70_0 : fieldOff Try.prog 70 0 = some 0 := by kernel_rfl
theorem fo70_1 : fieldOff Try.prog 70 1 = some 1 := by kernel_rfl
theorem z3 : (Try.prog.info? 3).map (fun i => i.zero.map (·.cells)) = some (some #[.int .i64 0]) := by kernel_rfl
theorem z30 : (Try.prog.info? 30).map (fun i => i.zero.map (·.cells)) = some (some #[.int .i64 0, .int .i64 0]) := by kernel_rfl
theorem z38 : (Try.prog.info? 38).map (fun i => i.zero.map (·.cells)) = some (some #[(.slice none 0 0)]) := by kernel_rfl
theorem z87 : (Try.prog.info? 87).map (fun i => i.zero.map (·.cells)) = some (some #[.int .u64 0]) := by kernel_rfl
theorem eqg30 : Try.prog.eqGuardType Try.prog.depth 30 = false := by kernel_rfl
theorem eqg32 : Try.prog.eqGuardType Try.prog.depth 32 = false := by kernel_rfl
theorem en10 : enters Try.prog 10 = true := by kernel_rfl
theorem en11 : enters Try.prog 11 = true := by kernel_rfl
theorem en12 : enters Try.prog 12 = true := by kernel_rfl
theorem en13 : enters Try.prog 13 = true := by kernel_rfl
theorem en14 : enters Try.prog 14 = true := by kernel_rfl
theorem en15 : enters Try.prog 15 = true := by kernel_rfl
theorem en16 : enters Try.prog 16 = true := by kernel_rfl
theorem en17 : enters Try.prog 17 = true := by kernel_rfl
theorem en18 : enters Try.prog 18 = true := by kernel_rfl
theorem en19 : enters Try.prog 19 = true := by kernel_rfl
theorem en20 : enters Try.prog 20 = true := by kernel_rfl
theorem en21 : enters Try.prog 21 = true := by kernel_rfl
theorem en22 : enters Try.prog 22 = true := by kernel_rfl
theorem en23 : enters Try.prog 23 = true := by kernel_rfl
theorem en24 : enters Try.prog 24 = true := by kernel_rfl
theorem en25 : enters Try.prog 25 = true := by kernel_rfl
theorem en26 : enters Try.prog 26 = true := by kernel_rfl
theorem en27 : enters Try.prog 27 = true := by kernel_rfl
theorem en28 : enters Try.prog 28 = true := by kernel_rfl
theorem en29 : enters Try.prog 29 = true := by kernel_rfl
theorem en30 : enters Try.prog 30 = true := by kernel_rfl
theorem en31 : enters Try.prog 31 = true := by kernel_rfl
theorem en32 : enters Try.prog 32 = true := by kernel_rfl
theorem en33 : enters Try.prog 33 = true := by kernel_rfl
theorem en34 : enters Try.prog 34 = true := by kernel_rfl
theorem en35 : enters Try.prog 35 = true := by kernel_rfl
theorem en36 : enters Try.prog 36 = true := by kernel_rfl
theorem en37 : enters Try.prog 37 = true := by kernel_rfl
theorem en38 : enters Try.prog 38 = true := by kernel_rfl
theorem en39 : enters Try.prog 39 = true := by kernel_rfl
theorem en43 : enters Try.prog 43 = true := by kernel_rfl
theorem en44 : enters Try.prog 44 = true := by kernel_rfl
theorem en45 : enters Try.prog 45 = true := by kernel_rfl
theorem en46 : enters Try.prog 46 = true := by kernel_rfl
theorem en58 : enters Try.prog 58 = true := by kernel_rfl
theorem en59 : enters Try.prog 59 = true := by kernel_rfl
theorem en60 : enters Try.prog 60 = true := by kernel_rfl
theorem en61 : enters Try.prog 61 = true := by kernel_rfl
theorem en62 : enters Try.prog 62 = true := by kernel_rfl
theorem en63 : enters Try.prog 63 = true := by kernel_rfl
theorem en64 : enters Try.prog 64 = true := by kernel_rfl
theorem en65 : enters Try.prog 65 = true := by kernel_rfl
theorem en66 : enters Try.prog 66 = true := by kernel_rfl
theorem en67 : enters Try.prog 67 = true := by kernel_rfl
theorem en68 : enters Try.prog 68 = true := by kernel_rfl
theorem en69 : enters Try.prog 69 = true := by kernel_rfl
theorem en70 : enters Try.prog 70 = true := by kernel_rfl
theorem en71 : enters Try.prog 71 = true := by kernel_rfl
theorem sl22 : SlTy Try.prog 22 32 3 := ⟨Try.underlying22, by kernel_rfl⟩
theorem el32 : ElTy Try.prog 32 3 24 := ⟨by omega, .agg #[.int .i64 0, .int .i64 0, .int .i64 0], rfl, by kernel_rfl⟩
theorem sl38 : SlTy Try.prog 38 30 2 := ⟨Try.underlying38, by kernel_rfl⟩
theorem el30 : ElTy Try.prog 30 2 16 := ⟨by omega, .agg #[.int .i64 0, .int .i64 0], rfl, by kernel_rfl⟩
theorem sl47 : SlTy Try.prog 47 3 1 := ⟨Try.underlying47, by kernel_rfl⟩
theorem el3 : ElTy Try.prog 3 1 8 := ⟨by omega, .int .i64 0, rfl, by kernel_rfl⟩
section
variable {o : Oper} {a : Act}
theorem bu28_ (ho : o.op = .build 28 #[]) : Pure Try.prog o a (.agg #[(.slice none 0 0)]) := fun w => by
  simp only [execOp, ho, List.map_toArray, List.map]
  simp [go_sem]
theorem bu30_0 {x0 : Operand} {i0 : Int} (ho : o.op = .build 30 #[(0, x0)]) (h0 : a.eval x0 = .int .i64 i0) : Pure Try.prog o a (.agg #[.int .i64 i0, .int .i64 0]) := fun w => by
  simp only [execOp, ho, List.map_toArray, List.map, h0]
  simp [go_sem]
theorem bu30_0_1 {x0 : Operand} {i0 : Int} {x1 : Operand} {i1 : Int} (ho : o.op = .build 30 #[(0, x0), (1, x1)]) (h0 : a.eval x0 = .int .i64 i0) (h1 : a.eval x1 = .int .i64 i1) : Pure Try.prog o a (.agg #[.int .i64 i0, .int .i64 i1]) := fun w => by
  simp only [execOp, ho, List.map_toArray, List.map, h0, h1]
  simp [go_sem]
theorem bu30_1 {x0 : Operand} {i0 : Int} (ho : o.op = .build 30 #[(1, x0)]) (h0 : a.eval x0 = .int .i64 i0) : Pure Try.prog o a (.agg #[.int .i64 0, .int .i64 i0]) := fun w => by
  simp only [execOp, ho, List.map_toArray, List.map, h0]
  simp [go_sem]
theorem bu32_0_1 {x0 : Operand} {i0_0 : Int} {i0_1 : Int} {x1 : Operand} {i1 : Int} (ho : o.op = .build 32 #[(0, x0), (1, x1)]) (h0 : a.eval x0 = .agg #[.int .i64 i0_0, .int .i64 i0_1]) (h1 : a.eval x1 = .int .i64 i1) : Pure Try.prog o a (.agg #[.int .i64 i0_0, .int .i64 i0_1, .int .i64 i1]) := fun w => by
  simp only [execOp, ho, List.map_toArray, List.map, h0, h1]
  simp [go_sem]
theorem bu52_0 {x0 : Operand} {i0 : Value} (ho : o.op = .build 52 #[(0, x0)]) (h0 : a.eval x0 = i0) (c0 : i0.cells = #[i0]) : Pure Try.prog o a (.agg #[i0]) := fun w => by
  simp only [Value.cells] at c0
  simp only [execOp, ho, List.map_toArray, List.map, h0]
  simp [go_sem, c0]
theorem bs22_1 {x0 : Operand} {i0_0 : Int} {i0_1 : Int} {i0_2 : Int} (ho : o.op = .buildSlice 22 1 #[(0, x0)]) (h0 : a.eval x0 = .agg #[.int .i64 i0_0, .int .i64 i0_1, .int .i64 i0_2]) (w : World) : (execOp a.eval o).run Try.prog w = .ok (.value (.slice (some ⟨w.heap.size, 0, none⟩) 1 1)) (w.alloc (.cells #[.int .i64 i0_0, .int .i64 i0_1, .int .i64 i0_2] 32)) := by
  simp only [execOp, ho, List.map_toArray, List.map, h0]
  simp [go_sem]
theorem bs38_0 (ho : o.op = .buildSlice 38 0 #[]) (w : World) : (execOp a.eval o).run Try.prog w = .ok (.value (.slice (some ⟨w.heap.size, 0, none⟩) 0 0)) (w.alloc (.cells #[] 30)) := by
  simp only [execOp, ho, List.map_toArray, List.map]
  simp [go_sem]
theorem bs38_1 {x0 : Operand} {i0_0 : Int} {i0_1 : Int} (ho : o.op = .buildSlice 38 1 #[(0, x0)]) (h0 : a.eval x0 = .agg #[.int .i64 i0_0, .int .i64 i0_1]) (w : World) : (execOp a.eval o).run Try.prog w = .ok (.value (.slice (some ⟨w.heap.size, 0, none⟩) 1 1)) (w.alloc (.cells #[.int .i64 i0_0, .int .i64 i0_1] 30)) := by
  simp only [execOp, ho, List.map_toArray, List.map, h0]
  simp [go_sem]
end
section
variable {o : Oper} {a : Act} {x y : Operand} {i j : Int}
theorem pu_max (ho : o.op = .call { callee := .builtin .max, args := #[x, y], argTypes := #[3, 3] }) (hx : a.eval x = .int .i64 i) (hy : a.eval y = .int .i64 j) : Pure Try.prog o a (.int .i64 (max i j)) := fun w => by
  simp only [execOp, ho, resolve, List.map_toArray, List.map, hx, hy]
  simp [go_sem]
  omega
theorem pu_min (ho : o.op = .call { callee := .builtin .min, args := #[x, y], argTypes := #[3, 3] }) (hx : a.eval x = .int .i64 i) (hy : a.eval y = .int .i64 j) : Pure Try.prog o a (.int .i64 (min i j)) := fun w => by
  simp only [execOp, ho, resolve, List.map_toArray, List.map, hx, hy]
  simp [go_sem]
  omega
end
end Go.Proofs.Ytplnpjhgnhndpaa
