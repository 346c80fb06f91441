/- Closed facts of this seat's program: types, functions. Made by gen.py. -/
import Derived.Test.YtabpnebiannglaaFx
namespace Go.Proofs.Ytabpnebiannglaa
open Go.RowKit

theorem mixedOK : Try.prog.follows .mixedOrders = true := by kernel_rfl
theorem agg28 : AggTy Try.prog 28 2 := ⟨_, Try.underlying28, rfl, by kernel_rfl⟩
theorem agg38 : AggTy Try.prog 38 2 := ⟨_, Try.underlying38, rfl, by kernel_rfl⟩
theorem agg58 : AggTy Try.prog 58 2 := ⟨_, Try.underlying58, rfl, by kernel_rfl⟩
theorem one3 : OneTy Try.prog 3 := ⟨_, Try.underlying3, rfl⟩
theorem one22 : OneTy Try.prog 22 := ⟨_, Try.underlying22, rfl⟩
theorem one43 : OneTy Try.prog 43 := ⟨_, Try.underlying43, rfl⟩
theorem one51 : OneTy Try.prog 51 := ⟨_, Try.underlying51, rfl⟩
theorem one74 : OneTy Try.prog 74 := ⟨_, Try.underlying74, rfl⟩
theorem si3 : (Try.prog.info? 3).map (·.size) = some 1 := by kernel_rfl
theorem si22 : (Try.prog.info? 22).map (·.size) = some 1 := by kernel_rfl
theorem si74 : (Try.prog.info? 74).map (·.size) = some 1 := by kernel_rfl
theorem fo28_0 : fieldOff Try.prog 28 0 = some 0 := by kernel_rfl
theorem fo28_1 : fieldOff Try.prog 28 1 = some 1 := by kernel_rfl
theorem fo38_0 : fieldOff Try.prog 38 0 = some 0 := by kernel_rfl
theorem fo38_1 : fieldOff Try.prog 38 1 = some 1 := by kernel_rfl
theorem fo58_0 : fieldOff Try.prog 58 0 = some 0 := by kernel_rfl
theorem fo58_1 : fieldOff Try.prog 58 1 = some 1 := by kernel_rfl
theorem z3 : (Try.prog.info? 3).map (fun i => i.zero.map (·.cells)) = some (some #[.int .i64 0]) := by kernel_rfl
theorem z22 : (Try.prog.info? 22).map (fun i => i.zero.map (·.cells)) = some (some #[(.slice none 0 0)]) := by kernel_rfl
theorem z28 : (Try.prog.info? 28).map (fun i => i.zero.map (·.cells)) = some (some #[.int .i64 0, .int .i64 0]) := by kernel_rfl
theorem z74 : (Try.prog.info? 74).map (fun i => i.zero.map (·.cells)) = some (some #[.int .u64 0]) := by kernel_rfl
theorem eqg28 : Try.prog.eqGuardType Try.prog.depth 28 = false := by kernel_rfl
theorem en11 : enters Try.prog 11 = true := by kernel_rfl
theorem en12 : enters Try.prog 12 = true := by kernel_rfl
theorem en13 : enters Try.prog 13 = true := by kernel_rfl
theorem en14 : enters Try.prog 14 = true := by kernel_rfl
theorem en15 : enters Try.prog 15 = true := by kernel_rfl
theorem en16 : enters Try.prog 16 = true := by kernel_rfl
theorem en17 : enters Try.prog 17 = true := by kernel_rfl
theorem en18 : enters Try.prog 18 = true := by kernel_rfl
theorem en19 : enters Try.prog 19 = true := by kernel_rfl
theorem en20 : enters Try.prog 20 = true := by kernel_rfl
theorem en21 : enters Try.prog 21 = true := by kernel_rfl
theorem en22 : enters Try.prog 22 = true := by kernel_rfl
theorem en23 : enters Try.prog 23 = true := by kernel_rfl
theorem en24 : enters Try.prog 24 = true := by kernel_rfl
theorem en25 : enters Try.prog 25 = true := by kernel_rfl
theorem en26 : enters Try.prog 26 = true := by kernel_rfl
theorem en27 : enters Try.prog 27 = true := by kernel_rfl
theorem en28 : enters Try.prog 28 = true := by kernel_rfl
theorem en29 : enters Try.prog 29 = true := by kernel_rfl
theorem en30 : enters Try.prog 30 = true := by kernel_rfl
theorem en31 : enters Try.prog 31 = true := by kernel_rfl
theorem en32 : enters Try.prog 32 = true := by kernel_rfl
theorem en33 : enters Try.prog 33 = true := by kernel_rfl
theorem en37 : enters Try.prog 37 = true := by kernel_rfl
theorem en38 : enters Try.prog 38 = true := by kernel_rfl
theorem en50 : enters Try.prog 50 = true := by kernel_rfl
theorem en51 : enters Try.prog 51 = true := by kernel_rfl
theorem en52 : enters Try.prog 52 = true := by kernel_rfl
theorem en53 : enters Try.prog 53 = true := by kernel_rfl
theorem en54 : enters Try.prog 54 = true := by kernel_rfl
theorem en55 : enters Try.prog 55 = true := by kernel_rfl
theorem en56 : enters Try.prog 56 = true := by kernel_rfl
theorem en57 : enters Try.prog 57 = true := by kernel_rfl
theorem en58 : enters Try.prog 58 = true := by kernel_rfl
theorem en59 : enters Try.prog 59 = true := by kernel_rfl
theorem en60 : enters Try.prog 60 = true := by kernel_rfl
theorem en61 : enters Try.prog 61 = true := by kernel_rfl
theorem en62 : enters Try.prog 62 = true := by kernel_rfl
theorem en63 : enters Try.prog 63 = true := by kernel_rfl
theorem sl22 : SlTy Try.prog 22 28 2 := ⟨Try.underlying22, by kernel_rfl⟩
theorem el28 : ElTy Try.prog 28 2 16 := ⟨by omega, .agg #[.int .i64 0, .int .i64 0], rfl, by kernel_rfl⟩
theorem sl34 : SlTy Try.prog 34 38 2 := ⟨Try.underlying34, by kernel_rfl⟩
theorem el38 : ElTy Try.prog 38 2 16 := ⟨by omega, .agg #[.int .i64 0, .int .i64 0], rfl, by kernel_rfl⟩
section
variable {o : Oper} {a : Act}
theorem bu28_0 (ho : o.op = .build 28 #[]) : Pure Try.prog o a (.agg #[.int .i64 0, .int .i64 0]) := fun w => by
  simp only [execOp, ho, List.map_toArray, List.map]
  simp [go_sem]
theorem bu28_2 {x0 : Operand} {i0 : Int} {x1 : Operand} {i1 : Int} (ho : o.op = .build 28 #[(0, x0), (1, x1)]) (h0 : a.eval x0 = .int .i64 i0) (h1 : a.eval x1 = .int .i64 i1) : Pure Try.prog o a (.agg #[.int .i64 i0, .int .i64 i1]) := fun w => by
  simp only [execOp, ho, List.map_toArray, List.map, h0, h1]
  simp [go_sem]
theorem bs22_0 (ho : o.op = .buildSlice 22 0 #[]) (w : World) : (execOp a.eval o).run Try.prog w = .ok (.value (.slice (some ⟨w.heap.size, 0, none⟩) 0 0)) (w.alloc (.cells #[] 28)) := by
  simp only [execOp, ho, List.map_toArray, List.map]
  simp [go_sem]
theorem bs22_1 {x0 : Operand} {i0_0 i0_1 : Int} (ho : o.op = .buildSlice 22 1 #[(0, x0)]) (h0 : a.eval x0 = .agg #[.int .i64 i0_0, .int .i64 i0_1]) (w : World) : (execOp a.eval o).run Try.prog w = .ok (.value (.slice (some ⟨w.heap.size, 0, none⟩) 1 1)) (w.alloc (.cells #[.int .i64 i0_0, .int .i64 i0_1] 28)) := by
  simp only [execOp, ho, List.map_toArray, List.map, h0]
  simp [go_sem]
theorem bs22_3 {x0 : Operand} {i0_0 i0_1 : Int} {x1 : Operand} {i1_0 i1_1 : Int} {x2 : Operand} {i2_0 i2_1 : Int} (ho : o.op = .buildSlice 22 3 #[(0, x0), (1, x1), (2, x2)]) (h0 : a.eval x0 = .agg #[.int .i64 i0_0, .int .i64 i0_1]) (h1 : a.eval x1 = .agg #[.int .i64 i1_0, .int .i64 i1_1]) (h2 : a.eval x2 = .agg #[.int .i64 i2_0, .int .i64 i2_1]) (w : World) : (execOp a.eval o).run Try.prog w = .ok (.value (.slice (some ⟨w.heap.size, 0, none⟩) 3 3)) (w.alloc (.cells #[.int .i64 i0_0, .int .i64 i0_1, .int .i64 i1_0, .int .i64 i1_1, .int .i64 i2_0, .int .i64 i2_1] 28)) := by
  simp only [execOp, ho, List.map_toArray, List.map, h0, h1, h2]
  simp [go_sem]
end
section
variable {o : Oper} {a : Act} {x y : Operand} {i j : Int}
theorem pu_max (ho : o.op = .call { callee := .builtin .max, args := #[x, y], argTypes := #[3, 3] }) (hx : a.eval x = .int .i64 i) (hy : a.eval y = .int .i64 j) : Pure Try.prog o a (.int .i64 (max i j)) := fun w => by
  simp only [execOp, ho, resolve, List.map_toArray, List.map, hx, hy]
  simp [go_sem]
  omega
theorem pu_min (ho : o.op = .call { callee := .builtin .min, args := #[x, y], argTypes := #[3, 3] }) (hx : a.eval x = .int .i64 i) (hy : a.eval y = .int .i64 j) : Pure Try.prog o a (.int .i64 (min i j)) := fun w => by
  simp only [execOp, ho, resolve, List.map_toArray, List.map, hx, hy]
  simp [go_sem]
  omega
end
end Go.Proofs.Ytabpnebiannglaa
