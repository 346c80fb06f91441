/- Closed facts of this seat's program: types, functions. Made by gen.py. -/
import Derived.Test.YtolhinemfncejaaFx
namespace Go.Proofs.Ytolhinemfncejaa
open Go.RowKit

theorem mixedOK : Try.prog.follows .mixedOrders = true := by kernel_rfl
theorem agg23 : AggTy Try.prog 23 2 := ⟨_, Try.underlying23, rfl, by kernel_rfl⟩
theorem agg29 : AggTy Try.prog 29 2 := ⟨_, Try.underlying29, rfl, by kernel_rfl⟩
theorem one3 : OneTy Try.prog 3 := ⟨_, Try.underlying3, rfl⟩
theorem fo23_0 : fieldOff Try.prog 23 0 = some 0 := by kernel_rfl
theorem fo23_1 : fieldOff Try.prog 23 1 = some 1 := by kernel_rfl
theorem fo29_0 : fieldOff Try.prog 29 0 = some 0 := by kernel_rfl
theorem fo29_1 : fieldOff Try.prog 29 1 = some 1 := by kernel_rfl
theorem z23 : (Try.prog.info? 23).map (fun i => i.zero.map (·.cells)) = some (some #[.int .i64 0, .int .i64 0]) := by kernel_rfl
theorem eqg23 : Try.prog.eqGuardType Try.prog.depth 23 = false := by kernel_rfl
theorem en11 : enters Try.prog 11 = true := by kernel_rfl
theorem en12 : enters Try.prog 12 = true := by kernel_rfl
theorem en13 : enters Try.prog 13 = true := by kernel_rfl
theorem en14 : enters Try.prog 14 = true := by kernel_rfl
theorem en15 : enters Try.prog 15 = true := by kernel_rfl
theorem en16 : enters Try.prog 16 = true := by kernel_rfl
theorem en17 : enters Try.prog 17 = true := by kernel_rfl
theorem en18 : enters Try.prog 18 = true := by kernel_rfl
theorem en19 : enters Try.prog 19 = true := by kernel_rfl
theorem en20 : enters Try.prog 20 = true := by kernel_rfl
theorem en21 : enters Try.prog 21 = true := by kernel_rfl
theorem en22 : enters Try.prog 22 = true := by kernel_rfl
theorem en23 : enters Try.prog 23 = true := by kernel_rfl
section
variable {o : Oper} {a : Act}
theorem bu23_0 (ho : o.op = .build 23 #[]) : Pure Try.prog o a (.agg #[.int .i64 0, .int .i64 0]) := fun w => by
  simp only [execOp, ho, List.map_toArray, List.map]
  simp [go_sem]
theorem bu23_2 {x0 : Operand} {i0 : Int} {x1 : Operand} {i1 : Int} (ho : o.op = .build 23 #[(0, x0), (1, x1)]) (h0 : a.eval x0 = .int .i64 i0) (h1 : a.eval x1 = .int .i64 i1) : Pure Try.prog o a (.agg #[.int .i64 i0, .int .i64 i1]) := fun w => by
  simp only [execOp, ho, List.map_toArray, List.map, h0, h1]
  simp [go_sem]
theorem bu29_0 (ho : o.op = .build 29 #[]) : Pure Try.prog o a (.agg #[.int .i64 0, .int .i64 0]) := fun w => by
  simp only [execOp, ho, List.map_toArray, List.map]
  simp [go_sem]
theorem bu29_2 {x0 : Operand} {i0 : Int} {x1 : Operand} {i1 : Int} (ho : o.op = .build 29 #[(0, x0), (1, x1)]) (h0 : a.eval x0 = .int .i64 i0) (h1 : a.eval x1 = .int .i64 i1) : Pure Try.prog o a (.agg #[.int .i64 i0, .int .i64 i1]) := fun w => by
  simp only [execOp, ho, List.map_toArray, List.map, h0, h1]
  simp [go_sem]
theorem ix34_0 {x y : Operand} {g : Nat} (ho : o.op = .indexAddr 34 x y) (hx : a.eval x = .pointer (some ⟨g, 0, none⟩)) (hy : a.eval y = .int .i64 0) : Pure Try.prog o a (.pointer (some ⟨g, 0, none⟩)) := fun w => by
  simp only [execOp, ho, hx, hy]
  simp [go_sem]
theorem ix34_1 {x y : Operand} {g : Nat} (ho : o.op = .indexAddr 34 x y) (hx : a.eval x = .pointer (some ⟨g, 0, none⟩)) (hy : a.eval y = .int .i64 1) : Pure Try.prog o a (.pointer (some ⟨g, 2, none⟩)) := fun w => by
  simp only [execOp, ho, hx, hy]
  simp [go_sem]
end
section
variable {o : Oper} {a : Act} {x y : Operand} {i j : Int}
theorem pu_max (ho : o.op = .call { callee := .builtin .max, args := #[x, y], argTypes := #[3, 3] }) (hx : a.eval x = .int .i64 i) (hy : a.eval y = .int .i64 j) : Pure Try.prog o a (.int .i64 (max i j)) := fun w => by
  simp only [execOp, ho, resolve, List.map_toArray, List.map, hx, hy]
  simp [go_sem]
  omega
theorem pu_min (ho : o.op = .call { callee := .builtin .min, args := #[x, y], argTypes := #[3, 3] }) (hx : a.eval x = .int .i64 i) (hy : a.eval y = .int .i64 j) : Pure Try.prog o a (.int .i64 (min i j)) := fun w => by
  simp only [execOp, ho, resolve, List.map_toArray, List.map, hx, hy]
  simp [go_sem]
  omega
end
end Go.Proofs.Ytolhinemfncejaa
