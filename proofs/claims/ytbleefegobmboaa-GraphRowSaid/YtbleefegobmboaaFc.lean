/- Closed facts of this seat's program: types, functions. Made by gen.py. -/
import Derived.Test.YtbleefegobmboaaFx
namespace Go.Proofs.Ytbleefegobmboaa
open Go.RowKit
set_option maxRecDepth 100000
set_option linter.unusedSimpArgs false
set_option linter.unusedVariables false

theorem mixedOK : Try.prog.follows .mixedOrders = true := by kernel_rfl
theorem agg24 : AggTy Try.prog 24 2 := ⟨_, Try.underlying24, rfl, by kernel_rfl⟩
theorem agg38 : AggTy Try.prog 38 2 := ⟨_, Try.underlying38, rfl, by kernel_rfl⟩
theorem agg40 : AggTy Try.prog 40 4 := ⟨_, Try.underlying40, rfl, by kernel_rfl⟩
theorem agg50 : AggTy Try.prog 50 2 := ⟨_, Try.underlying50, rfl, by kernel_rfl⟩
theorem agg97 : AggTy Try.prog 97 2 := ⟨_, Try.underlying97, rfl, by kernel_rfl⟩
theorem one3 : OneTy Try.prog 3 := ⟨_, Try.underlying3, rfl⟩
theorem one4 : OneTy Try.prog 4 := ⟨_, Try.underlying4, rfl⟩
theorem one22 : OneTy Try.prog 22 := ⟨_, Try.underlying22, rfl⟩
theorem one44 : OneTy Try.prog 44 := ⟨_, Try.underlying44, rfl⟩
theorem one45 : OneTy Try.prog 45 := ⟨_, Try.underlying45, rfl⟩
theorem one67 : OneTy Try.prog 67 := ⟨_, Try.underlying67, rfl⟩
theorem one83 : OneTy Try.prog 83 := ⟨_, Try.underlying83, rfl⟩
theorem one90 : OneTy Try.prog 90 := ⟨_, Try.underlying90, rfl⟩
theorem one113 : OneTy Try.prog 113 := ⟨_, Try.underlying113, rfl⟩
theorem si3 : (Try.prog.info? 3).map (·.size) = some 1 := by kernel_rfl
theorem si4 : (Try.prog.info? 4).map (·.size) = some 1 := by kernel_rfl
theorem si22 : (Try.prog.info? 22).map (·.size) = some 1 := by kernel_rfl
theorem si44 : (Try.prog.info? 44).map (·.size) = some 1 := by kernel_rfl
theorem si45 : (Try.prog.info? 45).map (·.size) = some 1 := by kernel_rfl
theorem si67 : (Try.prog.info? 67).map (·.size) = some 1 := by kernel_rfl
theorem si113 : (Try.prog.info? 113).map (·.size) = some 1 := by kernel_rfl
theorem fo24_0 : fieldOff Try.prog 24 0 = some 0 := by kernel_rfl
theorem fo24_1 : fieldOff Try.prog 24 1 = some 1 := by kernel_rfl
theorem fo38_0 : fieldOff Try.prog 38 0 = some 0 := by kernel_rfl
theorem fo38_1 : fieldOff Try.prog 38 1 = some 1 := by kernel_rfl
theorem fo40_0 : fieldOff Try.prog 40 0 = some 0 := by kernel_rfl
theorem fo40_1 : fieldOff Try.prog 40 1 = some 1 := by kernel_rfl
theorem fo40_2 : fieldOff Try.prog 40 2 = some 2 := by kernel_rfl
theorem fo50_0 : fieldOff Try.prog 50 0 = some 0 := by kernel_rfl
theorem fo50_1 : fieldOff Try.prog 50 1 = some 1 := by kernel_rfl
theorem fo97_0 : fieldOff Try.prog 97 0 = some 0 := by kernel_rfl
theorem fo97_1 : fieldOff Try.prog 97 1 = some 1 := by kernel_rfl
theorem z3 : (Try.prog.info? 3).map (fun i => i.zero.map (·.cells)) = some (some #[.int .i64 0]) := by kernel_rfl
theorem z24 : (Try.prog.info? 24).map (fun i => i.zero.map (·.cells)) = some (some #[.int .i64 0, (.slice none 0 0)]) := by kernel_rfl
theorem z38 : (Try.prog.info? 38).map (fun i => i.zero.map (·.cells)) = some (some #[.int .i64 0, .int .i64 0]) := by kernel_rfl
theorem z40 : (Try.prog.info? 40).map (fun i => i.zero.map (·.cells)) = some (some #[.int .i64 0, .int .i64 0, .int .i64 0, .int .i64 0]) := by kernel_rfl
theorem z50 : (Try.prog.info? 50).map (fun i => i.zero.map (·.cells)) = some (some #[.int .i64 0, .int .i64 0]) := by kernel_rfl
theorem z52 : (Try.prog.info? 52).map (fun i => i.zero.map (·.cells)) = some (some #[.int .i64 0, .int .i64 0, .int .i64 0, .int .i64 0, .int .i64 0, .int .i64 0, .int .i64 0, .int .i64 0]) := by kernel_rfl
theorem z67 : (Try.prog.info? 67).map (fun i => i.zero.map (·.cells)) = some (some #[(.slice none 0 0)]) := by kernel_rfl
theorem z113 : (Try.prog.info? 113).map (fun i => i.zero.map (·.cells)) = some (some #[.int .u64 0]) := by kernel_rfl
theorem mk4 : (Try.prog.info? 4).map (fun i => (i.zero, i.size, i.bytes)) = some (some (.bool false), 1, 1) := by kernel_rfl
theorem mk44 : (Try.prog.info? 44).map (fun i => (i.zero, i.size, i.bytes)) = some (some ((.slice none 0 0)), 1, 24) := by kernel_rfl
theorem mk45 : (Try.prog.info? 45).map (fun i => (i.zero, i.size, i.bytes)) = some (some ((.slice none 0 0)), 1, 24) := by kernel_rfl
theorem eqg38 : Try.prog.eqGuardType Try.prog.depth 38 = false := by kernel_rfl
theorem eqg50 : Try.prog.eqGuardType Try.prog.depth 50 = false := by kernel_rfl
theorem en10 : enters Try.prog 10 = true := by kernel_rfl
theorem en11 : enters Try.prog 11 = true := by kernel_rfl
theorem en12 : enters Try.prog 12 = true := by kernel_rfl
theorem en13 : enters Try.prog 13 = true := by kernel_rfl
theorem en14 : enters Try.prog 14 = true := by kernel_rfl
theorem en15 : enters Try.prog 15 = true := by kernel_rfl
theorem en16 : enters Try.prog 16 = true := by kernel_rfl
theorem en17 : enters Try.prog 17 = true := by kernel_rfl
theorem en18 : enters Try.prog 18 = true := by kernel_rfl
theorem en19 : enters Try.prog 19 = true := by kernel_rfl
theorem en20 : enters Try.prog 20 = true := by kernel_rfl
theorem en21 : enters Try.prog 21 = true := by kernel_rfl
theorem en22 : enters Try.prog 22 = true := by kernel_rfl
theorem en23 : enters Try.prog 23 = true := by kernel_rfl
theorem en24 : enters Try.prog 24 = true := by kernel_rfl
theorem en25 : enters Try.prog 25 = true := by kernel_rfl
theorem en26 : enters Try.prog 26 = true := by kernel_rfl
theorem en27 : enters Try.prog 27 = true := by kernel_rfl
theorem en28 : enters Try.prog 28 = true := by kernel_rfl
theorem en29 : enters Try.prog 29 = true := by kernel_rfl
theorem en30 : enters Try.prog 30 = true := by kernel_rfl
theorem en31 : enters Try.prog 31 = true := by kernel_rfl
theorem en32 : enters Try.prog 32 = true := by kernel_rfl
theorem en33 : enters Try.prog 33 = true := by kernel_rfl
theorem en34 : enters Try.prog 34 = true := by kernel_rfl
theorem en35 : enters Try.prog 35 = true := by kernel_rfl
theorem en36 : enters Try.prog 36 = true := by kernel_rfl
theorem en37 : enters Try.prog 37 = true := by kernel_rfl
theorem en38 : enters Try.prog 38 = true := by kernel_rfl
theorem en39 : enters Try.prog 39 = true := by kernel_rfl
theorem en41 : enters Try.prog 41 = true := by kernel_rfl
theorem en42 : enters Try.prog 42 = true := by kernel_rfl
theorem en43 : enters Try.prog 43 = true := by kernel_rfl
theorem en44 : enters Try.prog 44 = true := by kernel_rfl
theorem en45 : enters Try.prog 45 = true := by kernel_rfl
theorem en46 : enters Try.prog 46 = true := by kernel_rfl
theorem en47 : enters Try.prog 47 = true := by kernel_rfl
theorem en48 : enters Try.prog 48 = true := by kernel_rfl
theorem en49 : enters Try.prog 49 = true := by kernel_rfl
theorem en50 : enters Try.prog 50 = true := by kernel_rfl
theorem en51 : enters Try.prog 51 = true := by kernel_rfl
theorem en52 : enters Try.prog 52 = true := by kernel_rfl
theorem en53 : enters Try.prog 53 = true := by kernel_rfl
theorem en54 : enters Try.prog 54 = true := by kernel_rfl
theorem en55 : enters Try.prog 55 = true := by kernel_rfl
theorem en56 : enters Try.prog 56 = true := by kernel_rfl
theorem en57 : enters Try.prog 57 = true := by kernel_rfl
theorem en58 : enters Try.prog 58 = true := by kernel_rfl
theorem en59 : enters Try.prog 59 = true := by kernel_rfl
theorem en60 : enters Try.prog 60 = true := by kernel_rfl
theorem en61 : enters Try.prog 61 = true := by kernel_rfl
theorem en62 : enters Try.prog 62 = true := by kernel_rfl
theorem en66 : enters Try.prog 66 = true := by kernel_rfl
theorem en67 : enters Try.prog 67 = true := by kernel_rfl
theorem en79 : enters Try.prog 79 = true := by kernel_rfl
theorem en80 : enters Try.prog 80 = true := by kernel_rfl
theorem en81 : enters Try.prog 81 = true := by kernel_rfl
theorem en82 : enters Try.prog 82 = true := by kernel_rfl
theorem en83 : enters Try.prog 83 = true := by kernel_rfl
theorem en84 : enters Try.prog 84 = true := by kernel_rfl
theorem en85 : enters Try.prog 85 = true := by kernel_rfl
theorem en86 : enters Try.prog 86 = true := by kernel_rfl
theorem en87 : enters Try.prog 87 = true := by kernel_rfl
theorem en88 : enters Try.prog 88 = true := by kernel_rfl
theorem en89 : enters Try.prog 89 = true := by kernel_rfl
theorem en90 : enters Try.prog 90 = true := by kernel_rfl
theorem en91 : enters Try.prog 91 = true := by kernel_rfl
theorem en92 : enters Try.prog 92 = true := by kernel_rfl
theorem sl22 : SlTy Try.prog 22 40 4 := ⟨Try.underlying22, by kernel_rfl⟩
theorem el40 : ElTy Try.prog 40 4 32 := ⟨by omega, .agg #[.int .i64 0, .int .i64 0, .int .i64 0, .int .i64 0], rfl, by kernel_rfl⟩
theorem sl29 : SlTy Try.prog 29 3 1 := ⟨Try.underlying29, by kernel_rfl⟩
theorem el3 : ElTy Try.prog 3 1 8 := ⟨by omega, .int .i64 0, rfl, by kernel_rfl⟩
theorem sl32 : SlTy Try.prog 32 45 1 := ⟨Try.underlying32, by kernel_rfl⟩
theorem el45 : ElTy Try.prog 45 1 24 := ⟨by omega, (.slice none 0 0), rfl, by kernel_rfl⟩
theorem sl44 : SlTy Try.prog 44 38 2 := ⟨Try.underlying44, by kernel_rfl⟩
theorem el38 : ElTy Try.prog 38 2 16 := ⟨by omega, .agg #[.int .i64 0, .int .i64 0], rfl, by kernel_rfl⟩
theorem sl45 : SlTy Try.prog 45 44 1 := ⟨Try.underlying45, by kernel_rfl⟩
theorem el44 : ElTy Try.prog 44 1 24 := ⟨by omega, (.slice none 0 0), rfl, by kernel_rfl⟩
theorem sl57 : SlTy Try.prog 57 4 1 := ⟨Try.underlying57, by kernel_rfl⟩
theorem el4 : ElTy Try.prog 4 1 1 := ⟨by omega, .bool false, rfl, by kernel_rfl⟩
theorem sl67 : SlTy Try.prog 67 50 2 := ⟨Try.underlying67, by kernel_rfl⟩
theorem el50 : ElTy Try.prog 50 2 16 := ⟨by omega, .agg #[.int .i64 0, .int .i64 0], rfl, by kernel_rfl⟩
theorem sl71 : SlTy Try.prog 71 38 2 := ⟨Try.underlying71, by kernel_rfl⟩
theorem sl76 : SlTy Try.prog 76 50 2 := ⟨Try.underlying76, by kernel_rfl⟩
section
variable {o : Oper} {a : Act}
theorem bu24_0 {x0 : Operand} {i0 : Int} (ho : o.op = .build 24 #[(0, x0)]) (h0 : a.eval x0 = .int .i64 i0) : Pure Try.prog o a (.agg #[.int .i64 i0, (.slice none 0 0)]) := fun w => by
  simp only [execOp, ho, List.map_toArray, List.map, h0]
  simp [go_sem]
theorem bu24_0_1 {x0 : Operand} {i0 : Int} {x1 : Operand} {i1 : Value} (ho : o.op = .build 24 #[(0, x0), (1, x1)]) (h0 : a.eval x0 = .int .i64 i0) (h1 : a.eval x1 = i1) (c1 : i1.cells = #[i1]) : Pure Try.prog o a (.agg #[.int .i64 i0, i1]) := fun w => by
  simp only [Value.cells] at c1
  simp only [execOp, ho, List.map_toArray, List.map, h0, h1]
  simp [go_sem, c1]
theorem bu38_ (ho : o.op = .build 38 #[]) : Pure Try.prog o a (.agg #[.int .i64 0, .int .i64 0]) := fun w => by
  simp only [execOp, ho, List.map_toArray, List.map]
  simp [go_sem]
theorem bu38_0_1 {x0 : Operand} {i0 : Int} {x1 : Operand} {i1 : Int} (ho : o.op = .build 38 #[(0, x0), (1, x1)]) (h0 : a.eval x0 = .int .i64 i0) (h1 : a.eval x1 = .int .i64 i1) : Pure Try.prog o a (.agg #[.int .i64 i0, .int .i64 i1]) := fun w => by
  simp only [execOp, ho, List.map_toArray, List.map, h0, h1]
  simp [go_sem]
theorem bu38_1 {x0 : Operand} {i0 : Int} (ho : o.op = .build 38 #[(1, x0)]) (h0 : a.eval x0 = .int .i64 i0) : Pure Try.prog o a (.agg #[.int .i64 0, .int .i64 i0]) := fun w => by
  simp only [execOp, ho, List.map_toArray, List.map, h0]
  simp [go_sem]
theorem bu40_0_1 {x0 : Operand} {i0 : Int} {x1 : Operand} {i1 : Int} (ho : o.op = .build 40 #[(0, x0), (1, x1)]) (h0 : a.eval x0 = .int .i64 i0) (h1 : a.eval x1 = .int .i64 i1) : Pure Try.prog o a (.agg #[.int .i64 i0, .int .i64 i1, .int .i64 0, .int .i64 0]) := fun w => by
  simp only [execOp, ho, List.map_toArray, List.map, h0, h1]
  simp [go_sem]
theorem bu40_0_1_2 {x0 : Operand} {i0 : Int} {x1 : Operand} {i1 : Int} {x2 : Operand} {i2_0 : Int} {i2_1 : Int} (ho : o.op = .build 40 #[(0, x0), (1, x1), (2, x2)]) (h0 : a.eval x0 = .int .i64 i0) (h1 : a.eval x1 = .int .i64 i1) (h2 : a.eval x2 = .agg #[.int .i64 i2_0, .int .i64 i2_1]) : Pure Try.prog o a (.agg #[.int .i64 i0, .int .i64 i1, .int .i64 i2_0, .int .i64 i2_1]) := fun w => by
  simp only [execOp, ho, List.map_toArray, List.map, h0, h1, h2]
  simp [go_sem]
theorem bu50_ (ho : o.op = .build 50 #[]) : Pure Try.prog o a (.agg #[.int .i64 0, .int .i64 0]) := fun w => by
  simp only [execOp, ho, List.map_toArray, List.map]
  simp [go_sem]
theorem bu50_0_1 {x0 : Operand} {i0 : Int} {x1 : Operand} {i1 : Int} (ho : o.op = .build 50 #[(0, x0), (1, x1)]) (h0 : a.eval x0 = .int .i64 i0) (h1 : a.eval x1 = .int .i64 i1) : Pure Try.prog o a (.agg #[.int .i64 i0, .int .i64 i1]) := fun w => by
  simp only [execOp, ho, List.map_toArray, List.map, h0, h1]
  simp [go_sem]
theorem bs22_0 (ho : o.op = .buildSlice 22 0 #[]) (w : World) : (execOp a.eval o).run Try.prog w = .ok (.value (.slice (some ⟨w.heap.size, 0, none⟩) 0 0)) (w.alloc (.cells #[] 40)) := by
  simp only [execOp, ho, List.map_toArray, List.map]
  simp [go_sem]
theorem bs22_1 {x0 : Operand} {i0_0 : Int} {i0_1 : Int} {i0_2 : Int} {i0_3 : Int} (ho : o.op = .buildSlice 22 1 #[(0, x0)]) (h0 : a.eval x0 = .agg #[.int .i64 i0_0, .int .i64 i0_1, .int .i64 i0_2, .int .i64 i0_3]) (w : World) : (execOp a.eval o).run Try.prog w = .ok (.value (.slice (some ⟨w.heap.size, 0, none⟩) 1 1)) (w.alloc (.cells #[.int .i64 i0_0, .int .i64 i0_1, .int .i64 i0_2, .int .i64 i0_3] 40)) := by
  simp only [execOp, ho, List.map_toArray, List.map, h0]
  simp [go_sem]
theorem bs22_2 {x0 : Operand} {i0_0 : Int} {i0_1 : Int} {i0_2 : Int} {i0_3 : Int} {x1 : Operand} {i1_0 : Int} {i1_1 : Int} {i1_2 : Int} {i1_3 : Int} (ho : o.op = .buildSlice 22 2 #[(0, x0), (1, x1)]) (h0 : a.eval x0 = .agg #[.int .i64 i0_0, .int .i64 i0_1, .int .i64 i0_2, .int .i64 i0_3]) (h1 : a.eval x1 = .agg #[.int .i64 i1_0, .int .i64 i1_1, .int .i64 i1_2, .int .i64 i1_3]) (w : World) : (execOp a.eval o).run Try.prog w = .ok (.value (.slice (some ⟨w.heap.size, 0, none⟩) 2 2)) (w.alloc (.cells #[.int .i64 i0_0, .int .i64 i0_1, .int .i64 i0_2, .int .i64 i0_3, .int .i64 i1_0, .int .i64 i1_1, .int .i64 i1_2, .int .i64 i1_3] 40)) := by
  simp only [execOp, ho, List.map_toArray, List.map, h0, h1]
  simp [go_sem]
theorem bs29_1 {x0 : Operand} {i0 : Int} (ho : o.op = .buildSlice 29 1 #[(0, x0)]) (h0 : a.eval x0 = .int .i64 i0) (w : World) : (execOp a.eval o).run Try.prog w = .ok (.value (.slice (some ⟨w.heap.size, 0, none⟩) 1 1)) (w.alloc (.cells #[.int .i64 i0] 3)) := by
  simp only [execOp, ho, List.map_toArray, List.map, h0]
  simp [go_sem]
theorem bs32_1 {x0 : Operand} {i0 : Value} (ho : o.op = .buildSlice 32 1 #[(0, x0)]) (h0 : a.eval x0 = i0) (c0 : i0.cells = #[i0]) (w : World) : (execOp a.eval o).run Try.prog w = .ok (.value (.slice (some ⟨w.heap.size, 0, none⟩) 1 1)) (w.alloc (.cells #[i0] 45)) := by
  simp only [Value.cells] at c0
  simp only [execOp, ho, List.map_toArray, List.map, h0]
  simp [go_sem, c0]
theorem bs44_0 (ho : o.op = .buildSlice 44 0 #[]) (w : World) : (execOp a.eval o).run Try.prog w = .ok (.value (.slice (some ⟨w.heap.size, 0, none⟩) 0 0)) (w.alloc (.cells #[] 38)) := by
  simp only [execOp, ho, List.map_toArray, List.map]
  simp [go_sem]
theorem bs44_1 {x0 : Operand} {i0_0 : Int} {i0_1 : Int} (ho : o.op = .buildSlice 44 1 #[(0, x0)]) (h0 : a.eval x0 = .agg #[.int .i64 i0_0, .int .i64 i0_1]) (w : World) : (execOp a.eval o).run Try.prog w = .ok (.value (.slice (some ⟨w.heap.size, 0, none⟩) 1 1)) (w.alloc (.cells #[.int .i64 i0_0, .int .i64 i0_1] 38)) := by
  simp only [execOp, ho, List.map_toArray, List.map, h0]
  simp [go_sem]
theorem bs67_0 (ho : o.op = .buildSlice 67 0 #[]) (w : World) : (execOp a.eval o).run Try.prog w = .ok (.value (.slice (some ⟨w.heap.size, 0, none⟩) 0 0)) (w.alloc (.cells #[] 50)) := by
  simp only [execOp, ho, List.map_toArray, List.map]
  simp [go_sem]
theorem bs67_1 {x0 : Operand} {i0_0 : Int} {i0_1 : Int} (ho : o.op = .buildSlice 67 1 #[(0, x0)]) (h0 : a.eval x0 = .agg #[.int .i64 i0_0, .int .i64 i0_1]) (w : World) : (execOp a.eval o).run Try.prog w = .ok (.value (.slice (some ⟨w.heap.size, 0, none⟩) 1 1)) (w.alloc (.cells #[.int .i64 i0_0, .int .i64 i0_1] 50)) := by
  simp only [execOp, ho, List.map_toArray, List.map, h0]
  simp [go_sem]
theorem ixv52 {x y : Operand} {g : Nat} {i : Int} (ho : o.op = .indexAddr 52 x y) (hx : a.eval x = .pointer (some ⟨g, 0, none⟩)) (hy : a.eval y = .int .i64 i) (h0 : 0 ≤ i) (h1 : i < 8) : Pure Try.prog o a (.pointer (some ⟨g, 0 + i.toNat * 1, none⟩)) := fun w => by
  simp only [execOp, ho, hx, hy]
  obtain ⟨k, rfl⟩ := Int.eq_ofNat_of_zero_le h0
  simp [go_sem]
  omega
end
section
variable {o : Oper} {a : Act} {x y : Operand} {i j : Int}
theorem pu_max (ho : o.op = .call { callee := .builtin .max, args := #[x, y], argTypes := #[3, 3] }) (hx : a.eval x = .int .i64 i) (hy : a.eval y = .int .i64 j) : Pure Try.prog o a (.int .i64 (max i j)) := fun w => by
  simp only [execOp, ho, resolve, List.map_toArray, List.map, hx, hy]
  simp [go_sem]
  omega
theorem pu_min (ho : o.op = .call { callee := .builtin .min, args := #[x, y], argTypes := #[3, 3] }) (hx : a.eval x = .int .i64 i) (hy : a.eval y = .int .i64 j) : Pure Try.prog o a (.int .i64 (min i j)) := fun w => by
  simp only [execOp, ho, resolve, List.map_toArray, List.map, hx, hy]
  simp [go_sem]
  omega
end
end Go.Proofs.Ytbleefegobmboaa
