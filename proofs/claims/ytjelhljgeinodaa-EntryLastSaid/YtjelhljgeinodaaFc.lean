/- Closed facts of this seat's program: types, functions. Made by gen.py. -/
import Derived.Test.YtjelhljgeinodaaFx
namespace Go.Proofs.Ytjelhljgeinodaa
open Go.RowKit
set_option maxRecDepth 100000
set_option linter.unusedSimpArgs false
set_option linter.unusedVariables false

theorem mixedOK : Try.prog.follows .mixedOrders = true := by kernel_rfl
theorem agg27 : AggTy Try.prog 27 32 := ⟨_, Try.underlying27, rfl, by kernel_rfl⟩
theorem agg31 : AggTy Try.prog 31 2 := ⟨_, Try.underlying31, rfl, by kernel_rfl⟩
theorem agg33 : AggTy Try.prog 33 3 := ⟨_, Try.underlying33, rfl, by kernel_rfl⟩
theorem agg35 : AggTy Try.prog 35 40 := ⟨_, Try.underlying35, rfl, by kernel_rfl⟩
theorem agg54 : AggTy Try.prog 54 8 := ⟨_, Try.underlying54, rfl, by kernel_rfl⟩
theorem agg58 : AggTy Try.prog 58 8 := ⟨_, Try.underlying58, rfl, by kernel_rfl⟩
theorem agg65 : AggTy Try.prog 65 64 := ⟨_, Try.underlying65, rfl, by kernel_rfl⟩
theorem agg73 : AggTy Try.prog 73 64 := ⟨_, Try.underlying73, rfl, by kernel_rfl⟩
theorem one3 : OneTy Try.prog 3 := ⟨_, Try.underlying3, rfl⟩
theorem one5 : OneTy Try.prog 5 := ⟨_, Try.underlying5, rfl⟩
theorem one24 : OneTy Try.prog 24 := ⟨_, Try.underlying24, rfl⟩
theorem one53 : OneTy Try.prog 53 := ⟨_, Try.underlying53, rfl⟩
theorem one56 : OneTy Try.prog 56 := ⟨_, Try.underlying56, rfl⟩
theorem si3 : (Try.prog.info? 3).map (·.size) = some 1 := by kernel_rfl
theorem si5 : (Try.prog.info? 5).map (·.size) = some 1 := by kernel_rfl
theorem si24 : (Try.prog.info? 24).map (·.size) = some 1 := by kernel_rfl
theorem si53 : (Try.prog.info? 53).map (·.size) = some 1 := by kernel_rfl
theorem si56 : (Try.prog.info? 56).map (·.size) = some 1 := by kernel_rfl
theorem fo31_0 : fieldOff Try.prog 31 0 = some 0 := by kernel_rfl
theorem fo31_1 : fieldOff Try.prog 31 1 = some 1 := by kernel_rfl
theorem fo33_0 : fieldOff Try.prog 33 0 = some 0 := by kernel_rfl
theorem fo33_1 : fieldOff Try.prog 33 1 = some 1 := by kernel_rfl
theorem fo35_0 : fieldOff Try.prog 35 0 = some 0 := by kernel_rfl
theorem fo35_1 : fieldOff Try.prog 35 1 = some 1 := by kernel_rfl
theorem fo35_2 : fieldOff Try.prog 35 2 = some 33 := by kernel_rfl
theorem fo35_3 : fieldOff Try.prog 35 3 = some 34 := by kernel_rfl
theorem fo35_4 : fieldOff Try.prog 35 4 = some 37 := by kernel_rfl
theorem fo35_5 : fieldOff Try.prog 35 5 = some 38 := by kernel_rfl
theorem fo35_6 : fieldOff Try.prog 35 6 = some 39 := by kernel_rfl
theorem z24 : (Try.prog.info? 24).map (fun i => i.zero.map (·.cells)) = some (some #[.int .i64 0]) := by kernel_rfl
theorem z27 : (Try.prog.info? 27).map (fun i => i.zero.map (·.cells)) = some (some #[.int .u8 0, .int .u8 0, .int .u8 0, .int .u8 0, .int .u8 0, .int .u8 0, .int .u8 0, .int .u8 0, .int .u8 0, .int .u8 0, .int .u8 0, .int .u8 0, .int .u8 0, .int .u8 0, .int .u8 0, .int .u8 0, .int .u8 0, .int .u8 0, .int .u8 0, .int .u8 0, .int .u8 0, .int .u8 0, .int .u8 0, .int .u8 0, .int .u8 0, .int .u8 0, .int .u8 0, .int .u8 0, .int .u8 0, .int .u8 0, .int .u8 0, .int .u8 0]) := by kernel_rfl
theorem z35 : (Try.prog.info? 35).map (fun i => i.zero.map (·.cells)) = some (some #[.int .i64 0, .int .u8 0, .int .u8 0, .int .u8 0, .int .u8 0, .int .u8 0, .int .u8 0, .int .u8 0, .int .u8 0, .int .u8 0, .int .u8 0, .int .u8 0, .int .u8 0, .int .u8 0, .int .u8 0, .int .u8 0, .int .u8 0, .int .u8 0, .int .u8 0, .int .u8 0, .int .u8 0, .int .u8 0, .int .u8 0, .int .u8 0, .int .u8 0, .int .u8 0, .int .u8 0, .int .u8 0, .int .u8 0, .int .u8 0, .int .u8 0, .int .u8 0, .int .u8 0, .int .i64 0, .int .i64 0, .int .i64 0, .int .i64 0, .int .i64 0, .int .i64 0, .int .i64 0]) := by kernel_rfl
theorem z54 : (Try.prog.info? 54).map (fun i => i.zero.map (·.cells)) = some (some #[.int .u32 0, .int .u32 0, .int .u32 0, .int .u32 0, .int .u32 0, .int .u32 0, .int .u32 0, .int .u32 0]) := by kernel_rfl
theorem z58 : (Try.prog.info? 58).map (fun i => i.zero.map (·.cells)) = some (some #[.int .u64 0, .int .u64 0, .int .u64 0, .int .u64 0, .int .u64 0, .int .u64 0, .int .u64 0, .int .u64 0]) := by kernel_rfl
theorem z65 : (Try.prog.info? 65).map (fun i => i.zero.map (·.cells)) = some (some #[.int .u8 0, .int .u8 0, .int .u8 0, .int .u8 0, .int .u8 0, .int .u8 0, .int .u8 0, .int .u8 0, .int .u8 0, .int .u8 0, .int .u8 0, .int .u8 0, .int .u8 0, .int .u8 0, .int .u8 0, .int .u8 0, .int .u8 0, .int .u8 0, .int .u8 0, .int .u8 0, .int .u8 0, .int .u8 0, .int .u8 0, .int .u8 0, .int .u8 0, .int .u8 0, .int .u8 0, .int .u8 0, .int .u8 0, .int .u8 0, .int .u8 0, .int .u8 0, .int .u8 0, .int .u8 0, .int .u8 0, .int .u8 0, .int .u8 0, .int .u8 0, .int .u8 0, .int .u8 0, .int .u8 0, .int .u8 0, .int .u8 0, .int .u8 0, .int .u8 0, .int .u8 0, .int .u8 0, .int .u8 0, .int .u8 0, .int .u8 0, .int .u8 0, .int .u8 0, .int .u8 0, .int .u8 0, .int .u8 0, .int .u8 0, .int .u8 0, .int .u8 0, .int .u8 0, .int .u8 0, .int .u8 0, .int .u8 0, .int .u8 0, .int .u8 0]) := by kernel_rfl
theorem z73 : (Try.prog.info? 73).map (fun i => i.zero.map (·.cells)) = some (some #[.int .u32 0, .int .u32 0, .int .u32 0, .int .u32 0, .int .u32 0, .int .u32 0, .int .u32 0, .int .u32 0, .int .u32 0, .int .u32 0, .int .u32 0, .int .u32 0, .int .u32 0, .int .u32 0, .int .u32 0, .int .u32 0, .int .u32 0, .int .u32 0, .int .u32 0, .int .u32 0, .int .u32 0, .int .u32 0, .int .u32 0, .int .u32 0, .int .u32 0, .int .u32 0, .int .u32 0, .int .u32 0, .int .u32 0, .int .u32 0, .int .u32 0, .int .u32 0, .int .u32 0, .int .u32 0, .int .u32 0, .int .u32 0, .int .u32 0, .int .u32 0, .int .u32 0, .int .u32 0, .int .u32 0, .int .u32 0, .int .u32 0, .int .u32 0, .int .u32 0, .int .u32 0, .int .u32 0, .int .u32 0, .int .u32 0, .int .u32 0, .int .u32 0, .int .u32 0, .int .u32 0, .int .u32 0, .int .u32 0, .int .u32 0, .int .u32 0, .int .u32 0, .int .u32 0, .int .u32 0, .int .u32 0, .int .u32 0, .int .u32 0, .int .u32 0]) := by kernel_rfl
theorem eqg27 : Try.prog.eqGuardType Try.prog.depth 27 = false := by kernel_rfl
theorem eqg33 : Try.prog.eqGuardType Try.prog.depth 33 = false := by kernel_rfl
theorem eqg35 : Try.prog.eqGuardType Try.prog.depth 35 = false := by kernel_rfl
theorem en9 : enters Try.prog 9 = true := by kernel_rfl
theorem en10 : enters Try.prog 10 = true := by kernel_rfl
theorem en11 : enters Try.prog 11 = true := by kernel_rfl
theorem en12 : enters Try.prog 12 = true := by kernel_rfl
theorem en13 : enters Try.prog 13 = true := by kernel_rfl
theorem en14 : enters Try.prog 14 = true := by kernel_rfl
theorem en15 : enters Try.prog 15 = true := by kernel_rfl
theorem en16 : enters Try.prog 16 = true := by kernel_rfl
theorem en17 : enters Try.prog 17 = true := by kernel_rfl
theorem en18 : enters Try.prog 18 = true := by kernel_rfl
theorem en19 : enters Try.prog 19 = true := by kernel_rfl
theorem en20 : enters Try.prog 20 = true := by kernel_rfl
theorem en21 : enters Try.prog 21 = true := by kernel_rfl
theorem en22 : enters Try.prog 22 = true := by kernel_rfl
theorem en23 : enters Try.prog 23 = true := by kernel_rfl
theorem en24 : enters Try.prog 24 = true := by kernel_rfl
theorem en25 : enters Try.prog 25 = true := by kernel_rfl
theorem en26 : enters Try.prog 26 = true := by kernel_rfl
theorem en27 : enters Try.prog 27 = true := by kernel_rfl
theorem en28 : enters Try.prog 28 = true := by kernel_rfl
theorem en29 : enters Try.prog 29 = true := by kernel_rfl
theorem en30 : enters Try.prog 30 = true := by kernel_rfl
theorem en31 : enters Try.prog 31 = true := by kernel_rfl
theorem en32 : enters Try.prog 32 = true := by kernel_rfl
theorem en33 : enters Try.prog 33 = true := by kernel_rfl
theorem en34 : enters Try.prog 34 = true := by kernel_rfl
theorem en35 : enters Try.prog 35 = true := by kernel_rfl
theorem en36 : enters Try.prog 36 = true := by kernel_rfl
theorem en37 : enters Try.prog 37 = true := by kernel_rfl
theorem en38 : enters Try.prog 38 = true := by kernel_rfl
theorem en39 : enters Try.prog 39 = true := by kernel_rfl
theorem en40 : enters Try.prog 40 = true := by kernel_rfl
theorem en41 : enters Try.prog 41 = true := by kernel_rfl
theorem en42 : enters Try.prog 42 = true := by kernel_rfl
theorem en43 : enters Try.prog 43 = true := by kernel_rfl
theorem en44 : enters Try.prog 44 = true := by kernel_rfl
theorem en45 : enters Try.prog 45 = true := by kernel_rfl
theorem en46 : enters Try.prog 46 = true := by kernel_rfl
theorem en47 : enters Try.prog 47 = true := by kernel_rfl
theorem sl22 : SlTy Try.prog 22 35 40 := ⟨Try.underlying22, by kernel_rfl⟩
theorem el35 : ElTy Try.prog 35 40 96 := ⟨by omega, .agg #[.int .i64 0, .int .u8 0, .int .u8 0, .int .u8 0, .int .u8 0, .int .u8 0, .int .u8 0, .int .u8 0, .int .u8 0, .int .u8 0, .int .u8 0, .int .u8 0, .int .u8 0, .int .u8 0, .int .u8 0, .int .u8 0, .int .u8 0, .int .u8 0, .int .u8 0, .int .u8 0, .int .u8 0, .int .u8 0, .int .u8 0, .int .u8 0, .int .u8 0, .int .u8 0, .int .u8 0, .int .u8 0, .int .u8 0, .int .u8 0, .int .u8 0, .int .u8 0, .int .u8 0, .int .i64 0, .int .i64 0, .int .i64 0, .int .i64 0, .int .i64 0, .int .i64 0, .int .i64 0], rfl, by kernel_rfl⟩
theorem sl46 : SlTy Try.prog 46 5 1 := ⟨Try.underlying46, by kernel_rfl⟩
theorem el5 : ElTy Try.prog 5 1 1 := ⟨by omega, .int .u8 0, rfl, by kernel_rfl⟩
theorem sl69 : SlTy Try.prog 69 56 1 := ⟨Try.underlying69, by kernel_rfl⟩
theorem el56 : ElTy Try.prog 56 1 8 := ⟨by omega, .int .u64 0, rfl, by kernel_rfl⟩
section
variable {o : Oper} {a : Act}
theorem bu27_ (ho : o.op = .build 27 #[]) : Pure Try.prog o a (.agg #[.int .u8 0, .int .u8 0, .int .u8 0, .int .u8 0, .int .u8 0, .int .u8 0, .int .u8 0, .int .u8 0, .int .u8 0, .int .u8 0, .int .u8 0, .int .u8 0, .int .u8 0, .int .u8 0, .int .u8 0, .int .u8 0, .int .u8 0, .int .u8 0, .int .u8 0, .int .u8 0, .int .u8 0, .int .u8 0, .int .u8 0, .int .u8 0, .int .u8 0, .int .u8 0, .int .u8 0, .int .u8 0, .int .u8 0, .int .u8 0, .int .u8 0, .int .u8 0]) := fun w => by
  simp only [execOp, ho, List.map_toArray, List.map]
  simp [go_sem]
theorem bu35_ (ho : o.op = .build 35 #[]) : Pure Try.prog o a (.agg #[.int .i64 0, .int .u8 0, .int .u8 0, .int .u8 0, .int .u8 0, .int .u8 0, .int .u8 0, .int .u8 0, .int .u8 0, .int .u8 0, .int .u8 0, .int .u8 0, .int .u8 0, .int .u8 0, .int .u8 0, .int .u8 0, .int .u8 0, .int .u8 0, .int .u8 0, .int .u8 0, .int .u8 0, .int .u8 0, .int .u8 0, .int .u8 0, .int .u8 0, .int .u8 0, .int .u8 0, .int .u8 0, .int .u8 0, .int .u8 0, .int .u8 0, .int .u8 0, .int .u8 0, .int .i64 0, .int .i64 0, .int .i64 0, .int .i64 0, .int .i64 0, .int .i64 0, .int .i64 0]) := fun w => by
  simp only [execOp, ho, List.map_toArray, List.map]
  simp [go_sem]
theorem bu35_2_6 {x0 : Operand} {i0 : Int} {x1 : Operand} {i1 : Int} (ho : o.op = .build 35 #[(2, x0), (6, x1)]) (h0 : a.eval x0 = .int .i64 i0) (h1 : a.eval x1 = .int .i64 i1) : Pure Try.prog o a (.agg #[.int .i64 0, .int .u8 0, .int .u8 0, .int .u8 0, .int .u8 0, .int .u8 0, .int .u8 0, .int .u8 0, .int .u8 0, .int .u8 0, .int .u8 0, .int .u8 0, .int .u8 0, .int .u8 0, .int .u8 0, .int .u8 0, .int .u8 0, .int .u8 0, .int .u8 0, .int .u8 0, .int .u8 0, .int .u8 0, .int .u8 0, .int .u8 0, .int .u8 0, .int .u8 0, .int .u8 0, .int .u8 0, .int .u8 0, .int .u8 0, .int .u8 0, .int .u8 0, .int .u8 0, .int .i64 i0, .int .i64 0, .int .i64 0, .int .i64 0, .int .i64 0, .int .i64 0, .int .i64 i1]) := fun w => by
  simp only [execOp, ho, List.map_toArray, List.map, h0, h1]
  simp [go_sem]
theorem bu54_0_1_2_3_4_5_6_7 {x0 : Operand} {i0 : Int} {x1 : Operand} {i1 : Int} {x2 : Operand} {i2 : Int} {x3 : Operand} {i3 : Int} {x4 : Operand} {i4 : Int} {x5 : Operand} {i5 : Int} {x6 : Operand} {i6 : Int} {x7 : Operand} {i7 : Int} (ho : o.op = .build 54 #[(0, x0), (1, x1), (2, x2), (3, x3), (4, x4), (5, x5), (6, x6), (7, x7)]) (h0 : a.eval x0 = .int .u32 i0) (h1 : a.eval x1 = .int .u32 i1) (h2 : a.eval x2 = .int .u32 i2) (h3 : a.eval x3 = .int .u32 i3) (h4 : a.eval x4 = .int .u32 i4) (h5 : a.eval x5 = .int .u32 i5) (h6 : a.eval x6 = .int .u32 i6) (h7 : a.eval x7 = .int .u32 i7) : Pure Try.prog o a (.agg #[.int .u32 i0, .int .u32 i1, .int .u32 i2, .int .u32 i3, .int .u32 i4, .int .u32 i5, .int .u32 i6, .int .u32 i7]) := fun w => by
  simp only [execOp, ho, List.map_toArray, List.map, h0, h1, h2, h3, h4, h5, h6, h7]
  simp [go_sem]
theorem bu58_0_1_2_3_4_5_6_7 {x0 : Operand} {i0 : Int} {x1 : Operand} {i1 : Int} {x2 : Operand} {i2 : Int} {x3 : Operand} {i3 : Int} {x4 : Operand} {i4 : Int} {x5 : Operand} {i5 : Int} {x6 : Operand} {i6 : Int} {x7 : Operand} {i7 : Int} (ho : o.op = .build 58 #[(0, x0), (1, x1), (2, x2), (3, x3), (4, x4), (5, x5), (6, x6), (7, x7)]) (h0 : a.eval x0 = .int .u64 i0) (h1 : a.eval x1 = .int .u64 i1) (h2 : a.eval x2 = .int .u64 i2) (h3 : a.eval x3 = .int .u64 i3) (h4 : a.eval x4 = .int .u64 i4) (h5 : a.eval x5 = .int .u64 i5) (h6 : a.eval x6 = .int .u64 i6) (h7 : a.eval x7 = .int .u64 i7) : Pure Try.prog o a (.agg #[.int .u64 i0, .int .u64 i1, .int .u64 i2, .int .u64 i3, .int .u64 i4, .int .u64 i5, .int .u64 i6, .int .u64 i7]) := fun w => by
  simp only [execOp, ho, List.map_toArray, List.map, h0, h1, h2, h3, h4, h5, h6, h7]
  simp [go_sem]
theorem bu65_ (ho : o.op = .build 65 #[]) : Pure Try.prog o a (.agg #[.int .u8 0, .int .u8 0, .int .u8 0, .int .u8 0, .int .u8 0, .int .u8 0, .int .u8 0, .int .u8 0, .int .u8 0, .int .u8 0, .int .u8 0, .int .u8 0, .int .u8 0, .int .u8 0, .int .u8 0, .int .u8 0, .int .u8 0, .int .u8 0, .int .u8 0, .int .u8 0, .int .u8 0, .int .u8 0, .int .u8 0, .int .u8 0, .int .u8 0, .int .u8 0, .int .u8 0, .int .u8 0, .int .u8 0, .int .u8 0, .int .u8 0, .int .u8 0, .int .u8 0, .int .u8 0, .int .u8 0, .int .u8 0, .int .u8 0, .int .u8 0, .int .u8 0, .int .u8 0, .int .u8 0, .int .u8 0, .int .u8 0, .int .u8 0, .int .u8 0, .int .u8 0, .int .u8 0, .int .u8 0, .int .u8 0, .int .u8 0, .int .u8 0, .int .u8 0, .int .u8 0, .int .u8 0, .int .u8 0, .int .u8 0, .int .u8 0, .int .u8 0, .int .u8 0, .int .u8 0, .int .u8 0, .int .u8 0, .int .u8 0, .int .u8 0]) := fun w => by
  simp only [execOp, ho, List.map_toArray, List.map]
  simp [go_sem]
theorem bs22_0 (ho : o.op = .buildSlice 22 0 #[]) (w : World) : (execOp a.eval o).run Try.prog w = .ok (.value (.slice (some ⟨w.heap.size, 0, none⟩) 0 0)) (w.alloc (.cells #[] 35)) := by
  simp only [execOp, ho, List.map_toArray, List.map]
  simp [go_sem]
theorem bs22_1 {x0 : Operand} {i0_0 : Int} {i0_1 : Int} {i0_2 : Int} {i0_3 : Int} {i0_4 : Int} {i0_5 : Int} {i0_6 : Int} {i0_7 : Int} {i0_8 : Int} {i0_9 : Int} {i0_10 : Int} {i0_11 : Int} {i0_12 : Int} {i0_13 : Int} {i0_14 : Int} {i0_15 : Int} {i0_16 : Int} {i0_17 : Int} {i0_18 : Int} {i0_19 : Int} {i0_20 : Int} {i0_21 : Int} {i0_22 : Int} {i0_23 : Int} {i0_24 : Int} {i0_25 : Int} {i0_26 : Int} {i0_27 : Int} {i0_28 : Int} {i0_29 : Int} {i0_30 : Int} {i0_31 : Int} {i0_32 : Int} {i0_33 : Int} {i0_34 : Int} {i0_35 : Int} {i0_36 : Int} {i0_37 : Int} {i0_38 : Int} {i0_39 : Int} (ho : o.op = .buildSlice 22 1 #[(0, x0)]) (h0 : a.eval x0 = .agg #[.int .i64 i0_0, .int .u8 i0_1, .int .u8 i0_2, .int .u8 i0_3, .int .u8 i0_4, .int .u8 i0_5, .int .u8 i0_6, .int .u8 i0_7, .int .u8 i0_8, .int .u8 i0_9, .int .u8 i0_10, .int .u8 i0_11, .int .u8 i0_12, .int .u8 i0_13, .int .u8 i0_14, .int .u8 i0_15, .int .u8 i0_16, .int .u8 i0_17, .int .u8 i0_18, .int .u8 i0_19, .int .u8 i0_20, .int .u8 i0_21, .int .u8 i0_22, .int .u8 i0_23, .int .u8 i0_24, .int .u8 i0_25, .int .u8 i0_26, .int .u8 i0_27, .int .u8 i0_28, .int .u8 i0_29, .int .u8 i0_30, .int .u8 i0_31, .int .u8 i0_32, .int .i64 i0_33, .int .i64 i0_34, .int .i64 i0_35, .int .i64 i0_36, .int .i64 i0_37, .int .i64 i0_38, .int .i64 i0_39]) (w : World) : (execOp a.eval o).run Try.prog w = .ok (.value (.slice (some ⟨w.heap.size, 0, none⟩) 1 1)) (w.alloc (.cells #[.int .i64 i0_0, .int .u8 i0_1, .int .u8 i0_2, .int .u8 i0_3, .int .u8 i0_4, .int .u8 i0_5, .int .u8 i0_6, .int .u8 i0_7, .int .u8 i0_8, .int .u8 i0_9, .int .u8 i0_10, .int .u8 i0_11, .int .u8 i0_12, .int .u8 i0_13, .int .u8 i0_14, .int .u8 i0_15, .int .u8 i0_16, .int .u8 i0_17, .int .u8 i0_18, .int .u8 i0_19, .int .u8 i0_20, .int .u8 i0_21, .int .u8 i0_22, .int .u8 i0_23, .int .u8 i0_24, .int .u8 i0_25, .int .u8 i0_26, .int .u8 i0_27, .int .u8 i0_28, .int .u8 i0_29, .int .u8 i0_30, .int .u8 i0_31, .int .u8 i0_32, .int .i64 i0_33, .int .i64 i0_34, .int .i64 i0_35, .int .i64 i0_36, .int .i64 i0_37, .int .i64 i0_38, .int .i64 i0_39] 35)) := by
  simp only [execOp, ho, List.map_toArray, List.map, h0]
  simp [go_sem]
theorem bs22_2 {x0 : Operand} {i0_0 : Int} {i0_1 : Int} {i0_2 : Int} {i0_3 : Int} {i0_4 : Int} {i0_5 : Int} {i0_6 : Int} {i0_7 : Int} {i0_8 : Int} {i0_9 : Int} {i0_10 : Int} {i0_11 : Int} {i0_12 : Int} {i0_13 : Int} {i0_14 : Int} {i0_15 : Int} {i0_16 : Int} {i0_17 : Int} {i0_18 : Int} {i0_19 : Int} {i0_20 : Int} {i0_21 : Int} {i0_22 : Int} {i0_23 : Int} {i0_24 : Int} {i0_25 : Int} {i0_26 : Int} {i0_27 : Int} {i0_28 : Int} {i0_29 : Int} {i0_30 : Int} {i0_31 : Int} {i0_32 : Int} {i0_33 : Int} {i0_34 : Int} {i0_35 : Int} {i0_36 : Int} {i0_37 : Int} {i0_38 : Int} {i0_39 : Int} {x1 : Operand} {i1_0 : Int} {i1_1 : Int} {i1_2 : Int} {i1_3 : Int} {i1_4 : Int} {i1_5 : Int} {i1_6 : Int} {i1_7 : Int} {i1_8 : Int} {i1_9 : Int} {i1_10 : Int} {i1_11 : Int} {i1_12 : Int} {i1_13 : Int} {i1_14 : Int} {i1_15 : Int} {i1_16 : Int} {i1_17 : Int} {i1_18 : Int} {i1_19 : Int} {i1_20 : Int} {i1_21 : Int} {i1_22 : Int} {i1_23 : Int} {i1_24 : Int} {i1_25 : Int} {i1_26 : Int} {i1_27 : Int} {i1_28 : Int} {i1_29 : Int} {i1_30 : Int} {i1_31 : Int} {i1_32 : Int} {i1_33 : Int} {i1_34 : Int} {i1_35 : Int} {i1_36 : Int} {i1_37 : Int} {i1_38 : Int} {i1_39 : Int} (ho : o.op = .buildSlice 22 2 #[(0, x0), (1, x1)]) (h0 : a.eval x0 = .agg #[.int .i64 i0_0, .int .u8 i0_1, .int .u8 i0_2, .int .u8 i0_3, .int .u8 i0_4, .int .u8 i0_5, .int .u8 i0_6, .int .u8 i0_7, .int .u8 i0_8, .int .u8 i0_9, .int .u8 i0_10, .int .u8 i0_11, .int .u8 i0_12, .int .u8 i0_13, .int .u8 i0_14, .int .u8 i0_15, .int .u8 i0_16, .int .u8 i0_17, .int .u8 i0_18, .int .u8 i0_19, .int .u8 i0_20, .int .u8 i0_21, .int .u8 i0_22, .int .u8 i0_23, .int .u8 i0_24, .int .u8 i0_25, .int .u8 i0_26, .int .u8 i0_27, .int .u8 i0_28, .int .u8 i0_29, .int .u8 i0_30, .int .u8 i0_31, .int .u8 i0_32, .int .i64 i0_33, .int .i64 i0_34, .int .i64 i0_35, .int .i64 i0_36, .int .i64 i0_37, .int .i64 i0_38, .int .i64 i0_39]) (h1 : a.eval x1 = .agg #[.int .i64 i1_0, .int .u8 i1_1, .int .u8 i1_2, .int .u8 i1_3, .int .u8 i1_4, .int .u8 i1_5, .int .u8 i1_6, .int .u8 i1_7, .int .u8 i1_8, .int .u8 i1_9, .int .u8 i1_10, .int .u8 i1_11, .int .u8 i1_12, .int .u8 i1_13, .int .u8 i1_14, .int .u8 i1_15, .int .u8 i1_16, .int .u8 i1_17, .int .u8 i1_18, .int .u8 i1_19, .int .u8 i1_20, .int .u8 i1_21, .int .u8 i1_22, .int .u8 i1_23, .int .u8 i1_24, .int .u8 i1_25, .int .u8 i1_26, .int .u8 i1_27, .int .u8 i1_28, .int .u8 i1_29, .int .u8 i1_30, .int .u8 i1_31, .int .u8 i1_32, .int .i64 i1_33, .int .i64 i1_34, .int .i64 i1_35, .int .i64 i1_36, .int .i64 i1_37, .int .i64 i1_38, .int .i64 i1_39]) (w : World) : (execOp a.eval o).run Try.prog w = .ok (.value (.slice (some ⟨w.heap.size, 0, none⟩) 2 2)) (w.alloc (.cells #[.int .i64 i0_0, .int .u8 i0_1, .int .u8 i0_2, .int .u8 i0_3, .int .u8 i0_4, .int .u8 i0_5, .int .u8 i0_6, .int .u8 i0_7, .int .u8 i0_8, .int .u8 i0_9, .int .u8 i0_10, .int .u8 i0_11, .int .u8 i0_12, .int .u8 i0_13, .int .u8 i0_14, .int .u8 i0_15, .int .u8 i0_16, .int .u8 i0_17, .int .u8 i0_18, .int .u8 i0_19, .int .u8 i0_20, .int .u8 i0_21, .int .u8 i0_22, .int .u8 i0_23, .int .u8 i0_24, .int .u8 i0_25, .int .u8 i0_26, .int .u8 i0_27, .int .u8 i0_28, .int .u8 i0_29, .int .u8 i0_30, .int .u8 i0_31, .int .u8 i0_32, .int .i64 i0_33, .int .i64 i0_34, .int .i64 i0_35, .int .i64 i0_36, .int .i64 i0_37, .int .i64 i0_38, .int .i64 i0_39, .int .i64 i1_0, .int .u8 i1_1, .int .u8 i1_2, .int .u8 i1_3, .int .u8 i1_4, .int .u8 i1_5, .int .u8 i1_6, .int .u8 i1_7, .int .u8 i1_8, .int .u8 i1_9, .int .u8 i1_10, .int .u8 i1_11, .int .u8 i1_12, .int .u8 i1_13, .int .u8 i1_14, .int .u8 i1_15, .int .u8 i1_16, .int .u8 i1_17, .int .u8 i1_18, .int .u8 i1_19, .int .u8 i1_20, .int .u8 i1_21, .int .u8 i1_22, .int .u8 i1_23, .int .u8 i1_24, .int .u8 i1_25, .int .u8 i1_26, .int .u8 i1_27, .int .u8 i1_28, .int .u8 i1_29, .int .u8 i1_30, .int .u8 i1_31, .int .u8 i1_32, .int .i64 i1_33, .int .i64 i1_34, .int .i64 i1_35, .int .i64 i1_36, .int .i64 i1_37, .int .i64 i1_38, .int .i64 i1_39] 35)) := by
  simp only [execOp, ho, List.map_toArray, List.map, h0, h1]
  simp [go_sem]
theorem bs46_0 (ho : o.op = .buildSlice 46 0 #[]) (w : World) : (execOp a.eval o).run Try.prog w = .ok (.value (.slice (some ⟨w.heap.size, 0, none⟩) 0 0)) (w.alloc (.cells #[] 5)) := by
  simp only [execOp, ho, List.map_toArray, List.map]
  simp [go_sem]
theorem bs46_1 {x0 : Operand} {i0 : Int} (ho : o.op = .buildSlice 46 1 #[(0, x0)]) (h0 : a.eval x0 = .int .u8 i0) (w : World) : (execOp a.eval o).run Try.prog w = .ok (.value (.slice (some ⟨w.heap.size, 0, none⟩) 1 1)) (w.alloc (.cells #[.int .u8 i0] 5)) := by
  simp only [execOp, ho, List.map_toArray, List.map, h0]
  simp [go_sem]
theorem bs46_2 {x0 : Operand} {i0 : Int} {x1 : Operand} {i1 : Int} (ho : o.op = .buildSlice 46 2 #[(0, x0), (1, x1)]) (h0 : a.eval x0 = .int .u8 i0) (h1 : a.eval x1 = .int .u8 i1) (w : World) : (execOp a.eval o).run Try.prog w = .ok (.value (.slice (some ⟨w.heap.size, 0, none⟩) 2 2)) (w.alloc (.cells #[.int .u8 i0, .int .u8 i1] 5)) := by
  simp only [execOp, ho, List.map_toArray, List.map, h0, h1]
  simp [go_sem]
theorem bs46_4 {x0 : Operand} {i0 : Int} {x1 : Operand} {i1 : Int} {x2 : Operand} {i2 : Int} {x3 : Operand} {i3 : Int} (ho : o.op = .buildSlice 46 4 #[(0, x0), (1, x1), (2, x2), (3, x3)]) (h0 : a.eval x0 = .int .u8 i0) (h1 : a.eval x1 = .int .u8 i1) (h2 : a.eval x2 = .int .u8 i2) (h3 : a.eval x3 = .int .u8 i3) (w : World) : (execOp a.eval o).run Try.prog w = .ok (.value (.slice (some ⟨w.heap.size, 0, none⟩) 4 4)) (w.alloc (.cells #[.int .u8 i0, .int .u8 i1, .int .u8 i2, .int .u8 i3] 5)) := by
  simp only [execOp, ho, List.map_toArray, List.map, h0, h1, h2, h3]
  simp [go_sem]
theorem bs69_1 {x0 : Operand} {i0 : Int} (ho : o.op = .buildSlice 69 1 #[(0, x0)]) (h0 : a.eval x0 = .int .u64 i0) (w : World) : (execOp a.eval o).run Try.prog w = .ok (.value (.slice (some ⟨w.heap.size, 0, none⟩) 1 1)) (w.alloc (.cells #[.int .u64 i0] 56)) := by
  simp only [execOp, ho, List.map_toArray, List.map, h0]
  simp [go_sem]
theorem ix54_0 {x y : Operand} {g : Nat} (ho : o.op = .indexAddr 54 x y) (hx : a.eval x = .pointer (some ⟨g, 0, none⟩)) (hy : a.eval y = .int .i64 0) : Pure Try.prog o a (.pointer (some ⟨g, 0, none⟩)) := fun w => by
  simp only [execOp, ho, hx, hy]
  simp [go_sem]
theorem ix54_1 {x y : Operand} {g : Nat} (ho : o.op = .indexAddr 54 x y) (hx : a.eval x = .pointer (some ⟨g, 0, none⟩)) (hy : a.eval y = .int .i64 1) : Pure Try.prog o a (.pointer (some ⟨g, 1, none⟩)) := fun w => by
  simp only [execOp, ho, hx, hy]
  simp [go_sem]
theorem ix54_2 {x y : Operand} {g : Nat} (ho : o.op = .indexAddr 54 x y) (hx : a.eval x = .pointer (some ⟨g, 0, none⟩)) (hy : a.eval y = .int .i64 2) : Pure Try.prog o a (.pointer (some ⟨g, 2, none⟩)) := fun w => by
  simp only [execOp, ho, hx, hy]
  simp [go_sem]
theorem ix54_3 {x y : Operand} {g : Nat} (ho : o.op = .indexAddr 54 x y) (hx : a.eval x = .pointer (some ⟨g, 0, none⟩)) (hy : a.eval y = .int .i64 3) : Pure Try.prog o a (.pointer (some ⟨g, 3, none⟩)) := fun w => by
  simp only [execOp, ho, hx, hy]
  simp [go_sem]
theorem ix54_4 {x y : Operand} {g : Nat} (ho : o.op = .indexAddr 54 x y) (hx : a.eval x = .pointer (some ⟨g, 0, none⟩)) (hy : a.eval y = .int .i64 4) : Pure Try.prog o a (.pointer (some ⟨g, 4, none⟩)) := fun w => by
  simp only [execOp, ho, hx, hy]
  simp [go_sem]
theorem ix54_5 {x y : Operand} {g : Nat} (ho : o.op = .indexAddr 54 x y) (hx : a.eval x = .pointer (some ⟨g, 0, none⟩)) (hy : a.eval y = .int .i64 5) : Pure Try.prog o a (.pointer (some ⟨g, 5, none⟩)) := fun w => by
  simp only [execOp, ho, hx, hy]
  simp [go_sem]
theorem ix54_6 {x y : Operand} {g : Nat} (ho : o.op = .indexAddr 54 x y) (hx : a.eval x = .pointer (some ⟨g, 0, none⟩)) (hy : a.eval y = .int .i64 6) : Pure Try.prog o a (.pointer (some ⟨g, 6, none⟩)) := fun w => by
  simp only [execOp, ho, hx, hy]
  simp [go_sem]
theorem ix54_7 {x y : Operand} {g : Nat} (ho : o.op = .indexAddr 54 x y) (hx : a.eval x = .pointer (some ⟨g, 0, none⟩)) (hy : a.eval y = .int .i64 7) : Pure Try.prog o a (.pointer (some ⟨g, 7, none⟩)) := fun w => by
  simp only [execOp, ho, hx, hy]
  simp [go_sem]
theorem ix58_0 {x y : Operand} {g : Nat} (ho : o.op = .indexAddr 58 x y) (hx : a.eval x = .pointer (some ⟨g, 0, none⟩)) (hy : a.eval y = .int .i64 0) : Pure Try.prog o a (.pointer (some ⟨g, 0, none⟩)) := fun w => by
  simp only [execOp, ho, hx, hy]
  simp [go_sem]
theorem ix58_1 {x y : Operand} {g : Nat} (ho : o.op = .indexAddr 58 x y) (hx : a.eval x = .pointer (some ⟨g, 0, none⟩)) (hy : a.eval y = .int .i64 1) : Pure Try.prog o a (.pointer (some ⟨g, 1, none⟩)) := fun w => by
  simp only [execOp, ho, hx, hy]
  simp [go_sem]
theorem ix58_2 {x y : Operand} {g : Nat} (ho : o.op = .indexAddr 58 x y) (hx : a.eval x = .pointer (some ⟨g, 0, none⟩)) (hy : a.eval y = .int .i64 2) : Pure Try.prog o a (.pointer (some ⟨g, 2, none⟩)) := fun w => by
  simp only [execOp, ho, hx, hy]
  simp [go_sem]
theorem ix58_3 {x y : Operand} {g : Nat} (ho : o.op = .indexAddr 58 x y) (hx : a.eval x = .pointer (some ⟨g, 0, none⟩)) (hy : a.eval y = .int .i64 3) : Pure Try.prog o a (.pointer (some ⟨g, 3, none⟩)) := fun w => by
  simp only [execOp, ho, hx, hy]
  simp [go_sem]
theorem ix58_4 {x y : Operand} {g : Nat} (ho : o.op = .indexAddr 58 x y) (hx : a.eval x = .pointer (some ⟨g, 0, none⟩)) (hy : a.eval y = .int .i64 4) : Pure Try.prog o a (.pointer (some ⟨g, 4, none⟩)) := fun w => by
  simp only [execOp, ho, hx, hy]
  simp [go_sem]
theorem ix58_5 {x y : Operand} {g : Nat} (ho : o.op = .indexAddr 58 x y) (hx : a.eval x = .pointer (some ⟨g, 0, none⟩)) (hy : a.eval y = .int .i64 5) : Pure Try.prog o a (.pointer (some ⟨g, 5, none⟩)) := fun w => by
  simp only [execOp, ho, hx, hy]
  simp [go_sem]
theorem ix58_6 {x y : Operand} {g : Nat} (ho : o.op = .indexAddr 58 x y) (hx : a.eval x = .pointer (some ⟨g, 0, none⟩)) (hy : a.eval y = .int .i64 6) : Pure Try.prog o a (.pointer (some ⟨g, 6, none⟩)) := fun w => by
  simp only [execOp, ho, hx, hy]
  simp [go_sem]
theorem ix58_7 {x y : Operand} {g : Nat} (ho : o.op = .indexAddr 58 x y) (hx : a.eval x = .pointer (some ⟨g, 0, none⟩)) (hy : a.eval y = .int .i64 7) : Pure Try.prog o a (.pointer (some ⟨g, 7, none⟩)) := fun w => by
  simp only [execOp, ho, hx, hy]
  simp [go_sem]
theorem ixv27 {x y : Operand} {g : Nat} {i : Int} (ho : o.op = .indexAddr 27 x y) (hx : a.eval x = .pointer (some ⟨g, 0, none⟩)) (hy : a.eval y = .int .i64 i) (h0 : 0 ≤ i) (h1 : i < 32) : Pure Try.prog o a (.pointer (some ⟨g, 0 + i.toNat * 1, none⟩)) := fun w => by
  simp only [execOp, ho, hx, hy]
  obtain ⟨k, rfl⟩ := Int.eq_ofNat_of_zero_le h0
  first | (simp [go_sem]; done) | (simp [go_sem]; omega)
theorem ixv58 {x y : Operand} {g : Nat} {i : Int} (ho : o.op = .indexAddr 58 x y) (hx : a.eval x = .pointer (some ⟨g, 0, none⟩)) (hy : a.eval y = .int .i64 i) (h0 : 0 ≤ i) (h1 : i < 8) : Pure Try.prog o a (.pointer (some ⟨g, 0 + i.toNat * 1, none⟩)) := fun w => by
  simp only [execOp, ho, hx, hy]
  obtain ⟨k, rfl⟩ := Int.eq_ofNat_of_zero_le h0
  first | (simp [go_sem]; done) | (simp [go_sem]; omega)
theorem ixv65 {x y : Operand} {g : Nat} {i : Int} (ho : o.op = .indexAddr 65 x y) (hx : a.eval x = .pointer (some ⟨g, 0, none⟩)) (hy : a.eval y = .int .i64 i) (h0 : 0 ≤ i) (h1 : i < 64) : Pure Try.prog o a (.pointer (some ⟨g, 0 + i.toNat * 1, none⟩)) := fun w => by
  simp only [execOp, ho, hx, hy]
  obtain ⟨k, rfl⟩ := Int.eq_ofNat_of_zero_le h0
  first | (simp [go_sem]; done) | (simp [go_sem]; omega)
theorem ixv73 {x y : Operand} {g : Nat} {i : Int} (ho : o.op = .indexAddr 73 x y) (hx : a.eval x = .pointer (some ⟨g, 0, none⟩)) (hy : a.eval y = .int .i64 i) (h0 : 0 ≤ i) (h1 : i < 64) : Pure Try.prog o a (.pointer (some ⟨g, 0 + i.toNat * 1, none⟩)) := fun w => by
  simp only [execOp, ho, hx, hy]
  obtain ⟨k, rfl⟩ := Int.eq_ofNat_of_zero_le h0
  first | (simp [go_sem]; done) | (simp [go_sem]; omega)
theorem ixo27 {x y : Operand} {g og : Nat} {i : Int} (ho : o.op = .indexAddr 27 x y) (hx : a.eval x = .pointer (some ⟨g, og, none⟩)) (hy : a.eval y = .int .i64 i) (h0 : 0 ≤ i) (h1 : i < 32) : Pure Try.prog o a (.pointer (some ⟨g, og + i.toNat * 1, none⟩)) := fun w => by
  simp only [execOp, ho, hx, hy]
  obtain ⟨k, rfl⟩ := Int.eq_ofNat_of_zero_le h0
  first | (simp [go_sem]; done) | (simp [go_sem]; omega)
theorem ixo58 {x y : Operand} {g og : Nat} {i : Int} (ho : o.op = .indexAddr 58 x y) (hx : a.eval x = .pointer (some ⟨g, og, none⟩)) (hy : a.eval y = .int .i64 i) (h0 : 0 ≤ i) (h1 : i < 8) : Pure Try.prog o a (.pointer (some ⟨g, og + i.toNat * 1, none⟩)) := fun w => by
  simp only [execOp, ho, hx, hy]
  obtain ⟨k, rfl⟩ := Int.eq_ofNat_of_zero_le h0
  first | (simp [go_sem]; done) | (simp [go_sem]; omega)
theorem ixo65 {x y : Operand} {g og : Nat} {i : Int} (ho : o.op = .indexAddr 65 x y) (hx : a.eval x = .pointer (some ⟨g, og, none⟩)) (hy : a.eval y = .int .i64 i) (h0 : 0 ≤ i) (h1 : i < 64) : Pure Try.prog o a (.pointer (some ⟨g, og + i.toNat * 1, none⟩)) := fun w => by
  simp only [execOp, ho, hx, hy]
  obtain ⟨k, rfl⟩ := Int.eq_ofNat_of_zero_le h0
  first | (simp [go_sem]; done) | (simp [go_sem]; omega)
theorem ixo73 {x y : Operand} {g og : Nat} {i : Int} (ho : o.op = .indexAddr 73 x y) (hx : a.eval x = .pointer (some ⟨g, og, none⟩)) (hy : a.eval y = .int .i64 i) (h0 : 0 ≤ i) (h1 : i < 64) : Pure Try.prog o a (.pointer (some ⟨g, og + i.toNat * 1, none⟩)) := fun w => by
  simp only [execOp, ho, hx, hy]
  obtain ⟨k, rfl⟩ := Int.eq_ofNat_of_zero_le h0
  first | (simp [go_sem]; done) | (simp [go_sem]; omega)
end
section
variable {o : Oper} {a : Act} {x y : Operand} {i j : Int}
theorem pu_max (ho : o.op = .call { callee := .builtin .max, args := #[x, y], argTypes := #[3, 3] }) (hx : a.eval x = .int .i64 i) (hy : a.eval y = .int .i64 j) : Pure Try.prog o a (.int .i64 (max i j)) := fun w => by
  simp only [execOp, ho, resolve, List.map_toArray, List.map, hx, hy]
  first | (simp [go_sem]; done) | (simp [go_sem]; omega)
theorem pu_min (ho : o.op = .call { callee := .builtin .min, args := #[x, y], argTypes := #[3, 3] }) (hx : a.eval x = .int .i64 i) (hy : a.eval y = .int .i64 j) : Pure Try.prog o a (.int .i64 (min i j)) := fun w => by
  simp only [execOp, ho, resolve, List.map_toArray, List.map, hx, hy]
  first | (simp [go_sem]; done) | (simp [go_sem]; omega)
end
end Go.Proofs.Ytjelhljgeinodaa
