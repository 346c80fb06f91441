/- Closed facts of this seat's program: types, functions. Made by gen.py. -/
import Derived.Test.YtcobpabmmbcjcaaFx
namespace Go.Proofs.Ytcobpabmmbcjcaa
open Go.RowKit
set_option maxRecDepth 100000
set_option linter.unusedSimpArgs false
set_option linter.unusedVariables false
theorem mixedOK : Try.prog.follows .mixedOrders = true := by kernel_rfl
theorem agg34 : AggTy Try.prog 34 38 := ⟨_, Try.underlying34, rfl, by kernel_rfl⟩
theorem agg50 : AggTy Try.prog 50 39 := ⟨_, Try.underlying50, rfl, by kernel_rfl⟩
theorem agg51 : AggTy Try.prog 51 7 := ⟨_, Try.underlying51, rfl, by kernel_rfl⟩
theorem agg83 : AggTy Try.prog 83 2 := ⟨_, Try.underlying83, rfl, by kernel_rfl⟩
theorem agg100 : AggTy Try.prog 100 3 := ⟨_, Try.underlying100, rfl, by kernel_rfl⟩
theorem agg108 : AggTy Try.prog 108 7 := ⟨_, Try.underlying108, rfl, by kernel_rfl⟩
theorem one3 : OneTy Try.prog 3 := ⟨_, Try.underlying3, rfl⟩
theorem one4 : OneTy Try.prog 4 := ⟨_, Try.underlying4, rfl⟩
theorem one9 : OneTy Try.prog 9 := ⟨_, Try.underlying9, rfl⟩
theorem one23 : OneTy Try.prog 23 := ⟨_, Try.underlying23, rfl⟩
theorem one25 : OneTy Try.prog 25 := ⟨_, Try.underlying25, rfl⟩
theorem one45 : OneTy Try.prog 45 := ⟨_, Try.underlying45, rfl⟩
theorem one60 : OneTy Try.prog 60 := ⟨_, Try.underlying60, rfl⟩
theorem one65 : OneTy Try.prog 65 := ⟨_, Try.underlying65, rfl⟩
theorem one68 : OneTy Try.prog 68 := ⟨_, Try.underlying68, rfl⟩
theorem one81 : OneTy Try.prog 81 := ⟨_, Try.underlying81, rfl⟩
theorem one89 : OneTy Try.prog 89 := ⟨_, Try.underlying89, rfl⟩
theorem si3 : (Try.prog.info? 3).map (·.size) = some 1 := by kernel_rfl
theorem si4 : (Try.prog.info? 4).map (·.size) = some 1 := by kernel_rfl
theorem si9 : (Try.prog.info? 9).map (·.size) = some 1 := by kernel_rfl
theorem si23 : (Try.prog.info? 23).map (·.size) = some 1 := by kernel_rfl
theorem si45 : (Try.prog.info? 45).map (·.size) = some 1 := by kernel_rfl
theorem si60 : (Try.prog.info? 60).map (·.size) = some 1 := by kernel_rfl
theorem si68 : (Try.prog.info? 68).map (·.size) = some 1 := by kernel_rfl
theorem si89 : (Try.prog.info? 89).map (·.size) = some 1 := by kernel_rfl
theorem fo34_0 : fieldOff Try.prog 34 0 = some 0 := by kernel_rfl
theorem fo34_1 : fieldOff Try.prog 34 1 = some 1 := by kernel_rfl
theorem fo34_3 : fieldOff Try.prog 34 3 = some 3 := by kernel_rfl
theorem fo34_4 : fieldOff Try.prog 34 4 = some 4 := by kernel_rfl
theorem fo34_5 : fieldOff Try.prog 34 5 = some 5 := by kernel_rfl
theorem fo50_0 : fieldOff Try.prog 50 0 = some 0 := by kernel_rfl
theorem fo50_1 : fieldOff Try.prog 50 1 = some 1 := by kernel_rfl
theorem fo64_0 : fieldOff Try.prog 64 0 = some 0 := by kernel_rfl
theorem fo64_1 : fieldOff Try.prog 64 1 = some 1 := by kernel_rfl
theorem fo64_2 : fieldOff Try.prog 64 2 = some 2 := by kernel_rfl
theorem fo64_3 : fieldOff Try.prog 64 3 = some 3 := by kernel_rfl
theorem fo64_4 : fieldOff Try.prog 64 4 = some 4 := by kernel_rfl
theorem fo64_5 : fieldOff Try.prog 64 5 = some 11 := by kernel_rfl
theorem fo64_6 : fieldOff Try.prog 64 6 = some 18 := by kernel_rfl
theorem fo71_0 : fieldOff Try.prog 71 0 = some 0 := by kernel_rfl
theorem fo71_1 : fieldOff Try.prog 71 1 = some 1 := by kernel_rfl
theorem fo71_2 : fieldOff Try.prog 71 2 = some 2 := by kernel_rfl
theorem fo71_3 : fieldOff Try.prog 71 3 = some 3 := by kernel_rfl
theorem fo71_4 : fieldOff Try.prog 71 4 = some 10 := by kernel_rfl
theorem fo71_5 : fieldOff Try.prog 71 5 = some 17 := by kernel_rfl
theorem fo71_6 : fieldOff Try.prog 71 6 = some 18 := by kernel_rfl
theorem fo83_0 : fieldOff Try.prog 83 0 = some 0 := by kernel_rfl
theorem fo83_1 : fieldOff Try.prog 83 1 = some 1 := by kernel_rfl
theorem fo85_0 : fieldOff Try.prog 85 0 = some 0 := by kernel_rfl
theorem fo85_1 : fieldOff Try.prog 85 1 = some 1 := by kernel_rfl
theorem fo85_2 : fieldOff Try.prog 85 2 = some 2 := by kernel_rfl
theorem fo85_3 : fieldOff Try.prog 85 3 = some 4 := by kernel_rfl
theorem fo85_4 : fieldOff Try.prog 85 4 = some 5 := by kernel_rfl
theorem fo85_5 : fieldOff Try.prog 85 5 = some 6 := by kernel_rfl
theorem fo85_6 : fieldOff Try.prog 85 6 = some 7 := by kernel_rfl
theorem fo85_7 : fieldOff Try.prog 85 7 = some 8 := by kernel_rfl
theorem fo91_0 : fieldOff Try.prog 91 0 = some 0 := by kernel_rfl
theorem fo91_1 : fieldOff Try.prog 91 1 = some 1 := by kernel_rfl
theorem fo91_2 : fieldOff Try.prog 91 2 = some 2 := by kernel_rfl
theorem fo91_3 : fieldOff Try.prog 91 3 = some 3 := by kernel_rfl
theorem fo91_4 : fieldOff Try.prog 91 4 = some 4 := by kernel_rfl
theorem fo91_5 : fieldOff Try.prog 91 5 = some 5 := by kernel_rfl
theorem fo91_6 : fieldOff Try.prog 91 6 = some 6 := by kernel_rfl
theorem fo91_7 : fieldOff Try.prog 91 7 = some 7 := by kernel_rfl
theorem fo97_0 : fieldOff Try.prog 97 0 = some 0 := by kernel_rfl
theorem fo97_1 : fieldOff Try.prog 97 1 = some 1 := by kernel_rfl
theorem fo100_0 : fieldOff Try.prog 100 0 = some 0 := by kernel_rfl
theorem fo100_1 : fieldOff Try.prog 100 1 = some 1 := by kernel_rfl
theorem fo100_2 : fieldOff Try.prog 100 2 = some 2 := by kernel_rfl
theorem z34 : (Try.prog.info? 34).map (fun i => i.zero.map (·.cells)) = some (some #[.int .i64 0, .int .i64 0, .int .i64 0, .int .i64 0, .int .i64 0, .string ⟨#[]⟩, .int .u8 0, .int .u8 0, .int .u8 0, .int .u8 0, .int .u8 0, .int .u8 0, .int .u8 0, .int .u8 0, .int .u8 0, .int .u8 0, .int .u8 0, .int .u8 0, .int .u8 0, .int .u8 0, .int .u8 0, .int .u8 0, .int .u8 0, .int .u8 0, .int .u8 0, .int .u8 0, .int .u8 0, .int .u8 0, .int .u8 0, .int .u8 0, .int .u8 0, .int .u8 0, .int .u8 0, .int .u8 0, .int .u8 0, .int .u8 0, .int .u8 0, .int .u8 0]) := by kernel_rfl
theorem z43 : (Try.prog.info? 43).map (fun i => i.zero.map (·.cells)) = some (some #[.int .i64 0, .int .i64 0, .int .i64 0, .int .i64 0, .int .i64 0, .int .i64 0, .int .i64 0]) := by kernel_rfl
theorem z51 : (Try.prog.info? 51).map (fun i => i.zero.map (·.cells)) = some (some #[(.slice none 0 0), (.slice none 0 0), (.slice none 0 0), (.slice none 0 0), (.slice none 0 0), (.slice none 0 0), (.slice none 0 0)]) := by kernel_rfl
theorem z83 : (Try.prog.info? 83).map (fun i => i.zero.map (·.cells)) = some (some #[.string ⟨#[]⟩, .bool false]) := by kernel_rfl
theorem z108 : (Try.prog.info? 108).map (fun i => i.zero.map (·.cells)) = some (some #[.bool false, .bool false, .bool false, .bool false, .bool false, .bool false, .bool false]) := by kernel_rfl
theorem mk5 : (Try.prog.info? 5).map (fun i => (i.zero, i.size, i.bytes)) = some (some (.int .u8 0), 1, 1) := by kernel_rfl
theorem eqg34 : Try.prog.eqGuardType Try.prog.depth 34 = false := by kernel_rfl
theorem eqg108 : Try.prog.eqGuardType Try.prog.depth 108 = false := by kernel_rfl
theorem en8 : enters Try.prog 8 = true := by kernel_rfl
theorem en9 : enters Try.prog 9 = true := by kernel_rfl
theorem en10 : enters Try.prog 10 = true := by kernel_rfl
theorem en11 : enters Try.prog 11 = true := by kernel_rfl
theorem en12 : enters Try.prog 12 = true := by kernel_rfl
theorem en13 : enters Try.prog 13 = true := by kernel_rfl
theorem en14 : enters Try.prog 14 = true := by kernel_rfl
theorem en15 : enters Try.prog 15 = true := by kernel_rfl
theorem en16 : enters Try.prog 16 = true := by kernel_rfl
theorem en17 : enters Try.prog 17 = true := by kernel_rfl
theorem en18 : enters Try.prog 18 = true := by kernel_rfl
theorem en19 : enters Try.prog 19 = true := by kernel_rfl
theorem en20 : enters Try.prog 20 = true := by kernel_rfl
theorem en21 : enters Try.prog 21 = true := by kernel_rfl
theorem en22 : enters Try.prog 22 = true := by kernel_rfl
theorem en23 : enters Try.prog 23 = true := by kernel_rfl
theorem en24 : enters Try.prog 24 = true := by kernel_rfl
theorem en25 : enters Try.prog 25 = true := by kernel_rfl
theorem en26 : enters Try.prog 26 = true := by kernel_rfl
theorem en27 : enters Try.prog 27 = true := by kernel_rfl
theorem en28 : enters Try.prog 28 = true := by kernel_rfl
theorem en29 : enters Try.prog 29 = true := by kernel_rfl
theorem en30 : enters Try.prog 30 = true := by kernel_rfl
theorem en31 : enters Try.prog 31 = true := by kernel_rfl
theorem en32 : enters Try.prog 32 = true := by kernel_rfl
theorem en33 : enters Try.prog 33 = true := by kernel_rfl
theorem en34 : enters Try.prog 34 = true := by kernel_rfl
theorem en35 : enters Try.prog 35 = true := by kernel_rfl
theorem en36 : enters Try.prog 36 = true := by kernel_rfl
theorem en37 : enters Try.prog 37 = true := by kernel_rfl
theorem en38 : enters Try.prog 38 = true := by kernel_rfl
theorem en40 : enters Try.prog 40 = true := by kernel_rfl
theorem en41 : enters Try.prog 41 = true := by kernel_rfl
theorem en42 : enters Try.prog 42 = true := by kernel_rfl
theorem en43 : enters Try.prog 43 = true := by kernel_rfl
theorem en44 : enters Try.prog 44 = true := by kernel_rfl
theorem en45 : enters Try.prog 45 = true := by kernel_rfl
theorem en46 : enters Try.prog 46 = true := by kernel_rfl
theorem en47 : enters Try.prog 47 = true := by kernel_rfl
theorem en48 : enters Try.prog 48 = true := by kernel_rfl
theorem en49 : enters Try.prog 49 = true := by kernel_rfl
theorem en50 : enters Try.prog 50 = true := by kernel_rfl
theorem en51 : enters Try.prog 51 = true := by kernel_rfl
theorem sl23 : SlTy Try.prog 23 34 38 := ⟨Try.underlying23, by kernel_rfl⟩
theorem el34 : ElTy Try.prog 34 38 88 := ⟨by omega, .agg #[.int .i64 0, .int .i64 0, .int .i64 0, .int .i64 0, .int .i64 0, .string ⟨#[]⟩, .int .u8 0, .int .u8 0, .int .u8 0, .int .u8 0, .int .u8 0, .int .u8 0, .int .u8 0, .int .u8 0, .int .u8 0, .int .u8 0, .int .u8 0, .int .u8 0, .int .u8 0, .int .u8 0, .int .u8 0, .int .u8 0, .int .u8 0, .int .u8 0, .int .u8 0, .int .u8 0, .int .u8 0, .int .u8 0, .int .u8 0, .int .u8 0, .int .u8 0, .int .u8 0, .int .u8 0, .int .u8 0, .int .u8 0, .int .u8 0, .int .u8 0, .int .u8 0], rfl, by kernel_rfl⟩
theorem sl45 : SlTy Try.prog 45 9 1 := ⟨Try.underlying45, by kernel_rfl⟩
theorem el9 : ElTy Try.prog 9 1 16 := ⟨by omega, .string ⟨#[]⟩, rfl, by kernel_rfl⟩
theorem sl46 : SlTy Try.prog 46 50 39 := ⟨Try.underlying46, by kernel_rfl⟩
theorem el50 : ElTy Try.prog 50 39 96 := ⟨by omega, .agg #[.int .i64 0, .int .i64 0, .int .i64 0, .int .i64 0, .int .i64 0, .int .i64 0, .string ⟨#[]⟩, .int .u8 0, .int .u8 0, .int .u8 0, .int .u8 0, .int .u8 0, .int .u8 0, .int .u8 0, .int .u8 0, .int .u8 0, .int .u8 0, .int .u8 0, .int .u8 0, .int .u8 0, .int .u8 0, .int .u8 0, .int .u8 0, .int .u8 0, .int .u8 0, .int .u8 0, .int .u8 0, .int .u8 0, .int .u8 0, .int .u8 0, .int .u8 0, .int .u8 0, .int .u8 0, .int .u8 0, .int .u8 0, .int .u8 0, .int .u8 0, .int .u8 0, .int .u8 0], rfl, by kernel_rfl⟩
theorem sl47 : SlTy Try.prog 47 25 1 := ⟨Try.underlying47, by kernel_rfl⟩
theorem el25 : ElTy Try.prog 25 1 8 := ⟨by omega, .pointer none, rfl, by kernel_rfl⟩
theorem sl55 : SlTy Try.prog 55 5 1 := ⟨Try.underlying55, by kernel_rfl⟩
theorem sl68 : SlTy Try.prog 68 97 2 := ⟨Try.underlying68, by kernel_rfl⟩
theorem el97 : ElTy Try.prog 97 2 16 := ⟨by omega, .agg #[.int .i64 0, .pointer none], rfl, by kernel_rfl⟩
theorem sl89 : SlTy Try.prog 89 100 3 := ⟨Try.underlying89, by kernel_rfl⟩
theorem el100 : ElTy Try.prog 100 3 32 := ⟨by omega, .agg #[.int .i64 0, .int .i64 0, .string ⟨#[]⟩], rfl, by kernel_rfl⟩
section
variable {o : Oper} {a : Act}
theorem bu34_ (ho : o.op = .build 34 #[]) : Pure Try.prog o a (.agg #[.int .i64 0, .int .i64 0, .int .i64 0, .int .i64 0, .int .i64 0, .string ⟨#[]⟩, .int .u8 0, .int .u8 0, .int .u8 0, .int .u8 0, .int .u8 0, .int .u8 0, .int .u8 0, .int .u8 0, .int .u8 0, .int .u8 0, .int .u8 0, .int .u8 0, .int .u8 0, .int .u8 0, .int .u8 0, .int .u8 0, .int .u8 0, .int .u8 0, .int .u8 0, .int .u8 0, .int .u8 0, .int .u8 0, .int .u8 0, .int .u8 0, .int .u8 0, .int .u8 0, .int .u8 0, .int .u8 0, .int .u8 0, .int .u8 0, .int .u8 0, .int .u8 0]) := fun w => by
  simp only [execOp, ho, List.map_toArray, List.map]
  simp [go_sem]
theorem bu34_0_1_3_4_5 {x0 : Operand} {i0 : Int} {x1 : Operand} {i1 : Int} {x2 : Operand} {i2 : Int} {x3 : Operand} {i3 : Int} {x4 : Operand} {i4 : Value} (ho : o.op = .build 34 #[(0, x0), (1, x1), (3, x2), (4, x3), (5, x4)]) (h0 : a.eval x0 = .int .i64 i0) (h1 : a.eval x1 = .int .i64 i1) (h2 : a.eval x2 = .int .i64 i2) (h3 : a.eval x3 = .int .i64 i3) (h4 : a.eval x4 = i4) (c4 : i4.cells = #[i4]) : Pure Try.prog o a (.agg #[.int .i64 i0, .int .i64 i1, .int .i64 0, .int .i64 i2, .int .i64 i3, i4, .int .u8 0, .int .u8 0, .int .u8 0, .int .u8 0, .int .u8 0, .int .u8 0, .int .u8 0, .int .u8 0, .int .u8 0, .int .u8 0, .int .u8 0, .int .u8 0, .int .u8 0, .int .u8 0, .int .u8 0, .int .u8 0, .int .u8 0, .int .u8 0, .int .u8 0, .int .u8 0, .int .u8 0, .int .u8 0, .int .u8 0, .int .u8 0, .int .u8 0, .int .u8 0, .int .u8 0, .int .u8 0, .int .u8 0, .int .u8 0, .int .u8 0, .int .u8 0]) := fun w => by
  simp only [Value.cells] at c4
  simp only [execOp, ho, List.map_toArray, List.map, h0, h1, h2, h3, h4]
  simp [go_sem, c4]
theorem bu34_0_5 {x0 : Operand} {i0 : Int} {x1 : Operand} {i1 : Value} (ho : o.op = .build 34 #[(0, x0), (5, x1)]) (h0 : a.eval x0 = .int .i64 i0) (h1 : a.eval x1 = i1) (c1 : i1.cells = #[i1]) : Pure Try.prog o a (.agg #[.int .i64 i0, .int .i64 0, .int .i64 0, .int .i64 0, .int .i64 0, i1, .int .u8 0, .int .u8 0, .int .u8 0, .int .u8 0, .int .u8 0, .int .u8 0, .int .u8 0, .int .u8 0, .int .u8 0, .int .u8 0, .int .u8 0, .int .u8 0, .int .u8 0, .int .u8 0, .int .u8 0, .int .u8 0, .int .u8 0, .int .u8 0, .int .u8 0, .int .u8 0, .int .u8 0, .int .u8 0, .int .u8 0, .int .u8 0, .int .u8 0, .int .u8 0, .int .u8 0, .int .u8 0, .int .u8 0, .int .u8 0, .int .u8 0, .int .u8 0]) := fun w => by
  simp only [Value.cells] at c1
  simp only [execOp, ho, List.map_toArray, List.map, h0, h1]
  simp [go_sem, c1]
theorem bu34_3_4_5 {x0 : Operand} {i0 : Int} {x1 : Operand} {i1 : Int} {x2 : Operand} {i2 : Value} (ho : o.op = .build 34 #[(3, x0), (4, x1), (5, x2)]) (h0 : a.eval x0 = .int .i64 i0) (h1 : a.eval x1 = .int .i64 i1) (h2 : a.eval x2 = i2) (c2 : i2.cells = #[i2]) : Pure Try.prog o a (.agg #[.int .i64 0, .int .i64 0, .int .i64 0, .int .i64 i0, .int .i64 i1, i2, .int .u8 0, .int .u8 0, .int .u8 0, .int .u8 0, .int .u8 0, .int .u8 0, .int .u8 0, .int .u8 0, .int .u8 0, .int .u8 0, .int .u8 0, .int .u8 0, .int .u8 0, .int .u8 0, .int .u8 0, .int .u8 0, .int .u8 0, .int .u8 0, .int .u8 0, .int .u8 0, .int .u8 0, .int .u8 0, .int .u8 0, .int .u8 0, .int .u8 0, .int .u8 0, .int .u8 0, .int .u8 0, .int .u8 0, .int .u8 0, .int .u8 0, .int .u8 0]) := fun w => by
  simp only [Value.cells] at c2
  simp only [execOp, ho, List.map_toArray, List.map, h0, h1, h2]
  simp [go_sem, c2]
theorem bu50_0_1 {x0 : Operand} {i0 : Int} {x1 : Operand} {i1_0 : Int} {i1_1 : Int} {i1_2 : Int} {i1_3 : Int} {i1_4 : Int} {i1_5 : Value} {i1_6 : Int} {i1_7 : Int} {i1_8 : Int} {i1_9 : Int} {i1_10 : Int} {i1_11 : Int} {i1_12 : Int} {i1_13 : Int} {i1_14 : Int} {i1_15 : Int} {i1_16 : Int} {i1_17 : Int} {i1_18 : Int} {i1_19 : Int} {i1_20 : Int} {i1_21 : Int} {i1_22 : Int} {i1_23 : Int} {i1_24 : Int} {i1_25 : Int} {i1_26 : Int} {i1_27 : Int} {i1_28 : Int} {i1_29 : Int} {i1_30 : Int} {i1_31 : Int} {i1_32 : Int} {i1_33 : Int} {i1_34 : Int} {i1_35 : Int} {i1_36 : Int} {i1_37 : Int} (ho : o.op = .build 50 #[(0, x0), (1, x1)]) (h0 : a.eval x0 = .int .i64 i0) (h1 : a.eval x1 = .agg #[.int .i64 i1_0, .int .i64 i1_1, .int .i64 i1_2, .int .i64 i1_3, .int .i64 i1_4, i1_5, .int .u8 i1_6, .int .u8 i1_7, .int .u8 i1_8, .int .u8 i1_9, .int .u8 i1_10, .int .u8 i1_11, .int .u8 i1_12, .int .u8 i1_13, .int .u8 i1_14, .int .u8 i1_15, .int .u8 i1_16, .int .u8 i1_17, .int .u8 i1_18, .int .u8 i1_19, .int .u8 i1_20, .int .u8 i1_21, .int .u8 i1_22, .int .u8 i1_23, .int .u8 i1_24, .int .u8 i1_25, .int .u8 i1_26, .int .u8 i1_27, .int .u8 i1_28, .int .u8 i1_29, .int .u8 i1_30, .int .u8 i1_31, .int .u8 i1_32, .int .u8 i1_33, .int .u8 i1_34, .int .u8 i1_35, .int .u8 i1_36, .int .u8 i1_37]) : Pure Try.prog o a (.agg #[.int .i64 i0, .int .i64 i1_0, .int .i64 i1_1, .int .i64 i1_2, .int .i64 i1_3, .int .i64 i1_4, i1_5, .int .u8 i1_6, .int .u8 i1_7, .int .u8 i1_8, .int .u8 i1_9, .int .u8 i1_10, .int .u8 i1_11, .int .u8 i1_12, .int .u8 i1_13, .int .u8 i1_14, .int .u8 i1_15, .int .u8 i1_16, .int .u8 i1_17, .int .u8 i1_18, .int .u8 i1_19, .int .u8 i1_20, .int .u8 i1_21, .int .u8 i1_22, .int .u8 i1_23, .int .u8 i1_24, .int .u8 i1_25, .int .u8 i1_26, .int .u8 i1_27, .int .u8 i1_28, .int .u8 i1_29, .int .u8 i1_30, .int .u8 i1_31, .int .u8 i1_32, .int .u8 i1_33, .int .u8 i1_34, .int .u8 i1_35, .int .u8 i1_36, .int .u8 i1_37]) := fun w => by
  simp only [execOp, ho, List.map_toArray, List.map, h0, h1]
  simp [go_sem]
theorem bu64_0_1_2 {x0 : Operand} {i0 : Int} {x1 : Operand} {i1 : Int} {x2 : Operand} {i2 : Int} (ho : o.op = .build 64 #[(0, x0), (1, x1), (2, x2)]) (h0 : a.eval x0 = .int .i64 i0) (h1 : a.eval x1 = .int .i64 i1) (h2 : a.eval x2 = .int .i64 i2) : Pure Try.prog o a (.agg #[.int .i64 i0, .int .i64 i1, .int .i64 i2, .int .i64 0, .map none, .map none, .map none, .map none, .map none, .map none, .map none, .int .i64 0, .int .i64 0, .int .i64 0, .int .i64 0, .int .i64 0, .int .i64 0, .int .i64 0, .bool false, .bool false, .bool false, .bool false, .bool false, .bool false, .bool false]) := fun w => by
  simp only [execOp, ho, List.map_toArray, List.map, h0, h1, h2]
  simp [go_sem]
theorem bu71_0_1_2 {x0 : Operand} {i0 : Int} {x1 : Operand} {i1 : Int} {x2 : Operand} {i2 : Int} (ho : o.op = .build 71 #[(0, x0), (1, x1), (2, x2)]) (h0 : a.eval x0 = .int .i64 i0) (h1 : a.eval x1 = .int .i64 i1) (h2 : a.eval x2 = .int .i64 i2) : Pure Try.prog o a (.agg #[.int .i64 i0, .int .i64 i1, .int .i64 i2, (.slice none 0 0), (.slice none 0 0), (.slice none 0 0), (.slice none 0 0), (.slice none 0 0), (.slice none 0 0), (.slice none 0 0), .int .i64 0, .int .i64 0, .int .i64 0, .int .i64 0, .int .i64 0, .int .i64 0, .int .i64 0, .int .i64 0, .bool false, .bool false, .bool false, .bool false, .bool false, .bool false, .bool false]) := fun w => by
  simp only [execOp, ho, List.map_toArray, List.map, h0, h1, h2]
  simp [go_sem]
theorem bu83_0_1 {x0 : Operand} {i0 : Value} {x1 : Operand} {i1 : Bool} (ho : o.op = .build 83 #[(0, x0), (1, x1)]) (h0 : a.eval x0 = i0) (c0 : i0.cells = #[i0]) (h1 : a.eval x1 = .bool i1) : Pure Try.prog o a (.agg #[i0, .bool i1]) := fun w => by
  simp only [Value.cells] at c0
  simp only [execOp, ho, List.map_toArray, List.map, h0, h1]
  simp [go_sem, c0]
theorem bu85_0_1_4_5 {x0 : Operand} {i0 : Int} {x1 : Operand} {i1 : Int} {x2 : Operand} {i2 : Value} {x3 : Operand} {i3 : Value} (ho : o.op = .build 85 #[(0, x0), (1, x1), (4, x2), (5, x3)]) (h0 : a.eval x0 = .int .i64 i0) (h1 : a.eval x1 = .int .i64 i1) (h2 : a.eval x2 = i2) (c2 : i2.cells = #[i2]) (h3 : a.eval x3 = i3) (c3 : i3.cells = #[i3]) : Pure Try.prog o a (.agg #[.int .i64 i0, .int .i64 i1, .string ⟨#[]⟩, .bool false, .bool false, i2, i3, .bool false, .string ⟨#[]⟩, .bool false]) := fun w => by
  simp only [Value.cells] at c2
  simp only [Value.cells] at c3
  simp only [execOp, ho, List.map_toArray, List.map, h0, h1, h2, h3]
  simp [go_sem, c2, c3]
theorem bu91_0_1 {x0 : Operand} {i0 : Int} {x1 : Operand} {i1 : Int} (ho : o.op = .build 91 #[(0, x0), (1, x1)]) (h0 : a.eval x0 = .int .i64 i0) (h1 : a.eval x1 = .int .i64 i1) : Pure Try.prog o a (.agg #[.int .i64 i0, .int .i64 i1, (.slice none 0 0), (.slice none 0 0), .bool false, .bool false, .bool false, .string ⟨#[]⟩]) := fun w => by
  simp only [execOp, ho, List.map_toArray, List.map, h0, h1]
  simp [go_sem]
theorem bu97_0_1 {x0 : Operand} {i0 : Int} {x1 : Operand} {i1 : Value} (ho : o.op = .build 97 #[(0, x0), (1, x1)]) (h0 : a.eval x0 = .int .i64 i0) (h1 : a.eval x1 = i1) (c1 : i1.cells = #[i1]) : Pure Try.prog o a (.agg #[.int .i64 i0, i1]) := fun w => by
  simp only [Value.cells] at c1
  simp only [execOp, ho, List.map_toArray, List.map, h0, h1]
  simp [go_sem, c1]
theorem bu100_0_1_2 {x0 : Operand} {i0 : Int} {x1 : Operand} {i1 : Int} {x2 : Operand} {i2 : Value} (ho : o.op = .build 100 #[(0, x0), (1, x1), (2, x2)]) (h0 : a.eval x0 = .int .i64 i0) (h1 : a.eval x1 = .int .i64 i1) (h2 : a.eval x2 = i2) (c2 : i2.cells = #[i2]) : Pure Try.prog o a (.agg #[.int .i64 i0, .int .i64 i1, i2]) := fun w => by
  simp only [Value.cells] at c2
  simp only [execOp, ho, List.map_toArray, List.map, h0, h1, h2]
  simp [go_sem, c2]
theorem bu106_0_1 {x0 : Operand} {i0 : Int} {x1 : Operand} {i1 : Int} (ho : o.op = .build 106 #[(0, x0), (1, x1)]) (h0 : a.eval x0 = .int .i64 i0) (h1 : a.eval x1 = .int .i64 i1) : Pure Try.prog o a (.agg #[.int .i64 i0, .int .i64 i1, (.slice none 0 0), (.slice none 0 0)]) := fun w => by
  simp only [execOp, ho, List.map_toArray, List.map, h0, h1]
  simp [go_sem]
theorem bs23_1 {x0 : Operand} {i0_0 : Int} {i0_1 : Int} {i0_2 : Int} {i0_3 : Int} {i0_4 : Int} {i0_5 : Value} {i0_6 : Int} {i0_7 : Int} {i0_8 : Int} {i0_9 : Int} {i0_10 : Int} {i0_11 : Int} {i0_12 : Int} {i0_13 : Int} {i0_14 : Int} {i0_15 : Int} {i0_16 : Int} {i0_17 : Int} {i0_18 : Int} {i0_19 : Int} {i0_20 : Int} {i0_21 : Int} {i0_22 : Int} {i0_23 : Int} {i0_24 : Int} {i0_25 : Int} {i0_26 : Int} {i0_27 : Int} {i0_28 : Int} {i0_29 : Int} {i0_30 : Int} {i0_31 : Int} {i0_32 : Int} {i0_33 : Int} {i0_34 : Int} {i0_35 : Int} {i0_36 : Int} {i0_37 : Int} (ho : o.op = .buildSlice 23 1 #[(0, x0)]) (h0 : a.eval x0 = .agg #[.int .i64 i0_0, .int .i64 i0_1, .int .i64 i0_2, .int .i64 i0_3, .int .i64 i0_4, i0_5, .int .u8 i0_6, .int .u8 i0_7, .int .u8 i0_8, .int .u8 i0_9, .int .u8 i0_10, .int .u8 i0_11, .int .u8 i0_12, .int .u8 i0_13, .int .u8 i0_14, .int .u8 i0_15, .int .u8 i0_16, .int .u8 i0_17, .int .u8 i0_18, .int .u8 i0_19, .int .u8 i0_20, .int .u8 i0_21, .int .u8 i0_22, .int .u8 i0_23, .int .u8 i0_24, .int .u8 i0_25, .int .u8 i0_26, .int .u8 i0_27, .int .u8 i0_28, .int .u8 i0_29, .int .u8 i0_30, .int .u8 i0_31, .int .u8 i0_32, .int .u8 i0_33, .int .u8 i0_34, .int .u8 i0_35, .int .u8 i0_36, .int .u8 i0_37]) (w : World) : (execOp a.eval o).run Try.prog w = .ok (.value (.slice (some ⟨w.heap.size, 0, none⟩) 1 1)) (w.alloc (.cells #[.int .i64 i0_0, .int .i64 i0_1, .int .i64 i0_2, .int .i64 i0_3, .int .i64 i0_4, i0_5, .int .u8 i0_6, .int .u8 i0_7, .int .u8 i0_8, .int .u8 i0_9, .int .u8 i0_10, .int .u8 i0_11, .int .u8 i0_12, .int .u8 i0_13, .int .u8 i0_14, .int .u8 i0_15, .int .u8 i0_16, .int .u8 i0_17, .int .u8 i0_18, .int .u8 i0_19, .int .u8 i0_20, .int .u8 i0_21, .int .u8 i0_22, .int .u8 i0_23, .int .u8 i0_24, .int .u8 i0_25, .int .u8 i0_26, .int .u8 i0_27, .int .u8 i0_28, .int .u8 i0_29, .int .u8 i0_30, .int .u8 i0_31, .int .u8 i0_32, .int .u8 i0_33, .int .u8 i0_34, .int .u8 i0_35, .int .u8 i0_36, .int .u8 i0_37] 34)) := by
  simp only [execOp, ho, List.map_toArray, List.map, h0]
  simp [go_sem]
theorem bs45_0 (ho : o.op = .buildSlice 45 0 #[]) (w : World) : (execOp a.eval o).run Try.prog w = .ok (.value (.slice (some ⟨w.heap.size, 0, none⟩) 0 0)) (w.alloc (.cells #[] 9)) := by
  simp only [execOp, ho, List.map_toArray, List.map]
  simp [go_sem]
theorem bs45_1 {x0 : Operand} {i0 : Value} (ho : o.op = .buildSlice 45 1 #[(0, x0)]) (h0 : a.eval x0 = i0) (c0 : i0.cells = #[i0]) (w : World) : (execOp a.eval o).run Try.prog w = .ok (.value (.slice (some ⟨w.heap.size, 0, none⟩) 1 1)) (w.alloc (.cells #[i0] 9)) := by
  simp only [Value.cells] at c0
  simp only [execOp, ho, List.map_toArray, List.map, h0]
  simp [go_sem, c0]
theorem bs46_1 {x0 : Operand} {i0_0 : Int} {i0_1 : Int} {i0_2 : Int} {i0_3 : Int} {i0_4 : Int} {i0_5 : Int} {i0_6 : Value} {i0_7 : Int} {i0_8 : Int} {i0_9 : Int} {i0_10 : Int} {i0_11 : Int} {i0_12 : Int} {i0_13 : Int} {i0_14 : Int} {i0_15 : Int} {i0_16 : Int} {i0_17 : Int} {i0_18 : Int} {i0_19 : Int} {i0_20 : Int} {i0_21 : Int} {i0_22 : Int} {i0_23 : Int} {i0_24 : Int} {i0_25 : Int} {i0_26 : Int} {i0_27 : Int} {i0_28 : Int} {i0_29 : Int} {i0_30 : Int} {i0_31 : Int} {i0_32 : Int} {i0_33 : Int} {i0_34 : Int} {i0_35 : Int} {i0_36 : Int} {i0_37 : Int} {i0_38 : Int} (ho : o.op = .buildSlice 46 1 #[(0, x0)]) (h0 : a.eval x0 = .agg #[.int .i64 i0_0, .int .i64 i0_1, .int .i64 i0_2, .int .i64 i0_3, .int .i64 i0_4, .int .i64 i0_5, i0_6, .int .u8 i0_7, .int .u8 i0_8, .int .u8 i0_9, .int .u8 i0_10, .int .u8 i0_11, .int .u8 i0_12, .int .u8 i0_13, .int .u8 i0_14, .int .u8 i0_15, .int .u8 i0_16, .int .u8 i0_17, .int .u8 i0_18, .int .u8 i0_19, .int .u8 i0_20, .int .u8 i0_21, .int .u8 i0_22, .int .u8 i0_23, .int .u8 i0_24, .int .u8 i0_25, .int .u8 i0_26, .int .u8 i0_27, .int .u8 i0_28, .int .u8 i0_29, .int .u8 i0_30, .int .u8 i0_31, .int .u8 i0_32, .int .u8 i0_33, .int .u8 i0_34, .int .u8 i0_35, .int .u8 i0_36, .int .u8 i0_37, .int .u8 i0_38]) (w : World) : (execOp a.eval o).run Try.prog w = .ok (.value (.slice (some ⟨w.heap.size, 0, none⟩) 1 1)) (w.alloc (.cells #[.int .i64 i0_0, .int .i64 i0_1, .int .i64 i0_2, .int .i64 i0_3, .int .i64 i0_4, .int .i64 i0_5, i0_6, .int .u8 i0_7, .int .u8 i0_8, .int .u8 i0_9, .int .u8 i0_10, .int .u8 i0_11, .int .u8 i0_12, .int .u8 i0_13, .int .u8 i0_14, .int .u8 i0_15, .int .u8 i0_16, .int .u8 i0_17, .int .u8 i0_18, .int .u8 i0_19, .int .u8 i0_20, .int .u8 i0_21, .int .u8 i0_22, .int .u8 i0_23, .int .u8 i0_24, .int .u8 i0_25, .int .u8 i0_26, .int .u8 i0_27, .int .u8 i0_28, .int .u8 i0_29, .int .u8 i0_30, .int .u8 i0_31, .int .u8 i0_32, .int .u8 i0_33, .int .u8 i0_34, .int .u8 i0_35, .int .u8 i0_36, .int .u8 i0_37, .int .u8 i0_38] 50)) := by
  simp only [execOp, ho, List.map_toArray, List.map, h0]
  simp [go_sem]
theorem bs47_1 {x0 : Operand} {i0 : Value} (ho : o.op = .buildSlice 47 1 #[(0, x0)]) (h0 : a.eval x0 = i0) (c0 : i0.cells = #[i0]) (w : World) : (execOp a.eval o).run Try.prog w = .ok (.value (.slice (some ⟨w.heap.size, 0, none⟩) 1 1)) (w.alloc (.cells #[i0] 25)) := by
  simp only [Value.cells] at c0
  simp only [execOp, ho, List.map_toArray, List.map, h0]
  simp [go_sem, c0]
theorem bs68_1 {x0 : Operand} {i0_0 : Int} {i0_1 : Value} (ho : o.op = .buildSlice 68 1 #[(0, x0)]) (h0 : a.eval x0 = .agg #[.int .i64 i0_0, i0_1]) (w : World) : (execOp a.eval o).run Try.prog w = .ok (.value (.slice (some ⟨w.heap.size, 0, none⟩) 1 1)) (w.alloc (.cells #[.int .i64 i0_0, i0_1] 97)) := by
  simp only [execOp, ho, List.map_toArray, List.map, h0]
  simp [go_sem]
theorem bs89_1 {x0 : Operand} {i0_0 : Int} {i0_1 : Int} {i0_2 : Value} (ho : o.op = .buildSlice 89 1 #[(0, x0)]) (h0 : a.eval x0 = .agg #[.int .i64 i0_0, .int .i64 i0_1, i0_2]) (w : World) : (execOp a.eval o).run Try.prog w = .ok (.value (.slice (some ⟨w.heap.size, 0, none⟩) 1 1)) (w.alloc (.cells #[.int .i64 i0_0, .int .i64 i0_1, i0_2] 100)) := by
  simp only [execOp, ho, List.map_toArray, List.map, h0]
  simp [go_sem]
theorem ix22_0 {x y : Operand} {g : Nat} (ho : o.op = .indexAddr 22 x y) (hx : a.eval x = .pointer (some ⟨g, 0, none⟩)) (hy : a.eval y = .int .i64 0) : Pure Try.prog o a (.pointer (some ⟨g, 0, none⟩)) := fun w => by
  simp only [execOp, ho, hx, hy]
  simp [go_sem]
theorem ix22_1 {x y : Operand} {g : Nat} (ho : o.op = .indexAddr 22 x y) (hx : a.eval x = .pointer (some ⟨g, 0, none⟩)) (hy : a.eval y = .int .i64 1) : Pure Try.prog o a (.pointer (some ⟨g, 1, none⟩)) := fun w => by
  simp only [execOp, ho, hx, hy]
  simp [go_sem]
theorem ix22_2 {x y : Operand} {g : Nat} (ho : o.op = .indexAddr 22 x y) (hx : a.eval x = .pointer (some ⟨g, 0, none⟩)) (hy : a.eval y = .int .i64 2) : Pure Try.prog o a (.pointer (some ⟨g, 2, none⟩)) := fun w => by
  simp only [execOp, ho, hx, hy]
  simp [go_sem]
theorem ix44_0 {x y : Operand} {g : Nat} (ho : o.op = .indexAddr 44 x y) (hx : a.eval x = .pointer (some ⟨g, 0, none⟩)) (hy : a.eval y = .int .i64 0) : Pure Try.prog o a (.pointer (some ⟨g, 0, none⟩)) := fun w => by
  simp only [execOp, ho, hx, hy]
  simp [go_sem]
theorem ix44_1 {x y : Operand} {g : Nat} (ho : o.op = .indexAddr 44 x y) (hx : a.eval x = .pointer (some ⟨g, 0, none⟩)) (hy : a.eval y = .int .i64 1) : Pure Try.prog o a (.pointer (some ⟨g, 1, none⟩)) := fun w => by
  simp only [execOp, ho, hx, hy]
  simp [go_sem]
theorem ixv43 {x y : Operand} {g : Nat} {i : Int} (ho : o.op = .indexAddr 43 x y) (hx : a.eval x = .pointer (some ⟨g, 0, none⟩)) (hy : a.eval y = .int .i64 i) (h0 : 0 ≤ i) (h1 : i < 7) : Pure Try.prog o a (.pointer (some ⟨g, 0 + i.toNat * 1, none⟩)) := fun w => by
  simp only [execOp, ho, hx, hy]
  obtain ⟨k, rfl⟩ := Int.eq_ofNat_of_zero_le h0
  first | (simp [go_sem]; done) | (simp [go_sem]; omega)
theorem ixv51 {x y : Operand} {g : Nat} {i : Int} (ho : o.op = .indexAddr 51 x y) (hx : a.eval x = .pointer (some ⟨g, 0, none⟩)) (hy : a.eval y = .int .i64 i) (h0 : 0 ≤ i) (h1 : i < 7) : Pure Try.prog o a (.pointer (some ⟨g, 0 + i.toNat * 1, none⟩)) := fun w => by
  simp only [execOp, ho, hx, hy]
  obtain ⟨k, rfl⟩ := Int.eq_ofNat_of_zero_le h0
  first | (simp [go_sem]; done) | (simp [go_sem]; omega)
theorem ixv108 {x y : Operand} {g : Nat} {i : Int} (ho : o.op = .indexAddr 108 x y) (hx : a.eval x = .pointer (some ⟨g, 0, none⟩)) (hy : a.eval y = .int .i64 i) (h0 : 0 ≤ i) (h1 : i < 7) : Pure Try.prog o a (.pointer (some ⟨g, 0 + i.toNat * 1, none⟩)) := fun w => by
  simp only [execOp, ho, hx, hy]
  obtain ⟨k, rfl⟩ := Int.eq_ofNat_of_zero_le h0
  first | (simp [go_sem]; done) | (simp [go_sem]; omega)
theorem ixo43 {x y : Operand} {g og : Nat} {i : Int} (ho : o.op = .indexAddr 43 x y) (hx : a.eval x = .pointer (some ⟨g, og, none⟩)) (hy : a.eval y = .int .i64 i) (h0 : 0 ≤ i) (h1 : i < 7) : Pure Try.prog o a (.pointer (some ⟨g, og + i.toNat * 1, none⟩)) := fun w => by
  simp only [execOp, ho, hx, hy]
  obtain ⟨k, rfl⟩ := Int.eq_ofNat_of_zero_le h0
  first | (simp [go_sem]; done) | (simp [go_sem]; omega)
theorem ixo61 {x y : Operand} {g og : Nat} {i : Int} (ho : o.op = .indexAddr 61 x y) (hx : a.eval x = .pointer (some ⟨g, og, none⟩)) (hy : a.eval y = .int .i64 i) (h0 : 0 ≤ i) (h1 : i < 7) : Pure Try.prog o a (.pointer (some ⟨g, og + i.toNat * 1, none⟩)) := fun w => by
  simp only [execOp, ho, hx, hy]
  obtain ⟨k, rfl⟩ := Int.eq_ofNat_of_zero_le h0
  first | (simp [go_sem]; done) | (simp [go_sem]; omega)
theorem ixo62 {x y : Operand} {g og : Nat} {i : Int} (ho : o.op = .indexAddr 62 x y) (hx : a.eval x = .pointer (some ⟨g, og, none⟩)) (hy : a.eval y = .int .i64 i) (h0 : 0 ≤ i) (h1 : i < 7) : Pure Try.prog o a (.pointer (some ⟨g, og + i.toNat * 1, none⟩)) := fun w => by
  simp only [execOp, ho, hx, hy]
  obtain ⟨k, rfl⟩ := Int.eq_ofNat_of_zero_le h0
  first | (simp [go_sem]; done) | (simp [go_sem]; omega)
theorem ixo69 {x y : Operand} {g og : Nat} {i : Int} (ho : o.op = .indexAddr 69 x y) (hx : a.eval x = .pointer (some ⟨g, og, none⟩)) (hy : a.eval y = .int .i64 i) (h0 : 0 ≤ i) (h1 : i < 7) : Pure Try.prog o a (.pointer (some ⟨g, og + i.toNat * 1, none⟩)) := fun w => by
  simp only [execOp, ho, hx, hy]
  obtain ⟨k, rfl⟩ := Int.eq_ofNat_of_zero_le h0
  first | (simp [go_sem]; done) | (simp [go_sem]; omega)
end
section
variable {o : Oper} {a : Act} {x y : Operand} {i j : Int}
end
end Go.Proofs.Ytcobpabmmbcjcaa
