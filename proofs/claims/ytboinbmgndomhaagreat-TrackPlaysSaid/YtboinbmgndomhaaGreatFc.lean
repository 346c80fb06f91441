/- Closed facts of this seat's program: types, functions. Made by gen.py. -/
import Derived.Test.YtboinbmgndomhaaGreatFx
namespace Go.Proofs.YtboinbmgndomhaaGreat
open Go.RowKit
set_option maxRecDepth 100000
set_option linter.unusedSimpArgs false
set_option linter.unusedVariables false
theorem mixedOK : Tryz.prog.follows .mixedOrders = true := by kernel_rfl
theorem agg24 : AggTy Tryz.prog 24 2 := ⟨_, Tryz.underlying24, rfl, by kernel_rfl⟩
theorem agg36 : AggTy Tryz.prog 36 2 := ⟨_, Tryz.underlying36, rfl, by kernel_rfl⟩
theorem agg38 : AggTy Tryz.prog 38 3 := ⟨_, Tryz.underlying38, rfl, by kernel_rfl⟩
theorem agg55 : AggTy Tryz.prog 55 3 := ⟨_, Tryz.underlying55, rfl, by kernel_rfl⟩
theorem agg64 : AggTy Tryz.prog 64 8 := ⟨_, Tryz.underlying64, rfl, by kernel_rfl⟩
theorem agg85 : AggTy Tryz.prog 85 2 := ⟨_, Tryz.underlying85, rfl, by kernel_rfl⟩
theorem agg88 : AggTy Tryz.prog 88 4 := ⟨_, Tryz.underlying88, rfl, by kernel_rfl⟩
theorem agg116 : AggTy Tryz.prog 116 8 := ⟨_, Tryz.underlying116, rfl, by kernel_rfl⟩
theorem agg139 : AggTy Tryz.prog 139 2 := ⟨_, Tryz.underlying139, rfl, by kernel_rfl⟩
theorem one3 : OneTy Tryz.prog 3 := ⟨_, Tryz.underlying3, rfl⟩
theorem one4 : OneTy Tryz.prog 4 := ⟨_, Tryz.underlying4, rfl⟩
theorem one22 : OneTy Tryz.prog 22 := ⟨_, Tryz.underlying22, rfl⟩
theorem one43 : OneTy Tryz.prog 43 := ⟨_, Tryz.underlying43, rfl⟩
theorem one47 : OneTy Tryz.prog 47 := ⟨_, Tryz.underlying47, rfl⟩
theorem one50 : OneTy Tryz.prog 50 := ⟨_, Tryz.underlying50, rfl⟩
theorem one62 : OneTy Tryz.prog 62 := ⟨_, Tryz.underlying62, rfl⟩
theorem one66 : OneTy Tryz.prog 66 := ⟨_, Tryz.underlying66, rfl⟩
theorem one70 : OneTy Tryz.prog 70 := ⟨_, Tryz.underlying70, rfl⟩
theorem one73 : OneTy Tryz.prog 73 := ⟨_, Tryz.underlying73, rfl⟩
theorem one84 : OneTy Tryz.prog 84 := ⟨_, Tryz.underlying84, rfl⟩
theorem one86 : OneTy Tryz.prog 86 := ⟨_, Tryz.underlying86, rfl⟩
theorem one101 : OneTy Tryz.prog 101 := ⟨_, Tryz.underlying101, rfl⟩
theorem one120 : OneTy Tryz.prog 120 := ⟨_, Tryz.underlying120, rfl⟩
theorem one132 : OneTy Tryz.prog 132 := ⟨_, Tryz.underlying132, rfl⟩
theorem si3 : (Tryz.prog.info? 3).map (·.size) = some 1 := by kernel_rfl
theorem si4 : (Tryz.prog.info? 4).map (·.size) = some 1 := by kernel_rfl
theorem si43 : (Tryz.prog.info? 43).map (·.size) = some 1 := by kernel_rfl
theorem si47 : (Tryz.prog.info? 47).map (·.size) = some 1 := by kernel_rfl
theorem si62 : (Tryz.prog.info? 62).map (·.size) = some 1 := by kernel_rfl
theorem si66 : (Tryz.prog.info? 66).map (·.size) = some 1 := by kernel_rfl
theorem si70 : (Tryz.prog.info? 70).map (·.size) = some 1 := by kernel_rfl
theorem si84 : (Tryz.prog.info? 84).map (·.size) = some 1 := by kernel_rfl
theorem si86 : (Tryz.prog.info? 86).map (·.size) = some 1 := by kernel_rfl
theorem fo24_0 : fieldOff Tryz.prog 24 0 = some 0 := by kernel_rfl
theorem fo24_1 : fieldOff Tryz.prog 24 1 = some 1 := by kernel_rfl
theorem fo36_0 : fieldOff Tryz.prog 36 0 = some 0 := by kernel_rfl
theorem fo36_1 : fieldOff Tryz.prog 36 1 = some 1 := by kernel_rfl
theorem fo38_0 : fieldOff Tryz.prog 38 0 = some 0 := by kernel_rfl
theorem fo38_1 : fieldOff Tryz.prog 38 1 = some 1 := by kernel_rfl
theorem fo40_0 : fieldOff Tryz.prog 40 0 = some 0 := by kernel_rfl
theorem fo40_1 : fieldOff Tryz.prog 40 1 = some 3 := by kernel_rfl
theorem fo55_0 : fieldOff Tryz.prog 55 0 = some 0 := by kernel_rfl
theorem fo55_1 : fieldOff Tryz.prog 55 1 = some 2 := by kernel_rfl
theorem fo68_0 : fieldOff Tryz.prog 68 0 = some 0 := by kernel_rfl
theorem fo68_1 : fieldOff Tryz.prog 68 1 = some 1 := by kernel_rfl
theorem fo68_2 : fieldOff Tryz.prog 68 2 = some 9 := by kernel_rfl
theorem fo68_3 : fieldOff Tryz.prog 68 3 = some 17 := by kernel_rfl
theorem fo72_0 : fieldOff Tryz.prog 72 0 = some 0 := by kernel_rfl
theorem fo72_1 : fieldOff Tryz.prog 72 1 = some 1 := by kernel_rfl
theorem fo75_0 : fieldOff Tryz.prog 75 0 = some 0 := by kernel_rfl
theorem fo85_0 : fieldOff Tryz.prog 85 0 = some 0 := by kernel_rfl
theorem fo85_1 : fieldOff Tryz.prog 85 1 = some 1 := by kernel_rfl
theorem fo88_0 : fieldOff Tryz.prog 88 0 = some 0 := by kernel_rfl
theorem fo88_1 : fieldOff Tryz.prog 88 1 = some 1 := by kernel_rfl
theorem fo88_2 : fieldOff Tryz.prog 88 2 = some 2 := by kernel_rfl
theorem fo103_0 : fieldOff Tryz.prog 103 0 = some 0 := by kernel_rfl
theorem fo139_0 : fieldOff Tryz.prog 139 0 = some 0 := by kernel_rfl
theorem fo139_1 : fieldOff Tryz.prog 139 1 = some 1 := by kernel_rfl
theorem z3 : (Tryz.prog.info? 3).map (fun i => i.zero.map (·.cells)) = some (some #[.int .i64 0]) := by kernel_rfl
theorem z24 : (Tryz.prog.info? 24).map (fun i => i.zero.map (·.cells)) = some (some #[.int .i64 0, (.slice none 0 0)]) := by kernel_rfl
theorem z36 : (Tryz.prog.info? 36).map (fun i => i.zero.map (·.cells)) = some (some #[.int .i64 0, .int .i64 0]) := by kernel_rfl
theorem z43 : (Tryz.prog.info? 43).map (fun i => i.zero.map (·.cells)) = some (some #[(.slice none 0 0)]) := by kernel_rfl
theorem z55 : (Tryz.prog.info? 55).map (fun i => i.zero.map (·.cells)) = some (some #[.int .i64 0, .int .i64 0, .int .i64 0]) := by kernel_rfl
theorem z64 : (Tryz.prog.info? 64).map (fun i => i.zero.map (·.cells)) = some (some #[.pointer none, .pointer none, .pointer none, .pointer none, .pointer none, .pointer none, .pointer none, .pointer none]) := by kernel_rfl
theorem z85 : (Tryz.prog.info? 85).map (fun i => i.zero.map (·.cells)) = some (some #[.int .i64 0, .int .i64 0]) := by kernel_rfl
theorem z88 : (Tryz.prog.info? 88).map (fun i => i.zero.map (·.cells)) = some (some #[.int .i64 0, .int .i64 0, .int .i64 0, .int .i64 0]) := by kernel_rfl
theorem z116 : (Tryz.prog.info? 116).map (fun i => i.zero.map (·.cells)) = some (some #[.int .i64 0, .int .i64 0, .int .i64 0, .int .i64 0, .int .i64 0, .int .i64 0, .int .i64 0, .int .i64 0]) := by kernel_rfl
theorem mk4 : (Tryz.prog.info? 4).map (fun i => (i.zero, i.size, i.bytes)) = some (some (.bool false), 1, 1) := by kernel_rfl
theorem mk84 : (Tryz.prog.info? 84).map (fun i => (i.zero, i.size, i.bytes)) = some (some ((.slice none 0 0)), 1, 24) := by kernel_rfl
theorem mk86 : (Tryz.prog.info? 86).map (fun i => (i.zero, i.size, i.bytes)) = some (some ((.slice none 0 0)), 1, 24) := by kernel_rfl
theorem eqg36 : Tryz.prog.eqGuardType Tryz.prog.depth 36 = false := by kernel_rfl
theorem eqg55 : Tryz.prog.eqGuardType Tryz.prog.depth 55 = false := by kernel_rfl
theorem eqg85 : Tryz.prog.eqGuardType Tryz.prog.depth 85 = false := by kernel_rfl
theorem en7 : enters Tryz.prog 7 = true := by kernel_rfl
theorem en8 : enters Tryz.prog 8 = true := by kernel_rfl
theorem en9 : enters Tryz.prog 9 = true := by kernel_rfl
theorem en10 : enters Tryz.prog 10 = true := by kernel_rfl
theorem en11 : enters Tryz.prog 11 = true := by kernel_rfl
theorem en12 : enters Tryz.prog 12 = true := by kernel_rfl
theorem en13 : enters Tryz.prog 13 = true := by kernel_rfl
theorem en14 : enters Tryz.prog 14 = true := by kernel_rfl
theorem en15 : enters Tryz.prog 15 = true := by kernel_rfl
theorem en16 : enters Tryz.prog 16 = true := by kernel_rfl
theorem en17 : enters Tryz.prog 17 = true := by kernel_rfl
theorem en18 : enters Tryz.prog 18 = true := by kernel_rfl
theorem en19 : enters Tryz.prog 19 = true := by kernel_rfl
theorem en20 : enters Tryz.prog 20 = true := by kernel_rfl
theorem en22 : enters Tryz.prog 22 = true := by kernel_rfl
theorem en23 : enters Tryz.prog 23 = true := by kernel_rfl
theorem en24 : enters Tryz.prog 24 = true := by kernel_rfl
theorem en25 : enters Tryz.prog 25 = true := by kernel_rfl
theorem en26 : enters Tryz.prog 26 = true := by kernel_rfl
theorem en27 : enters Tryz.prog 27 = true := by kernel_rfl
theorem en28 : enters Tryz.prog 28 = true := by kernel_rfl
theorem en29 : enters Tryz.prog 29 = true := by kernel_rfl
theorem en30 : enters Tryz.prog 30 = true := by kernel_rfl
theorem en31 : enters Tryz.prog 31 = true := by kernel_rfl
theorem en32 : enters Tryz.prog 32 = true := by kernel_rfl
theorem en33 : enters Tryz.prog 33 = true := by kernel_rfl
theorem en34 : enters Tryz.prog 34 = true := by kernel_rfl
theorem en35 : enters Tryz.prog 35 = true := by kernel_rfl
theorem en36 : enters Tryz.prog 36 = true := by kernel_rfl
theorem en37 : enters Tryz.prog 37 = true := by kernel_rfl
theorem en38 : enters Tryz.prog 38 = true := by kernel_rfl
theorem en39 : enters Tryz.prog 39 = true := by kernel_rfl
theorem en40 : enters Tryz.prog 40 = true := by kernel_rfl
theorem en41 : enters Tryz.prog 41 = true := by kernel_rfl
theorem en42 : enters Tryz.prog 42 = true := by kernel_rfl
theorem en43 : enters Tryz.prog 43 = true := by kernel_rfl
theorem en44 : enters Tryz.prog 44 = true := by kernel_rfl
theorem en45 : enters Tryz.prog 45 = true := by kernel_rfl
theorem en46 : enters Tryz.prog 46 = true := by kernel_rfl
theorem en47 : enters Tryz.prog 47 = true := by kernel_rfl
theorem en48 : enters Tryz.prog 48 = true := by kernel_rfl
theorem en49 : enters Tryz.prog 49 = true := by kernel_rfl
theorem en50 : enters Tryz.prog 50 = true := by kernel_rfl
theorem en51 : enters Tryz.prog 51 = true := by kernel_rfl
theorem en52 : enters Tryz.prog 52 = true := by kernel_rfl
theorem en53 : enters Tryz.prog 53 = true := by kernel_rfl
theorem en54 : enters Tryz.prog 54 = true := by kernel_rfl
theorem en55 : enters Tryz.prog 55 = true := by kernel_rfl
theorem en56 : enters Tryz.prog 56 = true := by kernel_rfl
theorem en57 : enters Tryz.prog 57 = true := by kernel_rfl
theorem en58 : enters Tryz.prog 58 = true := by kernel_rfl
theorem en59 : enters Tryz.prog 59 = true := by kernel_rfl
theorem en60 : enters Tryz.prog 60 = true := by kernel_rfl
theorem en61 : enters Tryz.prog 61 = true := by kernel_rfl
theorem en62 : enters Tryz.prog 62 = true := by kernel_rfl
theorem en63 : enters Tryz.prog 63 = true := by kernel_rfl
theorem en64 : enters Tryz.prog 64 = true := by kernel_rfl
theorem en65 : enters Tryz.prog 65 = true := by kernel_rfl
theorem en66 : enters Tryz.prog 66 = true := by kernel_rfl
theorem en67 : enters Tryz.prog 67 = true := by kernel_rfl
theorem en68 : enters Tryz.prog 68 = true := by kernel_rfl
theorem en69 : enters Tryz.prog 69 = true := by kernel_rfl
theorem en71 : enters Tryz.prog 71 = true := by kernel_rfl
theorem en72 : enters Tryz.prog 72 = true := by kernel_rfl
theorem en73 : enters Tryz.prog 73 = true := by kernel_rfl
theorem en74 : enters Tryz.prog 74 = true := by kernel_rfl
theorem en75 : enters Tryz.prog 75 = true := by kernel_rfl
theorem en76 : enters Tryz.prog 76 = true := by kernel_rfl
theorem en77 : enters Tryz.prog 77 = true := by kernel_rfl
theorem en78 : enters Tryz.prog 78 = true := by kernel_rfl
theorem en79 : enters Tryz.prog 79 = true := by kernel_rfl
theorem en80 : enters Tryz.prog 80 = true := by kernel_rfl
theorem en81 : enters Tryz.prog 81 = true := by kernel_rfl
theorem en82 : enters Tryz.prog 82 = true := by kernel_rfl
theorem en83 : enters Tryz.prog 83 = true := by kernel_rfl
theorem en84 : enters Tryz.prog 84 = true := by kernel_rfl
theorem en85 : enters Tryz.prog 85 = true := by kernel_rfl
theorem en90 : enters Tryz.prog 90 = true := by kernel_rfl
theorem en91 : enters Tryz.prog 91 = true := by kernel_rfl
theorem en92 : enters Tryz.prog 92 = true := by kernel_rfl
theorem en93 : enters Tryz.prog 93 = true := by kernel_rfl
theorem en105 : enters Tryz.prog 105 = true := by kernel_rfl
theorem en106 : enters Tryz.prog 106 = true := by kernel_rfl
theorem en107 : enters Tryz.prog 107 = true := by kernel_rfl
theorem en108 : enters Tryz.prog 108 = true := by kernel_rfl
theorem en109 : enters Tryz.prog 109 = true := by kernel_rfl
theorem en110 : enters Tryz.prog 110 = true := by kernel_rfl
theorem en111 : enters Tryz.prog 111 = true := by kernel_rfl
theorem en112 : enters Tryz.prog 112 = true := by kernel_rfl
theorem en113 : enters Tryz.prog 113 = true := by kernel_rfl
theorem en116 : enters Tryz.prog 116 = true := by kernel_rfl
theorem en117 : enters Tryz.prog 117 = true := by kernel_rfl
theorem en118 : enters Tryz.prog 118 = true := by kernel_rfl
theorem sl22 : SlTy Tryz.prog 22 88 4 := ⟨Tryz.underlying22, by kernel_rfl⟩
theorem sl25 : SlTy Tryz.prog 25 40 4 := ⟨Tryz.underlying25, by kernel_rfl⟩
theorem sl43 : SlTy Tryz.prog 43 36 2 := ⟨Tryz.underlying43, by kernel_rfl⟩
theorem el36 : ElTy Tryz.prog 36 2 16 := ⟨by omega, .agg #[.int .i64 0, .int .i64 0], rfl, by kernel_rfl⟩
theorem sl47 : SlTy Tryz.prog 47 55 3 := ⟨Tryz.underlying47, by kernel_rfl⟩
theorem el55 : ElTy Tryz.prog 55 3 24 := ⟨by omega, .agg #[.int .i64 0, .int .i64 0, .int .i64 0], rfl, by kernel_rfl⟩
theorem sl50 : SlTy Tryz.prog 50 84 1 := ⟨Tryz.underlying50, by kernel_rfl⟩
theorem el84 : ElTy Tryz.prog 84 1 24 := ⟨by omega, (.slice none 0 0), rfl, by kernel_rfl⟩
theorem sl70 : SlTy Tryz.prog 70 73 1 := ⟨Tryz.underlying70, by kernel_rfl⟩
theorem el73 : ElTy Tryz.prog 73 1 8 := ⟨by omega, .pointer none, rfl, by kernel_rfl⟩
theorem sl84 : SlTy Tryz.prog 84 86 1 := ⟨Tryz.underlying84, by kernel_rfl⟩
theorem sl86 : SlTy Tryz.prog 86 85 2 := ⟨Tryz.underlying86, by kernel_rfl⟩
theorem el85 : ElTy Tryz.prog 85 2 16 := ⟨by omega, .agg #[.int .i64 0, .int .i64 0], rfl, by kernel_rfl⟩
theorem sl106 : SlTy Tryz.prog 106 3 1 := ⟨Tryz.underlying106, by kernel_rfl⟩
theorem el3 : ElTy Tryz.prog 3 1 8 := ⟨by omega, .int .i64 0, rfl, by kernel_rfl⟩
theorem sl121 : SlTy Tryz.prog 121 4 1 := ⟨Tryz.underlying121, by kernel_rfl⟩
theorem sl124 : SlTy Tryz.prog 124 85 2 := ⟨Tryz.underlying124, by kernel_rfl⟩
theorem sl142 : SlTy Tryz.prog 142 36 2 := ⟨Tryz.underlying142, by kernel_rfl⟩
section
variable {o : Oper} {a : Act}
theorem bu24_0_1 {x0 : Operand} {i0 : Int} {x1 : Operand} {i1 : Value} (ho : o.op = .build 24 #[(0, x0), (1, x1)]) (h0 : a.eval x0 = .int .i64 i0) (h1 : a.eval x1 = i1) (c1 : i1.cells = #[i1]) : Pure Tryz.prog o a (.agg #[.int .i64 i0, i1]) := fun w => by
  simp only [Value.cells] at c1
  simp only [execOp, ho, List.map_toArray, List.map, h0, h1]
  simp [go_sem, c1]
theorem bu36_ (ho : o.op = .build 36 #[]) : Pure Tryz.prog o a (.agg #[.int .i64 0, .int .i64 0]) := fun w => by
  simp only [execOp, ho, List.map_toArray, List.map]
  simp [go_sem]
theorem bu36_0 {x0 : Operand} {i0 : Int} (ho : o.op = .build 36 #[(0, x0)]) (h0 : a.eval x0 = .int .i64 i0) : Pure Tryz.prog o a (.agg #[.int .i64 i0, .int .i64 0]) := fun w => by
  simp only [execOp, ho, List.map_toArray, List.map, h0]
  simp [go_sem]
theorem bu36_0_1 {x0 : Operand} {i0 : Int} {x1 : Operand} {i1 : Int} (ho : o.op = .build 36 #[(0, x0), (1, x1)]) (h0 : a.eval x0 = .int .i64 i0) (h1 : a.eval x1 = .int .i64 i1) : Pure Tryz.prog o a (.agg #[.int .i64 i0, .int .i64 i1]) := fun w => by
  simp only [execOp, ho, List.map_toArray, List.map, h0, h1]
  simp [go_sem]
theorem bu38_0 {x0 : Operand} {i0 : Int} (ho : o.op = .build 38 #[(0, x0)]) (h0 : a.eval x0 = .int .i64 i0) : Pure Tryz.prog o a (.agg #[.int .i64 i0, .int .i64 0, .int .i64 0]) := fun w => by
  simp only [execOp, ho, List.map_toArray, List.map, h0]
  simp [go_sem]
theorem bu38_0_1 {x0 : Operand} {i0 : Int} {x1 : Operand} {i1_0 : Int} {i1_1 : Int} (ho : o.op = .build 38 #[(0, x0), (1, x1)]) (h0 : a.eval x0 = .int .i64 i0) (h1 : a.eval x1 = .agg #[.int .i64 i1_0, .int .i64 i1_1]) : Pure Tryz.prog o a (.agg #[.int .i64 i0, .int .i64 i1_0, .int .i64 i1_1]) := fun w => by
  simp only [execOp, ho, List.map_toArray, List.map, h0, h1]
  simp [go_sem]
theorem bu38_1 {x0 : Operand} {i0_0 : Int} {i0_1 : Int} (ho : o.op = .build 38 #[(1, x0)]) (h0 : a.eval x0 = .agg #[.int .i64 i0_0, .int .i64 i0_1]) : Pure Tryz.prog o a (.agg #[.int .i64 0, .int .i64 i0_0, .int .i64 i0_1]) := fun w => by
  simp only [execOp, ho, List.map_toArray, List.map, h0]
  simp [go_sem]
theorem bu55_0_1 {x0 : Operand} {i0_0 : Int} {i0_1 : Int} {x1 : Operand} {i1 : Int} (ho : o.op = .build 55 #[(0, x0), (1, x1)]) (h0 : a.eval x0 = .agg #[.int .i64 i0_0, .int .i64 i0_1]) (h1 : a.eval x1 = .int .i64 i1) : Pure Tryz.prog o a (.agg #[.int .i64 i0_0, .int .i64 i0_1, .int .i64 i1]) := fun w => by
  simp only [execOp, ho, List.map_toArray, List.map, h0, h1]
  simp [go_sem]
theorem bu68_0_1_2 {x0 : Operand} {i0 : Value} {x1 : Operand} {i1_0 : Value} {i1_1 : Value} {i1_2 : Value} {i1_3 : Value} {i1_4 : Value} {i1_5 : Value} {i1_6 : Value} {i1_7 : Value} {x2 : Operand} {i2_0 : Value} {i2_1 : Value} {i2_2 : Value} {i2_3 : Value} {i2_4 : Value} {i2_5 : Value} {i2_6 : Value} {i2_7 : Value} (ho : o.op = .build 68 #[(0, x0), (1, x1), (2, x2)]) (h0 : a.eval x0 = i0) (c0 : i0.cells = #[i0]) (h1 : a.eval x1 = .agg #[i1_0, i1_1, i1_2, i1_3, i1_4, i1_5, i1_6, i1_7]) (h2 : a.eval x2 = .agg #[i2_0, i2_1, i2_2, i2_3, i2_4, i2_5, i2_6, i2_7]) : Pure Tryz.prog o a (.agg #[i0, i1_0, i1_1, i1_2, i1_3, i1_4, i1_5, i1_6, i1_7, i2_0, i2_1, i2_2, i2_3, i2_4, i2_5, i2_6, i2_7, .nilFunc]) := fun w => by
  simp only [Value.cells] at c0
  simp only [execOp, ho, List.map_toArray, List.map, h0, h1, h2]
  simp [go_sem, c0]
theorem bu72_0 {x0 : Operand} {i0 : Value} (ho : o.op = .build 72 #[(0, x0)]) (h0 : a.eval x0 = i0) (c0 : i0.cells = #[i0]) : Pure Tryz.prog o a (.agg #[i0, (.slice none 0 0)]) := fun w => by
  simp only [Value.cells] at c0
  simp only [execOp, ho, List.map_toArray, List.map, h0]
  simp [go_sem, c0]
theorem bu75_ (ho : o.op = .build 75 #[]) : Pure Tryz.prog o a (.agg #[(.slice none 0 0)]) := fun w => by
  simp only [execOp, ho, List.map_toArray, List.map]
  simp [go_sem]
theorem bu85_ (ho : o.op = .build 85 #[]) : Pure Tryz.prog o a (.agg #[.int .i64 0, .int .i64 0]) := fun w => by
  simp only [execOp, ho, List.map_toArray, List.map]
  simp [go_sem]
theorem bu85_0_1 {x0 : Operand} {i0 : Int} {x1 : Operand} {i1 : Int} (ho : o.op = .build 85 #[(0, x0), (1, x1)]) (h0 : a.eval x0 = .int .i64 i0) (h1 : a.eval x1 = .int .i64 i1) : Pure Tryz.prog o a (.agg #[.int .i64 i0, .int .i64 i1]) := fun w => by
  simp only [execOp, ho, List.map_toArray, List.map, h0, h1]
  simp [go_sem]
theorem bu85_1 {x0 : Operand} {i0 : Int} (ho : o.op = .build 85 #[(1, x0)]) (h0 : a.eval x0 = .int .i64 i0) : Pure Tryz.prog o a (.agg #[.int .i64 0, .int .i64 i0]) := fun w => by
  simp only [execOp, ho, List.map_toArray, List.map, h0]
  simp [go_sem]
theorem bu88_0_1_2 {x0 : Operand} {i0 : Int} {x1 : Operand} {i1 : Int} {x2 : Operand} {i2_0 : Int} {i2_1 : Int} (ho : o.op = .build 88 #[(0, x0), (1, x1), (2, x2)]) (h0 : a.eval x0 = .int .i64 i0) (h1 : a.eval x1 = .int .i64 i1) (h2 : a.eval x2 = .agg #[.int .i64 i2_0, .int .i64 i2_1]) : Pure Tryz.prog o a (.agg #[.int .i64 i0, .int .i64 i1, .int .i64 i2_0, .int .i64 i2_1]) := fun w => by
  simp only [execOp, ho, List.map_toArray, List.map, h0, h1, h2]
  simp [go_sem]
theorem bu103_0 {x0 : Operand} {i0 : Value} (ho : o.op = .build 103 #[(0, x0)]) (h0 : a.eval x0 = i0) (c0 : i0.cells = #[i0]) : Pure Tryz.prog o a (.agg #[i0]) := fun w => by
  simp only [Value.cells] at c0
  simp only [execOp, ho, List.map_toArray, List.map, h0]
  simp [go_sem, c0]
theorem bs22_1 {x0 : Operand} {i0_0 : Int} {i0_1 : Int} {i0_2 : Int} {i0_3 : Int} (ho : o.op = .buildSlice 22 1 #[(0, x0)]) (h0 : a.eval x0 = .agg #[.int .i64 i0_0, .int .i64 i0_1, .int .i64 i0_2, .int .i64 i0_3]) (w : World) : (execOp a.eval o).run Tryz.prog w = .ok (.value (.slice (some ⟨w.heap.size, 0, none⟩) 1 1)) (w.alloc (.cells #[.int .i64 i0_0, .int .i64 i0_1, .int .i64 i0_2, .int .i64 i0_3] 88)) := by
  simp only [execOp, ho, List.map_toArray, List.map, h0]
  simp [go_sem]
theorem bs43_0 (ho : o.op = .buildSlice 43 0 #[]) (w : World) : (execOp a.eval o).run Tryz.prog w = .ok (.value (.slice (some ⟨w.heap.size, 0, none⟩) 0 0)) (w.alloc (.cells #[] 36)) := by
  simp only [execOp, ho, List.map_toArray, List.map]
  simp [go_sem]
theorem bs43_1 {x0 : Operand} {i0_0 : Int} {i0_1 : Int} (ho : o.op = .buildSlice 43 1 #[(0, x0)]) (h0 : a.eval x0 = .agg #[.int .i64 i0_0, .int .i64 i0_1]) (w : World) : (execOp a.eval o).run Tryz.prog w = .ok (.value (.slice (some ⟨w.heap.size, 0, none⟩) 1 1)) (w.alloc (.cells #[.int .i64 i0_0, .int .i64 i0_1] 36)) := by
  simp only [execOp, ho, List.map_toArray, List.map, h0]
  simp [go_sem]
theorem bs47_1 {x0 : Operand} {i0_0 : Int} {i0_1 : Int} {i0_2 : Int} (ho : o.op = .buildSlice 47 1 #[(0, x0)]) (h0 : a.eval x0 = .agg #[.int .i64 i0_0, .int .i64 i0_1, .int .i64 i0_2]) (w : World) : (execOp a.eval o).run Tryz.prog w = .ok (.value (.slice (some ⟨w.heap.size, 0, none⟩) 1 1)) (w.alloc (.cells #[.int .i64 i0_0, .int .i64 i0_1, .int .i64 i0_2] 55)) := by
  simp only [execOp, ho, List.map_toArray, List.map, h0]
  simp [go_sem]
theorem bs50_1 {x0 : Operand} {i0 : Value} (ho : o.op = .buildSlice 50 1 #[(0, x0)]) (h0 : a.eval x0 = i0) (c0 : i0.cells = #[i0]) (w : World) : (execOp a.eval o).run Tryz.prog w = .ok (.value (.slice (some ⟨w.heap.size, 0, none⟩) 1 1)) (w.alloc (.cells #[i0] 84)) := by
  simp only [Value.cells] at c0
  simp only [execOp, ho, List.map_toArray, List.map, h0]
  simp [go_sem, c0]
theorem bs70_1 {x0 : Operand} {i0 : Value} (ho : o.op = .buildSlice 70 1 #[(0, x0)]) (h0 : a.eval x0 = i0) (c0 : i0.cells = #[i0]) (w : World) : (execOp a.eval o).run Tryz.prog w = .ok (.value (.slice (some ⟨w.heap.size, 0, none⟩) 1 1)) (w.alloc (.cells #[i0] 73)) := by
  simp only [Value.cells] at c0
  simp only [execOp, ho, List.map_toArray, List.map, h0]
  simp [go_sem, c0]
theorem bs86_0 (ho : o.op = .buildSlice 86 0 #[]) (w : World) : (execOp a.eval o).run Tryz.prog w = .ok (.value (.slice (some ⟨w.heap.size, 0, none⟩) 0 0)) (w.alloc (.cells #[] 85)) := by
  simp only [execOp, ho, List.map_toArray, List.map]
  simp [go_sem]
theorem bs86_1 {x0 : Operand} {i0_0 : Int} {i0_1 : Int} (ho : o.op = .buildSlice 86 1 #[(0, x0)]) (h0 : a.eval x0 = .agg #[.int .i64 i0_0, .int .i64 i0_1]) (w : World) : (execOp a.eval o).run Tryz.prog w = .ok (.value (.slice (some ⟨w.heap.size, 0, none⟩) 1 1)) (w.alloc (.cells #[.int .i64 i0_0, .int .i64 i0_1] 85)) := by
  simp only [execOp, ho, List.map_toArray, List.map, h0]
  simp [go_sem]
theorem bs106_1 {x0 : Operand} {i0 : Int} (ho : o.op = .buildSlice 106 1 #[(0, x0)]) (h0 : a.eval x0 = .int .i64 i0) (w : World) : (execOp a.eval o).run Tryz.prog w = .ok (.value (.slice (some ⟨w.heap.size, 0, none⟩) 1 1)) (w.alloc (.cells #[.int .i64 i0] 3)) := by
  simp only [execOp, ho, List.map_toArray, List.map, h0]
  simp [go_sem]
theorem ixv64 {x y : Operand} {g : Nat} {i : Int} (ho : o.op = .indexAddr 64 x y) (hx : a.eval x = .pointer (some ⟨g, 0, none⟩)) (hy : a.eval y = .int .i64 i) (h0 : 0 ≤ i) (h1 : i < 8) : Pure Tryz.prog o a (.pointer (some ⟨g, 0 + i.toNat * 1, none⟩)) := fun w => by
  simp only [execOp, ho, hx, hy]
  obtain ⟨k, rfl⟩ := Int.eq_ofNat_of_zero_le h0
  simp [go_sem]
  omega
theorem ixv116 {x y : Operand} {g : Nat} {i : Int} (ho : o.op = .indexAddr 116 x y) (hx : a.eval x = .pointer (some ⟨g, 0, none⟩)) (hy : a.eval y = .int .i64 i) (h0 : 0 ≤ i) (h1 : i < 8) : Pure Tryz.prog o a (.pointer (some ⟨g, 0 + i.toNat * 1, none⟩)) := fun w => by
  simp only [execOp, ho, hx, hy]
  obtain ⟨k, rfl⟩ := Int.eq_ofNat_of_zero_le h0
  simp [go_sem]
  omega
theorem ixo64 {x y : Operand} {g og : Nat} {i : Int} (ho : o.op = .indexAddr 64 x y) (hx : a.eval x = .pointer (some ⟨g, og, none⟩)) (hy : a.eval y = .int .i64 i) (h0 : 0 ≤ i) (h1 : i < 8) : Pure Tryz.prog o a (.pointer (some ⟨g, og + i.toNat * 1, none⟩)) := fun w => by
  simp only [execOp, ho, hx, hy]
  obtain ⟨k, rfl⟩ := Int.eq_ofNat_of_zero_le h0
  simp [go_sem]
  omega
end
section
variable {o : Oper} {a : Act} {x y : Operand} {i j : Int}
theorem pu_min (ho : o.op = .call { callee := .builtin .min, args := #[x, y], argTypes := #[3, 3] }) (hx : a.eval x = .int .i64 i) (hy : a.eval y = .int .i64 j) : Pure Tryz.prog o a (.int .i64 (min i j)) := fun w => by
  simp only [execOp, ho, resolve, List.map_toArray, List.map, hx, hy]
  first | (simp [go_sem]; done) | (simp [go_sem]; omega)
end
end Go.Proofs.YtboinbmgndomhaaGreat
