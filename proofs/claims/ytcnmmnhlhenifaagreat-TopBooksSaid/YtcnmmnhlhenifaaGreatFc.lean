/- Closed facts of this seat's program: types, functions. Made by gen.py. -/
import Derived.Test.YtcnmmnhlhenifaaGreatFx
namespace Go.Proofs.YtcnmmnhlhenifaaGreat
open Go.RowKit
set_option maxRecDepth 100000
set_option linter.unusedSimpArgs false
set_option linter.unusedVariables false
theorem mixedOK : Tryz.prog.follows .mixedOrders = true := by kernel_rfl
theorem agg24 : AggTy Tryz.prog 24 2 := ⟨_, Tryz.underlying24, rfl, by kernel_rfl⟩
theorem agg35 : AggTy Tryz.prog 35 32 := ⟨_, Tryz.underlying35, rfl, by kernel_rfl⟩
theorem agg37 : AggTy Tryz.prog 37 2 := ⟨_, Tryz.underlying37, rfl, by kernel_rfl⟩
theorem agg39 : AggTy Tryz.prog 39 3 := ⟨_, Tryz.underlying39, rfl, by kernel_rfl⟩
theorem agg41 : AggTy Tryz.prog 41 40 := ⟨_, Tryz.underlying41, rfl, by kernel_rfl⟩
theorem agg74 : AggTy Tryz.prog 74 8 := ⟨_, Tryz.underlying74, rfl, by kernel_rfl⟩
theorem agg77 : AggTy Tryz.prog 77 2 := ⟨_, Tryz.underlying77, rfl, by kernel_rfl⟩
theorem agg79 : AggTy Tryz.prog 79 4 := ⟨_, Tryz.underlying79, rfl, by kernel_rfl⟩
theorem agg104 : AggTy Tryz.prog 104 8 := ⟨_, Tryz.underlying104, rfl, by kernel_rfl⟩
theorem agg159 : AggTy Tryz.prog 159 8 := ⟨_, Tryz.underlying159, rfl, by kernel_rfl⟩
theorem agg174 : AggTy Tryz.prog 174 2 := ⟨_, Tryz.underlying174, rfl, by kernel_rfl⟩
theorem one3 : OneTy Tryz.prog 3 := ⟨_, Tryz.underlying3, rfl⟩
theorem one22 : OneTy Tryz.prog 22 := ⟨_, Tryz.underlying22, rfl⟩
theorem one28 : OneTy Tryz.prog 28 := ⟨_, Tryz.underlying28, rfl⟩
theorem one34 : OneTy Tryz.prog 34 := ⟨_, Tryz.underlying34, rfl⟩
theorem one52 : OneTy Tryz.prog 52 := ⟨_, Tryz.underlying52, rfl⟩
theorem one72 : OneTy Tryz.prog 72 := ⟨_, Tryz.underlying72, rfl⟩
theorem one80 : OneTy Tryz.prog 80 := ⟨_, Tryz.underlying80, rfl⟩
theorem one88 : OneTy Tryz.prog 88 := ⟨_, Tryz.underlying88, rfl⟩
theorem one94 : OneTy Tryz.prog 94 := ⟨_, Tryz.underlying94, rfl⟩
theorem one95 : OneTy Tryz.prog 95 := ⟨_, Tryz.underlying95, rfl⟩
theorem one101 : OneTy Tryz.prog 101 := ⟨_, Tryz.underlying101, rfl⟩
theorem one106 : OneTy Tryz.prog 106 := ⟨_, Tryz.underlying106, rfl⟩
theorem one128 : OneTy Tryz.prog 128 := ⟨_, Tryz.underlying128, rfl⟩
theorem one147 : OneTy Tryz.prog 147 := ⟨_, Tryz.underlying147, rfl⟩
theorem one168 : OneTy Tryz.prog 168 := ⟨_, Tryz.underlying168, rfl⟩
theorem si3 : (Tryz.prog.info? 3).map (·.size) = some 1 := by kernel_rfl
theorem si28 : (Tryz.prog.info? 28).map (·.size) = some 1 := by kernel_rfl
theorem si34 : (Tryz.prog.info? 34).map (·.size) = some 1 := by kernel_rfl
theorem si72 : (Tryz.prog.info? 72).map (·.size) = some 1 := by kernel_rfl
theorem si88 : (Tryz.prog.info? 88).map (·.size) = some 1 := by kernel_rfl
theorem si94 : (Tryz.prog.info? 94).map (·.size) = some 1 := by kernel_rfl
theorem si95 : (Tryz.prog.info? 95).map (·.size) = some 1 := by kernel_rfl
theorem si101 : (Tryz.prog.info? 101).map (·.size) = some 1 := by kernel_rfl
theorem si106 : (Tryz.prog.info? 106).map (·.size) = some 1 := by kernel_rfl
theorem fo24_0 : fieldOff Tryz.prog 24 0 = some 0 := by kernel_rfl
theorem fo24_1 : fieldOff Tryz.prog 24 1 = some 1 := by kernel_rfl
theorem fo37_0 : fieldOff Tryz.prog 37 0 = some 0 := by kernel_rfl
theorem fo37_1 : fieldOff Tryz.prog 37 1 = some 1 := by kernel_rfl
theorem fo39_0 : fieldOff Tryz.prog 39 0 = some 0 := by kernel_rfl
theorem fo39_1 : fieldOff Tryz.prog 39 1 = some 1 := by kernel_rfl
theorem fo41_0 : fieldOff Tryz.prog 41 0 = some 0 := by kernel_rfl
theorem fo41_1 : fieldOff Tryz.prog 41 1 = some 1 := by kernel_rfl
theorem fo41_2 : fieldOff Tryz.prog 41 2 = some 33 := by kernel_rfl
theorem fo41_3 : fieldOff Tryz.prog 41 3 = some 34 := by kernel_rfl
theorem fo41_4 : fieldOff Tryz.prog 41 4 = some 37 := by kernel_rfl
theorem fo41_5 : fieldOff Tryz.prog 41 5 = some 38 := by kernel_rfl
theorem fo41_6 : fieldOff Tryz.prog 41 6 = some 39 := by kernel_rfl
theorem fo57_0 : fieldOff Tryz.prog 57 0 = some 0 := by kernel_rfl
theorem fo57_1 : fieldOff Tryz.prog 57 1 = some 2 := by kernel_rfl
theorem fo77_0 : fieldOff Tryz.prog 77 0 = some 0 := by kernel_rfl
theorem fo77_1 : fieldOff Tryz.prog 77 1 = some 1 := by kernel_rfl
theorem fo79_0 : fieldOff Tryz.prog 79 0 = some 0 := by kernel_rfl
theorem fo79_1 : fieldOff Tryz.prog 79 1 = some 1 := by kernel_rfl
theorem fo79_2 : fieldOff Tryz.prog 79 2 = some 2 := by kernel_rfl
theorem fo83_0 : fieldOff Tryz.prog 83 0 = some 0 := by kernel_rfl
theorem fo83_1 : fieldOff Tryz.prog 83 1 = some 1 := by kernel_rfl
theorem fo83_2 : fieldOff Tryz.prog 83 2 = some 9 := by kernel_rfl
theorem fo108_0 : fieldOff Tryz.prog 108 0 = some 0 := by kernel_rfl
theorem fo108_1 : fieldOff Tryz.prog 108 1 = some 1 := by kernel_rfl
theorem fo108_2 : fieldOff Tryz.prog 108 2 = some 9 := by kernel_rfl
theorem fo108_3 : fieldOff Tryz.prog 108 3 = some 17 := by kernel_rfl
theorem fo130_0 : fieldOff Tryz.prog 130 0 = some 0 := by kernel_rfl
theorem fo174_0 : fieldOff Tryz.prog 174 0 = some 0 := by kernel_rfl
theorem fo174_1 : fieldOff Tryz.prog 174 1 = some 1 := by kernel_rfl
theorem z3 : (Tryz.prog.info? 3).map (fun i => i.zero.map (·.cells)) = some (some #[.int .i64 0]) := by kernel_rfl
theorem z24 : (Tryz.prog.info? 24).map (fun i => i.zero.map (·.cells)) = some (some #[.int .i64 0, (.slice none 0 0)]) := by kernel_rfl
theorem z28 : (Tryz.prog.info? 28).map (fun i => i.zero.map (·.cells)) = some (some #[.int .i64 0]) := by kernel_rfl
theorem z34 : (Tryz.prog.info? 34).map (fun i => i.zero.map (·.cells)) = some (some #[.nilFunc]) := by kernel_rfl
theorem z35 : (Tryz.prog.info? 35).map (fun i => i.zero.map (·.cells)) = some (some #[.int .u8 0, .int .u8 0, .int .u8 0, .int .u8 0, .int .u8 0, .int .u8 0, .int .u8 0, .int .u8 0, .int .u8 0, .int .u8 0, .int .u8 0, .int .u8 0, .int .u8 0, .int .u8 0, .int .u8 0, .int .u8 0, .int .u8 0, .int .u8 0, .int .u8 0, .int .u8 0, .int .u8 0, .int .u8 0, .int .u8 0, .int .u8 0, .int .u8 0, .int .u8 0, .int .u8 0, .int .u8 0, .int .u8 0, .int .u8 0, .int .u8 0, .int .u8 0]) := by kernel_rfl
theorem z37 : (Tryz.prog.info? 37).map (fun i => i.zero.map (·.cells)) = some (some #[.int .i64 0, .int .i64 0]) := by kernel_rfl
theorem z39 : (Tryz.prog.info? 39).map (fun i => i.zero.map (·.cells)) = some (some #[.int .i64 0, .int .i64 0, .int .i64 0]) := by kernel_rfl
theorem z41 : (Tryz.prog.info? 41).map (fun i => i.zero.map (·.cells)) = some (some #[.int .i64 0, .int .u8 0, .int .u8 0, .int .u8 0, .int .u8 0, .int .u8 0, .int .u8 0, .int .u8 0, .int .u8 0, .int .u8 0, .int .u8 0, .int .u8 0, .int .u8 0, .int .u8 0, .int .u8 0, .int .u8 0, .int .u8 0, .int .u8 0, .int .u8 0, .int .u8 0, .int .u8 0, .int .u8 0, .int .u8 0, .int .u8 0, .int .u8 0, .int .u8 0, .int .u8 0, .int .u8 0, .int .u8 0, .int .u8 0, .int .u8 0, .int .u8 0, .int .u8 0, .int .i64 0, .int .i64 0, .int .i64 0, .int .i64 0, .int .i64 0, .int .i64 0, .int .i64 0]) := by kernel_rfl
theorem z74 : (Tryz.prog.info? 74).map (fun i => i.zero.map (·.cells)) = some (some #[.pointer none, .pointer none, .pointer none, .pointer none, .pointer none, .pointer none, .pointer none, .pointer none]) := by kernel_rfl
theorem z77 : (Tryz.prog.info? 77).map (fun i => i.zero.map (·.cells)) = some (some #[.int .i64 0, .int .i64 0]) := by kernel_rfl
theorem z79 : (Tryz.prog.info? 79).map (fun i => i.zero.map (·.cells)) = some (some #[.int .i64 0, .int .i64 0, .int .i64 0, .int .i64 0]) := by kernel_rfl
theorem z88 : (Tryz.prog.info? 88).map (fun i => i.zero.map (·.cells)) = some (some #[.nilFunc]) := by kernel_rfl
theorem z101 : (Tryz.prog.info? 101).map (fun i => i.zero.map (·.cells)) = some (some #[(.slice none 0 0)]) := by kernel_rfl
theorem z104 : (Tryz.prog.info? 104).map (fun i => i.zero.map (·.cells)) = some (some #[.pointer none, .pointer none, .pointer none, .pointer none, .pointer none, .pointer none, .pointer none, .pointer none]) := by kernel_rfl
theorem z159 : (Tryz.prog.info? 159).map (fun i => i.zero.map (·.cells)) = some (some #[.int .i64 0, .int .i64 0, .int .i64 0, .int .i64 0, .int .i64 0, .int .i64 0, .int .i64 0, .int .i64 0]) := by kernel_rfl
theorem mk94 : (Tryz.prog.info? 94).map (fun i => (i.zero, i.size, i.bytes)) = some (some ((.slice none 0 0)), 1, 24) := by kernel_rfl
theorem mk95 : (Tryz.prog.info? 95).map (fun i => (i.zero, i.size, i.bytes)) = some (some ((.slice none 0 0)), 1, 24) := by kernel_rfl
theorem eqg35 : Tryz.prog.eqGuardType Tryz.prog.depth 35 = false := by kernel_rfl
theorem eqg37 : Tryz.prog.eqGuardType Tryz.prog.depth 37 = false := by kernel_rfl
theorem eqg39 : Tryz.prog.eqGuardType Tryz.prog.depth 39 = false := by kernel_rfl
theorem eqg77 : Tryz.prog.eqGuardType Tryz.prog.depth 77 = false := by kernel_rfl
theorem en7 : enters Tryz.prog 7 = true := by kernel_rfl
theorem en9 : enters Tryz.prog 9 = true := by kernel_rfl
theorem en11 : enters Tryz.prog 11 = true := by kernel_rfl
theorem en14 : enters Tryz.prog 14 = true := by kernel_rfl
theorem en17 : enters Tryz.prog 17 = true := by kernel_rfl
theorem en18 : enters Tryz.prog 18 = true := by kernel_rfl
theorem en19 : enters Tryz.prog 19 = true := by kernel_rfl
theorem en20 : enters Tryz.prog 20 = true := by kernel_rfl
theorem en21 : enters Tryz.prog 21 = true := by kernel_rfl
theorem en22 : enters Tryz.prog 22 = true := by kernel_rfl
theorem en23 : enters Tryz.prog 23 = true := by kernel_rfl
theorem en24 : enters Tryz.prog 24 = true := by kernel_rfl
theorem en25 : enters Tryz.prog 25 = true := by kernel_rfl
theorem en26 : enters Tryz.prog 26 = true := by kernel_rfl
theorem en28 : enters Tryz.prog 28 = true := by kernel_rfl
theorem en29 : enters Tryz.prog 29 = true := by kernel_rfl
theorem en30 : enters Tryz.prog 30 = true := by kernel_rfl
theorem en31 : enters Tryz.prog 31 = true := by kernel_rfl
theorem en33 : enters Tryz.prog 33 = true := by kernel_rfl
theorem en34 : enters Tryz.prog 34 = true := by kernel_rfl
theorem en38 : enters Tryz.prog 38 = true := by kernel_rfl
theorem en39 : enters Tryz.prog 39 = true := by kernel_rfl
theorem en41 : enters Tryz.prog 41 = true := by kernel_rfl
theorem en47 : enters Tryz.prog 47 = true := by kernel_rfl
theorem en48 : enters Tryz.prog 48 = true := by kernel_rfl
theorem en49 : enters Tryz.prog 49 = true := by kernel_rfl
theorem en50 : enters Tryz.prog 50 = true := by kernel_rfl
theorem en51 : enters Tryz.prog 51 = true := by kernel_rfl
theorem en52 : enters Tryz.prog 52 = true := by kernel_rfl
theorem en53 : enters Tryz.prog 53 = true := by kernel_rfl
theorem en54 : enters Tryz.prog 54 = true := by kernel_rfl
theorem en55 : enters Tryz.prog 55 = true := by kernel_rfl
theorem en56 : enters Tryz.prog 56 = true := by kernel_rfl
theorem en57 : enters Tryz.prog 57 = true := by kernel_rfl
theorem en58 : enters Tryz.prog 58 = true := by kernel_rfl
theorem en59 : enters Tryz.prog 59 = true := by kernel_rfl
theorem en60 : enters Tryz.prog 60 = true := by kernel_rfl
theorem en61 : enters Tryz.prog 61 = true := by kernel_rfl
theorem en62 : enters Tryz.prog 62 = true := by kernel_rfl
theorem en63 : enters Tryz.prog 63 = true := by kernel_rfl
theorem en64 : enters Tryz.prog 64 = true := by kernel_rfl
theorem en65 : enters Tryz.prog 65 = true := by kernel_rfl
theorem en66 : enters Tryz.prog 66 = true := by kernel_rfl
theorem en67 : enters Tryz.prog 67 = true := by kernel_rfl
theorem en68 : enters Tryz.prog 68 = true := by kernel_rfl
theorem en69 : enters Tryz.prog 69 = true := by kernel_rfl
theorem en72 : enters Tryz.prog 72 = true := by kernel_rfl
theorem en73 : enters Tryz.prog 73 = true := by kernel_rfl
theorem en74 : enters Tryz.prog 74 = true := by kernel_rfl
theorem en75 : enters Tryz.prog 75 = true := by kernel_rfl
theorem en79 : enters Tryz.prog 79 = true := by kernel_rfl
theorem en81 : enters Tryz.prog 81 = true := by kernel_rfl
theorem en84 : enters Tryz.prog 84 = true := by kernel_rfl
theorem en85 : enters Tryz.prog 85 = true := by kernel_rfl
theorem en86 : enters Tryz.prog 86 = true := by kernel_rfl
theorem en87 : enters Tryz.prog 87 = true := by kernel_rfl
theorem en88 : enters Tryz.prog 88 = true := by kernel_rfl
theorem en89 : enters Tryz.prog 89 = true := by kernel_rfl
theorem en90 : enters Tryz.prog 90 = true := by kernel_rfl
theorem en91 : enters Tryz.prog 91 = true := by kernel_rfl
theorem en92 : enters Tryz.prog 92 = true := by kernel_rfl
theorem en93 : enters Tryz.prog 93 = true := by kernel_rfl
theorem en94 : enters Tryz.prog 94 = true := by kernel_rfl
theorem en95 : enters Tryz.prog 95 = true := by kernel_rfl
theorem en96 : enters Tryz.prog 96 = true := by kernel_rfl
theorem en97 : enters Tryz.prog 97 = true := by kernel_rfl
theorem en99 : enters Tryz.prog 99 = true := by kernel_rfl
theorem en100 : enters Tryz.prog 100 = true := by kernel_rfl
theorem en101 : enters Tryz.prog 101 = true := by kernel_rfl
theorem en103 : enters Tryz.prog 103 = true := by kernel_rfl
theorem en104 : enters Tryz.prog 104 = true := by kernel_rfl
theorem en105 : enters Tryz.prog 105 = true := by kernel_rfl
theorem en106 : enters Tryz.prog 106 = true := by kernel_rfl
theorem en107 : enters Tryz.prog 107 = true := by kernel_rfl
theorem en109 : enters Tryz.prog 109 = true := by kernel_rfl
theorem en110 : enters Tryz.prog 110 = true := by kernel_rfl
theorem en111 : enters Tryz.prog 111 = true := by kernel_rfl
theorem en113 : enters Tryz.prog 113 = true := by kernel_rfl
theorem en114 : enters Tryz.prog 114 = true := by kernel_rfl
theorem en115 : enters Tryz.prog 115 = true := by kernel_rfl
theorem en118 : enters Tryz.prog 118 = true := by kernel_rfl
theorem en119 : enters Tryz.prog 119 = true := by kernel_rfl
theorem en124 : enters Tryz.prog 124 = true := by kernel_rfl
theorem en126 : enters Tryz.prog 126 = true := by kernel_rfl
theorem en127 : enters Tryz.prog 127 = true := by kernel_rfl
theorem en128 : enters Tryz.prog 128 = true := by kernel_rfl
theorem en142 : enters Tryz.prog 142 = true := by kernel_rfl
theorem en143 : enters Tryz.prog 143 = true := by kernel_rfl
theorem en144 : enters Tryz.prog 144 = true := by kernel_rfl
theorem en145 : enters Tryz.prog 145 = true := by kernel_rfl
theorem en146 : enters Tryz.prog 146 = true := by kernel_rfl
theorem en147 : enters Tryz.prog 147 = true := by kernel_rfl
theorem en148 : enters Tryz.prog 148 = true := by kernel_rfl
theorem en149 : enters Tryz.prog 149 = true := by kernel_rfl
theorem en150 : enters Tryz.prog 150 = true := by kernel_rfl
theorem en151 : enters Tryz.prog 151 = true := by kernel_rfl
theorem en155 : enters Tryz.prog 155 = true := by kernel_rfl
theorem en158 : enters Tryz.prog 158 = true := by kernel_rfl
theorem en159 : enters Tryz.prog 159 = true := by kernel_rfl
theorem en160 : enters Tryz.prog 160 = true := by kernel_rfl
theorem sl22 : SlTy Tryz.prog 22 79 4 := ⟨Tryz.underlying22, by kernel_rfl⟩
theorem el79 : ElTy Tryz.prog 79 4 32 := ⟨by omega, .agg #[.int .i64 0, .int .i64 0, .int .i64 0, .int .i64 0], rfl, by kernel_rfl⟩
theorem sl25 : SlTy Tryz.prog 25 41 40 := ⟨Tryz.underlying25, by kernel_rfl⟩
theorem el41 : ElTy Tryz.prog 41 40 96 := ⟨by omega, .agg #[.int .i64 0, .int .u8 0, .int .u8 0, .int .u8 0, .int .u8 0, .int .u8 0, .int .u8 0, .int .u8 0, .int .u8 0, .int .u8 0, .int .u8 0, .int .u8 0, .int .u8 0, .int .u8 0, .int .u8 0, .int .u8 0, .int .u8 0, .int .u8 0, .int .u8 0, .int .u8 0, .int .u8 0, .int .u8 0, .int .u8 0, .int .u8 0, .int .u8 0, .int .u8 0, .int .u8 0, .int .u8 0, .int .u8 0, .int .u8 0, .int .u8 0, .int .u8 0, .int .u8 0, .int .i64 0, .int .i64 0, .int .i64 0, .int .i64 0, .int .i64 0, .int .i64 0, .int .i64 0], rfl, by kernel_rfl⟩
theorem sl43 : SlTy Tryz.prog 43 57 3 := ⟨Tryz.underlying43, by kernel_rfl⟩
theorem el57 : ElTy Tryz.prog 57 3 24 := ⟨by omega, .agg #[.int .i64 0, .int .i64 0, .int .i64 0], rfl, by kernel_rfl⟩
theorem sl52 : SlTy Tryz.prog 52 94 1 := ⟨Tryz.underlying52, by kernel_rfl⟩
theorem sl94 : SlTy Tryz.prog 94 95 1 := ⟨Tryz.underlying94, by kernel_rfl⟩
theorem sl95 : SlTy Tryz.prog 95 77 2 := ⟨Tryz.underlying95, by kernel_rfl⟩
theorem el77 : ElTy Tryz.prog 77 2 16 := ⟨by omega, .agg #[.int .i64 0, .int .i64 0], rfl, by kernel_rfl⟩
theorem sl101 : SlTy Tryz.prog 101 37 2 := ⟨Tryz.underlying101, by kernel_rfl⟩
theorem el37 : ElTy Tryz.prog 37 2 16 := ⟨by omega, .agg #[.int .i64 0, .int .i64 0], rfl, by kernel_rfl⟩
theorem sl114 : SlTy Tryz.prog 114 3 1 := ⟨Tryz.underlying114, by kernel_rfl⟩
theorem el3 : ElTy Tryz.prog 3 1 8 := ⟨by omega, .int .i64 0, rfl, by kernel_rfl⟩
theorem sl121 : SlTy Tryz.prog 121 5 1 := ⟨Tryz.underlying121, by kernel_rfl⟩
theorem el5 : ElTy Tryz.prog 5 1 1 := ⟨by omega, .int .u8 0, rfl, by kernel_rfl⟩
theorem sl175 : SlTy Tryz.prog 175 77 2 := ⟨Tryz.underlying175, by kernel_rfl⟩
theorem sl195 : SlTy Tryz.prog 195 37 2 := ⟨Tryz.underlying195, by kernel_rfl⟩
section
variable {o : Oper} {a : Act}
theorem bu24_0_1 {x0 : Operand} {i0 : Int} {x1 : Operand} {i1 : Value} (ho : o.op = .build 24 #[(0, x0), (1, x1)]) (h0 : a.eval x0 = .int .i64 i0) (h1 : a.eval x1 = i1) (c1 : i1.cells = #[i1]) : Pure Tryz.prog o a (.agg #[.int .i64 i0, i1]) := fun w => by
  simp only [Value.cells] at c1
  simp only [execOp, ho, List.map_toArray, List.map, h0, h1]
  simp [go_sem, c1]
theorem bu35_ (ho : o.op = .build 35 #[]) : Pure Tryz.prog o a (.agg #[.int .u8 0, .int .u8 0, .int .u8 0, .int .u8 0, .int .u8 0, .int .u8 0, .int .u8 0, .int .u8 0, .int .u8 0, .int .u8 0, .int .u8 0, .int .u8 0, .int .u8 0, .int .u8 0, .int .u8 0, .int .u8 0, .int .u8 0, .int .u8 0, .int .u8 0, .int .u8 0, .int .u8 0, .int .u8 0, .int .u8 0, .int .u8 0, .int .u8 0, .int .u8 0, .int .u8 0, .int .u8 0, .int .u8 0, .int .u8 0, .int .u8 0, .int .u8 0]) := fun w => by
  simp only [execOp, ho, List.map_toArray, List.map]
  simp [go_sem]
theorem bu37_ (ho : o.op = .build 37 #[]) : Pure Tryz.prog o a (.agg #[.int .i64 0, .int .i64 0]) := fun w => by
  simp only [execOp, ho, List.map_toArray, List.map]
  simp [go_sem]
theorem bu37_0_1 {x0 : Operand} {i0 : Int} {x1 : Operand} {i1 : Int} (ho : o.op = .build 37 #[(0, x0), (1, x1)]) (h0 : a.eval x0 = .int .i64 i0) (h1 : a.eval x1 = .int .i64 i1) : Pure Tryz.prog o a (.agg #[.int .i64 i0, .int .i64 i1]) := fun w => by
  simp only [execOp, ho, List.map_toArray, List.map, h0, h1]
  simp [go_sem]
theorem bu37_1 {x0 : Operand} {i0 : Int} (ho : o.op = .build 37 #[(1, x0)]) (h0 : a.eval x0 = .int .i64 i0) : Pure Tryz.prog o a (.agg #[.int .i64 0, .int .i64 i0]) := fun w => by
  simp only [execOp, ho, List.map_toArray, List.map, h0]
  simp [go_sem]
theorem bu39_ (ho : o.op = .build 39 #[]) : Pure Tryz.prog o a (.agg #[.int .i64 0, .int .i64 0, .int .i64 0]) := fun w => by
  simp only [execOp, ho, List.map_toArray, List.map]
  simp [go_sem]
theorem bu39_0 {x0 : Operand} {i0 : Int} (ho : o.op = .build 39 #[(0, x0)]) (h0 : a.eval x0 = .int .i64 i0) : Pure Tryz.prog o a (.agg #[.int .i64 i0, .int .i64 0, .int .i64 0]) := fun w => by
  simp only [execOp, ho, List.map_toArray, List.map, h0]
  simp [go_sem]
theorem bu39_0_1 {x0 : Operand} {i0 : Int} {x1 : Operand} {i1_0 : Int} {i1_1 : Int} (ho : o.op = .build 39 #[(0, x0), (1, x1)]) (h0 : a.eval x0 = .int .i64 i0) (h1 : a.eval x1 = .agg #[.int .i64 i1_0, .int .i64 i1_1]) : Pure Tryz.prog o a (.agg #[.int .i64 i0, .int .i64 i1_0, .int .i64 i1_1]) := fun w => by
  simp only [execOp, ho, List.map_toArray, List.map, h0, h1]
  simp [go_sem]
theorem bu41_ (ho : o.op = .build 41 #[]) : Pure Tryz.prog o a (.agg #[.int .i64 0, .int .u8 0, .int .u8 0, .int .u8 0, .int .u8 0, .int .u8 0, .int .u8 0, .int .u8 0, .int .u8 0, .int .u8 0, .int .u8 0, .int .u8 0, .int .u8 0, .int .u8 0, .int .u8 0, .int .u8 0, .int .u8 0, .int .u8 0, .int .u8 0, .int .u8 0, .int .u8 0, .int .u8 0, .int .u8 0, .int .u8 0, .int .u8 0, .int .u8 0, .int .u8 0, .int .u8 0, .int .u8 0, .int .u8 0, .int .u8 0, .int .u8 0, .int .u8 0, .int .i64 0, .int .i64 0, .int .i64 0, .int .i64 0, .int .i64 0, .int .i64 0, .int .i64 0]) := fun w => by
  simp only [execOp, ho, List.map_toArray, List.map]
  simp [go_sem]
theorem bu41_2_6 {x0 : Operand} {i0 : Int} {x1 : Operand} {i1 : Int} (ho : o.op = .build 41 #[(2, x0), (6, x1)]) (h0 : a.eval x0 = .int .i64 i0) (h1 : a.eval x1 = .int .i64 i1) : Pure Tryz.prog o a (.agg #[.int .i64 0, .int .u8 0, .int .u8 0, .int .u8 0, .int .u8 0, .int .u8 0, .int .u8 0, .int .u8 0, .int .u8 0, .int .u8 0, .int .u8 0, .int .u8 0, .int .u8 0, .int .u8 0, .int .u8 0, .int .u8 0, .int .u8 0, .int .u8 0, .int .u8 0, .int .u8 0, .int .u8 0, .int .u8 0, .int .u8 0, .int .u8 0, .int .u8 0, .int .u8 0, .int .u8 0, .int .u8 0, .int .u8 0, .int .u8 0, .int .u8 0, .int .u8 0, .int .u8 0, .int .i64 i0, .int .i64 0, .int .i64 0, .int .i64 0, .int .i64 0, .int .i64 0, .int .i64 i1]) := fun w => by
  simp only [execOp, ho, List.map_toArray, List.map, h0, h1]
  simp [go_sem]
theorem bu57_0_1 {x0 : Operand} {i0_0 : Int} {i0_1 : Int} {x1 : Operand} {i1 : Int} (ho : o.op = .build 57 #[(0, x0), (1, x1)]) (h0 : a.eval x0 = .agg #[.int .i64 i0_0, .int .i64 i0_1]) (h1 : a.eval x1 = .int .i64 i1) : Pure Tryz.prog o a (.agg #[.int .i64 i0_0, .int .i64 i0_1, .int .i64 i1]) := fun w => by
  simp only [execOp, ho, List.map_toArray, List.map, h0, h1]
  simp [go_sem]
theorem bu77_ (ho : o.op = .build 77 #[]) : Pure Tryz.prog o a (.agg #[.int .i64 0, .int .i64 0]) := fun w => by
  simp only [execOp, ho, List.map_toArray, List.map]
  simp [go_sem]
theorem bu77_1 {x0 : Operand} {i0 : Int} (ho : o.op = .build 77 #[(1, x0)]) (h0 : a.eval x0 = .int .i64 i0) : Pure Tryz.prog o a (.agg #[.int .i64 0, .int .i64 i0]) := fun w => by
  simp only [execOp, ho, List.map_toArray, List.map, h0]
  simp [go_sem]
theorem bu79_0_1_2 {x0 : Operand} {i0 : Int} {x1 : Operand} {i1 : Int} {x2 : Operand} {i2_0 : Int} {i2_1 : Int} (ho : o.op = .build 79 #[(0, x0), (1, x1), (2, x2)]) (h0 : a.eval x0 = .int .i64 i0) (h1 : a.eval x1 = .int .i64 i1) (h2 : a.eval x2 = .agg #[.int .i64 i2_0, .int .i64 i2_1]) : Pure Tryz.prog o a (.agg #[.int .i64 i0, .int .i64 i1, .int .i64 i2_0, .int .i64 i2_1]) := fun w => by
  simp only [execOp, ho, List.map_toArray, List.map, h0, h1, h2]
  simp [go_sem]
theorem bu83_0_1_2 {x0 : Operand} {i0 : Int} {x1 : Operand} {i1_0 : Value} {i1_1 : Value} {i1_2 : Value} {i1_3 : Value} {i1_4 : Value} {i1_5 : Value} {i1_6 : Value} {i1_7 : Value} {x2 : Operand} {i2 : Value} (ho : o.op = .build 83 #[(0, x0), (1, x1), (2, x2)]) (h0 : a.eval x0 = .int .i64 i0) (h1 : a.eval x1 = .agg #[i1_0, i1_1, i1_2, i1_3, i1_4, i1_5, i1_6, i1_7]) (h2 : a.eval x2 = i2) (c2 : i2.cells = #[i2]) : Pure Tryz.prog o a (.agg #[.int .i64 i0, i1_0, i1_1, i1_2, i1_3, i1_4, i1_5, i1_6, i1_7, i2]) := fun w => by
  simp only [Value.cells] at c2
  simp only [execOp, ho, List.map_toArray, List.map, h0, h1, h2]
  simp [go_sem, c2]
theorem bu108_0_1_2 {x0 : Operand} {i0 : Value} {x1 : Operand} {i1_0 : Value} {i1_1 : Value} {i1_2 : Value} {i1_3 : Value} {i1_4 : Value} {i1_5 : Value} {i1_6 : Value} {i1_7 : Value} {x2 : Operand} {i2_0 : Value} {i2_1 : Value} {i2_2 : Value} {i2_3 : Value} {i2_4 : Value} {i2_5 : Value} {i2_6 : Value} {i2_7 : Value} (ho : o.op = .build 108 #[(0, x0), (1, x1), (2, x2)]) (h0 : a.eval x0 = i0) (c0 : i0.cells = #[i0]) (h1 : a.eval x1 = .agg #[i1_0, i1_1, i1_2, i1_3, i1_4, i1_5, i1_6, i1_7]) (h2 : a.eval x2 = .agg #[i2_0, i2_1, i2_2, i2_3, i2_4, i2_5, i2_6, i2_7]) : Pure Tryz.prog o a (.agg #[i0, i1_0, i1_1, i1_2, i1_3, i1_4, i1_5, i1_6, i1_7, i2_0, i2_1, i2_2, i2_3, i2_4, i2_5, i2_6, i2_7, .nilFunc]) := fun w => by
  simp only [Value.cells] at c0
  simp only [execOp, ho, List.map_toArray, List.map, h0, h1, h2]
  simp [go_sem, c0]
theorem bu130_0 {x0 : Operand} {i0 : Value} (ho : o.op = .build 130 #[(0, x0)]) (h0 : a.eval x0 = i0) (c0 : i0.cells = #[i0]) : Pure Tryz.prog o a (.agg #[i0]) := fun w => by
  simp only [Value.cells] at c0
  simp only [execOp, ho, List.map_toArray, List.map, h0]
  simp [go_sem, c0]
theorem bs22_0 (ho : o.op = .buildSlice 22 0 #[]) (w : World) : (execOp a.eval o).run Tryz.prog w = .ok (.value (.slice (some ⟨w.heap.size, 0, none⟩) 0 0)) (w.alloc (.cells #[] 79)) := by
  simp only [execOp, ho, List.map_toArray, List.map]
  simp [go_sem]
theorem bs22_1 {x0 : Operand} {i0_0 : Int} {i0_1 : Int} {i0_2 : Int} {i0_3 : Int} (ho : o.op = .buildSlice 22 1 #[(0, x0)]) (h0 : a.eval x0 = .agg #[.int .i64 i0_0, .int .i64 i0_1, .int .i64 i0_2, .int .i64 i0_3]) (w : World) : (execOp a.eval o).run Tryz.prog w = .ok (.value (.slice (some ⟨w.heap.size, 0, none⟩) 1 1)) (w.alloc (.cells #[.int .i64 i0_0, .int .i64 i0_1, .int .i64 i0_2, .int .i64 i0_3] 79)) := by
  simp only [execOp, ho, List.map_toArray, List.map, h0]
  simp [go_sem]
theorem bs25_1 {x0 : Operand} {i0_0 : Int} {i0_1 : Int} {i0_2 : Int} {i0_3 : Int} {i0_4 : Int} {i0_5 : Int} {i0_6 : Int} {i0_7 : Int} {i0_8 : Int} {i0_9 : Int} {i0_10 : Int} {i0_11 : Int} {i0_12 : Int} {i0_13 : Int} {i0_14 : Int} {i0_15 : Int} {i0_16 : Int} {i0_17 : Int} {i0_18 : Int} {i0_19 : Int} {i0_20 : Int} {i0_21 : Int} {i0_22 : Int} {i0_23 : Int} {i0_24 : Int} {i0_25 : Int} {i0_26 : Int} {i0_27 : Int} {i0_28 : Int} {i0_29 : Int} {i0_30 : Int} {i0_31 : Int} {i0_32 : Int} {i0_33 : Int} {i0_34 : Int} {i0_35 : Int} {i0_36 : Int} {i0_37 : Int} {i0_38 : Int} {i0_39 : Int} (ho : o.op = .buildSlice 25 1 #[(0, x0)]) (h0 : a.eval x0 = .agg #[.int .i64 i0_0, .int .u8 i0_1, .int .u8 i0_2, .int .u8 i0_3, .int .u8 i0_4, .int .u8 i0_5, .int .u8 i0_6, .int .u8 i0_7, .int .u8 i0_8, .int .u8 i0_9, .int .u8 i0_10, .int .u8 i0_11, .int .u8 i0_12, .int .u8 i0_13, .int .u8 i0_14, .int .u8 i0_15, .int .u8 i0_16, .int .u8 i0_17, .int .u8 i0_18, .int .u8 i0_19, .int .u8 i0_20, .int .u8 i0_21, .int .u8 i0_22, .int .u8 i0_23, .int .u8 i0_24, .int .u8 i0_25, .int .u8 i0_26, .int .u8 i0_27, .int .u8 i0_28, .int .u8 i0_29, .int .u8 i0_30, .int .u8 i0_31, .int .u8 i0_32, .int .i64 i0_33, .int .i64 i0_34, .int .i64 i0_35, .int .i64 i0_36, .int .i64 i0_37, .int .i64 i0_38, .int .i64 i0_39]) (w : World) : (execOp a.eval o).run Tryz.prog w = .ok (.value (.slice (some ⟨w.heap.size, 0, none⟩) 1 1)) (w.alloc (.cells #[.int .i64 i0_0, .int .u8 i0_1, .int .u8 i0_2, .int .u8 i0_3, .int .u8 i0_4, .int .u8 i0_5, .int .u8 i0_6, .int .u8 i0_7, .int .u8 i0_8, .int .u8 i0_9, .int .u8 i0_10, .int .u8 i0_11, .int .u8 i0_12, .int .u8 i0_13, .int .u8 i0_14, .int .u8 i0_15, .int .u8 i0_16, .int .u8 i0_17, .int .u8 i0_18, .int .u8 i0_19, .int .u8 i0_20, .int .u8 i0_21, .int .u8 i0_22, .int .u8 i0_23, .int .u8 i0_24, .int .u8 i0_25, .int .u8 i0_26, .int .u8 i0_27, .int .u8 i0_28, .int .u8 i0_29, .int .u8 i0_30, .int .u8 i0_31, .int .u8 i0_32, .int .i64 i0_33, .int .i64 i0_34, .int .i64 i0_35, .int .i64 i0_36, .int .i64 i0_37, .int .i64 i0_38, .int .i64 i0_39] 41)) := by
  simp only [execOp, ho, List.map_toArray, List.map, h0]
  simp [go_sem]
theorem bs43_1 {x0 : Operand} {i0_0 : Int} {i0_1 : Int} {i0_2 : Int} (ho : o.op = .buildSlice 43 1 #[(0, x0)]) (h0 : a.eval x0 = .agg #[.int .i64 i0_0, .int .i64 i0_1, .int .i64 i0_2]) (w : World) : (execOp a.eval o).run Tryz.prog w = .ok (.value (.slice (some ⟨w.heap.size, 0, none⟩) 1 1)) (w.alloc (.cells #[.int .i64 i0_0, .int .i64 i0_1, .int .i64 i0_2] 57)) := by
  simp only [execOp, ho, List.map_toArray, List.map, h0]
  simp [go_sem]
theorem bs95_1 {x0 : Operand} {i0_0 : Int} {i0_1 : Int} (ho : o.op = .buildSlice 95 1 #[(0, x0)]) (h0 : a.eval x0 = .agg #[.int .i64 i0_0, .int .i64 i0_1]) (w : World) : (execOp a.eval o).run Tryz.prog w = .ok (.value (.slice (some ⟨w.heap.size, 0, none⟩) 1 1)) (w.alloc (.cells #[.int .i64 i0_0, .int .i64 i0_1] 77)) := by
  simp only [execOp, ho, List.map_toArray, List.map, h0]
  simp [go_sem]
theorem bs101_1 {x0 : Operand} {i0_0 : Int} {i0_1 : Int} (ho : o.op = .buildSlice 101 1 #[(0, x0)]) (h0 : a.eval x0 = .agg #[.int .i64 i0_0, .int .i64 i0_1]) (w : World) : (execOp a.eval o).run Tryz.prog w = .ok (.value (.slice (some ⟨w.heap.size, 0, none⟩) 1 1)) (w.alloc (.cells #[.int .i64 i0_0, .int .i64 i0_1] 37)) := by
  simp only [execOp, ho, List.map_toArray, List.map, h0]
  simp [go_sem]
theorem bs114_1 {x0 : Operand} {i0 : Int} (ho : o.op = .buildSlice 114 1 #[(0, x0)]) (h0 : a.eval x0 = .int .i64 i0) (w : World) : (execOp a.eval o).run Tryz.prog w = .ok (.value (.slice (some ⟨w.heap.size, 0, none⟩) 1 1)) (w.alloc (.cells #[.int .i64 i0] 3)) := by
  simp only [execOp, ho, List.map_toArray, List.map, h0]
  simp [go_sem]
theorem bs121_1 {x0 : Operand} {i0 : Int} (ho : o.op = .buildSlice 121 1 #[(0, x0)]) (h0 : a.eval x0 = .int .u8 i0) (w : World) : (execOp a.eval o).run Tryz.prog w = .ok (.value (.slice (some ⟨w.heap.size, 0, none⟩) 1 1)) (w.alloc (.cells #[.int .u8 i0] 5)) := by
  simp only [execOp, ho, List.map_toArray, List.map, h0]
  simp [go_sem]
theorem bs121_2 {x0 : Operand} {i0 : Int} {x1 : Operand} {i1 : Int} (ho : o.op = .buildSlice 121 2 #[(0, x0), (1, x1)]) (h0 : a.eval x0 = .int .u8 i0) (h1 : a.eval x1 = .int .u8 i1) (w : World) : (execOp a.eval o).run Tryz.prog w = .ok (.value (.slice (some ⟨w.heap.size, 0, none⟩) 2 2)) (w.alloc (.cells #[.int .u8 i0, .int .u8 i1] 5)) := by
  simp only [execOp, ho, List.map_toArray, List.map, h0, h1]
  simp [go_sem]
theorem bs121_4 {x0 : Operand} {i0 : Int} {x1 : Operand} {i1 : Int} {x2 : Operand} {i2 : Int} {x3 : Operand} {i3 : Int} (ho : o.op = .buildSlice 121 4 #[(0, x0), (1, x1), (2, x2), (3, x3)]) (h0 : a.eval x0 = .int .u8 i0) (h1 : a.eval x1 = .int .u8 i1) (h2 : a.eval x2 = .int .u8 i2) (h3 : a.eval x3 = .int .u8 i3) (w : World) : (execOp a.eval o).run Tryz.prog w = .ok (.value (.slice (some ⟨w.heap.size, 0, none⟩) 4 4)) (w.alloc (.cells #[.int .u8 i0, .int .u8 i1, .int .u8 i2, .int .u8 i3] 5)) := by
  simp only [execOp, ho, List.map_toArray, List.map, h0, h1, h2, h3]
  simp [go_sem]
theorem ixv74 {x y : Operand} {g : Nat} {i : Int} (ho : o.op = .indexAddr 74 x y) (hx : a.eval x = .pointer (some ⟨g, 0, none⟩)) (hy : a.eval y = .int .i64 i) (h0 : 0 ≤ i) (h1 : i < 8) : Pure Tryz.prog o a (.pointer (some ⟨g, 0 + i.toNat * 1, none⟩)) := fun w => by
  simp only [execOp, ho, hx, hy]
  obtain ⟨k, rfl⟩ := Int.eq_ofNat_of_zero_le h0
  first | (simp [go_sem]; done) | (simp [go_sem]; omega)
theorem ixv104 {x y : Operand} {g : Nat} {i : Int} (ho : o.op = .indexAddr 104 x y) (hx : a.eval x = .pointer (some ⟨g, 0, none⟩)) (hy : a.eval y = .int .i64 i) (h0 : 0 ≤ i) (h1 : i < 8) : Pure Tryz.prog o a (.pointer (some ⟨g, 0 + i.toNat * 1, none⟩)) := fun w => by
  simp only [execOp, ho, hx, hy]
  obtain ⟨k, rfl⟩ := Int.eq_ofNat_of_zero_le h0
  first | (simp [go_sem]; done) | (simp [go_sem]; omega)
theorem ixv159 {x y : Operand} {g : Nat} {i : Int} (ho : o.op = .indexAddr 159 x y) (hx : a.eval x = .pointer (some ⟨g, 0, none⟩)) (hy : a.eval y = .int .i64 i) (h0 : 0 ≤ i) (h1 : i < 8) : Pure Tryz.prog o a (.pointer (some ⟨g, 0 + i.toNat * 1, none⟩)) := fun w => by
  simp only [execOp, ho, hx, hy]
  obtain ⟨k, rfl⟩ := Int.eq_ofNat_of_zero_le h0
  first | (simp [go_sem]; done) | (simp [go_sem]; omega)
theorem ixo74 {x y : Operand} {g og : Nat} {i : Int} (ho : o.op = .indexAddr 74 x y) (hx : a.eval x = .pointer (some ⟨g, og, none⟩)) (hy : a.eval y = .int .i64 i) (h0 : 0 ≤ i) (h1 : i < 8) : Pure Tryz.prog o a (.pointer (some ⟨g, og + i.toNat * 1, none⟩)) := fun w => by
  simp only [execOp, ho, hx, hy]
  obtain ⟨k, rfl⟩ := Int.eq_ofNat_of_zero_le h0
  first | (simp [go_sem]; done) | (simp [go_sem]; omega)
theorem ixo104 {x y : Operand} {g og : Nat} {i : Int} (ho : o.op = .indexAddr 104 x y) (hx : a.eval x = .pointer (some ⟨g, og, none⟩)) (hy : a.eval y = .int .i64 i) (h0 : 0 ≤ i) (h1 : i < 8) : Pure Tryz.prog o a (.pointer (some ⟨g, og + i.toNat * 1, none⟩)) := fun w => by
  simp only [execOp, ho, hx, hy]
  obtain ⟨k, rfl⟩ := Int.eq_ofNat_of_zero_le h0
  first | (simp [go_sem]; done) | (simp [go_sem]; omega)
end
section
variable {o : Oper} {a : Act} {x y : Operand} {i j : Int}
theorem pu_min (ho : o.op = .call { callee := .builtin .min, args := #[x, y], argTypes := #[3, 3] }) (hx : a.eval x = .int .i64 i) (hy : a.eval y = .int .i64 j) : Pure Tryz.prog o a (.int .i64 (min i j)) := fun w => by
  simp only [execOp, ho, resolve, List.map_toArray, List.map, hx, hy]
  first | (simp [go_sem]; done) | (simp [go_sem]; omega)
end
end Go.Proofs.YtcnmmnhlhenifaaGreat
