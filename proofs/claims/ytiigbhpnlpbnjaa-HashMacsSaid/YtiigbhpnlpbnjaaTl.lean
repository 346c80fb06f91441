/- Tools: laws for whole arrays in guarded places, and for statements whose order is open while their calls make memory. -/
import Derived.Test.YtiigbhpnlpbnjaaWe
import Derived.ChangeKeysEq
namespace Go.Proofs.Ytiigbhpnlpbnjaa
open Go.RowKit

section
variable {P : Program} {ops : Array Oper} {rest : List Oper} {o : Oper} {a : Act} {w : World}
theorem wpList_load_any {Q : Exit → Act → World → Prop} (hw : Region.wanted o (yielded ops a.tmps) = true) (ty : TypeId) (x : Operand) (ho : o.op = .load ty x)
    (g : Nat) (hx : a.eval x = .pointer (some ⟨g, 0, none⟩)) (t : TypeId) (cs : Array Value) (d : TypeDesc) (n : Nat) (hg : Blk w g t cs)
    (hu : P.underlying ty = some d) (hd : (match d with | .struct _ | .array _ _ => true | _ => false) = true) (hi : (P.info? ty).map (·.size) = some n) (hn : cs.size = n)
    (h : wpList P ops Q rest (a.put o.dst (.agg cs)) w) : wpList P ops Q (o :: rest) a w :=
  wpList_step fun K hK => by
    rw [if_pos hw]
    exact wp_load_row ty x ho g hx t cs (0, 0) d hg hu hd (by rw [hn]; exact hi) (hK _ _ h)

/-- A region whose order is open: its operations read, its calls make memory and leave what was there. -/
theorem region_below {id : Nat} {l : List Oper} {Q : Exit → Act → World → Prop} (hm : P.follows .mixedOrders = true) (hB : Region.lexB .any l.toArray = true)
    (h : wpQuiet P l.toArray (fun w' => Below w.heap.size w w') (fun a' => ∀ w', Below w.heap.size w w' → Q .normal a' w') l a) : (Code.region id l.toArray true).wp P Q a w :=
  wp_region_quiet (C := fun w' => Below w.heap.size w w') hm hB (show Below w.heap.size w w.drew from (Below.refl _ _).drew) (by simpa using h)

theorem q_load {C : World → Prop} {Q : Act → Prop} (hw : Region.wanted o (yielded ops a.tmps) = true) (ty : TypeId) (x : Operand) (ho : o.op = .load ty x)
    (g : Nat) (hx : a.eval x = .pointer (some ⟨g, 0, none⟩)) (t : TypeId) (cs : Array Value) (d : TypeDesc) (n : Nat) (hg : ∀ w, C w → Blk w g t cs)
    (hu : P.underlying ty = some d) (hd : (match d with | .struct _ | .array _ _ => true | _ => false) = true) (hi : (P.info? ty).map (·.size) = some n) (hn : cs.size = n)
    (h : wpQuiet P ops C Q rest (a.put o.dst (.agg cs))) : wpQuiet P ops C Q (o :: rest) a :=
  wpQuiet_step fun K hK => by
    rw [if_pos hw]
    refine ⟨.agg cs, fun w hC => ?_, hK _ h⟩
    unfold Oper.quietAt execOp
    simp only [ho, hx, Instr.loadAt, Instr.sureAddr, Sem.run_bind, Sem.run_pure, Result.andThen_ok, run_loadVar_row w g t ty cs (0, 0) d (hg w hC) hu hd (by rw [hn]; exact hi)]
    exact ⟨rfl, rfl⟩

/-- Function f has a body that is entered when it is called. -/
def enters (P : Program) (f : FuncId) : Bool := (P.funcs[f]?).any fun fn => !(fn.name == "runtime.NumGoroutine") && fn.body.isSome
theorem run_enter {f : FuncId} {xs : Array Operand} {ts : Array TypeId} (he : enters P f = true) (ho : o.op = .call { callee := .value (.func f), args := xs, argTypes := ts }) (w : World) :
    (execOp a.eval o).run P w = .ok (.enter f (xs.map a.eval)) w := by
  unfold enters at he
  cases hf : P.funcs[f]? with
  | none => simp [hf] at he
  | some fn =>
    simp only [hf, Option.any_some, Bool.and_eq_true, Bool.not_eq_true', beq_eq_false_iff_ne, ne_eq] at he
    obtain ⟨h1, h2⟩ := he
    have h2' : fn.body ≠ none := by intro e; rw [e] at h2; simp at h2
    simp [execOp, ho, resolve, Act.eval, Deferred.ofValue, invoke, callFunc, program, hf, h1, h2', Sem.run, Sem.run_bind]
theorem q_call {C : World → Prop} {Q : Act → Prop} (hw : Region.wanted o (yielded ops a.tmps) = true) (f : FuncId) (xs : List Operand) (ts : Array TypeId)
    (ho : o.op = .call { callee := .value (.func f), args := xs.toArray, argTypes := ts }) (he : enters P f = true) (args : List Value) (ha : xs.map a.eval = args) (v : Value)
    (hc : ∀ w, C w → Calls P f args.toArray w fun e w' => e = .returned v ∧ C w')
    (h : wpQuiet P ops C Q rest (a.put o.dst v)) : wpQuiet P ops C Q (o :: rest) a :=
  wpQuiet_step fun K hK => by
    rw [if_pos hw]
    refine ⟨v, fun w hC => ?_, hK _ h⟩
    unfold Oper.quietAt
    rw [run_enter he ho w, List.map_toArray, ha]
    exact ⟨rfl, hc w hC⟩
end
/-- A contract in the class 'what was there stays'. -/
theorem calls_below {P : Program} {f : FuncId} {args : Array Value} {v : Value} {W w : World} (hb : Below W.heap.size W w) (hc : Calls P f args w fun e w' => e = .returned v ∧ Below w.heap.size w w') :
    Calls P f args w fun e w' => e = .returned v ∧ Below W.heap.size W w' :=
  hc.mono fun _ _ ⟨h1, h2⟩ => ⟨h1, hb.trans (h2.mono hb.size)⟩

theorem cells5 : Try.prog.cellsOf 5 = 1 := by kernel_rfl
theorem run_part8 (x : List Nat) (i : Nat) (h : i < x.length) (w : World) : (part 5 (B8 x) i).run Try.prog w = .ok (.int .u8 ((at0 x i : Nat) : Int)) w := by
  have h5 : (isAgg 5).run Try.prog w = .ok false w := by simp [isAgg, run_underlying Try.underlying5]
  simp [part, h5, B8_get h]
theorem run_eqItems8 (x y : List Nat) (w : World) (is : List Nat) (h : ∀ i ∈ is, i < x.length ∧ i < y.length) :
    (Op.eqItems 9999 5 1 (B8 x) (B8 y) is).run Try.prog w = .ok (is.all fun i => at0 x i == at0 y i) w := by
  induction is with
  | nil => simp [Op.eqItems]
  | cons i is ih =>
    have hi := h i (by simp)
    have hb : (((at0 x i : Nat) : Int) == ((at0 y i : Nat) : Int)) = (at0 x i == at0 y i) := by rw [Bool.eq_iff_iff]; simp; omega
    simp only [Op.eqItems, Nat.mul_one, Sem.run_bind, run_part8 x i hi.1, run_part8 y i hi.2, Result.andThen_ok, run_equalIn_int w 9998 5 .u8 .u8 _ _ Try.underlying5, hb, List.all_cons]
    cases hc : (at0 x i == at0 y i)
    · simp
    · simp [ih (fun j hj => h j (by simp [hj]))]
theorem all_eq (x y : List Nat) (n : Nat) (hx : x.length = n) (hy : y.length = n) : ((List.range n).all fun i => at0 x i == at0 y i) = decide (x = y) := by
  rw [Bool.eq_iff_iff]
  simp only [List.all_eq_true, List.mem_range, beq_iff_eq, decide_eq_true_eq]
  constructor
  · intro h; exact ext_at0 (by omega) (fun j hj => h j (by omega))
  · rintro rfl j _; rfl
theorem eq24 (x y : List Nat) (hx : x.length = 32) (hy : y.length = 32) (w : World) : (Op.equalIn 10000 24 (.agg (B8 x)) (.agg (B8 y))).run Try.prog w = .ok (decide (x = y)) w := by
  have hi : ∃ i, Try.prog.info? 5 = some i := by
    have := info5
    cases h : Try.prog.info? 5 with
    | none => simp [h] at this
    | some i => exact ⟨i, rfl⟩
  obtain ⟨i, hi⟩ := hi
  rw [run_equalIn_array w 9999 (B8 x) (B8 y) Try.underlying24 hi, cells5, run_eqItems8 x y w (List.range 32) (fun i hi => by rw [List.mem_range] at hi; omega), all_eq x y 32 hx hy]
end Go.Proofs.Ytiigbhpnlpbnjaa
