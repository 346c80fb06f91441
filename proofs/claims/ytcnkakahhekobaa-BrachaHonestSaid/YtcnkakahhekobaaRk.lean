/- New variables, and stores into them, in a statement of open order. Any seat. -/
import Derived.Test.YtcnkakahhekobaaRj
namespace Go.Proofs.Ytcnkakahhekobaa
open Go.RowKit
set_option maxRecDepth 100000
set_option linter.unusedSimpArgs false
set_option linter.unusedVariables false

def pof : Value → Nat
  | .pointer (some a) => a.block
  | _ => 0
section
variable {P : Program} {Q : Exit → Act → World → Prop} {a : Act}
/-- A new variable, in the place of something dead. -/
theorem ow_allocB {o : Oper} {R : List Nat} {w0 w : World} {B : List Ent} {K : Act → World → Prop} {t : TypeId} {i m' n' : Nat} {u : Value} {ys : List Value} (M : Mm R w0 w B) (ho : o.op = .alloc t) {cs : Array Value} (hz : (P.info? t).map (fun i => i.zero.map (·.cells)) = some (some cs)) (hi : B[i]? = some (.arg m' u n' ys))
    (h : ∀ x w', x = .pointer (some ⟨pof x, 0, none⟩) → Mm R w0 w' (B.set i (.blk (pof x) t cs)) → K (a.put o.dst x) w') : o.wp P a w K Q := by
  have hr : (execOp a.eval o).run P w = .ok (.value (.pointer (some ⟨w.heap.size, 0, none⟩))) (w.alloc (.cells cs t)) := by
    cases hq : P.info? t with
    | none => simp [hq] at hz
    | some i =>
      simp only [hq, Option.map_some, Option.some.injEq] at hz
      obtain ⟨z, hz1, hz2⟩ := Option.map_eq_some_iff.1 hz
      simp [execOp, ho, Instr.alloc, zeroValue, typeInfo, hq, hz1, newVar, newRow, go_sem]
      rw [← hz2]
      rfl
  unfold Oper.wp
  rw [hr]
  exact h (.pointer (some ⟨w.heap.size, 0, none⟩)) _ rfl (M.swap hi (x' := .blk w.heap.size t cs) (Below.out (bel1 _ _) _) (Blk.new _ _ _) (fun g hg => by simp only [Ent.fp, List.mem_singleton] at hg; exact .inr (by omega)) (fun g hg => by cases hg))
/-- A store of a whole struct into a variable of the call's own. -/
theorem ow_stA {o : Oper} {R : List Nat} {w0 w : World} {B : List Ent} {K : Act → World → Prop} {t ty : TypeId} {g i : Nat} {cs cs' : Array Value} {x y : Operand} (M : Mm R w0 w B) (ho : o.op = .store ty x y) (hx : a.eval x = .pointer (some ⟨g, 0, none⟩)) (hy : a.eval y = .agg cs')
    (hi : B[i]? = some (.blk g t cs)) {m : Nat} (hT : AggTy P ty m) (hm : cs.size = m) (hm' : cs'.size = m) (h1 : cs'.toList.all (·.oneCell') = true) (hd : o.dst = none)
    (h : ∀ x w', Mm R w0 w' (B.set i (.blk g t cs')) → K (a.put o.dst x) w') : o.wp P a w K Q := by
  obtain ⟨_, _, _, hi'⟩ := hT
  exact wp_store_row ty x y ho g cs' hx hy t cs (M.at hi) (by rw [hi', hm']) (by rw [hm, hm']) (by simpa using h1) (h undef _ (M.setRow hi cs'))
/-- A call that turns something, in a statement of open order. -/
theorem ow_callT {o : Oper} {R : List Nat} {w0 w : World} {B : List Ent} {K : Act → World → Prop} {f : FuncId} {xs : List Operand} {ts : Array TypeId} {args : List Value} {i : Nat} {x : Ent} {Z : Value → Ent → Prop} (M : Mm R w0 w B) (ho : o.op = .call { callee := .value (.func f), args := xs.toArray, argTypes := ts })
    (he : enters P f = true) (ha : xs.map a.eval = args) (hi : B[i]? = some x) (hc : Calls P f args.toArray w fun e w' => ∃ v x', e = .returned v ∧ Out x.fp w w' ∧ x'.at w' ∧ (∀ g ∈ x'.fp, g ∈ x.fp ∨ w.heap.size ≤ g) ∧ x'.base = [] ∧ Z v x')
    (h : ∀ v x' w', Z v x' → Mm R w0 w' (B.set i x') → K (a.put o.dst v) w') : o.wp P a w K Q :=
  ow_callZ (Z := fun v w' => ∃ x', Z v x' ∧ Mm R w0 w' (B.set i x')) ho he ha (hc.mono fun e w' ⟨v, x', h1, h2, h3, h4, h5, h6⟩ => ⟨v, h1, x', h6, M.swap hi h2 h3 h4 (fun g hg => by rw [h5] at hg; cases hg)⟩) (fun v w' ⟨x', h1, h2⟩ => h v x' w' h1 h2)
section
variable {o : Oper} {x y : Operand}
theorem pu_eqlNN {t t' e : TypeId} (ho : o.op = .binOp .eql t x y t') (hx : a.eval x = .pointer none) (hy : a.eval y = .pointer none) (ht : P.underlying t = some (.pointer e)) : Pure P o a (.bool true) := fun w => by
  simp only [execOp, ho, hx, hy]; simp [go_sem, ht]
theorem pu_neqNN {t t' e : TypeId} (ho : o.op = .binOp .neq t x y t') (hx : a.eval x = .pointer none) (hy : a.eval y = .pointer none) (ht : P.underlying t = some (.pointer e)) : Pure P o a (.bool false) := fun w => by
  simp only [execOp, ho, hx, hy]; simp [go_sem, ht]
end
theorem pu_lit {o : Oper} {b c : Bool} (h : Pure P o a (.bool b)) (e : b = c) : Pure P o a (.bool c) := e ▸ h
end
end Go.Proofs.Ytcnkakahhekobaa
