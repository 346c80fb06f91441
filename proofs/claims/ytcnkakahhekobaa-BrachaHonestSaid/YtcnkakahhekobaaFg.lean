/- The logic's steps once more, the frame in the goal: short lines. Any seat. -/
import Derived.Test.YtcnkakahhekobaaFx
namespace Go.Proofs.Ytcnkakahhekobaa
open Go.RowKit
set_option maxRecDepth 100000
set_option linter.unusedSimpArgs false
set_option linter.unusedVariables false

def evL (L : List (Nat × Value)) : Operand → Option Value
  | .tmp k => look L k
  | .const v => some v
  | .func f => some (.func (.func f) #[] #[])
  | .global _ => none
theorem Fr.evL {a : Act} {n : Nat} {L : List (Nat × Value)} (F : Fr a n L) {x : Operand} {v : Value} (h : evL L x = some v) : a.eval x = v := by
  cases x with
  | tmp k => exact F.ev h
  | const u => injection h
  | func f => injection h
  | global g => cases h
def seenL (n : Nat) (L : List (Nat × Value)) (ops : List Oper) (j : Nat) : Option Value :=
  match ops[j]? with
  | some oj => match oj.dst with
    | some d => match Nat.blt d n with
      | true => look L d
      | false => none
    | none => none
  | none => none
def wantL (n : Nat) (L : List (Nat × Value)) (ops : List Oper) (o : Oper) : Bool :=
  match o.guard with
  | none => true
  | some (j, b) => match seenL n L ops j with
    | some (.bool c) => match b, c with
      | true, true => true
      | false, false => true
      | _, _ => false
    | _ => false
def skipL (n : Nat) (L : List (Nat × Value)) (ops : List Oper) (o : Oper) : Prop :=
  match o.guard with
  | none => False
  | some (j, b) => seenL n L ops j = some (.bool !b) ∨ seenL n L ops j = some undef
theorem seen_some {n : Nat} {L : List (Nat × Value)} {ops : List Oper} {j : Nat} {v : Value} (h : seenL n L ops j = some v) : ∃ oj d, ops[j]? = some oj ∧ oj.dst = some d ∧ Nat.blt d n = true ∧ look L d = some v := by
  unfold seenL at h
  split at h
  · rename_i oj hj
    split at h
    · rename_i d hd
      split at h
      · rename_i hb; exact ⟨oj, d, hj, hd, hb, h⟩
      · cases h
    · cases h
  · cases h
section
variable {P : Program} {ops rest : List Oper} {o : Oper} {a : Act} {n d : Nat} {L : List (Nat × Value)} {Q : Exit → Act → World → Prop} {w : World} {v u : Value} {x y c : Operand} {t t' e s : TypeId} {i j : Int} {k k' : IntKind} {vs : Array Value} {q f g p m N : Nat} {xs : List Value} {cs : Array Value}
theorem wantL_ok (F : Fr a n L) (h : wantL n L ops o = true) : Region.wanted o (yielded ops.toArray a.tmps) = true := by
  unfold wantL at h
  split at h
  · rename_i hg; exact wt0 hg
  · rename_i j b hg
    split at h
    · rename_i c hs
      obtain ⟨oj, d, h1, h2, h3, h4⟩ := seen_some hs
      cases b <;> cases c <;> first | exact wt1 F hg h1 h2 h4 h3 | exact absurd h (by decide)
    · cases h
theorem skipL_ok (F : Fr a n L) (h : skipL n L ops o) : Region.wanted o (yielded ops.toArray a.tmps) = false := by
  unfold skipL at h
  split at h
  · cases h
  · rename_i j b hg
    rcases h with h | h
    · obtain ⟨oj, d, h1, h2, h3, h4⟩ := seen_some h; exact wtn F hg h1 h2 h4 h3
    · obtain ⟨oj, d, h1, h2, h3, h4⟩ := seen_some h; exact wtu F hg h1 h2 h4 h3
theorem puG (hp : ∀ a, Fr a n L → Pure P o a v) (h : ∀ a, Fr a n ((d, v) :: L) → wpList P ops.toArray Q rest a w) (hw : wantL n L ops o = true := by exact rfl) (hd : o.dst = some d := by exact rfl) (hdn : Nat.blt d n = true := by exact rfl) : ∀ a, Fr a n L → wpList P ops.toArray Q (o :: rest) a w :=
  fun a F => sq_pure F (wantL_ok F hw) (hp a F) hd hdn h
theorem rdG (hp : ∀ a, Fr a n L → Rdy P o a (fun w' => w' = w) v) (h : ∀ a, Fr a n ((d, v) :: L) → wpList P ops.toArray Q rest a w) (hw : wantL n L ops o = true := by exact rfl) (hd : o.dst = some d := by exact rfl) (hdn : Nat.blt d n = true := by exact rfl) : ∀ a, Fr a n L → wpList P ops.toArray Q (o :: rest) a w :=
  fun a F => sq_rd F (wantL_ok F hw) (hp a F) hd hdn h
theorem skG (h : ∀ a, Fr a n ((d, undef) :: L) → wpList P ops.toArray Q rest a w) (hd : o.dst = some d := by exact rfl) (hw : skipL n L ops o := by first | exact .inl rfl | exact .inr rfl) (hdn : Nat.blt d n = true := by exact rfl) : ∀ a, Fr a n L → wpList P ops.toArray Q (o :: rest) a w :=
  fun a F => sq_skip F (skipL_ok F hw) hd hdn h
theorem mvG (h : ∀ a, Fr a n ((d, v) :: L) → wpList P ops.toArray Q rest a w) (ho : o.op = .move x := by exact rfl) (hx : evL L x = some v := by exact rfl) (hw : wantL n L ops o = true := by exact rfl) (hd : o.dst = some d := by exact rfl) (hdn : Nat.blt d n = true := by exact rfl) : ∀ a, Fr a n L → wpList P ops.toArray Q (o :: rest) a w :=
  puG (fun _ F => pu_move ho (F.evL hx)) h hw hd hdn
theorem asG (h : ∀ a, Fr a n ((d, v) :: L) → wpList P ops.toArray Q rest a w) (ho : o.op = .assign x := by exact rfl) (hx : evL L x = some v := by exact rfl) (hw : wantL n L ops o = true := by exact rfl) (hd : o.dst = some d := by exact rfl) (hdn : Nat.blt d n = true := by exact rfl) : ∀ a, Fr a n L → wpList P ops.toArray Q (o :: rest) a w :=
  puG (fun _ F => pu_assign ho (F.evL hx)) h hw hd hdn
theorem faG (hf : fieldOff P s f = some q) (h : ∀ a, Fr a n ((d, .pointer (some ⟨g, p + q, none⟩)) :: L) → wpList P ops.toArray Q rest a w) (ho : o.op = .fieldAddr s x f := by exact rfl) (hx : evL L x = some (.pointer (some ⟨g, p, none⟩)) := by exact rfl) (hw : wantL n L ops o = true := by exact rfl) (hd : o.dst = some d := by exact rfl) (hdn : Nat.blt d n = true := by exact rfl) : ∀ a, Fr a n L → wpList P ops.toArray Q (o :: rest) a w :=
  puG (fun _ F => pu_field ho (F.evL hx) hf) h hw hd hdn
theorem exG (h : ∀ a, Fr a n ((d, v) :: L) → wpList P ops.toArray Q rest a w) (ho : o.op = .extract x q := by exact rfl) (hx : evL L x = some (.tuple vs) := by exact rfl) (hv : vs[q]? = some v := by exact rfl) (hw : wantL n L ops o = true := by exact rfl) (hd : o.dst = some d := by exact rfl) (hdn : Nat.blt d n = true := by exact rfl) : ∀ a, Fr a n L → wpList P ops.toArray Q (o :: rest) a w :=
  puG (fun _ F => pu_extract ho (F.evL hx) hv) h hw hd hdn
theorem lsG (h : ∀ a, Fr a n ((d, .bool (decide (i < j))) :: L) → wpList P ops.toArray Q rest a w) (ho : o.op = .binOp .lss t x y t' := by exact rfl) (hx : evL L x = some (.int k i) := by exact rfl) (hy : evL L y = some (.int k j) := by exact rfl) (hw : wantL n L ops o = true := by exact rfl) (hd : o.dst = some d := by exact rfl) (hdn : Nat.blt d n = true := by exact rfl) : ∀ a, Fr a n L → wpList P ops.toArray Q (o :: rest) a w :=
  puG (fun _ F => pu_lss ho (F.evL hx) (F.evL hy)) h hw hd hdn
theorem leG (h : ∀ a, Fr a n ((d, .bool (decide (i ≤ j))) :: L) → wpList P ops.toArray Q rest a w) (ho : o.op = .binOp .leq t x y t' := by exact rfl) (hx : evL L x = some (.int k i) := by exact rfl) (hy : evL L y = some (.int k j) := by exact rfl) (hw : wantL n L ops o = true := by exact rfl) (hd : o.dst = some d := by exact rfl) (hdn : Nat.blt d n = true := by exact rfl) : ∀ a, Fr a n L → wpList P ops.toArray Q (o :: rest) a w :=
  puG (fun _ F => pu_leq ho (F.evL hx) (F.evL hy)) h hw hd hdn
theorem gtG (h : ∀ a, Fr a n ((d, .bool (decide (j < i))) :: L) → wpList P ops.toArray Q rest a w) (ho : o.op = .binOp .gtr t x y t' := by exact rfl) (hx : evL L x = some (.int k i) := by exact rfl) (hy : evL L y = some (.int k j) := by exact rfl) (hw : wantL n L ops o = true := by exact rfl) (hd : o.dst = some d := by exact rfl) (hdn : Nat.blt d n = true := by exact rfl) : ∀ a, Fr a n L → wpList P ops.toArray Q (o :: rest) a w :=
  puG (fun _ F => pu_gtr ho (F.evL hx) (F.evL hy)) h hw hd hdn
theorem geG (h : ∀ a, Fr a n ((d, .bool (decide (j ≤ i))) :: L) → wpList P ops.toArray Q rest a w) (ho : o.op = .binOp .geq t x y t' := by exact rfl) (hx : evL L x = some (.int k i) := by exact rfl) (hy : evL L y = some (.int k j) := by exact rfl) (hw : wantL n L ops o = true := by exact rfl) (hd : o.dst = some d := by exact rfl) (hdn : Nat.blt d n = true := by exact rfl) : ∀ a, Fr a n L → wpList P ops.toArray Q (o :: rest) a w :=
  puG (fun _ F => pu_geq ho (F.evL hx) (F.evL hy)) h hw hd hdn
theorem eqG (h : ∀ a, Fr a n ((d, .bool (decide (i = j))) :: L) → wpList P ops.toArray Q rest a w) (ho : o.op = .binOp .eql t x y t' := by exact rfl) (hx : evL L x = some (.int k i) := by exact rfl) (hy : evL L y = some (.int k j) := by exact rfl) (hw : wantL n L ops o = true := by exact rfl) (hd : o.dst = some d := by exact rfl) (hdn : Nat.blt d n = true := by exact rfl) : ∀ a, Fr a n L → wpList P ops.toArray Q (o :: rest) a w :=
  puG (fun _ F => pu_eqlI ho (F.evL hx) (F.evL hy)) h hw hd hdn
theorem adG (h : ∀ a, Fr a n ((d, .int .i64 (i + j)) :: L) → wpList P ops.toArray Q rest a w) (ho : o.op = .binOp .add t x y t' := by exact rfl) (hx : evL L x = some (.int .i64 i) := by exact rfl) (hy : evL L y = some (.int .i64 j) := by exact rfl) (h1 : -9223372036854775808 ≤ i + j := by omega) (h2 : i + j ≤ 9223372036854775807 := by omega) (hw : wantL n L ops o = true := by exact rfl) (hd : o.dst = some d := by exact rfl) (hdn : Nat.blt d n = true := by exact rfl) : ∀ a, Fr a n L → wpList P ops.toArray Q (o :: rest) a w :=
  puG (fun _ F => pu_add ho (F.evL hx) (F.evL hy) h1 h2) h hw hd hdn
theorem pkT (h : ∀ a, Fr a n ((d, v) :: L) → wpList P ops.toArray Q rest a w) (ho : o.op = .pick c x y := by exact rfl) (hc : evL L c = some (.bool true) := by exact rfl) (hx : evL L x = some v := by exact rfl) (hw : wantL n L ops o = true := by exact rfl) (hd : o.dst = some d := by exact rfl) (hdn : Nat.blt d n = true := by exact rfl) : ∀ a, Fr a n L → wpList P ops.toArray Q (o :: rest) a w :=
  puG (fun _ F => pu_pickt ho (F.evL hc) (F.evL hx)) h hw hd hdn
theorem pkF (h : ∀ a, Fr a n ((d, v) :: L) → wpList P ops.toArray Q rest a w) (ho : o.op = .pick c x y := by exact rfl) (hc : evL L c = some (.bool false) := by exact rfl) (hy : evL L y = some v := by exact rfl) (hw : wantL n L ops o = true := by exact rfl) (hd : o.dst = some d := by exact rfl) (hdn : Nat.blt d n = true := by exact rfl) : ∀ a, Fr a n L → wpList P ops.toArray Q (o :: rest) a w :=
  puG (fun _ F => pu_pickf ho (F.evL hc) (F.evL hy)) h hw hd hdn
theorem lcG {ty : TypeId} {B : List Ent} {R : List Nat} {w0 : World} (M : Mm R w0 w B) (hT : OneTy P ty) {r : Nat} (hb : B[r]? = some (.blk g t cs)) (h : ∀ a, Fr a n ((d, v) :: L) → wpList P ops.toArray Q rest a w) (ho : o.op = .load ty x := by exact rfl) (hx : evL L x = some (.pointer (some ⟨g, p, none⟩)) := by exact rfl) (hc : cs[p]? = some v := by exact rfl) (hw : wantL n L ops o = true := by exact rfl) (hd : o.dst = some d := by exact rfl) (hdn : Nat.blt d n = true := by exact rfl) : ∀ a, Fr a n L → wpList P ops.toArray Q (o :: rest) a w :=
  rdG (fun _ F => ld_cell ho (F.evL hx) hT (M.rd hb) hc) h hw hd hdn
end
section
variable {P : Program} {Q : Exit → Act → World → Prop} {n : Nat} {L : List (Nat × Value)} {w : World} {id : Nat} {l : List Oper} {y : Code} {ops : Array Oper}
theorem rlG (h : ∀ a, Fr a n L → wpList P l.toArray Q l a w) : ∀ a, Fr a n L → (Code.region id l.toArray false).wp P Q a w := fun a F => wp_region_lit (h a F)
theorem srG (h : ∀ a, Fr a n L → wpList P l.toArray (Exit.then (y.wp P Q) Q) l a w) : ∀ a, Fr a n L → (Code.seq (Code.region id l.toArray false) y).wp P Q a w := fun a F => wp_seq (wp_region_lit (h a F))
theorem nxG (h : ∀ a, Fr a n L → y.wp P Q a w) : ∀ a, Fr a n L → wpList P ops (Exit.then (y.wp P Q) Q) [] a w := fun a F => nx (h a F)
end
end Go.Proofs.Ytcnkakahhekobaa
