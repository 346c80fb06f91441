/- Put together: Ob, Fg, Rq, Gv, Uc, Gj, Gi. -/
import Derived.Test.YtcobpabmmbcjcaaJ2
import Derived.Test.YtcobpabmmbcjcaaFx
import Derived.Test.YtcobpabmmbcjcaaJ1
import Derived.Lib.BufferWrite
namespace Go.Proofs.Ytcobpabmmbcjcaa
open Go.RowKit
set_option maxRecDepth 100000
set_option linter.unusedSimpArgs false
set_option linter.unusedVariables false
def encP : Enc Nat := ⟨1, fun g => [.pointer (some ⟨g, 0, none⟩)], 0, fun _ => rfl, fun a v h => by
  simp only [List.mem_cons, List.not_mem_nil, or_false] at h; subst h; rfl⟩
def cP (L : List Nat) : List Value := cE encP L
def atP (L : List Nat) (i : Nat) : Nat := atE encP L i
theorem cP_at {L : List Nat} {i : Nat} (h : i < L.length) : (cP L)[i * 1]? = some (.pointer (some ⟨atP L i, 0, none⟩)) := by
  have h1 := cE_at (E := encP) h
  have h2 : ((cP L).drop (i * 1)).take 1 = [.pointer (some ⟨atP L i, 0, none⟩)] := h1
  have h3 : (((cP L).drop (i * 1)).take 1)[0]? = some (.pointer (some ⟨atP L i, 0, none⟩)) := by rw [h2]; rfl
  rw [List.getElem?_take] at h3
  simpa using h3
theorem cP_app (L K : List Nat) : cP (L ++ K) = cP L ++ cP K := cE_app L K
theorem cP_ones (L : List Nat) : ∀ z ∈ cP L, z.oneCell' = true := cE_ones L
abbrev RdP (w : World) (v : Value) (L : List Nat) : Prop := RdV w 1 v L.length (cP L)
section
variable {α : Type} {fp : α → List Nat} {Φ : α → World → Prop} {L : List α} {w w' : World}
structure ObjsV (fp : α → List Nat) (Φ : α → World → Prop) (L : List α) (w : World) : Prop where
  all : ∀ a ∈ L, Φ a w
  nd : L.Pairwise fun a b => ∀ g ∈ fp a, ¬ g ∈ fp b
theorem ObjsV.loc (hl : ∀ a, Loc (fp a) (Φ a)) (L : List α) : Loc (L.flatMap fp) (ObjsV fp Φ L) := fun w w' hk h => by
  have hin : ∀ a ∈ L, ∀ g ∈ fp a, g ∈ L.flatMap fp := fun a ha g hg => List.mem_flatMap.2 ⟨a, ha, hg⟩
  refine ⟨⟨fun a ha => (hl a w w' (fun g hg => hk g (hin a ha g hg)) (h.all a ha)).1, h.nd⟩, fun g hg => ?_⟩
  obtain ⟨a, ha, hg⟩ := List.mem_flatMap.1 hg
  exact (hl a w w (fun _ _ => rfl) (h.all a ha)).2 g hg
theorem ObjsV.nil (fp : α → List Nat) (Φ : α → World → Prop) (w : World) : ObjsV fp Φ [] w := ⟨fun a ha => (by cases ha), List.Pairwise.nil⟩
theorem ObjsV.apart (h : ObjsV fp Φ L w) {i j : Nat} (hi : i < L.length) (hj : j < L.length) (hne : i ≠ j) : ∀ g ∈ fp L[i], ¬ g ∈ fp L[j] := by
  have hp := List.pairwise_iff_getElem.1 h.nd
  rcases Nat.lt_or_gt_of_ne hne with h1 | h1
  · exact hp i j hi hj h1
  · exact fun g hg hg' => hp j i hj hi h1 g hg' hg
theorem ObjsV.lt (hl : ∀ a, Loc (fp a) (Φ a)) (h : ObjsV fp Φ L w) {a : α} (ha : a ∈ L) : ∀ g ∈ fp a, g < w.heap.size := (hl a w w (fun _ _ => rfl) (h.all a ha)).2
theorem ObjsV.turn (hl : ∀ a, Loc (fp a) (Φ a)) (h : ObjsV fp Φ L w) {i : Nat} (hi : i < L.length) {Z : Value → Ent → Prop} {e : Ending} {Z' : Value → α → Prop}
    (ht : TurnsE w (.own (fp L[i]) (Φ L[i])) (fun u x' => ∃ a', Z' u a' ∧ x' = .own (fp a') (Φ a')) e w') :
    TurnsE w (.own (L.flatMap fp) (ObjsV fp Φ L)) (fun u x' => ∃ a', Z' u a' ∧ x' = .own ((L.set i a').flatMap fp) (ObjsV fp Φ (L.set i a'))) e w' := by
  obtain ⟨v, x', h1, h2, h3, h4, h5, a', h6, rfl⟩ := ht
  have hsub : ∀ g ∈ fp L[i], g ∈ L.flatMap fp := fun g hg => List.mem_flatMap.2 ⟨_, List.getElem_mem hi, hg⟩
  have hother : ∀ j (hj : j < L.length), j ≠ i → Φ L[j] w' ∧ ∀ g ∈ fp L[j], ¬ g ∈ fp a' := fun j hj hne => by
    have hlt := h.lt hl (List.getElem_mem hj)
    have hap := h.apart hj hi hne
    refine ⟨(hl _ w w' (fun g hg => h2.block g (hlt g hg) (hap g hg)) (h.all _ (List.getElem_mem hj))).1, fun g hg hg' => ?_⟩
    rcases h4 g hg' with h7 | h7
    · exact hap g hg h7
    · have := hlt g hg; omega
  refine ⟨v, .own ((L.set i a').flatMap fp) (ObjsV fp Φ (L.set i a')), h1, h2.mono hsub, ⟨⟨fun b hb => ?_, ?_⟩, ObjsV.loc hl _⟩, fun g hg => ?_, rfl, a', h6, rfl⟩
  · obtain ⟨j, hj, rfl⟩ := List.mem_iff_getElem.1 hb
    rw [List.length_set] at hj
    rw [List.getElem_set]
    split
    · exact h3.1
    · rename_i hne; exact (hother j hj (fun e => hne e.symm)).1
  · rw [List.pairwise_iff_getElem]
    intro j k hj hk hjk
    rw [List.length_set] at hj hk
    rw [List.getElem_set, List.getElem_set]
    by_cases e1 : i = j
    · rw [if_pos e1, if_neg (by omega)]
      exact fun g hg hg' => (hother k hk (by omega)).2 g hg' hg
    · rw [if_neg e1]
      by_cases e2 : i = k
      · rw [if_pos e2]; exact (hother j hj (by omega)).2
      · rw [if_neg e2]; exact h.apart hj hk (by omega)
  · obtain ⟨b, hb, hg⟩ := List.mem_flatMap.1 hg
    obtain ⟨j, hj, rfl⟩ := List.mem_iff_getElem.1 hb
    rw [List.length_set] at hj
    rw [List.getElem_set] at hg
    split at hg
    · rcases h4 g hg with h7 | h7
      · exact .inl (hsub g h7)
      · exact .inr h7
    · exact .inl (List.mem_flatMap.2 ⟨_, List.getElem_mem hj, hg⟩)
theorem ObjsV.push (h : ObjsV fp Φ L w) {a : α} (ha : Φ a w) (hd : ∀ g ∈ fp a, ¬ g ∈ L.flatMap fp) : ObjsV fp Φ (L ++ [a]) w := by
  refine ⟨fun b hb => ?_, List.pairwise_append.2 ⟨h.nd, List.pairwise_singleton _ _, fun b hb c hc g hg hg' => ?_⟩⟩
  · rcases List.mem_append.1 hb with hb | hb
    · exact h.all b hb
    · rw [List.mem_singleton.1 hb]; exact ha
  · rw [List.mem_singleton.1 hc] at hg'
    exact hd g hg' (List.mem_flatMap.2 ⟨b, hb, hg⟩)
end
theorem Mm.pushO {α : Type} {fp : α → List Nat} {Φ : α → World → Prop} {L : List α} {a : α} {R : List Nat} {w w0 : World} {B : List Ent} (hl : ∀ a, Loc (fp a) (Φ a)) (M : Mm R w0 w (.own (fp a) (Φ a) :: .own (L.flatMap fp) (ObjsV fp Φ L) :: B)) :
    Mm R w0 w (.own ((L ++ [a]).flatMap fp) (ObjsV fp Φ (L ++ [a])) :: B) := by
  have hap := M.apart (i := 0) (j := 1) rfl rfl (by decide)
  refine Mm.recast (X := [.own (fp a) (Φ a), .own (L.flatMap fp) (ObjsV fp Φ L)]) (Y := [_]) M (fun y hy => ?_) (fun y hy g hg => ?_) (List.pairwise_singleton _ _) (fun y hy g hg => ?_)
  · rw [List.mem_singleton.1 hy]
    exact ⟨(M.pv (i := 1) rfl).push (M.pv (i := 0) rfl) hap, ObjsV.loc hl _⟩
  · rw [List.mem_singleton.1 hy] at hg
    have hg' : g ∈ (L ++ [a]).flatMap fp := hg
    rw [List.flatMap_append, List.mem_append] at hg'
    rcases hg' with h | h
    · exact ⟨.own (L.flatMap fp) (ObjsV fp Φ L), by simp, h⟩
    · exact ⟨.own (fp a) (Φ a), by simp, by simpa [Ent.fp] using h⟩
  · rw [List.mem_singleton.1 hy] at hg; cases hg
end Go.Proofs.Ytcobpabmmbcjcaa
namespace Go.Proofs.Ytcobpabmmbcjcaa
open Go.RowKit
set_option maxRecDepth 100000
set_option linter.unusedSimpArgs false
set_option linter.unusedVariables false
def evL (L : List (Nat × Value)) : Operand → Option Value
  | .tmp k => look L k
  | .const v => some v
  | .func f => some (.func (.func f) #[] #[])
  | .global _ => none
theorem Fr.evL {a : Act} {n : Nat} {L : List (Nat × Value)} (F : Fr a n L) {x : Operand} {v : Value} (h : evL L x = some v) : a.eval x = v := by
  cases x with
  | tmp k => exact F.ev h
  | const u => injection h
  | func f => injection h
  | global g => cases h
def seenL (n : Nat) (L : List (Nat × Value)) (ops : List Oper) (j : Nat) : Option Value :=
  match ops[j]? with
  | some oj => match oj.dst with
    | some d => match Nat.blt d n with
      | true => look L d
      | false => none
    | none => none
  | none => none
def wantL (n : Nat) (L : List (Nat × Value)) (ops : List Oper) (o : Oper) : Bool :=
  match o.guard with
  | none => true
  | some (j, b) => match seenL n L ops j with
    | some (.bool c) => match b, c with
      | true, true => true
      | false, false => true
      | _, _ => false
    | _ => false
def skipL (n : Nat) (L : List (Nat × Value)) (ops : List Oper) (o : Oper) : Prop :=
  match o.guard with
  | none => False
  | some (j, b) => seenL n L ops j = some (.bool !b) ∨ seenL n L ops j = some undef
theorem seen_some {n : Nat} {L : List (Nat × Value)} {ops : List Oper} {j : Nat} {v : Value} (h : seenL n L ops j = some v) : ∃ oj d, ops[j]? = some oj ∧ oj.dst = some d ∧ Nat.blt d n = true ∧ look L d = some v := by
  unfold seenL at h
  split at h
  · rename_i oj hj
    split at h
    · rename_i d hd
      split at h
      · rename_i hb; exact ⟨oj, d, hj, hd, hb, h⟩
      · cases h
    · cases h
  · cases h
section
variable {P : Program} {ops rest : List Oper} {o : Oper} {a : Act} {n d : Nat} {L : List (Nat × Value)} {Q : Exit → Act → World → Prop} {w : World} {v u : Value} {x y c : Operand} {t t' e s : TypeId} {i j : Int} {k k' : IntKind} {vs : Array Value} {q f g p m N : Nat} {xs : List Value} {cs : Array Value}
theorem wantL_ok (F : Fr a n L) (h : wantL n L ops o = true) : Region.wanted o (yielded ops.toArray a.tmps) = true := by
  unfold wantL at h
  split at h
  · rename_i hg; exact wt0 hg
  · rename_i j b hg
    split at h
    · rename_i c hs
      obtain ⟨oj, d, h1, h2, h3, h4⟩ := seen_some hs
      cases b <;> cases c <;> first | exact wt1 F hg h1 h2 h4 h3 | exact absurd h (by decide)
    · cases h
theorem skipL_ok (F : Fr a n L) (h : skipL n L ops o) : Region.wanted o (yielded ops.toArray a.tmps) = false := by
  unfold skipL at h
  split at h
  · cases h
  · rename_i j b hg
    rcases h with h | h
    · obtain ⟨oj, d, h1, h2, h3, h4⟩ := seen_some h; exact wtn F hg h1 h2 h4 h3
    · obtain ⟨oj, d, h1, h2, h3, h4⟩ := seen_some h; exact wtu F hg h1 h2 h4 h3
theorem puG (hp : ∀ a, Fr a n L → Pure P o a v) (h : ∀ a, Fr a n ((d, v) :: L) → wpList P ops.toArray Q rest a w) (hw : wantL n L ops o = true := by exact rfl) (hd : o.dst = some d := by exact rfl) (hdn : Nat.blt d n = true := by exact rfl) : ∀ a, Fr a n L → wpList P ops.toArray Q (o :: rest) a w :=
  fun a F => sq_pure F (wantL_ok F hw) (hp a F) hd hdn h
theorem rdG (hp : ∀ a, Fr a n L → Rdy P o a (fun w' => w' = w) v) (h : ∀ a, Fr a n ((d, v) :: L) → wpList P ops.toArray Q rest a w) (hw : wantL n L ops o = true := by exact rfl) (hd : o.dst = some d := by exact rfl) (hdn : Nat.blt d n = true := by exact rfl) : ∀ a, Fr a n L → wpList P ops.toArray Q (o :: rest) a w :=
  fun a F => sq_rd F (wantL_ok F hw) (hp a F) hd hdn h
theorem skG (h : ∀ a, Fr a n ((d, undef) :: L) → wpList P ops.toArray Q rest a w) (hd : o.dst = some d := by exact rfl) (hw : skipL n L ops o := by first | exact .inl rfl | exact .inr rfl) (hdn : Nat.blt d n = true := by exact rfl) : ∀ a, Fr a n L → wpList P ops.toArray Q (o :: rest) a w :=
  fun a F => sq_skip F (skipL_ok F hw) hd hdn h
theorem mvG (h : ∀ a, Fr a n ((d, v) :: L) → wpList P ops.toArray Q rest a w) (ho : o.op = .move x := by exact rfl) (hx : evL L x = some v := by exact rfl) (hw : wantL n L ops o = true := by exact rfl) (hd : o.dst = some d := by exact rfl) (hdn : Nat.blt d n = true := by exact rfl) : ∀ a, Fr a n L → wpList P ops.toArray Q (o :: rest) a w :=
  puG (fun _ F => pu_move ho (F.evL hx)) h hw hd hdn
theorem asG (h : ∀ a, Fr a n ((d, v) :: L) → wpList P ops.toArray Q rest a w) (ho : o.op = .assign x := by exact rfl) (hx : evL L x = some v := by exact rfl) (hw : wantL n L ops o = true := by exact rfl) (hd : o.dst = some d := by exact rfl) (hdn : Nat.blt d n = true := by exact rfl) : ∀ a, Fr a n L → wpList P ops.toArray Q (o :: rest) a w :=
  puG (fun _ F => pu_assign ho (F.evL hx)) h hw hd hdn
theorem faG (hf : fieldOff P s f = some q) (h : ∀ a, Fr a n ((d, .pointer (some ⟨g, p + q, none⟩)) :: L) → wpList P ops.toArray Q rest a w) (ho : o.op = .fieldAddr s x f := by exact rfl) (hx : evL L x = some (.pointer (some ⟨g, p, none⟩)) := by exact rfl) (hw : wantL n L ops o = true := by exact rfl) (hd : o.dst = some d := by exact rfl) (hdn : Nat.blt d n = true := by exact rfl) : ∀ a, Fr a n L → wpList P ops.toArray Q (o :: rest) a w :=
  puG (fun _ F => pu_field ho (F.evL hx) hf) h hw hd hdn
theorem exG (h : ∀ a, Fr a n ((d, v) :: L) → wpList P ops.toArray Q rest a w) (ho : o.op = .extract x q := by exact rfl) (hx : evL L x = some (.tuple vs) := by exact rfl) (hv : vs[q]? = some v := by exact rfl) (hw : wantL n L ops o = true := by exact rfl) (hd : o.dst = some d := by exact rfl) (hdn : Nat.blt d n = true := by exact rfl) : ∀ a, Fr a n L → wpList P ops.toArray Q (o :: rest) a w :=
  puG (fun _ F => pu_extract ho (F.evL hx) hv) h hw hd hdn
theorem lsG (h : ∀ a, Fr a n ((d, .bool (decide (i < j))) :: L) → wpList P ops.toArray Q rest a w) (ho : o.op = .binOp .lss t x y t' := by exact rfl) (hx : evL L x = some (.int k i) := by exact rfl) (hy : evL L y = some (.int k j) := by exact rfl) (hw : wantL n L ops o = true := by exact rfl) (hd : o.dst = some d := by exact rfl) (hdn : Nat.blt d n = true := by exact rfl) : ∀ a, Fr a n L → wpList P ops.toArray Q (o :: rest) a w :=
  puG (fun _ F => pu_lss ho (F.evL hx) (F.evL hy)) h hw hd hdn
theorem leG (h : ∀ a, Fr a n ((d, .bool (decide (i ≤ j))) :: L) → wpList P ops.toArray Q rest a w) (ho : o.op = .binOp .leq t x y t' := by exact rfl) (hx : evL L x = some (.int k i) := by exact rfl) (hy : evL L y = some (.int k j) := by exact rfl) (hw : wantL n L ops o = true := by exact rfl) (hd : o.dst = some d := by exact rfl) (hdn : Nat.blt d n = true := by exact rfl) : ∀ a, Fr a n L → wpList P ops.toArray Q (o :: rest) a w :=
  puG (fun _ F => pu_leq ho (F.evL hx) (F.evL hy)) h hw hd hdn
theorem gtG (h : ∀ a, Fr a n ((d, .bool (decide (j < i))) :: L) → wpList P ops.toArray Q rest a w) (ho : o.op = .binOp .gtr t x y t' := by exact rfl) (hx : evL L x = some (.int k i) := by exact rfl) (hy : evL L y = some (.int k j) := by exact rfl) (hw : wantL n L ops o = true := by exact rfl) (hd : o.dst = some d := by exact rfl) (hdn : Nat.blt d n = true := by exact rfl) : ∀ a, Fr a n L → wpList P ops.toArray Q (o :: rest) a w :=
  puG (fun _ F => pu_gtr ho (F.evL hx) (F.evL hy)) h hw hd hdn
theorem geG (h : ∀ a, Fr a n ((d, .bool (decide (j ≤ i))) :: L) → wpList P ops.toArray Q rest a w) (ho : o.op = .binOp .geq t x y t' := by exact rfl) (hx : evL L x = some (.int k i) := by exact rfl) (hy : evL L y = some (.int k j) := by exact rfl) (hw : wantL n L ops o = true := by exact rfl) (hd : o.dst = some d := by exact rfl) (hdn : Nat.blt d n = true := by exact rfl) : ∀ a, Fr a n L → wpList P ops.toArray Q (o :: rest) a w :=
  puG (fun _ F => pu_geq ho (F.evL hx) (F.evL hy)) h hw hd hdn
theorem eqG (h : ∀ a, Fr a n ((d, .bool (decide (i = j))) :: L) → wpList P ops.toArray Q rest a w) (ho : o.op = .binOp .eql t x y t' := by exact rfl) (hx : evL L x = some (.int k i) := by exact rfl) (hy : evL L y = some (.int k j) := by exact rfl) (hw : wantL n L ops o = true := by exact rfl) (hd : o.dst = some d := by exact rfl) (hdn : Nat.blt d n = true := by exact rfl) : ∀ a, Fr a n L → wpList P ops.toArray Q (o :: rest) a w :=
  puG (fun _ F => pu_eqlI ho (F.evL hx) (F.evL hy)) h hw hd hdn
theorem adG (h : ∀ a, Fr a n ((d, .int .i64 (i + j)) :: L) → wpList P ops.toArray Q rest a w) (ho : o.op = .binOp .add t x y t' := by exact rfl) (hx : evL L x = some (.int .i64 i) := by exact rfl) (hy : evL L y = some (.int .i64 j) := by exact rfl) (h1 : -9223372036854775808 ≤ i + j := by omega) (h2 : i + j ≤ 9223372036854775807 := by omega) (hw : wantL n L ops o = true := by exact rfl) (hd : o.dst = some d := by exact rfl) (hdn : Nat.blt d n = true := by exact rfl) : ∀ a, Fr a n L → wpList P ops.toArray Q (o :: rest) a w :=
  puG (fun _ F => pu_add ho (F.evL hx) (F.evL hy) h1 h2) h hw hd hdn
theorem pkT (h : ∀ a, Fr a n ((d, v) :: L) → wpList P ops.toArray Q rest a w) (ho : o.op = .pick c x y := by exact rfl) (hc : evL L c = some (.bool true) := by exact rfl) (hx : evL L x = some v := by exact rfl) (hw : wantL n L ops o = true := by exact rfl) (hd : o.dst = some d := by exact rfl) (hdn : Nat.blt d n = true := by exact rfl) : ∀ a, Fr a n L → wpList P ops.toArray Q (o :: rest) a w :=
  puG (fun _ F => pu_pickt ho (F.evL hc) (F.evL hx)) h hw hd hdn
theorem pkF (h : ∀ a, Fr a n ((d, v) :: L) → wpList P ops.toArray Q rest a w) (ho : o.op = .pick c x y := by exact rfl) (hc : evL L c = some (.bool false) := by exact rfl) (hy : evL L y = some v := by exact rfl) (hw : wantL n L ops o = true := by exact rfl) (hd : o.dst = some d := by exact rfl) (hdn : Nat.blt d n = true := by exact rfl) : ∀ a, Fr a n L → wpList P ops.toArray Q (o :: rest) a w :=
  puG (fun _ F => pu_pickf ho (F.evL hc) (F.evL hy)) h hw hd hdn
theorem lcG {ty : TypeId} {B : List Ent} {R : List Nat} {w0 : World} (M : Mm R w0 w B) (hT : OneTy P ty) {r : Nat} (hb : B[r]? = some (.blk g t cs)) (h : ∀ a, Fr a n ((d, v) :: L) → wpList P ops.toArray Q rest a w) (ho : o.op = .load ty x := by exact rfl) (hx : evL L x = some (.pointer (some ⟨g, p, none⟩)) := by exact rfl) (hc : cs[p]? = some v := by exact rfl) (hw : wantL n L ops o = true := by exact rfl) (hd : o.dst = some d := by exact rfl) (hdn : Nat.blt d n = true := by exact rfl) : ∀ a, Fr a n L → wpList P ops.toArray Q (o :: rest) a w :=
  rdG (fun _ F => ld_cell ho (F.evL hx) hT (M.rd hb) hc) h hw hd hdn
end
section
variable {P : Program} {Q : Exit → Act → World → Prop} {n : Nat} {L : List (Nat × Value)} {w : World} {id : Nat} {l : List Oper} {y : Code} {ops : Array Oper}
theorem rlG (h : ∀ a, Fr a n L → wpList P l.toArray Q l a w) : ∀ a, Fr a n L → (Code.region id l.toArray false).wp P Q a w := fun a F => wp_region_lit (h a F)
theorem srG (h : ∀ a, Fr a n L → wpList P l.toArray (Exit.then (y.wp P Q) Q) l a w) : ∀ a, Fr a n L → (Code.seq (Code.region id l.toArray false) y).wp P Q a w := fun a F => wp_seq (wp_region_lit (h a F))
theorem nxG (h : ∀ a, Fr a n L → y.wp P Q a w) : ∀ a, Fr a n L → wpList P ops (Exit.then (y.wp P Q) Q) [] a w := fun a F => nx (h a F)
end
end Go.Proofs.Ytcobpabmmbcjcaa
namespace Go.Proofs.Ytcobpabmmbcjcaa
open Go.RowKit
set_option maxRecDepth 100000
set_option linter.unusedSimpArgs false
set_option linter.unusedVariables false
def idxD : List Oper → Nat → Nat → Option Nat
  | [], _, _ => none
  | o :: r, k, j => match o.dst with
    | some d => match Nat.beq d k with
      | true => some j
      | false => idxD r k (j + 1)
    | none => idxD r k (j + 1)
theorem idxD_some : ∀ {hs : List Oper} {k j0 j : Nat}, idxD hs k j0 = some j → ∃ i oj, j = j0 + i ∧ hs[i]? = some oj ∧ oj.dst = some k
  | o :: r, k, j0, j, h => by
    have hr : idxD r k (j0 + 1) = some j → ∃ i oj, j = j0 + i ∧ (o :: r)[i]? = some oj ∧ oj.dst = some k := fun h => by
      obtain ⟨i, oj, e, h1, h2⟩ := idxD_some h
      exact ⟨i + 1, oj, by omega, by rw [List.getElem?_cons_succ]; exact h1, h2⟩
    unfold idxD at h
    split at h
    · rename_i d hd
      split at h
      · rename_i hb
        injection h with h
        have := Nat.eq_of_beq_eq_true hb
        subst this
        exact ⟨0, o, by omega, rfl, hd⟩
      · exact hr h
    · exact hr h
theorem idxD_none : ∀ {hs : List Oper} {k j0 : Nat}, idxD hs k j0 = none → (hs.all fun oj => oj.dst != some k) = true
  | [], _, _, _ => rfl
  | o :: r, k, j0, h => by
    unfold idxD at h
    rw [List.all_cons, Bool.and_eq_true]
    split at h
    · rename_i d hd
      split at h
      · cases h
      · rename_i hb
        refine ⟨?_, idxD_none h⟩
        rw [hd]
        have : d ≠ k := fun e => by subst e; simp at hb
        simp [this]
    · rename_i hd
      exact ⟨by rw [hd]; rfl, idxD_none h⟩
def isSel : Op → Bool
  | .select _ _ => true
  | _ => false
def quietOK (l : List Oper) (nh : Nat) : Bool :=
  (List.range nh).all fun i => match (l.take nh)[i]? with
    | none => true
    | some o => o.guard.isNone && !isSel o.op && o.op.operands.toList.all fun x => match x with
      | .tmp k => match idxD (l.take nh) k 0 with
        | some j => Region.waitsFor .any l.toArray i j && Nat.blt j i
        | none => true
      | _ => true
def putsL : List Oper → List Value → Act → Act
  | o :: r, v :: vs, a => putsL r vs (a.put o.dst v)
  | _, _, a => a
theorem putsL_from : ∀ (os : List Oper) (vs : List Value) (k : Nat) (f : Nat → Value) (a : Act), vs.length = os.length → (∀ i v, vs[i]? = some v → f (k + i) = v) → putsFrom (fun _ => true) f os k a = putsL os vs a
  | [], _, _, _, _, _, _ => by cases ‹List Value› <;> rfl
  | o :: r, [], _, _, _, hl, _ => by simp at hl
  | o :: r, v :: vs, k, f, a, hl, hv => by
    have h0 : f k = v := hv 0 v rfl
    simp only [putsFrom, if_true, putsL, h0]
    exact putsL_from r vs (k + 1) f _ (by simpa using hl) fun i u hu => by rw [show k + 1 + i = k + (i + 1) by omega]; exact hv (i + 1) u (by simpa using hu)
theorem putsL_take : ∀ (hs : List Oper) (vs : List Value) (i : Nat) (a : Act), putsL (hs.take i) vs a = putsL (hs.take i) (vs.take i) a
  | [], _, i, _ => by cases i <;> simp [putsL]
  | _ :: _, _, 0, _ => by simp [putsL]
  | _ :: _, [], i + 1, _ => by simp [putsL]
  | _ :: r, _ :: us, i + 1, a => by simp only [List.take_succ_cons, putsL]; exact putsL_take r us i _
theorem wanted_nog {o : Oper} {ops : Array Oper} {T : Array Value} (h : o.guard.isNone = true) : Region.wanted o (yielded ops T) = true := by
  have : o.guard = none := by simpa using h
  simp [Region.wanted, this]
theorem wq_vals {P : Program} {ops : Array Oper} {C : World → Prop} {Qf : Act → Prop} : ∀ (os : List Oper) (a : Act), (∀ o ∈ os, o.guard.isNone = true) → wpQuiet P ops C Qf os a →
    ∃ vs : List Value, vs.length = os.length ∧ (∀ (i : Nat) (o : Oper) (v : Value), os[i]? = some o → vs[i]? = some v → ∀ w, C w → o.quietAt P (putsL (os.take i) vs a) C w v) ∧ Qf (putsL os vs a)
  | [], a, _, h => ⟨[], rfl, fun i o v hi => (by simp at hi), h⟩
  | o :: r, a, hg, h => by
    unfold wpQuiet at h
    rw [if_pos (wanted_nog (hg o (by simp)))] at h
    obtain ⟨v, h1, h2⟩ := h
    obtain ⟨vs, h3, h4, h5⟩ := wq_vals r _ (fun x hx => hg x (by simp [hx])) h2
    refine ⟨v :: vs, by simp [h3], fun i o' u hi hu w hw => ?_, h5⟩
    cases i with
    | zero =>
      simp only [List.getElem?_cons_zero, Option.some.injEq] at hi hu
      subst hi; subst hu
      exact h1 w hw
    | succ i => exact h4 i o' u (by simpa using hi) (by simpa using hu) w hw
theorem apart_take : ∀ (hs : List Oper) (i : Nat), dstsApart hs = true → dstsApart (hs.take i) = true
  | [], _, _ => by simp [dstsApart]
  | _ :: _, 0, _ => rfl
  | o :: r, i + 1, h => by
    simp only [dstsApart, Bool.and_eq_true, List.take_succ_cons] at h ⊢
    exact ⟨List.all_eq_true.2 fun x hx => List.all_eq_true.1 h.1 x (List.mem_of_mem_take hx), apart_take r i h.2⟩
section
variable {P : Program} {Q : Exit → Act → World → Prop} {R0 : List Nat} {w0 w : World} {a : Act} {n : Nat} {L : List (Nat × Value)} {B : List Ent} {l : List Oper}
theorem rg_qT {id : Nat} (F : Fr a n L) (M : Mm R0 w0 w B) (nh : Nat) (hm : P.follows .mixedOrders = true) (hB : headsG l.toArray (l.take nh) (l.drop nh).length = true) (hsz : ((l.take nh).all fun o => match o.dst with | some d => Nat.blt d n | none => true) = true) (hq : quietOK l nh = true)
    (h : wpQuiet P l.toArray (fun w' => Below w.heap.size w w') (fun a' => ∀ w', Mm R0 w0 w' B → wpList P l.toArray Q (l.drop nh) a' w') (l.take nh) a) : (Code.region id l.toArray true).wp P Q a w := by
  have hqi : ∀ i o, (l.take nh)[i]? = some o → o.guard.isNone = true ∧ isSel o.op = false ∧ ∀ x ∈ o.op.operands, ∀ k, x = .tmp k → match idxD (l.take nh) k 0 with | some j => Region.waitsFor .any l.toArray i j = true ∧ j < i | none => True := fun i o hi => by
    have hin : i < nh := by have := (List.getElem?_eq_some_iff.1 hi).1; rw [List.length_take] at this; omega
    have h1 := List.all_eq_true.1 hq i (List.mem_range.2 hin)
    rw [hi] at h1
    simp only [Bool.and_eq_true, Bool.not_eq_true'] at h1
    refine ⟨h1.1.1, h1.1.2, fun x hx k hk => ?_⟩
    have h2 := List.all_eq_true.1 h1.2 x (by simpa using hx)
    rw [hk] at h2
    dsimp only at h2
    split
    · rename_i j hj
      rw [hj] at h2
      simp only [Bool.and_eq_true] at h2
      exact ⟨h2.1, by have := h2.2; exact Nat.le_of_ble_eq_true this⟩
    · trivial
  obtain ⟨vs, hvl, hvq, hQ⟩ := wq_vals (l.take nh) a (fun o ho => by obtain ⟨i, hi⟩ := List.getElem?_of_mem ho; exact (hqi i o hi).1) h
  have hap : dstsApart (l.take nh) = true := by simp only [headsG, Bool.and_eq_true] at hB; exact hB.1.1.1
  have hszA : ∀ o ∈ l.take nh, ∀ d, o.dst = some d → d < a.tmps.size := fun o ho d hd => by
    have := List.all_eq_true.1 hsz o ho
    rw [hd] at this
    rw [F.size]; exact Nat.le_of_ble_eq_true this
  have e : l.toArray = (l.take nh ++ l.drop nh).toArray := by rw [List.take_append_drop]
  have key := region_rel (P := P) (Q := Q) (l.take nh) (l.drop nh) (id := id) (w := w) (fun i x _ => ∀ v, vs[i]? = some v → x = v) (fun _ b => Below w.heap.size w b) w a hm (by rw [← e]; exact hB) hszA (fun _ _ _ _ h _ => h) (fun _ _ _ _ h => h) (Below.refl _ _).drew
    (fun i o hi a' v w' hb hV hdep hold hsame => by
      rw [← e] at hV hdep ⊢
      obtain ⟨h1, h2, h3⟩ := hqi i o hi
      have hil : i < vs.length := by rw [hvl]; exact (List.getElem?_eq_some_iff.1 hi).1
      have hvi : vs[i]? = some vs[i] := List.getElem?_eq_getElem hil
      have heq : execOp a'.eval o = execOp (putsL ((l.take nh).take i) vs a).eval o := execOp_congr o (fun cs b he => by rw [he] at h2; cases h2) fun x hx => by
        cases x with
        | tmp k =>
          show a'.tmps.getD k undef = (putsL ((l.take nh).take i) vs a).tmps.getD k undef
          have hpl : putsL ((l.take nh).take i) vs a = putsFrom (fun _ => true) (fun j => vs.getD j undef) ((l.take nh).take i) 0 a := by
            rw [putsL_from ((l.take nh).take i) (vs.take i) 0 _ a (by rw [List.length_take, List.length_take, hvl]) (fun j u hu => by
              rw [Nat.zero_add]
              rw [List.getElem?_take] at hu
              split at hu
              · rw [List.getD_eq_getElem?_getD, hu]; rfl
              · cases hu)]
            exact putsL_take _ _ _ _
          rw [hpl]
          have h4 := h3 _ hx k rfl
          cases hj : idxD (l.take nh) k 0 with
          | none =>
            have hno := List.all_eq_true.1 (idxD_none hj)
            rw [puts_out k _ _ _ (fun o' ho' => by simpa using hno o' (List.mem_of_mem_take ho'))]
            exact hold k (fun o' ho' => by simpa using hno o' ho')
          | some j =>
            rw [hj] at h4
            obtain ⟨j', oj, e1, h5, h6⟩ := idxD_some hj
            rw [Nat.zero_add] at e1
            subst e1
            have hjl : j < vs.length := by omega
            rw [hdep j oj k h4.1 h5 h6, hV j h4.1 vs[j] (List.getElem?_eq_getElem hjl), puts_in (j := j) rfl k _ 0 _ oj (apart_take _ i hap) (Nat.zero_le _) (by rw [Nat.sub_zero, List.getElem?_take, if_pos h4.2]; exact h5) h6 (hszA oj (List.mem_of_getElem? h5) k h6), List.getD_eq_getElem?_getD, List.getElem?_eq_getElem hjl]
            rfl
        | const v => rfl
        | func f => rfl
        | global g => rfl
      refine ⟨wanted_nog h1, Oper.wp_of_quiet (C := fun w' => Below w.heap.size w w') (K := fun a'' => a'' = a'.put o.dst vs[i]) hb (fun a'' w'' hC hK => ⟨vs[i], hK, hC, fun u hu => by rw [hvi] at hu; injection hu⟩) ⟨vs[i], fun w'' hC => ?_, rfl⟩⟩
      have := hvq i o vs[i] hi hvi w'' hC
      unfold Oper.quietAt at this ⊢
      rw [heq]; exact this)
    (fun v w' hb hV => by
      rw [← e]
      rw [putsL_from (l.take nh) vs 0 v a hvl (fun i u hu => by
        rw [Nat.zero_add]
        exact hV i (by rw [← hvl]; exact (List.getElem?_eq_some_iff.1 hu).1) u hu)]
      exact hQ w' (M.below hb))
  rw [← e] at key
  exact key
end
end Go.Proofs.Ytcobpabmmbcjcaa
namespace Go.Proofs.Ytcobpabmmbcjcaa
open Go.RowKit
set_option maxRecDepth 100000
set_option linter.unusedSimpArgs false
set_option linter.unusedVariables false
def encB : Enc Bool := ⟨1, fun b => [.bool b], false, fun _ => rfl, fun a v h => by
  simp only [List.mem_cons, List.not_mem_nil, or_false] at h; subst h; rfl⟩
def cB (L : List Bool) : List Value := cE encB L
def atB (L : List Bool) (i : Nat) : Bool := atE encB L i
theorem cB_len (L : List Bool) : (cB L).length = L.length := by unfold cB; rw [cE_len]; show L.length * 1 = _; omega
abbrev nilV : Value := .slice none 0 0
def cV (L : List Value) : List Value := L
def atV (L : List Value) (i : Nat) : Value := L.getD i nilV
theorem atV_eq {L : List Value} {i : Nat} (h : i < L.length) : atV L i = L[i] := by unfold atV; rw [List.getD_eq_getElem?_getD, List.getElem?_eq_getElem h]; rfl
theorem cV_at {L : List Value} {i : Nat} (h : i < L.length) : (cV L)[i * 1]? = some (atV L i) := by rw [Nat.mul_one, atV_eq h]; exact List.getElem?_eq_getElem h
theorem atV_set {L : List Value} {i j : Nat} {b : Value} (h : i < L.length) : atV (L.set i b) j = if i = j then b else atV L j := by
  unfold atV
  rw [List.getD_eq_getElem?_getD, List.getD_eq_getElem?_getD, List.getElem?_set]
  split
  · rename_i e; subst e; simp [h]
  · rfl
def atR (L : List (List St)) (i : Nat) : List St := L.getD i []
def tfst : Value → Value
  | .tuple a => a.getD 0 nilV
  | _ => nilV
def asnd : Value → Value
  | .agg a => a.getD 1 nilV
  | _ => nilV
theorem made_one (z : Value) (n : Nat) (h : z.cells = #[z]) : madeCells z.cells (n * 1) = (List.replicate n z).toArray := by
  unfold madeCells
  rw [h, Nat.mul_one]
  apply Array.ext
  · simp
  · intro i h1 h2
    simp [Nat.mod_one]
section
variable {P : Program} {ops rest : List Oper} {o : Oper} {a : Act} {n d : Nat} {L : List (Nat × Value)} {Q : Exit → Act → World → Prop} {R : List Nat} {w w0 : World} {B : List Ent} {v u z : Value} {x y : Operand} {t e ty : TypeId} {i j g k m : Nat} {N : Int} {cs : List Value}
theorem sq_make1 (F : Fr a n L) (M : Mm R w0 w B) (hw : Region.wanted o (yielded ops.toArray a.tmps) = true) {kc kl : IntKind} (ho : o.op = .makeSlice t x y) (hx : a.eval x = .int kl N) (hy : a.eval y = .int kc N) (ht : P.underlying t = some (.slice e)) (z : Value) (hz : z.cells = #[z]) {bytes : Nat} (hE : (P.info? e).map (fun i => (i.zero, i.size, i.bytes)) = some (some z, 1, bytes))
    (h0 : 0 ≤ N) (hk : N ≤ 1000000) (hby : bytes ≤ 1000) (hd : o.dst = some d) (hdn : Nat.blt d n = true)
    (h : ∀ a' w' g, Fr a' n ((d, .slice (some ⟨g, 0, none⟩) N.toNat N.toNat) :: L) → Mm R w0 w' (.blk g e (List.toArray (List.replicate N.toNat z)) :: B) → wpList P ops.toArray Q rest a' w') : wpList P ops.toArray Q (o :: rest) a w := by
  cases hq : P.info? e with
  | none => simp [hq] at hE
  | some inf =>
    simp only [hq, Option.map_some, Option.some.injEq, Prod.mk.injEq] at hE
    have hb' : (inf.bytes : Int) * N ≤ 281474976710656 := by
      have h1 : (inf.bytes : Int) ≤ 1000 := by rw [hE.2.2]; omega
      have h2 : (inf.bytes : Int) * N ≤ 1000 * 1000000 := Int.mul_le_mul h1 hk h0 (by omega)
      omega
    have hr := run_make (P := P) w t e inf z ht hq hE.1 kl kc N N h0 (Int.le_refl _) hb' (by omega)
    rw [hE.2.1, made_one z _ hz] at hr
    exact sq_run F hw (v := .slice (some ⟨w.heap.size, 0, none⟩) N.toNat N.toNat) (by simp only [execOp, ho, hx, hy, Sem.run_bind, hr, Result.andThen_ok, Sem.run_pure]) (M.alloc e _) hd hdn (fun a' w' F' M' => h a' w' _ F' M')
end
def fpR (vs : List Value) : List Nat := vs.flatMap fun v => v.ownBlock.toList
structure RowsV (ty : TypeId) (vs : List Value) (L : List (List St)) (w : World) : Prop where
  len : vs.length = L.length
  row : ∀ j, j < vs.length → w.ownsRow 0 ty 2 (atV vs j) (atR L j).length (cS (atR L j))
  nd : (fpR vs).Nodup
theorem mem_fpR {vs : List Value} {g : Nat} : g ∈ fpR vs ↔ ∃ j, j < vs.length ∧ (atV vs j).ownBlock = some g := by
  unfold fpR
  rw [List.mem_flatMap]
  constructor
  · rintro ⟨v, hv, hg⟩
    obtain ⟨j, hj, rfl⟩ := List.mem_iff_getElem.1 hv
    exact ⟨j, hj, by rw [atV_eq hj]; simpa using hg⟩
  · rintro ⟨j, hj, hg⟩
    exact ⟨vs[j], List.getElem_mem hj, by rw [← atV_eq hj, hg]; simp⟩
theorem RowsV.loc (ty : TypeId) (vs : List Value) (L : List (List St)) : Loc (fpR vs) (RowsV ty vs L) := fun w w' hk h => by
  refine ⟨⟨h.len, fun j hj => ?_, h.nd⟩, fun g hg => ?_⟩
  · have hr := h.row j hj
    refine ⟨hr.1, ?_⟩
    rcases hr.2 with h4 | ⟨g, cap, cur, h4, h5, h6, h7⟩
    · exact .inl h4
    · exact .inr ⟨g, cap, cur, h4, h5, (hk g (mem_fpR.2 ⟨j, hj, by rw [h4]; rfl⟩)).trans h6, h7⟩
  · obtain ⟨j, hj, hg⟩ := mem_fpR.1 hg
    exact (World.ownsRow.lt (h.row j hj) g hg).2
theorem RowsV.rd {ty : TypeId} {vs : List Value} {L : List (List St)} {w : World} (h : RowsV ty vs L w) {j : Nat} (hj : j < vs.length) : RdS w (atV vs j) (atR L j) := own_rdv (h.row j hj)
theorem nodup_one {vs : List Value} (h : (fpR vs).Nodup) {i j g : Nat} (hi : i < vs.length) (hj : j < vs.length) (gi : (atV vs i).ownBlock = some g) (gj : (atV vs j).ownBlock = some g) : i = j := by
  induction vs generalizing i j with
  | nil => simp at hi
  | cons v r ih =>
    have h' : (v.ownBlock.toList ++ fpR r).Nodup := h
    obtain ⟨_, h2, h3⟩ := List.nodup_append.1 h'
    cases i with
    | zero =>
      cases j with
      | zero => rfl
      | succ j =>
        exfalso
        have a1 : v.ownBlock = some g := gi
        have a2 : g ∈ fpR r := mem_fpR.2 ⟨j, by simpa using hj, gj⟩
        exact h3 g (by rw [a1]; simp) g a2 rfl
    | succ i =>
      cases j with
      | zero =>
        exfalso
        have a1 : v.ownBlock = some g := gj
        have a2 : g ∈ fpR r := mem_fpR.2 ⟨i, by simpa using hi, gi⟩
        exact h3 g (by rw [a1]; simp) g a2 rfl
      | succ j => rw [ih h2 (by simpa using hi) (by simpa using hj) gi gj]
theorem nodup_set {vs : List Value} {v : Value} {j : Nat} (h : (fpR vs).Nodup) (hn : ∀ g, v.ownBlock = some g → ∀ k, k < vs.length → k ≠ j → (atV vs k).ownBlock ≠ some g) : (fpR (vs.set j v)).Nodup := by
  induction vs generalizing j with
  | nil => exact h
  | cons u r ih =>
    have h' : (u.ownBlock.toList ++ fpR r).Nodup := h
    obtain ⟨h1, h2, h3⟩ := List.nodup_append.1 h'
    cases j with
    | zero =>
      show (v.ownBlock.toList ++ fpR r).Nodup
      refine List.nodup_append.2 ⟨by cases v.ownBlock <;> simp, h2, fun g hg g' hg' e => ?_⟩
      subst e
      obtain ⟨k, hk, hkg⟩ := mem_fpR.1 hg'
      exact hn g (by simpa using hg) (k + 1) (by simpa using hk) (by omega) hkg
    | succ j =>
      show (u.ownBlock.toList ++ fpR (r.set j v)).Nodup
      have ih' := ih (j := j) h2 (fun g hg k hk hne => hn g hg (k + 1) (by simpa using hk) (by omega))
      refine List.nodup_append.2 ⟨h1, ih', fun g hg g' hg' e => ?_⟩
      subst e
      obtain ⟨k, hk, hkg⟩ := mem_fpR.1 hg'
      rw [List.length_set] at hk
      by_cases hkj : j = k
      · subst hkj
        rw [atV_set hk, if_pos rfl] at hkg
        exact hn g hkg 0 (by simp) (by omega) (by show u.ownBlock = some g; simpa using hg)
      · have : (atV r k).ownBlock = some g := by
          unfold atV at hkg ⊢
          rw [List.getD_eq_getElem?_getD, List.getElem?_set, if_neg hkj, ← List.getD_eq_getElem?_getD] at hkg
          exact hkg
        exact h3 g hg g (mem_fpR.2 ⟨k, hk, this⟩) rfl
section
variable {R : List Nat} {w0 w : World} {B : List Ent} {i j k n : Nat} {ty : TypeId} {vs : List Value} {L : List (List St)} {v : Value} {l : List St}
theorem fp_set_nil {g : Nat} (hg : g ∈ fpR (vs.set j nilV)) : g ∈ fpR vs ∧ ∃ k, k < vs.length ∧ k ≠ j ∧ (atV vs k).ownBlock = some g := by
  obtain ⟨k, hk, hkg⟩ := mem_fpR.1 hg
  rw [List.length_set] at hk
  by_cases e : j = k
  · subst e; rw [atV_set hk, if_pos rfl] at hkg; cases hkg
  · have : (atV vs k).ownBlock = some g := by
      unfold atV at hkg ⊢
      rw [List.getD_eq_getElem?_getD, List.getElem?_set, if_neg e, ← List.getD_eq_getElem?_getD] at hkg
      exact hkg
    exact ⟨mem_fpR.2 ⟨k, hk, this⟩, k, hk, fun h => e h.symm, this⟩
end
end Go.Proofs.Ytcobpabmmbcjcaa
namespace Go.Proofs.Ytcobpabmmbcjcaa
open Go.RowKit
set_option maxRecDepth 100000
set_option linter.unusedSimpArgs false
set_option linter.unusedVariables false
theorem byC_cU (A : List UInt8) : Lib.byteCells A = cU A := (cU_map A).symm
section
variable {P : Program} {ops rest : List Oper} {o : Oper} {a : Act} {n d : Nat} {L : List (Nat × Value)} {Q : Exit → Act → World → Prop} {R : List Nat} {w w0 : World} {B : List Ent} {x y : Operand} {t ts pt it e ty : TypeId} {i g k c1 : Nat} {A : List UInt8} {cs : Array Value}
theorem sq_copyS (F : Fr a n L) (M : Mm R w0 w B) (hw : Region.wanted o (yielded ops.toArray a.tmps) = true) (ho : o.op = .call { callee := .builtin .copy, args := #[x, y], argTypes := #[t, ts] }) (hx : a.eval x = .slice (some ⟨g, 0, none⟩) k c1) (hy : a.eval y = strV A)
    (hi : B[i]? = some (.blk g ty cs)) (hz : cs.size = k) (hA : A.length = k) (hu : P.underlying t = some (.slice e)) (hsz : (P.info? e).map (·.size) = some 1) (hd : o.dst = some d) (hdn : Nat.blt d n = true)
    (h : ∀ a' w', Fr a' n ((d, .int .i64 k) :: L) → Mm R w0 w' (B.set i (.blk g ty (List.toArray (cU A)))) → wpList P ops.toArray Q rest a' w') : wpList P ops.toArray Q (o :: rest) a w := by
  have hs : (ByteArray.mk A.toArray).size = k := by rw [str_size]; exact hA
  have hr := Lib.run_copy_row_string (P := P) w t ts o.type e g 0 k c1 ⟨A.toArray⟩ cs ty hu hsz (M.at hi) (by omega) (by omega)
  have e1 : cs.toList.take 0 ++ Lib.byteCells (ByteArray.mk A.toArray).data.toList ++ cs.toList.drop (0 + (ByteArray.mk A.toArray).size) = cU A := by
    rw [List.take_zero, List.nil_append, List.drop_of_length_le (by rw [Array.length_toList]; omega), List.append_nil, ← byC_cU]
  rw [e1, hs] at hr
  refine sq_run F hw (v := .int .i64 k) (w' := w.setRow g (List.toArray (cU A))) ?_ (M.setRow hi _) hd hdn h
  simp only [execOp, ho, resolve, invoke, builtin, Sem.run_bind, Sem.run_pure, Result.andThen_ok, List.map_toArray, List.map_cons, List.map_nil, hx, hy]
  unfold strV
  rw [hr]; rfl
theorem sq_ustr (F : Fr a n L) (M : Mm R w0 w B) (hw : Region.wanted o (yielded ops.toArray a.tmps) = true) (ho : o.op = .call { callee := .builtin .unsafeString, args := #[x, y], argTypes := #[pt, it] }) (hp : P.underlying pt = some (.pointer e)) (hc : P.cellsOf e = 1)
    (hx : a.eval x = .pointer (some ⟨g, 0, none⟩)) (hy : a.eval y = .int .i64 (k : Int)) (hi : B[i]? = some (.blk g e (List.toArray (cU A)))) (hA : k = A.length) (h0 : 0 < k) (h63 : k ≤ 9223372036854775807) (hd : o.dst = some d) (hdn : Nat.blt d n = true)
    (h : ∀ a' w', Fr a' n ((d, strV A) :: L) → Mm R w0 w' (B.set i (.arg 1 (.slice none 0 0) 0 [])) → wpList P ops.toArray Q rest a' w') : wpList P ops.toArray Q (o :: rest) a w := by
  subst hA
  have hb := M.at hi
  have hl : (List.toArray (cU A)).size = A.length := by rw [List.size_toArray, cU_len]
  have hr := Lib.run_unsafeString_row (P := P) (w := w) pt it o.type e hp hc g A.length (by unfold World.shape?; rw [show w.heap[g]? = _ from hb]; simp only [hl]) A (fun e => by rw [e] at h0; cases h0) (Nat.le_refl _) h63
    (fun j z hj => by
      rw [addr_add, Nat.zero_add, hb.cell, List.getElem?_toArray, cU_map, List.getElem?_map, hj]; rfl)
  have hout : Out [g] w (w.freeze ⟨g, 0, none⟩ A.length) := by
    unfold World.freeze
    split
    · exact Out.refl _ _
    · refine ⟨rfl, rfl, rfl, by simp, fun j _ hj => ?_⟩
      have : g ≠ j := fun e => hj (by rw [e]; simp)
      simp [Array.getElem?_modify, this]
  refine sq_run F hw (v := strV A) (w' := w.freeze ⟨g, 0, none⟩ A.length) ?_ (M.swap hi (x' := .arg 1 (.slice none 0 0) 0 []) hout (nil_rd _) (fun q hq => by cases hq) (fun q hq => by cases hq)) hd hdn h
  simp only [execOp, ho, resolve, invoke, builtin, Sem.run_bind, Sem.run_pure, Result.andThen_ok, List.map_toArray, List.map_cons, List.map_nil, hx, hy]
  rw [hr]; rfl
end
end Go.Proofs.Ytcobpabmmbcjcaa
namespace Go.Proofs.Ytcobpabmmbcjcaa
open Go.RowKit
set_option maxRecDepth 100000
set_option linter.unusedSimpArgs false
set_option linter.unusedVariables false
def encJ : Enc (Int × Nat) := ⟨2, fun p => [.int .i64 p.1, .pointer (some ⟨p.2, 0, none⟩)], (0, 0), fun _ => rfl, fun a v h => by
  simp only [List.mem_cons, List.not_mem_nil, or_false] at h; rcases h with rfl | rfl <;> rfl⟩
def cJ (L : List (Int × Nat)) : List Value := cE encJ L
def atJ (L : List (Int × Nat)) (i : Nat) : Int × Nat := atE encJ L i
theorem cJ_at {L : List (Int × Nat)} {i : Nat} (h : i < L.length) : ((cJ L).drop (i * 2)).take 2 = [.int .i64 (atJ L i).1, .pointer (some ⟨(atJ L i).2, 0, none⟩)] := cE_at (E := encJ) h
theorem cJ_app (L K : List (Int × Nat)) : cJ (L ++ K) = cJ L ++ cJ K := cE_app L K
theorem cJ_ones (L : List (Int × Nat)) : ∀ z ∈ cJ L, z.oneCell' = true := cE_ones L
theorem atJ_eq {L : List (Int × Nat)} {i : Nat} (h : i < L.length) : atJ L i = L[i] := atE_eq (E := encJ) h
def atRJ (L : List (List (Int × Nat))) (i : Nat) : List (Int × Nat) := L.getD i []
theorem atRJ_set {L : List (List (Int × Nat))} {i j : Nat} {b : List (Int × Nat)} (h : i < L.length) : atRJ (L.set i b) j = if i = j then b else atRJ L j := by
  unfold atRJ
  rw [List.getD_eq_getElem?_getD, List.getD_eq_getElem?_getD, List.getElem?_set]
  split
  · rename_i e; subst e; simp [h]
  · rfl
structure RowsJ (ty : TypeId) (vs : List Value) (L : List (List (Int × Nat))) (w : World) : Prop where
  len : vs.length = L.length
  row : ∀ j, j < vs.length → w.ownsRow 0 ty 2 (atV vs j) (atRJ L j).length (cJ (atRJ L j))
  nd : (fpR vs).Nodup
theorem RowsJ.loc (ty : TypeId) (vs : List Value) (L : List (List (Int × Nat))) : Loc (fpR vs) (RowsJ ty vs L) := fun w w' hk h => by
  refine ⟨⟨h.len, fun j hj => ?_, h.nd⟩, fun g hg => ?_⟩
  · have hr := h.row j hj
    refine ⟨hr.1, ?_⟩
    rcases hr.2 with h4 | ⟨g, cap, cur, h4, h5, h6, h7⟩
    · exact .inl h4
    · exact .inr ⟨g, cap, cur, h4, h5, (hk g (mem_fpR.2 ⟨j, hj, by rw [h4]; rfl⟩)).trans h6, h7⟩
  · obtain ⟨j, hj, hg⟩ := mem_fpR.1 hg
    exact (World.ownsRow.lt (h.row j hj) g hg).2
theorem RowsJ.rd {ty : TypeId} {vs : List Value} {L : List (List (Int × Nat))} {w : World} (h : RowsJ ty vs L w) {j : Nat} (hj : j < vs.length) : RdV w 2 (atV vs j) (atRJ L j).length (cJ (atRJ L j)) := own_rdv (h.row j hj)
theorem rowsJ_set {ty : TypeId} {vs : List Value} {L : List (List (Int × Nat))} {w : World} (h : RowsJ ty vs L w) {j : Nat} (hj : j < vs.length) {v : Value} {l : List (Int × Nat)} (hv : w.ownsRow 0 ty 2 v l.length (cJ l)) (hn : ∀ g, v.ownBlock = some g → ∀ k, k < vs.length → k ≠ j → (atV vs k).ownBlock ≠ some g) : RowsJ ty (vs.set j v) (L.set j l) w := by
  refine ⟨by rw [List.length_set, List.length_set, h.len], fun k hk => ?_, nodup_set h.nd hn⟩
  rw [List.length_set] at hk
  rw [atV_set hj, atRJ_set (by rw [← h.len]; exact hj)]
  split
  · exact hv
  · exact h.row k hk
theorem rowsJ_rep (ty : TypeId) (n : Nat) (w : World) : RowsJ ty (List.replicate n nilV) (List.replicate n []) w := by
  have ha : ∀ j, atV (List.replicate n nilV) j = nilV := fun j => by
    unfold atV; rw [List.getD_eq_getElem?_getD, List.getElem?_replicate]; split <;> rfl
  refine ⟨by simp, fun j hj => ?_, ?_⟩
  · rw [ha]
    have : atRJ (List.replicate n []) j = [] := by
      unfold atRJ; rw [List.getD_eq_getElem?_getD, List.getElem?_replicate]; split <;> rfl
    rw [this]; exact World.ownsRow_nil _ _ _ _
  · have : fpR (List.replicate n nilV) = [] := by
      unfold fpR
      rw [List.flatMap_eq_nil_iff]
      intro v hv
      rw [(List.mem_replicate.1 hv).2]; rfl
    rw [this]; exact List.nodup_nil
section
variable {R : List Nat} {w0 w : World} {B : List Ent} {i j k n : Nat} {ty : TypeId} {vs : List Value} {L : List (List (Int × Nat))} {v : Value} {l : List (Int × Nat)}
theorem Mm.rowsNewJ (M : Mm R w0 w B) (ty : TypeId) (n : Nat) : Mm R w0 w (.own (fpR (List.replicate n nilV)) (RowsJ ty (List.replicate n nilV) (List.replicate n [])) :: B) :=
  M.addOwn (Below.refl _ _) (rowsJ_rep ty n w) (RowsJ.loc _ _ _) (fun g hg => by
    obtain ⟨j, hj, hg⟩ := mem_fpR.1 hg
    have : atV (List.replicate n nilV) j = nilV := by unfold atV; rw [List.getD_eq_getElem?_getD, List.getElem?_replicate]; split <;> rfl
    rw [this] at hg; cases hg)
theorem Mm.dropRowJ (M : Mm R w0 w B) (h : B[i]? = some (.own (fpR vs) (RowsJ ty vs L))) (hj : j < vs.length) : Mm R w0 w (B.set i (.own (fpR (vs.set j nilV)) (RowsJ ty (vs.set j nilV) (L.set j [])))) :=
  M.swap h (x' := .own (fpR (vs.set j nilV)) (RowsJ ty (vs.set j nilV) (L.set j []))) (Out.refl _ _) ⟨rowsJ_set (M.pv h) hj (World.ownsRow_nil _ _ _ _) (fun g hg => by cases hg), RowsJ.loc _ _ _⟩ (fun g hg => .inl (fp_set_nil hg).1) (fun g hg => by cases hg)
theorem Mm.takeRowJ (M : Mm R w0 w B) (h : B[i]? = some (.own (fpR vs) (RowsJ ty vs L))) (hj : j < vs.length) : Mm R w0 w (.row ty 2 (atV vs j) (atRJ L j).length (cJ (atRJ L j)) :: B.set i (.own (fpR (vs.set j nilV)) (RowsJ ty (vs.set j nilV) (L.set j [])))) := by
  have hp := M.pv h
  have hil : i < B.length := (List.getElem?_eq_some_iff.1 h).1
  have hx : B[i] = .own (fpR vs) (RowsJ ty vs L) := (List.getElem?_eq_some_iff.1 h).2
  have M1 := M.dropRowJ h hj
  refine ⟨M1.out, fun y hy => ?_, fun y hy g hg => ?_, fun y hy g hg => ?_, List.pairwise_cons.2 ⟨fun y hy g hg hgy => ?_, M1.nd⟩⟩
  · rcases List.mem_cons.1 hy with rfl | h1
    · exact hp.row j hj
    · exact M1.has y h1
  · rcases List.mem_cons.1 hy with rfl | h1
    · have hg' : (atV vs j).ownBlock = some g := by simpa [Ent.fp] using hg
      exact M.own _ (List.mem_of_getElem? h) g (mem_fpR.2 ⟨j, hj, hg'⟩)
    · exact M1.own y h1 g hg
  · rcases List.mem_cons.1 hy with rfl | h1
    · cases hg
    · exact M1.far y h1 g hg
  · have hg' : (atV vs j).ownBlock = some g := by simpa [Ent.fp] using hg
    obtain ⟨q, hq, rfl⟩ := List.mem_iff_getElem.1 hy
    rw [List.getElem_set] at hgy
    split at hgy
    · obtain ⟨_, k, hk, hkj, hkg⟩ := fp_set_nil hgy
      exact hkj (nodup_one hp.nd hk hj hkg hg')
    · rename_i hne
      rw [List.length_set] at hq
      have := M.apart (i := i) (j := q) h (List.getElem?_eq_getElem hq) hne g (mem_fpR.2 ⟨j, hj, hg'⟩)
      exact this hgy
theorem Mm.putRowJ (M : Mm R w0 w B) (h : B[i]? = some (.own (fpR vs) (RowsJ ty vs L))) (hr : B[k]? = some (.row ty 2 v l.length (cJ l))) (hj : j < vs.length) : Mm R w0 w ((B.set i (.own (fpR (vs.set j v)) (RowsJ ty (vs.set j v) (L.set j l)))).set k (.arg 1 (.slice none 0 0) 0 [])) := by
  have hp := M.pv h
  have hil : i < B.length := (List.getElem?_eq_some_iff.1 h).1
  have hkl : k < B.length := (List.getElem?_eq_some_iff.1 hr).1
  have hik : i ≠ k := fun e => by subst e; rw [h] at hr; injection hr with hr; cases hr
  have hap := M.apart (i := k) (j := i) hr h (fun e => hik e.symm)
  have hv : ∀ g, v.ownBlock = some g → ¬ g ∈ fpR vs := fun g hg => hap g (by simp [Ent.fp, hg])
  have hset : RowsJ ty (vs.set j v) (L.set j l) w := rowsJ_set hp hj (M.ow hr) (fun g hg q hq _ hqg => hv g hg (mem_fpR.2 ⟨q, hq, hqg⟩))
  have hfp : ∀ g ∈ fpR (vs.set j v), g ∈ fpR vs ∨ v.ownBlock = some g := fun g hg => by
    obtain ⟨q, hq, hqg⟩ := mem_fpR.1 hg
    rw [List.length_set] at hq
    rw [atV_set hj] at hqg
    split at hqg
    · exact .inr hqg
    · exact .inl (mem_fpR.2 ⟨q, hq, hqg⟩)
  let B' := (B.set i (.own (fpR (vs.set j v)) (RowsJ ty (vs.set j v) (L.set j l)))).set k (.arg 1 (.slice none 0 0) 0 [])
  have hget : ∀ q (hq : q < B'.length), (q = k ∧ B'[q] = .arg 1 (.slice none 0 0) 0 []) ∨ (q = i ∧ B'[q] = .own (fpR (vs.set j v)) (RowsJ ty (vs.set j v) (L.set j l))) ∨ (q ≠ k ∧ q ≠ i ∧ ∃ hq' : q < B.length, B'[q] = B[q]) := fun q hq => by
    have hq' : q < B.length := by simpa [B'] using hq
    by_cases e1 : q = k
    · exact .inl ⟨e1, by simp [B', e1]⟩
    · by_cases e2 : q = i
      · refine .inr (.inl ⟨e2, ?_⟩)
        simp only [B', List.getElem_set]
        rw [if_neg (fun e => e1 e.symm), if_pos e2.symm]
      · refine .inr (.inr ⟨e1, e2, hq', ?_⟩)
        simp only [B', List.getElem_set]
        rw [if_neg (fun e => e1 e.symm), if_neg (fun e => e2 e.symm)]
  have hxi : B[i] = .own (fpR vs) (RowsJ ty vs L) := (List.getElem?_eq_some_iff.1 h).2
  have hxk : B[k] = .row ty 2 v l.length (cJ l) := (List.getElem?_eq_some_iff.1 hr).2
  have hpw := List.pairwise_iff_getElem.1 M.nd
  have far2 : ∀ p q (hp' : p < B.length) (hq' : q < B.length), p ≠ q → ∀ g ∈ B[p].fp, ¬ g ∈ B[q].fp := fun p q hp' hq' hne => M.apart (List.getElem?_eq_getElem hp') (List.getElem?_eq_getElem hq') hne
  have vfp : ∀ g, v.ownBlock = some g → g ∈ B[k].fp := fun g hg => by rw [hxk]; simp [Ent.fp, hg]
  refine ⟨M.out, fun y hy => ?_, fun y hy g hg => ?_, fun y hy g hg => ?_, ?_⟩
  · obtain ⟨q, hq, rfl⟩ := List.mem_iff_getElem.1 hy
    rcases hget q hq with ⟨_, e⟩ | ⟨_, e⟩ | ⟨_, _, hq', e⟩
    · rw [e]; exact ⟨rfl, none, 0, rfl, Nat.le_refl _, Nat.zero_le _, fun h => absurd h (by omega)⟩
    · rw [e]; exact ⟨hset, RowsJ.loc _ _ _⟩
    · rw [e]; exact M.has _ (List.getElem_mem hq')
  · obtain ⟨q, hq, rfl⟩ := List.mem_iff_getElem.1 hy
    rcases hget q hq with ⟨_, e⟩ | ⟨_, e⟩ | ⟨_, _, hq', e⟩
    · rw [e] at hg; cases hg
    · rw [e] at hg
      rcases hfp g hg with h1 | h1
      · exact M.own _ (List.getElem_mem hil) g (by rw [hxi]; exact h1)
      · exact M.own _ (List.getElem_mem hkl) g (vfp g h1)
    · rw [e] at hg; exact M.own _ (List.getElem_mem hq') g hg
  · obtain ⟨q, hq, rfl⟩ := List.mem_iff_getElem.1 hy
    rcases hget q hq with ⟨_, e⟩ | ⟨_, e⟩ | ⟨_, _, hq', e⟩
    · rw [e] at hg; cases hg
    · rw [e] at hg; cases hg
    · rw [e] at hg; exact M.far _ (List.getElem_mem hq') g hg
  · rw [List.pairwise_iff_getElem]
    intro p q hp' hq' hlt g hg hgq
    have hpl : p < B.length := by simpa [B'] using hp'
    have hql : q < B.length := by simpa [B'] using hq'
    rcases hget p hp' with ⟨_, e⟩ | ⟨ep, e⟩ | ⟨hpk, hpi, _, e⟩
    · rw [e] at hg; cases hg
    · rw [e] at hg
      rcases hget q hq' with ⟨_, e'⟩ | ⟨eq, e'⟩ | ⟨hqk, hqi, _, e'⟩
      · rw [e'] at hgq; cases hgq
      · omega
      · rw [e'] at hgq
        rcases hfp g hg with h1 | h1
        · exact far2 i q hil hql (fun e => hqi e.symm) g (by rw [hxi]; exact h1) hgq
        · exact far2 k q hkl hql (fun e => hqk e.symm) g (vfp g h1) hgq
    · rw [e] at hg
      rcases hget q hq' with ⟨_, e'⟩ | ⟨eq, e'⟩ | ⟨hqk, hqi, _, e'⟩
      · rw [e'] at hgq; cases hgq
      · rw [e'] at hgq
        rcases hfp g hgq with h1 | h1
        · exact far2 i p hil hpl (fun e => hpi e.symm) g (by rw [hxi]; exact h1) hg
        · exact far2 k p hkl hpl (fun e => hpk e.symm) g (vfp g h1) hg
      · rw [e'] at hgq; exact far2 p q hpl hql (by omega) g hg hgq
end
theorem RowsJ.ones {ty : TypeId} {vs : List Value} {L : List (List (Int × Nat))} {w : World} (h : RowsJ ty vs L w) : (List.toArray (cV vs)).toList.all (·.oneCell') = true := by
  rw [List.all_eq_true]
  intro z hz
  have hz2 : z ∈ vs := by simpa [cV] using hz
  obtain ⟨j, hj, rfl⟩ := List.mem_iff_getElem.1 hz2
  have := h.row j hj
  rw [atV_eq hj] at this
  exact (slc_one (own_rdv this)).1
end Go.Proofs.Ytcobpabmmbcjcaa
namespace Go.Proofs.Ytcobpabmmbcjcaa
open Go.RowKit
set_option maxRecDepth 100000
set_option linter.unusedSimpArgs false
set_option linter.unusedVariables false
theorem cI_len (L : List Int) : (cI L).length = L.length := by unfold cI; rw [cE_len]; simp [encI]
theorem cI_set : ∀ (L : List Int) (j : Nat) (x : Int), (cI L).set j (.int .i64 x) = cI (L.set j x)
  | [], _, _ => rfl
  | _ :: _, 0, _ => rfl
  | a :: r, j + 1, x => by
    have := cI_set r j x
    show Value.int .i64 a :: (cI r).set j (.int .i64 x) = Value.int .i64 a :: cI (r.set j x)
    rw [this]
theorem aI_at {T : List Int} {j : Nat} (h : j < T.length) : (List.toArray (cI T))[0 + j * 1]? = some (.int .i64 (atI T j)) := by
  rw [Nat.zero_add, List.getElem?_toArray]; exact cI_at h
theorem aI_set (T : List Int) (j : Nat) (x : Int) : (List.toArray (cI T)).setIfInBounds (0 + j * 1) (.int .i64 x) = List.toArray (cI (T.set j x)) := by
  rw [← cI_set]; simp
theorem aI_size (T : List Int) : (List.toArray (cI T)).size = T.length := by rw [List.size_toArray, cI_len]
theorem atI_set {L : List Int} {i j : Nat} {b : Int} (h : i < L.length) : atI (L.set i b) j = if i = j then b else atI L j := by
  unfold atI atE
  rw [List.getD_eq_getElem?_getD, List.getD_eq_getElem?_getD, List.getElem?_set]
  split
  · rename_i e; subst e; simp [h]
  · rfl
end Go.Proofs.Ytcobpabmmbcjcaa
