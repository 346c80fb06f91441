/- Panics that are met: calls that may panic; a function that defers, and recovers. Any seat. -/
import Derived.Test.YtjelhljgeinodaaUr
import Derived.Recover
import Derived.Laws.Bits64
import Derived.Laws.CopyOwn
import Derived.Lib.AppendZerosOnto
namespace Go.Proofs.Ytjelhljgeinodaa
open Go.RowKit
set_option maxRecDepth 100000
set_option linter.unusedSimpArgs false
set_option linter.unusedVariables false

/-- The panic of a plain value. -/
def PanE (T : TypeId) (n : Int) : List PanicEntry := [{ v := .iface T (.int .i64 n), recovered := false }]
section
variable {P : Program} {a : Act} {o : Oper} {x : Operand}
theorem run_callVp {xs : List Operand} {ts : Array TypeId} {args : List Value} {f : Nat} {lb : Array Value} (ho : o.op = .call { callee := .value x, args := xs.toArray, argTypes := ts }) (hx : a.eval x = .func (.func f) #[] lb) (ha : xs.map a.eval = args) (w : World) :
    (execOp a.eval o).run P w = (callFunc f (args.toArray ++ lb)).run P w := by
  simp only [execOp, ho, resolve, hx, List.map_toArray, ha]
  simp [Deferred.ofValue, invoke]
theorem callFunc_entersP {f : Nat} (he : enters P f = true) (args : Array Value) (w : World) : (callFunc f args).run P w = .ok (.enter f args) w := by
  unfold enters at he
  cases hf : P.funcs[f]? with
  | none => simp [hf] at he
  | some fn =>
    simp only [hf, Option.any_some, Bool.and_eq_true, Bool.not_eq_true', beq_eq_false_iff_ne, ne_eq] at he
    obtain ⟨h1, h2⟩ := he
    have h2' : fn.body ≠ none := by intro e; rw [e] at h2; simp at h2
    simp [callFunc, program, hf, h1, h2', Sem.run, Sem.run_bind]
theorem Mm.turnedP {Z : List Nat} {w0 w : World} {B : List Ent} (M : Mm Z w0 w B) {i g : Nat} {t : TypeId} {cs cs' : Array Value} {w' : World} (hi : B[i]? = some (.blk g t cs)) (ho : Out [g] w w') (hb : Blk w' g t cs') : Mm Z w0 w' (B.set i (.blk g t cs')) :=
  M.swap hi (x' := .blk g t cs') ho hb (fun g h => .inl h) (fun g h => by cases h)
end
section
variable {P : Program} {Q : Exit → Act → World → Prop} {K J : Act → World → Prop} {c : List PanicEntry} {a : Act} {w w0 : World} {n d : Nat} {L : List (Nat × Value)} {fn : Func} {R : Ending → World → Prop}
theorem npT (h : Q (.panic c) a w) : Exit.then K Q (.panic c) a w := h
theorem npB {id : Nat} (h : Q (.panic c) a w) : Exit.inBlock id Q (.panic c) a w := h
theorem npS (h : Q (.panic c) a w) : Exit.noGoto Q (.panic c) a w := h
theorem npC (h : Q (.panic c) a w) : cutQ J Q (.panic c) a w := h
theorem rt_panic (F : Fr a n L) (hR : R (.panicked c) w) : bodyPost P fn R (.panic c) a w := ⟨F.defers, hR⟩
variable {ops rest : List Oper} {o : Oper} {Z : List Nat} {B : List Ent} {x y : Operand} {v u : Value} {t e ty : TypeId} {i g k m : Nat} {f : FuncId} {xs : List Operand} {ts : Array TypeId} {args : List Value} {cs cs' : Array Value}
theorem sq_panic (hw : Region.wanted o (yielded ops.toArray a.tmps) = true) (ho : o.op = .panic x) (hx : a.eval x = .iface t v) (h : Q (.panic [{ v := .iface t v, recovered := false }]) a w) : wpList P ops.toArray Q (o :: rest) a w :=
  wpList_step fun K hK => by
    rw [if_pos hw]
    unfold Oper.wp
    simp only [execOp, ho, hx]
    exact h
/-- A call that panics. -/
theorem ow_callPn {K : Act → World → Prop} (ho : o.op = .call { callee := .value (.func f), args := xs.toArray, argTypes := ts }) (he : enters P f = true) (ha : xs.map a.eval = args) (hc : Calls P f args.toArray w fun e w' => e = .panicked c ∧ Out Z w w') (h : ∀ w', Out Z w w' → Q (.panic c) a w') : o.wp P a w K Q := by
  unfold Oper.wp
  rw [run_enter he ho w, List.map_toArray, ha]
  refine hc.mono fun e w' ⟨h1, h2⟩ => ?_
  subst h1
  exact h _ h2
theorem sq_callPn (M : Mm Z w0 w B) (hw : Region.wanted o (yielded ops.toArray a.tmps) = true) (ho : o.op = .call { callee := .value (.func f), args := xs.toArray, argTypes := ts }) (he : enters P f = true) (ha : xs.map a.eval = args) (hc : Calls P f args.toArray w fun e w' => e = .panicked c ∧ Out [] w w') (h : ∀ w', Out Z w0 w' → Q (.panic c) a w') : wpList P ops.toArray Q (o :: rest) a w :=
  wpList_step fun K hK => by
    rw [if_pos hw]
    exact ow_callPn ho he ha hc fun w' h1 => h w' (M.out.trans h1 (fun g hg => by cases hg))
theorem Mm.outX (M : Mm Z w0 w B) (hi : B[i]? = some (.blk g t cs)) {w' : World} (h : Out [g] w w') : Out Z w0 w' :=
  M.out.trans h (fun g' hg => by
    simp only [List.mem_singleton] at hg
    subst hg
    exact M.own _ (List.mem_of_getElem? hi) _ (by simp [Ent.fp]))
theorem sq_callPX (M : Mm Z w0 w B) (hw : Region.wanted o (yielded ops.toArray a.tmps) = true) (ho : o.op = .call { callee := .value (.func f), args := xs.toArray, argTypes := ts }) (he : enters P f = true) (ha : xs.map a.eval = args) (hi : B[i]? = some (.blk g t cs)) (hc : Calls P f args.toArray w fun e w' => e = .panicked c ∧ Out [g] w w') (h : ∀ w', Out Z w0 w' → Q (.panic c) a w') : wpList P ops.toArray Q (o :: rest) a w :=
  wpList_step fun K hK => by
    rw [if_pos hw]
    exact ow_callPn ho he ha hc fun w' h1 => h w' (M.outX hi h1)
/-- A call that turns one block into what is told. -/
theorem sq_callB (F : Fr a n L) (M : Mm Z w0 w B) (hw : Region.wanted o (yielded ops.toArray a.tmps) = true) (ho : o.op = .call { callee := .value (.func f), args := xs.toArray, argTypes := ts }) (he : enters P f = true) (ha : xs.map a.eval = args) (hi : B[i]? = some (.blk g t cs)) (hc : Calls P f args.toArray w fun e w' => e = .returned v ∧ Out [g] w w' ∧ Blk w' g t cs') (hd : o.dst = some d) (hdn : Nat.blt d n = true)
    (h : ∀ a' w', Fr a' n ((d, v) :: L) → Mm Z w0 w' (B.set i (.blk g t cs')) → wpList P ops.toArray Q rest a' w') : wpList P ops.toArray Q (o :: rest) a w :=
  sq_callR F hw ho he ha hc hd hdn fun e w' hR => by
    obtain ⟨h1, h2, h3⟩ := hR
    exact ⟨v, h1, fun a' F' => h a' w' F' (M.turnedP hi h2 h3)⟩
end

/-! ### A function that defers one call: the body behind the defer, in frames without it -/
def addD (a : Act) (ds : List Deferred) : Act := { a with defers := a.defers ++ ds }
section
variable {P : Program} {ops : Array Oper} {Q : Exit → Act → World → Prop} {ds : List Deferred}
theorem put_addD (a : Act) (d : Option Nat) (v : Value) : (addD a ds).put d v = addD (a.put d v) ds := by cases d <;> rfl
theorem upon_addD {o : Oper} {a : Act} {K K' : Act → World → Prop} (hK : ∀ a w, K a w → K' (addD a ds) w) {r : Result Next} (h : o.upon P a K (fun e a' w' => Q e (addD a' ds) w') r) : o.upon P (addD a ds) K' Q r := by
  unfold Oper.upon at h ⊢
  split at h
  · rw [put_addD]; exact hK _ _ h
  · rw [put_addD]; exact hK _ _ h
  · rename_i d w'
    have := hK _ _ h
    rw [← put_addD] at this
    exact this
  · refine Calls.mono h fun e w'' hR => ?_
    cases e with
    | returned v => simp only at hR ⊢; rw [put_addD]; exact hK _ _ hR
    | panicked c => exact hR
    | outgrown => obtain ⟨a1, w1, h1⟩ := hR; exact ⟨_, w1, h1⟩
  · rename_i row args w'
    rw [show (fun v w'' => K' ((addD a ds).put o.dst v) w'') = fun v w'' => K' (addD (a.put o.dst v) ds) w'' from by funext v w''; rw [put_addD]]
    intro b cs
    obtain ⟨v, w'', h1, h2⟩ := h b cs
    exact ⟨v, w'', hK _ _ h1, h2⟩
  · exact h
  · exact h.elim
theorem wpList_addD : ∀ (l : List Oper) (a : Act) (w : World), wpList P ops (fun e a' w' => Q e (addD a' ds) w') l a w → wpList P ops Q l (addD a ds) w
  | [], _, _, h => h
  | o :: rest, a, w, h => by
    unfold wpList at h ⊢
    show if Region.wanted o (yielded ops a.tmps) = true then _ else _
    split
    · rename_i hw
      rw [if_pos hw] at h
      rcases h with h | ⟨h1, a1, w1, h2⟩
      · exact .inl (upon_addD (fun a w hk => wpList_addD rest a w hk) h)
      · exact .inr ⟨h1, _, w1, h2⟩
    · rename_i hw
      rw [if_neg hw] at h
      rw [put_addD]
      exact wpList_addD rest _ _ h
end
section
variable {P : Program} {Q : Exit → Act → World → Prop} {a : Act} {w w0 : World} {n d : Nat} {L : List (Nat × Value)} {ops rest : List Oper} {o : Oper} {Z : List Nat} {B : List Ent} {x y : Operand} {v : Value} {f : FuncId} {lb : Array Value} {vs : List Value} {R : Ending → World → Prop} {c : Code} {fn : Func}
theorem enterD (hf : P.funcs[f]? = some fn) (hb : fn.body = some c) (n : Nat) (hn : fn.ntmps = n) (vs : List Value) (hlen : Nat.ble vs.length n = true) (L : List (Nat × Value)) (hL : argL 0 vs = L)
    (h : ∀ a, Fr a n L → c.wp P (bodyPostD P fn R) a w) : Calls P f vs.toArray w R := by
  subst hL
  have hlen' : vs.length ≤ n := Nat.le_of_ble_eq_true hlen
  refine calls_of_wp_defers hf hb (h _ ⟨by simp [hn]; omega, rfl, fun {k v} hk => ?_⟩)
  obtain ⟨_, h2⟩ := look_argL vs 0 k v hk
  have hk' : k < vs.length := by
    rcases Nat.lt_or_ge k vs.length with h | h
    · exact h
    · rw [Nat.sub_zero, List.getElem?_eq_none h] at h2; cases h2
  rw [Nat.sub_zero, List.getElem?_eq_getElem hk'] at h2
  injection h2 with h2
  simp only [Array.getD_eq_getD_getElem?]
  rw [Array.getElem?_append_left (by simpa using hk')]
  simp [hk', h2]
/-- The defer, the last of its statement. -/
theorem sq_defer (F : Fr a n L) (hw : Region.wanted o (yielded ops.toArray a.tmps) = true) (ho : o.op = .defer { callee := .value x, args := #[], argTypes := #[] }) (hx : a.eval x = .func (.func f) #[] lb) (hd : o.dst = none)
    (h : Q .normal (addD a [⟨.fn (.func f) lb, #[]⟩]) w) : wpList P ops.toArray Q [o] a w :=
  wpList_step fun K hK => by
    rw [if_pos hw]
    unfold Oper.wp
    have hr : (execOp a.eval o).run P w = .ok (.defer ⟨.fn (.func f) lb, #[]⟩) w := by
      simp only [execOp, ho, resolve, hx]
      simp [Deferred.ofValue]
    rw [hr, Oper.upon_defer]
    refine hK _ _ (wpList_nil ?_)
    rw [hd]
    have e : ({ a with defers := ⟨.fn (.func f) lb, #[]⟩ :: a.defers }.put none undef : Act) = addD a [⟨.fn (.func f) lb, #[]⟩] := by
      unfold addD
      rw [F.defers]; rfl
    rw [e]
    exact h
/-- A call of a function value, whatever its contract says. -/
theorem sq_callVR (hw : Region.wanted o (yielded ops.toArray a.tmps) = true) (ho : o.op = .call { callee := .value x, args := #[], argTypes := #[] })
    (hx : a.eval x = .func (.func f) #[] lb) (he : enters P f = true) (hd : o.dst = some d) {Y : Ending → World → Prop} (hc : Calls P f lb w Y)
    (h1 : ∀ v w', Y (.returned v) w' → wpList P ops.toArray Q rest (a.put (some d) v) w') (h2 : ∀ c w', Y (.panicked c) w' → Q (.panic c) a w') (h3 : ∀ w', ¬ Y .outgrown w') : wpList P ops.toArray Q (o :: rest) a w :=
  wpList_step fun K hK => by
    rw [if_pos hw]
    unfold Oper.wp
    rw [run_callVp (xs := []) (args := []) ho hx rfl w, callFunc_entersP he]
    rw [show (#[] : Array Value) ++ lb = lb by simp]
    refine hc.mono fun e w' hY => ?_
    cases e with
    | returned v => exact hK _ _ (by rw [hd]; exact h1 v w' hY)
    | panicked c => exact h2 c w' hY
    | outgrown => exact absurd hY (h3 w')
end
section
variable {P : Program} {a : Act} {w w0 : World} {n : Nat} {L : List (Nat × Value)} {R : Ending → World → Prop} {fn : Func} {ds : List Deferred} {c : List PanicEntry} {Z : List Nat} {B : List Ent} {i i' k j g g' m : Nat} {ty ty' t t' : TypeId} {v x : Value} {cs : Array Value}
theorem lv_ret (F : Fr a n L) (h : Leaves P fn a.tmps R ds .returning w) : bodyPostD P fn R .ret (addD a ds) w := by
  show Leaves P fn a.tmps R (a.defers ++ ds) .returning w
  rw [F.defers]; exact h
theorem lv_panic (F : Fr a n L) (h : Leaves P fn a.tmps R ds (.panicking c) w) : bodyPostD P fn R (.panic c) (addD a ds) w := by
  show Leaves P fn a.tmps R (a.defers ++ ds) (.panicking c) w
  rw [F.defers]; exact h
theorem out_setCell (hB : Blk w g t #[x]) (v : Value) : Out [g] w (w.setCell ⟨g, 0, none⟩ v) ∧ Blk (w.setCell ⟨g, 0, none⟩ v) g t #[v] :=
  ⟨⟨rfl, rfl, rfl, by simp, fun j _ hj => heap_setCell_other w ⟨g, 0, none⟩ j v (fun e => hj (by rw [e]; simp))⟩, hB.set_ _ _⟩
theorem run_one (hB : Blk w g t #[x]) (hT : OneTy P ty) : (loadVar ty ⟨g, 0, none⟩).run P w = .ok x w := by
  obtain ⟨d, hu, hd⟩ := hT
  have hagg : (isAgg ty).run P w = .ok false w := by
    unfold isAgg
    rw [Sem.run_bind, run_underlying hu w]
    cases d <;> simp_all
  have hc : w.cell? ⟨g, 0, none⟩ = some x := by rw [hB.cell]; rfl
  simp [loadVar, hagg, hc]
theorem run_agg (hB : Blk w g t cs) (hT : AggTy P ty m) (hm : cs.size = m) : (loadVar ty ⟨g, 0, none⟩).run P w = .ok (.agg cs) w := by
  obtain ⟨d, hu, hd, hz⟩ := hT
  exact run_loadVar_row w g t ty cs (0, 0) d hB hu (by cases d <;> simp_all [TypeDesc.isRow]) (by rw [hz, hm])
/-- What a function hands back that deferred calls leave. -/
theorem rs_tmp_one (F : Fr a n L) (hr : fn.results = #[.tmp k, .cell j ty]) (hv : look L k = some v) (hp : look L j = some (.pointer (some ⟨g, 0, none⟩))) (hB : Blk w g t #[x]) (hT : OneTy P ty) : (results fn a.tmps).run P w = .ok (.tuple #[v, x]) w := by
  have h1 := F.get hv
  have h2 : a.tmps[k]?.getD undef = v := by simpa using h1
  have h3 := F.get hp
  have h4 : a.tmps[j]?.getD undef = .pointer (some ⟨g, 0, none⟩) := by simpa using h3
  simp [results, hr, h2, h4, asAddr, run_one hB hT]
theorem rs_agg_one (F : Fr a n L) (hr : fn.results = #[.cell k ty', .cell j ty]) (hv : look L k = some (.pointer (some ⟨g', 0, none⟩))) (hp : look L j = some (.pointer (some ⟨g, 0, none⟩))) (hB' : Blk w g' t' cs) (hT' : AggTy P ty' m) (hm : cs.size = m) (hB : Blk w g t #[x]) (hT : OneTy P ty) : (results fn a.tmps).run P w = .ok (.tuple #[.agg cs, x]) w := by
  have h1 := F.get hv
  have h2 : a.tmps[k]?.getD undef = .pointer (some ⟨g', 0, none⟩) := by simpa using h1
  have h3 := F.get hp
  have h4 : a.tmps[j]?.getD undef = .pointer (some ⟨g, 0, none⟩) := by simpa using h3
  simp [results, hr, h2, h4, asAddr, run_one hB hT, run_agg hB' hT' hm]
theorem Mm.apArg {v' : Value} {n' m' : Nat} {xs : List Value} (M : Mm [] w0 w B) (hi : B[i]? = some (.blk g t cs)) (hj : B[j]? = some (.arg m' v' n' xs)) : 0 < n' → gof v' ≠ g := fun h e => by
  have h1 := M.newer hi (by simp)
  have h2 := (M.far _ (List.mem_of_getElem? hj) (gof v') (by show gof v' ∈ (if n' = 0 then [] else [gof v']); rw [if_neg (by omega)]; simp)).1
  omega
theorem Mm.apGot {v' : Value} {n' m' : Nat} {xs : List Value} (M : Mm Z w0 w B) (hi : B[i]? = some (.blk g t cs)) (hj : B[j]? = some (.got m' v' n' xs)) (hne : Nat.beq i j = false := by rfl) : 0 < n' → gof v' ≠ g := fun h e => by
  have hij : i ≠ j := fun e => by subst e; simp at hne
  have hi' : i < B.length := by
    rcases Nat.lt_or_ge i B.length with h | h
    · exact h
    · rw [List.getElem?_eq_none h] at hi; cases hi
  have hj' : j < B.length := by
    rcases Nat.lt_or_ge j B.length with h | h
    · exact h
    · rw [List.getElem?_eq_none h] at hj; cases hj
  rw [List.getElem?_eq_getElem hi'] at hi; injection hi with hi
  rw [List.getElem?_eq_getElem hj'] at hj; injection hj with hj
  have hp := List.pairwise_iff_getElem.1 M.nd
  have a1 : g ∈ B[i].fp := by rw [hi]; simp [Ent.fp]
  have a2 : g ∈ B[j].fp := by rw [hj]; show g ∈ (if n' = 0 then [] else [gof v']); rw [if_neg (by omega), e]; simp
  rcases Nat.lt_or_gt_of_ne hij with h1 | h1
  · exact hp i j hi' hj' h1 g a1 a2
  · exact hp j i hj' hi' h1 g a2 a1
theorem Mm.neBlk {t' : TypeId} {cs' : Array Value} (M : Mm Z w0 w B) (hi : B[i]? = some (.blk g t cs)) (hj : B[j]? = some (.blk g' t' cs')) (hne : Nat.beq i j = false := by rfl) : ¬ g ∈ [g'] := fun e => by
  simp only [List.mem_singleton] at e
  have hij : i ≠ j := fun e => by subst e; simp at hne
  have hi' : i < B.length := by
    rcases Nat.lt_or_ge i B.length with h | h
    · exact h
    · rw [List.getElem?_eq_none h] at hi; cases hi
  have hj' : j < B.length := by
    rcases Nat.lt_or_ge j B.length with h | h
    · exact h
    · rw [List.getElem?_eq_none h] at hj; cases hj
  rw [List.getElem?_eq_getElem hi'] at hi; injection hi with hi
  rw [List.getElem?_eq_getElem hj'] at hj; injection hj with hj
  have hp := List.pairwise_iff_getElem.1 M.nd
  have a1 : g ∈ B[i].fp := by rw [hi]; simp [Ent.fp]
  have a2 : g ∈ B[j].fp := by rw [hj, e]; simp [Ent.fp]
  rcases Nat.lt_or_gt_of_ne hij with h1 | h1
  · exact hp i j hi' hj' h1 g a1 a2
  · exact hp j i hj' hi' h1 g a2 a1
theorem lv_end {tmps : Array Value} (h1 : (results fn tmps).run P w = .ok v w) (h2 : R (.returned v) w) : Leaves P fn tmps R [] (settle .returning) w := ⟨v, h1, h2⟩
theorem lv_endP {tmps : Array Value} {pv : Value} (h1 : (results fn tmps).run P w = .ok v w) (h2 : R (.returned v) w) : Leaves P fn tmps R [] (settle (.panicking [{ v := pv, recovered := true }])) w := ⟨v, h1, h2⟩
theorem Mm.outNew (M : Mm [] w0 w B) (hi : B[i]? = some (.blk g t cs)) {w' : World} (h : Out [g] w w') : Out [] w0 w' :=
  M.out.trans h (fun g' hg => by
    simp only [List.mem_singleton] at hg
    subst hg
    exact .inl (M.newer hi (by simp)))
end
/-! ### The slices of what is read piece by piece -/
def restV (v : Value) (n : Nat) : List Nat → Value
  | [] => v
  | j :: js => subS 1 j (n - js.sum) (restV v n js)
section
variable {w : World} {v : Value} {n j : Nat} {L : List UInt8}
theorem rdv_lenU (h : RdV w 1 v n (cU L)) : L.length = n := by have := h.1; rw [cU_len] at this; omega
theorem rest_rdv (hr : RdV w 1 v n (cU L)) : ∀ (js : List Nat), js.sum ≤ n → RdV w 1 (restV v n js) (n - js.sum) (cU (L.drop js.sum))
  | [], _ => by simpa [restV] using hr
  | j :: js, h => by
    rw [List.sum_cons] at h ⊢
    have h1 := subU (l := j) (h := n - js.sum) (rest_rdv hr js (by omega)) (by omega) (Nat.le_refl _)
    have hl := rdv_lenU hr
    have e : ((L.drop js.sum).drop j).take (n - js.sum - j) = L.drop (j + js.sum) := by
      rw [List.drop_drop, List.take_of_length_le (by rw [List.length_drop]; omega), Nat.add_comm]
    rw [e] at h1
    rw [show n - (j + js.sum) = n - js.sum - j by omega]
    exact h1
theorem rest_rdv' (hr : RdV w 1 v n (cU L)) {js : List Nat} {s : Nat} (hs : js.sum = s) (h : s ≤ n) : RdV w 1 (restV v n js) (n - s) (cU (L.drop s)) := by
  subst hs
  exact rest_rdv hr js h
end
/-! ### A number's bytes, the most significant first -/
def numB (L : List UInt8) : Int := L.foldl (fun a b => a * 256 + u8 b) 0
theorem numB_snoc (L : List UInt8) (b : UInt8) : numB (L ++ [b]) = numB L * 256 + u8 b := by simp [numB]
theorem numB_take {L : List UInt8} {i : Nat} (h : i < L.length) : numB (L.take (i + 1)) = numB (L.take i) * 256 + u8 (atU L i) := by
  rw [List.take_succ_eq_append_getElem h, numB_snoc, atU_eq h]
theorem numB_lt : ∀ {L : List UInt8}, L.length ≤ 3 → 0 ≤ numB L ∧ numB L < 16777216
  | [], _ => by simp [numB]
  | [a], _ => by have := u8_lt a; simp [numB]; omega
  | [a, b], _ => by have := u8_lt a; have := u8_lt b; simp [numB]; omega
  | [a, b, c], _ => by have := u8_lt a; have := u8_lt b; have := u8_lt c; simp [numB]; omega
  | _ :: _ :: _ :: _ :: _, h => by simp at h
theorem or_i64 {x y : Int} (h0 : 0 ≤ x) (h1 : x < 16777216) (h2 : 0 ≤ y) (h3 : y < 256) : bits .or .i64 (x * 256) y = x * 256 + y := by
  obtain ⟨X, rfl⟩ := Int.eq_ofNat_of_zero_le h0
  obtain ⟨Y, rfl⟩ := Int.eq_ofNat_of_zero_le h2
  have e : ((X : Int) * 256) = ((X * 256 : Nat) : Int) := by omega
  show IntKind.i64.wrap ((BitVec.ofInt 64 ((X : Int) * 256) ||| BitVec.ofInt 64 (Y : Int)).toNat : Int) = _
  rw [e, BitVec.toNat_or, BitVec.ofInt_natCast, BitVec.ofInt_natCast, BitVec.toNat_ofNat, BitVec.toNat_ofNat, Nat.mod_eq_of_lt (by omega), Nat.mod_eq_of_lt (by omega)]
  have h5 : X * 256 ||| Y = X * 256 + Y := by
    rw [show X * 256 = X <<< 8 by rw [Nat.shiftLeft_eq], Nat.shiftLeft_add_eq_or_of_lt (by omega)]
  rw [h5, IntWalk.i64_in _ (by omega)]
  omega
section
variable {P : Program} {o : Oper} {a : Act} {x y : Operand} {i j : Int} {t t' : TypeId}
theorem pu_shl8 (ho : o.op = .binOp .shl t x y t') (hx : a.eval x = .int .i64 i) (hy : a.eval y = .int .u64 8) (h0 : 0 ≤ i) (h1 : i < 16777216) : Pure P o a (.int .i64 (i * 256)) := fun w => by
  simp only [execOp, ho, hx, hy]
  have h2 := shift_shl .i64 .u64 i 8 (by omega) (by simp [IntKind.bits])
  have h3 : (i * 2 ^ (8 : Int).toNat) = i * 256 := rfl
  rw [h3, IntWalk.i64_in _ (by omega)] at h2
  simp [go_sem, binOp, h2]
theorem pu_or8 (ho : o.op = .binOp .or t x y t') (hx : a.eval x = .int .i64 (i * 256)) (hy : a.eval y = .int .i64 j) (h0 : 0 ≤ i) (h1 : i < 16777216) (h2 : 0 ≤ j) (h3 : j < 256) : Pure P o a (.int .i64 (i * 256 + j)) := fun w => by
  simp only [execOp, ho, hx, hy]
  simp [go_sem, binOp, or_i64 h0 h1 h2 h3]
end
/-! ### So many bytes 0 behind a row -/
theorem zcU (k : Nat) : Builtin.zeroCells (Value.int .u8 0).cells k = (cU (List.replicate k 0)).toArray := by
  have h : cU (List.replicate k 0) = List.replicate k (.int .u8 0) := by rw [cU_map]; simp [u8]
  rw [h]
  unfold Builtin.zeroCells
  apply Array.ext
  · simp [Value.cells]
  · intro i h1 h2
    simp [Value.cells, Nat.mod_one]
section
variable {P : Program} {ops rest : List Oper} {o : Oper} {a : Act} {n d : Nat} {L : List (Nat × Value)} {Q : Exit → Act → World → Prop} {R : List Nat} {w w0 : World} {B : List Ent} {v u : Value} {x y : Operand} {t tn e : TypeId} {i k c : Nat} {xs : List Value}
theorem appZ_run (M : Mm R w0 w B) (ho : o.op = .call { callee := .builtin .append, args := #[x, y], argTypes := #[t, tn] }) (ht : P.underlying t = some (.slice e)) (htn : P.underlying tn = some (.int .i64)) (hE : (P.info? e).map (fun i => (i.zero, i.size, i.bytes)) = some (some (.int .u8 0), 1, 1))
    (hx : a.eval x = v) (hi : B[i]? = some (.row e 1 v k xs)) (hy : a.eval y = .int .i64 (c : Int)) (hk : 0 < k) (hc : 0 < c) (hmax : k + c ≤ 1000000000) :
    ∃ v' w', (execOp a.eval o).run P w = .ok (.value v') w' ∧ Mm R w0 w' (B.set i (.row e 1 v' (k + c) (xs ++ cU (List.replicate c 0)))) := by
  have hown : w.ownsRow 0 e 1 v k xs := M.get hi
  cases hq : P.info? e with
  | none => simp [hq] at hE
  | some inf =>
    simp only [hq, Option.map_some, Option.some.injEq, Prod.mk.injEq] at hE
    obtain ⟨hz, hs, hby⟩ := hE
    have hw : IntKind.i64.wrap (c : Int) = c := by rw [IntKind.wrap_i64]; omega
    have hneg : ¬ ((c : Int) < 0) := by omega
    have h48i : ¬ (281474976710656 < (c : Int)) := by omega
    have hc0 : c ≠ 0 := by omega
    have hlen : (cU (List.replicate c 0)).length = c := by rw [cU_len, List.length_replicate]
    have hxl : xs.length = k := by have := hown.1; omega
    have hrun : ∃ v' w', (Builtin.append_ #[t, tn] o.type #[v, .int .i64 (c : Int)]).run P w = .ok v' w' ∧ w'.ownsRow 0 e 1 v' (k + c) (xs ++ cU (List.replicate c 0)) ∧ w.grownBy w' v.ownBlock ∧ (v'.ownBlock = v.ownBlock ∨ v'.ownBlock = some w.heap.size) := by
      rcases hown.2 with ⟨rfl, hn⟩ | ⟨g, cap, cur, rfl, hbg, hg, hnc, hcm, hcs, htake⟩
      · omega
      · by_cases hroom : k + c ≤ cap
        · have hst := run_storeCells_at P g k e (cU (List.replicate c 0)) 0 cur w hg (by rw [hcs, hlen]; omega) (cU_ones _)
          simp only [Nat.add_zero] at hst
          refine ⟨.slice (some ⟨g, 0, none⟩) (k + c) cap, w.setRow g (cur.toList.take k ++ cU (List.replicate c 0) ++ cur.toList.drop (k + (cU (List.replicate c 0)).length)).toArray, ?_, ?_, ⟨rfl, rfl, rfl, by simp, fun j _ hj => setRow_other w g j _ (fun e => hj (by simp [Value.ownBlock, e]))⟩, .inl rfl⟩
          · simp [Builtin.append_, run_underlying ht, run_underlying htn, sizeOf, typeInfo, zeroValue, hq, hz, hs, hby, asInt, asIntOf, hw, hneg, h48i, hc0, hroom, zcU, Addr.add_lit, hst]
          · refine ⟨by rw [List.length_append, hlen, hxl]; omega, .inr ⟨g, cap, _, rfl, hbg, setRow_heap w g cur _ e _ hg, hroom, hcm, ?_, ?_⟩⟩
            · simp only [List.size_toArray, List.length_append, List.length_take, List.length_drop, Array.length_toList, hlen]
              omega
            · rw [Nat.mul_one] at htake
              rw [htake, Nat.mul_one]
              have : (xs ++ cU (List.replicate c 0)).length = k + c := by rw [List.length_append, hlen, hxl]
              rw [← this]
              exact List.take_left
        · have holds : ∀ j u, xs[j]? = some u → w.drew.cell? ((⟨g, 0, none⟩ : Addr).add j) = some u := hown.cells (g := g) rfl
          have hfc := run_firstCells_some (P := P) w.drew inf.size k ⟨g, 0, none⟩ k cap xs (by rw [hs, hxl]; omega) holds
          have hr := Lib.run_append_grow_zeros (P := P) w t tn o.type e inf (.int .u8 0) .i64 .i64 ht htn hq hz (some ⟨g, 0, none⟩) k cap xs hfc c (by omega) (by omega) (by omega) (by omega) (by rw [hby]; omega) (growslice_fits (by omega) (by rw [hby]; omega))
          have hge := grownCap_ge w (k + c) cap e
          have hcm' : grownCap w (k + c) cap e ≤ maxLen := grownCap_le_maxLen w (k + c) cap e (by unfold maxLen; omega)
          refine ⟨_, _, hr, ?_, ⟨rfl, rfl, rfl, by simp, fun j hj _ => Below.heap_alloc w.drew _ j hj⟩, .inr rfl⟩
          rw [zcU c]
          refine ⟨by rw [List.length_append, hlen, hxl]; omega, .inr ⟨w.heap.size, _, _, rfl, Nat.zero_le _, heap_alloc_new w.drew _, hge, hcm', ?_, ?_⟩⟩
          · simp only [Array.size_append, List.size_toArray, size_zeroCells, hlen, hxl, Value.cells]
            simp
            omega
          · simp only [Array.toList_append, List.append_assoc]
            rw [← List.append_assoc, Nat.mul_one]
            have : (xs ++ cU (List.replicate c 0)).length = k + c := by rw [List.length_append, hlen, hxl]
            rw [← this]
            exact List.take_left
    obtain ⟨v', w', hr, h2, h3, h5⟩ := hrun
    have hexec : (execOp a.eval o).run P w = .ok (.value v') w' := by
      simp only [execOp, ho, resolve, invoke, builtin, Sem.run_bind, Sem.run_pure, Result.andThen_ok, List.map_toArray, List.map_cons, List.map_nil, hx, hy, hr]
    refine ⟨v', w', hexec, M.swap hi (x' := .row e 1 v' (k + c) (xs ++ cU (List.replicate c 0))) (Out.of_grown h3) h2 (fun g hg => ?_) (fun g hg => by cases hg)⟩
    simp only [Ent.fp] at hg ⊢
    rcases h5 with h6 | h6
    · exact .inl (by rw [← h6]; exact hg)
    · rw [h6] at hg; simp only [Option.toList_some, List.mem_singleton] at hg; exact .inr (by omega)
theorem sq_appZ (F : Fr a n L) (M : Mm R w0 w B) (hw : Region.wanted o (yielded ops.toArray a.tmps) = true) (ho : o.op = .call { callee := .builtin .append, args := #[x, y], argTypes := #[t, tn] }) (ht : P.underlying t = some (.slice e)) (htn : P.underlying tn = some (.int .i64)) (hE : (P.info? e).map (fun i => (i.zero, i.size, i.bytes)) = some (some (.int .u8 0), 1, 1))
    (hx : a.eval x = v) (hi : B[i]? = some (.row e 1 v k xs)) (hy : a.eval y = .int .i64 (c : Int)) (hk : 0 < k) (hc : 0 < c) (hmax : k + c ≤ 1000000000) (hd : o.dst = some d) (hdn : Nat.blt d n = true)
    (h : ∀ a' w' v', Fr a' n ((d, v') :: L) → Mm R w0 w' (B.set i (.row e 1 v' (k + c) (xs ++ cU (List.replicate c 0)))) → wpList P ops.toArray Q rest a' w') : wpList P ops.toArray Q (o :: rest) a w := by
  obtain ⟨v', w', hexec, hM⟩ := appZ_run M ho ht htn hE hx hi hy hk hc hmax
  exact sq_run F hw hexec hM hd hdn (fun a' w' F' M' => h a' w' v' F' M')
/-- A call that appends to its slice. -/
theorem sq_callA (F : Fr a n L) (M : Mm R w0 w B) (hw : Region.wanted o (yielded ops.toArray a.tmps) = true) {f : FuncId} {zs : List Operand} {ts : Array TypeId} {args : List Value} {m k' : Nat} {ys : List Value} (ho : o.op = .call { callee := .value (.func f), args := zs.toArray, argTypes := ts })
    (he : enters P f = true) (ha : zs.map a.eval = args) (hi : B[i]? = some (.row t m v k xs)) (hc : Calls P f args.toArray w fun e w' => ∃ x, e = .returned x ∧ Out v.ownBlock.toList w w' ∧ w'.ownsRow 0 t m x k' ys ∧ ∀ g ∈ x.ownBlock.toList, g ∈ v.ownBlock.toList ∨ w.heap.size ≤ g) (hd : o.dst = some d) (hdn : Nat.blt d n = true)
    (h : ∀ a' w' x, Fr a' n ((d, x) :: L) → Mm R w0 w' (B.set i (.row t m x k' ys)) → wpList P ops.toArray Q rest a' w') : wpList P ops.toArray Q (o :: rest) a w :=
  sq_callR F hw ho he ha hc hd hdn fun e w' hR => by
    obtain ⟨x, h1, h2, h3, h4⟩ := hR
    exact ⟨x, h1, fun a' F' => h a' w' x F' (M.swap hi (x' := .row t m x k' ys) h2 h3 h4 (fun g hg => by cases hg))⟩
theorem Mm.owns {m : Nat} (M : Mm v.ownBlock.toList w0 w B) (hi : B[i]? = some (.row t m u k xs)) : Out v.ownBlock.toList w0 w ∧ w.ownsRow 0 t m u k xs ∧ ∀ g ∈ u.ownBlock.toList, g ∈ v.ownBlock.toList ∨ w0.heap.size ≤ g :=
  ⟨M.out, M.ow hi, fun g hg => (M.own _ (List.mem_of_getElem? hi) g hg).symm⟩
/-- copy onto a whole array of bytes. -/
theorem sq_copy32 (F : Fr a n L) (M : Mm R w0 w B) (hgd : o.guard = none) {ts ty : TypeId} {g : Nat} {cs : Array Value} {K : List UInt8} (ho : o.op = .call { callee := .builtin .copy, args := #[x, y], argTypes := #[t, ts] })
    (hx : a.eval x = .slice (some ⟨g, 0, none⟩) 32 32) (hy : a.eval y = u) (hi : B[i]? = some (.blk g ty cs)) (hz : cs.size = 32) (hr : RdV w 1 u 32 (cU K)) (hu : P.underlying t = some (.slice e)) (hsz : (P.info? e).map (·.size) = some 1) (hd : o.dst = some d) (hdn : Nat.blt d n = true)
    (h : ∀ a' w', Fr a' n ((d, .int .i64 32) :: L) → Mm R w0 w' (B.set i (.blk g ty (List.toArray (l32 (B32.ofL K))))) → wpList P ops.toArray Q rest a' w') : wpList P ops.toArray Q (o :: rest) a w := by
  have hK : K.length = 32 := by have := hr.1; rw [cU_len] at this; omega
  have e1 : l32 (B32.ofL K) = cU K := by rw [l32_eq, ofL_full hK]
  obtain ⟨c', hu', _, _, _, hcell⟩ := hr.form (by omega)
  refine wpList_copy_own hgd x y t ts ho e hu hsz g 0 32 32 ⟨gof u, oof u, none⟩ 32 c' hx (by rw [hy]; exact hu') cs ty (M.at hi) (cU K) (by rw [cU_len, hK]; rfl) (fun j z hj => by rw [addr_add]; exact hcell j z hj) (by rw [cU_len, hK, hz]; omega) (cU_ones K) ?_
  rw [e1] at h
  have e2 : (cs.toList.take 0 ++ (cU K ++ cs.toList.drop (0 + (cU K).length))).toArray = List.toArray (cU K) := by
    rw [List.drop_eq_nil_of_le (by rw [cU_len, hK]; simp [hz])]
    simp
  rw [e2, cU_len, hK, hd]
  exact h _ _ (F.put hdn) (M.setRow hi _)
end
end Go.Proofs.Ytjelhljgeinodaa
