/- Put together: Gy, Ue, Pn, Hr. -/
import Derived.Test.YtcnmmnhlhenifaaJ3
import Derived.Recover
import Derived.Laws.Bits64
import Derived.Laws.CopyOwn
import Derived.Lib.AppendZerosOnto
namespace Go.Proofs.Ytcnmmnhlhenifaa
open Go.RowKit
set_option maxRecDepth 100000
set_option linter.unusedSimpArgs false
set_option linter.unusedVariables false
abbrev winV (g o n : Nat) : Value := .slice (some ⟨g, o, none⟩) n n
section
variable {P : Program} {ops rest : List Oper} {o : Oper} {a : Act} {n d : Nat} {L : List (Nat × Value)} {Q : Exit → Act → World → Prop} {R : List Nat} {w w0 : World} {B : List Ent} {v : Value} {x y lo hi mx : Operand} {t e ty : TypeId} {i g k s N c m : Nat} {k1 k2 k3 : IntKind} {i1 i2 i3 : Int} {A V C X : List Value}
theorem win_rdv (h : Blk w g t (List.toArray (cV X))) (hX : (X.drop s).take n = V) (hV : V.length = n) (hn : n ≤ 1000000000) : RdV w 1 (winV g s n) n (cV V) :=
  ⟨by show V.length = n * 1; omega, _, _, rfl, Nat.le_refl _, by unfold maxLen; omega, fun _ => ⟨g, s, rfl, h.lt, fun j u hj => by
    rw [h.cell, List.getElem?_toArray]
    have hj' : V[j]? = some u := hj
    rw [← hX, List.getElem?_take, List.getElem?_drop] at hj'
    split at hj'
    · exact hj'
    · cases hj'⟩⟩
theorem mid_win (hA : A.length = s) (hV : V.length = n) : ((A ++ V ++ C).drop s).take n = V := by
  rw [List.append_assoc, ← hA, List.drop_left, ← hV, List.take_left]
end
structure TabV (t ty : TypeId) (g : Nat) (A V C : List Value) (L : List (List St)) (w : World) : Prop where
  blk : Blk w g t (List.toArray (cV (A ++ V ++ C)))
  rows : RowsV ty V L w
  ne : ¬ g ∈ fpR V
theorem TabV.loc (t ty : TypeId) (g : Nat) (A V C : List Value) (L : List (List St)) : Loc (g :: fpR V) (TabV t ty g A V C L) := fun w w' hk h => by
  have h2 := RowsV.loc ty V L w w' (fun q hq => hk q (List.mem_cons_of_mem _ hq)) h.rows
  refine ⟨⟨(hk g (List.mem_cons_self ..)).trans h.blk, h2.1, h.ne⟩, fun q hq => ?_⟩
  rcases List.mem_cons.1 hq with rfl | hq
  · exact h.blk.lt
  · exact h2.2 q hq
section
variable {R : List Nat} {w0 w : World} {B : List Ent} {t ty t2 : TypeId} {g g2 n m s i k : Nat} {A V C X : List Value} {K : List (List St)} {vss : List (List Value)} {L : List (List (List St))}
theorem TabV.rd (h : TabV t ty g A V C K w) (hA : A.length = s) (hV : V.length = n) (hn : n ≤ 1000000000) : RdV w 1 (winV g s n) n (cV V) := win_rdv h.blk (mid_win hA hV) hV hn
structure DoneV (vss : List (List Value)) (L : List (List (List St))) (w : World) : Prop where
  len : vss.length = L.length
  lv : ∀ i, i < L.length → (atW vss i).length = (at3 L i).length
  one : ∀ i j, i < L.length → j < (at3 L i).length → RdS w (atV (atW vss i) j) (atR (at3 L i) j)
def fpD (vss : List (List Value)) (L : List (List (List St))) : List Nat :=
  (List.range L.length).flatMap fun i => (List.range (at3 L i).length).flatMap fun j => fpN (atV (atW vss i) j) (atR (at3 L i) j).length
theorem mem_fpD {q : Nat} : q ∈ fpD vss L ↔ ∃ i, i < L.length ∧ ∃ j, j < (at3 L i).length ∧ q ∈ fpN (atV (atW vss i) j) (atR (at3 L i) j).length := by
  unfold fpD
  simp only [List.mem_flatMap, List.mem_range]
theorem DoneV.loc (vss : List (List Value)) (L : List (List (List St))) : Loc (fpD vss L) (DoneV vss L) := fun w w' hk h => by
  refine ⟨⟨h.len, h.lv, fun i j hi hj => ?_⟩, fun q hq => ?_⟩
  · exact (RdV.keep (h.one i j hi hj) fun q hq => hk q (mem_fpD.2 ⟨i, hi, j, hj, hq⟩)).1
  · obtain ⟨i, hi, j, hj, h1⟩ := mem_fpD.1 hq
    exact (RdV.keep (w' := w) (h.one i j hi hj) fun _ _ => rfl).2 q h1
def rsF (g n k : Nat) : List Value := (List.range n).map fun q => if q < k then winV g (q * n) n else nilV
end
end Go.Proofs.Ytcnmmnhlhenifaa
namespace Go.Proofs.Ytcnmmnhlhenifaa
open Go.RowKit
set_option maxRecDepth 100000
set_option linter.unusedSimpArgs false
set_option linter.unusedVariables false
theorem ag24 : AggTy Try.prog 24 2 := ⟨_, Try.underlying24, rfl, by kernel_rfl⟩
theorem eqSt {dd : Nat} (a b : St) (w : World) : (Op.equalIn (dd + 2) 24 (.agg (List.toArray [.int .i64 a.e, .int .i64 a.r])) (.agg (List.toArray [.int .i64 b.e, .int .i64 b.r]))).run Try.prog w = .ok (decide (a = b)) w := by
  have h : decide (a = b) = (decide (a.e = b.e) && (decide (a.r = b.r) && true)) := by rw [Bool.eq_iff_iff]; cases a; cases b; simp
  rw [h, run_equalIn_struct w (dd + 1) 24 _ _ (by kernel_rfl) (by kernel_rfl), show (Try.prog.fieldsOf 24).toList = _ from by unfold Program.fieldsOf; rw [Try.underlying24]]; exact (eqF_cons (by decide) (part_one ⟨_, Try.underlying3, rfl⟩ rfl) (part_one ⟨_, Try.underlying3, rfl⟩ rfl) (eq_int (dd := dd + 0) Try.underlying3) (eqF_cons (by decide) (part_one ⟨_, Try.underlying3, rfl⟩ rfl) (part_one ⟨_, Try.underlying3, rfl⟩ rfl) (eq_int (dd := dd + 0) Try.underlying3) eqF_nil))
theorem eqPo {dd : Nat} (a b : Po) (w : World) : (Op.equalIn (dd + 3) 26 (.agg (List.toArray [.int .i64 a.n, .int .i64 a.t.e, .int .i64 a.t.r])) (.agg (List.toArray [.int .i64 b.n, .int .i64 b.t.e, .int .i64 b.t.r]))).run Try.prog w = .ok (decide (a = b)) w := by
  have h : decide (a = b) = (decide (a.n = b.n) && (decide (a.t = b.t) && true)) := by rw [Bool.eq_iff_iff]; cases a; cases b; simp
  rw [h, run_equalIn_struct w (dd + 2) 26 _ _ (by kernel_rfl) (by kernel_rfl), show (Try.prog.fieldsOf 26).toList = _ from by unfold Program.fieldsOf; rw [Try.underlying26]]; exact (eqF_cons (by decide) (part_one ⟨_, Try.underlying3, rfl⟩ rfl) (part_one ⟨_, Try.underlying3, rfl⟩ rfl) (eq_int (dd := dd + 1) Try.underlying3) (eqF_cons (by decide) (part_agg ag24 (cs := [.int .i64 a.t.e, .int .i64 a.t.r]) rfl) (part_agg ag24 (cs := [.int .i64 b.t.e, .int .i64 b.t.r]) rfl) (eqSt (dd := dd + 0) a.t b.t w) eqF_nil))
theorem eqCts {dd : Nat} (a b : (St × Int)) (w : World) : (Op.equalIn (dd + 3) 45 (.agg (List.toArray [.int .i64 a.1.e, .int .i64 a.1.r, .int .i64 a.2])) (.agg (List.toArray [.int .i64 b.1.e, .int .i64 b.1.r, .int .i64 b.2]))).run Try.prog w = .ok (decide (a = b)) w := by
  have h : decide (a = b) = (decide (a.1 = b.1) && (decide (a.2 = b.2) && true)) := by rw [Bool.eq_iff_iff]; cases a; cases b; simp
  rw [h, run_equalIn_struct w (dd + 2) 45 _ _ (by kernel_rfl) (by kernel_rfl), show (Try.prog.fieldsOf 45).toList = _ from by unfold Program.fieldsOf; rw [Try.underlying45]]; exact (eqF_cons (by decide) (part_agg ag24 (cs := [.int .i64 a.1.e, .int .i64 a.1.r]) rfl) (part_agg ag24 (cs := [.int .i64 b.1.e, .int .i64 b.1.r]) rfl) (eqSt (dd := dd + 0) a.1 b.1 w) (eqF_cons (by decide) (part_one ⟨_, Try.underlying3, rfl⟩ rfl) (part_one ⟨_, Try.underlying3, rfl⟩ rfl) (eq_int (dd := dd + 1) Try.underlying3) eqF_nil))
end Go.Proofs.Ytcnmmnhlhenifaa
namespace Go.Proofs.Ytcnmmnhlhenifaa
open Go.RowKit
set_option maxRecDepth 100000
set_option linter.unusedSimpArgs false
set_option linter.unusedVariables false
def PanE (T : TypeId) (n : Int) : List PanicEntry := [{ v := .iface T (.int .i64 n), recovered := false }]
section
variable {P : Program} {a : Act} {o : Oper} {x : Operand}
theorem run_callVp {xs : List Operand} {ts : Array TypeId} {args : List Value} {f : Nat} {lb : Array Value} (ho : o.op = .call { callee := .value x, args := xs.toArray, argTypes := ts }) (hx : a.eval x = .func (.func f) #[] lb) (ha : xs.map a.eval = args) (w : World) :
    (execOp a.eval o).run P w = (callFunc f (args.toArray ++ lb)).run P w := by
  simp only [execOp, ho, resolve, hx, List.map_toArray, ha]
  simp [Deferred.ofValue, invoke]
theorem callFunc_entersP {f : Nat} (he : enters P f = true) (args : Array Value) (w : World) : (callFunc f args).run P w = .ok (.enter f args) w := by
  unfold enters at he
  cases hf : P.funcs[f]? with
  | none => simp [hf] at he
  | some fn =>
    simp only [hf, Option.any_some, Bool.and_eq_true, Bool.not_eq_true', beq_eq_false_iff_ne, ne_eq] at he
    obtain ⟨h1, h2⟩ := he
    have h2' : fn.body ≠ none := by intro e; rw [e] at h2; simp at h2
    simp [callFunc, program, hf, h1, h2', Sem.run, Sem.run_bind]
end
section
variable {P : Program} {Q : Exit → Act → World → Prop} {K J : Act → World → Prop} {c : List PanicEntry} {a : Act} {w w0 : World} {n d : Nat} {L : List (Nat × Value)} {fn : Func} {R : Ending → World → Prop}
theorem npT (h : Q (.panic c) a w) : Exit.then K Q (.panic c) a w := h
theorem rt_panic (F : Fr a n L) (hR : R (.panicked c) w) : bodyPost P fn R (.panic c) a w := ⟨F.defers, hR⟩
variable {ops rest : List Oper} {o : Oper} {Z : List Nat} {B : List Ent} {x y : Operand} {v u : Value} {t e ty : TypeId} {i g k m : Nat} {f : FuncId} {xs : List Operand} {ts : Array TypeId} {args : List Value} {cs cs' : Array Value}
theorem sq_panic (hw : Region.wanted o (yielded ops.toArray a.tmps) = true) (ho : o.op = .panic x) (hx : a.eval x = .iface t v) (h : Q (.panic [{ v := .iface t v, recovered := false }]) a w) : wpList P ops.toArray Q (o :: rest) a w :=
  wpList_step fun K hK => by
    rw [if_pos hw]
    unfold Oper.wp
    simp only [execOp, ho, hx]
    exact h
theorem ow_callPn {K : Act → World → Prop} (ho : o.op = .call { callee := .value (.func f), args := xs.toArray, argTypes := ts }) (he : enters P f = true) (ha : xs.map a.eval = args) (hc : Calls P f args.toArray w fun e w' => e = .panicked c ∧ Out Z w w') (h : ∀ w', Out Z w w' → Q (.panic c) a w') : o.wp P a w K Q := by
  unfold Oper.wp
  rw [run_enter he ho w, List.map_toArray, ha]
  refine hc.mono fun e w' ⟨h1, h2⟩ => ?_
  subst h1
  exact h _ h2
theorem sq_callPn (M : Mm Z w0 w B) (hw : Region.wanted o (yielded ops.toArray a.tmps) = true) (ho : o.op = .call { callee := .value (.func f), args := xs.toArray, argTypes := ts }) (he : enters P f = true) (ha : xs.map a.eval = args) (hc : Calls P f args.toArray w fun e w' => e = .panicked c ∧ Out [] w w') (h : ∀ w', Out Z w0 w' → Q (.panic c) a w') : wpList P ops.toArray Q (o :: rest) a w :=
  wpList_step fun K hK => by
    rw [if_pos hw]
    exact ow_callPn ho he ha hc fun w' h1 => h w' (M.out.trans h1 (fun g hg => by cases hg))
end
def addD (a : Act) (ds : List Deferred) : Act := { a with defers := a.defers ++ ds }
section
variable {P : Program} {ops : Array Oper} {Q : Exit → Act → World → Prop} {ds : List Deferred}
theorem put_addD (a : Act) (d : Option Nat) (v : Value) : (addD a ds).put d v = addD (a.put d v) ds := by cases d <;> rfl
theorem upon_addD {o : Oper} {a : Act} {K K' : Act → World → Prop} (hK : ∀ a w, K a w → K' (addD a ds) w) {r : Result Next} (h : o.upon P a K (fun e a' w' => Q e (addD a' ds) w') r) : o.upon P (addD a ds) K' Q r := by
  unfold Oper.upon at h ⊢
  split at h
  · rw [put_addD]; exact hK _ _ h
  · rw [put_addD]; exact hK _ _ h
  · rename_i d w'
    have := hK _ _ h
    rw [← put_addD] at this
    exact this
  · refine Calls.mono h fun e w'' hR => ?_
    cases e with
    | returned v => simp only at hR ⊢; rw [put_addD]; exact hK _ _ hR
    | panicked c => exact hR
    | outgrown => obtain ⟨a1, w1, h1⟩ := hR; exact ⟨_, w1, h1⟩
  · rename_i row args w'
    rw [show (fun v w'' => K' ((addD a ds).put o.dst v) w'') = fun v w'' => K' (addD (a.put o.dst v) ds) w'' from by funext v w''; rw [put_addD]]
    intro b cs
    obtain ⟨v, w'', h1, h2⟩ := h b cs
    exact ⟨v, w'', hK _ _ h1, h2⟩
  · exact h
  · exact h.elim
theorem wpList_addD : ∀ (l : List Oper) (a : Act) (w : World), wpList P ops (fun e a' w' => Q e (addD a' ds) w') l a w → wpList P ops Q l (addD a ds) w
  | [], _, _, h => h
  | o :: rest, a, w, h => by
    unfold wpList at h ⊢
    show if Region.wanted o (yielded ops a.tmps) = true then _ else _
    split
    · rename_i hw
      rw [if_pos hw] at h
      rcases h with h | ⟨h1, a1, w1, h2⟩
      · exact .inl (upon_addD (fun a w hk => wpList_addD rest a w hk) h)
      · exact .inr ⟨h1, _, w1, h2⟩
    · rename_i hw
      rw [if_neg hw] at h
      rw [put_addD]
      exact wpList_addD rest _ _ h
end
section
variable {P : Program} {Q : Exit → Act → World → Prop} {a : Act} {w w0 : World} {n d : Nat} {L : List (Nat × Value)} {ops rest : List Oper} {o : Oper} {Z : List Nat} {B : List Ent} {x y : Operand} {v : Value} {f : FuncId} {lb : Array Value} {vs : List Value} {R : Ending → World → Prop} {c : Code} {fn : Func}
theorem enterD (hf : P.funcs[f]? = some fn) (hb : fn.body = some c) (n : Nat) (hn : fn.ntmps = n) (vs : List Value) (hlen : Nat.ble vs.length n = true) (L : List (Nat × Value)) (hL : argL 0 vs = L)
    (h : ∀ a, Fr a n L → c.wp P (bodyPostD P fn R) a w) : Calls P f vs.toArray w R := by
  subst hL
  have hlen' : vs.length ≤ n := Nat.le_of_ble_eq_true hlen
  refine calls_of_wp_defers hf hb (h _ ⟨by simp [hn]; omega, rfl, fun {k v} hk => ?_⟩)
  obtain ⟨_, h2⟩ := look_argL vs 0 k v hk
  have hk' : k < vs.length := by
    rcases Nat.lt_or_ge k vs.length with h | h
    · exact h
    · rw [Nat.sub_zero, List.getElem?_eq_none h] at h2; cases h2
  rw [Nat.sub_zero, List.getElem?_eq_getElem hk'] at h2
  injection h2 with h2
  simp only [Array.getD_eq_getD_getElem?]
  rw [Array.getElem?_append_left (by simpa using hk')]
  simp [hk', h2]
theorem sq_defer (F : Fr a n L) (hw : Region.wanted o (yielded ops.toArray a.tmps) = true) (ho : o.op = .defer { callee := .value x, args := #[], argTypes := #[] }) (hx : a.eval x = .func (.func f) #[] lb) (hd : o.dst = none)
    (h : Q .normal (addD a [⟨.fn (.func f) lb, #[]⟩]) w) : wpList P ops.toArray Q [o] a w :=
  wpList_step fun K hK => by
    rw [if_pos hw]
    unfold Oper.wp
    have hr : (execOp a.eval o).run P w = .ok (.defer ⟨.fn (.func f) lb, #[]⟩) w := by
      simp only [execOp, ho, resolve, hx]
      simp [Deferred.ofValue]
    rw [hr, Oper.upon_defer]
    refine hK _ _ (wpList_nil ?_)
    rw [hd]
    have e : ({ a with defers := ⟨.fn (.func f) lb, #[]⟩ :: a.defers }.put none undef : Act) = addD a [⟨.fn (.func f) lb, #[]⟩] := by
      unfold addD
      rw [F.defers]; rfl
    rw [e]
    exact h
theorem sq_callVR (hw : Region.wanted o (yielded ops.toArray a.tmps) = true) (ho : o.op = .call { callee := .value x, args := #[], argTypes := #[] })
    (hx : a.eval x = .func (.func f) #[] lb) (he : enters P f = true) (hd : o.dst = some d) {Y : Ending → World → Prop} (hc : Calls P f lb w Y)
    (h1 : ∀ v w', Y (.returned v) w' → wpList P ops.toArray Q rest (a.put (some d) v) w') (h2 : ∀ c w', Y (.panicked c) w' → Q (.panic c) a w') (h3 : ∀ w', ¬ Y .outgrown w') : wpList P ops.toArray Q (o :: rest) a w :=
  wpList_step fun K hK => by
    rw [if_pos hw]
    unfold Oper.wp
    rw [run_callVp (xs := []) (args := []) ho hx rfl w, callFunc_entersP he]
    rw [show (#[] : Array Value) ++ lb = lb by simp]
    refine hc.mono fun e w' hY => ?_
    cases e with
    | returned v => exact hK _ _ (by rw [hd]; exact h1 v w' hY)
    | panicked c => exact h2 c w' hY
    | outgrown => exact absurd hY (h3 w')
end
section
variable {P : Program} {a : Act} {w w0 : World} {n : Nat} {L : List (Nat × Value)} {R : Ending → World → Prop} {fn : Func} {ds : List Deferred} {c : List PanicEntry} {Z : List Nat} {B : List Ent} {i i' k j g g' m : Nat} {ty ty' t t' : TypeId} {v x : Value} {cs : Array Value}
theorem lv_ret (F : Fr a n L) (h : Leaves P fn a.tmps R ds .returning w) : bodyPostD P fn R .ret (addD a ds) w := by
  show Leaves P fn a.tmps R (a.defers ++ ds) .returning w
  rw [F.defers]; exact h
theorem lv_panic (F : Fr a n L) (h : Leaves P fn a.tmps R ds (.panicking c) w) : bodyPostD P fn R (.panic c) (addD a ds) w := by
  show Leaves P fn a.tmps R (a.defers ++ ds) (.panicking c) w
  rw [F.defers]; exact h
theorem out_setCell (hB : Blk w g t #[x]) (v : Value) : Out [g] w (w.setCell ⟨g, 0, none⟩ v) ∧ Blk (w.setCell ⟨g, 0, none⟩ v) g t #[v] :=
  ⟨⟨rfl, rfl, rfl, by simp, fun j _ hj => heap_setCell_other w ⟨g, 0, none⟩ j v (fun e => hj (by rw [e]; simp))⟩, hB.set_ _ _⟩
theorem run_one (hB : Blk w g t #[x]) (hT : OneTy P ty) : (loadVar ty ⟨g, 0, none⟩).run P w = .ok x w := by
  obtain ⟨d, hu, hd⟩ := hT
  have hagg : (isAgg ty).run P w = .ok false w := by
    unfold isAgg
    rw [Sem.run_bind, run_underlying hu w]
    cases d <;> simp_all
  have hc : w.cell? ⟨g, 0, none⟩ = some x := by rw [hB.cell]; rfl
  simp [loadVar, hagg, hc]
theorem rs_tmp_one (F : Fr a n L) (hr : fn.results = #[.tmp k, .cell j ty]) (hv : look L k = some v) (hp : look L j = some (.pointer (some ⟨g, 0, none⟩))) (hB : Blk w g t #[x]) (hT : OneTy P ty) : (results fn a.tmps).run P w = .ok (.tuple #[v, x]) w := by
  have h1 := F.get hv
  have h2 : a.tmps[k]?.getD undef = v := by simpa using h1
  have h3 := F.get hp
  have h4 : a.tmps[j]?.getD undef = .pointer (some ⟨g, 0, none⟩) := by simpa using h3
  simp [results, hr, h2, h4, asAddr, run_one hB hT]
theorem lv_end {tmps : Array Value} (h1 : (results fn tmps).run P w = .ok v w) (h2 : R (.returned v) w) : Leaves P fn tmps R [] (settle .returning) w := ⟨v, h1, h2⟩
theorem lv_endP {tmps : Array Value} {pv : Value} (h1 : (results fn tmps).run P w = .ok v w) (h2 : R (.returned v) w) : Leaves P fn tmps R [] (settle (.panicking [{ v := pv, recovered := true }])) w := ⟨v, h1, h2⟩
theorem Mm.outNew (M : Mm [] w0 w B) (hi : B[i]? = some (.blk g t cs)) {w' : World} (h : Out [g] w w') : Out [] w0 w' :=
  M.out.trans h (fun g' hg => by
    simp only [List.mem_singleton] at hg
    subst hg
    exact .inl (M.newer hi (by simp)))
end
def restV (v : Value) (n : Nat) : List Nat → Value
  | [] => v
  | j :: js => subS 1 j (n - js.sum) (restV v n js)
section
variable {w : World} {v : Value} {n j : Nat} {L : List UInt8}
end
def numB (L : List UInt8) : Int := L.foldl (fun a b => a * 256 + u8 b) 0
section
variable {P : Program} {o : Oper} {a : Act} {x y : Operand} {i j : Int} {t t' : TypeId}
end
theorem zcU (k : Nat) : Builtin.zeroCells (Value.int .u8 0).cells k = (cU (List.replicate k 0)).toArray := by
  have h : cU (List.replicate k 0) = List.replicate k (.int .u8 0) := by rw [cU_map]; simp [u8]
  rw [h]
  unfold Builtin.zeroCells
  apply Array.ext
  · simp [Value.cells]
  · intro i h1 h2
    simp [Value.cells, Nat.mod_one]
section
variable {P : Program} {ops rest : List Oper} {o : Oper} {a : Act} {n d : Nat} {L : List (Nat × Value)} {Q : Exit → Act → World → Prop} {R : List Nat} {w w0 : World} {B : List Ent} {v u : Value} {x y : Operand} {t tn e : TypeId} {i k c : Nat} {xs : List Value}
theorem appZ_run (M : Mm R w0 w B) (ho : o.op = .call { callee := .builtin .append, args := #[x, y], argTypes := #[t, tn] }) (ht : P.underlying t = some (.slice e)) (htn : P.underlying tn = some (.int .i64)) (hE : (P.info? e).map (fun i => (i.zero, i.size, i.bytes)) = some (some (.int .u8 0), 1, 1))
    (hx : a.eval x = v) (hi : B[i]? = some (.row e 1 v k xs)) (hy : a.eval y = .int .i64 (c : Int)) (hk : 0 < k) (hc : 0 < c) (hmax : k + c ≤ 1000000000) :
    ∃ v' w', (execOp a.eval o).run P w = .ok (.value v') w' ∧ Mm R w0 w' (B.set i (.row e 1 v' (k + c) (xs ++ cU (List.replicate c 0)))) := by
  have hown : w.ownsRow 0 e 1 v k xs := M.get hi
  cases hq : P.info? e with
  | none => simp [hq] at hE
  | some inf =>
    simp only [hq, Option.map_some, Option.some.injEq, Prod.mk.injEq] at hE
    obtain ⟨hz, hs, hby⟩ := hE
    have hw : IntKind.i64.wrap (c : Int) = c := by rw [IntKind.wrap_i64]; omega
    have hneg : ¬ ((c : Int) < 0) := by omega
    have h48i : ¬ (281474976710656 < (c : Int)) := by omega
    have hc0 : c ≠ 0 := by omega
    have hlen : (cU (List.replicate c 0)).length = c := by rw [cU_len, List.length_replicate]
    have hxl : xs.length = k := by have := hown.1; omega
    have hrun : ∃ v' w', (Builtin.append_ #[t, tn] o.type #[v, .int .i64 (c : Int)]).run P w = .ok v' w' ∧ w'.ownsRow 0 e 1 v' (k + c) (xs ++ cU (List.replicate c 0)) ∧ w.grownBy w' v.ownBlock ∧ (v'.ownBlock = v.ownBlock ∨ v'.ownBlock = some w.heap.size) := by
      rcases hown.2 with ⟨rfl, hn⟩ | ⟨g, cap, cur, rfl, hbg, hg, hnc, hcm, hcs, htake⟩
      · omega
      · by_cases hroom : k + c ≤ cap
        · have hst := run_storeCells_at P g k e (cU (List.replicate c 0)) 0 cur w hg (by rw [hcs, hlen]; omega) (cU_ones _)
          simp only [Nat.add_zero] at hst
          refine ⟨.slice (some ⟨g, 0, none⟩) (k + c) cap, w.setRow g (cur.toList.take k ++ cU (List.replicate c 0) ++ cur.toList.drop (k + (cU (List.replicate c 0)).length)).toArray, ?_, ?_, ⟨rfl, rfl, rfl, by simp, fun j _ hj => setRow_other w g j _ (fun e => hj (by simp [Value.ownBlock, e]))⟩, .inl rfl⟩
          · simp [Builtin.append_, run_underlying ht, run_underlying htn, sizeOf, typeInfo, zeroValue, hq, hz, hs, hby, asInt, asIntOf, hw, hneg, h48i, hc0, hroom, zcU, Addr.add_lit, hst]
          · refine ⟨by rw [List.length_append, hlen, hxl]; omega, .inr ⟨g, cap, _, rfl, hbg, setRow_heap w g cur _ e _ hg, hroom, hcm, ?_, ?_⟩⟩
            · simp only [List.size_toArray, List.length_append, List.length_take, List.length_drop, Array.length_toList, hlen]
              omega
            · rw [Nat.mul_one] at htake
              rw [htake, Nat.mul_one]
              have : (xs ++ cU (List.replicate c 0)).length = k + c := by rw [List.length_append, hlen, hxl]
              rw [← this]
              exact List.take_left
        · have holds : ∀ j u, xs[j]? = some u → w.drew.cell? ((⟨g, 0, none⟩ : Addr).add j) = some u := hown.cells (g := g) rfl
          have hfc := run_firstCells_some (P := P) w.drew inf.size k ⟨g, 0, none⟩ k cap xs (by rw [hs, hxl]; omega) holds
          have hr := Lib.run_append_grow_zeros (P := P) w t tn o.type e inf (.int .u8 0) .i64 .i64 ht htn hq hz (some ⟨g, 0, none⟩) k cap xs hfc c (by omega) (by omega) (by omega) (by omega) (by rw [hby]; omega) (growslice_fits (by omega) (by rw [hby]; omega))
          have hge := grownCap_ge w (k + c) cap e
          have hcm' : grownCap w (k + c) cap e ≤ maxLen := grownCap_le_maxLen w (k + c) cap e (by unfold maxLen; omega)
          refine ⟨_, _, hr, ?_, ⟨rfl, rfl, rfl, by simp, fun j hj _ => Below.heap_alloc w.drew _ j hj⟩, .inr rfl⟩
          rw [zcU c]
          refine ⟨by rw [List.length_append, hlen, hxl]; omega, .inr ⟨w.heap.size, _, _, rfl, Nat.zero_le _, heap_alloc_new w.drew _, hge, hcm', ?_, ?_⟩⟩
          · simp only [Array.size_append, List.size_toArray, size_zeroCells, hlen, hxl, Value.cells]
            simp
            omega
          · simp only [Array.toList_append, List.append_assoc]
            rw [← List.append_assoc, Nat.mul_one]
            have : (xs ++ cU (List.replicate c 0)).length = k + c := by rw [List.length_append, hlen, hxl]
            rw [← this]
            exact List.take_left
    obtain ⟨v', w', hr, h2, h3, h5⟩ := hrun
    have hexec : (execOp a.eval o).run P w = .ok (.value v') w' := by
      simp only [execOp, ho, resolve, invoke, builtin, Sem.run_bind, Sem.run_pure, Result.andThen_ok, List.map_toArray, List.map_cons, List.map_nil, hx, hy, hr]
    refine ⟨v', w', hexec, M.swap hi (x' := .row e 1 v' (k + c) (xs ++ cU (List.replicate c 0))) (Out.of_grown h3) h2 (fun g hg => ?_) (fun g hg => by cases hg)⟩
    simp only [Ent.fp] at hg ⊢
    rcases h5 with h6 | h6
    · exact .inl (by rw [← h6]; exact hg)
    · rw [h6] at hg; simp only [Option.toList_some, List.mem_singleton] at hg; exact .inr (by omega)
theorem sq_appZ (F : Fr a n L) (M : Mm R w0 w B) (hw : Region.wanted o (yielded ops.toArray a.tmps) = true) (ho : o.op = .call { callee := .builtin .append, args := #[x, y], argTypes := #[t, tn] }) (ht : P.underlying t = some (.slice e)) (htn : P.underlying tn = some (.int .i64)) (hE : (P.info? e).map (fun i => (i.zero, i.size, i.bytes)) = some (some (.int .u8 0), 1, 1))
    (hx : a.eval x = v) (hi : B[i]? = some (.row e 1 v k xs)) (hy : a.eval y = .int .i64 (c : Int)) (hk : 0 < k) (hc : 0 < c) (hmax : k + c ≤ 1000000000) (hd : o.dst = some d) (hdn : Nat.blt d n = true)
    (h : ∀ a' w' v', Fr a' n ((d, v') :: L) → Mm R w0 w' (B.set i (.row e 1 v' (k + c) (xs ++ cU (List.replicate c 0)))) → wpList P ops.toArray Q rest a' w') : wpList P ops.toArray Q (o :: rest) a w := by
  obtain ⟨v', w', hexec, hM⟩ := appZ_run M ho ht htn hE hx hi hy hk hc hmax
  exact sq_run F hw hexec hM hd hdn (fun a' w' F' M' => h a' w' v' F' M')
theorem sq_callA (F : Fr a n L) (M : Mm R w0 w B) (hw : Region.wanted o (yielded ops.toArray a.tmps) = true) {f : FuncId} {zs : List Operand} {ts : Array TypeId} {args : List Value} {m k' : Nat} {ys : List Value} (ho : o.op = .call { callee := .value (.func f), args := zs.toArray, argTypes := ts })
    (he : enters P f = true) (ha : zs.map a.eval = args) (hi : B[i]? = some (.row t m v k xs)) (hc : Calls P f args.toArray w fun e w' => ∃ x, e = .returned x ∧ Out v.ownBlock.toList w w' ∧ w'.ownsRow 0 t m x k' ys ∧ ∀ g ∈ x.ownBlock.toList, g ∈ v.ownBlock.toList ∨ w.heap.size ≤ g) (hd : o.dst = some d) (hdn : Nat.blt d n = true)
    (h : ∀ a' w' x, Fr a' n ((d, x) :: L) → Mm R w0 w' (B.set i (.row t m x k' ys)) → wpList P ops.toArray Q rest a' w') : wpList P ops.toArray Q (o :: rest) a w :=
  sq_callR F hw ho he ha hc hd hdn fun e w' hR => by
    obtain ⟨x, h1, h2, h3, h4⟩ := hR
    exact ⟨x, h1, fun a' F' => h a' w' x F' (M.swap hi (x' := .row t m x k' ys) h2 h3 h4 (fun g hg => by cases hg))⟩
theorem Mm.owns {m : Nat} (M : Mm v.ownBlock.toList w0 w B) (hi : B[i]? = some (.row t m u k xs)) : Out v.ownBlock.toList w0 w ∧ w.ownsRow 0 t m u k xs ∧ ∀ g ∈ u.ownBlock.toList, g ∈ v.ownBlock.toList ∨ w0.heap.size ≤ g :=
  ⟨M.out, M.ow hi, fun g hg => (M.own _ (List.mem_of_getElem? hi) g hg).symm⟩
end
end Go.Proofs.Ytcnmmnhlhenifaa
namespace Go.Proofs.Ytcnmmnhlhenifaa
open Go.RowKit
set_option maxRecDepth 100000
set_option linter.unusedSimpArgs false
set_option linter.unusedVariables false
end Go.Proofs.Ytcnmmnhlhenifaa
