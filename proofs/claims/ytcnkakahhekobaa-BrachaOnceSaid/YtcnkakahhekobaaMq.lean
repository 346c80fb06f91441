/- Maps in walks: the operations, one by one. Any seat. -/
import Derived.Test.YtcnkakahhekobaaMp
import Derived.Test.YtcnkakahhekobaaRj
import Derived.Carry
namespace Go.Proofs.Ytcnkakahhekobaa
open Go.RowKit Go.MapKept
set_option maxRecDepth 100000
set_option linter.unusedSimpArgs false
set_option linter.unusedVariables false

theorem nil_rd {m : Nat} (w : World) : RdV w m (.slice none 0 0) 0 [] := ⟨by simp, none, 0, rfl, Nat.le_refl _, Nat.zero_le _, fun h => absurd h (by omega)⟩
theorem slc_one {w : World} {m n : Nat} {v : Value} {xs : List Value} (h : RdV w m v n xs) : v.oneCell' = true ∧ v.cells = #[v] := by
  obtain ⟨_, A, c, rfl, _⟩ := h
  exact ⟨rfl, rfl⟩
theorem pu_addW {P : Program} {o : Oper} {a : Act} {x y : Operand} {t t' : TypeId} {i j : Int} (ho : o.op = .binOp .add t x y t') (hx : a.eval x = .int .i64 i) (hy : a.eval y = .int .i64 j) : Pure P o a (.int .i64 (IntKind.i64.wrap (i + j))) := fun w => by
  simp only [execOp, ho, hx, hy]; simp [go_sem]
/-- How a call ends that turns x into something other. -/
def TurnsE (w : World) (x : Ent) (Z : Value → Ent → Prop) (e : Ending) (w' : World) : Prop :=
  ∃ (v : Value) (x' : Ent), e = .returned v ∧ Out x.fp w w' ∧ x'.at w' ∧ (∀ g ∈ x'.fp, g ∈ x.fp ∨ w.heap.size ≤ g) ∧ x'.base = [] ∧ Z v x'
/-- How a call ends that makes something of the caller's own. -/
def MakesE (w : World) (Z : Value → Ent → Prop) (e : Ending) (w' : World) : Prop :=
  ∃ (v : Value) (x : Ent), e = .returned v ∧ Below w.heap.size w w' ∧ x.at w' ∧ (∀ g ∈ x.fp, w.heap.size ≤ g) ∧ x.base = [] ∧ Z v x
/-- A map's type, its keys and elements as they are encoded, its elements' zero value. -/
structure MapEn (P : Program) (t k e : TypeId) {κ ν : Type} (ek : κ → Value) (ev : ν → Value) (z : Value) : Prop where
  ty : MapTy P t k e
  keys : ∃ K, KeyOK P k K ∧ ∀ a, K (ek a)
  inj : ∀ a b, ek a = ek b → a = b
  zero : ∀ w, (zeroValue e).run P w = .ok z w
section
variable {P : Program} {ops rest : List Oper} {o : Oper} {a : Act} {n d : Nat} {L : List (Nat × Value)} {Q : Exit → Act → World → Prop} {R : List Nat} {w w0 w' : World} {B B' : List Ent} {v u : Value} {x y z : Operand} {t k e : TypeId} {i g r : Nat} {fp : List Nat} {Φ Ψ : World → Prop}
/-- An operation that gives a value. -/
theorem sq_run (F : Fr a n L) (hw : Region.wanted o (yielded ops.toArray a.tmps) = true) (hr : (execOp a.eval o).run P w = .ok (.value v) w') (hM : Mm R w0 w' B') (hd : o.dst = some d) (hdn : Nat.blt d n = true)
    (h : ∀ a' w', Fr a' n ((d, v) :: L) → Mm R w0 w' B' → wpList P ops.toArray Q rest a' w') : wpList P ops.toArray Q (o :: rest) a w :=
  wpList_step fun K hK => by
    rw [if_pos hw]
    unfold Oper.wp
    rw [hr]
    exact hK _ _ (by rw [hd]; exact h _ _ (F.put hdn) hM)
/-- An operation whose value nobody takes. -/
theorem sq_run0 (F : Fr a n L) (hw : Region.wanted o (yielded ops.toArray a.tmps) = true) (hr : (execOp a.eval o).run P w = .ok (.value v) w' ∨ (execOp a.eval o).run P w = .ok .skip w') (hM : Mm R w0 w' B') (hd : o.dst = none)
    (h : ∀ w', Mm R w0 w' B' → wpList P ops.toArray Q rest a w') : wpList P ops.toArray Q (o :: rest) a w :=
  wpList_step fun K hK => by
    rw [if_pos hw]
    have _ := F.size
    unfold Oper.wp
    rcases hr with hr | hr
    · rw [hr]; exact hK _ _ (by rw [hd]; exact h _ hM)
    · rw [hr]; exact hK _ _ (by rw [hd]; exact h _ hM)
/-- A call that gives a new slice of its own, and plain things beside it. -/
theorem sq_callN2 (F : Fr a n L) (M : Mm R w0 w B) (hw : Region.wanted o (yielded ops.toArray a.tmps) = true) {f : FuncId} {xs : List Operand} {ts : Array TypeId} {args : List Value} {ty : TypeId} {m c : Nat} {cs : List Value} (fv : Value → Value) (ho : o.op = .call { callee := .value (.func f), args := xs.toArray, argTypes := ts })
    (he : enters P f = true) (ha : xs.map a.eval = args) (hc : Calls P f args.toArray w fun e w' => ∃ v, e = .returned (fv v) ∧ Below w.heap.size w w' ∧ w'.ownsRow w.heap.size ty m v c cs) (hd : o.dst = some d) (hdn : Nat.blt d n = true)
    (h : ∀ a' w' v, Fr a' n ((d, fv v) :: L) → Mm R w0 w' (.row ty m v c cs :: B) → wpList P ops.toArray Q rest a' w') : wpList P ops.toArray Q (o :: rest) a w :=
  sq_callR F hw ho he ha hc hd hdn fun e w' hR => by
    obtain ⟨v, h1, h2, h3⟩ := hR
    exact ⟨fv v, h1, fun a' F' => h a' w' v F' (M.addRow h2 h3)⟩
/-- What an entry tells, told otherwise. -/
theorem Mm.conv (M : Mm R w0 w B) (h : B[i]? = some (.own fp Φ)) (hi : Φ w → Ψ w) (hL : Loc fp Ψ) : Mm R w0 w (B.set i (.own fp Ψ)) :=
  M.swap h (x' := .own fp Ψ) (Out.refl _ _) ⟨hi (M.pv h), hL⟩ (fun g hg => .inl hg) (fun g hg => by cases hg)
theorem Mm.apart (M : Mm R w0 w B) {j : Nat} {x y : Ent} (hi : B[i]? = some x) (hj : B[j]? = some y) (hne : i ≠ j) : ∀ g ∈ x.fp, ¬ g ∈ y.fp := by
  obtain ⟨h1, rfl⟩ := List.getElem?_eq_some_iff.1 hi
  obtain ⟨h2, rfl⟩ := List.getElem?_eq_some_iff.1 hj
  have hp := List.pairwise_iff_getElem.1 M.nd
  rcases Nat.lt_or_gt_of_ne hne with h | h
  · exact hp i j h1 h2 h
  · exact fun g hg hg' => hp j i h2 h1 h g hg' hg
theorem sq_mkMap (F : Fr a n L) (M : Mm R w0 w B) (hw : Region.wanted o (yielded ops.toArray a.tmps) = true) (ho : o.op = .makeMap t none) (hd : o.dst = some d) (hdn : Nat.blt d n = true)
    (h : ∀ a' w' g, Fr a' n ((d, .map (some g)) :: L) → Mm R w0 w' (.own [g] (MpV g []) :: B) → wpList P ops.toArray Q rest a' w') : wpList P ops.toArray Q (o :: rest) a w :=
  sq_run F hw (v := .map (some w.heap.size)) (w' := w.alloc (.map #[] 0)) (by simp only [execOp, ho]; rfl)
    (M.addOwn (w' := w.alloc (.map #[] 0)) ⟨rfl, rfl, rfl, by simp, fun i hi => heap_alloc_old w _ hi⟩ (show MpV w.heap.size [] (w.alloc (.map #[] 0)) from ⟨#[], 0, heap_alloc_new w _, stamped_empty 0, by simp⟩) (MpV.loc _ _) (fun g hg => by simp only [List.mem_singleton] at hg; omega)) hd hdn (fun a' w' F' M' => h a' w' _ F' M')
end
section
variable {P : Program} {ops rest : List Oper} {o : Oper} {a : Act} {n d : Nat} {L : List (Nat × Value)} {Q : Exit → Act → World → Prop} {R : List Nat} {w w0 w' : World} {B B' : List Ent} {u zv : Value} {x y z : Operand} {t k e : TypeId} {i g r : Nat} {κ ν : Type} [DecidableEq κ] {ek : κ → Value} {ev : ν → Value} {C C' : List (κ × ν)} {kx : κ} {vx : ν} {W : World → Prop}
theorem ld_look (E : MapEn P t k e ek ev zv) (ho : o.op = .lookup t x y false) (hx : a.eval x = .map (some g)) (hy : a.eval y = ek kx) (hm : ∀ w, W w → MpV g (encM ek ev C) w) (hu : (getM C kx).elim zv ev = u) : Rdy P o a W u := fun w hC => by
  obtain ⟨K, hK, hk⟩ := E.keys
  have hr := look_run (x := kx) hK hk E.inj E.ty (hm w hC) (E.zero w) false
  simp only [Bool.false_eq_true, if_false] at hr
  rw [hu] at hr
  simp only [execOp, ho, hx, hy]
  simp [hr]
theorem ld_lookOk {b : Bool} (E : MapEn P t k e ek ev zv) (ho : o.op = .lookup t x y true) (hx : a.eval x = .map (some g)) (hy : a.eval y = ek kx) (hm : ∀ w, W w → MpV g (encM ek ev C) w) (hu : (getM C kx).elim zv ev = u) (hb : (getM C kx).isSome = b) : Rdy P o a W (.tuple #[u, .bool b]) := fun w hC => by
  obtain ⟨K, hK, hk⟩ := E.keys
  have hr := look_run (x := kx) hK hk E.inj E.ty (hm w hC) (E.zero w) true
  simp only [if_true] at hr
  rw [hu, hb] at hr
  simp only [execOp, ho, hx, hy]
  simp [hr]
theorem ld_lenM {l : List (Value × Value)} {m : Nat} (hT : MapTy P t k e) (ho : o.op = .call { callee := .builtin .len, args := #[x], argTypes := #[t] }) (hx : a.eval x = .map (some g)) (hm : ∀ w, W w → MpV g l w) (hl : l.length = m) : Rdy P o a W (.int .i64 m) := fun w hC => by
  have hr := len_run (P := P) (ty := o.type) hT (hm w hC)
  rw [hl] at hr
  simp only [execOp, ho, resolve, invoke, builtin, List.map_toArray, List.map, hx]
  simp [hr]
theorem sq_mapUpd (E : MapEn P t k e ek ev zv) (F : Fr a n L) (M : Mm R w0 w B) (hw : Region.wanted o (yielded ops.toArray a.tmps) = true) (ho : o.op = .mapUpdate t x y z) (hx : a.eval x = .map (some g)) (hy : a.eval y = ek kx) (hz : a.eval z = ev vx)
    (hi : B[i]? = some (.own [g] (MpV g (encM ek ev C)))) (hC : ((kx, vx) :: delM C kx).Perm C') (hd : o.dst = none)
    (h : ∀ w', Mm R w0 w' (B.set i (.own [g] (MpV g (encM ek ev C')))) → wpList P ops.toArray Q rest a w') : wpList P ops.toArray Q (o :: rest) a w := by
  obtain ⟨K, hK, hk⟩ := E.keys
  obtain ⟨w', hr, h1, h2⟩ := update_run hK hk E.inj E.ty (M.pv hi) hC
  exact sq_run0 F hw (v := undef) (.inr (by simp only [execOp, ho, hx, hy, hz]; simp [hr])) (M.swap hi (x' := .own [g] (MpV g (encM ek ev C'))) h1 ⟨h2, MpV.loc _ _⟩ (fun g hg => .inl hg) (fun g hg => by cases hg)) hd h
theorem sq_delete (E : MapEn P t k e ek ev zv) (F : Fr a n L) (M : Mm R w0 w B) (hw : Region.wanted o (yielded ops.toArray a.tmps) = true) (ho : o.op = .call { callee := .builtin .delete, args := #[x, y], argTypes := #[t, k] }) (hx : a.eval x = .map (some g)) (hy : a.eval y = ek kx)
    (hi : B[i]? = some (.own [g] (MpV g (encM ek ev C)))) (hC : (delM C kx).Perm C') (hd : o.dst = none)
    (h : ∀ w', Mm R w0 w' (B.set i (.own [g] (MpV g (encM ek ev C')))) → wpList P ops.toArray Q rest a w') : wpList P ops.toArray Q (o :: rest) a w := by
  obtain ⟨K, hK, hk⟩ := E.keys
  obtain ⟨w', hr, h1, h2⟩ := delete_run (ty := o.type) hK hk E.inj E.ty (M.pv hi) hC
  refine sq_run0 F hw (v := .tuple #[]) (.inl ?_) (M.swap hi (x' := .own [g] (MpV g (encM ek ev C'))) h1 ⟨h2, MpV.loc _ _⟩ (fun g hg => .inl hg) (fun g hg => by cases hg)) hd h
  simp only [execOp, ho, resolve, invoke, builtin, List.map_toArray, List.map, hx, hy]
  simp [hr]
theorem sq_clearM {l : List (Value × Value)} (hT : MapTy P t k e) (F : Fr a n L) (M : Mm R w0 w B) (hw : Region.wanted o (yielded ops.toArray a.tmps) = true) (ho : o.op = .call { callee := .builtin .clear, args := #[x], argTypes := #[t] }) (hx : a.eval x = .map (some g))
    (hi : B[i]? = some (.own [g] (MpV g l))) (hd : o.dst = none)
    (h : ∀ w', Mm R w0 w' (B.set i (.own [g] (MpV g []))) → wpList P ops.toArray Q rest a w') : wpList P ops.toArray Q (o :: rest) a w := by
  obtain ⟨w', hr, h1, h2⟩ := clear_run (P := P) (ty := o.type) hT (M.pv hi)
  refine sq_run0 F hw (v := .tuple #[]) (.inl ?_) (M.swap hi (x' := .own [g] (MpV g [])) h1 ⟨h2, MpV.loc _ _⟩ (fun g hg => .inl hg) (fun g hg => by cases hg)) hd h
  simp only [execOp, ho, resolve, invoke, builtin, List.map_toArray, List.map, hx]
  simp [hr]
/-- range m: m's block as it is. -/
theorem sq_range {es : Array MapEntry} {clock : Nat} {l : List (Value × Value)} (hT : MapTy P t k e) (F : Fr a n L) (M : Mm R w0 w B) (hw : Region.wanted o (yielded ops.toArray a.tmps) = true) (ho : o.op = .range t x) (hx : a.eval x = .map (some g)) (hb : ObV g (.map es clock) w) (hm : MapIs es clock l) (hd : o.dst = some d) (hdn : Nat.blt d n = true)
    (h : ∀ a' w' r, r ≠ g → Fr a' n ((d, .pointer (some ⟨r, 0, none⟩)) :: L) → Mm R w0 w' (.own [r] (ItV r g es clock l) :: B) → wpList P ops.toArray Q rest a' w') : wpList P ops.toArray Q (o :: rest) a w := by
  obtain ⟨w', hr, h1, h2⟩ := range_run (P := P) hT hb hm
  have hlt := lt_of_some hb
  exact sq_run F hw (v := .pointer (some ⟨w.heap.size, 0, none⟩)) (by simp only [execOp, ho, hx]; simp [hr]) (M.addOwn h1 h2 (ItV.loc _ _ _ _ _) (fun g hg => by simp only [List.mem_singleton] at hg; omega)) hd hdn (fun a' w' F' M' => h a' w' _ (by omega) F' M')
omit [DecidableEq κ] in
/-- next. -/
theorem sq_next {es : Array MapEntry} {clock ty : Nat} {Rs : List (κ × ν)} (F : Fr a n L) (M : Mm R w0 w B) (hw : Region.wanted o (yielded ops.toArray a.tmps) = true) (ho : o.op = .next x false) (hty : o.type = ty) (hx : a.eval x = .pointer (some ⟨r, 0, none⟩)) (hb : ObV g (.map es clock) w) (hi : B[i]? = some (.own [r] (ItV r g es clock (encM ek ev Rs)))) (hne : r ≠ g) (hd : o.dst = some d) (hdn : Nat.blt d n = true)
    (h0 : Rs = [] → ∀ a', Fr a' n ((d, .tuple #[.bool false]) :: L) → wpList P ops.toArray Q rest a' w)
    (h1 : ∀ (q : κ × ν) Rs', Rs.Perm (q :: Rs') → ∀ a' w', Fr a' n ((d, .tuple #[.bool true, ek q.1, ev q.2]) :: L) → Mm R w0 w' (B.set i (.own [r] (ItN r g es clock (encM ek ev Rs') (ek q.1, ev q.2)))) → wpList P ops.toArray Q rest a' w') : wpList P ops.toArray Q (o :: rest) a w := by
  rcases next_run (P := P) (ty := o.type) hb (M.pv hi) hne with ⟨h2, hr⟩ | ⟨p, rest', w', hp, hr, h2, h3⟩
  · refine wpList_step fun K hK => ?_
    rw [if_pos hw]
    unfold Oper.wp
    rw [show (execOp a.eval o).run P w = .ok (.value (.tuple #[.bool false])) w by simp only [execOp, ho, hx]; simp [hr]]
    have hz : Rs = [] := by simpa [encM] using h2
    exact hK _ _ (by rw [hd]; exact h0 hz _ (F.put hdn))
  · have hpm : p ∈ encM ek ev Rs := hp.mem_iff.2 (by simp)
    obtain ⟨q, hq, rfl⟩ := List.mem_map.1 hpm
    obtain ⟨s1, s2, rfl⟩ := List.append_of_mem hq
    have hpe : (s1 ++ q :: s2).Perm (q :: (s1 ++ s2)) := List.perm_middle
    have h4 : rest'.Perm (encM ek ev (s1 ++ s2)) := (hp.symm.trans (show (encM ek ev (s1 ++ q :: s2)).Perm ((ek q.1, ev q.2) :: encM ek ev (s1 ++ s2)) from hpe.map (fun p : κ × ν => (ek p.1, ev p.2)))).cons_inv
    have h5 : ItN r g es clock (encM ek ev (s1 ++ s2)) (ek q.1, ev q.2) w' := by
      obtain ⟨⟨since, seen, c0, z1, z2, z3, z4, z5, z6⟩, h7⟩ := h3
      exact ⟨⟨since, seen, c0, z1, z2, z3, z4, z5, z6.trans h4⟩, h7⟩
    exact sq_run F hw (v := .tuple #[.bool true, ek q.1, ev q.2]) (by simp only [execOp, ho, hx]; simp [hr]) (M.swap hi (x' := .own [r] (ItN r g es clock (encM ek ev (s1 ++ s2)) (ek q.1, ev q.2))) h2 ⟨h5, ItN.loc _ _ _ _ _ _⟩ (fun g hg => .inl hg) (fun g hg => by cases hg)) hd hdn (fun a' w' F' M' => h1 q _ hpe a' w' F' M')
/-- The round's entry. -/
theorem ld_entry {es : Array MapEntry} {clock : Nat} {l : List (Value × Value)} {p : Value × Value} (ho : o.op = .entry x) (hx : a.eval x = .pointer (some ⟨r, 0, none⟩)) (hb : ∀ w, W w → ObV g (.map es clock) w) (hi : ∀ w, W w → ItN r g es clock l p w) : Rdy P o a W (.tuple #[p.1, p.2]) := fun w hC => by
  have hr := entry_run (P := P) (hb w hC) (hi w hC)
  simp only [execOp, ho, hx]
  simp [hr]
end
/-! ### Keys that are structs or arrays -/
section
variable {P : Program} {k : TypeId} {κ : Type} [DecidableEq κ] {ek : κ → Value} {d : TypeDesc}
theorem keyOK_of (hd : P.underlying k = some d) (h0 : ∀ a b, Instr.sameNow d (ek a) (ek b) = none) (hc : ∀ w em a, (Instr.checkKey em 10000 k (ek a)).run P w = .ok () w) (he : ∀ w a b, (Op.equalIn 10000 k (ek a) (ek b)).run P w = .ok (decide (a = b)) w) (hs : ∀ a, Instr.sameBits 10000 (ek a) (ek a) = true) (hinj : ∀ a b, ek a = ek b → a = b) :
    KeyOK P k (fun v => ∃ a, v = ek a) := by
  refine ⟨fun w em v ⟨a, h⟩ => h ▸ hc w em a, fun w x ⟨a, hx⟩ es hes => ?_, fun w v ⟨a, h⟩ => ?_⟩
  · subst hx
    have ask : ∀ (l : List MapEntry) (i : Nat), (∀ e ∈ l, ∃ b, e.key = ek b) → ((Instr.findAsking k (ek a) l i).run P w = .ok none w ∧ ∀ e ∈ l, e.key ≠ ek a) ∨ ∃ j e, (Instr.findAsking k (ek a) l i).run P w = .ok (some (i + j, e.val)) w ∧ l[j]? = some e ∧ e.key = ek a := by
      intro l
      induction l with
      | nil => intro i _; exact .inl ⟨by simp [Instr.findAsking], by simp⟩
      | cons e l ih =>
        intro i hl
        obtain ⟨b, hb⟩ := hl e (by simp)
        have h1 := he w a b
        by_cases hab : a = b
        · subst hab
          refine .inr ⟨0, e, ?_, by simp, hb⟩
          simp [Instr.findAsking, Op.equal, Op.maxDepth, hb, h1, Result.andThen]
        · have h2 : ek b ≠ ek a := fun h => hab (hinj _ _ h).symm
          rcases ih (i + 1) (fun e' he' => hl e' (by simp [he'])) with ⟨h3, h4⟩ | ⟨j, e', h3, h4, h5⟩
          · refine .inl ⟨?_, fun e' he' => ?_⟩
            · simp [Instr.findAsking, Op.equal, Op.maxDepth, hb, h1, hab, h3, Result.andThen]
            · rcases List.mem_cons.1 he' with h6 | h6
              · rw [h6, hb]; exact h2
              · exact h4 e' h6
          · refine .inr ⟨j + 1, e', ?_, by simpa using h4, h5⟩
            rw [show i + (j + 1) = i + 1 + j by omega]
            simp [Instr.findAsking, Op.equal, Op.maxDepth, hb, h1, hab, h3, Result.andThen]
    cases es with
    | nil => exact .inl ⟨by simp [Instr.findKey, run_underlying hd, Instr.findNow], by simp⟩
    | cons e l =>
      obtain ⟨b, hb⟩ := hes e (by simp)
      have hn : Instr.findNow d (ek a) (e :: l) 0 = none := by simp [Instr.findNow, hb, h0]
      have hf : (Instr.findKey k (ek a) (e :: l)).run P w = (Instr.findAsking k (ek a) (e :: l) 0).run P w := by simp [Instr.findKey, run_underlying hd, hn]
      rw [hf]
      rcases ask (e :: l) 0 hes with h | ⟨j, e', h1, h2, h3⟩
      · exact .inl h
      · exact .inr ⟨j, e', by simpa using h1, h2, h3⟩
  · subst h
    simp [Instr.keyThatStays, hs]
end
/-- Keys of one cell: ints, strings. -/
theorem keyOK_plain {P : Program} {k : TypeId} {d : TypeDesc} (hk : P.underlying k = some d) : KeyOK P k (fun v => IsKey d v) :=
  ⟨fun w em _ h => run_checkKey hk h em 9999, fun w x hx es hes => by
    rcases findNow_spec hx es 0 hes with ⟨h1, h2⟩ | ⟨j, e0, h1, h2, h3⟩
    · exact .inl ⟨run_findKey hk h1, h2⟩
    · exact .inr ⟨j, e0, by simpa using run_findKey hk h1, h2, h3⟩, fun w _ h => run_keyThatStays h⟩
/-- Ints as elements. -/
def iV (n : Int) : Value := .int .i64 n
end Go.Proofs.Ytcnkakahhekobaa
