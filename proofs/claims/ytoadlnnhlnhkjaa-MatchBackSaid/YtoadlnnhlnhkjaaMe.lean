/- Maps in walks: an entry that is made ready and then stored (m[k] += x); the entry that was just handed out is deleted while the map is gone over. Any seat. -/
import Derived.Test.YtoadlnnhlnhkjaaMq
namespace Go.Proofs.Ytoadlnnhlnhkjaa
open Go.RowKit Go.MapKept
set_option maxRecDepth 100000
set_option linter.unusedSimpArgs false
set_option linter.unusedVariables false
open Go.ChangeMaps (setBlock heap_setBlock_same)

section
variable {κ ν : Type} [DecidableEq κ]
theorem del_snoc {C : List (κ × ν)} {x : κ} {v : ν} : delM (C ++ [(x, v)]) x = delM C x := by unfold delM; rw [List.filter_append]; simp
theorem del_del {C : List (κ × ν)} {x : κ} : delM (delM C x) x = delM C x := by unfold delM; rw [List.filter_filter]; simp
theorem del_cons_eq {C : List (κ × ν)} {x : κ} {v : ν} : delM ((x, v) :: C) x = delM C x := by unfold delM; rw [List.filter_cons]; simp
/-- The entry of x stands in the map g, under the stamp s. -/
def EnV (g : Nat) (ek : κ → Value) (ev : ν → Value) (zv : Value) (C : List (κ × ν)) (x : κ) (s : Int) (w : World) : Prop :=
  ∃ es clock C1, w.heap[g]? = some (.map es clock) ∧ MapIs es clock (encM ek ev C1) ∧ delM C1 x = delM C x ∧ (getM C1 x).elim zv ev = (getM C x).elim zv ev ∧ ∃ (j : Nat) (y : MapEntry), es.toList[j]? = some y ∧ s = (y.born : Int) ∧ y.key = ek x
theorem EnV.loc (g : Nat) (ek : κ → Value) (ev : ν → Value) (zv : Value) (C : List (κ × ν)) (x : κ) (s : Int) : Loc [g] (EnV g ek ev zv C x s) := fun _ _ hk ⟨es, clock, C1, h, hm⟩ =>
  ⟨⟨es, clock, C1, (hk g (by simp)).trans h, hm⟩, fun g' hg => by simp only [List.mem_singleton] at hg; subst hg; exact lt_of_some h⟩
/-- The map g, but that an entry of x may have been made ready in it: whoever looks x up finds the same. -/
def LkV (g : Nat) (ek : κ → Value) (ev : ν → Value) (zv : Value) (C : List (κ × ν)) (x : κ) (w : World) : Prop :=
  ∃ C1, MpV g (encM ek ev C1) w ∧ delM C1 x = delM C x ∧ (getM C1 x).elim zv ev = (getM C x).elim zv ev
theorem LkV.loc (g : Nat) (ek : κ → Value) (ev : ν → Value) (zv : Value) (C : List (κ × ν)) (x : κ) : Loc [g] (LkV g ek ev zv C x) := fun w w' hk ⟨C1, h, h2⟩ =>
  ⟨⟨C1, (MpV.loc _ _ w w' hk h).1, h2⟩, (MpV.loc _ _ w w' hk h).2⟩
theorem LkV.of {g : Nat} {ek : κ → Value} {ev : ν → Value} {C : List (κ × ν)} {w : World} (zv : Value) (x : κ) (h : MpV g (encM ek ev C) w) : LkV g ek ev zv C x w := ⟨C, h, rfl, rfl⟩
theorem EnV.lk {g : Nat} {ek : κ → Value} {ev : ν → Value} {zv : Value} {C : List (κ × ν)} {x : κ} {s : Int} {w : World} (h : EnV g ek ev zv C x s w) : LkV g ek ev zv C x w := by
  obtain ⟨es, clock, C1, h1, h2, h3, h4, _⟩ := h
  exact ⟨C1, ⟨es, clock, h1, h2⟩, h3, h4⟩
theorem lk_if {g : Nat} {ek : κ → Value} {ev : ν → Value} {zv : Value} {C : List (κ × ν)} {x : κ} {s : Int} {w : World} {b : Bool} (h : (if b = true then Ent.own [g] (EnV g ek ev zv C x s) else Ent.own [g] (LkV g ek ev zv C x)).at w) : LkV g ek ev zv C x w := by
  cases b
  · exact (show LkV g ek ev zv C x w ∧ _ from h).1
  · exact (show EnV g ek ev zv C x s w ∧ _ from h).1.lk
theorem born_at {l : List MapEntry} (hn : (l.map (·.born)).Nodup) {j : Nat} {y : MapEntry} (h : l[j]? = some y) : l.findIdx? (fun e => ((e.born : Nat) : Int) == ((y.born : Nat) : Int)) = some j := by
  obtain ⟨hj, rfl⟩ := List.getElem?_eq_some_iff.1 h
  rw [List.findIdx?_eq_some_iff_getElem]
  refine ⟨hj, by simp, fun i hi => ?_⟩
  have hp := List.pairwise_iff_getElem.1 hn i j (by rw [List.length_map]; omega) (by rw [List.length_map]; exact hj) hi
  rw [List.getElem_map, List.getElem_map] at hp
  simp only [beq_iff_eq, Int.natCast_inj]
  exact hp
end
section
variable {P : Program} {w : World} {t k e ty : TypeId} {g : Nat} {K : Value → Prop} {κ ν : Type} [DecidableEq κ] {ek : κ → Value} {ev : ν → Value} {C C' : List (κ × ν)} {x : κ} {zv : Value} {v0 : ν}
theorem mapEntry_run (hK : KeyOK P k K) (hk : ∀ a : κ, K (ek a)) (hT : MapTy P t k e) (hm : MpV g (encM ek ev C) w) (hz : (zeroValue e).run P w = .ok zv w) (h0 : zv = ev v0) :
    ∃ u s w', (Instr.mapEntry t (.map (some g)) (ek x)).run P w = .ok (.tuple #[u, .int .i64 s]) w' ∧ Out [g] w w' ∧ EnV g ek ev zv C x s w' := by
  obtain ⟨es, clock, hb, hm⟩ := hm
  have hes : ∀ y ∈ es.toList, K y.key := fun y hy => by
    obtain ⟨p, _, h1, _⟩ := keys_es hm hy
    rw [h1]; exact hk _
  rcases hK.find w (ek x) (hk x) es.toList hes with ⟨h1, h2⟩ | ⟨j, y, h1, h2, h3⟩
  · refine ⟨zv, (clock : Int), _, ?_, out_set hb, es.push ⟨ek x, zv, clock⟩, clock + 1, C ++ [(x, v0)], heap_setBlock_same hb _, ⟨stamped_push hm.st h2, ?_⟩, del_snoc, ?_, es.toList.length, ⟨ek x, zv, clock⟩, by simp, rfl, rfl⟩
    · simp [Instr.mapEntry, run_underlying hT, MapKept.run_getObj_map hb, hK.check w false _ (hk x), h1, hz, MapKept.run_setObj_map _ hb, Result.andThen, setBlock, goInt]
    · rw [Array.toList_push, List.map_append, List.map_singleton]
      unfold encM
      rw [List.map_append, List.map_singleton, h0]
      exact hm.perm.append_right _
    · have hg : getM C x = none := getM_none fun p hp e => by
        have h4 : (ek p.1, ev p.2) ∈ es.toList.map (fun e => (e.key, e.val)) := hm.perm.mem_iff.2 (List.mem_map.2 ⟨p, hp, rfl⟩)
        obtain ⟨y, hy, he⟩ := List.mem_map.1 h4
        injection he with h5 _
        exact h2 y hy (by rw [h5, e])
      have hg2 : getM (C ++ [(x, v0)]) x = some v0 := by
        unfold getM at hg ⊢
        rw [Option.map_eq_none_iff] at hg
        rw [List.find?_append, hg]; simp
      rw [hg, hg2, h0]; rfl
  · have hj : es[j]? = some y := by simpa using h2
    have hsame : es.modify j (fun e => { e with key := ek x }) = es := by
      apply Array.ext'
      rw [Array.toList_modify, ChangeMaps.modify_eq_set _ _ _ _ h2]
      have : ({ y with key := ek x } : MapEntry) = y := by rw [← h3]
      rw [this]
      obtain ⟨hjl, rfl⟩ := List.getElem?_eq_some_iff.1 h2
      exact List.set_getElem_self hjl
    refine ⟨y.val, (y.born : Int), _, ?_, out_set hb, es, clock, C, heap_setBlock_same hb _, hm, rfl, rfl, j, y, h2, rfl, h3⟩
    simp [Instr.mapEntry, run_underlying hT, MapKept.run_getObj_map hb, hK.check w false _ (hk x), h1, hj, h3, hK.stays w _ (hk x), hsame, MapKept.run_setObj_map _ hb, Result.andThen, setBlock, goInt]
theorem mapEntry_lk (hK : KeyOK P k K) (hk : ∀ a : κ, K (ek a)) (hT : MapTy P t k e) (hm : LkV g ek ev zv C x w) (hz : (zeroValue e).run P w = .ok zv w) (h0 : zv = ev v0) :
    ∃ u s w', (Instr.mapEntry t (.map (some g)) (ek x)).run P w = .ok (.tuple #[u, .int .i64 s]) w' ∧ Out [g] w w' ∧ EnV g ek ev zv C x s w' := by
  obtain ⟨C1, h1, h2, h3⟩ := hm
  obtain ⟨u, s, w', h4, h5, es, clock, C2, h6, h7, h8, h9, h10⟩ := mapEntry_run (x := x) hK hk hT h1 hz h0
  exact ⟨u, s, w', h4, h5, es, clock, C2, h6, h7, h8.trans h2, h9.trans h3, h10⟩
theorem entryStore_run (hinj : ∀ a b : κ, ek a = ek b → a = b) {s : Int} (hm : EnV g ek ev zv C x s w) {v : ν} (hC : ((x, v) :: delM C x).Perm C') :
    ∃ w', (Instr.entryStore t (.map (some g)) (.int .i64 s) (ev v)).run P w = .ok () w' ∧ Out [g] w w' ∧ MpV g (encM ek ev C') w' := by
  obtain ⟨es, clock, C1, hb, hm, hd, _, j, y, h2, rfl, h3⟩ := hm
  have hC2 : (encM ek ev ((x, v) :: delM C1 x)).Perm (encM ek ev C') := (hd ▸ hC).map _
  have hjl : j < es.toList.length := (List.getElem?_eq_some_iff.1 h2).1
  have hidx : es.findIdx? (fun e => ((e.born : Nat) : Int) == ((y.born : Nat) : Int)) = some j := by
    rw [show es.findIdx? (fun e => ((e.born : Nat) : Int) == ((y.born : Nat) : Int)) = es.toList.findIdx? (fun e => ((e.born : Nat) : Int) == ((y.born : Nat) : Int)) by cases es; simp]
    exact born_at ((stamped_iff es clock).1 hm.st).2.1 h2
  have hlist : (es.modify j (fun e' => { e' with val := ev v })).toList = es.toList.set j { y with val := ev v } := by rw [Array.toList_modify, ChangeMaps.modify_eq_set _ _ _ _ h2]
  refine ⟨_, ?_, out_set hb, es.modify j (fun e' => { e' with val := ev v }), clock, heap_setBlock_same hb _, stamped_modify hm.st _ _ (fun _ _ => rfl) (fun _ _ _ => rfl), ?_⟩
  · simp [Instr.entryStore, MapKept.run_getObj_map hb, asInt, asIntOf, hidx, MapKept.run_setObj_map _ hb, Result.andThen, setBlock]
  · rw [hlist]
    refine List.Perm.trans ((ChangeMaps.set_perm _ _ hjl _).map _) (List.Perm.trans ?_ hC2)
    rw [List.map_cons, h3]
    exact (del_perm hinj hm h2 h3).cons _
theorem filter_erase {α : Type} (p : α → Bool) : ∀ (l : List α) (j : Nat) (a : α), l[j]? = some a → p a = false → (l.eraseIdx j).filter p = l.filter p
  | [], _, _, h, _ => by simp at h
  | b :: r, 0, a, h, hp => by
    have e : b = a := by simpa using h
    subst e
    rw [List.eraseIdx_cons_zero, List.filter_cons, if_neg (by rw [hp]; decide)]
  | b :: r, j + 1, a, h, hp => by
    rw [List.eraseIdx_cons_succ, List.filter_cons, List.filter_cons, filter_erase p r j a (by simpa using h) hp]
/-- The entry that was just handed out is deleted: the map goes on without it. -/
theorem deleteIt_run (hK : KeyOK P k K) (hk : ∀ a : κ, K (ek a)) (hinj : ∀ a b : κ, ek a = ek b → a = b) (hT : MapTy P t k e) {r : Nat} {es : Array MapEntry} {clock : Nat} {rest : List (Value × Value)} {q : κ × ν}
    (hb : w.heap[g]? = some (.map es clock)) (hm : MapIs es clock (encM ek ev C)) (hit : ItN r g es clock rest (ek q.1, ev q.2) w) :
    ∃ w' es', (Builtin.delete_ #[t, k] ty #[.map (some g), ek q.1]).run P w = .ok (.tuple #[]) w' ∧ Out [g] w w' ∧ w'.heap[g]? = some (.map es' clock) ∧ MapIs es' clock (encM ek ev (delM C q.1)) ∧
      ∀ w2, w2.heap[r]? = w.heap[r]? → ItV r g es' clock rest w2 := by
  have hes : ∀ y ∈ es.toList, K y.key := fun y hy => by
    obtain ⟨p, _, h1, _⟩ := keys_es hm hy
    rw [h1]; exact hk _
  obtain ⟨⟨since, seen, c0, z1, z2, z3, z4, z5, z6⟩, since', seen', y, y1, y2, y3⟩ := hit
  injection y3 with yk yv
  have hseen : seen = seen'.push y.born := by rw [y1] at z1; injection z1 with z1; injection z1 with _ _ h _; exact h.symm
  rcases hK.find w (ek q.1) (hk q.1) es.toList hes with ⟨_, h2⟩ | ⟨j, y0, h1, h2, h3⟩
  · exact absurd yk (h2 y y2)
  · have hjl : j < es.toList.length := (List.getElem?_eq_some_iff.1 h2).1
    have hjs : j < es.size := by simpa using hjl
    have hyy : y0 = y := by
      obtain ⟨i, hi, he⟩ := List.mem_iff_getElem.1 y2
      by_cases hij : i = j
      · subst hij
        rw [List.getElem?_eq_getElem hi, he] at h2
        injection h2 with h2; exact h2.symm
      · exact absurd (h3.trans yk.symm) (other_entry hm.st h2 (show es.toList[i]? = some y by rw [List.getElem?_eq_getElem hi, he]) (fun e => hij e.symm))
    subst hyy
    have hsub : (es.eraseIdxIfInBounds j).toList = es.toList.eraseIdx j := by
      unfold Array.eraseIdxIfInBounds
      rw [dif_pos hjs]
      simp
    refine ⟨_, es.eraseIdxIfInBounds j, ?_, out_set hb, heap_setBlock_same hb _, ⟨stamped_erase hm.st j, ?_⟩, fun w2 hw2 => ⟨since, seen, c0, hw2.trans z1, fun x hx => z2 x ?_, z3, z4, stamped_erase hm.st j, ?_⟩⟩
    · simp [Builtin.delete_, run_underlying hT, MapKept.run_getObj_map hb, hK.check w _ _ (hk q.1), h1, MapKept.run_setObj_map _ hb, Result.andThen, setBlock]
    · rw [hsub]
      exact del_perm hinj hm h2 h3
    · rw [hsub] at hx
      exact List.mem_of_mem_eraseIdx hx
    · have e1 : ∀ a : Array MapEntry, (leftOf a seen).toList = a.toList.filter fun e => !seen.contains e.born := fun a => by unfold leftOf; simp
      rw [e1, hsub, filter_erase _ _ _ _ h2 (by rw [hseen, contains_push]; simp), ← e1]
      exact z6
end
section
variable {P : Program} {ops rest : List Oper} {o : Oper} {a : Act} {n d : Nat} {L : List (Nat × Value)} {Q : Exit → Act → World → Prop} {R : List Nat} {w w0 : World} {B : List Ent} {zv : Value} {x y z : Operand} {t k e : TypeId} {i j g r : Nat} {κ ν : Type} [DecidableEq κ] {ek : κ → Value} {ev : ν → Value} {C C' : List (κ × ν)} {kx : κ} {vx v0 : ν} {s : Int}
theorem sq_mapEntry (E : MapEn P t k e ek ev zv) (h0 : zv = ev v0) (F : Fr a n L) (M : Mm R w0 w B) (hw : Region.wanted o (yielded ops.toArray a.tmps) = true) (ho : o.op = .mapEntry t x y) (hx : a.eval x = .map (some g)) (hy : a.eval y = ek kx)
    (hi : B[i]? = some (.own [g] (MpV g (encM ek ev C)))) (hd : o.dst = some d) (hdn : Nat.blt d n = true)
    (h : ∀ a' w' u s, Fr a' n ((d, .tuple #[u, .int .i64 s]) :: L) → Mm R w0 w' (B.set i (.own [g] (EnV g ek ev zv C kx s))) → wpList P ops.toArray Q rest a' w') : wpList P ops.toArray Q (o :: rest) a w := by
  obtain ⟨K, hK, hk⟩ := E.keys
  obtain ⟨u, s, w', hr, h1, h2⟩ := mapEntry_run (x := kx) hK hk E.ty (M.pv hi) (E.zero w) h0
  exact sq_run F hw (v := .tuple #[u, .int .i64 s]) (by simp only [execOp, ho, hx, hy]; simp [hr]) (M.swap hi (x' := .own [g] (EnV g ek ev zv C kx s)) h1 ⟨h2, EnV.loc _ _ _ _ _ _ _⟩ (fun g hg => .inl hg) (fun g hg => by cases hg)) hd hdn (fun a' w' F' M' => h a' w' _ _ F' M')
theorem sq_entryStore (E : MapEn P t k e ek ev zv) (F : Fr a n L) (M : Mm R w0 w B) (hw : Region.wanted o (yielded ops.toArray a.tmps) = true) (ho : o.op = .entryStore t x y z) (hx : a.eval x = .map (some g)) (hy : a.eval y = .int .i64 s) (hz : a.eval z = ev vx)
    (hi : B[i]? = some (.own [g] (EnV g ek ev zv C kx s))) (hC : ((kx, vx) :: delM C kx).Perm C') (hd : o.dst = none)
    (h : ∀ w', Mm R w0 w' (B.set i (.own [g] (MpV g (encM ek ev C')))) → wpList P ops.toArray Q rest a w') : wpList P ops.toArray Q (o :: rest) a w := by
  obtain ⟨w', hr, h1, h2⟩ := entryStore_run (P := P) (t := t) E.inj (M.pv hi) hC
  exact sq_run0 F hw (v := undef) (.inr (by simp only [execOp, ho, hx, hy, hz]; simp [hr])) (M.swap hi (x' := .own [g] (MpV g (encM ek ev C'))) h1 ⟨h2, MpV.loc _ _⟩ (fun g hg => .inl hg) (fun g hg => by cases hg)) hd h
theorem ld_lookL (E : MapEn P t k e ek ev zv) {W : World → Prop} {u : Value} (ho : o.op = .lookup t x y false) (hx : a.eval x = .map (some g)) (hy : a.eval y = ek kx) (hm : ∀ w, W w → LkV g ek ev zv C kx w) (hu : (getM C kx).elim zv ev = u) : Rdy P o a W u := fun w hC => by
  obtain ⟨K, hK, hk⟩ := E.keys
  obtain ⟨C1, h1, _, h3⟩ := hm w hC
  have hr := look_run (x := kx) hK hk E.inj E.ty h1 (E.zero w) false
  simp only [Bool.false_eq_true, if_false] at hr
  rw [h3, hu] at hr
  simp only [execOp, ho, hx, hy]
  simp [hr]
/-- An entry made ready, in a statement of open order. -/
theorem ow_mapEntry (E : MapEn P t k e ek ev zv) (h0 : zv = ev v0) {K : Act → World → Prop} (M : Mm R w0 w B) (ho : o.op = .mapEntry t x y) (hx : a.eval x = .map (some g)) (hy : a.eval y = ek kx)
    (hi : B[i]? = some (.own [g] (LkV g ek ev zv C kx))) (h : ∀ (y_ : Value × Int) w', Mm R w0 w' (B.set i (.own [g] (EnV g ek ev zv C kx y_.2))) → K (a.put o.dst (.tuple #[y_.1, .int .i64 y_.2])) w') : o.wp P a w K Q := by
  obtain ⟨K, hK, hk⟩ := E.keys
  obtain ⟨u, s, w', hr, h1, h2⟩ := mapEntry_lk (x := kx) hK hk E.ty (M.pv hi) (E.zero w) h0
  have hr2 : (execOp a.eval o).run P w = .ok (.value (.tuple #[u, .int .i64 s])) w' := by simp only [execOp, ho, hx, hy]; simp [hr]
  exact ow_run hr2 (h (u, s) w' (M.swap hi (x' := .own [g] (EnV g ek ev zv C kx s)) h1 ⟨h2, EnV.loc _ _ _ _ _ _ _⟩ (fun g hg => .inl hg) (fun g hg => by cases hg)))
theorem sq_deleteIt {es : Array MapEntry} {clock : Nat} {rl : List (Value × Value)} {q : κ × ν} (E : MapEn P t k e ek ev zv) (hm : MapIs es clock (encM ek ev C)) (F : Fr a n L) (M : Mm R w0 w B) (hw : Region.wanted o (yielded ops.toArray a.tmps) = true) (ho : o.op = .call { callee := .builtin .delete, args := #[x, y], argTypes := #[t, k] }) (hx : a.eval x = .map (some g)) (hy : a.eval y = ek q.1)
    (hi : B[i]? = some (.own [g] (ObV g (.map es clock)))) (hj : B[j]? = some (.own [r] (ItN r g es clock rl (ek q.1, ev q.2)))) (hij : i ≠ j) (hd : o.dst = none)
    (h : ∀ w' es', MapIs es' clock (encM ek ev (delM C q.1)) → Mm R w0 w' ((B.set i (.own [g] (ObV g (.map es' clock)))).set j (.own [r] (ItV r g es' clock rl))) → wpList P ops.toArray Q rest a w') : wpList P ops.toArray Q (o :: rest) a w := by
  obtain ⟨K, hK, hk⟩ := E.keys
  have hne : ∀ z ∈ [g], ¬ z ∈ [r] := M.apart hi hj hij
  obtain ⟨w', es', hr, h1, h2, h3, h4⟩ := deleteIt_run (ty := o.type) hK hk E.inj E.ty (M.pv hi) hm (M.pv hj)
  have hlt : r < w.heap.size := (M.pl hj).lt (M.pv hj) r (by simp)
  have M1 := M.swap hi (x' := .own [g] (ObV g (.map es' clock))) h1 ⟨h2, ObV.loc _ _⟩ (fun g hg => .inl hg) (fun g hg => by cases hg)
  have hj1 : (B.set i (.own [g] (ObV g (.map es' clock))))[j]? = some (.own [r] (ItN r g es clock rl (ek q.1, ev q.2))) := by rw [List.getElem?_set_ne hij]; exact hj
  have M2 := M1.conv (Ψ := ItV r g es' clock rl) hj1 (fun _ => h4 w' (h1.block r hlt (fun e => hne g (by simp) (by simpa using (List.mem_singleton.1 e).symm)))) (ItV.loc _ _ _ _ _)
  refine sq_run0 F hw (v := .tuple #[]) (.inl ?_) M2 hd (fun w2 M' => h w2 es' h3 M')
  simp only [execOp, ho, resolve, invoke, builtin, List.map_toArray, List.map, hx, hy]
  simp [hr]
end
end Go.Proofs.Ytoadlnnhlnhkjaa
