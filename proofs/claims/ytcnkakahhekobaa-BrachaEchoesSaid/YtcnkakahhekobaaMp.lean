/- Maps in the logic: a block that holds a map, its entries in whatever order; looked up, written, deleted from, cleared, ranged over. Any seat. -/
import Derived.Test.YtcnkakahhekobaaFx
import Derived.Maps.RangeRun
namespace Go.Proofs.Ytcnkakahhekobaa
open Go.RowKit Go.MapKept
set_option maxRecDepth 100000
set_option linter.unusedSimpArgs false
set_option linter.unusedVariables false
open Go.ChangeMaps (setBlock heap_setBlock_same)

/-- The entries of a map are l, in some order. -/
structure MapIs (es : Array MapEntry) (clock : Nat) (l : List (Value × Value)) : Prop where
  st : Stamped es clock
  perm : (es.toList.map fun e => (e.key, e.val)).Perm l
/-- Block g is a map with the entries l. -/
def MpV (g : Nat) (l : List (Value × Value)) (w : World) : Prop := ∃ es clock, w.heap[g]? = some (.map es clock) ∧ MapIs es clock l
theorem lt_of_some {w : World} {g : Nat} {o : Obj} (h : w.heap[g]? = some o) : g < w.heap.size := (Array.getElem?_eq_some_iff.1 h).1
theorem MpV.loc (g : Nat) (l : List (Value × Value)) : Loc [g] (MpV g l) := fun _ _ hk ⟨es, clock, h, hm⟩ =>
  ⟨⟨es, clock, (hk g (by simp)).trans h, hm⟩, fun g' hg => by simp only [List.mem_singleton] at hg; subst hg; exact lt_of_some h⟩
theorem MapIs.to {es : Array MapEntry} {clock : Nat} {l l' : List (Value × Value)} (h : MapIs es clock l) (hp : l.Perm l') : MapIs es clock l' := ⟨h.st, h.perm.trans hp⟩
theorem MpV.to {g : Nat} {l l' : List (Value × Value)} {w : World} (h : MpV g l w) (hp : l.Perm l') : MpV g l' w := by
  obtain ⟨es, clock, h1, h2⟩ := h
  exact ⟨es, clock, h1, h2.to hp⟩
theorem MapIs.nodup {es : Array MapEntry} {clock : Nat} {l : List (Value × Value)} (h : MapIs es clock l) : l.Pairwise (fun p q => p.1 ≠ q.1) := by
  refine (h.perm.pairwise_iff (fun {x y} (e : x.1 ≠ y.1) => e.symm)).1 ?_
  rw [List.pairwise_map]
  exact ((stamped_iff es clock).1 h.st).2.2
/-- Block g is just this. -/
def ObV (g : Nat) (o : Obj) (w : World) : Prop := w.heap[g]? = some o
theorem ObV.loc (g : Nat) (o : Obj) : Loc [g] (ObV g o) := fun _ _ hk h =>
  ⟨(hk g (by simp)).trans h, fun g' hg => by simp only [List.mem_singleton] at hg; subst hg; exact lt_of_some h⟩
/-- What a key's type must answer. -/
structure KeyOK (P : Program) (k : TypeId) (K : Value → Prop) : Prop where
  check : ∀ (w : World) (em : Bool) (v : Value), K v → (Instr.checkKey em 10000 k v).run P w = .ok () w
  find : ∀ (w : World) (x : Value), K x → ∀ es : List MapEntry, (∀ e ∈ es, K e.key) → ((Instr.findKey k x es).run P w = .ok none w ∧ ∀ e ∈ es, e.key ≠ x) ∨ ∃ j e, (Instr.findKey k x es).run P w = .ok (some (j, e.val)) w ∧ es[j]? = some e ∧ e.key = x
  stays : ∀ (w : World) (v : Value), K v → (Instr.keyThatStays v v).run P w = .ok v w
/-- A map with keys and elements encoded. -/
def encM {κ ν : Type} (ek : κ → Value) (ev : ν → Value) (C : List (κ × ν)) : List (Value × Value) := C.map fun p => (ek p.1, ev p.2)
def getM {κ ν : Type} [DecidableEq κ] (C : List (κ × ν)) (k : κ) : Option ν := (C.find? fun p => decide (p.1 = k)).map (·.2)
def delM {κ ν : Type} [DecidableEq κ] (C : List (κ × ν)) (k : κ) : List (κ × ν) := C.filter fun p => !decide (p.1 = k)
def MapTy (P : Program) (t k e : TypeId) : Prop := P.underlying t = some (.map k e)
section
variable {κ ν : Type} [DecidableEq κ] {ek : κ → Value} {ev : ν → Value} {C C' : List (κ × ν)} {x : κ}
theorem getM_none (h : ∀ p ∈ C, p.1 ≠ x) : getM C x = none := by
  unfold getM
  rw [List.find?_eq_none.2 (fun p hp => by simpa using h p hp)]
  rfl
theorem getM_some {v : ν} (hn : C.Pairwise (fun p q => p.1 ≠ q.1)) (h : (x, v) ∈ C) : getM C x = some v := by
  unfold getM
  induction C with
  | nil => cases h
  | cons p r ih =>
    obtain ⟨h1, h2⟩ := List.pairwise_cons.1 hn
    rw [List.find?_cons]
    rcases List.mem_cons.1 h with e | h3
    · subst e; simp
    · have : p.1 ≠ x := h1 _ h3
      simp only [this, decide_false]
      exact ih h2 h3
theorem getM_mem {v : ν} (h : getM C x = some v) : (x, v) ∈ C := by
  unfold getM at h
  obtain ⟨p, hp, rfl⟩ := Option.map_eq_some_iff.1 h
  have h1 := List.find?_some hp
  have h2 := List.mem_of_find?_eq_some hp
  simp only [decide_eq_true_eq] at h1
  subst h1
  exact h2
theorem getM_perm (hn : C.Pairwise (fun p q => p.1 ≠ q.1)) (hp : C.Perm C') : getM C' x = getM C x := by
  cases h : getM C x with
  | none =>
    refine getM_none fun p hpm e => ?_
    have h1 : (x, p.2) ∈ C := by rw [← e]; exact hp.mem_iff.2 hpm
    rw [getM_some hn h1] at h; cases h
  | some v => exact getM_some ((hp.pairwise_iff (fun {a b} (e : a.1 ≠ b.1) => e.symm)).1 hn) (hp.mem_iff.1 (getM_mem h))
omit [DecidableEq κ] in
theorem enc_apart (hn : (encM ek ev C).Pairwise (fun p q => p.1 ≠ q.1)) : C.Pairwise (fun p q => p.1 ≠ q.1) := by
  unfold encM at hn
  rw [List.pairwise_map] at hn
  exact hn.imp (fun h e => h (by rw [e]))
end
/-! ### The runs -/
section
variable {P : Program} {w : World} {t k e ty : TypeId} {g : Nat} {K : Value → Prop} {κ ν : Type} [DecidableEq κ] {ek : κ → Value} {ev : ν → Value} {C C' : List (κ × ν)} {x : κ}
omit [DecidableEq κ] in
theorem keys_es {es : Array MapEntry} {clock : Nat} (hm : MapIs es clock (encM ek ev C)) {y : MapEntry} (hy : y ∈ es.toList) : ∃ p ∈ C, y.key = ek p.1 ∧ y.val = ev p.2 := by
  have h1 : (y.key, y.val) ∈ encM ek ev C := hm.perm.mem_iff.1 (List.mem_map.2 ⟨y, hy, rfl⟩)
  obtain ⟨p, hp, he⟩ := List.mem_map.1 h1
  injection he with h2 h3
  exact ⟨p, hp, h2.symm, h3.symm⟩
theorem look_run (hK : KeyOK P k K) (hk : ∀ a : κ, K (ek a)) (hinj : ∀ a b : κ, ek a = ek b → a = b) (hT : MapTy P t k e) (hm : MpV g (encM ek ev C) w) {z : Value} (hz : (zeroValue e).run P w = .ok z w) (ok : Bool) :
    (Instr.lookup t (.map (some g)) (ek x) ok).run P w = .ok (if ok then .tuple #[(getM C x).elim z ev, .bool (getM C x).isSome] else (getM C x).elim z ev) w := by
  obtain ⟨es, clock, hb, hm⟩ := hm
  have hn := enc_apart hm.nodup
  have hes : ∀ y ∈ es.toList, K y.key := fun y hy => by
    obtain ⟨p, _, h1, _⟩ := keys_es hm hy
    rw [h1]; exact hk _
  rcases hK.find w (ek x) (hk x) es.toList hes with ⟨h1, h2⟩ | ⟨j, y, h1, h2, h3⟩
  · have hg : getM C x = none := getM_none fun p hp e => by
      have h4 : (ek p.1, ev p.2) ∈ es.toList.map (fun e => (e.key, e.val)) := hm.perm.mem_iff.2 (List.mem_map.2 ⟨p, hp, rfl⟩)
      obtain ⟨y, hy, he⟩ := List.mem_map.1 h4
      injection he with h5 _
      exact h2 y hy (by rw [h5, e])
    rw [hg]
    cases ok <;> simp [Instr.lookup, run_underlying hT, MapKept.run_getObj_map hb, hK.check w es.isEmpty _ (hk x), h1, hz, Result.andThen]
  · have hy : y ∈ es.toList := List.mem_of_getElem? h2
    obtain ⟨p, hp, h4, h5⟩ := keys_es hm hy
    have e1 : p.1 = x := hinj _ _ (h4.symm.trans h3)
    have hg : getM C x = some p.2 := getM_some hn (by rw [← e1]; exact hp)
    rw [hg, Option.elim, ← h5]
    cases ok <;> simp [Instr.lookup, run_underlying hT, MapKept.run_getObj_map hb, hK.check w es.isEmpty _ (hk x), h1, Result.andThen]
theorem out_set {o o' : Obj} (hb : w.heap[g]? = some o) : Out [g] w (setBlock w g o') := ⟨rfl, rfl, rfl, by simp [setBlock], fun i _ hi => by
  simp only [List.mem_singleton] at hi
  have h : ¬ g = i := fun e => hi e.symm
  simp only [setBlock, Array.getElem?_setIfInBounds, h, if_false]⟩
theorem other_entry {es : Array MapEntry} {clock : Nat} (hs : Stamped es clock) {i j : Nat} {a b : MapEntry} (ha : es.toList[i]? = some a) (hb : es.toList[j]? = some b) (hne : i ≠ j) : a.key ≠ b.key := by
  have hp := List.pairwise_iff_getElem.1 ((stamped_iff es clock).1 hs).2.2
  obtain ⟨hi, rfl⟩ := List.getElem?_eq_some_iff.1 ha
  obtain ⟨hj, rfl⟩ := List.getElem?_eq_some_iff.1 hb
  rcases Nat.lt_or_gt_of_ne hne with h | h
  · exact hp i j hi hj h
  · exact fun e => hp j i hj hi h e.symm
theorem del_perm {es : Array MapEntry} {clock : Nat} (hinj : ∀ a b : κ, ek a = ek b → a = b) (hm : MapIs es clock (encM ek ev C)) {j : Nat} {y : MapEntry} (h2 : es.toList[j]? = some y) (h3 : y.key = ek x) :
    ((es.toList.eraseIdx j).map fun e => (e.key, e.val)).Perm (encM ek ev (delM C x)) := by
  obtain ⟨hj, hjy⟩ := List.getElem?_eq_some_iff.1 h2
  have hp : (y.key, y.val) :: ((es.toList.eraseIdx j).map fun e => (e.key, e.val)) |>.Perm (encM ek ev C) := by
    refine List.Perm.trans ?_ hm.perm
    rw [← List.map_cons (f := fun e : MapEntry => (e.key, e.val))]
    refine List.Perm.map _ ?_
    have := ChangeMaps.set_perm es.toList j hj y
    rw [← hjy, List.set_getElem_self, hjy] at this
    exact this.symm
  have hnd := hm.nodup
  -- filter both sides
  obtain ⟨p, hpC, h4, h5⟩ := keys_es hm (List.mem_of_getElem? h2)
  have e1 : p.1 = x := hinj _ _ (h4.symm.trans h3)
  have hCn := enc_apart hnd
  -- C is p and what has another key
  have hd : C.Perm (p :: delM C x) := by
    clear hp hm hnd
    induction C with
    | nil => cases hpC
    | cons q r ih =>
      obtain ⟨h6, h7⟩ := List.pairwise_cons.1 hCn
      unfold delM
      rw [List.filter_cons]
      rcases List.mem_cons.1 hpC with e | h8
      · subst e
        have hr : r.filter (fun p => !decide (p.1 = x)) = r := List.filter_eq_self.2 fun u hu => by
          have := h6 u hu
          rw [e1] at this
          have h9 : ¬ u.1 = x := fun e => this e.symm
          simp [h9]
        simp [e1, hr]
      · have : q.1 ≠ x := by rw [← e1]; exact h6 p h8
        simp only [this, decide_false, Bool.not_false, if_true]
        exact ((ih h8 h7).cons q).trans (List.Perm.swap _ _ _)
  have he : (encM ek ev C).Perm ((y.key, y.val) :: encM ek ev (delM C x)) := by
    rw [h4, h5]
    exact hd.map (fun p => (ek p.1, ev p.2))
  exact (hp.trans he).cons_inv
theorem update_run (hK : KeyOK P k K) (hk : ∀ a : κ, K (ek a)) (hinj : ∀ a b : κ, ek a = ek b → a = b) (hT : MapTy P t k e) (hm : MpV g (encM ek ev C) w) {v : ν} (hC : ((x, v) :: delM C x).Perm C') :
    ∃ w', (Instr.mapUpdate t (.map (some g)) (ek x) (ev v)).run P w = .ok () w' ∧ Out [g] w w' ∧ MpV g (encM ek ev C') w' := by
  obtain ⟨es, clock, hb, hm⟩ := hm
  have hes : ∀ y ∈ es.toList, K y.key := fun y hy => by
    obtain ⟨p, _, h1, _⟩ := keys_es hm hy
    rw [h1]; exact hk _
  have hC2 : (encM ek ev ((x, v) :: delM C x)).Perm (encM ek ev C') := hC.map _
  rcases hK.find w (ek x) (hk x) es.toList hes with ⟨h1, h2⟩ | ⟨j, y, h1, h2, h3⟩
  · have hd : delM C x = C := List.filter_eq_self.2 fun p hp => by
      have h4 : (ek p.1, ev p.2) ∈ es.toList.map (fun e => (e.key, e.val)) := hm.perm.mem_iff.2 (List.mem_map.2 ⟨p, hp, rfl⟩)
      obtain ⟨y, hy, he⟩ := List.mem_map.1 h4
      injection he with h5 _
      have : p.1 ≠ x := fun e => h2 y hy (by rw [h5, e])
      simp [this]
    refine ⟨_, ?_, out_set hb, es.push ⟨ek x, ev v, clock⟩, clock + 1, heap_setBlock_same hb _, stamped_push hm.st h2, ?_⟩
    · simp [Instr.mapUpdate, run_underlying hT, MapKept.run_getObj_map hb, hK.check w false _ (hk x), h1, MapKept.run_setObj_map _ hb, Result.andThen, setBlock]
    · rw [Array.toList_push, List.map_append, List.map_singleton]
      refine (List.perm_append_singleton _ _).trans (List.Perm.trans ?_ hC2)
      rw [hd]
      exact hm.perm.cons _
  · have hj : es[j]? = some y := by simpa using h2
    have hjl : j < es.toList.length := (List.getElem?_eq_some_iff.1 h2).1
    have hkeyf : ∀ e', es[j]? = some e' → ({ e' with key := ek x, val := ev v } : MapEntry).key = e'.key := fun e' he' => by rw [hj] at he'; cases he'; exact h3.symm
    have hlist : (es.modify j (fun e' => { e' with key := ek x, val := ev v })).toList = es.toList.set j { y with key := ek x, val := ev v } := by rw [Array.toList_modify, ChangeMaps.modify_eq_set _ _ _ _ h2]
    refine ⟨_, ?_, out_set hb, es.modify j (fun e' => { e' with key := ek x, val := ev v }), clock, heap_setBlock_same hb _, stamped_modify hm.st _ _ (fun _ _ => rfl) (fun e' _ he' => hkeyf e' he'), ?_⟩
    · simp [Instr.mapUpdate, run_underlying hT, MapKept.run_getObj_map hb, hK.check w false _ (hk x), h1, hj, h3, hK.stays w _ (hk x), MapKept.run_setObj_map _ hb, Result.andThen, setBlock]
    · rw [hlist]
      refine List.Perm.trans ((ChangeMaps.set_perm _ _ hjl _).map _) (List.Perm.trans ?_ hC2)
      rw [List.map_cons]
      exact (del_perm hinj hm h2 h3).cons _
theorem delete_run (hK : KeyOK P k K) (hk : ∀ a : κ, K (ek a)) (hinj : ∀ a b : κ, ek a = ek b → a = b) (hT : MapTy P t k e) (hm : MpV g (encM ek ev C) w) (hC : (delM C x).Perm C') :
    ∃ w', (Builtin.delete_ #[t, k] ty #[.map (some g), ek x]).run P w = .ok (.tuple #[]) w' ∧ Out [g] w w' ∧ MpV g (encM ek ev C') w' := by
  obtain ⟨es, clock, hb, hm⟩ := hm
  have hes : ∀ y ∈ es.toList, K y.key := fun y hy => by
    obtain ⟨p, _, h1, _⟩ := keys_es hm hy
    rw [h1]; exact hk _
  have hC2 : (encM ek ev (delM C x)).Perm (encM ek ev C') := hC.map _
  rcases hK.find w (ek x) (hk x) es.toList hes with ⟨h1, h2⟩ | ⟨j, y, h1, h2, h3⟩
  · have hd : delM C x = C := List.filter_eq_self.2 fun p hp => by
      have h4 : (ek p.1, ev p.2) ∈ es.toList.map (fun e => (e.key, e.val)) := hm.perm.mem_iff.2 (List.mem_map.2 ⟨p, hp, rfl⟩)
      obtain ⟨y, hy, he⟩ := List.mem_map.1 h4
      injection he with h5 _
      have : p.1 ≠ x := fun e => h2 y hy (by rw [h5, e])
      simp [this]
    refine ⟨_, ?_, out_set hb, es, clock, heap_setBlock_same hb _, hm.st, ?_⟩
    · simp [Builtin.delete_, run_underlying hT, MapKept.run_getObj_map hb, hK.check w _ _ (hk x), h1, MapKept.run_setObj_map _ hb, Result.andThen, setBlock]
    · rw [hd] at hC2
      exact hm.perm.trans hC2
  · have hjl : j < es.toList.length := (List.getElem?_eq_some_iff.1 h2).1
    have hjs : j < es.size := by simpa using hjl
    have hsub : (es.eraseIdxIfInBounds j).toList = es.toList.eraseIdx j := by
      unfold Array.eraseIdxIfInBounds
      rw [dif_pos hjs]
      simp
    refine ⟨_, ?_, out_set hb, es.eraseIdxIfInBounds j, clock, heap_setBlock_same hb _, stamped_erase hm.st j, ?_⟩
    · simp [Builtin.delete_, run_underlying hT, MapKept.run_getObj_map hb, hK.check w _ _ (hk x), h1, MapKept.run_setObj_map _ hb, Result.andThen, setBlock]
    · rw [hsub]
      exact (del_perm hinj hm h2 h3).trans hC2
theorem clear_run {l : List (Value × Value)} (hT : MapTy P t k e) (hm : MpV g l w) : ∃ w', (Builtin.clear_ #[t] ty #[.map (some g)]).run P w = .ok (.tuple #[]) w' ∧ Out [g] w w' ∧ MpV g [] w' := by
  obtain ⟨es, clock, hb, hm⟩ := hm
  refine ⟨_, ?_, out_set hb, #[], clock, heap_setBlock_same hb _, MapKept.stamped_empty _, by simp⟩
  simp [Builtin.clear_, run_underlying hT, MapKept.run_getObj_map hb, MapKept.run_setObj_map _ hb, Result.andThen, setBlock]
theorem len_run {l : List (Value × Value)} (hT : MapTy P t k e) (hm : MpV g l w) : (Builtin.len_ #[t] ty #[.map (some g)]).run P w = .ok (.int .i64 l.length) w := by
  obtain ⟨es, clock, hb, hm⟩ := hm
  have := hm.perm.length_eq
  simp only [List.length_map, Array.length_toList] at this
  simp [Builtin.len_, run_underlying hT, MapKept.run_getObj_map hb, goInt, Result.andThen, this]
end
/-! ### Going over a map -/
/-- An iterator over the map with the entries es: those that are still to come are rest. -/
def ItV (r g : Nat) (es : Array MapEntry) (clock : Nat) (rest : List (Value × Value)) (w : World) : Prop :=
  ∃ since seen c0, w.heap[r]? = some (.mapIter (some g) since seen c0) ∧ (∀ x ∈ es.toList, x.born < since) ∧ since ≤ c0 ∧ since ≤ clock ∧ Stamped es clock ∧ ((leftOf es seen).toList.map fun e => (e.key, e.val)).Perm rest
theorem ItV.loc (r g : Nat) (es : Array MapEntry) (clock : Nat) (rest : List (Value × Value)) : Loc [r] (ItV r g es clock rest) := fun _ _ hk ⟨since, seen, c0, h, hm⟩ =>
  ⟨⟨since, seen, c0, (hk r (by simp)).trans h, hm⟩, fun g' hg => by simp only [List.mem_singleton] at hg; subst hg; exact lt_of_some h⟩
/-- The iterator has just handed out this entry. -/
def ItN (r g : Nat) (es : Array MapEntry) (clock : Nat) (rest : List (Value × Value)) (p : Value × Value) (w : World) : Prop :=
  ItV r g es clock rest w ∧ ∃ (since : Nat) (seen : Array Nat) (y : MapEntry), w.heap[r]? = some (.mapIter (some g) since (seen.push y.born) clock) ∧ y ∈ es.toList ∧ (y.key, y.val) = p
theorem ItN.loc (r g : Nat) (es : Array MapEntry) (clock : Nat) (rest : List (Value × Value)) (p : Value × Value) : Loc [r] (ItN r g es clock rest p) := fun w w' hk ⟨h1, since, seen, y, h2, h3⟩ =>
  ⟨⟨(ItV.loc r g es clock rest w w' hk h1).1, since, seen, y, (hk r (by simp)).trans h2, h3⟩, (ItV.loc r g es clock rest w w' hk h1).2⟩
section
variable {P : Program} {w : World} {t k e ty : TypeId} {g r : Nat} {es : Array MapEntry} {clock : Nat} {l rest : List (Value × Value)}
theorem range_run (hT : MapTy P t k e) (hb : w.heap[g]? = some (.map es clock)) (hm : MapIs es clock l) :
    ∃ w', (Instr.range t (.map (some g))).run P w = .ok (.pointer (some ⟨w.heap.size, 0, none⟩)) w' ∧ Below w.heap.size w w' ∧ ItV w.heap.size g es clock l w' := by
  refine ⟨_, run_range_map w t k e g es clock hT hb, ⟨rfl, rfl, rfl, by simp, fun i hi => heap_alloc_old w _ hi⟩, clock, #[], clock, heap_alloc_new w _, hm.st.1, Nat.le_refl _, Nat.le_refl _, hm.st, ?_⟩
  rw [show leftOf es #[] = es by simp [leftOf]]
  exact hm.perm
theorem next_run (hb : w.heap[g]? = some (.map es clock)) (hi : ItV r g es clock rest w) (hne : r ≠ g) :
    (rest = [] ∧ (Instr.next (.pointer (some ⟨r, 0, none⟩)) false ty).run P w = .ok (.tuple #[.bool false]) w) ∨
    ∃ p rest' w', rest.Perm (p :: rest') ∧ (Instr.next (.pointer (some ⟨r, 0, none⟩)) false ty).run P w = .ok (.tuple #[.bool true, p.1, p.2]) w' ∧ Out [r] w w' ∧ ItN r g es clock rest' p w' := by
  obtain ⟨since, seen, c0, hr, hold, hsc, hck, hst, hp⟩ := hi
  rcases run_next_at (P := P) w ty r g since c0 seen es clock hr hb hold hsc with ⟨h0, hrun⟩ | ⟨y, hy, w1, hal, hrun⟩
  · refine .inl ⟨?_, hrun⟩
    have : leftOf es seen = #[] := Array.eq_empty_of_size_eq_zero h0
    rw [this] at hp
    exact hp.symm.eq_nil
  · obtain ⟨hym, hys⟩ := mem_left hy
    -- what is left behind the step
    have hsub : ((leftOf es seen).toList.map fun e => (e.key, e.val)).Perm ((y.key, y.val) :: ((leftOf es (seen.push y.born)).toList.map fun e => (e.key, e.val))) := by
      rw [← List.map_cons (f := fun e : MapEntry => (e.key, e.val))]
      refine List.Perm.map _ ?_
      have hbn := ((stamped_iff es clock).1 hst).2.1
      have hmem : ∀ z ∈ es.toList, z.born = y.born → z = y := fun z hz h => born_inj hbn hz hym h
      have e1 : (leftOf es seen).toList = es.toList.filter fun e => !seen.contains e.born := by unfold leftOf; simp
      have e2 : (leftOf es (seen.push y.born)).toList = es.toList.filter fun e => !seen.contains e.born && !(e.born == y.born) := by
        unfold leftOf
        rw [Array.toList_filter]
        refine List.filter_congr fun z _ => ?_
        rw [contains_push]
        cases seen.contains z.born <;> cases z.born == y.born <;> rfl
      rw [e1, e2]
      clear hrun hp hr hb e1 e2 hold hst
      generalize es.toList = L at hym hbn hmem
      induction L with
      | nil => cases hym
      | cons z r ih =>
        have hbn' := List.nodup_cons.1 (show (z.born :: r.map (·.born)).Nodup from hbn)
        rcases List.mem_cons.1 hym with e | h3
        · subst e
          have h4 : ∀ u ∈ r, (u.born == y.born) = false := fun u hu => by
            cases hq : u.born == y.born with
            | false => rfl
            | true => exact absurd (List.mem_map.2 ⟨u, hu, beq_iff_eq.1 hq⟩) hbn'.1
          rw [List.filter_cons, List.filter_cons]
          simp only [hys, Bool.not_false, if_true, beq_self_eq_true, Bool.not_true, Bool.and_false, Bool.false_eq_true, if_false]
          have h5 : r.filter (fun e => !seen.contains e.born && !(e.born == y.born)) = r.filter (fun e => !seen.contains e.born) := List.filter_congr (fun u hu => by rw [h4 u hu]; simp)
          rw [h5]
        · have hz : (z.born == y.born) = false := by
            cases hq : z.born == y.born with
            | false => rfl
            | true => exact absurd (by rw [beq_iff_eq.1 hq]; exact List.mem_map.2 ⟨y, h3, rfl⟩) hbn'.1
          have := ih h3 hbn'.2 (fun u hu h => hmem u (List.mem_cons_of_mem _ hu) h)
          rw [List.filter_cons, List.filter_cons, hz]
          cases seen.contains z.born with
          | true => simpa using this
          | false =>
            simp only [Bool.not_false, Bool.and_self, if_true]
            exact (this.cons z).trans (List.Perm.swap _ _ _)
    have hr1 : w1.heap[r]? = some (.mapIter (some g) since seen c0) := by rcases hal with rfl | rfl <;> exact hr
    have hset := heap_set (o' := .mapIter (some g) since (seen.push y.born) clock) hr1
    refine .inr ⟨(y.key, y.val), _, _, hp.symm.trans hsub, hrun, ?_, ⟨since, seen.push y.born, clock, hset.1, hold, hck, hck, hst, List.Perm.refl _⟩, since, seen, y, hset.1, hym, rfl⟩
    rcases hal with rfl | rfl <;> exact ⟨rfl, rfl, rfl, by simp [setBlock], fun i _ hi => hset.2 i (fun e1 => hi (by simp [e1]))⟩
theorem entry_run {p : Value × Value} (hb : w.heap[g]? = some (.map es clock)) (hi : ItN r g es clock rest p w) : (Instr.entry (.pointer (some ⟨r, 0, none⟩))).run P w = .ok (.tuple #[p.1, p.2]) w := by
  obtain ⟨⟨_, _, _, _, _, _, _, hst, _⟩, since, seen, y, hr, hy, rfl⟩ := hi
  exact run_entry_at w r g since seen es clock y hr hb hy ((stamped_iff es clock).1 hst).2.1
end
end Go.Proofs.Ytcnkakahhekobaa
