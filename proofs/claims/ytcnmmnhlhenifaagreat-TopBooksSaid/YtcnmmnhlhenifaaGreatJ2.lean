/- Put together: St, Ls, En, Mp, Rh, Rj, Mq, Ek, Gv, Ao, Rk, Gi. -/
import Derived.Test.YtcnmmnhlhenifaaGreatFx
import Derived.Test.YtcnmmnhlhenifaaGreatJ1
import Derived.Deep.Slices
import Derived.Maps.RangeRun
import Derived.Carry
import Derived.Deep.MidRow
namespace Go.Proofs.YtcnmmnhlhenifaaGreat
open Go.RowKit
set_option maxRecDepth 100000
set_option linter.unusedSimpArgs false
set_option linter.unusedVariables false
def cS : List St → List Value
  | [] => []
  | s :: r => .int .i64 s.e :: .int .i64 s.r :: cS r
def atS (L : List St) (i : Nat) : St := L.getD i St.zero
theorem cS_len : ∀ L : List St, (cS L).length = L.length * 2
  | [] => rfl
  | s :: r => by simp only [cS, List.length_cons, cS_len r]; omega
theorem cS_app : ∀ L K : List St, cS (L ++ K) = cS L ++ cS K
  | [], _ => rfl
  | s :: r, K => by simp only [List.cons_append, cS, cS_app r K]
theorem cS_ones : ∀ (L : List St), ∀ z ∈ cS L, z.oneCell' = true
  | [], z, h => by cases h
  | s :: r, z, h => by
    simp only [cS, List.mem_cons] at h
    rcases h with rfl | rfl | h
    · rfl
    · rfl
    · exact cS_ones r z h
theorem cS_drop : ∀ (L : List St) (n : Nat), (cS L).drop (n * 2) = cS (L.drop n)
  | L, 0 => by simp
  | [], n + 1 => by simp [cS]
  | s :: r, n + 1 => by
    rw [show (n + 1) * 2 = n * 2 + 1 + 1 by omega]
    simp only [cS, List.drop_succ_cons, cS_drop r n]
theorem cS_take : ∀ (L : List St) (n : Nat), (cS L).take (n * 2) = cS (L.take n)
  | L, 0 => by simp [cS]
  | [], n + 1 => by simp [cS]
  | s :: r, n + 1 => by
    rw [show (n + 1) * 2 = n * 2 + 1 + 1 by omega]
    simp only [cS, List.take_succ_cons, cS_take r n]
theorem atS_eq {L : List St} {i : Nat} (h : i < L.length) : atS L i = L[i] := by
  unfold atS; rw [List.getD_eq_getElem?_getD, List.getElem?_eq_getElem h]; rfl
theorem atS_mem {L : List St} {i : Nat} (h : i < L.length) : atS L i ∈ L := by rw [atS_eq h]; exact List.getElem_mem h
theorem cS_at {L : List St} {i : Nat} (h : i < L.length) : ((cS L).drop (i * 2)).take 2 = [.int .i64 (atS L i).e, .int .i64 (atS L i).r] := by
  rw [cS_drop, List.drop_eq_getElem_cons h, atS_eq h]
  rfl
theorem mem_of_at {L : List St} {i : Nat} {t : St} (h : i < L.length) (e : atS L i = t) : t ∈ L := e ▸ atS_mem h
theorem at_of_mem {L : List St} {t : St} (h : t ∈ L) : ∃ i, i < L.length ∧ atS L i = t := by
  obtain ⟨i, hi, he⟩ := List.mem_iff_getElem.1 h
  exact ⟨i, hi, by rw [atS_eq hi, he]⟩
theorem cov_t {L : List St} {i : Nat} {t : St} (h : i < L.length) (e : (atS L i).leB t = true) : covB L t = true := List.any_eq_true.2 ⟨_, atS_mem h, e⟩
theorem cov_f {L : List St} {t : St} {i : Int} (h : ∀ k, k < i.toNat → (atS L k).leB t = false) (hi : ¬ i < (L.length : Int)) : covB L t = false := by
  unfold covB
  rw [List.any_eq_false]
  intro s hs
  obtain ⟨k, hk, he⟩ := at_of_mem hs
  rw [← he, h k (by omega)]
  simp
abbrev RdS (w : World) (v : Value) (L : List St) : Prop := RdV w 2 v L.length (cS L)
theorem RdS.sub {w : World} {v : Value} {L : List St} (hr : RdS w v L) {l h : Nat} (h1 : l ≤ h) (h2 : h ≤ L.length) : RdS w (subS 2 l h v) ((L.drop l).take (h - l)) := by
  have := sub_rdv hr h1 h2
  rw [cS_drop, cS_take] at this
  have hl : ((L.drop l).take (h - l)).length = h - l := by rw [List.length_take, List.length_drop]; omega
  unfold RdS
  rw [hl]
  exact this
abbrev OwnS (w : World) (b : Nat) (t : TypeId) (v : Value) (L : List St) : Prop := w.ownsRow b t 2 v L.length (cS L)
end Go.Proofs.YtcnmmnhlhenifaaGreat
namespace Go.Proofs.YtcnmmnhlhenifaaGreat
open Go.ChangeShapes Go.WideShapes Go.ChangeAt Go.RowKit Go.Joins Go.Deep
set_option maxRecDepth 100000
set_option linter.unusedSimpArgs false
set_option linter.unusedVariables false
section
variable {H : Type} {enc : TypeId × Value → H} {W : World}
theorem cell_spot {w : World} {a : Addr} {v : Value} (h : w.cell? a = some v) : a.spot = none ∧ a.block < w.heap.size := by
  unfold World.cell? at h
  split at h
  · rename_i c e f hh
    split at h
    · cases h
    · rename_i hs
      exact ⟨by simpa using hs, (Array.getElem?_eq_some_iff.1 hh).1⟩
  · cases h
theorem add_lit {a : Addr} (h : a.spot = none) (k : Nat) : a.add k = ⟨a.block, a.off + k, none⟩ := by
  obtain ⟨b, o, s⟩ := a
  subst h
  exact addr_add b o k
end
section
variable {H : Type} {enc : TypeId × Value → H} {W : World}
end
section
variable {H : Type} {enc : TypeId × Value → H} {W : World}
end
end Go.Proofs.YtcnmmnhlhenifaaGreat
namespace Go.Proofs.YtcnmmnhlhenifaaGreat
open Go.RowKit
set_option maxRecDepth 100000
set_option linter.unusedSimpArgs false
set_option linter.unusedVariables false
structure Enc (α : Type) where
  m : Nat
  f : α → List Value
  z : α
  len : ∀ a, (f a).length = m
  ones : ∀ a, ∀ v ∈ f a, v.oneCell' = true
def cE {α : Type} (E : Enc α) : List α → List Value
  | [] => []
  | a :: r => E.f a ++ cE E r
def atE {α : Type} (E : Enc α) (L : List α) (i : Nat) : α := L.getD i E.z
section
variable {α : Type} {E : Enc α}
theorem cE_len : ∀ L : List α, (cE E L).length = L.length * E.m
  | [] => by simp [cE]
  | a :: r => by simp only [cE, List.length_append, E.len, cE_len r, List.length_cons]; rw [Nat.add_mul]; omega
theorem cE_app : ∀ L K : List α, cE E (L ++ K) = cE E L ++ cE E K
  | [], _ => rfl
  | a :: r, K => by simp only [List.cons_append, cE, cE_app r K, List.append_assoc]
theorem cE_ones : ∀ (L : List α), ∀ z ∈ cE E L, z.oneCell' = true
  | [], z, h => by cases h
  | a :: r, z, h => by
    simp only [cE, List.mem_append] at h
    rcases h with h | h
    · exact E.ones a z h
    · exact cE_ones r z h
theorem cE_drop : ∀ (L : List α) (n : Nat), (cE E L).drop (n * E.m) = cE E (L.drop n)
  | L, 0 => by simp
  | [], n + 1 => by simp [cE]
  | a :: r, n + 1 => by
    have h : (n + 1) * E.m = (E.f a).length + n * E.m := by rw [E.len, Nat.add_mul]; omega
    simp only [cE, List.drop_succ_cons]
    rw [h, List.drop_append, List.drop_of_length_le (by omega), Nat.add_sub_cancel_left, cE_drop r n]
    rfl
theorem cE_take : ∀ (L : List α) (n : Nat), (cE E L).take (n * E.m) = cE E (L.take n)
  | L, 0 => by simp [cE]
  | [], n + 1 => by simp [cE]
  | a :: r, n + 1 => by
    have h : (n + 1) * E.m = (E.f a).length + n * E.m := by rw [E.len, Nat.add_mul]; omega
    simp only [cE, List.take_succ_cons]
    rw [h, List.take_append, List.take_of_length_le (by omega), Nat.add_sub_cancel_left, cE_take r n]
theorem atE_eq {L : List α} {i : Nat} (h : i < L.length) : atE E L i = L[i] := by
  unfold atE; rw [List.getD_eq_getElem?_getD, List.getElem?_eq_getElem h]; rfl
theorem atE_mem {L : List α} {i : Nat} (h : i < L.length) : atE E L i ∈ L := by rw [atE_eq h]; exact List.getElem_mem h
theorem cE_at {L : List α} {i : Nat} (h : i < L.length) : ((cE E L).drop (i * E.m)).take E.m = E.f (atE E L i) := by
  rw [cE_drop, List.drop_eq_getElem_cons h, atE_eq h]
  have := E.len L[i]
  simp only [cE]
  rw [List.take_append, List.take_of_length_le (by omega), this, Nat.sub_self, List.take_zero, List.append_nil]
theorem at_of_memE {L : List α} {t : α} (h : t ∈ L) : ∃ i, i < L.length ∧ atE E L i = t := by
  obtain ⟨i, hi, he⟩ := List.mem_iff_getElem.1 h
  exact ⟨i, hi, by rw [atE_eq hi, he]⟩
end
def encI : Enc Int := ⟨1, fun n => [.int .i64 n], 0, fun _ => rfl, fun a v h => by
  simp only [List.mem_cons, List.not_mem_nil, or_false] at h; subst h; rfl⟩
def cI (L : List Int) : List Value := cE encI L
def atI (L : List Int) (i : Nat) : Int := atE encI L i
theorem cI_at {L : List Int} {i : Nat} (h : i < L.length) : (cI L)[i * 1]? = some (.int .i64 (atI L i)) := by
  have h1 := cE_at (E := encI) h
  have h2 : ((cI L).drop (i * 1)).take 1 = [.int .i64 (atI L i)] := h1
  have h3 : (((cI L).drop (i * 1)).take 1)[0]? = some (.int .i64 (atI L i)) := by rw [h2]; rfl
  rw [List.getElem?_take] at h3
  simpa using h3
theorem cI_app (L K : List Int) : cI (L ++ K) = cI L ++ cI K := cE_app L K
theorem cI_ones (L : List Int) : ∀ z ∈ cI L, z.oneCell' = true := cE_ones L
abbrev RdI (w : World) (v : Value) (L : List Int) : Prop := RdV w 1 v L.length (cI L)
end Go.Proofs.YtcnmmnhlhenifaaGreat
namespace Go.Proofs.YtcnmmnhlhenifaaGreat
open Go.RowKit Go.MapKept
set_option maxRecDepth 100000
set_option linter.unusedSimpArgs false
set_option linter.unusedVariables false
open Go.ChangeMaps (setBlock heap_setBlock_same)
structure MapIs (es : Array MapEntry) (clock : Nat) (l : List (Value × Value)) : Prop where
  st : Stamped es clock
  perm : (es.toList.map fun e => (e.key, e.val)).Perm l
def MpV (g : Nat) (l : List (Value × Value)) (w : World) : Prop := ∃ es clock, w.heap[g]? = some (.map es clock) ∧ MapIs es clock l
theorem lt_of_some {w : World} {g : Nat} {o : Obj} (h : w.heap[g]? = some o) : g < w.heap.size := (Array.getElem?_eq_some_iff.1 h).1
theorem MpV.loc (g : Nat) (l : List (Value × Value)) : Loc [g] (MpV g l) := fun _ _ hk ⟨es, clock, h, hm⟩ =>
  ⟨⟨es, clock, (hk g (by simp)).trans h, hm⟩, fun g' hg => by simp only [List.mem_singleton] at hg; subst hg; exact lt_of_some h⟩
theorem MapIs.to {es : Array MapEntry} {clock : Nat} {l l' : List (Value × Value)} (h : MapIs es clock l) (hp : l.Perm l') : MapIs es clock l' := ⟨h.st, h.perm.trans hp⟩
theorem MpV.to {g : Nat} {l l' : List (Value × Value)} {w : World} (h : MpV g l w) (hp : l.Perm l') : MpV g l' w := by
  obtain ⟨es, clock, h1, h2⟩ := h
  exact ⟨es, clock, h1, h2.to hp⟩
theorem MapIs.nodup {es : Array MapEntry} {clock : Nat} {l : List (Value × Value)} (h : MapIs es clock l) : l.Pairwise (fun p q => p.1 ≠ q.1) := by
  refine (h.perm.pairwise_iff (fun {x y} (e : x.1 ≠ y.1) => e.symm)).1 ?_
  rw [List.pairwise_map]
  exact ((stamped_iff es clock).1 h.st).2.2
def ObV (g : Nat) (o : Obj) (w : World) : Prop := w.heap[g]? = some o
theorem ObV.loc (g : Nat) (o : Obj) : Loc [g] (ObV g o) := fun _ _ hk h =>
  ⟨(hk g (by simp)).trans h, fun g' hg => by simp only [List.mem_singleton] at hg; subst hg; exact lt_of_some h⟩
structure KeyOK (P : Program) (k : TypeId) (K : Value → Prop) : Prop where
  check : ∀ (w : World) (em : Bool) (v : Value), K v → (Instr.checkKey em 10000 k v).run P w = .ok () w
  find : ∀ (w : World) (x : Value), K x → ∀ es : List MapEntry, (∀ e ∈ es, K e.key) → ((Instr.findKey k x es).run P w = .ok none w ∧ ∀ e ∈ es, e.key ≠ x) ∨ ∃ j e, (Instr.findKey k x es).run P w = .ok (some (j, e.val)) w ∧ es[j]? = some e ∧ e.key = x
  stays : ∀ (w : World) (v : Value), K v → (Instr.keyThatStays v v).run P w = .ok v w
def encM {κ ν : Type} (ek : κ → Value) (ev : ν → Value) (C : List (κ × ν)) : List (Value × Value) := C.map fun p => (ek p.1, ev p.2)
def getM {κ ν : Type} [DecidableEq κ] (C : List (κ × ν)) (k : κ) : Option ν := (C.find? fun p => decide (p.1 = k)).map (·.2)
def delM {κ ν : Type} [DecidableEq κ] (C : List (κ × ν)) (k : κ) : List (κ × ν) := C.filter fun p => !decide (p.1 = k)
def MapTy (P : Program) (t k e : TypeId) : Prop := P.underlying t = some (.map k e)
section
variable {κ ν : Type} [DecidableEq κ] {ek : κ → Value} {ev : ν → Value} {C C' : List (κ × ν)} {x : κ}
theorem getM_none (h : ∀ p ∈ C, p.1 ≠ x) : getM C x = none := by
  unfold getM
  rw [List.find?_eq_none.2 (fun p hp => by simpa using h p hp)]
  rfl
theorem getM_some {v : ν} (hn : C.Pairwise (fun p q => p.1 ≠ q.1)) (h : (x, v) ∈ C) : getM C x = some v := by
  unfold getM
  induction C with
  | nil => cases h
  | cons p r ih =>
    obtain ⟨h1, h2⟩ := List.pairwise_cons.1 hn
    rw [List.find?_cons]
    rcases List.mem_cons.1 h with e | h3
    · subst e; simp
    · have : p.1 ≠ x := h1 _ h3
      simp only [this, decide_false]
      exact ih h2 h3
theorem getM_mem {v : ν} (h : getM C x = some v) : (x, v) ∈ C := by
  unfold getM at h
  obtain ⟨p, hp, rfl⟩ := Option.map_eq_some_iff.1 h
  have h1 := List.find?_some hp
  have h2 := List.mem_of_find?_eq_some hp
  simp only [decide_eq_true_eq] at h1
  subst h1
  exact h2
omit [DecidableEq κ] in
theorem enc_apart (hn : (encM ek ev C).Pairwise (fun p q => p.1 ≠ q.1)) : C.Pairwise (fun p q => p.1 ≠ q.1) := by
  unfold encM at hn
  rw [List.pairwise_map] at hn
  exact hn.imp (fun h e => h (by rw [e]))
end
section
variable {P : Program} {w : World} {t k e ty : TypeId} {g : Nat} {K : Value → Prop} {κ ν : Type} [DecidableEq κ] {ek : κ → Value} {ev : ν → Value} {C C' : List (κ × ν)} {x : κ}
omit [DecidableEq κ] in
theorem keys_es {es : Array MapEntry} {clock : Nat} (hm : MapIs es clock (encM ek ev C)) {y : MapEntry} (hy : y ∈ es.toList) : ∃ p ∈ C, y.key = ek p.1 ∧ y.val = ev p.2 := by
  have h1 : (y.key, y.val) ∈ encM ek ev C := hm.perm.mem_iff.1 (List.mem_map.2 ⟨y, hy, rfl⟩)
  obtain ⟨p, hp, he⟩ := List.mem_map.1 h1
  injection he with h2 h3
  exact ⟨p, hp, h2.symm, h3.symm⟩
theorem look_run (hK : KeyOK P k K) (hk : ∀ a : κ, K (ek a)) (hinj : ∀ a b : κ, ek a = ek b → a = b) (hT : MapTy P t k e) (hm : MpV g (encM ek ev C) w) {z : Value} (hz : (zeroValue e).run P w = .ok z w) (ok : Bool) :
    (Instr.lookup t (.map (some g)) (ek x) ok).run P w = .ok (if ok then .tuple #[(getM C x).elim z ev, .bool (getM C x).isSome] else (getM C x).elim z ev) w := by
  obtain ⟨es, clock, hb, hm⟩ := hm
  have hn := enc_apart hm.nodup
  have hes : ∀ y ∈ es.toList, K y.key := fun y hy => by
    obtain ⟨p, _, h1, _⟩ := keys_es hm hy
    rw [h1]; exact hk _
  rcases hK.find w (ek x) (hk x) es.toList hes with ⟨h1, h2⟩ | ⟨j, y, h1, h2, h3⟩
  · have hg : getM C x = none := getM_none fun p hp e => by
      have h4 : (ek p.1, ev p.2) ∈ es.toList.map (fun e => (e.key, e.val)) := hm.perm.mem_iff.2 (List.mem_map.2 ⟨p, hp, rfl⟩)
      obtain ⟨y, hy, he⟩ := List.mem_map.1 h4
      injection he with h5 _
      exact h2 y hy (by rw [h5, e])
    rw [hg]
    cases ok <;> simp [Instr.lookup, run_underlying hT, MapKept.run_getObj_map hb, hK.check w es.isEmpty _ (hk x), h1, hz, Result.andThen]
  · have hy : y ∈ es.toList := List.mem_of_getElem? h2
    obtain ⟨p, hp, h4, h5⟩ := keys_es hm hy
    have e1 : p.1 = x := hinj _ _ (h4.symm.trans h3)
    have hg : getM C x = some p.2 := getM_some hn (by rw [← e1]; exact hp)
    rw [hg, Option.elim, ← h5]
    cases ok <;> simp [Instr.lookup, run_underlying hT, MapKept.run_getObj_map hb, hK.check w es.isEmpty _ (hk x), h1, Result.andThen]
theorem out_set {o o' : Obj} (hb : w.heap[g]? = some o) : Out [g] w (setBlock w g o') := ⟨rfl, rfl, rfl, by simp [setBlock], fun i _ hi => by
  simp only [List.mem_singleton] at hi
  have h : ¬ g = i := fun e => hi e.symm
  simp only [setBlock, Array.getElem?_setIfInBounds, h, if_false]⟩
theorem del_perm {es : Array MapEntry} {clock : Nat} (hinj : ∀ a b : κ, ek a = ek b → a = b) (hm : MapIs es clock (encM ek ev C)) {j : Nat} {y : MapEntry} (h2 : es.toList[j]? = some y) (h3 : y.key = ek x) :
    ((es.toList.eraseIdx j).map fun e => (e.key, e.val)).Perm (encM ek ev (delM C x)) := by
  obtain ⟨hj, hjy⟩ := List.getElem?_eq_some_iff.1 h2
  have hp : (y.key, y.val) :: ((es.toList.eraseIdx j).map fun e => (e.key, e.val)) |>.Perm (encM ek ev C) := by
    refine List.Perm.trans ?_ hm.perm
    rw [← List.map_cons (f := fun e : MapEntry => (e.key, e.val))]
    refine List.Perm.map _ ?_
    have := ChangeMaps.set_perm es.toList j hj y
    rw [← hjy, List.set_getElem_self, hjy] at this
    exact this.symm
  have hnd := hm.nodup
  obtain ⟨p, hpC, h4, h5⟩ := keys_es hm (List.mem_of_getElem? h2)
  have e1 : p.1 = x := hinj _ _ (h4.symm.trans h3)
  have hCn := enc_apart hnd
  have hd : C.Perm (p :: delM C x) := by
    clear hp hm hnd
    induction C with
    | nil => cases hpC
    | cons q r ih =>
      obtain ⟨h6, h7⟩ := List.pairwise_cons.1 hCn
      unfold delM
      rw [List.filter_cons]
      rcases List.mem_cons.1 hpC with e | h8
      · subst e
        have hr : r.filter (fun p => !decide (p.1 = x)) = r := List.filter_eq_self.2 fun u hu => by
          have := h6 u hu
          rw [e1] at this
          have h9 : ¬ u.1 = x := fun e => this e.symm
          simp [h9]
        simp [e1, hr]
      · have : q.1 ≠ x := by rw [← e1]; exact h6 p h8
        simp only [this, decide_false, Bool.not_false, if_true]
        exact ((ih h8 h7).cons q).trans (List.Perm.swap _ _ _)
  have he : (encM ek ev C).Perm ((y.key, y.val) :: encM ek ev (delM C x)) := by
    rw [h4, h5]
    exact hd.map (fun p => (ek p.1, ev p.2))
  exact (hp.trans he).cons_inv
theorem update_run (hK : KeyOK P k K) (hk : ∀ a : κ, K (ek a)) (hinj : ∀ a b : κ, ek a = ek b → a = b) (hT : MapTy P t k e) (hm : MpV g (encM ek ev C) w) {v : ν} (hC : ((x, v) :: delM C x).Perm C') :
    ∃ w', (Instr.mapUpdate t (.map (some g)) (ek x) (ev v)).run P w = .ok () w' ∧ Out [g] w w' ∧ MpV g (encM ek ev C') w' := by
  obtain ⟨es, clock, hb, hm⟩ := hm
  have hes : ∀ y ∈ es.toList, K y.key := fun y hy => by
    obtain ⟨p, _, h1, _⟩ := keys_es hm hy
    rw [h1]; exact hk _
  have hC2 : (encM ek ev ((x, v) :: delM C x)).Perm (encM ek ev C') := hC.map _
  rcases hK.find w (ek x) (hk x) es.toList hes with ⟨h1, h2⟩ | ⟨j, y, h1, h2, h3⟩
  · have hd : delM C x = C := List.filter_eq_self.2 fun p hp => by
      have h4 : (ek p.1, ev p.2) ∈ es.toList.map (fun e => (e.key, e.val)) := hm.perm.mem_iff.2 (List.mem_map.2 ⟨p, hp, rfl⟩)
      obtain ⟨y, hy, he⟩ := List.mem_map.1 h4
      injection he with h5 _
      have : p.1 ≠ x := fun e => h2 y hy (by rw [h5, e])
      simp [this]
    refine ⟨_, ?_, out_set hb, es.push ⟨ek x, ev v, clock⟩, clock + 1, heap_setBlock_same hb _, stamped_push hm.st h2, ?_⟩
    · simp [Instr.mapUpdate, run_underlying hT, MapKept.run_getObj_map hb, hK.check w false _ (hk x), h1, MapKept.run_setObj_map _ hb, Result.andThen, setBlock]
    · rw [Array.toList_push, List.map_append, List.map_singleton]
      refine (List.perm_append_singleton _ _).trans (List.Perm.trans ?_ hC2)
      rw [hd]
      exact hm.perm.cons _
  · have hj : es[j]? = some y := by simpa using h2
    have hjl : j < es.toList.length := (List.getElem?_eq_some_iff.1 h2).1
    have hkeyf : ∀ e', es[j]? = some e' → ({ e' with key := ek x, val := ev v } : MapEntry).key = e'.key := fun e' he' => by rw [hj] at he'; cases he'; exact h3.symm
    have hlist : (es.modify j (fun e' => { e' with key := ek x, val := ev v })).toList = es.toList.set j { y with key := ek x, val := ev v } := by rw [Array.toList_modify, ChangeMaps.modify_eq_set _ _ _ _ h2]
    refine ⟨_, ?_, out_set hb, es.modify j (fun e' => { e' with key := ek x, val := ev v }), clock, heap_setBlock_same hb _, stamped_modify hm.st _ _ (fun _ _ => rfl) (fun e' _ he' => hkeyf e' he'), ?_⟩
    · simp [Instr.mapUpdate, run_underlying hT, MapKept.run_getObj_map hb, hK.check w false _ (hk x), h1, hj, h3, hK.stays w _ (hk x), MapKept.run_setObj_map _ hb, Result.andThen, setBlock]
    · rw [hlist]
      refine List.Perm.trans ((ChangeMaps.set_perm _ _ hjl _).map _) (List.Perm.trans ?_ hC2)
      rw [List.map_cons]
      exact (del_perm hinj hm h2 h3).cons _
theorem delete_run (hK : KeyOK P k K) (hk : ∀ a : κ, K (ek a)) (hinj : ∀ a b : κ, ek a = ek b → a = b) (hT : MapTy P t k e) (hm : MpV g (encM ek ev C) w) (hC : (delM C x).Perm C') :
    ∃ w', (Builtin.delete_ #[t, k] ty #[.map (some g), ek x]).run P w = .ok (.tuple #[]) w' ∧ Out [g] w w' ∧ MpV g (encM ek ev C') w' := by
  obtain ⟨es, clock, hb, hm⟩ := hm
  have hes : ∀ y ∈ es.toList, K y.key := fun y hy => by
    obtain ⟨p, _, h1, _⟩ := keys_es hm hy
    rw [h1]; exact hk _
  have hC2 : (encM ek ev (delM C x)).Perm (encM ek ev C') := hC.map _
  rcases hK.find w (ek x) (hk x) es.toList hes with ⟨h1, h2⟩ | ⟨j, y, h1, h2, h3⟩
  · have hd : delM C x = C := List.filter_eq_self.2 fun p hp => by
      have h4 : (ek p.1, ev p.2) ∈ es.toList.map (fun e => (e.key, e.val)) := hm.perm.mem_iff.2 (List.mem_map.2 ⟨p, hp, rfl⟩)
      obtain ⟨y, hy, he⟩ := List.mem_map.1 h4
      injection he with h5 _
      have : p.1 ≠ x := fun e => h2 y hy (by rw [h5, e])
      simp [this]
    refine ⟨_, ?_, out_set hb, es, clock, heap_setBlock_same hb _, hm.st, ?_⟩
    · simp [Builtin.delete_, run_underlying hT, MapKept.run_getObj_map hb, hK.check w _ _ (hk x), h1, MapKept.run_setObj_map _ hb, Result.andThen, setBlock]
    · rw [hd] at hC2
      exact hm.perm.trans hC2
  · have hjl : j < es.toList.length := (List.getElem?_eq_some_iff.1 h2).1
    have hjs : j < es.size := by simpa using hjl
    have hsub : (es.eraseIdxIfInBounds j).toList = es.toList.eraseIdx j := by
      unfold Array.eraseIdxIfInBounds
      rw [dif_pos hjs]
      simp
    refine ⟨_, ?_, out_set hb, es.eraseIdxIfInBounds j, clock, heap_setBlock_same hb _, stamped_erase hm.st j, ?_⟩
    · simp [Builtin.delete_, run_underlying hT, MapKept.run_getObj_map hb, hK.check w _ _ (hk x), h1, MapKept.run_setObj_map _ hb, Result.andThen, setBlock]
    · rw [hsub]
      exact (del_perm hinj hm h2 h3).trans hC2
end
def ItV (r g : Nat) (es : Array MapEntry) (clock : Nat) (rest : List (Value × Value)) (w : World) : Prop :=
  ∃ since seen c0, w.heap[r]? = some (.mapIter (some g) since seen c0) ∧ (∀ x ∈ es.toList, x.born < since) ∧ since ≤ c0 ∧ since ≤ clock ∧ Stamped es clock ∧ ((leftOf es seen).toList.map fun e => (e.key, e.val)).Perm rest
theorem ItV.loc (r g : Nat) (es : Array MapEntry) (clock : Nat) (rest : List (Value × Value)) : Loc [r] (ItV r g es clock rest) := fun _ _ hk ⟨since, seen, c0, h, hm⟩ =>
  ⟨⟨since, seen, c0, (hk r (by simp)).trans h, hm⟩, fun g' hg => by simp only [List.mem_singleton] at hg; subst hg; exact lt_of_some h⟩
def ItN (r g : Nat) (es : Array MapEntry) (clock : Nat) (rest : List (Value × Value)) (p : Value × Value) (w : World) : Prop :=
  ItV r g es clock rest w ∧ ∃ (since : Nat) (seen : Array Nat) (y : MapEntry), w.heap[r]? = some (.mapIter (some g) since (seen.push y.born) clock) ∧ y ∈ es.toList ∧ (y.key, y.val) = p
theorem ItN.loc (r g : Nat) (es : Array MapEntry) (clock : Nat) (rest : List (Value × Value)) (p : Value × Value) : Loc [r] (ItN r g es clock rest p) := fun w w' hk ⟨h1, since, seen, y, h2, h3⟩ =>
  ⟨⟨(ItV.loc r g es clock rest w w' hk h1).1, since, seen, y, (hk r (by simp)).trans h2, h3⟩, (ItV.loc r g es clock rest w w' hk h1).2⟩
section
variable {P : Program} {w : World} {t k e ty : TypeId} {g r : Nat} {es : Array MapEntry} {clock : Nat} {l rest : List (Value × Value)}
theorem range_run (hT : MapTy P t k e) (hb : w.heap[g]? = some (.map es clock)) (hm : MapIs es clock l) :
    ∃ w', (Instr.range t (.map (some g))).run P w = .ok (.pointer (some ⟨w.heap.size, 0, none⟩)) w' ∧ Below w.heap.size w w' ∧ ItV w.heap.size g es clock l w' := by
  refine ⟨_, run_range_map w t k e g es clock hT hb, ⟨rfl, rfl, rfl, by simp, fun i hi => heap_alloc_old w _ hi⟩, clock, #[], clock, heap_alloc_new w _, hm.st.1, Nat.le_refl _, Nat.le_refl _, hm.st, ?_⟩
  rw [show leftOf es #[] = es by simp [leftOf]]
  exact hm.perm
theorem next_run (hb : w.heap[g]? = some (.map es clock)) (hi : ItV r g es clock rest w) (hne : r ≠ g) :
    (rest = [] ∧ (Instr.next (.pointer (some ⟨r, 0, none⟩)) false ty).run P w = .ok (.tuple #[.bool false]) w) ∨
    ∃ p rest' w', rest.Perm (p :: rest') ∧ (Instr.next (.pointer (some ⟨r, 0, none⟩)) false ty).run P w = .ok (.tuple #[.bool true, p.1, p.2]) w' ∧ Out [r] w w' ∧ ItN r g es clock rest' p w' := by
  obtain ⟨since, seen, c0, hr, hold, hsc, hck, hst, hp⟩ := hi
  rcases run_next_at (P := P) w ty r g since c0 seen es clock hr hb hold hsc with ⟨h0, hrun⟩ | ⟨y, hy, w1, hal, hrun⟩
  · refine .inl ⟨?_, hrun⟩
    have : leftOf es seen = #[] := Array.eq_empty_of_size_eq_zero h0
    rw [this] at hp
    exact hp.symm.eq_nil
  · obtain ⟨hym, hys⟩ := mem_left hy
    have hsub : ((leftOf es seen).toList.map fun e => (e.key, e.val)).Perm ((y.key, y.val) :: ((leftOf es (seen.push y.born)).toList.map fun e => (e.key, e.val))) := by
      rw [← List.map_cons (f := fun e : MapEntry => (e.key, e.val))]
      refine List.Perm.map _ ?_
      have hbn := ((stamped_iff es clock).1 hst).2.1
      have hmem : ∀ z ∈ es.toList, z.born = y.born → z = y := fun z hz h => born_inj hbn hz hym h
      have e1 : (leftOf es seen).toList = es.toList.filter fun e => !seen.contains e.born := by unfold leftOf; simp
      have e2 : (leftOf es (seen.push y.born)).toList = es.toList.filter fun e => !seen.contains e.born && !(e.born == y.born) := by
        unfold leftOf
        rw [Array.toList_filter]
        refine List.filter_congr fun z _ => ?_
        rw [contains_push]
        cases seen.contains z.born <;> cases z.born == y.born <;> rfl
      rw [e1, e2]
      clear hrun hp hr hb e1 e2 hold hst
      generalize es.toList = L at hym hbn hmem
      induction L with
      | nil => cases hym
      | cons z r ih =>
        have hbn' := List.nodup_cons.1 (show (z.born :: r.map (·.born)).Nodup from hbn)
        rcases List.mem_cons.1 hym with e | h3
        · subst e
          have h4 : ∀ u ∈ r, (u.born == y.born) = false := fun u hu => by
            cases hq : u.born == y.born with
            | false => rfl
            | true => exact absurd (List.mem_map.2 ⟨u, hu, beq_iff_eq.1 hq⟩) hbn'.1
          rw [List.filter_cons, List.filter_cons]
          simp only [hys, Bool.not_false, if_true, beq_self_eq_true, Bool.not_true, Bool.and_false, Bool.false_eq_true, if_false]
          have h5 : r.filter (fun e => !seen.contains e.born && !(e.born == y.born)) = r.filter (fun e => !seen.contains e.born) := List.filter_congr (fun u hu => by rw [h4 u hu]; simp)
          rw [h5]
        · have hz : (z.born == y.born) = false := by
            cases hq : z.born == y.born with
            | false => rfl
            | true => exact absurd (by rw [beq_iff_eq.1 hq]; exact List.mem_map.2 ⟨y, h3, rfl⟩) hbn'.1
          have := ih h3 hbn'.2 (fun u hu h => hmem u (List.mem_cons_of_mem _ hu) h)
          rw [List.filter_cons, List.filter_cons, hz]
          cases seen.contains z.born with
          | true => simpa using this
          | false =>
            simp only [Bool.not_false, Bool.and_self, if_true]
            exact (this.cons z).trans (List.Perm.swap _ _ _)
    have hr1 : w1.heap[r]? = some (.mapIter (some g) since seen c0) := by rcases hal with rfl | rfl <;> exact hr
    have hset := heap_set (o' := .mapIter (some g) since (seen.push y.born) clock) hr1
    refine .inr ⟨(y.key, y.val), _, _, hp.symm.trans hsub, hrun, ?_, ⟨since, seen.push y.born, clock, hset.1, hold, hck, hck, hst, List.Perm.refl _⟩, since, seen, y, hset.1, hym, rfl⟩
    rcases hal with rfl | rfl <;> exact ⟨rfl, rfl, rfl, by simp [setBlock], fun i _ hi => hset.2 i (fun e1 => hi (by simp [e1]))⟩
theorem entry_run {p : Value × Value} (hb : w.heap[g]? = some (.map es clock)) (hi : ItN r g es clock rest p w) : (Instr.entry (.pointer (some ⟨r, 0, none⟩))).run P w = .ok (.tuple #[p.1, p.2]) w := by
  obtain ⟨⟨_, _, _, _, _, _, _, hst, _⟩, since, seen, y, hr, hy, rfl⟩ := hi
  exact run_entry_at w r g since seen es clock y hr hb hy ((stamped_iff es clock).1 hst).2.1
end
end Go.Proofs.YtcnmmnhlhenifaaGreat
namespace Go.Proofs.YtcnmmnhlhenifaaGreat
open Go.RowKit
set_option maxRecDepth 100000
set_option linter.unusedSimpArgs false
set_option linter.unusedVariables false
inductive HV where
  | val (v : Value)
  | new (t : TypeId) (cs : Array Value)
def HV.value (g : Nat) : HV → Value
  | .val v => v
  | .new _ _ => .pointer (some ⟨g, 0, none⟩)
def HV.old : HV → Bool
  | .val _ => true
  | .new _ _ => false
def headL (g : Nat) : List Oper → List HV → List (Nat × Value) → List (Nat × Value)
  | o :: os, h :: hs, L => headL g os hs (match o.dst with | some d => (d, h.value g) :: L | none => L)
  | _, _, L => L
def HV.told (B : Nat) (x : Value) (w : World) : HV → Prop
  | .val v => x = v
  | .new t cs => ∃ g, x = .pointer (some ⟨g, 0, none⟩) ∧ Blk w g t cs ∧ B ≤ g
def told (B : Nat) (vals : List HV) (i : Nat) (x : Value) (w : World) : Prop := ∀ h, vals[i]? = some h → h.told B x w
section
variable {P : Program} {Q : Exit → Act → World → Prop} {R : List Nat} {w0 w : World} {a : Act} {n : Nat} {L : List (Nat × Value)} {B : List Ent} {l : List Oper}
def HeadOK (P : Program) (Q : Exit → Act → World → Prop) (l : List Oper) (nh : Nat) (vals : List HV) (a : Act) (n : Nat) (w : World) (i : Nat) (o : Oper) : Prop :=
  ∀ (a' : Act) (w' : World), Below w.heap.size w w' → Fr a' n [] →
    (∀ j oj d v, Region.waitsFor .any l.toArray i j = true → (l.take nh)[j]? = some oj → oj.dst = some d → vals[j]? = some (.val v) → a'.tmps.getD d undef = v) →
    (∀ s, ((l.take nh).all fun oj => oj.dst != some s) = true → a'.tmps.getD s undef = a.tmps.getD s undef) →
    Region.wanted o (yielded l.toArray a'.tmps) = true ∧ o.wp P a' w' (fun a'' w'' => ∃ x, a'' = a'.put o.dst x ∧ Below w'.heap.size w' w'' ∧ told w.heap.size vals i x w'') Q
def HeadsOK (P : Program) (Q : Exit → Act → World → Prop) (l : List Oper) (nh : Nat) (vals : List HV) (a : Act) (n : Nat) (w : World) : Nat → List Oper → Prop
  | _, [] => True
  | i, o :: os => HeadOK P Q l nh vals a n w i o ∧ HeadsOK P Q l nh vals a n w (i + 1) os
theorem heads_get {nh : Nat} {vals : List HV} : ∀ (os : List Oper) (k : Nat), HeadsOK P Q l nh vals a n w k os → ∀ i o, os[i]? = some o → HeadOK P Q l nh vals a n w (k + i) o
  | [], _, _, i, o, h => by simp at h
  | o' :: os, k, h, 0, o, hi => by
    have : o' = o := by simpa using hi
    subst this
    exact h.1
  | o' :: os, k, h, i + 1, o, hi => by
    have := heads_get os (k + 1) h.2 i o (by simpa using hi)
    rwa [show k + 1 + i = k + (i + 1) by omega] at this
theorem puts_fr {g : Nat} : ∀ (hs : List Oper) (vals : List HV) (k : Nat) (v : Nat → Value) (a : Act) (L : List (Nat × Value)), hs.length = vals.length →
    (hs.all fun o => match o.dst with | some d => Nat.blt d n | none => true) = true → (∀ i h, vals[i]? = some h → v (k + i) = h.value g) → Fr a n L → Fr (putsFrom (fun _ => true) v hs k a) n (headL g hs vals L)
  | [], [], _, _, _, _, _, _, _, F => F
  | o :: os, h :: hs, k, v, a, L, hl, hd, hv, F => by
    simp only [List.all_cons, Bool.and_eq_true] at hd
    have h0 : v k = h.value g := hv 0 h rfl
    simp only [putsFrom, if_true, headL, h0]
    refine puts_fr os hs (k + 1) v _ _ (by simpa using hl) hd.2 (fun i h' hi => by have := hv (i + 1) h' (by simpa using hi); rwa [show k + (i + 1) = k + 1 + i by omega] at this) ?_
    cases ho : o.dst with
    | none => exact F
    | some d =>
      rw [ho] at hd
      exact F.put hd.1
theorem told_keep (b : Nat) (vals : List HV) : ∀ i x w w', told b vals i x w → Below w.heap.size w w' → told b vals i x w' := by
  intro i x w w' h hb hv hi
  have := h hv hi
  cases hv with
  | val v => exact this
  | new t cs =>
    obtain ⟨g, h1, h2, h3⟩ := this
    exact ⟨g, h1, h2.below hb h2.lt, h3⟩
theorem Mm.with (M : Mm R w0 w B) {w' : World} (hb : Below w.heap.size w w') {g : Nat} {t : TypeId} {cs : Array Value} (h : Blk w' g t cs) (hg : w.heap.size ≤ g) : Mm R w0 w' (.blk g t cs :: B) :=
  M.add hb (x := .blk g t cs) h (fun k hk => by simp only [Ent.fp, List.mem_singleton] at hk; omega) (fun k hk => by cases hk)
theorem rg_heads0 {id : Nat} (F : Fr a n L) (M : Mm R w0 w B) (nh : Nat) (vals : List HV) (honly : (vals.all fun h => h.old) = true)
    (hm : P.follows .mixedOrders = true) (hB : headsG l.toArray (l.take nh) (l.drop nh).length = true) (hsz : ((l.take nh).all fun o => match o.dst with | some d => Nat.blt d n | none => true) = true) (hlen : (l.take nh).length = vals.length)
    (hop : HeadsOK P Q l nh vals a n w 0 (l.take nh))
    (hend : ∀ a' w', Fr a' n (headL 0 (l.take nh) vals L) → Mm R w0 w' B → wpList P l.toArray Q (l.drop nh) a' w') : (Code.region id l.toArray true).wp P Q a w := by
  refine region_relG nh (told w.heap.size vals) hm hB ?_ (told_keep _ _) ?_ ?_
  · rw [List.all_eq_true] at hsz ⊢
    intro o ho
    have := hsz o ho
    cases hd : o.dst with
    | none => rfl
    | some d =>
      rw [hd] at this
      have hlt : d < n := Nat.le_of_ble_eq_true this
      simpa [F.size] using hlt
  · intro i o hi a' v w' hb hV hdep hold hsame
    have := heads_get (l.take nh) 0 hop i o hi
    rw [Nat.zero_add] at this
    refine this a' w' hb ⟨?_, ?_, fun h => by cases h⟩ (fun j oj d v' hj ho hd hv => ?_) hold
    · rw [hsame.1, F.size]
    · rw [hsame.2, F.defers]
    · rw [hdep j oj d hj ho hd]
      exact hV j hj (.val v') hv
  · intro v w' hb hV
    refine hend _ _ (puts_fr _ _ 0 v a L hlen hsz (fun i h hi => ?_) F) (M.below hb)
    rw [Nat.zero_add]
    have hi' : i < vals.length := by
      rcases Nat.lt_or_ge i vals.length with h | h
      · exact h
      · rw [List.getElem?_eq_none h] at hi; cases hi
    have ho := List.all_eq_true.1 honly h (List.mem_of_getElem? hi)
    cases h with
    | val u => exact hV i (by omega) _ hi
    | new _ _ => cases ho
variable {o : Oper} {nh i : Nat} {vals : List HV} {a' : Act} {w' : World} {v : Value} {L' : List (Nat × Value)}
theorem ob_rd (hw : Region.wanted o (yielded l.toArray a'.tmps) = true) (hp : Rdy P o a' (fun x => x = w') v) (hv : vals[i]? = some (.val v)) :
    Region.wanted o (yielded l.toArray a'.tmps) = true ∧ o.wp P a' w' (fun a'' w'' => ∃ x, a'' = a'.put o.dst x ∧ Below w'.heap.size w' w'' ∧ told w.heap.size vals i x w'') Q :=
  ⟨hw, ow_value v w' (hp w' rfl) (Below.refl _ _) (fun h hh => by rw [hv] at hh; injection hh with hh; subst hh; rfl)⟩
theorem ob_call (hw : Region.wanted o (yielded l.toArray a'.tmps) = true) {f : FuncId} {xs : List Operand} {ts : Array TypeId} {args : List Value} (ho : o.op = .call { callee := .value (.func f), args := xs.toArray, argTypes := ts })
    (he : enters P f = true) (ha : xs.map a'.eval = args) (hc : Calls P f args.toArray w' fun e w'' => e = .returned v ∧ Below w'.heap.size w' w'') (hv : vals[i]? = some (.val v)) :
    Region.wanted o (yielded l.toArray a'.tmps) = true ∧ o.wp P a' w' (fun a'' w'' => ∃ x, a'' = a'.put o.dst x ∧ Below w'.heap.size w' w'' ∧ told w.heap.size vals i x w'') Q :=
  ⟨hw, ow_call f xs ts ho he args ha v hc (fun _ _ h hh => by rw [hv] at hh; injection hh with hh; subst hh; rfl)⟩
theorem Fr.dep (_F : Fr a' n []) (hdep : ∀ j oj d v, Region.waitsFor .any l.toArray i j = true → (l.take nh)[j]? = some oj → oj.dst = some d → vals[j]? = some (.val v) → a'.tmps.getD d undef = v) (j : Nat) {oj : Oper} {d : Nat} (h1 : Region.waitsFor .any l.toArray i j = true)
    (h2 : (l.take nh)[j]? = some oj) (h3 : oj.dst = some d) (h4 : vals[j]? = some (.val v)) : a'.tmps.getD d undef = v := hdep j oj d v h1 h2 h3 h4
theorem Fr.was (F : Fr a n L) (hold : ∀ s, ((l.take nh).all fun oj => oj.dst != some s) = true → a'.tmps.getD s undef = a.tmps.getD s undef) {s : Nat} (h1 : ((l.take nh).all fun oj => oj.dst != some s) = true) (h2 : look L s = some v) : a'.tmps.getD s undef = v := by
  rw [hold s h1, F.get h2]
end
section
variable {P : Program} {a : Act} {n : Nat} {L : List (Nat × Value)} {w : World} {fn : Func} {Z : Ending → World → Prop} {k j : Nat} {v u : Value}
theorem rt_none (F : Fr a n L) (hr : fn.results = #[]) (hR : Z (.returned (.tuple #[])) w) : bodyPost P fn Z .ret a w := bodyPost_ret (results_none hr _ _ _) F.defers hR
theorem rt_end (F : Fr a n L) (hr : fn.results = #[]) (hR : Z (.returned (.tuple #[])) w) : bodyPost P fn Z .normal a w := bodyPost_end (results_none hr _ _ _) F.defers hR
theorem rt_tmp2 (F : Fr a n L) (hr : fn.results = #[.tmp k, .tmp j]) (hv : look L k = some v) (hu : look L j = some u) (hR : Z (.returned (.tuple #[v, u])) w) : bodyPost P fn Z .ret a w :=
  bodyPost_ret (by rw [results_tmp2 hr, F.get hv, F.get hu]) F.defers hR
end
end Go.Proofs.YtcnmmnhlhenifaaGreat
namespace Go.Proofs.YtcnmmnhlhenifaaGreat
open Go.RowKit
set_option maxRecDepth 100000
set_option linter.unusedSimpArgs false
set_option linter.unusedVariables false
def setB (D : Nat → Bool) (i : Nat) : Nat → Bool := fun j => if j = i then true else D j
def setV (v : Nat → Value) (i : Nat) (x : Value) : Nat → Value := fun j => if j = i then x else v j
section
variable {P : Program} {Q : Exit → Act → World → Prop} (hs tl : List Oper) (J : (Nat → Bool) → (Nat → Value) → World → Prop) (a0 : Act)
theorem wpAny_J (hB : headsG (hs ++ tl).toArray hs tl.length = true) (hsz : ∀ o ∈ hs, ∀ d, o.dst = some d → d < a0.tmps.size)
    (hop : ∀ i o, hs[i]? = some o → ∀ (D : Nat → Bool) (a : Act) (v : Nat → Value) (w : World), J D v w → D i = false → (∀ j, Region.waitsFor .any (hs ++ tl).toArray i j = true → D j = true) → (∀ i j, D i = true → Region.waitsFor .any (hs ++ tl).toArray i j = true → D j = true) →
      (∀ j oj d, D j = true → hs[j]? = some oj → oj.dst = some d → a.tmps.getD d undef = v j) → (∀ s, (∀ oj ∈ hs, oj.dst ≠ some s) → a.tmps.getD s undef = a0.tmps.getD s undef) → (a.tmps.size = a0.tmps.size ∧ a.defers = a0.defers) →
      Region.wanted o (yielded (hs ++ tl).toArray a.tmps) = true ∧ o.wp P a w (fun a' w' => ∃ x, a' = a.put o.dst x ∧ J (setB D i) (setV v i x) w') Q)
    (hend : ∀ v w, J (fun j => decide (j < hs.length)) v w → wpList P (hs ++ tl).toArray Q tl (putsFrom (fun _ => true) v hs 0 a0) w) :
    ∀ (m : Nat) (L : Array Bool) (v : Nat → Value) (w : World), L.size = hs.length + tl.length → (∀ i j, L.getD i false = true → Region.waitsFor .any (hs ++ tl).toArray i j = true → L.getD j false = true) → (∀ t, hs.length ≤ t → L.getD t false = false) → ((List.range hs.length).filter fun i => !L.getD i false).length = m →
      J (fun j => L.getD j false) v w → wpAny P .any (hs ++ tl).toArray Q (m + tl.length) L (putsFrom (fun j => L.getD j false) v hs 0 a0) w := by
  simp only [headsG, Bool.and_eq_true] at hB
  obtain ⟨⟨⟨hd, hback⟩, htail⟩, hseq⟩ := hB
  intro m
  induction m with
  | zero =>
    intro L v w hsize hcl htl hm hJ
    have hall : ∀ i, i < hs.length → L.getD i false = true := fun i hi => by
      have := List.eq_nil_of_length_eq_zero hm
      have h2 := List.filter_eq_nil_iff.1 this i (List.mem_range.2 hi)
      simpa using h2
    have hL : L = (List.replicate hs.length true ++ List.replicate tl.length false).toArray := by
      apply Array.ext
      · simp [hsize]
      · intro i h1 h2
        by_cases hi : i < hs.length
        · have := hall i hi
          simp only [Array.getD_eq_getD_getElem?, Array.getElem?_eq_getElem h1, Option.getD_some] at this
          rw [this]
          simp [List.getElem_append_left, hi]
        · have := htl i (by omega)
          simp only [Array.getD_eq_getD_getElem?, Array.getElem?_eq_getElem h1, Option.getD_some] at this
          rw [this]
          rw [List.getElem_toArray, List.getElem_append_right (by simpa using hi), List.getElem_replicate]
    rw [Nat.zero_add]
    rw [puts_congr (L := fun j => L.getD j false) (L' := fun _ => true) (v := v) (v' := v) hs 0 a0 (fun j _ h2 => ⟨hall j (by omega), fun _ => rfl⟩)]
    refine wpAny_of_seq tl hs.length L _ w (fun j => by simp [List.getElem?_append_right]) (by rw [hL]; exact hseq) ?_
    refine hend v w ?_
    have e : (fun j => L.getD j false) = fun j => decide (j < hs.length) := by
      funext j
      by_cases hj : j < hs.length
      · rw [hall j hj]; simp [hj]
      · rw [htl j (by omega)]; simp [hj]
    rwa [e] at hJ
  | succ m ih =>
    intro L v w hsize hcl htl hm hJ
    have hex : ∃ u, u < hs.length ∧ L.getD u false = false ∧ ∀ j, j < u → L.getD j false = true := by
      have hne : ((List.range hs.length).filter fun i => !L.getD i false) ≠ [] := by intro h; rw [h] at hm; simp at hm
      have hx : ∃ u, u < hs.length ∧ L.getD u false = false := by
        obtain ⟨u, hu⟩ := List.exists_mem_of_ne_nil _ hne
        simp only [List.mem_filter, List.mem_range, Bool.not_eq_true'] at hu
        exact ⟨u, hu⟩
      obtain ⟨u, hu1, hu2⟩ := hx
      induction u using Nat.strongRecOn with
      | ind u ihu =>
        by_cases hc : ∃ j, j < u ∧ L.getD j false = false
        · obtain ⟨j, hj1, hj2⟩ := hc
          exact ihu j hj1 (by omega) hj2
        · exact ⟨u, hu1, hu2, fun j hj => by
            cases hb : L.getD j false with
            | true => rfl
            | false => exact absurd ⟨j, hj, hb⟩ hc⟩
    obtain ⟨u, hu1, hu2, hu3⟩ := hex
    have flip : ∀ i, i < L.size → L.getD i true = L.getD i false := fun i hi => by simp [Array.getElem?_eq_getElem hi]
    rw [show m + 1 + tl.length = (m + tl.length) + 1 by omega]
    refine ⟨fun hr => ?_, fun i hi => ?_⟩
    · exfalso
      have hmem : u ∈ Region.ready .any (hs ++ tl).toArray L := by
        unfold Region.ready
        simp only [List.mem_filter, List.mem_range, Bool.and_eq_true, Bool.not_eq_true']
        refine ⟨by simp; omega, by rw [flip u (by omega)]; exact hu2, ?_⟩
        have hb := List.all_eq_true.1 hback u (List.mem_range.2 hu1)
        cases ho : (hs ++ tl).toArray[u]? with
        | none => rw [ho] at hb; simp at hb
        | some o =>
          rw [ho] at hb
          simp only [Option.map_some, Option.getD_some, Array.all_eq_true_iff_forall_mem] at hb ⊢
          intro e he
          have := hb e he
          simp only [Bool.or_eq_true, Bool.not_eq_true', decide_eq_true_eq] at this ⊢
          rcases this with h | h
          · exact .inl h
          · exact .inr (hu3 _ h)
      rw [hr] at hmem
      cases hmem
    · obtain ⟨hi1, hi2, hdeps⟩ := ready_spec hi
      have hisz : i < L.size := by rw [hsize]; simpa using hi1
      have hin : i < hs.length := by
        rcases Nat.lt_or_ge i hs.length with h | h
        · exact h
        · exfalso
          have h1 := List.all_eq_true.1 htail (i - hs.length) (List.mem_range.2 (by rw [hsize] at hisz; omega))
          have h2 := List.all_eq_true.1 h1 u (List.mem_range.2 hu1)
          rw [show hs.length + (i - hs.length) = i by omega] at h2
          rw [anc_listed (L := fun j => L.getD j false) hcl 24 i u hdeps h2] at hu2
          cases hu2
      have hLi : L.getD i false = false := by rw [← flip i hisz]; exact hi2
      have hoi : hs[i]? = some hs[i] := List.getElem?_eq_getElem hin
      have hops : (hs ++ tl).toArray[i]? = some hs[i] := by simp [List.getElem?_append_left hin]
      unfold wpOp
      rw [hops]
      have hboth := hop i hs[i] hoi (fun j => L.getD j false) (putsFrom (fun j => L.getD j false) v hs 0 a0) v w hJ hLi hdeps hcl (fun j oj d hj hoj hdj => ?c2) (fun s hsn => puts_out s hs 0 a0 hsn) (puts_same hs 0 a0)
      simp only [hboth.1, if_true]
      refine .inl (Oper.wp_mono ?_ hboth.2)
      · rintro a' w' ⟨x, rfl, hJ'⟩
        have hLn : ∀ j, j ≠ i → (L.setIfInBounds i true).getD j false = L.getD j false := fun j hj => by
          simp [Array.getElem?_setIfInBounds_ne (Ne.symm hj)]
        have hLs : (L.setIfInBounds i true).getD i false = true := by simp [hisz]
        have hput := puts_set (L := fun j => L.getD j false) (L' := fun j => (L.setIfInBounds i true).getD j false) (v := v) (v' := fun j => if j = i then x else v j) (i := i) hLi hLs
          (fun j hj => ⟨hLn j hj, if_neg hj⟩) hs 0 a0 hs[i] hd (Nat.zero_le _) (by simp [hoi])
        simp only [if_true] at hput
        rw [← hput]
        have hLk : ∀ j, L.getD j false = true → (L.setIfInBounds i true).getD j false = true := fun j hj => by
          by_cases hji : j = i
          · subst hji; exact hLs
          · rw [hLn j hji]; exact hj
        refine ih (L.setIfInBounds i true) _ w' (by simp [hsize]) (fun i' j hi' hj' => by
          by_cases hii : i' = i
          · subst hii; exact hLk j (hdeps j hj')
          · rw [hLn i' hii] at hi'; exact hLk j (hcl i' j hi' hj')) (fun t ht => by rw [hLn t (by omega)]; exact htl t ht) ?_ ?_
        · have hfil : ((List.range hs.length).filter fun j => !(L.setIfInBounds i true).getD j false) = ((List.range hs.length).filter fun j => !L.getD j false).filter fun j => j != i := by
            rw [List.filter_filter]
            apply List.filter_congr
            intro j _
            by_cases hj : j = i
            · subst hj; simp [hisz]
            · rw [hLn j hj]; simp [hj]
          have hnd : ((List.range hs.length).filter fun j => !L.getD j false).Nodup := List.Nodup.sublist List.filter_sublist List.nodup_range
          have hmem : i ∈ (List.range hs.length).filter fun j => !L.getD j false := by
            rw [List.mem_filter]
            exact ⟨List.mem_range.2 hin, by rw [hLi]; rfl⟩
          rw [hfil, ← List.Nodup.erase_eq_filter hnd i, List.length_erase_of_mem hmem, hm]
          rfl
        · have e : (fun j => (L.setIfInBounds i true).getD j false) = setB (fun j => L.getD j false) i := by
            funext j
            unfold setB
            by_cases hji : j = i
            · subst hji; rw [hLs]; simp
            · rw [hLn j hji, if_neg hji]
          rw [e]
          exact hJ'
      case c2 =>
        exact puts_in (L := fun j => L.getD j false) hj d hs 0 a0 oj hd (Nat.zero_le _) (by simpa using hoj) hdj (hsz oj (List.mem_of_getElem? hoj) d hdj)
theorem region_J {id : Nat} {w : World} (hm : P.follows .mixedOrders = true) (hB : headsG (hs ++ tl).toArray hs tl.length = true) (hsz : ∀ o ∈ hs, ∀ d, o.dst = some d → d < a0.tmps.size)
    (h0 : ∀ v, J (fun _ => false) v w.drew)
    (hop : ∀ i o, hs[i]? = some o → ∀ (D : Nat → Bool) (a : Act) (v : Nat → Value) (w : World), J D v w → D i = false → (∀ j, Region.waitsFor .any (hs ++ tl).toArray i j = true → D j = true) → (∀ i j, D i = true → Region.waitsFor .any (hs ++ tl).toArray i j = true → D j = true) →
      (∀ j oj d, D j = true → hs[j]? = some oj → oj.dst = some d → a.tmps.getD d undef = v j) → (∀ s, (∀ oj ∈ hs, oj.dst ≠ some s) → a.tmps.getD s undef = a0.tmps.getD s undef) → (a.tmps.size = a0.tmps.size ∧ a.defers = a0.defers) →
      Region.wanted o (yielded (hs ++ tl).toArray a.tmps) = true ∧ o.wp P a w (fun a' w' => ∃ x, a' = a.put o.dst x ∧ J (setB D i) (setV v i x) w') Q)
    (hend : ∀ v w, J (fun j => decide (j < hs.length)) v w → wpList P (hs ++ tl).toArray Q tl (putsFrom (fun _ => true) v hs 0 a0) w) :
    (Code.region id (hs ++ tl).toArray true).wp P Q a0 w := by
  refine wp_region_any hm ?_
  have hrep : ∀ j, (Array.replicate (hs ++ tl).toArray.size false).getD j false = false := fun j => by
    simp only [Array.getD_eq_getD_getElem?, Array.getElem?_replicate]
    split <;> rfl
  have hfl : ((List.range hs.length).filter fun i => !(Array.replicate (hs ++ tl).toArray.size false).getD i false).length = hs.length := by
    rw [List.filter_eq_self.2 (fun i _ => by rw [hrep]; rfl), List.length_range]
  have := wpAny_J (Q := Q) hs tl J a0 hB hsz hop hend hs.length (Array.replicate (hs ++ tl).toArray.size false) (fun _ => undef) w.drew (by simp) (fun i j hi _ => by rw [hrep] at hi; cases hi) (fun t _ => hrep t) hfl (by rw [show (fun j => (Array.replicate (hs ++ tl).toArray.size false).getD j false) = fun _ => false from funext hrep]; exact h0 _)
  have hp : putsFrom (fun j => (Array.replicate (hs ++ tl).toArray.size false).getD j false) (fun _ => undef) hs 0 a0 = a0 := by
    have : ∀ (hs' : List Oper) (k : Nat) (a : Act), putsFrom (fun _ => false) (fun _ => undef) hs' k a = a := by
      intro hs'
      induction hs' with
      | nil => intros; rfl
      | cons o r ih => intro k a; simp only [putsFrom, Bool.false_eq_true, if_false]; exact ih _ _
    rw [puts_congr (L' := fun _ => false) (v' := fun _ => undef) hs 0 a0 (fun j _ _ => ⟨hrep j, fun _ => rfl⟩)]
    exact this hs 0 a0
  rw [hp] at this
  simpa using this
end
section
variable {P : Program} {Q : Exit → Act → World → Prop} {a : Act} {n : Nat} {L : List (Nat × Value)} {l : List Oper} {w : World} {J : (Nat → Bool) → (Nat → Value) → World → Prop} {nh : Nat}
def HeadJ (P : Program) (Q : Exit → Act → World → Prop) (l : List Oper) (nh : Nat) (J : (Nat → Bool) → (Nat → Value) → World → Prop) (a : Act) (n : Nat) (i : Nat) (o : Oper) : Prop :=
  ∀ (D : Nat → Bool) (a' : Act) (v : Nat → Value) (w' : World), J D v w' → D i = false → (∀ j, Region.waitsFor .any l.toArray i j = true → D j = true) → (∀ i j, D i = true → Region.waitsFor .any l.toArray i j = true → D j = true) → Fr a' n [] →
    (∀ j oj d, D j = true → (l.take nh)[j]? = some oj → oj.dst = some d → a'.tmps.getD d undef = v j) → (∀ s, ((l.take nh).all fun oj => oj.dst != some s) = true → a'.tmps.getD s undef = a.tmps.getD s undef) →
    Region.wanted o (yielded l.toArray a'.tmps) = true ∧ o.wp P a' w' (fun a'' w'' => ∃ x, a'' = a'.put o.dst x ∧ J (setB D i) (setV v i x) w'') Q
def HeadsJ (P : Program) (Q : Exit → Act → World → Prop) (l : List Oper) (nh : Nat) (J : (Nat → Bool) → (Nat → Value) → World → Prop) (a : Act) (n : Nat) : Nat → List Oper → Prop
  | _, [] => True
  | i, o :: os => HeadJ P Q l nh J a n i o ∧ HeadsJ P Q l nh J a n (i + 1) os
theorem headsJ_get : ∀ (os : List Oper) (k : Nat), HeadsJ P Q l nh J a n k os → ∀ i o, os[i]? = some o → HeadJ P Q l nh J a n (k + i) o
  | [], _, _, i, o, h => by simp at h
  | o' :: os, k, h, 0, o, hi => by
    have : o' = o := by simpa using hi
    subst this
    exact h.1
  | o' :: os, k, h, i + 1, o, hi => by
    have := headsJ_get os (k + 1) h.2 i o (by simpa using hi)
    rwa [show k + 1 + i = k + (i + 1) by omega] at this
def hvL (v : Nat → Value) : List Oper → Nat → List (Nat × Value) → List (Nat × Value)
  | [], _, L => L
  | o :: os, k, L => hvL v os (k + 1) (match o.dst with | some d => (d, v k) :: L | none => L)
theorem puts_frV {v : Nat → Value} : ∀ (hs : List Oper) (k : Nat) (a : Act) (L : List (Nat × Value)), (hs.all fun o => match o.dst with | some d => Nat.blt d n | none => true) = true → Fr a n L → Fr (putsFrom (fun _ => true) v hs k a) n (hvL v hs k L)
  | [], _, _, _, _, F => F
  | o :: os, k, a, L, hd, F => by
    simp only [List.all_cons, Bool.and_eq_true] at hd
    simp only [putsFrom, if_true, hvL]
    refine puts_frV os (k + 1) _ _ hd.2 ?_
    cases ho : o.dst with
    | none => exact F
    | some d =>
      rw [ho] at hd
      exact F.put hd.1
theorem rg_J {id : Nat} (F : Fr a n L) (nh : Nat) (J : (Nat → Bool) → (Nat → Value) → World → Prop) (h0 : ∀ v, J (fun _ => false) v w.drew) (hm : P.follows .mixedOrders = true) (hB : headsG l.toArray (l.take nh) (l.drop nh).length = true)
    (hsz : ((l.take nh).all fun o => match o.dst with | some d => Nat.blt d n | none => true) = true) (hop : HeadsJ P Q l nh J a n 0 (l.take nh))
    (hend : ∀ v a' w', J (fun j => decide (j < (l.take nh).length)) v w' → Fr a' n (hvL v (l.take nh) 0 L) → wpList P l.toArray Q (l.drop nh) a' w') : (Code.region id l.toArray true).wp P Q a w := by
  have e : l.toArray = (l.take nh ++ l.drop nh).toArray := by rw [List.take_append_drop]
  have hop' := headsJ_get (l.take nh) 0 hop
  rw [e] at hB hend ⊢
  refine region_J (l.take nh) (l.drop nh) J a hm hB ?_ h0 ?_ (fun v w' hj => hend v _ w' hj (puts_frV _ 0 a L hsz F))
  · intro o ho d hd
    have := List.all_eq_true.1 hsz o ho
    rw [hd] at this
    have hlt : d < n := Nat.le_of_ble_eq_true this
    rw [F.size]; exact hlt
  · intro i o hi D a' v w' h1 h2 h3 h4 h5 h6 h7
    rw [← e] at h3 h4 ⊢
    have := hop' i o hi
    rw [Nat.zero_add] at this
    refine this D a' v w' h1 h2 h3 h4 ⟨by rw [h7.1, F.size], by rw [h7.2, F.defers], fun h => by cases h⟩ h5 (fun s hs => h6 s (fun oj hoj he => ?_))
    have := List.all_eq_true.1 hs oj hoj
    simp [he] at this
theorem keepP {D : Nat → Bool} {v : Nat → Value} {i j : Nat} {x c : Value} (hne : Nat.beq j i = false) (h : D j = true → v j = c) : setB D i j = true → setV v i x j = c := by
  have : j ≠ i := fun e => by subst e; simp at hne
  unfold setB setV
  rw [if_neg this, if_neg this]
  exact h
theorem newP {v : Nat → Value} {i : Nat} {x : Value} {D : Nat → Bool} : setB D i i = true → setV v i x i = x := fun _ => by simp [setV]
def Vals (D : Nat → Bool) (v : Nat → Value) (l : List (Nat × Value)) : Prop := ∀ i u, look l i = some u → D i = true → v i = u
theorem Vals.start {v : Nat → Value} {l : List (Nat × Value)} : Vals (fun _ => false) v l := fun _ _ _ h => by cases h
theorem Vals.get {D : Nat → Bool} {v : Nat → Value} {l : List (Nat × Value)} (h : Vals D v l) {i : Nat} {u : Value} (hl : look l i = some u) (hd : D i = true) : v i = u := h i u hl hd
theorem Vals.put {D : Nat → Bool} {v : Nat → Value} {l : List (Nat × Value)} (h : Vals D v l) {i : Nat} {x : Value} (hl : look l i = some x) : Vals (setB D i) (setV v i x) l := fun j u hu hd => by
  unfold setB at hd
  unfold setV
  by_cases e : j = i
  · subst e; rw [if_pos rfl]; rw [hl] at hu; injection hu
  · rw [if_neg e] at hd ⊢; exact h j u hu hd
theorem Vals.new {D : Nat → Bool} {v : Nat → Value} {l : List (Nat × Value)} (h : Vals D v l) {i : Nat} {x : Value} (hl : look l i = none) : Vals (setB D i) (setV v i x) l := fun j u hu hd => by
  unfold setB at hd
  unfold setV
  by_cases e : j = i
  · subst e; rw [hl] at hu; cases hu
  · rw [if_neg e] at hd ⊢; exact h j u hu hd
theorem ow_run {o : Oper} {x : Value} {w w' : World} {K : Act → World → Prop} (hr : (execOp a.eval o).run P w = .ok (.value x) w') (h : K (a.put o.dst x) w') : o.wp P a w K Q := by
  unfold Oper.wp; rw [hr]; exact h
theorem notYet {D : Nat → Bool} {i j : Nat} {ops : Array Oper} (hcl : ∀ i j, D i = true → Region.waitsFor .any ops i j = true → D j = true) (hw : Region.waitsFor .any ops j i = true) (hi : D i = false) : D j = false := by
  cases h : D j
  · rfl
  · have := hcl j i h hw
    rw [hi] at this
    cases this
theorem Mm.dead {R : List Nat} {w0 w : World} {B : List Ent} (M : Mm R w0 w B) : Mm R w0 w (.arg 1 (.slice none 0 0) 0 [] :: B) :=
  M.add (Below.refl _ _) (x := .arg 1 (.slice none 0 0) 0 []) ⟨rfl, none, 0, rfl, Nat.le_refl _, Nat.zero_le _, fun h => absurd h (by omega)⟩ (fun g hg => by cases hg) (fun g hg => by cases hg)
theorem Mm.fresh {R : List Nat} {w0 w : World} {B : List Ent} (M : Mm R w0 w B) {i m k : Nat} {e : TypeId} {m' : Nat} {u : Value} {n' : Nat} {ys : List Value} (hi : B[i]? = some (.arg m' u n' ys)) {cs : Array Value} (hk : k ≤ 1000000) (hc : cs.size = k * m) :
    Mm R w0 (w.alloc (.cells cs e)) (B.set i (.row e m (.slice (some ⟨w.heap.size, 0, none⟩) k k) k cs.toList)) :=
  M.swap hi (x' := .row e m (.slice (some ⟨w.heap.size, 0, none⟩) k k) k cs.toList) (Below.out (bel1 _ _) _) (World.ownsRow_lit w cs k (Nat.zero_le _) (by unfold maxLen; omega) hc) (fun g hg => by simp only [Ent.fp, Value.ownBlock, Option.toList_some, List.mem_singleton] at hg; exact .inr (by omega)) (fun g hg => by cases hg)
theorem Mm.freshRow {R : List Nat} {w0 w w' : World} {B : List Ent} (M : Mm R w0 w B) {i m k : Nat} {t : TypeId} {m' : Nat} {u x : Value} {n' : Nat} {ys xs : List Value} (hi : B[i]? = some (.arg m' u n' ys)) (hb : Below w.heap.size w w') (h : w'.ownsRow w.heap.size t m x k xs) :
    Mm R w0 w' (B.set i (.row t m x k xs)) := by
  exact M.swap hi (x' := .row t m x k xs) (Below.out hb _) (own_zero h) (fun g hg => .inr (World.ownsRow.lt h g (by simpa [Ent.fp] using hg)).1) (fun g hg => by cases hg)
theorem Mm.freshOwn {R : List Nat} {w0 w w' : World} {B : List Ent} (M : Mm R w0 w B) {i : Nat} {m' : Nat} {u : Value} {n' : Nat} {ys : List Value} {fp : List Nat} {Φ : World → Prop} (hi : B[i]? = some (.arg m' u n' ys)) (hb : Below w.heap.size w w') (h : Φ w') (hl : Loc fp Φ) (hf : ∀ g ∈ fp, w.heap.size ≤ g) :
    Mm R w0 w' (B.set i (.own fp Φ)) :=
  M.swap hi (x' := .own fp Φ) (Below.out hb _) ⟨h, hl⟩ (fun g hg => .inr (hf g hg)) (fun g hg => by cases hg)
theorem ow_callZ {o : Oper} {w : World} {K : Act → World → Prop} {f : FuncId} {xs : List Operand} {ts : Array TypeId} {args : List Value} {Z : Value → World → Prop} (ho : o.op = .call { callee := .value (.func f), args := xs.toArray, argTypes := ts })
    (he : enters P f = true) (ha : xs.map a.eval = args) (hc : Calls P f args.toArray w fun e w' => ∃ v, e = .returned v ∧ Z v w') (h : ∀ v w', Z v w' → K (a.put o.dst v) w') : o.wp P a w K Q := by
  unfold Oper.wp
  rw [run_enter he ho w, List.map_toArray, ha]
  refine hc.mono fun e w' ⟨v, h1, h2⟩ => ?_
  subst h1
  exact h _ _ h2
theorem ow_app {o : Oper} {R : List Nat} {w0 w : World} {B : List Ent} {K : Act → World → Prop} {x y : Operand} {v u : Value} {t e : TypeId} {m k i c : Nat} {xs news : List Value} (M : Mm R w0 w B) (ho : o.op = .call { callee := .builtin .append, args := #[x, y], argTypes := #[t, t] }) (ht : P.underlying t = some (.slice e)) {bytes : Nat} (hE : ElTy P e m bytes)
    (hx : a.eval x = v) (hi : B[i]? = some (.row e m v k xs)) (hy : a.eval y = u) (hu : RdV w m u c news) (h1 : ∀ z ∈ news, z.oneCell' = true) (hmax : k + c ≤ 1000000000) (hby : bytes ≤ 1000)
    (h : ∀ v' w', Mm R w0 w' (B.set i (.row e m v' (k + c) (xs ++ news))) → K (a.put o.dst v') w') : o.wp P a w K Q := by
  obtain ⟨v', w', hexec, hM⟩ := app_run M ho ht hE hx hi hy hu h1 hmax hby
  unfold Oper.wp
  rw [hexec]
  exact h _ _ hM
end
end Go.Proofs.YtcnmmnhlhenifaaGreat
namespace Go.Proofs.YtcnmmnhlhenifaaGreat
open Go.RowKit Go.MapKept
set_option maxRecDepth 100000
set_option linter.unusedSimpArgs false
set_option linter.unusedVariables false
theorem nil_rd {m : Nat} (w : World) : RdV w m (.slice none 0 0) 0 [] := ⟨by simp, none, 0, rfl, Nat.le_refl _, Nat.zero_le _, fun h => absurd h (by omega)⟩
theorem slc_one {w : World} {m n : Nat} {v : Value} {xs : List Value} (h : RdV w m v n xs) : v.oneCell' = true ∧ v.cells = #[v] := by
  obtain ⟨_, A, c, rfl, _⟩ := h
  exact ⟨rfl, rfl⟩
def TurnsE (w : World) (x : Ent) (Z : Value → Ent → Prop) (e : Ending) (w' : World) : Prop :=
  ∃ (v : Value) (x' : Ent), e = .returned v ∧ Out x.fp w w' ∧ x'.at w' ∧ (∀ g ∈ x'.fp, g ∈ x.fp ∨ w.heap.size ≤ g) ∧ x'.base = [] ∧ Z v x'
def MakesE (w : World) (Z : Value → Ent → Prop) (e : Ending) (w' : World) : Prop :=
  ∃ (v : Value) (x : Ent), e = .returned v ∧ Below w.heap.size w w' ∧ x.at w' ∧ (∀ g ∈ x.fp, w.heap.size ≤ g) ∧ x.base = [] ∧ Z v x
structure MapEn (P : Program) (t k e : TypeId) {κ ν : Type} (ek : κ → Value) (ev : ν → Value) (z : Value) : Prop where
  ty : MapTy P t k e
  keys : ∃ K, KeyOK P k K ∧ ∀ a, K (ek a)
  inj : ∀ a b, ek a = ek b → a = b
  zero : ∀ w, (zeroValue e).run P w = .ok z w
section
variable {P : Program} {ops rest : List Oper} {o : Oper} {a : Act} {n d : Nat} {L : List (Nat × Value)} {Q : Exit → Act → World → Prop} {R : List Nat} {w w0 w' : World} {B B' : List Ent} {v u : Value} {x y z : Operand} {t k e : TypeId} {i g r : Nat} {fp : List Nat} {Φ Ψ : World → Prop}
theorem sq_run (F : Fr a n L) (hw : Region.wanted o (yielded ops.toArray a.tmps) = true) (hr : (execOp a.eval o).run P w = .ok (.value v) w') (hM : Mm R w0 w' B') (hd : o.dst = some d) (hdn : Nat.blt d n = true)
    (h : ∀ a' w', Fr a' n ((d, v) :: L) → Mm R w0 w' B' → wpList P ops.toArray Q rest a' w') : wpList P ops.toArray Q (o :: rest) a w :=
  wpList_step fun K hK => by
    rw [if_pos hw]
    unfold Oper.wp
    rw [hr]
    exact hK _ _ (by rw [hd]; exact h _ _ (F.put hdn) hM)
theorem sq_run0 (F : Fr a n L) (hw : Region.wanted o (yielded ops.toArray a.tmps) = true) (hr : (execOp a.eval o).run P w = .ok (.value v) w' ∨ (execOp a.eval o).run P w = .ok .skip w') (hM : Mm R w0 w' B') (hd : o.dst = none)
    (h : ∀ w', Mm R w0 w' B' → wpList P ops.toArray Q rest a w') : wpList P ops.toArray Q (o :: rest) a w :=
  wpList_step fun K hK => by
    rw [if_pos hw]
    have _ := F.size
    unfold Oper.wp
    rcases hr with hr | hr
    · rw [hr]; exact hK _ _ (by rw [hd]; exact h _ hM)
    · rw [hr]; exact hK _ _ (by rw [hd]; exact h _ hM)
theorem sq_callN2 (F : Fr a n L) (M : Mm R w0 w B) (hw : Region.wanted o (yielded ops.toArray a.tmps) = true) {f : FuncId} {xs : List Operand} {ts : Array TypeId} {args : List Value} {ty : TypeId} {m c : Nat} {cs : List Value} (fv : Value → Value) (ho : o.op = .call { callee := .value (.func f), args := xs.toArray, argTypes := ts })
    (he : enters P f = true) (ha : xs.map a.eval = args) (hc : Calls P f args.toArray w fun e w' => ∃ v, e = .returned (fv v) ∧ Below w.heap.size w w' ∧ w'.ownsRow w.heap.size ty m v c cs) (hd : o.dst = some d) (hdn : Nat.blt d n = true)
    (h : ∀ a' w' v, Fr a' n ((d, fv v) :: L) → Mm R w0 w' (.row ty m v c cs :: B) → wpList P ops.toArray Q rest a' w') : wpList P ops.toArray Q (o :: rest) a w :=
  sq_callR F hw ho he ha hc hd hdn fun e w' hR => by
    obtain ⟨v, h1, h2, h3⟩ := hR
    exact ⟨fv v, h1, fun a' F' => h a' w' v F' (M.addRow h2 h3)⟩
theorem Mm.conv (M : Mm R w0 w B) (h : B[i]? = some (.own fp Φ)) (hi : Φ w → Ψ w) (hL : Loc fp Ψ) : Mm R w0 w (B.set i (.own fp Ψ)) :=
  M.swap h (x' := .own fp Ψ) (Out.refl _ _) ⟨hi (M.pv h), hL⟩ (fun g hg => .inl hg) (fun g hg => by cases hg)
theorem Mm.apart (M : Mm R w0 w B) {j : Nat} {x y : Ent} (hi : B[i]? = some x) (hj : B[j]? = some y) (hne : i ≠ j) : ∀ g ∈ x.fp, ¬ g ∈ y.fp := by
  obtain ⟨h1, rfl⟩ := List.getElem?_eq_some_iff.1 hi
  obtain ⟨h2, rfl⟩ := List.getElem?_eq_some_iff.1 hj
  have hp := List.pairwise_iff_getElem.1 M.nd
  rcases Nat.lt_or_gt_of_ne hne with h | h
  · exact hp i j h1 h2 h
  · exact fun g hg hg' => hp j i h2 h1 h g hg' hg
theorem sq_mkMap (F : Fr a n L) (M : Mm R w0 w B) (hw : Region.wanted o (yielded ops.toArray a.tmps) = true) (ho : o.op = .makeMap t none) (hd : o.dst = some d) (hdn : Nat.blt d n = true)
    (h : ∀ a' w' g, Fr a' n ((d, .map (some g)) :: L) → Mm R w0 w' (.own [g] (MpV g []) :: B) → wpList P ops.toArray Q rest a' w') : wpList P ops.toArray Q (o :: rest) a w :=
  sq_run F hw (v := .map (some w.heap.size)) (w' := w.alloc (.map #[] 0)) (by simp only [execOp, ho]; rfl)
    (M.addOwn (w' := w.alloc (.map #[] 0)) ⟨rfl, rfl, rfl, by simp, fun i hi => heap_alloc_old w _ hi⟩ (show MpV w.heap.size [] (w.alloc (.map #[] 0)) from ⟨#[], 0, heap_alloc_new w _, stamped_empty 0, by simp⟩) (MpV.loc _ _) (fun g hg => by simp only [List.mem_singleton] at hg; omega)) hd hdn (fun a' w' F' M' => h a' w' _ F' M')
end
section
variable {P : Program} {ops rest : List Oper} {o : Oper} {a : Act} {n d : Nat} {L : List (Nat × Value)} {Q : Exit → Act → World → Prop} {R : List Nat} {w w0 w' : World} {B B' : List Ent} {u zv : Value} {x y z : Operand} {t k e : TypeId} {i g r : Nat} {κ ν : Type} [DecidableEq κ] {ek : κ → Value} {ev : ν → Value} {C C' : List (κ × ν)} {kx : κ} {vx : ν} {W : World → Prop}
theorem ld_look (E : MapEn P t k e ek ev zv) (ho : o.op = .lookup t x y false) (hx : a.eval x = .map (some g)) (hy : a.eval y = ek kx) (hm : ∀ w, W w → MpV g (encM ek ev C) w) (hu : (getM C kx).elim zv ev = u) : Rdy P o a W u := fun w hC => by
  obtain ⟨K, hK, hk⟩ := E.keys
  have hr := look_run (x := kx) hK hk E.inj E.ty (hm w hC) (E.zero w) false
  simp only [Bool.false_eq_true, if_false] at hr
  rw [hu] at hr
  simp only [execOp, ho, hx, hy]
  simp [hr]
theorem sq_mapUpd (E : MapEn P t k e ek ev zv) (F : Fr a n L) (M : Mm R w0 w B) (hw : Region.wanted o (yielded ops.toArray a.tmps) = true) (ho : o.op = .mapUpdate t x y z) (hx : a.eval x = .map (some g)) (hy : a.eval y = ek kx) (hz : a.eval z = ev vx)
    (hi : B[i]? = some (.own [g] (MpV g (encM ek ev C)))) (hC : ((kx, vx) :: delM C kx).Perm C') (hd : o.dst = none)
    (h : ∀ w', Mm R w0 w' (B.set i (.own [g] (MpV g (encM ek ev C')))) → wpList P ops.toArray Q rest a w') : wpList P ops.toArray Q (o :: rest) a w := by
  obtain ⟨K, hK, hk⟩ := E.keys
  obtain ⟨w', hr, h1, h2⟩ := update_run hK hk E.inj E.ty (M.pv hi) hC
  exact sq_run0 F hw (v := undef) (.inr (by simp only [execOp, ho, hx, hy, hz]; simp [hr])) (M.swap hi (x' := .own [g] (MpV g (encM ek ev C'))) h1 ⟨h2, MpV.loc _ _⟩ (fun g hg => .inl hg) (fun g hg => by cases hg)) hd h
theorem sq_delete (E : MapEn P t k e ek ev zv) (F : Fr a n L) (M : Mm R w0 w B) (hw : Region.wanted o (yielded ops.toArray a.tmps) = true) (ho : o.op = .call { callee := .builtin .delete, args := #[x, y], argTypes := #[t, k] }) (hx : a.eval x = .map (some g)) (hy : a.eval y = ek kx)
    (hi : B[i]? = some (.own [g] (MpV g (encM ek ev C)))) (hC : (delM C kx).Perm C') (hd : o.dst = none)
    (h : ∀ w', Mm R w0 w' (B.set i (.own [g] (MpV g (encM ek ev C')))) → wpList P ops.toArray Q rest a w') : wpList P ops.toArray Q (o :: rest) a w := by
  obtain ⟨K, hK, hk⟩ := E.keys
  obtain ⟨w', hr, h1, h2⟩ := delete_run (ty := o.type) hK hk E.inj E.ty (M.pv hi) hC
  refine sq_run0 F hw (v := .tuple #[]) (.inl ?_) (M.swap hi (x' := .own [g] (MpV g (encM ek ev C'))) h1 ⟨h2, MpV.loc _ _⟩ (fun g hg => .inl hg) (fun g hg => by cases hg)) hd h
  simp only [execOp, ho, resolve, invoke, builtin, List.map_toArray, List.map, hx, hy]
  simp [hr]
theorem sq_range {es : Array MapEntry} {clock : Nat} {l : List (Value × Value)} (hT : MapTy P t k e) (F : Fr a n L) (M : Mm R w0 w B) (hw : Region.wanted o (yielded ops.toArray a.tmps) = true) (ho : o.op = .range t x) (hx : a.eval x = .map (some g)) (hb : ObV g (.map es clock) w) (hm : MapIs es clock l) (hd : o.dst = some d) (hdn : Nat.blt d n = true)
    (h : ∀ a' w' r, r ≠ g → Fr a' n ((d, .pointer (some ⟨r, 0, none⟩)) :: L) → Mm R w0 w' (.own [r] (ItV r g es clock l) :: B) → wpList P ops.toArray Q rest a' w') : wpList P ops.toArray Q (o :: rest) a w := by
  obtain ⟨w', hr, h1, h2⟩ := range_run (P := P) hT hb hm
  have hlt := lt_of_some hb
  exact sq_run F hw (v := .pointer (some ⟨w.heap.size, 0, none⟩)) (by simp only [execOp, ho, hx]; simp [hr]) (M.addOwn h1 h2 (ItV.loc _ _ _ _ _) (fun g hg => by simp only [List.mem_singleton] at hg; omega)) hd hdn (fun a' w' F' M' => h a' w' _ (by omega) F' M')
omit [DecidableEq κ] in
theorem sq_next {es : Array MapEntry} {clock ty : Nat} {Rs : List (κ × ν)} (F : Fr a n L) (M : Mm R w0 w B) (hw : Region.wanted o (yielded ops.toArray a.tmps) = true) (ho : o.op = .next x false) (hty : o.type = ty) (hx : a.eval x = .pointer (some ⟨r, 0, none⟩)) (hb : ObV g (.map es clock) w) (hi : B[i]? = some (.own [r] (ItV r g es clock (encM ek ev Rs)))) (hne : r ≠ g) (hd : o.dst = some d) (hdn : Nat.blt d n = true)
    (h0 : Rs = [] → ∀ a', Fr a' n ((d, .tuple #[.bool false]) :: L) → wpList P ops.toArray Q rest a' w)
    (h1 : ∀ (q : κ × ν) Rs', Rs.Perm (q :: Rs') → ∀ a' w', Fr a' n ((d, .tuple #[.bool true, ek q.1, ev q.2]) :: L) → Mm R w0 w' (B.set i (.own [r] (ItN r g es clock (encM ek ev Rs') (ek q.1, ev q.2)))) → wpList P ops.toArray Q rest a' w') : wpList P ops.toArray Q (o :: rest) a w := by
  rcases next_run (P := P) (ty := o.type) hb (M.pv hi) hne with ⟨h2, hr⟩ | ⟨p, rest', w', hp, hr, h2, h3⟩
  · refine wpList_step fun K hK => ?_
    rw [if_pos hw]
    unfold Oper.wp
    rw [show (execOp a.eval o).run P w = .ok (.value (.tuple #[.bool false])) w by simp only [execOp, ho, hx]; simp [hr]]
    have hz : Rs = [] := by simpa [encM] using h2
    exact hK _ _ (by rw [hd]; exact h0 hz _ (F.put hdn))
  · have hpm : p ∈ encM ek ev Rs := hp.mem_iff.2 (by simp)
    obtain ⟨q, hq, rfl⟩ := List.mem_map.1 hpm
    obtain ⟨s1, s2, rfl⟩ := List.append_of_mem hq
    have hpe : (s1 ++ q :: s2).Perm (q :: (s1 ++ s2)) := List.perm_middle
    have h4 : rest'.Perm (encM ek ev (s1 ++ s2)) := (hp.symm.trans (show (encM ek ev (s1 ++ q :: s2)).Perm ((ek q.1, ev q.2) :: encM ek ev (s1 ++ s2)) from hpe.map (fun p : κ × ν => (ek p.1, ev p.2)))).cons_inv
    have h5 : ItN r g es clock (encM ek ev (s1 ++ s2)) (ek q.1, ev q.2) w' := by
      obtain ⟨⟨since, seen, c0, z1, z2, z3, z4, z5, z6⟩, h7⟩ := h3
      exact ⟨⟨since, seen, c0, z1, z2, z3, z4, z5, z6.trans h4⟩, h7⟩
    exact sq_run F hw (v := .tuple #[.bool true, ek q.1, ev q.2]) (by simp only [execOp, ho, hx]; simp [hr]) (M.swap hi (x' := .own [r] (ItN r g es clock (encM ek ev (s1 ++ s2)) (ek q.1, ev q.2))) h2 ⟨h5, ItN.loc _ _ _ _ _ _⟩ (fun g hg => .inl hg) (fun g hg => by cases hg)) hd hdn (fun a' w' F' M' => h1 q _ hpe a' w' F' M')
theorem ld_entry {es : Array MapEntry} {clock : Nat} {l : List (Value × Value)} {p : Value × Value} (ho : o.op = .entry x) (hx : a.eval x = .pointer (some ⟨r, 0, none⟩)) (hb : ∀ w, W w → ObV g (.map es clock) w) (hi : ∀ w, W w → ItN r g es clock l p w) : Rdy P o a W (.tuple #[p.1, p.2]) := fun w hC => by
  have hr := entry_run (P := P) (hb w hC) (hi w hC)
  simp only [execOp, ho, hx]
  simp [hr]
end
section
variable {P : Program} {k : TypeId} {κ : Type} [DecidableEq κ] {ek : κ → Value} {d : TypeDesc}
theorem keyOK_of (hd : P.underlying k = some d) (h0 : ∀ a b, Instr.sameNow d (ek a) (ek b) = none) (hc : ∀ w em a, (Instr.checkKey em 10000 k (ek a)).run P w = .ok () w) (he : ∀ w a b, (Op.equalIn 10000 k (ek a) (ek b)).run P w = .ok (decide (a = b)) w) (hs : ∀ a, Instr.sameBits 10000 (ek a) (ek a) = true) (hinj : ∀ a b, ek a = ek b → a = b) :
    KeyOK P k (fun v => ∃ a, v = ek a) := by
  refine ⟨fun w em v ⟨a, h⟩ => h ▸ hc w em a, fun w x ⟨a, hx⟩ es hes => ?_, fun w v ⟨a, h⟩ => ?_⟩
  · subst hx
    have ask : ∀ (l : List MapEntry) (i : Nat), (∀ e ∈ l, ∃ b, e.key = ek b) → ((Instr.findAsking k (ek a) l i).run P w = .ok none w ∧ ∀ e ∈ l, e.key ≠ ek a) ∨ ∃ j e, (Instr.findAsking k (ek a) l i).run P w = .ok (some (i + j, e.val)) w ∧ l[j]? = some e ∧ e.key = ek a := by
      intro l
      induction l with
      | nil => intro i _; exact .inl ⟨by simp [Instr.findAsking], by simp⟩
      | cons e l ih =>
        intro i hl
        obtain ⟨b, hb⟩ := hl e (by simp)
        have h1 := he w a b
        by_cases hab : a = b
        · subst hab
          refine .inr ⟨0, e, ?_, by simp, hb⟩
          simp [Instr.findAsking, Op.equal, Op.maxDepth, hb, h1, Result.andThen]
        · have h2 : ek b ≠ ek a := fun h => hab (hinj _ _ h).symm
          rcases ih (i + 1) (fun e' he' => hl e' (by simp [he'])) with ⟨h3, h4⟩ | ⟨j, e', h3, h4, h5⟩
          · refine .inl ⟨?_, fun e' he' => ?_⟩
            · simp [Instr.findAsking, Op.equal, Op.maxDepth, hb, h1, hab, h3, Result.andThen]
            · rcases List.mem_cons.1 he' with h6 | h6
              · rw [h6, hb]; exact h2
              · exact h4 e' h6
          · refine .inr ⟨j + 1, e', ?_, by simpa using h4, h5⟩
            rw [show i + (j + 1) = i + 1 + j by omega]
            simp [Instr.findAsking, Op.equal, Op.maxDepth, hb, h1, hab, h3, Result.andThen]
    cases es with
    | nil => exact .inl ⟨by simp [Instr.findKey, run_underlying hd, Instr.findNow], by simp⟩
    | cons e l =>
      obtain ⟨b, hb⟩ := hes e (by simp)
      have hn : Instr.findNow d (ek a) (e :: l) 0 = none := by simp [Instr.findNow, hb, h0]
      have hf : (Instr.findKey k (ek a) (e :: l)).run P w = (Instr.findAsking k (ek a) (e :: l) 0).run P w := by simp [Instr.findKey, run_underlying hd, hn]
      rw [hf]
      rcases ask (e :: l) 0 hes with h | ⟨j, e', h1, h2, h3⟩
      · exact .inl h
      · exact .inr ⟨j, e', by simpa using h1, h2, h3⟩
  · subst h
    simp [Instr.keyThatStays, hs]
end
end Go.Proofs.YtcnmmnhlhenifaaGreat
namespace Go.Proofs.YtcnmmnhlhenifaaGreat
open Go.RowKit
set_option maxRecDepth 100000
set_option linter.unusedSimpArgs false
set_option linter.unusedVariables false
def cL (L : List St) : Array Value := (cS L).toArray
theorem cL_size (L : List St) : (cL L).size = L.length * 2 := by simp [cL, cS_len]
theorem blk_rdS {w : World} {g t n : Nat} {L : List St} (h : Blk w g t (cL L)) (hz : L.length = n) (hn : n ≤ 1000000000) : RdV w 2 (.slice (some ⟨g, 0, none⟩) n n) n (cS L) := blk_rdv h (show (cL L).size = n * 2 by rw [cL_size, hz]) hn
theorem sub_rv {w : World} {v : Value} {n k : Nat} {L : List St} (h : RdV w 2 v n (cS L)) (hz : L.length = n) (hk : k ≤ n) : RdV w 2 (subS 2 k n v) (n - k) (cS (L.drop k)) := by
  have := sub_rdv h hk (Nat.le_refl n)
  rw [cS_drop, show (n - k) * 2 = (L.drop k).length * 2 by rw [List.length_drop, hz], cS_take, List.take_length] at this
  exact this
theorem atS_drop {L : List St} {k i : Nat} : atS (L.drop k) i = atS L (k + i) := by
  unfold atS; simp [List.getD_eq_getElem?_getD]
section
variable {P : Program} {o : Oper} {a : Act} {x y : Operand} {v : Value} {t : TypeId}
theorem pu_iface (ho : o.op = .makeInterface t x) (hx : a.eval x = v) (hT : ∃ d, P.underlying t = some d ∧ (match d with | .interface _ => true | _ => false) = false) : Pure P o a (.iface t v) := fun w => by
  obtain ⟨d, hu, hd⟩ := hT
  simp only [execOp, ho, hx]
  cases d <;> simp_all [Instr.makeInterface, run_underlying hu]
theorem pu_func {f : Nat} {cs : List Operand} {vs : List Value} (ho : o.op = .makeFunc (.func f) #[] cs.toArray) (hc : cs.map a.eval = vs) : Pure P o a (.func (.func f) #[] vs.toArray) := fun w => by
  simp only [execOp, ho, List.map_toArray, hc]
  simp [Instr.makeFunc]
end
section
variable {P : Program} {ops rest : List Oper} {o : Oper} {a : Act} {n d : Nat} {L : List (Nat × Value)} {Q : Exit → Act → World → Prop} {R : List Nat} {w w0 : World} {B : List Ent} {v u : Value} {x y : Operand} {t e ty : TypeId} {i g k m : Nat} {K K' : List St}
theorem sq_make (F : Fr a n L) (M : Mm R w0 w B) (hw : Region.wanted o (yielded ops.toArray a.tmps) = true) {kc kl : IntKind} (ho : o.op = .makeSlice t x y) (hx : a.eval x = .int kl ((k : Nat) : Int)) (hy : a.eval y = .int kc ((k : Nat) : Int)) (ht : P.underlying t = some (.slice e)) {bytes : Nat} (hE : ElTy P e m bytes)
    (hk : k ≤ 20000000) (hby : bytes ≤ 1000) (hd : o.dst = some d) (hdn : Nat.blt d n = true)
    (h : ∀ a' w' g cs, cs.size = k * m → Fr a' n ((d, .slice (some ⟨g, 0, none⟩) k k) :: L) → Mm R w0 w' (.blk g e cs :: B) → wpList P ops.toArray Q rest a' w') : wpList P ops.toArray Q (o :: rest) a w :=
  wpList_step fun K hK => by
    rw [if_pos hw]
    obtain ⟨hm, z, hz, hinf⟩ := hE
    cases hq : P.info? e with
    | none => simp [hq] at hinf
    | some inf =>
      simp only [hq, Option.map_some, Option.some.injEq, Prod.mk.injEq] at hinf
      have hb' : (inf.bytes : Int) * (k : Int) ≤ 281474976710656 := by
        have h1 := Nat.mul_le_mul (hinf.2.2 ▸ hby : inf.bytes ≤ 1000) hk
        have : ((inf.bytes * k : Nat) : Int) ≤ 281474976710656 := by omega
        rwa [Int.natCast_mul] at this
      have hcell : k * inf.size ≤ k * inf.size := Nat.le_refl _
      have hr := run_make (P := P) w t e inf z ht hq hinf.1 kl kc (k : Int) (k : Int) (by omega) (Int.le_refl _) hb' (by omega)
      simp only [Int.toNat_natCast] at hr
      have hexec : (execOp a.eval o).run P w = .ok (.value (.slice (some ⟨w.heap.size, 0, none⟩) k k)) (w.alloc (.cells (madeCells z.cells (k * inf.size)) e)) := by
        simp only [execOp, ho, hx, hy]
        simp only [Sem.run_bind, hr, Result.andThen_ok, Sem.run_pure]
      unfold Oper.wp
      rw [hexec]
      refine hK _ _ ?_
      rw [hd]
      exact h _ _ _ _ (by simp [madeCells, hinf.2.1]) (F.put hdn) (M.alloc e _)
end
end Go.Proofs.YtcnmmnhlhenifaaGreat
namespace Go.Proofs.YtcnmmnhlhenifaaGreat
open Go.RowKit
set_option maxRecDepth 100000
set_option linter.unusedSimpArgs false
set_option linter.unusedVariables false
def encB : Enc Bool := ⟨1, fun b => [.bool b], false, fun _ => rfl, fun a v h => by
  simp only [List.mem_cons, List.not_mem_nil, or_false] at h; subst h; rfl⟩
def cB (L : List Bool) : List Value := cE encB L
def atB (L : List Bool) (i : Nat) : Bool := atE encB L i
theorem cB_len (L : List Bool) : (cB L).length = L.length := by unfold cB; rw [cE_len]; show L.length * 1 = _; omega
theorem atB_set {L : List Bool} {i j : Nat} {b : Bool} (h : i < L.length) : atB (L.set i b) j = if i = j then b else atB L j := by
  unfold atB atE
  rw [List.getD_eq_getElem?_getD, List.getD_eq_getElem?_getD, List.getElem?_set]
  split
  · rename_i e; subst e; simp [h]
  · rfl
abbrev nilV : Value := .slice none 0 0
def cV (L : List Value) : List Value := L
def atV (L : List Value) (i : Nat) : Value := L.getD i nilV
theorem atV_eq {L : List Value} {i : Nat} (h : i < L.length) : atV L i = L[i] := by unfold atV; rw [List.getD_eq_getElem?_getD, List.getElem?_eq_getElem h]; rfl
theorem cV_at {L : List Value} {i : Nat} (h : i < L.length) : (cV L)[i * 1]? = some (atV L i) := by rw [Nat.mul_one, atV_eq h]; exact List.getElem?_eq_getElem h
theorem atV_set {L : List Value} {i j : Nat} {b : Value} (h : i < L.length) : atV (L.set i b) j = if i = j then b else atV L j := by
  unfold atV
  rw [List.getD_eq_getElem?_getD, List.getD_eq_getElem?_getD, List.getElem?_set]
  split
  · rename_i e; subst e; simp [h]
  · rfl
def atR (L : List (List St)) (i : Nat) : List St := L.getD i []
theorem atR_set {L : List (List St)} {i j : Nat} {b : List St} (h : i < L.length) : atR (L.set i b) j = if i = j then b else atR L j := by
  unfold atR
  rw [List.getD_eq_getElem?_getD, List.getD_eq_getElem?_getD, List.getElem?_set]
  split
  · rename_i e; subst e; simp [h]
  · rfl
def tfst : Value → Value
  | .tuple a => a.getD 0 nilV
  | _ => nilV
theorem made_one (z : Value) (n : Nat) (h : z.cells = #[z]) : madeCells z.cells (n * 1) = (List.replicate n z).toArray := by
  unfold madeCells
  rw [h, Nat.mul_one]
  apply Array.ext
  · simp
  · intro i h1 h2
    simp [Nat.mod_one]
section
variable {P : Program} {ops rest : List Oper} {o : Oper} {a : Act} {n d : Nat} {L : List (Nat × Value)} {Q : Exit → Act → World → Prop} {R : List Nat} {w w0 : World} {B : List Ent} {v u z : Value} {x y : Operand} {t e ty : TypeId} {i j g k m : Nat} {N : Int} {cs : List Value}
theorem sq_make1 (F : Fr a n L) (M : Mm R w0 w B) (hw : Region.wanted o (yielded ops.toArray a.tmps) = true) {kc kl : IntKind} (ho : o.op = .makeSlice t x y) (hx : a.eval x = .int kl N) (hy : a.eval y = .int kc N) (ht : P.underlying t = some (.slice e)) (z : Value) (hz : z.cells = #[z]) {bytes : Nat} (hE : (P.info? e).map (fun i => (i.zero, i.size, i.bytes)) = some (some z, 1, bytes))
    (h0 : 0 ≤ N) (hk : N ≤ 1000000) (hby : bytes ≤ 1000) (hd : o.dst = some d) (hdn : Nat.blt d n = true)
    (h : ∀ a' w' g, Fr a' n ((d, .slice (some ⟨g, 0, none⟩) N.toNat N.toNat) :: L) → Mm R w0 w' (.blk g e (List.toArray (List.replicate N.toNat z)) :: B) → wpList P ops.toArray Q rest a' w') : wpList P ops.toArray Q (o :: rest) a w := by
  cases hq : P.info? e with
  | none => simp [hq] at hE
  | some inf =>
    simp only [hq, Option.map_some, Option.some.injEq, Prod.mk.injEq] at hE
    have hb' : (inf.bytes : Int) * N ≤ 281474976710656 := by
      have h1 : (inf.bytes : Int) ≤ 1000 := by rw [hE.2.2]; omega
      have h2 : (inf.bytes : Int) * N ≤ 1000 * 1000000 := Int.mul_le_mul h1 hk h0 (by omega)
      omega
    have hr := run_make (P := P) w t e inf z ht hq hE.1 kl kc N N h0 (Int.le_refl _) hb' (by omega)
    rw [hE.2.1, made_one z _ hz] at hr
    exact sq_run F hw (v := .slice (some ⟨w.heap.size, 0, none⟩) N.toNat N.toNat) (by simp only [execOp, ho, hx, hy, Sem.run_bind, hr, Result.andThen_ok, Sem.run_pure]) (M.alloc e _) hd hdn (fun a' w' F' M' => h a' w' _ F' M')
theorem sq_st1 (F : Fr a n L) (M : Mm R w0 w B) (hw : Region.wanted o (yielded ops.toArray a.tmps) = true) (ho : o.op = .store ty x y) (hx : a.eval x = .pointer (some ⟨g, 0 + j * 1, none⟩)) (hy : a.eval y = v)
    (hi : B[i]? = some (.blk g t (List.toArray cs))) (hj : j < cs.length) (hT : (P.info? ty).map (·.size) = some 1) (h1 : v.oneCell' = true) (hv : v.cells = #[v]) (hd : o.dst = none)
    (h : ∀ w', Mm R w0 w' (B.set i (.blk g t (List.toArray (cs.set j v)))) → wpList P ops.toArray Q rest a w') : wpList P ops.toArray Q (o :: rest) a w :=
  sq_stC F M hw ho hx hy hi (by simp; omega) hT h1 hv hd (fun w' M' => h w' (by
    have e1 : (List.toArray cs).setIfInBounds (0 + j * 1) v = List.toArray (cs.set j v) := by simp
    rwa [e1] at M'))
end
def fpR (vs : List Value) : List Nat := vs.flatMap fun v => v.ownBlock.toList
structure RowsV (ty : TypeId) (vs : List Value) (L : List (List St)) (w : World) : Prop where
  len : vs.length = L.length
  row : ∀ j, j < vs.length → w.ownsRow 0 ty 2 (atV vs j) (atR L j).length (cS (atR L j))
  nd : (fpR vs).Nodup
theorem mem_fpR {vs : List Value} {g : Nat} : g ∈ fpR vs ↔ ∃ j, j < vs.length ∧ (atV vs j).ownBlock = some g := by
  unfold fpR
  rw [List.mem_flatMap]
  constructor
  · rintro ⟨v, hv, hg⟩
    obtain ⟨j, hj, rfl⟩ := List.mem_iff_getElem.1 hv
    exact ⟨j, hj, by rw [atV_eq hj]; simpa using hg⟩
  · rintro ⟨j, hj, hg⟩
    exact ⟨vs[j], List.getElem_mem hj, by rw [← atV_eq hj, hg]; simp⟩
theorem RowsV.loc (ty : TypeId) (vs : List Value) (L : List (List St)) : Loc (fpR vs) (RowsV ty vs L) := fun w w' hk h => by
  refine ⟨⟨h.len, fun j hj => ?_, h.nd⟩, fun g hg => ?_⟩
  · have hr := h.row j hj
    refine ⟨hr.1, ?_⟩
    rcases hr.2 with h4 | ⟨g, cap, cur, h4, h5, h6, h7⟩
    · exact .inl h4
    · exact .inr ⟨g, cap, cur, h4, h5, (hk g (mem_fpR.2 ⟨j, hj, by rw [h4]; rfl⟩)).trans h6, h7⟩
  · obtain ⟨j, hj, hg⟩ := mem_fpR.1 hg
    exact (World.ownsRow.lt (h.row j hj) g hg).2
theorem RowsV.rd {ty : TypeId} {vs : List Value} {L : List (List St)} {w : World} (h : RowsV ty vs L w) {j : Nat} (hj : j < vs.length) : RdS w (atV vs j) (atR L j) := own_rdv (h.row j hj)
theorem nodup_one {vs : List Value} (h : (fpR vs).Nodup) {i j g : Nat} (hi : i < vs.length) (hj : j < vs.length) (gi : (atV vs i).ownBlock = some g) (gj : (atV vs j).ownBlock = some g) : i = j := by
  induction vs generalizing i j with
  | nil => simp at hi
  | cons v r ih =>
    have h' : (v.ownBlock.toList ++ fpR r).Nodup := h
    obtain ⟨_, h2, h3⟩ := List.nodup_append.1 h'
    cases i with
    | zero =>
      cases j with
      | zero => rfl
      | succ j =>
        exfalso
        have a1 : v.ownBlock = some g := gi
        have a2 : g ∈ fpR r := mem_fpR.2 ⟨j, by simpa using hj, gj⟩
        exact h3 g (by rw [a1]; simp) g a2 rfl
    | succ i =>
      cases j with
      | zero =>
        exfalso
        have a1 : v.ownBlock = some g := gj
        have a2 : g ∈ fpR r := mem_fpR.2 ⟨i, by simpa using hi, gi⟩
        exact h3 g (by rw [a1]; simp) g a2 rfl
      | succ j => rw [ih h2 (by simpa using hi) (by simpa using hj) gi gj]
theorem nodup_set {vs : List Value} {v : Value} {j : Nat} (h : (fpR vs).Nodup) (hn : ∀ g, v.ownBlock = some g → ∀ k, k < vs.length → k ≠ j → (atV vs k).ownBlock ≠ some g) : (fpR (vs.set j v)).Nodup := by
  induction vs generalizing j with
  | nil => exact h
  | cons u r ih =>
    have h' : (u.ownBlock.toList ++ fpR r).Nodup := h
    obtain ⟨h1, h2, h3⟩ := List.nodup_append.1 h'
    cases j with
    | zero =>
      show (v.ownBlock.toList ++ fpR r).Nodup
      refine List.nodup_append.2 ⟨by cases v.ownBlock <;> simp, h2, fun g hg g' hg' e => ?_⟩
      subst e
      obtain ⟨k, hk, hkg⟩ := mem_fpR.1 hg'
      exact hn g (by simpa using hg) (k + 1) (by simpa using hk) (by omega) hkg
    | succ j =>
      show (u.ownBlock.toList ++ fpR (r.set j v)).Nodup
      have ih' := ih (j := j) h2 (fun g hg k hk hne => hn g hg (k + 1) (by simpa using hk) (by omega))
      refine List.nodup_append.2 ⟨h1, ih', fun g hg g' hg' e => ?_⟩
      subst e
      obtain ⟨k, hk, hkg⟩ := mem_fpR.1 hg'
      rw [List.length_set] at hk
      by_cases hkj : j = k
      · subst hkj
        rw [atV_set hk, if_pos rfl] at hkg
        exact hn g hkg 0 (by simp) (by omega) (by show u.ownBlock = some g; simpa using hg)
      · have : (atV r k).ownBlock = some g := by
          unfold atV at hkg ⊢
          rw [List.getD_eq_getElem?_getD, List.getElem?_set, if_neg hkj, ← List.getD_eq_getElem?_getD] at hkg
          exact hkg
        exact h3 g hg g (mem_fpR.2 ⟨k, hk, this⟩) rfl
theorem rows_set {ty : TypeId} {vs : List Value} {L : List (List St)} {w : World} (h : RowsV ty vs L w) {j : Nat} (hj : j < vs.length) {v : Value} {l : List St} (hv : w.ownsRow 0 ty 2 v l.length (cS l)) (hn : ∀ g, v.ownBlock = some g → ∀ k, k < vs.length → k ≠ j → (atV vs k).ownBlock ≠ some g) : RowsV ty (vs.set j v) (L.set j l) w := by
  refine ⟨by rw [List.length_set, List.length_set, h.len], fun k hk => ?_, nodup_set h.nd hn⟩
  rw [List.length_set] at hk
  rw [atV_set hj, atR_set (by rw [← h.len]; exact hj)]
  split
  · exact hv
  · exact h.row k hk
theorem rows_rep (ty : TypeId) (n : Nat) (w : World) : RowsV ty (List.replicate n nilV) (List.replicate n []) w := by
  have ha : ∀ j, atV (List.replicate n nilV) j = nilV := fun j => by
    unfold atV; rw [List.getD_eq_getElem?_getD, List.getElem?_replicate]; split <;> rfl
  refine ⟨by simp, fun j hj => ?_, ?_⟩
  · rw [ha]
    have : atR (List.replicate n []) j = [] := by
      unfold atR; rw [List.getD_eq_getElem?_getD, List.getElem?_replicate]; split <;> rfl
    rw [this]; exact World.ownsRow_nil _ _ _ _
  · have : fpR (List.replicate n nilV) = [] := by
      unfold fpR
      rw [List.flatMap_eq_nil_iff]
      intro v hv
      rw [(List.mem_replicate.1 hv).2]; rfl
    rw [this]; exact List.nodup_nil
section
variable {R : List Nat} {w0 w : World} {B : List Ent} {i j k n : Nat} {ty : TypeId} {vs : List Value} {L : List (List St)} {v : Value} {l : List St}
theorem Mm.rowsNew (M : Mm R w0 w B) (ty : TypeId) (n : Nat) : Mm R w0 w (.own (fpR (List.replicate n nilV)) (RowsV ty (List.replicate n nilV) (List.replicate n [])) :: B) :=
  M.addOwn (Below.refl _ _) (rows_rep ty n w) (RowsV.loc _ _ _) (fun g hg => by
    obtain ⟨j, hj, hg⟩ := mem_fpR.1 hg
    have : atV (List.replicate n nilV) j = nilV := by unfold atV; rw [List.getD_eq_getElem?_getD, List.getElem?_replicate]; split <;> rfl
    rw [this] at hg; cases hg)
theorem fp_set_nil {g : Nat} (hg : g ∈ fpR (vs.set j nilV)) : g ∈ fpR vs ∧ ∃ k, k < vs.length ∧ k ≠ j ∧ (atV vs k).ownBlock = some g := by
  obtain ⟨k, hk, hkg⟩ := mem_fpR.1 hg
  rw [List.length_set] at hk
  by_cases e : j = k
  · subst e; rw [atV_set hk, if_pos rfl] at hkg; cases hkg
  · have : (atV vs k).ownBlock = some g := by
      unfold atV at hkg ⊢
      rw [List.getD_eq_getElem?_getD, List.getElem?_set, if_neg e, ← List.getD_eq_getElem?_getD] at hkg
      exact hkg
    exact ⟨mem_fpR.2 ⟨k, hk, this⟩, k, hk, fun h => e h.symm, this⟩
theorem Mm.dropRow (M : Mm R w0 w B) (h : B[i]? = some (.own (fpR vs) (RowsV ty vs L))) (hj : j < vs.length) : Mm R w0 w (B.set i (.own (fpR (vs.set j nilV)) (RowsV ty (vs.set j nilV) (L.set j [])))) :=
  M.swap h (x' := .own (fpR (vs.set j nilV)) (RowsV ty (vs.set j nilV) (L.set j []))) (Out.refl _ _) ⟨rows_set (M.pv h) hj (World.ownsRow_nil _ _ _ _) (fun g hg => by cases hg), RowsV.loc _ _ _⟩ (fun g hg => .inl (fp_set_nil hg).1) (fun g hg => by cases hg)
theorem Mm.takeRow (M : Mm R w0 w B) (h : B[i]? = some (.own (fpR vs) (RowsV ty vs L))) (hj : j < vs.length) : Mm R w0 w (.row ty 2 (atV vs j) (atR L j).length (cS (atR L j)) :: B.set i (.own (fpR (vs.set j nilV)) (RowsV ty (vs.set j nilV) (L.set j [])))) := by
  have hp := M.pv h
  have hil : i < B.length := (List.getElem?_eq_some_iff.1 h).1
  have hx : B[i] = .own (fpR vs) (RowsV ty vs L) := (List.getElem?_eq_some_iff.1 h).2
  have M1 := M.dropRow h hj
  refine ⟨M1.out, fun y hy => ?_, fun y hy g hg => ?_, fun y hy g hg => ?_, List.pairwise_cons.2 ⟨fun y hy g hg hgy => ?_, M1.nd⟩⟩
  · rcases List.mem_cons.1 hy with rfl | h1
    · exact hp.row j hj
    · exact M1.has y h1
  · rcases List.mem_cons.1 hy with rfl | h1
    · have hg' : (atV vs j).ownBlock = some g := by simpa [Ent.fp] using hg
      exact M.own _ (List.mem_of_getElem? h) g (mem_fpR.2 ⟨j, hj, hg'⟩)
    · exact M1.own y h1 g hg
  · rcases List.mem_cons.1 hy with rfl | h1
    · cases hg
    · exact M1.far y h1 g hg
  · have hg' : (atV vs j).ownBlock = some g := by simpa [Ent.fp] using hg
    obtain ⟨q, hq, rfl⟩ := List.mem_iff_getElem.1 hy
    rw [List.getElem_set] at hgy
    split at hgy
    · obtain ⟨_, k, hk, hkj, hkg⟩ := fp_set_nil hgy
      exact hkj (nodup_one hp.nd hk hj hkg hg')
    · rename_i hne
      rw [List.length_set] at hq
      have := M.apart (i := i) (j := q) h (List.getElem?_eq_getElem hq) hne g (mem_fpR.2 ⟨j, hj, hg'⟩)
      exact this hgy
theorem Mm.putRow (M : Mm R w0 w B) (h : B[i]? = some (.own (fpR vs) (RowsV ty vs L))) (hr : B[k]? = some (.row ty 2 v l.length (cS l))) (hj : j < vs.length) : Mm R w0 w ((B.set i (.own (fpR (vs.set j v)) (RowsV ty (vs.set j v) (L.set j l)))).set k (.arg 1 (.slice none 0 0) 0 [])) := by
  have hp := M.pv h
  have hil : i < B.length := (List.getElem?_eq_some_iff.1 h).1
  have hkl : k < B.length := (List.getElem?_eq_some_iff.1 hr).1
  have hik : i ≠ k := fun e => by subst e; rw [h] at hr; injection hr with hr; cases hr
  have hap := M.apart (i := k) (j := i) hr h (fun e => hik e.symm)
  have hv : ∀ g, v.ownBlock = some g → ¬ g ∈ fpR vs := fun g hg => hap g (by simp [Ent.fp, hg])
  have hset : RowsV ty (vs.set j v) (L.set j l) w := rows_set hp hj (M.ow hr) (fun g hg q hq _ hqg => hv g hg (mem_fpR.2 ⟨q, hq, hqg⟩))
  have hfp : ∀ g ∈ fpR (vs.set j v), g ∈ fpR vs ∨ v.ownBlock = some g := fun g hg => by
    obtain ⟨q, hq, hqg⟩ := mem_fpR.1 hg
    rw [List.length_set] at hq
    rw [atV_set hj] at hqg
    split at hqg
    · exact .inr hqg
    · exact .inl (mem_fpR.2 ⟨q, hq, hqg⟩)
  let B' := (B.set i (.own (fpR (vs.set j v)) (RowsV ty (vs.set j v) (L.set j l)))).set k (.arg 1 (.slice none 0 0) 0 [])
  have hget : ∀ q (hq : q < B'.length), (q = k ∧ B'[q] = .arg 1 (.slice none 0 0) 0 []) ∨ (q = i ∧ B'[q] = .own (fpR (vs.set j v)) (RowsV ty (vs.set j v) (L.set j l))) ∨ (q ≠ k ∧ q ≠ i ∧ ∃ hq' : q < B.length, B'[q] = B[q]) := fun q hq => by
    have hq' : q < B.length := by simpa [B'] using hq
    by_cases e1 : q = k
    · exact .inl ⟨e1, by simp [B', e1]⟩
    · by_cases e2 : q = i
      · refine .inr (.inl ⟨e2, ?_⟩)
        simp only [B', List.getElem_set]
        rw [if_neg (fun e => e1 e.symm), if_pos e2.symm]
      · refine .inr (.inr ⟨e1, e2, hq', ?_⟩)
        simp only [B', List.getElem_set]
        rw [if_neg (fun e => e1 e.symm), if_neg (fun e => e2 e.symm)]
  have hxi : B[i] = .own (fpR vs) (RowsV ty vs L) := (List.getElem?_eq_some_iff.1 h).2
  have hxk : B[k] = .row ty 2 v l.length (cS l) := (List.getElem?_eq_some_iff.1 hr).2
  have hpw := List.pairwise_iff_getElem.1 M.nd
  have far2 : ∀ p q (hp' : p < B.length) (hq' : q < B.length), p ≠ q → ∀ g ∈ B[p].fp, ¬ g ∈ B[q].fp := fun p q hp' hq' hne => M.apart (List.getElem?_eq_getElem hp') (List.getElem?_eq_getElem hq') hne
  have vfp : ∀ g, v.ownBlock = some g → g ∈ B[k].fp := fun g hg => by rw [hxk]; simp [Ent.fp, hg]
  refine ⟨M.out, fun y hy => ?_, fun y hy g hg => ?_, fun y hy g hg => ?_, ?_⟩
  · obtain ⟨q, hq, rfl⟩ := List.mem_iff_getElem.1 hy
    rcases hget q hq with ⟨_, e⟩ | ⟨_, e⟩ | ⟨_, _, hq', e⟩
    · rw [e]; exact ⟨rfl, none, 0, rfl, Nat.le_refl _, Nat.zero_le _, fun h => absurd h (by omega)⟩
    · rw [e]; exact ⟨hset, RowsV.loc _ _ _⟩
    · rw [e]; exact M.has _ (List.getElem_mem hq')
  · obtain ⟨q, hq, rfl⟩ := List.mem_iff_getElem.1 hy
    rcases hget q hq with ⟨_, e⟩ | ⟨_, e⟩ | ⟨_, _, hq', e⟩
    · rw [e] at hg; cases hg
    · rw [e] at hg
      rcases hfp g hg with h1 | h1
      · exact M.own _ (List.getElem_mem hil) g (by rw [hxi]; exact h1)
      · exact M.own _ (List.getElem_mem hkl) g (vfp g h1)
    · rw [e] at hg; exact M.own _ (List.getElem_mem hq') g hg
  · obtain ⟨q, hq, rfl⟩ := List.mem_iff_getElem.1 hy
    rcases hget q hq with ⟨_, e⟩ | ⟨_, e⟩ | ⟨_, _, hq', e⟩
    · rw [e] at hg; cases hg
    · rw [e] at hg; cases hg
    · rw [e] at hg; exact M.far _ (List.getElem_mem hq') g hg
  · rw [List.pairwise_iff_getElem]
    intro p q hp' hq' hlt g hg hgq
    have hpl : p < B.length := by simpa [B'] using hp'
    have hql : q < B.length := by simpa [B'] using hq'
    rcases hget p hp' with ⟨_, e⟩ | ⟨ep, e⟩ | ⟨hpk, hpi, _, e⟩
    · rw [e] at hg; cases hg
    · rw [e] at hg
      rcases hget q hq' with ⟨_, e'⟩ | ⟨eq, e'⟩ | ⟨hqk, hqi, _, e'⟩
      · rw [e'] at hgq; cases hgq
      · omega
      · rw [e'] at hgq
        rcases hfp g hg with h1 | h1
        · exact far2 i q hil hql (fun e => hqi e.symm) g (by rw [hxi]; exact h1) hgq
        · exact far2 k q hkl hql (fun e => hqk e.symm) g (vfp g h1) hgq
    · rw [e] at hg
      rcases hget q hq' with ⟨_, e'⟩ | ⟨eq, e'⟩ | ⟨hqk, hqi, _, e'⟩
      · rw [e'] at hgq; cases hgq
      · rw [e'] at hgq
        rcases hfp g hgq with h1 | h1
        · exact far2 i p hil hpl (fun e => hpi e.symm) g (by rw [hxi]; exact h1) hg
        · exact far2 k p hkl hpl (fun e => hpk e.symm) g (vfp g h1) hg
      · rw [e'] at hgq; exact far2 p q hpl hql (by omega) g hg hgq
end
end Go.Proofs.YtcnmmnhlhenifaaGreat
namespace Go.Proofs.YtcnmmnhlhenifaaGreat
open Go.RowKit
set_option maxRecDepth 100000
set_option linter.unusedSimpArgs false
set_option linter.unusedVariables false
def Asc (L : List St) : Prop := ∀ i, i + 1 < L.length → (atS L i).aheadB (atS L (i + 1)) = true
theorem mem_at {L : List St} {t : St} : t ∈ L ↔ ∃ j, j < L.length ∧ atS L j = t := ⟨at_of_mem, fun ⟨_, h1, h2⟩ => mem_of_at h1 h2⟩
theorem atS_set {L : List St} {i j : Nat} {x : St} (h : i < L.length) : atS (L.set i x) j = if i = j then x else atS L j := by
  unfold atS
  rw [List.getD_eq_getElem?_getD, List.getD_eq_getElem?_getD, List.getElem?_set]
  split
  · rename_i e; subst e; simp [h]
  · rfl
theorem atS_take {L : List St} {k j : Nat} (h : j < k) : atS (L.take k) j = atS L j := by
  unfold atS; simp [List.getD_eq_getElem?_getD, List.getElem?_take, h]
theorem atS_app {L K : List St} {j : Nat} (h : j < L.length) : atS (L ++ K) j = atS L j := by
  unfold atS; simp [List.getD_eq_getElem?_getD, List.getElem?_append_left h]
theorem ahead_trans {a b c : St} (h1 : a.aheadB b = true) (h2 : b.aheadB c = true) : a.aheadB c = true := by
  rw [St.ahead_iff] at *; omega
theorem ahead_irr {a : St} : a.aheadB a = false := by
  rw [← Bool.not_eq_true, St.ahead_iff]; omega
theorem ahead_tri {a b : St} (h1 : a.aheadB b = false) (h2 : b.aheadB a = false) : a = b := by
  rw [← Bool.not_eq_true, St.ahead_iff] at *
  rw [St.eq_iff]; omega
theorem Asc.lt {L : List St} (h : Asc L) : ∀ (d i : Nat), i + d + 1 < L.length → (atS L i).aheadB (atS L (i + d + 1)) = true := by
  intro d
  induction d with
  | zero => intro i hi; exact h i hi
  | succ d ih => intro i hi; exact ahead_trans (ih i (by omega)) (h (i + d + 1) hi)
theorem Asc.lt' {L : List St} (h : Asc L) {i j : Nat} (hij : i < j) (hj : j < L.length) : (atS L i).aheadB (atS L j) = true := by
  have := h.lt (j - i - 1) i (by omega)
  rwa [show i + (j - i - 1) + 1 = j by omega] at this
theorem Asc.tail {s : St} {L : List St} (h : Asc (s :: L)) : Asc L := fun i hi => by
  have := h (i + 1) (by simp; omega)
  simpa [atS] using this
theorem Asc.head {s : St} {L : List St} (h : Asc (s :: L)) {t : St} (ht : t ∈ L) : s.aheadB t = true := by
  obtain ⟨j, hj, rfl⟩ := mem_at.1 ht
  have := h.lt' (i := 0) (j := j + 1) (by omega) (by simpa using hj)
  simpa [atS] using this
theorem Asc.uniq : ∀ {L K : List St}, Asc L → Asc K → (∀ t, t ∈ L ↔ t ∈ K) → L = K
  | [], [], _, _, _ => rfl
  | [], k :: K, _, _, h => by have := (h k).2 (by simp); simp at this
  | l :: L, [], _, _, h => by have := (h l).1 (by simp); simp at this
  | l :: L, k :: K, hl, hk, h => by
    have e : l = k := by
      have h1 := (h l).1 (by simp)
      have h2 := (h k).2 (by simp)
      rcases List.mem_cons.1 h1 with h1 | h1
      · exact h1
      · rcases List.mem_cons.1 h2 with h2 | h2
        · exact h2.symm
        · have := ahead_trans (hk.head h1) (hl.head h2)
          rw [ahead_irr] at this; cases this
    subst e
    congr 1
    refine Asc.uniq hl.tail hk.tail fun t => ⟨fun ht => ?_, fun ht => ?_⟩
    · rcases List.mem_cons.1 ((h t).1 (by simp [ht])) with h1 | h1
      · subst h1; have := hl.head ht; rw [ahead_irr] at this; cases this
      · exact h1
    · rcases List.mem_cons.1 ((h t).2 (by simp [ht])) with h1 | h1
      · subst h1; have := hk.head ht; rw [ahead_irr] at this; cases this
      · exact h1
def putL : List St → St → List St
  | [], t => [t]
  | s :: r, t => if s.aheadB t then s :: putL r t else if s = t then s :: r else t :: s :: r
def rowL (L : List St) : List St := L.foldl putL []
theorem mem_putL {L : List St} {t u : St} : u ∈ putL L t ↔ u ∈ L ∨ u = t := by
  induction L with
  | nil => simp [putL]
  | cons s r ih =>
    simp only [putL]
    split
    · simp only [List.mem_cons, ih]
      constructor
      · rintro (h | h | h) <;> simp [h]
      · rintro ((h | h) | h) <;> simp [h]
    · split
      · rename_i e; subst e; simp only [List.mem_cons]
        constructor
        · rintro (h | h) <;> simp [h]
        · rintro ((h | h) | h) <;> simp [h]
      · simp only [List.mem_cons]
        constructor
        · rintro (h | h | h) <;> simp [h]
        · rintro ((h | h) | h) <;> simp [h]
theorem Asc.cons {s : St} {L : List St} (h : Asc L) (hs : ∀ t ∈ L, s.aheadB t = true) : Asc (s :: L) := fun i hi => by
  cases i with
  | zero =>
    have : 0 < L.length := by simpa using hi
    have h1 := hs (atS L 0) (atS_mem this)
    simpa [atS] using h1
  | succ i =>
    have := h i (by simpa using hi)
    simpa [atS] using this
theorem putL_asc {L : List St} {t : St} (h : Asc L) : Asc (putL L t) := by
  induction L with
  | nil => intro i hi; simp [putL] at hi
  | cons s r ih =>
    simp only [putL]
    split
    · rename_i hst
      refine (ih h.tail).cons fun u hu => ?_
      rcases mem_putL.1 hu with h1 | h1
      · exact h.head h1
      · rw [h1]; exact hst
    · split
      · exact h
      · rename_i h1 h2
        refine h.cons fun u hu => ?_
        have hts : t.aheadB s = true := by
          cases hq : t.aheadB s with
          | true => rfl
          | false => exact absurd (ahead_tri (by simpa using h1) hq) h2
        rcases List.mem_cons.1 hu with h3 | h3
        · rw [h3]; exact hts
        · exact ahead_trans hts (h.head h3)
theorem foldl_put : ∀ (L K : List St), Asc K → Asc (L.foldl putL K) ∧ ∀ t, t ∈ L.foldl putL K ↔ t ∈ K ∨ t ∈ L
  | [], K, h => ⟨h, fun t => by simp⟩
  | s :: r, K, h => by
    have ih := foldl_put r (putL K s) (putL_asc h)
    refine ⟨ih.1, fun t => ?_⟩
    rw [List.foldl_cons, ih.2, mem_putL]
    simp only [List.mem_cons]
    constructor
    · rintro ((h | h) | h) <;> simp [h]
    · rintro (h | h | h) <;> simp [h]
theorem asc_nil : Asc [] := fun i hi => by simp at hi
theorem rowL_asc (L : List St) : Asc (rowL L) := (foldl_put L [] asc_nil).1
theorem mem_rowL {L : List St} {t : St} : t ∈ rowL L ↔ t ∈ L := by
  unfold rowL; rw [(foldl_put L [] asc_nil).2]; simp
theorem rowL_of {L K : List St} (h : Asc K) (hm : ∀ t, t ∈ K ↔ t ∈ L) : K = rowL L := h.uniq (rowL_asc L) (fun t => by rw [hm, mem_rowL])
def leastB (L : List St) (t : St) : Bool := L.all fun s => !(!decide (s = t) && s.leB t)
def minL (L : List St) : List St := rowL (L.filter (leastB L))
theorem least_iff {L : List St} {t : St} : leastB L t = true ↔ ∀ s ∈ L, s.leB t = true → s = t := by
  simp only [leastB, List.all_eq_true, Bool.not_eq_true', Bool.and_eq_false_iff, Bool.not_eq_false', decide_eq_true_eq]
  constructor
  · intro h s hs hl
    rcases h s hs with h1 | h1
    · exact h1
    · rw [hl] at h1; cases h1
  · intro h s hs
    cases hl : s.leB t with
    | false => exact .inr rfl
    | true => exact .inl (h s hs hl)
theorem mem_minL {L : List St} {t : St} : t ∈ minL L ↔ t ∈ L ∧ ∀ s ∈ L, s.leB t = true → s = t := by
  unfold minL; rw [mem_rowL, List.mem_filter, least_iff]
theorem minL_asc (L : List St) : Asc (minL L) := rowL_asc _
theorem minL_of {L K : List St} (h : Asc K) (hm : ∀ t, t ∈ K ↔ t ∈ L ∧ ∀ s ∈ L, s.leB t = true → s = t) : K = minL L := h.uniq (minL_asc L) (fun t => by rw [hm, mem_minL])
structure MInv (K : List St) (p : Nat) (Q : List St) : Prop where
  pos : p ≤ K.length
  asc : Asc Q
  sub : ∀ t ∈ Q, t ∈ K ∧ ∀ s ∈ K, s.leB t = true → s = t
  cov : ∀ j, j < p → ∃ q ∈ Q, q.leB (atS K j) = true
  low : p < K.length → ∀ q ∈ Q, (atS K p).r < q.r ∧ q.aheadB (atS K p) = true
  len : Q.length ≤ p
theorem MInv.start (K : List St) : MInv K 0 [] := ⟨Nat.zero_le _, asc_nil, by simp, fun j h => by omega, by simp, by simp⟩
theorem asc_snoc {Q : List St} {t : St} (h : Asc Q) (hq : ∀ q ∈ Q, q.aheadB t = true) : Asc (Q ++ [t]) := fun i hi => by
  rw [List.length_append, List.length_singleton] at hi
  rw [atS_app (by omega)]
  rcases (show i + 1 < Q.length ∨ i + 1 = Q.length by omega) with h1 | h1
  · rw [atS_app h1]; exact h i h1
  · have : atS (Q ++ [t]) (i + 1) = t := by
      unfold atS; rw [List.getD_eq_getElem?_getD, List.getElem?_append_right (by omega)]; simp [h1]
    rw [this]; exact hq _ (atS_mem (by omega))
theorem MInv.least {K Q : List St} {p : Nat} (hK : Asc K) (h : MInv K p Q) (hp : p < K.length) : ∀ s ∈ K, s.leB (atS K p) = true → s = atS K p := by
  intro s hs hle
  obtain ⟨j, hj, rfl⟩ := at_of_mem hs
  rcases Nat.lt_trichotomy j p with h1 | h1 | h1
  · obtain ⟨q, hq, hqs⟩ := h.cov j h1
    have h2 := h.low hp q hq
    rw [St.le_iff] at hle hqs
    omega
  · rw [h1]
  · have h2 := hK.lt' h1 hj
    rw [St.le_iff] at hle
    rw [St.ahead_iff] at h2
    omega
theorem MInv.next {K Q : List St} {p p' : Nat} (hK : Asc K) (h : MInv K p Q) (hp : p < K.length) (hpp : p < p') (hl : p' ≤ K.length) (hc : ∀ j, p ≤ j → j < p' → (atS K p).leB (atS K j) = true) (hn : p' < K.length → (atS K p).leB (atS K p') = false) : MInv K p' (Q ++ [atS K p]) := by
  refine ⟨hl, asc_snoc h.asc (fun q hq => (h.low hp q hq).2), fun t ht => ?_, fun j hj => ?_, fun hp' q hq => ?_, ?_⟩
  · rcases List.mem_append.1 ht with h1 | h1
    · exact h.sub t h1
    · rw [List.mem_singleton.1 h1]; exact ⟨atS_mem hp, h.least hK hp⟩
  · rcases Nat.lt_or_ge j p with h1 | h1
    · obtain ⟨q, hq, h2⟩ := h.cov j h1
      exact ⟨q, by simp [hq], h2⟩
    · exact ⟨atS K p, by simp, hc j h1 hj⟩
  · have h1 := hn hp'
    have h2 := hK.lt' hpp hp'
    have h3 : (atS K p').r < (atS K p).r := by
      rw [← Bool.not_eq_true, St.le_iff] at h1
      rw [St.ahead_iff] at h2
      omega
    rcases List.mem_append.1 hq with h4 | h4
    · have h5 := h.low hp q h4
      exact ⟨by omega, ahead_trans h5.2 h2⟩
    · rw [List.mem_singleton.1 h4]; exact ⟨h3, h2⟩
  · have := h.len
    rw [List.length_append, List.length_singleton]; omega
theorem MInv.fin {L Q : List St} {p : Nat} (h : MInv (rowL L) p Q) (hp : ¬ p < (rowL L).length) : Q = minL L := by
  refine minL_of h.asc fun t => ⟨fun ht => ?_, fun ⟨h1, h2⟩ => ?_⟩
  · have h1 := h.sub t ht
    exact ⟨mem_rowL.1 h1.1, fun s hs => h1.2 s (mem_rowL.2 hs)⟩
  · obtain ⟨j, hj, rfl⟩ := at_of_mem (mem_rowL.2 h1)
    obtain ⟨q, hq, hle⟩ := h.cov j (by omega)
    rw [← h2 q (mem_rowL.1 (h.sub q hq).1) hle]
    exact hq
theorem rowL_len (L : List St) : (rowL L).length ≤ L.length := by
  have : ∀ (L K : List St), (L.foldl putL K).length ≤ K.length + L.length := by
    intro L
    induction L with
    | nil => intro K; simp
    | cons s r ih =>
      intro K
      have h1 := ih (putL K s)
      have h2 : ∀ (K : List St), (putL K s).length ≤ K.length + 1 := by
        intro K
        induction K with
        | nil => simp [putL]
        | cons k K ih2 => simp only [putL]; split; simp; omega; split <;> simp
      have := h2 K
      rw [List.foldl_cons, List.length_cons]; omega
  have := this L []
  simpa [rowL] using this
theorem minL_len (L : List St) : (minL L).length ≤ L.length := Nat.le_trans (rowL_len _) (List.length_filter_le _ _)
def filt (L : List St) (i : Nat) : List St := rowL ((L.take i).filter (leastB L))
end Go.Proofs.YtcnmmnhlhenifaaGreat
namespace Go.Proofs.YtcnmmnhlhenifaaGreat
open Go.RowKit
set_option maxRecDepth 100000
set_option linter.unusedSimpArgs false
set_option linter.unusedVariables false
def pof : Value → Nat
  | .pointer (some a) => a.block
  | _ => 0
section
variable {P : Program} {Q : Exit → Act → World → Prop} {a : Act}
theorem ow_stA {o : Oper} {R : List Nat} {w0 w : World} {B : List Ent} {K : Act → World → Prop} {t ty : TypeId} {g i : Nat} {cs cs' : Array Value} {x y : Operand} (M : Mm R w0 w B) (ho : o.op = .store ty x y) (hx : a.eval x = .pointer (some ⟨g, 0, none⟩)) (hy : a.eval y = .agg cs')
    (hi : B[i]? = some (.blk g t cs)) {m : Nat} (hT : AggTy P ty m) (hm : cs.size = m) (hm' : cs'.size = m) (h1 : cs'.toList.all (·.oneCell') = true) (hd : o.dst = none)
    (h : ∀ x w', Mm R w0 w' (B.set i (.blk g t cs')) → K (a.put o.dst x) w') : o.wp P a w K Q := by
  obtain ⟨_, _, _, hi'⟩ := hT
  exact wp_store_row ty x y ho g cs' hx hy t cs (M.at hi) (by rw [hi', hm']) (by rw [hm, hm']) (by simpa using h1) (h undef _ (M.setRow hi cs'))
section
variable {o : Oper} {x y : Operand}
end
end
end Go.Proofs.YtcnmmnhlhenifaaGreat
namespace Go.Proofs.YtcnmmnhlhenifaaGreat
open Go.RowKit
set_option maxRecDepth 100000
set_option linter.unusedSimpArgs false
set_option linter.unusedVariables false
theorem cI_len (L : List Int) : (cI L).length = L.length := by unfold cI; rw [cE_len]; simp [encI]
theorem cI_set : ∀ (L : List Int) (j : Nat) (x : Int), (cI L).set j (.int .i64 x) = cI (L.set j x)
  | [], _, _ => rfl
  | _ :: _, 0, _ => rfl
  | a :: r, j + 1, x => by
    have := cI_set r j x
    show Value.int .i64 a :: (cI r).set j (.int .i64 x) = Value.int .i64 a :: cI (r.set j x)
    rw [this]
theorem aI_at {T : List Int} {j : Nat} (h : j < T.length) : (List.toArray (cI T))[0 + j * 1]? = some (.int .i64 (atI T j)) := by
  rw [Nat.zero_add, List.getElem?_toArray]; exact cI_at h
theorem aI_set (T : List Int) (j : Nat) (x : Int) : (List.toArray (cI T)).setIfInBounds (0 + j * 1) (.int .i64 x) = List.toArray (cI (T.set j x)) := by
  rw [← cI_set]; simp
theorem aI_size (T : List Int) : (List.toArray (cI T)).size = T.length := by rw [List.size_toArray, cI_len]
theorem atI_eq {L : List Int} {i : Nat} (h : i < L.length) : atI L i = L[i] := atE_eq (E := encI) h
theorem atI_set {L : List Int} {i j : Nat} {b : Int} (h : i < L.length) : atI (L.set i b) j = if i = j then b else atI L j := by
  unfold atI atE
  rw [List.getD_eq_getElem?_getD, List.getD_eq_getElem?_getD, List.getElem?_set]
  split
  · rename_i e; subst e; simp [h]
  · rfl
theorem ext_atI {A B : List Int} (hl : A.length = B.length) (h : ∀ k, k < A.length → atI A k = atI B k) : A = B := by
  apply List.ext_getElem hl
  intro k h1 h2
  have := h k h1
  rwa [atI_eq h1, atI_eq h2] at this
end Go.Proofs.YtcnmmnhlhenifaaGreat
