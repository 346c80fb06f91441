/- Put together: St, Ls, En, Lc, Mp, Rh, Rj, Mq, Ub, Ur, Lu, Ek, Vm, Rk. -/
import Derived.Test.YtcobpabmmbcjcaaFx
import Derived.Test.YtcobpabmmbcjcaaJ1
import Derived.Deep.Slices
import Derived.Maps.RangeRun
import Derived.Carry
import Derived.Lib.AppendStr
import Derived.Lib.ConvBytes
import Derived.Laws.IdiomStrings
import Derived.ChangeKeysEq
import Derived.Laws.StructEq
import Derived.SizedLaws
import Derived.Deep.MidRow
namespace Go.Proofs.Ytcobpabmmbcjcaa
open Go.RowKit
set_option maxRecDepth 100000
set_option linter.unusedSimpArgs false
set_option linter.unusedVariables false
def cS : List St → List Value
  | [] => []
  | s :: r => .int .i64 s.e :: .int .i64 s.r :: cS r
def atS (L : List St) (i : Nat) : St := L.getD i St.zero
theorem cS_drop : ∀ (L : List St) (n : Nat), (cS L).drop (n * 2) = cS (L.drop n)
  | L, 0 => by simp
  | [], n + 1 => by simp [cS]
  | s :: r, n + 1 => by
    rw [show (n + 1) * 2 = n * 2 + 1 + 1 by omega]
    simp only [cS, List.drop_succ_cons, cS_drop r n]
theorem cS_take : ∀ (L : List St) (n : Nat), (cS L).take (n * 2) = cS (L.take n)
  | L, 0 => by simp [cS]
  | [], n + 1 => by simp [cS]
  | s :: r, n + 1 => by
    rw [show (n + 1) * 2 = n * 2 + 1 + 1 by omega]
    simp only [cS, List.take_succ_cons, cS_take r n]
abbrev RdS (w : World) (v : Value) (L : List St) : Prop := RdV w 2 v L.length (cS L)
theorem RdS.sub {w : World} {v : Value} {L : List St} (hr : RdS w v L) {l h : Nat} (h1 : l ≤ h) (h2 : h ≤ L.length) : RdS w (subS 2 l h v) ((L.drop l).take (h - l)) := by
  have := sub_rdv hr h1 h2
  rw [cS_drop, cS_take] at this
  have hl : ((L.drop l).take (h - l)).length = h - l := by rw [List.length_take, List.length_drop]; omega
  unfold RdS
  rw [hl]
  exact this
abbrev OwnS (w : World) (b : Nat) (t : TypeId) (v : Value) (L : List St) : Prop := w.ownsRow b t 2 v L.length (cS L)
end Go.Proofs.Ytcobpabmmbcjcaa
namespace Go.Proofs.Ytcobpabmmbcjcaa
open Go.ChangeShapes Go.WideShapes Go.ChangeAt Go.RowKit Go.Joins Go.Deep
set_option maxRecDepth 100000
set_option linter.unusedSimpArgs false
set_option linter.unusedVariables false
section
variable {H : Type} {enc : TypeId × Value → H} {W : World}
theorem cell_spot {w : World} {a : Addr} {v : Value} (h : w.cell? a = some v) : a.spot = none ∧ a.block < w.heap.size := by
  unfold World.cell? at h
  split at h
  · rename_i c e f hh
    split at h
    · cases h
    · rename_i hs
      exact ⟨by simpa using hs, (Array.getElem?_eq_some_iff.1 hh).1⟩
  · cases h
theorem add_lit {a : Addr} (h : a.spot = none) (k : Nat) : a.add k = ⟨a.block, a.off + k, none⟩ := by
  obtain ⟨b, o, s⟩ := a
  subst h
  exact addr_add b o k
end
theorem rdI : Try.prog.readableRec 3 = true ∧ 3 < Try.prog.types.size := ⟨by kernel_rfl, of_decide_eq_true (by kernel_rfl)⟩
end Go.Proofs.Ytcobpabmmbcjcaa
namespace Go.Proofs.Ytcobpabmmbcjcaa
open Go.RowKit
set_option maxRecDepth 100000
set_option linter.unusedSimpArgs false
set_option linter.unusedVariables false
structure Enc (α : Type) where
  m : Nat
  f : α → List Value
  z : α
  len : ∀ a, (f a).length = m
  ones : ∀ a, ∀ v ∈ f a, v.oneCell' = true
def cE {α : Type} (E : Enc α) : List α → List Value
  | [] => []
  | a :: r => E.f a ++ cE E r
def atE {α : Type} (E : Enc α) (L : List α) (i : Nat) : α := L.getD i E.z
section
variable {α : Type} {E : Enc α}
theorem cE_len : ∀ L : List α, (cE E L).length = L.length * E.m
  | [] => by simp [cE]
  | a :: r => by simp only [cE, List.length_append, E.len, cE_len r, List.length_cons]; rw [Nat.add_mul]; omega
theorem cE_app : ∀ L K : List α, cE E (L ++ K) = cE E L ++ cE E K
  | [], _ => rfl
  | a :: r, K => by simp only [List.cons_append, cE, cE_app r K, List.append_assoc]
theorem cE_ones : ∀ (L : List α), ∀ z ∈ cE E L, z.oneCell' = true
  | [], z, h => by cases h
  | a :: r, z, h => by
    simp only [cE, List.mem_append] at h
    rcases h with h | h
    · exact E.ones a z h
    · exact cE_ones r z h
theorem cE_drop : ∀ (L : List α) (n : Nat), (cE E L).drop (n * E.m) = cE E (L.drop n)
  | L, 0 => by simp
  | [], n + 1 => by simp [cE]
  | a :: r, n + 1 => by
    have h : (n + 1) * E.m = (E.f a).length + n * E.m := by rw [E.len, Nat.add_mul]; omega
    simp only [cE, List.drop_succ_cons]
    rw [h, List.drop_append, List.drop_of_length_le (by omega), Nat.add_sub_cancel_left, cE_drop r n]
    rfl
theorem cE_take : ∀ (L : List α) (n : Nat), (cE E L).take (n * E.m) = cE E (L.take n)
  | L, 0 => by simp [cE]
  | [], n + 1 => by simp [cE]
  | a :: r, n + 1 => by
    have h : (n + 1) * E.m = (E.f a).length + n * E.m := by rw [E.len, Nat.add_mul]; omega
    simp only [cE, List.take_succ_cons]
    rw [h, List.take_append, List.take_of_length_le (by omega), Nat.add_sub_cancel_left, cE_take r n]
theorem atE_eq {L : List α} {i : Nat} (h : i < L.length) : atE E L i = L[i] := by
  unfold atE; rw [List.getD_eq_getElem?_getD, List.getElem?_eq_getElem h]; rfl
theorem atE_mem {L : List α} {i : Nat} (h : i < L.length) : atE E L i ∈ L := by rw [atE_eq h]; exact List.getElem_mem h
theorem cE_at {L : List α} {i : Nat} (h : i < L.length) : ((cE E L).drop (i * E.m)).take E.m = E.f (atE E L i) := by
  rw [cE_drop, List.drop_eq_getElem_cons h, atE_eq h]
  have := E.len L[i]
  simp only [cE]
  rw [List.take_append, List.take_of_length_le (by omega), this, Nat.sub_self, List.take_zero, List.append_nil]
theorem ext_atE {A B : List α} {i : Int} (hl : A.length = B.length) (h : ∀ k, k < i.toNat → atE E A k = atE E B k) (hi : ¬ i < (A.length : Int)) : A = B := by
  apply List.ext_getElem hl
  intro k h1 h2
  have := h k (by omega)
  rwa [atE_eq h1, atE_eq h2] at this
end
def encI : Enc Int := ⟨1, fun n => [.int .i64 n], 0, fun _ => rfl, fun a v h => by
  simp only [List.mem_cons, List.not_mem_nil, or_false] at h; subst h; rfl⟩
def cI (L : List Int) : List Value := cE encI L
def atI (L : List Int) (i : Nat) : Int := atE encI L i
theorem cI_at {L : List Int} {i : Nat} (h : i < L.length) : (cI L)[i * 1]? = some (.int .i64 (atI L i)) := by
  have h1 := cE_at (E := encI) h
  have h2 : ((cI L).drop (i * 1)).take 1 = [.int .i64 (atI L i)] := h1
  have h3 : (((cI L).drop (i * 1)).take 1)[0]? = some (.int .i64 (atI L i)) := by rw [h2]; rfl
  rw [List.getElem?_take] at h3
  simpa using h3
abbrev RdI (w : World) (v : Value) (L : List Int) : Prop := RdV w 1 v L.length (cI L)
end Go.Proofs.Ytcobpabmmbcjcaa
namespace Go.Proofs.Ytcobpabmmbcjcaa
open Go.ChangeShapes Go.WideShapes Go.ChangeAt Go.RowKit Go.Joins Go.Deep
set_option maxRecDepth 100000
set_option linter.unusedSimpArgs false
set_option linter.unusedVariables false
def Opens (P : Program) (t : TypeId) {α : Type} (f : α → List Value) (I : α → Prop) : Prop :=
  ∀ {H : Type} {enc : TypeId × Value → H} {W : World} {base : Nat} {sp : Nat → Bool} {held : Bool} {fuel : Nat} {cs : List Value} {x : DataW H × List MemPlace}, DataW.trod enc P W base sp held fuel t cs = some x → ∃ a, cs = f a ∧ I a
section
variable {P : Program} {t : TypeId} {α β : Type}
theorem opens_int (h : P.underlying t = some (.int .i64)) : Opens P t (fun n : Int => [.int .i64 n]) (fun n => -9223372036854775808 ≤ n ∧ n ≤ 9223372036854775807) := by
  intro H enc W base sp held fuel cs x hx
  obtain ⟨z, e, _, w⟩ := DataW.trod_int h hx
  exact ⟨z, e, wf64 w⟩
theorem cells_at {w : World} {b m : Nat} {a : Addr} {cs : List Value} (h : w.cells? b a m = some cs) : ∀ j u, cs[j]? = some u → w.cell? (a.add j) = some u := by
  unfold World.cells? at h
  split at h
  · intro j u hj
    obtain ⟨hl, hu⟩ := List.getElem?_eq_some_iff.1 hj
    have hlen := mapM_some_length h
    have hm : j < m := by rw [List.length_range] at hlen; omega
    have := mapM_some_get h j j (by rw [List.getElem?_range hm])
    rw [hj] at this
    exact this
  · cases h
theorem openE {H : Type} {enc : TypeId × Value → H} {W : World} {e : TypeId} (E : Enc α) {I : α → Prop} (hut : P.underlying t = some (.slice e)) (hC : P.cellsOf e = E.m) (hpos : 0 < E.m) (ho : Opens P e E.f I) {v : Value} {d : DataW H} {ps : List MemPlace} {base : Nat} (hval : Value.okWide P W .any base t v) (h : DataW.Trod enc P W 0 (fun _ => true) true t v d ps) :
    ∃ L : List α, RdV W E.m v L.length (cE E L) ∧ ∀ s ∈ L, I s := by
  obtain ⟨a0, len, cap, rfl⟩ := okWide_slice hut hval
  obtain ⟨fuel, hf⟩ := h
  rcases open_slice hut hf with ⟨hcs, _⟩ | ⟨a, len', cap', m, n, D, Pl, hcs, _, hl, hm, hmm, _, hel⟩
  · have hv : Value.slice a0 len cap = .slice none 0 0 := by simpa [Value.cells] using hcs
    rw [hv]
    exact ⟨[], ⟨by simp [cE], none, 0, rfl, Nat.le_refl _, Nat.zero_le _, fun h => absurd h (by simp)⟩, by simp⟩
  · have hv : Value.slice a0 len cap = .slice (some a) len' cap' := by simpa [Value.cells] using hcs
    rw [hv]
    have hel2 : ∀ i, i < len' → ∃ s : α, I s ∧ ∀ j u, (E.f s)[j]? = some u → W.cell? (a.add (i * E.m + j)) = some u := fun i hil => by
      obtain ⟨cs', hc, htr⟩ := hel i (by rw [hmm]; split <;> omega)
      rw [hC] at hc
      obtain ⟨s, hs, hI⟩ := ho htr
      subst hs
      refine ⟨s, hI, fun j u hj => ?_⟩
      have := cells_at hc j u hj
      rwa [add_add] at this
    obtain ⟨f, hf⟩ : ∃ f : Nat → α, ∀ i, i < len' → I (f i) ∧ ∀ j u, (E.f (f i))[j]? = some u → W.cell? (a.add (i * E.m + j)) = some u := by
      refine ⟨fun i => if hi : i < len' then Classical.choose (hel2 i hi) else E.z, fun i hi => ?_⟩
      simp only [hi, dif_pos]
      exact Classical.choose_spec (hel2 i hi)
    refine ⟨(List.range len').map f, ?_, fun s hs => ?_⟩
    · have hll : ((List.range len').map f).length = len' := by simp
      rw [hll]
      refine ⟨by rw [cE_len, hll], some a, cap', rfl, hl, hm, fun hp => ?_⟩
      have hx0 : ∃ u, (E.f (f 0))[0]? = some u := ⟨(E.f (f 0))[0]'(by rw [E.len]; exact hpos), List.getElem?_eq_getElem _⟩
      obtain ⟨u0, hu0⟩ := hx0
      have h3 := cell_spot ((hf 0 hp).2 0 u0 hu0)
      rw [show a.add (0 * E.m + 0) = a from by simp [Addr.add]] at h3
      refine ⟨a.block, a.off, by cases a; simp_all, h3.2, fun j u hj => ?_⟩
      have hj2 : j < len' * E.m := by
        have := (List.getElem?_eq_some_iff.1 hj).1
        rw [cE_len, hll] at this; exact this
      have hjd : j / E.m < len' := by rw [Nat.div_lt_iff_lt_mul hpos]; exact hj2
      have hjm : j % E.m < E.m := Nat.mod_lt _ hpos
      have hdm : j / E.m * E.m + j % E.m = j := by rw [Nat.mul_comm]; exact Nat.div_add_mod j E.m
      have hc := cE_at (E := E) (L := (List.range len').map f) (i := j / E.m) (by rw [hll]; exact hjd)
      have hat : atE E ((List.range len').map f) (j / E.m) = f (j / E.m) := by
        rw [atE_eq (by rw [hll]; exact hjd)]; simp
      rw [hat] at hc
      have hg : (E.f (f (j / E.m)))[j % E.m]? = some u := by
        rw [← hc, List.getElem?_take, if_pos hjm, List.getElem?_drop, hdm]; exact hj
      have := (hf (j / E.m) hjd).2 _ u hg
      rw [hdm, add_lit h3.1] at this
      exact this
    · obtain ⟨i, hi, rfl⟩ := List.mem_map.1 hs
      exact (hf i (by simpa using hi)).1
end
section
variable {H : Type} {enc : TypeId × Value → H} {W : World}
end
end Go.Proofs.Ytcobpabmmbcjcaa
namespace Go.Proofs.Ytcobpabmmbcjcaa
open Go.RowKit Go.MapKept
set_option maxRecDepth 100000
set_option linter.unusedSimpArgs false
set_option linter.unusedVariables false
open Go.ChangeMaps (setBlock heap_setBlock_same)
structure MapIs (es : Array MapEntry) (clock : Nat) (l : List (Value × Value)) : Prop where
  st : Stamped es clock
  perm : (es.toList.map fun e => (e.key, e.val)).Perm l
def MpV (g : Nat) (l : List (Value × Value)) (w : World) : Prop := ∃ es clock, w.heap[g]? = some (.map es clock) ∧ MapIs es clock l
theorem lt_of_some {w : World} {g : Nat} {o : Obj} (h : w.heap[g]? = some o) : g < w.heap.size := (Array.getElem?_eq_some_iff.1 h).1
theorem MpV.loc (g : Nat) (l : List (Value × Value)) : Loc [g] (MpV g l) := fun _ _ hk ⟨es, clock, h, hm⟩ =>
  ⟨⟨es, clock, (hk g (by simp)).trans h, hm⟩, fun g' hg => by simp only [List.mem_singleton] at hg; subst hg; exact lt_of_some h⟩
theorem MapIs.to {es : Array MapEntry} {clock : Nat} {l l' : List (Value × Value)} (h : MapIs es clock l) (hp : l.Perm l') : MapIs es clock l' := ⟨h.st, h.perm.trans hp⟩
theorem MpV.to {g : Nat} {l l' : List (Value × Value)} {w : World} (h : MpV g l w) (hp : l.Perm l') : MpV g l' w := by
  obtain ⟨es, clock, h1, h2⟩ := h
  exact ⟨es, clock, h1, h2.to hp⟩
theorem MapIs.nodup {es : Array MapEntry} {clock : Nat} {l : List (Value × Value)} (h : MapIs es clock l) : l.Pairwise (fun p q => p.1 ≠ q.1) := by
  refine (h.perm.pairwise_iff (fun {x y} (e : x.1 ≠ y.1) => e.symm)).1 ?_
  rw [List.pairwise_map]
  exact ((stamped_iff es clock).1 h.st).2.2
def ObV (g : Nat) (o : Obj) (w : World) : Prop := w.heap[g]? = some o
theorem ObV.loc (g : Nat) (o : Obj) : Loc [g] (ObV g o) := fun _ _ hk h =>
  ⟨(hk g (by simp)).trans h, fun g' hg => by simp only [List.mem_singleton] at hg; subst hg; exact lt_of_some h⟩
structure KeyOK (P : Program) (k : TypeId) (K : Value → Prop) : Prop where
  check : ∀ (w : World) (em : Bool) (v : Value), K v → (Instr.checkKey em 10000 k v).run P w = .ok () w
  find : ∀ (w : World) (x : Value), K x → ∀ es : List MapEntry, (∀ e ∈ es, K e.key) → ((Instr.findKey k x es).run P w = .ok none w ∧ ∀ e ∈ es, e.key ≠ x) ∨ ∃ j e, (Instr.findKey k x es).run P w = .ok (some (j, e.val)) w ∧ es[j]? = some e ∧ e.key = x
  stays : ∀ (w : World) (v : Value), K v → (Instr.keyThatStays v v).run P w = .ok v w
def encM {κ ν : Type} (ek : κ → Value) (ev : ν → Value) (C : List (κ × ν)) : List (Value × Value) := C.map fun p => (ek p.1, ev p.2)
def getM {κ ν : Type} [DecidableEq κ] (C : List (κ × ν)) (k : κ) : Option ν := (C.find? fun p => decide (p.1 = k)).map (·.2)
def delM {κ ν : Type} [DecidableEq κ] (C : List (κ × ν)) (k : κ) : List (κ × ν) := C.filter fun p => !decide (p.1 = k)
def MapTy (P : Program) (t k e : TypeId) : Prop := P.underlying t = some (.map k e)
section
variable {κ ν : Type} [DecidableEq κ] {ek : κ → Value} {ev : ν → Value} {C C' : List (κ × ν)} {x : κ}
theorem getM_none (h : ∀ p ∈ C, p.1 ≠ x) : getM C x = none := by
  unfold getM
  rw [List.find?_eq_none.2 (fun p hp => by simpa using h p hp)]
  rfl
theorem getM_some {v : ν} (hn : C.Pairwise (fun p q => p.1 ≠ q.1)) (h : (x, v) ∈ C) : getM C x = some v := by
  unfold getM
  induction C with
  | nil => cases h
  | cons p r ih =>
    obtain ⟨h1, h2⟩ := List.pairwise_cons.1 hn
    rw [List.find?_cons]
    rcases List.mem_cons.1 h with e | h3
    · subst e; simp
    · have : p.1 ≠ x := h1 _ h3
      simp only [this, decide_false]
      exact ih h2 h3
theorem getM_mem {v : ν} (h : getM C x = some v) : (x, v) ∈ C := by
  unfold getM at h
  obtain ⟨p, hp, rfl⟩ := Option.map_eq_some_iff.1 h
  have h1 := List.find?_some hp
  have h2 := List.mem_of_find?_eq_some hp
  simp only [decide_eq_true_eq] at h1
  subst h1
  exact h2
omit [DecidableEq κ] in
theorem enc_apart (hn : (encM ek ev C).Pairwise (fun p q => p.1 ≠ q.1)) : C.Pairwise (fun p q => p.1 ≠ q.1) := by
  unfold encM at hn
  rw [List.pairwise_map] at hn
  exact hn.imp (fun h e => h (by rw [e]))
end
section
variable {P : Program} {w : World} {t k e ty : TypeId} {g : Nat} {K : Value → Prop} {κ ν : Type} [DecidableEq κ] {ek : κ → Value} {ev : ν → Value} {C C' : List (κ × ν)} {x : κ}
omit [DecidableEq κ] in
theorem keys_es {es : Array MapEntry} {clock : Nat} (hm : MapIs es clock (encM ek ev C)) {y : MapEntry} (hy : y ∈ es.toList) : ∃ p ∈ C, y.key = ek p.1 ∧ y.val = ev p.2 := by
  have h1 : (y.key, y.val) ∈ encM ek ev C := hm.perm.mem_iff.1 (List.mem_map.2 ⟨y, hy, rfl⟩)
  obtain ⟨p, hp, he⟩ := List.mem_map.1 h1
  injection he with h2 h3
  exact ⟨p, hp, h2.symm, h3.symm⟩
theorem look_run (hK : KeyOK P k K) (hk : ∀ a : κ, K (ek a)) (hinj : ∀ a b : κ, ek a = ek b → a = b) (hT : MapTy P t k e) (hm : MpV g (encM ek ev C) w) {z : Value} (hz : (zeroValue e).run P w = .ok z w) (ok : Bool) :
    (Instr.lookup t (.map (some g)) (ek x) ok).run P w = .ok (if ok then .tuple #[(getM C x).elim z ev, .bool (getM C x).isSome] else (getM C x).elim z ev) w := by
  obtain ⟨es, clock, hb, hm⟩ := hm
  have hn := enc_apart hm.nodup
  have hes : ∀ y ∈ es.toList, K y.key := fun y hy => by
    obtain ⟨p, _, h1, _⟩ := keys_es hm hy
    rw [h1]; exact hk _
  rcases hK.find w (ek x) (hk x) es.toList hes with ⟨h1, h2⟩ | ⟨j, y, h1, h2, h3⟩
  · have hg : getM C x = none := getM_none fun p hp e => by
      have h4 : (ek p.1, ev p.2) ∈ es.toList.map (fun e => (e.key, e.val)) := hm.perm.mem_iff.2 (List.mem_map.2 ⟨p, hp, rfl⟩)
      obtain ⟨y, hy, he⟩ := List.mem_map.1 h4
      injection he with h5 _
      exact h2 y hy (by rw [h5, e])
    rw [hg]
    cases ok <;> simp [Instr.lookup, run_underlying hT, MapKept.run_getObj_map hb, hK.check w es.isEmpty _ (hk x), h1, hz, Result.andThen]
  · have hy : y ∈ es.toList := List.mem_of_getElem? h2
    obtain ⟨p, hp, h4, h5⟩ := keys_es hm hy
    have e1 : p.1 = x := hinj _ _ (h4.symm.trans h3)
    have hg : getM C x = some p.2 := getM_some hn (by rw [← e1]; exact hp)
    rw [hg, Option.elim, ← h5]
    cases ok <;> simp [Instr.lookup, run_underlying hT, MapKept.run_getObj_map hb, hK.check w es.isEmpty _ (hk x), h1, Result.andThen]
theorem out_set {o o' : Obj} (hb : w.heap[g]? = some o) : Out [g] w (setBlock w g o') := ⟨rfl, rfl, rfl, by simp [setBlock], fun i _ hi => by
  simp only [List.mem_singleton] at hi
  have h : ¬ g = i := fun e => hi e.symm
  simp only [setBlock, Array.getElem?_setIfInBounds, h, if_false]⟩
theorem del_perm {es : Array MapEntry} {clock : Nat} (hinj : ∀ a b : κ, ek a = ek b → a = b) (hm : MapIs es clock (encM ek ev C)) {j : Nat} {y : MapEntry} (h2 : es.toList[j]? = some y) (h3 : y.key = ek x) :
    ((es.toList.eraseIdx j).map fun e => (e.key, e.val)).Perm (encM ek ev (delM C x)) := by
  obtain ⟨hj, hjy⟩ := List.getElem?_eq_some_iff.1 h2
  have hp : (y.key, y.val) :: ((es.toList.eraseIdx j).map fun e => (e.key, e.val)) |>.Perm (encM ek ev C) := by
    refine List.Perm.trans ?_ hm.perm
    rw [← List.map_cons (f := fun e : MapEntry => (e.key, e.val))]
    refine List.Perm.map _ ?_
    have := ChangeMaps.set_perm es.toList j hj y
    rw [← hjy, List.set_getElem_self, hjy] at this
    exact this.symm
  have hnd := hm.nodup
  obtain ⟨p, hpC, h4, h5⟩ := keys_es hm (List.mem_of_getElem? h2)
  have e1 : p.1 = x := hinj _ _ (h4.symm.trans h3)
  have hCn := enc_apart hnd
  have hd : C.Perm (p :: delM C x) := by
    clear hp hm hnd
    induction C with
    | nil => cases hpC
    | cons q r ih =>
      obtain ⟨h6, h7⟩ := List.pairwise_cons.1 hCn
      unfold delM
      rw [List.filter_cons]
      rcases List.mem_cons.1 hpC with e | h8
      · subst e
        have hr : r.filter (fun p => !decide (p.1 = x)) = r := List.filter_eq_self.2 fun u hu => by
          have := h6 u hu
          rw [e1] at this
          have h9 : ¬ u.1 = x := fun e => this e.symm
          simp [h9]
        simp [e1, hr]
      · have : q.1 ≠ x := by rw [← e1]; exact h6 p h8
        simp only [this, decide_false, Bool.not_false, if_true]
        exact ((ih h8 h7).cons q).trans (List.Perm.swap _ _ _)
  have he : (encM ek ev C).Perm ((y.key, y.val) :: encM ek ev (delM C x)) := by
    rw [h4, h5]
    exact hd.map (fun p => (ek p.1, ev p.2))
  exact (hp.trans he).cons_inv
theorem update_run (hK : KeyOK P k K) (hk : ∀ a : κ, K (ek a)) (hinj : ∀ a b : κ, ek a = ek b → a = b) (hT : MapTy P t k e) (hm : MpV g (encM ek ev C) w) {v : ν} (hC : ((x, v) :: delM C x).Perm C') :
    ∃ w', (Instr.mapUpdate t (.map (some g)) (ek x) (ev v)).run P w = .ok () w' ∧ Out [g] w w' ∧ MpV g (encM ek ev C') w' := by
  obtain ⟨es, clock, hb, hm⟩ := hm
  have hes : ∀ y ∈ es.toList, K y.key := fun y hy => by
    obtain ⟨p, _, h1, _⟩ := keys_es hm hy
    rw [h1]; exact hk _
  have hC2 : (encM ek ev ((x, v) :: delM C x)).Perm (encM ek ev C') := hC.map _
  rcases hK.find w (ek x) (hk x) es.toList hes with ⟨h1, h2⟩ | ⟨j, y, h1, h2, h3⟩
  · have hd : delM C x = C := List.filter_eq_self.2 fun p hp => by
      have h4 : (ek p.1, ev p.2) ∈ es.toList.map (fun e => (e.key, e.val)) := hm.perm.mem_iff.2 (List.mem_map.2 ⟨p, hp, rfl⟩)
      obtain ⟨y, hy, he⟩ := List.mem_map.1 h4
      injection he with h5 _
      have : p.1 ≠ x := fun e => h2 y hy (by rw [h5, e])
      simp [this]
    refine ⟨_, ?_, out_set hb, es.push ⟨ek x, ev v, clock⟩, clock + 1, heap_setBlock_same hb _, stamped_push hm.st h2, ?_⟩
    · simp [Instr.mapUpdate, run_underlying hT, MapKept.run_getObj_map hb, hK.check w false _ (hk x), h1, MapKept.run_setObj_map _ hb, Result.andThen, setBlock]
    · rw [Array.toList_push, List.map_append, List.map_singleton]
      refine (List.perm_append_singleton _ _).trans (List.Perm.trans ?_ hC2)
      rw [hd]
      exact hm.perm.cons _
  · have hj : es[j]? = some y := by simpa using h2
    have hjl : j < es.toList.length := (List.getElem?_eq_some_iff.1 h2).1
    have hkeyf : ∀ e', es[j]? = some e' → ({ e' with key := ek x, val := ev v } : MapEntry).key = e'.key := fun e' he' => by rw [hj] at he'; cases he'; exact h3.symm
    have hlist : (es.modify j (fun e' => { e' with key := ek x, val := ev v })).toList = es.toList.set j { y with key := ek x, val := ev v } := by rw [Array.toList_modify, ChangeMaps.modify_eq_set _ _ _ _ h2]
    refine ⟨_, ?_, out_set hb, es.modify j (fun e' => { e' with key := ek x, val := ev v }), clock, heap_setBlock_same hb _, stamped_modify hm.st _ _ (fun _ _ => rfl) (fun e' _ he' => hkeyf e' he'), ?_⟩
    · simp [Instr.mapUpdate, run_underlying hT, MapKept.run_getObj_map hb, hK.check w false _ (hk x), h1, hj, h3, hK.stays w _ (hk x), MapKept.run_setObj_map _ hb, Result.andThen, setBlock]
    · rw [hlist]
      refine List.Perm.trans ((ChangeMaps.set_perm _ _ hjl _).map _) (List.Perm.trans ?_ hC2)
      rw [List.map_cons]
      exact (del_perm hinj hm h2 h3).cons _
theorem delete_run (hK : KeyOK P k K) (hk : ∀ a : κ, K (ek a)) (hinj : ∀ a b : κ, ek a = ek b → a = b) (hT : MapTy P t k e) (hm : MpV g (encM ek ev C) w) (hC : (delM C x).Perm C') :
    ∃ w', (Builtin.delete_ #[t, k] ty #[.map (some g), ek x]).run P w = .ok (.tuple #[]) w' ∧ Out [g] w w' ∧ MpV g (encM ek ev C') w' := by
  obtain ⟨es, clock, hb, hm⟩ := hm
  have hes : ∀ y ∈ es.toList, K y.key := fun y hy => by
    obtain ⟨p, _, h1, _⟩ := keys_es hm hy
    rw [h1]; exact hk _
  have hC2 : (encM ek ev (delM C x)).Perm (encM ek ev C') := hC.map _
  rcases hK.find w (ek x) (hk x) es.toList hes with ⟨h1, h2⟩ | ⟨j, y, h1, h2, h3⟩
  · have hd : delM C x = C := List.filter_eq_self.2 fun p hp => by
      have h4 : (ek p.1, ev p.2) ∈ es.toList.map (fun e => (e.key, e.val)) := hm.perm.mem_iff.2 (List.mem_map.2 ⟨p, hp, rfl⟩)
      obtain ⟨y, hy, he⟩ := List.mem_map.1 h4
      injection he with h5 _
      have : p.1 ≠ x := fun e => h2 y hy (by rw [h5, e])
      simp [this]
    refine ⟨_, ?_, out_set hb, es, clock, heap_setBlock_same hb _, hm.st, ?_⟩
    · simp [Builtin.delete_, run_underlying hT, MapKept.run_getObj_map hb, hK.check w _ _ (hk x), h1, MapKept.run_setObj_map _ hb, Result.andThen, setBlock]
    · rw [hd] at hC2
      exact hm.perm.trans hC2
  · have hjl : j < es.toList.length := (List.getElem?_eq_some_iff.1 h2).1
    have hjs : j < es.size := by simpa using hjl
    have hsub : (es.eraseIdxIfInBounds j).toList = es.toList.eraseIdx j := by
      unfold Array.eraseIdxIfInBounds
      rw [dif_pos hjs]
      simp
    refine ⟨_, ?_, out_set hb, es.eraseIdxIfInBounds j, clock, heap_setBlock_same hb _, stamped_erase hm.st j, ?_⟩
    · simp [Builtin.delete_, run_underlying hT, MapKept.run_getObj_map hb, hK.check w _ _ (hk x), h1, MapKept.run_setObj_map _ hb, Result.andThen, setBlock]
    · rw [hsub]
      exact (del_perm hinj hm h2 h3).trans hC2
end
def ItV (r g : Nat) (es : Array MapEntry) (clock : Nat) (rest : List (Value × Value)) (w : World) : Prop :=
  ∃ since seen c0, w.heap[r]? = some (.mapIter (some g) since seen c0) ∧ (∀ x ∈ es.toList, x.born < since) ∧ since ≤ c0 ∧ since ≤ clock ∧ Stamped es clock ∧ ((leftOf es seen).toList.map fun e => (e.key, e.val)).Perm rest
theorem ItV.loc (r g : Nat) (es : Array MapEntry) (clock : Nat) (rest : List (Value × Value)) : Loc [r] (ItV r g es clock rest) := fun _ _ hk ⟨since, seen, c0, h, hm⟩ =>
  ⟨⟨since, seen, c0, (hk r (by simp)).trans h, hm⟩, fun g' hg => by simp only [List.mem_singleton] at hg; subst hg; exact lt_of_some h⟩
def ItN (r g : Nat) (es : Array MapEntry) (clock : Nat) (rest : List (Value × Value)) (p : Value × Value) (w : World) : Prop :=
  ItV r g es clock rest w ∧ ∃ (since : Nat) (seen : Array Nat) (y : MapEntry), w.heap[r]? = some (.mapIter (some g) since (seen.push y.born) clock) ∧ y ∈ es.toList ∧ (y.key, y.val) = p
theorem ItN.loc (r g : Nat) (es : Array MapEntry) (clock : Nat) (rest : List (Value × Value)) (p : Value × Value) : Loc [r] (ItN r g es clock rest p) := fun w w' hk ⟨h1, since, seen, y, h2, h3⟩ =>
  ⟨⟨(ItV.loc r g es clock rest w w' hk h1).1, since, seen, y, (hk r (by simp)).trans h2, h3⟩, (ItV.loc r g es clock rest w w' hk h1).2⟩
section
variable {P : Program} {w : World} {t k e ty : TypeId} {g r : Nat} {es : Array MapEntry} {clock : Nat} {l rest : List (Value × Value)}
theorem range_run (hT : MapTy P t k e) (hb : w.heap[g]? = some (.map es clock)) (hm : MapIs es clock l) :
    ∃ w', (Instr.range t (.map (some g))).run P w = .ok (.pointer (some ⟨w.heap.size, 0, none⟩)) w' ∧ Below w.heap.size w w' ∧ ItV w.heap.size g es clock l w' := by
  refine ⟨_, run_range_map w t k e g es clock hT hb, ⟨rfl, rfl, rfl, by simp, fun i hi => heap_alloc_old w _ hi⟩, clock, #[], clock, heap_alloc_new w _, hm.st.1, Nat.le_refl _, Nat.le_refl _, hm.st, ?_⟩
  rw [show leftOf es #[] = es by simp [leftOf]]
  exact hm.perm
theorem next_run (hb : w.heap[g]? = some (.map es clock)) (hi : ItV r g es clock rest w) (hne : r ≠ g) :
    (rest = [] ∧ (Instr.next (.pointer (some ⟨r, 0, none⟩)) false ty).run P w = .ok (.tuple #[.bool false]) w) ∨
    ∃ p rest' w', rest.Perm (p :: rest') ∧ (Instr.next (.pointer (some ⟨r, 0, none⟩)) false ty).run P w = .ok (.tuple #[.bool true, p.1, p.2]) w' ∧ Out [r] w w' ∧ ItN r g es clock rest' p w' := by
  obtain ⟨since, seen, c0, hr, hold, hsc, hck, hst, hp⟩ := hi
  rcases run_next_at (P := P) w ty r g since c0 seen es clock hr hb hold hsc with ⟨h0, hrun⟩ | ⟨y, hy, w1, hal, hrun⟩
  · refine .inl ⟨?_, hrun⟩
    have : leftOf es seen = #[] := Array.eq_empty_of_size_eq_zero h0
    rw [this] at hp
    exact hp.symm.eq_nil
  · obtain ⟨hym, hys⟩ := mem_left hy
    have hsub : ((leftOf es seen).toList.map fun e => (e.key, e.val)).Perm ((y.key, y.val) :: ((leftOf es (seen.push y.born)).toList.map fun e => (e.key, e.val))) := by
      rw [← List.map_cons (f := fun e : MapEntry => (e.key, e.val))]
      refine List.Perm.map _ ?_
      have hbn := ((stamped_iff es clock).1 hst).2.1
      have hmem : ∀ z ∈ es.toList, z.born = y.born → z = y := fun z hz h => born_inj hbn hz hym h
      have e1 : (leftOf es seen).toList = es.toList.filter fun e => !seen.contains e.born := by unfold leftOf; simp
      have e2 : (leftOf es (seen.push y.born)).toList = es.toList.filter fun e => !seen.contains e.born && !(e.born == y.born) := by
        unfold leftOf
        rw [Array.toList_filter]
        refine List.filter_congr fun z _ => ?_
        rw [contains_push]
        cases seen.contains z.born <;> cases z.born == y.born <;> rfl
      rw [e1, e2]
      clear hrun hp hr hb e1 e2 hold hst
      generalize es.toList = L at hym hbn hmem
      induction L with
      | nil => cases hym
      | cons z r ih =>
        have hbn' := List.nodup_cons.1 (show (z.born :: r.map (·.born)).Nodup from hbn)
        rcases List.mem_cons.1 hym with e | h3
        · subst e
          have h4 : ∀ u ∈ r, (u.born == y.born) = false := fun u hu => by
            cases hq : u.born == y.born with
            | false => rfl
            | true => exact absurd (List.mem_map.2 ⟨u, hu, beq_iff_eq.1 hq⟩) hbn'.1
          rw [List.filter_cons, List.filter_cons]
          simp only [hys, Bool.not_false, if_true, beq_self_eq_true, Bool.not_true, Bool.and_false, Bool.false_eq_true, if_false]
          have h5 : r.filter (fun e => !seen.contains e.born && !(e.born == y.born)) = r.filter (fun e => !seen.contains e.born) := List.filter_congr (fun u hu => by rw [h4 u hu]; simp)
          rw [h5]
        · have hz : (z.born == y.born) = false := by
            cases hq : z.born == y.born with
            | false => rfl
            | true => exact absurd (by rw [beq_iff_eq.1 hq]; exact List.mem_map.2 ⟨y, h3, rfl⟩) hbn'.1
          have := ih h3 hbn'.2 (fun u hu h => hmem u (List.mem_cons_of_mem _ hu) h)
          rw [List.filter_cons, List.filter_cons, hz]
          cases seen.contains z.born with
          | true => simpa using this
          | false =>
            simp only [Bool.not_false, Bool.and_self, if_true]
            exact (this.cons z).trans (List.Perm.swap _ _ _)
    have hr1 : w1.heap[r]? = some (.mapIter (some g) since seen c0) := by rcases hal with rfl | rfl <;> exact hr
    have hset := heap_set (o' := .mapIter (some g) since (seen.push y.born) clock) hr1
    refine .inr ⟨(y.key, y.val), _, _, hp.symm.trans hsub, hrun, ?_, ⟨since, seen.push y.born, clock, hset.1, hold, hck, hck, hst, List.Perm.refl _⟩, since, seen, y, hset.1, hym, rfl⟩
    rcases hal with rfl | rfl <;> exact ⟨rfl, rfl, rfl, by simp [setBlock], fun i _ hi => hset.2 i (fun e1 => hi (by simp [e1]))⟩
theorem entry_run {p : Value × Value} (hb : w.heap[g]? = some (.map es clock)) (hi : ItN r g es clock rest p w) : (Instr.entry (.pointer (some ⟨r, 0, none⟩))).run P w = .ok (.tuple #[p.1, p.2]) w := by
  obtain ⟨⟨_, _, _, _, _, _, _, hst, _⟩, since, seen, y, hr, hy, rfl⟩ := hi
  exact run_entry_at w r g since seen es clock y hr hb hy ((stamped_iff es clock).1 hst).2.1
end
end Go.Proofs.Ytcobpabmmbcjcaa
namespace Go.Proofs.Ytcobpabmmbcjcaa
open Go.RowKit
set_option maxRecDepth 100000
set_option linter.unusedSimpArgs false
set_option linter.unusedVariables false
inductive HV where
  | val (v : Value)
  | new (t : TypeId) (cs : Array Value)
def HV.value (g : Nat) : HV → Value
  | .val v => v
  | .new _ _ => .pointer (some ⟨g, 0, none⟩)
def HV.old : HV → Bool
  | .val _ => true
  | .new _ _ => false
def headL (g : Nat) : List Oper → List HV → List (Nat × Value) → List (Nat × Value)
  | o :: os, h :: hs, L => headL g os hs (match o.dst with | some d => (d, h.value g) :: L | none => L)
  | _, _, L => L
def HV.told (B : Nat) (x : Value) (w : World) : HV → Prop
  | .val v => x = v
  | .new t cs => ∃ g, x = .pointer (some ⟨g, 0, none⟩) ∧ Blk w g t cs ∧ B ≤ g
def told (B : Nat) (vals : List HV) (i : Nat) (x : Value) (w : World) : Prop := ∀ h, vals[i]? = some h → h.told B x w
section
variable {P : Program} {Q : Exit → Act → World → Prop} {R : List Nat} {w0 w : World} {a : Act} {n : Nat} {L : List (Nat × Value)} {B : List Ent} {l : List Oper}
def HeadOK (P : Program) (Q : Exit → Act → World → Prop) (l : List Oper) (nh : Nat) (vals : List HV) (a : Act) (n : Nat) (w : World) (i : Nat) (o : Oper) : Prop :=
  ∀ (a' : Act) (w' : World), Below w.heap.size w w' → Fr a' n [] →
    (∀ j oj d v, Region.waitsFor .any l.toArray i j = true → (l.take nh)[j]? = some oj → oj.dst = some d → vals[j]? = some (.val v) → a'.tmps.getD d undef = v) →
    (∀ s, ((l.take nh).all fun oj => oj.dst != some s) = true → a'.tmps.getD s undef = a.tmps.getD s undef) →
    Region.wanted o (yielded l.toArray a'.tmps) = true ∧ o.wp P a' w' (fun a'' w'' => ∃ x, a'' = a'.put o.dst x ∧ Below w'.heap.size w' w'' ∧ told w.heap.size vals i x w'') Q
def HeadsOK (P : Program) (Q : Exit → Act → World → Prop) (l : List Oper) (nh : Nat) (vals : List HV) (a : Act) (n : Nat) (w : World) : Nat → List Oper → Prop
  | _, [] => True
  | i, o :: os => HeadOK P Q l nh vals a n w i o ∧ HeadsOK P Q l nh vals a n w (i + 1) os
theorem heads_get {nh : Nat} {vals : List HV} : ∀ (os : List Oper) (k : Nat), HeadsOK P Q l nh vals a n w k os → ∀ i o, os[i]? = some o → HeadOK P Q l nh vals a n w (k + i) o
  | [], _, _, i, o, h => by simp at h
  | o' :: os, k, h, 0, o, hi => by
    have : o' = o := by simpa using hi
    subst this
    exact h.1
  | o' :: os, k, h, i + 1, o, hi => by
    have := heads_get os (k + 1) h.2 i o (by simpa using hi)
    rwa [show k + 1 + i = k + (i + 1) by omega] at this
theorem puts_fr {g : Nat} : ∀ (hs : List Oper) (vals : List HV) (k : Nat) (v : Nat → Value) (a : Act) (L : List (Nat × Value)), hs.length = vals.length →
    (hs.all fun o => match o.dst with | some d => Nat.blt d n | none => true) = true → (∀ i h, vals[i]? = some h → v (k + i) = h.value g) → Fr a n L → Fr (putsFrom (fun _ => true) v hs k a) n (headL g hs vals L)
  | [], [], _, _, _, _, _, _, _, F => F
  | o :: os, h :: hs, k, v, a, L, hl, hd, hv, F => by
    simp only [List.all_cons, Bool.and_eq_true] at hd
    have h0 : v k = h.value g := hv 0 h rfl
    simp only [putsFrom, if_true, headL, h0]
    refine puts_fr os hs (k + 1) v _ _ (by simpa using hl) hd.2 (fun i h' hi => by have := hv (i + 1) h' (by simpa using hi); rwa [show k + (i + 1) = k + 1 + i by omega] at this) ?_
    cases ho : o.dst with
    | none => exact F
    | some d =>
      rw [ho] at hd
      exact F.put hd.1
theorem told_keep (b : Nat) (vals : List HV) : ∀ i x w w', told b vals i x w → Below w.heap.size w w' → told b vals i x w' := by
  intro i x w w' h hb hv hi
  have := h hv hi
  cases hv with
  | val v => exact this
  | new t cs =>
    obtain ⟨g, h1, h2, h3⟩ := this
    exact ⟨g, h1, h2.below hb h2.lt, h3⟩
theorem Mm.with (M : Mm R w0 w B) {w' : World} (hb : Below w.heap.size w w') {g : Nat} {t : TypeId} {cs : Array Value} (h : Blk w' g t cs) (hg : w.heap.size ≤ g) : Mm R w0 w' (.blk g t cs :: B) :=
  M.add hb (x := .blk g t cs) h (fun k hk => by simp only [Ent.fp, List.mem_singleton] at hk; omega) (fun k hk => by cases hk)
theorem rg_heads {id : Nat} (F : Fr a n L) (M : Mm R w0 w B) (nh : Nat) (vals : List HV) (ia : Nat) {t : TypeId} {cs : Array Value} (hia : vals[ia]? = some (.new t cs)) (honly : ((List.range vals.length).all fun i => Nat.beq i ia || (match vals[i]? with | some h => h.old | none => true)) = true)
    (hm : P.follows .mixedOrders = true) (hB : headsG l.toArray (l.take nh) (l.drop nh).length = true) (hsz : ((l.take nh).all fun o => match o.dst with | some d => Nat.blt d n | none => true) = true) (hlen : (l.take nh).length = vals.length)
    (hop : HeadsOK P Q l nh vals a n w 0 (l.take nh))
    (hend : ∀ a' w' g, Fr a' n (headL g (l.take nh) vals L) → Mm R w0 w' (.blk g t cs :: B) → wpList P l.toArray Q (l.drop nh) a' w') : (Code.region id l.toArray true).wp P Q a w := by
  refine region_relG nh (told w.heap.size vals) hm hB ?_ (told_keep _ _) ?_ ?_
  · rw [List.all_eq_true] at hsz ⊢
    intro o ho
    have := hsz o ho
    cases hd : o.dst with
    | none => rfl
    | some d =>
      rw [hd] at this
      have hlt : d < n := Nat.le_of_ble_eq_true this
      simpa [F.size] using hlt
  · intro i o hi a' v w' hb hV hdep hold hsame
    have := heads_get (l.take nh) 0 hop i o hi
    rw [Nat.zero_add] at this
    refine this a' w' hb ⟨?_, ?_, fun h => by cases h⟩ (fun j oj d v' hj ho hd hv => ?_) hold
    · rw [hsame.1, F.size]
    · rw [hsame.2, F.defers]
    · rw [hdep j oj d hj ho hd]
      exact hV j hj (.val v') hv
  · intro v w' hb hV
    have hil : ia < vals.length := by
      rcases Nat.lt_or_ge ia vals.length with h | h
      · exact h
      · rw [List.getElem?_eq_none h] at hia; cases hia
    obtain ⟨g, hg1, hg2, hg3⟩ := hV ia (by omega) _ hia
    refine hend _ _ g (puts_fr _ _ 0 v a L hlen hsz (fun i h hi => ?_) F) (M.with hb hg2 hg3)
    rw [Nat.zero_add]
    have hi' : i < vals.length := by
      rcases Nat.lt_or_ge i vals.length with h | h
      · exact h
      · rw [List.getElem?_eq_none h] at hi; cases hi
    by_cases hii : i = ia
    · subst hii
      rw [hia] at hi
      injection hi with hi
      subst hi
      exact hg1
    · have ho := List.all_eq_true.1 honly i (List.mem_range.2 hi')
      rw [hi] at ho
      have hb' : Nat.beq i ia = false := by
        cases hbq : Nat.beq i ia
        · rfl
        · exact absurd (Nat.eq_of_beq_eq_true hbq) hii
      rw [hb', Bool.false_or] at ho
      cases h with
      | val u => exact hV i (by omega) _ hi
      | new _ _ => cases ho
variable {o : Oper} {nh i : Nat} {vals : List HV} {a' : Act} {w' : World} {v : Value} {L' : List (Nat × Value)}
theorem ob_rd (hw : Region.wanted o (yielded l.toArray a'.tmps) = true) (hp : Rdy P o a' (fun x => x = w') v) (hv : vals[i]? = some (.val v)) :
    Region.wanted o (yielded l.toArray a'.tmps) = true ∧ o.wp P a' w' (fun a'' w'' => ∃ x, a'' = a'.put o.dst x ∧ Below w'.heap.size w' w'' ∧ told w.heap.size vals i x w'') Q :=
  ⟨hw, ow_value v w' (hp w' rfl) (Below.refl _ _) (fun h hh => by rw [hv] at hh; injection hh with hh; subst hh; rfl)⟩
theorem ob_call (hw : Region.wanted o (yielded l.toArray a'.tmps) = true) {f : FuncId} {xs : List Operand} {ts : Array TypeId} {args : List Value} (ho : o.op = .call { callee := .value (.func f), args := xs.toArray, argTypes := ts })
    (he : enters P f = true) (ha : xs.map a'.eval = args) (hc : Calls P f args.toArray w' fun e w'' => e = .returned v ∧ Below w'.heap.size w' w'') (hv : vals[i]? = some (.val v)) :
    Region.wanted o (yielded l.toArray a'.tmps) = true ∧ o.wp P a' w' (fun a'' w'' => ∃ x, a'' = a'.put o.dst x ∧ Below w'.heap.size w' w'' ∧ told w.heap.size vals i x w'') Q :=
  ⟨hw, ow_call f xs ts ho he args ha v hc (fun _ _ h hh => by rw [hv] at hh; injection hh with hh; subst hh; rfl)⟩
theorem ob_alloc (hw : Region.wanted o (yielded l.toArray a'.tmps) = true) (hb : Below w.heap.size w w') {t : TypeId} (ho : o.op = .alloc t) {cs : Array Value} (hz : (P.info? t).map (fun i => i.zero.map (·.cells)) = some (some cs)) (hv : vals[i]? = some (.new t cs)) :
    Region.wanted o (yielded l.toArray a'.tmps) = true ∧ o.wp P a' w' (fun a'' w'' => ∃ x, a'' = a'.put o.dst x ∧ Below w'.heap.size w' w'' ∧ told w.heap.size vals i x w'') Q := by
  refine ⟨hw, ?_⟩
  cases hq : P.info? t with
  | none => simp [hq] at hz
  | some inf =>
    simp only [hq, Option.map_some, Option.some.injEq] at hz
    obtain ⟨z, hz1, hz2⟩ := Option.map_eq_some_iff.1 hz
    refine ow_alloc t ho z (by simp [hq, hz1]) (fun h hh => ?_)
    rw [hv] at hh
    injection hh with hh
    subst hh
    rw [hz2]
    exact ⟨_, rfl, Blk.new _ _ _, hb.size⟩
theorem Fr.dep (_F : Fr a' n []) (hdep : ∀ j oj d v, Region.waitsFor .any l.toArray i j = true → (l.take nh)[j]? = some oj → oj.dst = some d → vals[j]? = some (.val v) → a'.tmps.getD d undef = v) (j : Nat) {oj : Oper} {d : Nat} (h1 : Region.waitsFor .any l.toArray i j = true)
    (h2 : (l.take nh)[j]? = some oj) (h3 : oj.dst = some d) (h4 : vals[j]? = some (.val v)) : a'.tmps.getD d undef = v := hdep j oj d v h1 h2 h3 h4
theorem Fr.was (F : Fr a n L) (hold : ∀ s, ((l.take nh).all fun oj => oj.dst != some s) = true → a'.tmps.getD s undef = a.tmps.getD s undef) {s : Nat} (h1 : ((l.take nh).all fun oj => oj.dst != some s) = true) (h2 : look L s = some v) : a'.tmps.getD s undef = v := by
  rw [hold s h1, F.get h2]
end
section
variable {P : Program} {a : Act} {n : Nat} {L : List (Nat × Value)} {w : World} {fn : Func} {Z : Ending → World → Prop} {k j : Nat} {v u : Value}
theorem rt_none (F : Fr a n L) (hr : fn.results = #[]) (hR : Z (.returned (.tuple #[])) w) : bodyPost P fn Z .ret a w := bodyPost_ret (results_none hr _ _ _) F.defers hR
theorem rt_end (F : Fr a n L) (hr : fn.results = #[]) (hR : Z (.returned (.tuple #[])) w) : bodyPost P fn Z .normal a w := bodyPost_end (results_none hr _ _ _) F.defers hR
theorem rt_tmp2 (F : Fr a n L) (hr : fn.results = #[.tmp k, .tmp j]) (hv : look L k = some v) (hu : look L j = some u) (hR : Z (.returned (.tuple #[v, u])) w) : bodyPost P fn Z .ret a w :=
  bodyPost_ret (by rw [results_tmp2 hr, F.get hv, F.get hu]) F.defers hR
end
end Go.Proofs.Ytcobpabmmbcjcaa
namespace Go.Proofs.Ytcobpabmmbcjcaa
open Go.RowKit
set_option maxRecDepth 100000
set_option linter.unusedSimpArgs false
set_option linter.unusedVariables false
def setB (D : Nat → Bool) (i : Nat) : Nat → Bool := fun j => if j = i then true else D j
def setV (v : Nat → Value) (i : Nat) (x : Value) : Nat → Value := fun j => if j = i then x else v j
section
variable {P : Program} {Q : Exit → Act → World → Prop} (hs tl : List Oper) (J : (Nat → Bool) → (Nat → Value) → World → Prop) (a0 : Act)
theorem wpAny_J (hB : headsG (hs ++ tl).toArray hs tl.length = true) (hsz : ∀ o ∈ hs, ∀ d, o.dst = some d → d < a0.tmps.size)
    (hop : ∀ i o, hs[i]? = some o → ∀ (D : Nat → Bool) (a : Act) (v : Nat → Value) (w : World), J D v w → D i = false → (∀ j, Region.waitsFor .any (hs ++ tl).toArray i j = true → D j = true) → (∀ i j, D i = true → Region.waitsFor .any (hs ++ tl).toArray i j = true → D j = true) →
      (∀ j oj d, D j = true → hs[j]? = some oj → oj.dst = some d → a.tmps.getD d undef = v j) → (∀ s, (∀ oj ∈ hs, oj.dst ≠ some s) → a.tmps.getD s undef = a0.tmps.getD s undef) → (a.tmps.size = a0.tmps.size ∧ a.defers = a0.defers) →
      Region.wanted o (yielded (hs ++ tl).toArray a.tmps) = true ∧ o.wp P a w (fun a' w' => ∃ x, a' = a.put o.dst x ∧ J (setB D i) (setV v i x) w') Q)
    (hend : ∀ v w, J (fun j => decide (j < hs.length)) v w → wpList P (hs ++ tl).toArray Q tl (putsFrom (fun _ => true) v hs 0 a0) w) :
    ∀ (m : Nat) (L : Array Bool) (v : Nat → Value) (w : World), L.size = hs.length + tl.length → (∀ i j, L.getD i false = true → Region.waitsFor .any (hs ++ tl).toArray i j = true → L.getD j false = true) → (∀ t, hs.length ≤ t → L.getD t false = false) → ((List.range hs.length).filter fun i => !L.getD i false).length = m →
      J (fun j => L.getD j false) v w → wpAny P .any (hs ++ tl).toArray Q (m + tl.length) L (putsFrom (fun j => L.getD j false) v hs 0 a0) w := by
  simp only [headsG, Bool.and_eq_true] at hB
  obtain ⟨⟨⟨hd, hback⟩, htail⟩, hseq⟩ := hB
  intro m
  induction m with
  | zero =>
    intro L v w hsize hcl htl hm hJ
    have hall : ∀ i, i < hs.length → L.getD i false = true := fun i hi => by
      have := List.eq_nil_of_length_eq_zero hm
      have h2 := List.filter_eq_nil_iff.1 this i (List.mem_range.2 hi)
      simpa using h2
    have hL : L = (List.replicate hs.length true ++ List.replicate tl.length false).toArray := by
      apply Array.ext
      · simp [hsize]
      · intro i h1 h2
        by_cases hi : i < hs.length
        · have := hall i hi
          simp only [Array.getD_eq_getD_getElem?, Array.getElem?_eq_getElem h1, Option.getD_some] at this
          rw [this]
          simp [List.getElem_append_left, hi]
        · have := htl i (by omega)
          simp only [Array.getD_eq_getD_getElem?, Array.getElem?_eq_getElem h1, Option.getD_some] at this
          rw [this]
          rw [List.getElem_toArray, List.getElem_append_right (by simpa using hi), List.getElem_replicate]
    rw [Nat.zero_add]
    rw [puts_congr (L := fun j => L.getD j false) (L' := fun _ => true) (v := v) (v' := v) hs 0 a0 (fun j _ h2 => ⟨hall j (by omega), fun _ => rfl⟩)]
    refine wpAny_of_seq tl hs.length L _ w (fun j => by simp [List.getElem?_append_right]) (by rw [hL]; exact hseq) ?_
    refine hend v w ?_
    have e : (fun j => L.getD j false) = fun j => decide (j < hs.length) := by
      funext j
      by_cases hj : j < hs.length
      · rw [hall j hj]; simp [hj]
      · rw [htl j (by omega)]; simp [hj]
    rwa [e] at hJ
  | succ m ih =>
    intro L v w hsize hcl htl hm hJ
    have hex : ∃ u, u < hs.length ∧ L.getD u false = false ∧ ∀ j, j < u → L.getD j false = true := by
      have hne : ((List.range hs.length).filter fun i => !L.getD i false) ≠ [] := by intro h; rw [h] at hm; simp at hm
      have hx : ∃ u, u < hs.length ∧ L.getD u false = false := by
        obtain ⟨u, hu⟩ := List.exists_mem_of_ne_nil _ hne
        simp only [List.mem_filter, List.mem_range, Bool.not_eq_true'] at hu
        exact ⟨u, hu⟩
      obtain ⟨u, hu1, hu2⟩ := hx
      induction u using Nat.strongRecOn with
      | ind u ihu =>
        by_cases hc : ∃ j, j < u ∧ L.getD j false = false
        · obtain ⟨j, hj1, hj2⟩ := hc
          exact ihu j hj1 (by omega) hj2
        · exact ⟨u, hu1, hu2, fun j hj => by
            cases hb : L.getD j false with
            | true => rfl
            | false => exact absurd ⟨j, hj, hb⟩ hc⟩
    obtain ⟨u, hu1, hu2, hu3⟩ := hex
    have flip : ∀ i, i < L.size → L.getD i true = L.getD i false := fun i hi => by simp [Array.getElem?_eq_getElem hi]
    rw [show m + 1 + tl.length = (m + tl.length) + 1 by omega]
    refine ⟨fun hr => ?_, fun i hi => ?_⟩
    · exfalso
      have hmem : u ∈ Region.ready .any (hs ++ tl).toArray L := by
        unfold Region.ready
        simp only [List.mem_filter, List.mem_range, Bool.and_eq_true, Bool.not_eq_true']
        refine ⟨by simp; omega, by rw [flip u (by omega)]; exact hu2, ?_⟩
        have hb := List.all_eq_true.1 hback u (List.mem_range.2 hu1)
        cases ho : (hs ++ tl).toArray[u]? with
        | none => rw [ho] at hb; simp at hb
        | some o =>
          rw [ho] at hb
          simp only [Option.map_some, Option.getD_some, Array.all_eq_true_iff_forall_mem] at hb ⊢
          intro e he
          have := hb e he
          simp only [Bool.or_eq_true, Bool.not_eq_true', decide_eq_true_eq] at this ⊢
          rcases this with h | h
          · exact .inl h
          · exact .inr (hu3 _ h)
      rw [hr] at hmem
      cases hmem
    · obtain ⟨hi1, hi2, hdeps⟩ := ready_spec hi
      have hisz : i < L.size := by rw [hsize]; simpa using hi1
      have hin : i < hs.length := by
        rcases Nat.lt_or_ge i hs.length with h | h
        · exact h
        · exfalso
          have h1 := List.all_eq_true.1 htail (i - hs.length) (List.mem_range.2 (by rw [hsize] at hisz; omega))
          have h2 := List.all_eq_true.1 h1 u (List.mem_range.2 hu1)
          rw [show hs.length + (i - hs.length) = i by omega] at h2
          rw [anc_listed (L := fun j => L.getD j false) hcl 24 i u hdeps h2] at hu2
          cases hu2
      have hLi : L.getD i false = false := by rw [← flip i hisz]; exact hi2
      have hoi : hs[i]? = some hs[i] := List.getElem?_eq_getElem hin
      have hops : (hs ++ tl).toArray[i]? = some hs[i] := by simp [List.getElem?_append_left hin]
      unfold wpOp
      rw [hops]
      have hboth := hop i hs[i] hoi (fun j => L.getD j false) (putsFrom (fun j => L.getD j false) v hs 0 a0) v w hJ hLi hdeps hcl (fun j oj d hj hoj hdj => ?c2) (fun s hsn => puts_out s hs 0 a0 hsn) (puts_same hs 0 a0)
      simp only [hboth.1, if_true]
      refine .inl (Oper.wp_mono ?_ hboth.2)
      · rintro a' w' ⟨x, rfl, hJ'⟩
        have hLn : ∀ j, j ≠ i → (L.setIfInBounds i true).getD j false = L.getD j false := fun j hj => by
          simp [Array.getElem?_setIfInBounds_ne (Ne.symm hj)]
        have hLs : (L.setIfInBounds i true).getD i false = true := by simp [hisz]
        have hput := puts_set (L := fun j => L.getD j false) (L' := fun j => (L.setIfInBounds i true).getD j false) (v := v) (v' := fun j => if j = i then x else v j) (i := i) hLi hLs
          (fun j hj => ⟨hLn j hj, if_neg hj⟩) hs 0 a0 hs[i] hd (Nat.zero_le _) (by simp [hoi])
        simp only [if_true] at hput
        rw [← hput]
        have hLk : ∀ j, L.getD j false = true → (L.setIfInBounds i true).getD j false = true := fun j hj => by
          by_cases hji : j = i
          · subst hji; exact hLs
          · rw [hLn j hji]; exact hj
        refine ih (L.setIfInBounds i true) _ w' (by simp [hsize]) (fun i' j hi' hj' => by
          by_cases hii : i' = i
          · subst hii; exact hLk j (hdeps j hj')
          · rw [hLn i' hii] at hi'; exact hLk j (hcl i' j hi' hj')) (fun t ht => by rw [hLn t (by omega)]; exact htl t ht) ?_ ?_
        · have hfil : ((List.range hs.length).filter fun j => !(L.setIfInBounds i true).getD j false) = ((List.range hs.length).filter fun j => !L.getD j false).filter fun j => j != i := by
            rw [List.filter_filter]
            apply List.filter_congr
            intro j _
            by_cases hj : j = i
            · subst hj; simp [hisz]
            · rw [hLn j hj]; simp [hj]
          have hnd : ((List.range hs.length).filter fun j => !L.getD j false).Nodup := List.Nodup.sublist List.filter_sublist List.nodup_range
          have hmem : i ∈ (List.range hs.length).filter fun j => !L.getD j false := by
            rw [List.mem_filter]
            exact ⟨List.mem_range.2 hin, by rw [hLi]; rfl⟩
          rw [hfil, ← List.Nodup.erase_eq_filter hnd i, List.length_erase_of_mem hmem, hm]
          rfl
        · have e : (fun j => (L.setIfInBounds i true).getD j false) = setB (fun j => L.getD j false) i := by
            funext j
            unfold setB
            by_cases hji : j = i
            · subst hji; rw [hLs]; simp
            · rw [hLn j hji, if_neg hji]
          rw [e]
          exact hJ'
      case c2 =>
        exact puts_in (L := fun j => L.getD j false) hj d hs 0 a0 oj hd (Nat.zero_le _) (by simpa using hoj) hdj (hsz oj (List.mem_of_getElem? hoj) d hdj)
theorem region_J {id : Nat} {w : World} (hm : P.follows .mixedOrders = true) (hB : headsG (hs ++ tl).toArray hs tl.length = true) (hsz : ∀ o ∈ hs, ∀ d, o.dst = some d → d < a0.tmps.size)
    (h0 : ∀ v, J (fun _ => false) v w.drew)
    (hop : ∀ i o, hs[i]? = some o → ∀ (D : Nat → Bool) (a : Act) (v : Nat → Value) (w : World), J D v w → D i = false → (∀ j, Region.waitsFor .any (hs ++ tl).toArray i j = true → D j = true) → (∀ i j, D i = true → Region.waitsFor .any (hs ++ tl).toArray i j = true → D j = true) →
      (∀ j oj d, D j = true → hs[j]? = some oj → oj.dst = some d → a.tmps.getD d undef = v j) → (∀ s, (∀ oj ∈ hs, oj.dst ≠ some s) → a.tmps.getD s undef = a0.tmps.getD s undef) → (a.tmps.size = a0.tmps.size ∧ a.defers = a0.defers) →
      Region.wanted o (yielded (hs ++ tl).toArray a.tmps) = true ∧ o.wp P a w (fun a' w' => ∃ x, a' = a.put o.dst x ∧ J (setB D i) (setV v i x) w') Q)
    (hend : ∀ v w, J (fun j => decide (j < hs.length)) v w → wpList P (hs ++ tl).toArray Q tl (putsFrom (fun _ => true) v hs 0 a0) w) :
    (Code.region id (hs ++ tl).toArray true).wp P Q a0 w := by
  refine wp_region_any hm ?_
  have hrep : ∀ j, (Array.replicate (hs ++ tl).toArray.size false).getD j false = false := fun j => by
    simp only [Array.getD_eq_getD_getElem?, Array.getElem?_replicate]
    split <;> rfl
  have hfl : ((List.range hs.length).filter fun i => !(Array.replicate (hs ++ tl).toArray.size false).getD i false).length = hs.length := by
    rw [List.filter_eq_self.2 (fun i _ => by rw [hrep]; rfl), List.length_range]
  have := wpAny_J (Q := Q) hs tl J a0 hB hsz hop hend hs.length (Array.replicate (hs ++ tl).toArray.size false) (fun _ => undef) w.drew (by simp) (fun i j hi _ => by rw [hrep] at hi; cases hi) (fun t _ => hrep t) hfl (by rw [show (fun j => (Array.replicate (hs ++ tl).toArray.size false).getD j false) = fun _ => false from funext hrep]; exact h0 _)
  have hp : putsFrom (fun j => (Array.replicate (hs ++ tl).toArray.size false).getD j false) (fun _ => undef) hs 0 a0 = a0 := by
    have : ∀ (hs' : List Oper) (k : Nat) (a : Act), putsFrom (fun _ => false) (fun _ => undef) hs' k a = a := by
      intro hs'
      induction hs' with
      | nil => intros; rfl
      | cons o r ih => intro k a; simp only [putsFrom, Bool.false_eq_true, if_false]; exact ih _ _
    rw [puts_congr (L' := fun _ => false) (v' := fun _ => undef) hs 0 a0 (fun j _ _ => ⟨hrep j, fun _ => rfl⟩)]
    exact this hs 0 a0
  rw [hp] at this
  simpa using this
end
section
variable {P : Program} {Q : Exit → Act → World → Prop} {a : Act} {n : Nat} {L : List (Nat × Value)} {l : List Oper} {w : World} {J : (Nat → Bool) → (Nat → Value) → World → Prop} {nh : Nat}
def HeadJ (P : Program) (Q : Exit → Act → World → Prop) (l : List Oper) (nh : Nat) (J : (Nat → Bool) → (Nat → Value) → World → Prop) (a : Act) (n : Nat) (i : Nat) (o : Oper) : Prop :=
  ∀ (D : Nat → Bool) (a' : Act) (v : Nat → Value) (w' : World), J D v w' → D i = false → (∀ j, Region.waitsFor .any l.toArray i j = true → D j = true) → (∀ i j, D i = true → Region.waitsFor .any l.toArray i j = true → D j = true) → Fr a' n [] →
    (∀ j oj d, D j = true → (l.take nh)[j]? = some oj → oj.dst = some d → a'.tmps.getD d undef = v j) → (∀ s, ((l.take nh).all fun oj => oj.dst != some s) = true → a'.tmps.getD s undef = a.tmps.getD s undef) →
    Region.wanted o (yielded l.toArray a'.tmps) = true ∧ o.wp P a' w' (fun a'' w'' => ∃ x, a'' = a'.put o.dst x ∧ J (setB D i) (setV v i x) w'') Q
def HeadsJ (P : Program) (Q : Exit → Act → World → Prop) (l : List Oper) (nh : Nat) (J : (Nat → Bool) → (Nat → Value) → World → Prop) (a : Act) (n : Nat) : Nat → List Oper → Prop
  | _, [] => True
  | i, o :: os => HeadJ P Q l nh J a n i o ∧ HeadsJ P Q l nh J a n (i + 1) os
theorem headsJ_get : ∀ (os : List Oper) (k : Nat), HeadsJ P Q l nh J a n k os → ∀ i o, os[i]? = some o → HeadJ P Q l nh J a n (k + i) o
  | [], _, _, i, o, h => by simp at h
  | o' :: os, k, h, 0, o, hi => by
    have : o' = o := by simpa using hi
    subst this
    exact h.1
  | o' :: os, k, h, i + 1, o, hi => by
    have := headsJ_get os (k + 1) h.2 i o (by simpa using hi)
    rwa [show k + 1 + i = k + (i + 1) by omega] at this
def hvL (v : Nat → Value) : List Oper → Nat → List (Nat × Value) → List (Nat × Value)
  | [], _, L => L
  | o :: os, k, L => hvL v os (k + 1) (match o.dst with | some d => (d, v k) :: L | none => L)
theorem puts_frV {v : Nat → Value} : ∀ (hs : List Oper) (k : Nat) (a : Act) (L : List (Nat × Value)), (hs.all fun o => match o.dst with | some d => Nat.blt d n | none => true) = true → Fr a n L → Fr (putsFrom (fun _ => true) v hs k a) n (hvL v hs k L)
  | [], _, _, _, _, F => F
  | o :: os, k, a, L, hd, F => by
    simp only [List.all_cons, Bool.and_eq_true] at hd
    simp only [putsFrom, if_true, hvL]
    refine puts_frV os (k + 1) _ _ hd.2 ?_
    cases ho : o.dst with
    | none => exact F
    | some d =>
      rw [ho] at hd
      exact F.put hd.1
theorem rg_J {id : Nat} (F : Fr a n L) (nh : Nat) (J : (Nat → Bool) → (Nat → Value) → World → Prop) (h0 : ∀ v, J (fun _ => false) v w.drew) (hm : P.follows .mixedOrders = true) (hB : headsG l.toArray (l.take nh) (l.drop nh).length = true)
    (hsz : ((l.take nh).all fun o => match o.dst with | some d => Nat.blt d n | none => true) = true) (hop : HeadsJ P Q l nh J a n 0 (l.take nh))
    (hend : ∀ v a' w', J (fun j => decide (j < (l.take nh).length)) v w' → Fr a' n (hvL v (l.take nh) 0 L) → wpList P l.toArray Q (l.drop nh) a' w') : (Code.region id l.toArray true).wp P Q a w := by
  have e : l.toArray = (l.take nh ++ l.drop nh).toArray := by rw [List.take_append_drop]
  have hop' := headsJ_get (l.take nh) 0 hop
  rw [e] at hB hend ⊢
  refine region_J (l.take nh) (l.drop nh) J a hm hB ?_ h0 ?_ (fun v w' hj => hend v _ w' hj (puts_frV _ 0 a L hsz F))
  · intro o ho d hd
    have := List.all_eq_true.1 hsz o ho
    rw [hd] at this
    have hlt : d < n := Nat.le_of_ble_eq_true this
    rw [F.size]; exact hlt
  · intro i o hi D a' v w' h1 h2 h3 h4 h5 h6 h7
    rw [← e] at h3 h4 ⊢
    have := hop' i o hi
    rw [Nat.zero_add] at this
    refine this D a' v w' h1 h2 h3 h4 ⟨by rw [h7.1, F.size], by rw [h7.2, F.defers], fun h => by cases h⟩ h5 (fun s hs => h6 s (fun oj hoj he => ?_))
    have := List.all_eq_true.1 hs oj hoj
    simp [he] at this
theorem keepP {D : Nat → Bool} {v : Nat → Value} {i j : Nat} {x c : Value} (hne : Nat.beq j i = false) (h : D j = true → v j = c) : setB D i j = true → setV v i x j = c := by
  have : j ≠ i := fun e => by subst e; simp at hne
  unfold setB setV
  rw [if_neg this, if_neg this]
  exact h
theorem newP {v : Nat → Value} {i : Nat} {x : Value} {D : Nat → Bool} : setB D i i = true → setV v i x i = x := fun _ => by simp [setV]
def Vals (D : Nat → Bool) (v : Nat → Value) (l : List (Nat × Value)) : Prop := ∀ i u, look l i = some u → D i = true → v i = u
theorem Vals.start {v : Nat → Value} {l : List (Nat × Value)} : Vals (fun _ => false) v l := fun _ _ _ h => by cases h
theorem Vals.get {D : Nat → Bool} {v : Nat → Value} {l : List (Nat × Value)} (h : Vals D v l) {i : Nat} {u : Value} (hl : look l i = some u) (hd : D i = true) : v i = u := h i u hl hd
theorem Vals.put {D : Nat → Bool} {v : Nat → Value} {l : List (Nat × Value)} (h : Vals D v l) {i : Nat} {x : Value} (hl : look l i = some x) : Vals (setB D i) (setV v i x) l := fun j u hu hd => by
  unfold setB at hd
  unfold setV
  by_cases e : j = i
  · subst e; rw [if_pos rfl]; rw [hl] at hu; injection hu
  · rw [if_neg e] at hd ⊢; exact h j u hu hd
theorem Vals.new {D : Nat → Bool} {v : Nat → Value} {l : List (Nat × Value)} (h : Vals D v l) {i : Nat} {x : Value} (hl : look l i = none) : Vals (setB D i) (setV v i x) l := fun j u hu hd => by
  unfold setB at hd
  unfold setV
  by_cases e : j = i
  · subst e; rw [hl] at hu; cases hu
  · rw [if_neg e] at hd ⊢; exact h j u hu hd
theorem ow_run {o : Oper} {x : Value} {w w' : World} {K : Act → World → Prop} (hr : (execOp a.eval o).run P w = .ok (.value x) w') (h : K (a.put o.dst x) w') : o.wp P a w K Q := by
  unfold Oper.wp; rw [hr]; exact h
theorem notYet {D : Nat → Bool} {i j : Nat} {ops : Array Oper} (hcl : ∀ i j, D i = true → Region.waitsFor .any ops i j = true → D j = true) (hw : Region.waitsFor .any ops j i = true) (hi : D i = false) : D j = false := by
  cases h : D j
  · rfl
  · have := hcl j i h hw
    rw [hi] at this
    cases this
theorem Mm.dead {R : List Nat} {w0 w : World} {B : List Ent} (M : Mm R w0 w B) : Mm R w0 w (.arg 1 (.slice none 0 0) 0 [] :: B) :=
  M.add (Below.refl _ _) (x := .arg 1 (.slice none 0 0) 0 []) ⟨rfl, none, 0, rfl, Nat.le_refl _, Nat.zero_le _, fun h => absurd h (by omega)⟩ (fun g hg => by cases hg) (fun g hg => by cases hg)
theorem Mm.fresh {R : List Nat} {w0 w : World} {B : List Ent} (M : Mm R w0 w B) {i m k : Nat} {e : TypeId} {m' : Nat} {u : Value} {n' : Nat} {ys : List Value} (hi : B[i]? = some (.arg m' u n' ys)) {cs : Array Value} (hk : k ≤ 1000000) (hc : cs.size = k * m) :
    Mm R w0 (w.alloc (.cells cs e)) (B.set i (.row e m (.slice (some ⟨w.heap.size, 0, none⟩) k k) k cs.toList)) :=
  M.swap hi (x' := .row e m (.slice (some ⟨w.heap.size, 0, none⟩) k k) k cs.toList) (Below.out (bel1 _ _) _) (World.ownsRow_lit w cs k (Nat.zero_le _) (by unfold maxLen; omega) hc) (fun g hg => by simp only [Ent.fp, Value.ownBlock, Option.toList_some, List.mem_singleton] at hg; exact .inr (by omega)) (fun g hg => by cases hg)
theorem Mm.freshRow {R : List Nat} {w0 w w' : World} {B : List Ent} (M : Mm R w0 w B) {i m k : Nat} {t : TypeId} {m' : Nat} {u x : Value} {n' : Nat} {ys xs : List Value} (hi : B[i]? = some (.arg m' u n' ys)) (hb : Below w.heap.size w w') (h : w'.ownsRow w.heap.size t m x k xs) :
    Mm R w0 w' (B.set i (.row t m x k xs)) := by
  exact M.swap hi (x' := .row t m x k xs) (Below.out hb _) (own_zero h) (fun g hg => .inr (World.ownsRow.lt h g (by simpa [Ent.fp] using hg)).1) (fun g hg => by cases hg)
theorem Mm.freshOwn {R : List Nat} {w0 w w' : World} {B : List Ent} (M : Mm R w0 w B) {i : Nat} {m' : Nat} {u : Value} {n' : Nat} {ys : List Value} {fp : List Nat} {Φ : World → Prop} (hi : B[i]? = some (.arg m' u n' ys)) (hb : Below w.heap.size w w') (h : Φ w') (hl : Loc fp Φ) (hf : ∀ g ∈ fp, w.heap.size ≤ g) :
    Mm R w0 w' (B.set i (.own fp Φ)) :=
  M.swap hi (x' := .own fp Φ) (Below.out hb _) ⟨h, hl⟩ (fun g hg => .inr (hf g hg)) (fun g hg => by cases hg)
theorem ow_callZ {o : Oper} {w : World} {K : Act → World → Prop} {f : FuncId} {xs : List Operand} {ts : Array TypeId} {args : List Value} {Z : Value → World → Prop} (ho : o.op = .call { callee := .value (.func f), args := xs.toArray, argTypes := ts })
    (he : enters P f = true) (ha : xs.map a.eval = args) (hc : Calls P f args.toArray w fun e w' => ∃ v, e = .returned v ∧ Z v w') (h : ∀ v w', Z v w' → K (a.put o.dst v) w') : o.wp P a w K Q := by
  unfold Oper.wp
  rw [run_enter he ho w, List.map_toArray, ha]
  refine hc.mono fun e w' ⟨v, h1, h2⟩ => ?_
  subst h1
  exact h _ _ h2
theorem ow_app {o : Oper} {R : List Nat} {w0 w : World} {B : List Ent} {K : Act → World → Prop} {x y : Operand} {v u : Value} {t e : TypeId} {m k i c : Nat} {xs news : List Value} (M : Mm R w0 w B) (ho : o.op = .call { callee := .builtin .append, args := #[x, y], argTypes := #[t, t] }) (ht : P.underlying t = some (.slice e)) {bytes : Nat} (hE : ElTy P e m bytes)
    (hx : a.eval x = v) (hi : B[i]? = some (.row e m v k xs)) (hy : a.eval y = u) (hu : RdV w m u c news) (h1 : ∀ z ∈ news, z.oneCell' = true) (hmax : k + c ≤ 1000000000) (hby : bytes ≤ 1000)
    (h : ∀ v' w', Mm R w0 w' (B.set i (.row e m v' (k + c) (xs ++ news))) → K (a.put o.dst v') w') : o.wp P a w K Q := by
  obtain ⟨v', w', hexec, hM⟩ := app_run M ho ht hE hx hi hy hu h1 (by omega) (by have := Nat.mul_le_mul hmax hby; omega)
  unfold Oper.wp
  rw [hexec]
  exact h _ _ hM
end
end Go.Proofs.Ytcobpabmmbcjcaa
namespace Go.Proofs.Ytcobpabmmbcjcaa
open Go.RowKit Go.MapKept
set_option maxRecDepth 100000
set_option linter.unusedSimpArgs false
set_option linter.unusedVariables false
theorem nil_rd {m : Nat} (w : World) : RdV w m (.slice none 0 0) 0 [] := ⟨by simp, none, 0, rfl, Nat.le_refl _, Nat.zero_le _, fun h => absurd h (by omega)⟩
theorem slc_one {w : World} {m n : Nat} {v : Value} {xs : List Value} (h : RdV w m v n xs) : v.oneCell' = true ∧ v.cells = #[v] := by
  obtain ⟨_, A, c, rfl, _⟩ := h
  exact ⟨rfl, rfl⟩
def TurnsE (w : World) (x : Ent) (Z : Value → Ent → Prop) (e : Ending) (w' : World) : Prop :=
  ∃ (v : Value) (x' : Ent), e = .returned v ∧ Out x.fp w w' ∧ x'.at w' ∧ (∀ g ∈ x'.fp, g ∈ x.fp ∨ w.heap.size ≤ g) ∧ x'.base = [] ∧ Z v x'
def MakesE (w : World) (Z : Value → Ent → Prop) (e : Ending) (w' : World) : Prop :=
  ∃ (v : Value) (x : Ent), e = .returned v ∧ Below w.heap.size w w' ∧ x.at w' ∧ (∀ g ∈ x.fp, w.heap.size ≤ g) ∧ x.base = [] ∧ Z v x
structure MapEn (P : Program) (t k e : TypeId) {κ ν : Type} (ek : κ → Value) (ev : ν → Value) (z : Value) : Prop where
  ty : MapTy P t k e
  keys : ∃ K, KeyOK P k K ∧ ∀ a, K (ek a)
  inj : ∀ a b, ek a = ek b → a = b
  zero : ∀ w, (zeroValue e).run P w = .ok z w
section
variable {P : Program} {ops rest : List Oper} {o : Oper} {a : Act} {n d : Nat} {L : List (Nat × Value)} {Q : Exit → Act → World → Prop} {R : List Nat} {w w0 w' : World} {B B' : List Ent} {v u : Value} {x y z : Operand} {t k e : TypeId} {i g r : Nat} {fp : List Nat} {Φ Ψ : World → Prop}
theorem sq_run (F : Fr a n L) (hw : Region.wanted o (yielded ops.toArray a.tmps) = true) (hr : (execOp a.eval o).run P w = .ok (.value v) w') (hM : Mm R w0 w' B') (hd : o.dst = some d) (hdn : Nat.blt d n = true)
    (h : ∀ a' w', Fr a' n ((d, v) :: L) → Mm R w0 w' B' → wpList P ops.toArray Q rest a' w') : wpList P ops.toArray Q (o :: rest) a w :=
  wpList_step fun K hK => by
    rw [if_pos hw]
    unfold Oper.wp
    rw [hr]
    exact hK _ _ (by rw [hd]; exact h _ _ (F.put hdn) hM)
theorem sq_run0 (F : Fr a n L) (hw : Region.wanted o (yielded ops.toArray a.tmps) = true) (hr : (execOp a.eval o).run P w = .ok (.value v) w' ∨ (execOp a.eval o).run P w = .ok .skip w') (hM : Mm R w0 w' B') (hd : o.dst = none)
    (h : ∀ w', Mm R w0 w' B' → wpList P ops.toArray Q rest a w') : wpList P ops.toArray Q (o :: rest) a w :=
  wpList_step fun K hK => by
    rw [if_pos hw]
    have _ := F.size
    unfold Oper.wp
    rcases hr with hr | hr
    · rw [hr]; exact hK _ _ (by rw [hd]; exact h _ hM)
    · rw [hr]; exact hK _ _ (by rw [hd]; exact h _ hM)
theorem Mm.conv (M : Mm R w0 w B) (h : B[i]? = some (.own fp Φ)) (hi : Φ w → Ψ w) (hL : Loc fp Ψ) : Mm R w0 w (B.set i (.own fp Ψ)) :=
  M.swap h (x' := .own fp Ψ) (Out.refl _ _) ⟨hi (M.pv h), hL⟩ (fun g hg => .inl hg) (fun g hg => by cases hg)
theorem Mm.apart (M : Mm R w0 w B) {j : Nat} {x y : Ent} (hi : B[i]? = some x) (hj : B[j]? = some y) (hne : i ≠ j) : ∀ g ∈ x.fp, ¬ g ∈ y.fp := by
  obtain ⟨h1, rfl⟩ := List.getElem?_eq_some_iff.1 hi
  obtain ⟨h2, rfl⟩ := List.getElem?_eq_some_iff.1 hj
  have hp := List.pairwise_iff_getElem.1 M.nd
  rcases Nat.lt_or_gt_of_ne hne with h | h
  · exact hp i j h1 h2 h
  · exact fun g hg hg' => hp j i h2 h1 h g hg' hg
theorem sq_mkMap (F : Fr a n L) (M : Mm R w0 w B) (hw : Region.wanted o (yielded ops.toArray a.tmps) = true) (ho : o.op = .makeMap t none) (hd : o.dst = some d) (hdn : Nat.blt d n = true)
    (h : ∀ a' w' g, Fr a' n ((d, .map (some g)) :: L) → Mm R w0 w' (.own [g] (MpV g []) :: B) → wpList P ops.toArray Q rest a' w') : wpList P ops.toArray Q (o :: rest) a w :=
  sq_run F hw (v := .map (some w.heap.size)) (w' := w.alloc (.map #[] 0)) (by simp only [execOp, ho]; rfl)
    (M.addOwn (w' := w.alloc (.map #[] 0)) ⟨rfl, rfl, rfl, by simp, fun i hi => heap_alloc_old w _ hi⟩ (show MpV w.heap.size [] (w.alloc (.map #[] 0)) from ⟨#[], 0, heap_alloc_new w _, stamped_empty 0, by simp⟩) (MpV.loc _ _) (fun g hg => by simp only [List.mem_singleton] at hg; omega)) hd hdn (fun a' w' F' M' => h a' w' _ F' M')
end
section
variable {P : Program} {ops rest : List Oper} {o : Oper} {a : Act} {n d : Nat} {L : List (Nat × Value)} {Q : Exit → Act → World → Prop} {R : List Nat} {w w0 w' : World} {B B' : List Ent} {u zv : Value} {x y z : Operand} {t k e : TypeId} {i g r : Nat} {κ ν : Type} [DecidableEq κ] {ek : κ → Value} {ev : ν → Value} {C C' : List (κ × ν)} {kx : κ} {vx : ν} {W : World → Prop}
theorem ld_look (E : MapEn P t k e ek ev zv) (ho : o.op = .lookup t x y false) (hx : a.eval x = .map (some g)) (hy : a.eval y = ek kx) (hm : ∀ w, W w → MpV g (encM ek ev C) w) (hu : (getM C kx).elim zv ev = u) : Rdy P o a W u := fun w hC => by
  obtain ⟨K, hK, hk⟩ := E.keys
  have hr := look_run (x := kx) hK hk E.inj E.ty (hm w hC) (E.zero w) false
  simp only [Bool.false_eq_true, if_false] at hr
  rw [hu] at hr
  simp only [execOp, ho, hx, hy]
  simp [hr]
theorem ld_lookOk {b : Bool} (E : MapEn P t k e ek ev zv) (ho : o.op = .lookup t x y true) (hx : a.eval x = .map (some g)) (hy : a.eval y = ek kx) (hm : ∀ w, W w → MpV g (encM ek ev C) w) (hu : (getM C kx).elim zv ev = u) (hb : (getM C kx).isSome = b) : Rdy P o a W (.tuple #[u, .bool b]) := fun w hC => by
  obtain ⟨K, hK, hk⟩ := E.keys
  have hr := look_run (x := kx) hK hk E.inj E.ty (hm w hC) (E.zero w) true
  simp only [if_true] at hr
  rw [hu, hb] at hr
  simp only [execOp, ho, hx, hy]
  simp [hr]
theorem sq_mapUpd (E : MapEn P t k e ek ev zv) (F : Fr a n L) (M : Mm R w0 w B) (hw : Region.wanted o (yielded ops.toArray a.tmps) = true) (ho : o.op = .mapUpdate t x y z) (hx : a.eval x = .map (some g)) (hy : a.eval y = ek kx) (hz : a.eval z = ev vx)
    (hi : B[i]? = some (.own [g] (MpV g (encM ek ev C)))) (hC : ((kx, vx) :: delM C kx).Perm C') (hd : o.dst = none)
    (h : ∀ w', Mm R w0 w' (B.set i (.own [g] (MpV g (encM ek ev C')))) → wpList P ops.toArray Q rest a w') : wpList P ops.toArray Q (o :: rest) a w := by
  obtain ⟨K, hK, hk⟩ := E.keys
  obtain ⟨w', hr, h1, h2⟩ := update_run hK hk E.inj E.ty (M.pv hi) hC
  exact sq_run0 F hw (v := undef) (.inr (by simp only [execOp, ho, hx, hy, hz]; simp [hr])) (M.swap hi (x' := .own [g] (MpV g (encM ek ev C'))) h1 ⟨h2, MpV.loc _ _⟩ (fun g hg => .inl hg) (fun g hg => by cases hg)) hd h
theorem sq_range {es : Array MapEntry} {clock : Nat} {l : List (Value × Value)} (hT : MapTy P t k e) (F : Fr a n L) (M : Mm R w0 w B) (hw : Region.wanted o (yielded ops.toArray a.tmps) = true) (ho : o.op = .range t x) (hx : a.eval x = .map (some g)) (hb : ObV g (.map es clock) w) (hm : MapIs es clock l) (hd : o.dst = some d) (hdn : Nat.blt d n = true)
    (h : ∀ a' w' r, r ≠ g → Fr a' n ((d, .pointer (some ⟨r, 0, none⟩)) :: L) → Mm R w0 w' (.own [r] (ItV r g es clock l) :: B) → wpList P ops.toArray Q rest a' w') : wpList P ops.toArray Q (o :: rest) a w := by
  obtain ⟨w', hr, h1, h2⟩ := range_run (P := P) hT hb hm
  have hlt := lt_of_some hb
  exact sq_run F hw (v := .pointer (some ⟨w.heap.size, 0, none⟩)) (by simp only [execOp, ho, hx]; simp [hr]) (M.addOwn h1 h2 (ItV.loc _ _ _ _ _) (fun g hg => by simp only [List.mem_singleton] at hg; omega)) hd hdn (fun a' w' F' M' => h a' w' _ (by omega) F' M')
omit [DecidableEq κ] in
theorem sq_next {es : Array MapEntry} {clock ty : Nat} {Rs : List (κ × ν)} (F : Fr a n L) (M : Mm R w0 w B) (hw : Region.wanted o (yielded ops.toArray a.tmps) = true) (ho : o.op = .next x false) (hty : o.type = ty) (hx : a.eval x = .pointer (some ⟨r, 0, none⟩)) (hb : ObV g (.map es clock) w) (hi : B[i]? = some (.own [r] (ItV r g es clock (encM ek ev Rs)))) (hne : r ≠ g) (hd : o.dst = some d) (hdn : Nat.blt d n = true)
    (h0 : Rs = [] → ∀ a', Fr a' n ((d, .tuple #[.bool false]) :: L) → wpList P ops.toArray Q rest a' w)
    (h1 : ∀ (q : κ × ν) Rs', Rs.Perm (q :: Rs') → ∀ a' w', Fr a' n ((d, .tuple #[.bool true, ek q.1, ev q.2]) :: L) → Mm R w0 w' (B.set i (.own [r] (ItN r g es clock (encM ek ev Rs') (ek q.1, ev q.2)))) → wpList P ops.toArray Q rest a' w') : wpList P ops.toArray Q (o :: rest) a w := by
  rcases next_run (P := P) (ty := o.type) hb (M.pv hi) hne with ⟨h2, hr⟩ | ⟨p, rest', w', hp, hr, h2, h3⟩
  · refine wpList_step fun K hK => ?_
    rw [if_pos hw]
    unfold Oper.wp
    rw [show (execOp a.eval o).run P w = .ok (.value (.tuple #[.bool false])) w by simp only [execOp, ho, hx]; simp [hr]]
    have hz : Rs = [] := by simpa [encM] using h2
    exact hK _ _ (by rw [hd]; exact h0 hz _ (F.put hdn))
  · have hpm : p ∈ encM ek ev Rs := hp.mem_iff.2 (by simp)
    obtain ⟨q, hq, rfl⟩ := List.mem_map.1 hpm
    obtain ⟨s1, s2, rfl⟩ := List.append_of_mem hq
    have hpe : (s1 ++ q :: s2).Perm (q :: (s1 ++ s2)) := List.perm_middle
    have h4 : rest'.Perm (encM ek ev (s1 ++ s2)) := (hp.symm.trans (show (encM ek ev (s1 ++ q :: s2)).Perm ((ek q.1, ev q.2) :: encM ek ev (s1 ++ s2)) from hpe.map (fun p : κ × ν => (ek p.1, ev p.2)))).cons_inv
    have h5 : ItN r g es clock (encM ek ev (s1 ++ s2)) (ek q.1, ev q.2) w' := by
      obtain ⟨⟨since, seen, c0, z1, z2, z3, z4, z5, z6⟩, h7⟩ := h3
      exact ⟨⟨since, seen, c0, z1, z2, z3, z4, z5, z6.trans h4⟩, h7⟩
    exact sq_run F hw (v := .tuple #[.bool true, ek q.1, ev q.2]) (by simp only [execOp, ho, hx]; simp [hr]) (M.swap hi (x' := .own [r] (ItN r g es clock (encM ek ev (s1 ++ s2)) (ek q.1, ev q.2))) h2 ⟨h5, ItN.loc _ _ _ _ _ _⟩ (fun g hg => .inl hg) (fun g hg => by cases hg)) hd hdn (fun a' w' F' M' => h1 q _ hpe a' w' F' M')
theorem ld_entry {es : Array MapEntry} {clock : Nat} {l : List (Value × Value)} {p : Value × Value} (ho : o.op = .entry x) (hx : a.eval x = .pointer (some ⟨r, 0, none⟩)) (hb : ∀ w, W w → ObV g (.map es clock) w) (hi : ∀ w, W w → ItN r g es clock l p w) : Rdy P o a W (.tuple #[p.1, p.2]) := fun w hC => by
  have hr := entry_run (P := P) (hb w hC) (hi w hC)
  simp only [execOp, ho, hx]
  simp [hr]
end
section
variable {P : Program} {k : TypeId} {κ : Type} [DecidableEq κ] {ek : κ → Value} {d : TypeDesc}
end
theorem keyOK_plain {P : Program} {k : TypeId} {d : TypeDesc} (hk : P.underlying k = some d) : KeyOK P k (fun v => IsKey d v) :=
  ⟨fun w em _ h => run_checkKey hk h em 9999, fun w x hx es hes => by
    rcases findNow_spec hx es 0 hes with ⟨h1, h2⟩ | ⟨j, e0, h1, h2, h3⟩
    · exact .inl ⟨run_findKey hk h1, h2⟩
    · exact .inr ⟨j, e0, by simpa using run_findKey hk h1, h2, h3⟩, fun w _ h => run_keyThatStays h⟩
def iV (n : Int) : Value := .int .i64 n
end Go.Proofs.Ytcobpabmmbcjcaa
namespace Go.Proofs.Ytcobpabmmbcjcaa
open Go.RowKit
set_option maxRecDepth 100000
set_option linter.unusedSimpArgs false
set_option linter.unusedVariables false
theorem Fr.re {a : Act} {n d : Nat} {v v' : Value} {L : List (Nat × Value)} (F : Fr a n ((d, v) :: L)) (h : v = v') : Fr a n ((d, v') :: L) := h ▸ F
def u8 (b : UInt8) : Int := (b.toNat : Int)
def byteU (n : Int) : UInt8 := UInt8.ofNat (n % 256).toNat
theorem u8_byte (n : Int) : u8 (byteU n) = n % 256 := by
  unfold u8 byteU
  rw [UInt8.toNat_ofNat']
  omega
theorem u8_inj {a b : UInt8} (h : u8 a = u8 b) : a = b := by
  unfold u8 at h
  exact UInt8.toNat_inj.1 (by omega)
def encU : Enc UInt8 := ⟨1, fun b => [.int .u8 (u8 b)], 0, fun _ => rfl, fun a v h => by
  simp only [List.mem_cons, List.not_mem_nil, or_false] at h; subst h; rfl⟩
def cU (L : List UInt8) : List Value := cE encU L
def atU (L : List UInt8) (i : Nat) : UInt8 := atE encU L i
theorem cU_at {L : List UInt8} {i : Nat} (h : i < L.length) : (cU L)[i * 1]? = some (.int .u8 (u8 (atU L i))) := by
  have h1 := cE_at (E := encU) h
  have h2 : ((cU L).drop (i * 1)).take 1 = [.int .u8 (u8 (atU L i))] := h1
  have h3 : (((cU L).drop (i * 1)).take 1)[0]? = some (.int .u8 (u8 (atU L i))) := by rw [h2]; rfl
  rw [List.getElem?_take] at h3
  simpa using h3
theorem cU_ones (L : List UInt8) : ∀ z ∈ cU L, z.oneCell' = true := cE_ones L
theorem cU_len (L : List UInt8) : (cU L).length = L.length := by unfold cU; rw [cE_len]; show L.length * 1 = _; omega
theorem cU_map : ∀ L : List UInt8, cU L = L.map fun b => .int .u8 (u8 b)
  | [] => rfl
  | b :: r => by
    show Value.int .u8 (u8 b) :: cU r = _
    rw [cU_map r]; rfl
theorem cU_rep (k : Nat) : cU (List.replicate k 0) = List.replicate k (.int .u8 0) := by rw [cU_map]; simp [u8]
theorem atU_eq {L : List UInt8} {i : Nat} (h : i < L.length) : atU L i = L[i] := atE_eq h
abbrev RdU (w : World) (v : Value) (L : List UInt8) : Prop := RdV w 1 v L.length (cU L)
def strV (L : List UInt8) : Value := .string ⟨L.toArray⟩
theorem str_list (L : List UInt8) : (ByteArray.mk L.toArray).toList = L := by rw [ByteArray.toList_eq]
theorem str_size (L : List UInt8) : (ByteArray.mk L.toArray).size = L.length := by show L.toArray.size = _; simp
section
variable {P : Program} {o : Oper} {a : Act} {x y : Operand} {v : Value} {src dst t t' e : TypeId} {n : Int} {b : UInt8} {A B : List UInt8} {C : World → Prop}
theorem pu_ixN {kd : IntKind} {m n' : Nat} {w : World} {xs : List Value} (q : Nat) (ho : o.op = .indexAddr t x y) (hx : a.eval x = v) (hy : a.eval y = .int kd n) (hT : SlTy P t e m) (hv : RdV w m v n' xs) (hi : n = (q : Int)) (hl : q < n') : Pure P o a (.pointer (some ⟨gof v, oof v + q * m, none⟩)) := by
  have h := pu_ix ho hx hy hT hv (by omega) (by omega)
  rwa [show n.toNat = q by omega] at h
theorem pu_lenS (ho : o.op = .call { callee := .builtin .len, args := #[x], argTypes := #[t] }) (hx : a.eval x = strV A) (ht : P.underlying t = some .string) : Pure P o a (.int .i64 ((A.length : Nat) : Int)) := fun w => by
  simp only [execOp, ho, resolve, invoke, builtin, Sem.run_bind, Sem.run_pure, Result.andThen_ok, List.map_toArray, List.map_cons, List.map_nil, hx]
  have hz := str_size A
  simp only [strV, Builtin.len_, Sem.run_bind]
  simp [run_underlying ht, hz, goInt]
theorem pu_eqlS (ho : o.op = .binOp .eql t x y t') (hx : a.eval x = strV A) (hy : a.eval y = strV B) : Pure P o a (.bool (decide (A = B))) := fun w => by
  simp only [execOp, ho, hx, hy, strV]
  have : ((ByteArray.mk A.toArray).toList == (ByteArray.mk B.toArray).toList) = decide (A = B) := by
    rw [str_list, str_list, Bool.eq_iff_iff, beq_iff_eq, decide_eq_true_iff]
  simp [go_sem, this]
  rw [Bool.eq_iff_iff, beq_iff_eq, decide_eq_true_iff]
theorem pu_neqS (ho : o.op = .binOp .neq t x y t') (hx : a.eval x = strV A) (hy : a.eval y = strV B) : Pure P o a (.bool (!decide (A = B))) := fun w => by
  simp only [execOp, ho, hx, hy, strV]
  have : ((ByteArray.mk A.toArray).toList == (ByteArray.mk B.toArray).toList) = decide (A = B) := by
    rw [str_list, str_list, Bool.eq_iff_iff, beq_iff_eq, decide_eq_true_iff]
  simp [go_sem, this]
  rw [Bool.eq_iff_iff, beq_iff_eq, decide_eq_true_iff]
theorem ld_str {m : Nat} (ho : o.op = .convert src dst x) (hx : a.eval x = v) (hs : P.underlying src = some (.slice e)) (he : P.underlying e = some (.int .u8)) (hd : P.underlying dst = some .string) (hr : ∀ w, C w → RdV w 1 v m (cU A)) (hl : A.length = m) : Rdy P o a C (strV A) := fun w hC => by
  subst hl
  obtain ⟨_, ad, c, rfl, h1, h2, h3⟩ := hr w hC
  simp only [execOp, ho, hx]
  rcases Nat.eq_zero_or_pos A.length with h0 | h0
  · have hA : A = [] := List.eq_nil_of_length_eq_zero h0
    subst hA
    have hc : (convert src dst (.slice ad 0 c)).run P w = .ok (.string ⟨#[]⟩) w := by
      rw [run_convert_bytes_string w src dst e ad 0 c hs he hd]
      cases ad with
      | none => simp [Conv.bytesToString]; rfl
      | some q =>
        have := run_bytesToString (P := P) w q 0 c [] (run_loadCells_list (P := P) w q [] (fun j v hj => by simp at hj))
        rw [this]; rfl
    simp only [List.length_nil, Sem.run_bind, hc, Result.andThen_ok, Sem.run_pure, strV]
  · obtain ⟨g, off, rfl, h4, h5⟩ := h3 h0
    have hc := run_convert_bytes_back (P := P) w src dst e ⟨g, off, none⟩ c A hs he hd (fun j hj => by
      rw [addr_add]
      refine h5 j _ ?_
      have := cU_at hj
      rw [Nat.mul_one] at this
      rw [this, atU_eq hj]; rfl)
    simp only [Sem.run_bind, hc, Result.andThen_ok, Sem.run_pure, strV]
end
section
variable {P : Program} {ops rest : List Oper} {o : Oper} {a : Act} {n d : Nat} {L : List (Nat × Value)} {Q : Exit → Act → World → Prop} {R : List Nat} {w w0 : World} {B : List Ent} {v u : Value} {x y : Operand} {t e ty src dst : TypeId} {i g k m : Nat} {A : List UInt8} {xs : List Value}
end
end Go.Proofs.Ytcobpabmmbcjcaa
namespace Go.Proofs.Ytcobpabmmbcjcaa
open Go.RowKit
set_option maxRecDepth 100000
set_option linter.unusedSimpArgs false
set_option linter.unusedVariables false
structure B32 where
  l : List UInt8
  h : l.length = 32
deriving DecidableEq
def at32 (b : B32) (i : Nat) : UInt8 := b.l.getD i 0
def B32.ofL (L : List UInt8) : B32 := ⟨(L ++ List.replicate 32 0).take 32, by simp⟩
def B32.zero : B32 := ⟨List.replicate 32 0, List.length_replicate⟩
def B32.put (b : B32) (i : Nat) (u : UInt8) : B32 := ⟨b.l.set i u, by rw [List.length_set]; exact b.h⟩
theorem B32.ext' {a b : B32} (h : a.l = b.l) : a = b := by cases a; cases b; simp_all
theorem B32.eq_iff {a b : B32} : a = b ↔ a.l = b.l := ⟨fun h => by rw [h], B32.ext'⟩
def l32 (b : B32) : List Value := [.int .u8 (u8 (at32 b 0)), .int .u8 (u8 (at32 b 1)), .int .u8 (u8 (at32 b 2)), .int .u8 (u8 (at32 b 3)), .int .u8 (u8 (at32 b 4)), .int .u8 (u8 (at32 b 5)), .int .u8 (u8 (at32 b 6)), .int .u8 (u8 (at32 b 7)), .int .u8 (u8 (at32 b 8)), .int .u8 (u8 (at32 b 9)), .int .u8 (u8 (at32 b 10)), .int .u8 (u8 (at32 b 11)), .int .u8 (u8 (at32 b 12)), .int .u8 (u8 (at32 b 13)), .int .u8 (u8 (at32 b 14)), .int .u8 (u8 (at32 b 15)), .int .u8 (u8 (at32 b 16)), .int .u8 (u8 (at32 b 17)), .int .u8 (u8 (at32 b 18)), .int .u8 (u8 (at32 b 19)), .int .u8 (u8 (at32 b 20)), .int .u8 (u8 (at32 b 21)), .int .u8 (u8 (at32 b 22)), .int .u8 (u8 (at32 b 23)), .int .u8 (u8 (at32 b 24)), .int .u8 (u8 (at32 b 25)), .int .u8 (u8 (at32 b 26)), .int .u8 (u8 (at32 b 27)), .int .u8 (u8 (at32 b 28)), .int .u8 (u8 (at32 b 29)), .int .u8 (u8 (at32 b 30)), .int .u8 (u8 (at32 b 31))]
theorem l32_range (b : B32) : l32 b = (List.range 32).map fun i => Value.int .u8 (u8 (at32 b i)) := rfl
theorem l32_eq (b : B32) : l32 b = cU b.l := by
  rw [l32_range, cU_map]
  apply List.ext_getElem
  · simp [b.h]
  · intro i h1 h2
    have hi : i < b.l.length := by simpa using h2
    simp [at32, List.getD_eq_getElem?_getD, List.getElem?_eq_getElem hi]
structure Fm where
  kind : Int
  frm : Int
  dst : Int
  org : Int
  seq : Int
  text : List UInt8
  tag : B32
deriving DecidableEq
def Fm.zero : Fm := ⟨0, 0, 0, 0, 0, [], B32.zero⟩
def cFm (x : Fm) : List Value := [.int .i64 x.kind, .int .i64 x.frm, .int .i64 x.dst, .int .i64 x.org, .int .i64 x.seq, strV x.text] ++ l32 x.tag
structure En where
  seq : Int
  prev : B32
  kind : Int
  po : Po
  edge : Int
  peer : Int
  n : Int
deriving DecidableEq
def En.zero : En := ⟨0, B32.zero, 0, Po.zero, 0, 0, 0⟩
def cEn (x : En) : List Value := .int .i64 x.seq :: (l32 x.prev ++ [.int .i64 x.kind, .int .i64 x.po.n, .int .i64 x.po.t.e, .int .i64 x.po.t.r, .int .i64 x.edge, .int .i64 x.peer, .int .i64 x.n])
theorem cFm_len (x : Fm) : (cFm x).length = 38 := rfl
theorem cEn_len (x : En) : (cEn x).length = 40 := rfl
theorem l32_at (b : B32) {i : Nat} (hi : i < 32) : (l32 b)[i]? = some (.int .u8 (u8 (at32 b i))) := by
  rw [l32_range, List.getElem?_map, List.getElem?_range hi]; rfl
section
variable {P : Program} {w : World} {xs ys : Array Value} {f : Field} {fs : List Field} {a b : Value} {r r' : Bool} {dd : Nat} {t e : TypeId}
theorem eqF_nil : (Op.eqFields dd xs ys []).run P w = .ok true w := by simp [Op.eqFields]
theorem eqF_cons (hn : f.name ≠ "_") (ha : (part f.type xs f.offset).run P w = .ok a w) (hb : (part f.type ys f.offset).run P w = .ok b w) (he : (Op.equalIn dd f.type a b).run P w = .ok r w) (hr : (Op.eqFields dd xs ys fs).run P w = .ok r' w) : (Op.eqFields dd xs ys (f :: fs)).run P w = .ok (r && r') w := by
  simp only [Op.eqFields, hn, ne_eq, not_false_eq_true, if_true, Sem.run_bind, ha, hb, he, Result.andThen_ok]
  cases r
  · simp
  · simpa using hr
theorem part_one {off : Nat} (ht : ∃ d, P.underlying t = some d ∧ d.isRow = false) (h : xs[off]? = some a) : (part t xs off).run P w = .ok a w := by
  obtain ⟨d, hd, hr⟩ := ht
  have : (isAgg t).run P w = .ok false w := by
    cases d <;> simp_all [isAgg, run_underlying hd, TypeDesc.isRow]
  simp [part, this, h]
theorem part_agg {off m : Nat} {cs : List Value} (ht : AggTy P t m) (h : (xs.toList.drop off).take m = cs) : (part t xs off).run P w = .ok (.agg (List.toArray cs)) w := by
  obtain ⟨d, hd, hr, hi⟩ := ht
  cases hq : P.info? t with
  | none => simp [hq] at hi
  | some i =>
    simp only [hq, Option.map_some, Option.some.injEq] at hi
    have h1 : (isAgg t).run P w = .ok true w := by
      cases d <;> simp_all [isAgg, run_underlying hd, TypeDesc.isRow]
    have h2 : xs.extract off (off + m) = List.toArray cs := by
      apply Array.ext'
      rw [← h]; simp [List.take_drop]
    simp [part, h1, sizeOf, typeInfo, hq, hi, h2]
theorem eq_int {k : IntKind} {i j : Int} (h : P.underlying t = some (.int k)) : (Op.equalIn (dd + 1) t (.int k i) (.int k j)).run P w = .ok (decide (i = j)) w := by
  rw [run_equalIn_int w dd t k k i j h]
  congr 1
theorem eq_str {A B : List UInt8} (h : P.underlying t = some .string) : (Op.equalIn (dd + 1) t (strV A) (strV B)).run P w = .ok (decide (A = B)) w := by
  unfold strV
  rw [run_equalIn_string w dd t _ _ h, str_list, str_list, show (A == B) = decide (A = B) by rw [Bool.eq_iff_iff, beq_iff_eq, decide_eq_true_iff]]
theorem eqI32 (he : P.underlying e = some (.int .u8)) (x y : B32) : ∀ is : List Nat, (∀ i ∈ is, i < 32) → (Op.eqItems (dd + 1) e 1 (List.toArray (l32 x)) (List.toArray (l32 y)) is).run P w = .ok (is.all fun i => decide (at32 x i = at32 y i)) w
  | [], _ => by simp [Op.eqItems]
  | i :: is, h => by
    have hi := h i (by simp)
    have p1 : (part e (List.toArray (l32 x)) i).run P w = .ok (.int .u8 (u8 (at32 x i))) w := part_one ⟨_, he, rfl⟩ (by rw [List.getElem?_toArray]; exact l32_at x hi)
    have p2 : (part e (List.toArray (l32 y)) i).run P w = .ok (.int .u8 (u8 (at32 y i))) w := part_one ⟨_, he, rfl⟩ (by rw [List.getElem?_toArray]; exact l32_at y hi)
    have hb : decide (u8 (at32 x i) = u8 (at32 y i)) = decide (at32 x i = at32 y i) := by
      rw [decide_eq_decide]; exact ⟨u8_inj, fun h => by rw [h]⟩
    have p3 := eq_int (P := P) (w := w) (dd := dd) (i := u8 (at32 x i)) (j := u8 (at32 y i)) he
    rw [hb] at p3
    have ih := eqI32 he x y is (fun j hj => h j (by simp [hj]))
    simp only [Op.eqItems, Nat.mul_one, Sem.run_bind, p1, p2, p3, Result.andThen_ok, List.all_cons]
    cases hc : decide (at32 x i = at32 y i)
    · simp
    · simp [ih]
theorem all32 (x y : B32) : ((List.range 32).all fun i => decide (at32 x i = at32 y i)) = decide (x = y) := by
  rw [Bool.eq_iff_iff, List.all_eq_true, decide_eq_true_iff]
  refine ⟨fun h => B32.ext' (List.ext_getElem (by rw [x.h, y.h]) fun i h1 h2 => ?_), fun h i _ => by rw [h]; simp⟩
  have := h i (List.mem_range.2 (by rw [← x.h]; exact h1))
  simpa [at32, List.getD_eq_getElem?_getD, List.getElem?_eq_getElem h1, List.getElem?_eq_getElem h2] using this
theorem eqA32 (ht : P.underlying t = some (.array 32 e)) (he : P.underlying e = some (.int .u8)) (hi : (P.info? e).map (·.size) = some 1) (hc : P.cellsOf e = 1) (x y : B32) : (Op.equalIn (dd + 2) t (.agg (List.toArray (l32 x))) (.agg (List.toArray (l32 y)))).run P w = .ok (decide (x = y)) w := by
  cases hq : P.info? e with
  | none => simp [hq] at hi
  | some i =>
    rw [run_equalIn_array w (dd + 1) _ _ ht hq, hc, eqI32 he x y _ (fun i hi => List.mem_range.1 hi), all32]
end
section
variable {P : Program} {o : Oper} {a : Act} {x y lo hi : Operand} {v : Value} {w : World} {t e ty : TypeId} {g off n N l h j : Nat} {cs : Array Value} {b : B32} {i : Int} {k : IntKind} {A L : List UInt8}
end
section
variable {P : Program} {ops rest : List Oper} {o : Oper} {a : Act} {n : Nat} {L : List (Nat × Value)} {Q : Exit → Act → World → Prop} {R : List Nat} {w w0 : World} {B : List Ent} {x y : Operand} {t ty : TypeId} {i g k m : Nat} {cs : Array Value} {ys : List Value}
theorem sq_stP (F : Fr a n L) (M : Mm R w0 w B) (hw : Region.wanted o (yielded ops.toArray a.tmps) = true) (ho : o.op = .store ty x y) (hx : a.eval x = .pointer (some ⟨g, k, none⟩)) (hy : a.eval y = .agg (List.toArray ys))
    (hi : B[i]? = some (.blk g t cs)) (hT : AggTy P ty m) (hm : ys.length = m) (hk : k + m ≤ cs.size) (h1 : ∀ v ∈ ys, v.oneCell' = true) (hd : o.dst = none)
    (h : ∀ w', Mm R w0 w' (B.set i (.blk g t (List.toArray (cs.toList.take k ++ ys ++ cs.toList.drop (k + m))))) → wpList P ops.toArray Q rest a w') : wpList P ops.toArray Q (o :: rest) a w := by
  obtain ⟨d, hu, hr, hs⟩ := hT
  cases hq : P.info? ty with
  | none => simp [hq] at hs
  | some inf =>
    simp only [hq, Option.map_some, Option.some.injEq] at hs
    have hst := run_storeCells_at P g k t ys 0 cs w (M.at hi) (by omega) h1
    simp only [Nat.add_zero, hm] at hst
    refine sq_run0 (v := undef) (w' := w.setRow g (cs.toList.take k ++ ys ++ cs.toList.drop (k + m)).toArray) F hw (.inr ?_) (M.setRow hi _) hd h
    simp only [execOp, ho, hx, hy]
    simp [Instr.storeAt, Instr.sureAddr, storeVar, sizeOf, typeInfo, hq, hs, Value.cells, hm, hst]
end
def cEn2 (p : En × En) : List Value := cEn p.1 ++ cEn p.2
theorem l32_ones (b : B32) : ∀ z ∈ l32 b, z.oneCell' = true := by rw [l32_eq]; exact cU_ones _
def encN : Enc En := ⟨40, cEn, En.zero, cEn_len, fun x z hz => by
  simp only [cEn, List.mem_cons, List.mem_append, List.not_mem_nil, or_false] at hz
  rcases hz with rfl | hz | rfl | rfl | rfl | rfl | rfl | rfl | rfl
  · rfl
  · exact l32_ones _ z hz
  all_goals rfl⟩
def cN (L : List En) : List Value := cE encN L
def atN (L : List En) (i : Nat) : En := atE encN L i
abbrev RdN (w : World) (v : Value) (L : List En) : Prop := RdV w 40 v L.length (cN L)
structure Om where
  d : Int
  k : Int
  e : En
def cOm (x : Om) : List Value := .int .i64 x.d :: .int .i64 x.k :: cEn x.e
def encO : Enc Om := ⟨42, cOm, ⟨0, 0, En.zero⟩, fun _ => rfl, fun x z hz => by
  simp only [cOm, List.mem_cons] at hz
  rcases hz with rfl | rfl | hz
  · rfl
  · rfl
  · exact encN.ones _ z hz⟩
def cO (L : List Om) : List Value := cE encO L
def atM (L : List Om) (i : Nat) : Om := atE encO L i
abbrev RdO (w : World) (v : Value) (L : List Om) : Prop := RdV w 42 v L.length (cO L)
end Go.Proofs.Ytcobpabmmbcjcaa
namespace Go.Proofs.Ytcobpabmmbcjcaa
open Go.ChangeShapes Go.WideShapes Go.ChangeAt Go.RowKit Go.Joins Go.Deep
set_option maxRecDepth 100000
set_option linter.unusedSimpArgs false
set_option linter.unusedVariables false
section
variable {P : Program} {t e : TypeId} {α : Type}
theorem opens_u8 (h : P.underlying t = some (.int .u8)) : Opens P t (fun b : UInt8 => [.int .u8 (u8 b)]) (fun _ => True) := by
  intro H enc W base sp held fuel cs x hx
  obtain ⟨z, e, _, w⟩ := DataW.trod_int h hx
  have hz := wf8 w
  refine ⟨byteU z, ?_, trivial⟩
  rw [e]
  show [Value.int .u8 z] = [Value.int .u8 (u8 (byteU z))]
  rw [u8_byte, show z % 256 = z by omega]
theorem opens_str (h : P.underlying t = some .string) : Opens P t (fun L : List UInt8 => [strV L]) (fun L => L.length ≤ maxLen) := by
  intro H enc W base sp held fuel cs x hx
  obtain ⟨s, e, _, hs⟩ := DataW.trod_string h hx
  exact ⟨s.data.toList, e, by simpa using hs⟩
theorem chunksU {f : α → List Value} {I : α → Prop} {m : Nat} (hm : ∀ a, (f a).length = m) : ∀ (n : Nat) (cs : List Value), cs.length = n * m → (∀ i, i < n → ∃ a, (cs.drop (i * m)).take m = f a ∧ I a) → ∃ L : List α, L.length = n ∧ cs = L.flatMap f ∧ ∀ a ∈ L, I a
  | 0, cs, hl, _ => ⟨[], rfl, by simpa using hl, fun a ha => by cases ha⟩
  | n + 1, cs, hl, h => by
    obtain ⟨a, ha, hI⟩ := h 0 (by omega)
    rw [Nat.zero_mul, List.drop_zero] at ha
    obtain ⟨L, h1, h2, h3⟩ := chunksU hm n (cs.drop m) (by rw [List.length_drop, hl, Nat.add_mul]; omega) fun i hi => by
      have := h (i + 1) (by omega)
      rwa [show (i + 1) * m = m + i * m by rw [Nat.add_mul]; omega, ← List.drop_drop] at this
    refine ⟨a :: L, by simp [h1], ?_, fun b hb => ?_⟩
    · rw [List.flatMap_cons, ← ha, ← h2, List.take_append_drop]
    · rcases List.mem_cons.1 hb with rfl | hb
      · exact hI
      · exact h3 b hb
theorem opens_array {n m : Nat} {f : α → List Value} {I : α → Prop} (hm : ∀ a, (f a).length = m) (hua : P.underlying t = some (.array n e)) (hC : P.cellsOf e = m) (hCa : P.cellsOf t = n * m) (ho : Opens P e f I) : Opens P t (fun L : List α => L.flatMap f) (fun L => L.length = n ∧ ∀ a ∈ L, I a) := by
  intro H enc W base sp held fuel cs x hx
  obtain ⟨xs, q, _, _, hl, hlen, heach⟩ := DataW.trod_array hua hx
  obtain ⟨L, h1, h2, h3⟩ := chunksU (I := I) hm n cs (by rw [hl, hCa]) fun i hi => by
    have e0 := heach i hi
    rw [hC, List.getElem?_eq_getElem (by omega)] at e0
    obtain ⟨a, ha, hI⟩ := ho e0
    exact ⟨a, ha, hI⟩
  exact ⟨L, h2, h1, h3⟩
theorem flatU : ∀ L : List UInt8, L.flatMap (fun b => [Value.int .u8 (u8 b)]) = L.map fun b => .int .u8 (u8 b)
  | [] => rfl
  | b :: L => by rw [List.flatMap_cons, flatU L]; rfl
theorem opens_32 (hua : P.underlying t = some (.array 32 e)) (he : P.underlying e = some (.int .u8)) (hC : P.cellsOf e = 1) (hCa : P.cellsOf t = 32 * 1) : Opens P t l32 (fun _ => True) := by
  intro H enc W base sp held fuel cs x hx
  obtain ⟨L, hL, hn, _⟩ := opens_array (m := 1) (f := fun b : UInt8 => [Value.int .u8 (u8 b)]) (fun _ => rfl) hua hC hCa (opens_u8 he) hx
  refine ⟨⟨L, hn⟩, ?_, trivial⟩
  rw [l32_eq, cU_map, hL]
  show L.flatMap (fun b => [Value.int .u8 (u8 b)]) = L.map fun b => .int .u8 (u8 b)
  exact flatU _
theorem field_at {fs : Array Field} (hu : P.underlying t = some (.struct fs)) {H : Type} {enc : TypeId × Value → H} {W : World} {base : Nat} {sp : Nat → Bool} {held : Bool} {fuel : Nat} {cs : List Value} {x : DataW H × List MemPlace} (hx : DataW.trod enc P W base sp held fuel t cs = some x) {i : Nat} {f : Field} (hf : fs[i]? = some f) {g : α → List Value} {I : α → Prop} (o m : Nat) (ho : Opens P f.type g I) (h1 : f.offset = o) (h2 : P.cellsOf f.type = m) :
    ∃ a, (cs.drop o).take m = g a ∧ I a := by
  obtain ⟨xs, n, _, _, _, hlen, hall⟩ := DataW.trod_struct hu hx
  have h3 := hall i f hf
  have hi : i < xs.length := by rw [hlen]; exact (Array.getElem?_eq_some_iff.1 hf).1
  rw [List.getElem?_eq_getElem hi, h1, h2] at h3
  exact ho h3
theorem cut_step (cs : List Value) (o m : Nat) {X : List Value} (h : (cs.drop o).take m = X) : cs.drop o = X ++ cs.drop (o + m) := by
  rw [← h, ← List.drop_drop, List.take_append_drop]
end
theorem oi9 : Opens Try.prog 3 (fun n : Int => [.int .i64 n]) (fun n => -9223372036854775808 ≤ n ∧ n ≤ 9223372036854775807) := opens_int Try.underlying3
theorem opensFm : Opens Try.prog 34 cFm (fun x => x.seq ≤ 9223372036854775807) := by
  intro H enc W base sp held fuel cs x hx
  have hu := Try.underlying34
  obtain ⟨xs, n, _, _, hl, _, _⟩ := DataW.trod_struct hu hx
  rw [show Try.prog.cellsOf 34 = 38 by kernel_rfl] at hl
  obtain ⟨a0, h0, _⟩ := field_at hu hx (i := 0) rfl 0 1 oi9 rfl (by kernel_rfl)
  obtain ⟨a1, h1, _⟩ := field_at hu hx (i := 1) rfl 1 1 oi9 rfl (by kernel_rfl)
  obtain ⟨a2, h2, _⟩ := field_at hu hx (i := 2) rfl 2 1 oi9 rfl (by kernel_rfl)
  obtain ⟨a3, h3, _⟩ := field_at hu hx (i := 3) rfl 3 1 oi9 rfl (by kernel_rfl)
  obtain ⟨a4, h4, hq4⟩ := field_at hu hx (i := 4) rfl 4 1 oi9 rfl (by kernel_rfl)
  obtain ⟨a5, h5, _⟩ := field_at hu hx (i := 5) rfl 5 1 (opens_str Try.underlying9) rfl (by kernel_rfl)
  obtain ⟨a6, h6, _⟩ := field_at hu hx (i := 6) rfl 6 32 (opens_32 Try.underlying32 Try.underlying5 (by kernel_rfl) (by kernel_rfl)) rfl (by kernel_rfl)
  refine ⟨⟨a0, a1, a2, a3, a4, a5, a6⟩, ?_, hq4.2⟩
  have hc : cs = cs.drop 0 := List.drop_zero.symm
  rw [hc, cut_step cs 0 1 h0, cut_step cs 1 1 h1, cut_step cs 2 1 h2, cut_step cs 3 1 h3, cut_step cs 4 1 h4, cut_step cs 5 1 h5, cut_step cs 6 32 h6, List.drop_eq_nil_of_le (by omega), List.append_nil]
  rfl
section
variable {H : Type} {enc : TypeId × Value → H} {W : World}
end
section
variable {H : Type} {enc : TypeId × Value → H} {W : World}
end
section
variable {H : Type} {enc : TypeId × Value → H} {W : World}
end
end Go.Proofs.Ytcobpabmmbcjcaa
namespace Go.Proofs.Ytcobpabmmbcjcaa
open Go.RowKit
set_option maxRecDepth 100000
set_option linter.unusedSimpArgs false
set_option linter.unusedVariables false
def cL (L : List St) : Array Value := (cS L).toArray
section
variable {P : Program} {o : Oper} {a : Act} {x y : Operand} {v : Value} {t : TypeId}
end
section
variable {P : Program} {ops rest : List Oper} {o : Oper} {a : Act} {n d : Nat} {L : List (Nat × Value)} {Q : Exit → Act → World → Prop} {R : List Nat} {w w0 : World} {B : List Ent} {v u : Value} {x y : Operand} {t e ty : TypeId} {i g k m : Nat} {K K' : List St}
end
end Go.Proofs.Ytcobpabmmbcjcaa
namespace Go.Proofs.Ytcobpabmmbcjcaa
open Go.RowKit
set_option maxRecDepth 100000
set_option linter.unusedSimpArgs false
set_option linter.unusedVariables false
structure Bs where
  n : Int
  f : Int
  a : Int → Int → Bool
  g : Int → Bool
def wkB (S : Bs) (k : Int) : Bool := decide (0 ≤ k ∧ k < S.n)
def accE (S : Bs) (x y : Int) : Int := if wkB S x = false ∨ wkB S y = false ∨ x = y then 1 else if S.a x y = true then 12 else 0
def accS (S : Bs) (x y : Int) : Bs := if accE S x y = 0 then { S with a := fun p q => S.a p q || decide (p = x ∧ q = y) } else S
def fltE (S : Bs) (y : Int) : Int := if wkB S y = false then 1 else if S.g y = true then 12 else 0
def fltS (S : Bs) (y : Int) : Bs := if fltE S y = 0 then { S with g := fun q => S.g q || decide (q = y) } else S
def rngI (n : Int) : List Int := (List.range n.toNat).map fun (i : Nat) => (i : Int)
def byL (S : Bs) (y : Int) : List Int := (rngI S.n).filter fun k => S.a k y
def isB (S : Bs) (y : Int) : Bool := S.g y || (wkB S y && decide (S.f + 1 ≤ (((byL S y).length : Nat) : Int)))
def goneL (S : Bs) : List Int := (rngI S.n).filter fun k => isB S k
def bnewE (n f : Int) : Int := if 1 ≤ n ∧ n ≤ 7 ∧ 0 ≤ f ∧ 3 * f < n then 0 else 1
def bnewS (n f : Int) : Bs := ⟨n, f, fun _ _ => false, fun _ => false⟩
structure OKB (S : Bs) : Prop where
  n1 : 1 ≤ S.n
  n7 : S.n ≤ 7
  f0 : 0 ≤ S.f
  f3 : 3 * S.f < S.n
  ac : ∀ x y, S.a x y = true → (0 ≤ x ∧ x < S.n) ∧ (0 ≤ y ∧ y < S.n) ∧ x ≠ y
  fl : ∀ y, S.g y = true → 0 ≤ y ∧ y < S.n
section
variable {S : Bs} {x y k n f : Int}
theorem wk_iff : wkB S k = true ↔ 0 ≤ k ∧ k < S.n := by unfold wkB; rw [decide_eq_true_iff]
theorem bnew_ok (h : bnewE n f = 0) : 1 ≤ n ∧ n ≤ 7 ∧ 0 ≤ f ∧ 3 * f < n := by 
  unfold bnewE at h
  split at h
  · assumption
  · omega
theorem mem_rng {k : Int} : k ∈ rngI n ↔ 0 ≤ k ∧ k < n := by
  unfold rngI
  rw [List.mem_map]
  constructor
  · rintro ⟨i, hi, rfl⟩; rw [List.mem_range] at hi; omega
  · intro h; exact ⟨k.toNat, List.mem_range.2 (by omega), by omega⟩
theorem rng_len (n : Int) : (rngI n).length = n.toNat := by unfold rngI; rw [List.length_map, List.length_range]
theorem rng_nodup (n : Int) : (rngI n).Nodup := by
  unfold rngI
  show List.Pairwise _ _
  rw [List.pairwise_map]
  exact List.nodup_range.imp fun {a b} h e => h (by omega)
theorem mem_gone : k ∈ goneL S ↔ (0 ≤ k ∧ k < S.n) ∧ isB S k = true := by unfold goneL; rw [List.mem_filter, mem_rng]
theorem count_more {l : List Int} (hn : l.Nodup) (hx : x ∈ l) {p q : Int → Bool} (h0 : p x = false) (hq : ∀ k ∈ l, q k = (p k || decide (k = x))) : (l.filter q).length = (l.filter p).length + 1 := by
  induction l with
  | nil => cases hx
  | cons a r ih =>
    obtain ⟨h1, h2⟩ := List.nodup_cons.1 hn
    have hqa := hq a (by simp)
    by_cases e : a = x
    · subst e
      have hr : r.filter q = r.filter p := List.filter_congr fun k hk => by
        rw [hq k (by simp [hk])]
        have : k ≠ a := fun z => h1 (z ▸ hk)
        simp [this]
      rw [List.filter_cons, List.filter_cons, hqa, h0]
      simp [hr]
    · have hr := ih h2 ((List.mem_cons.1 hx).resolve_left fun z => e z.symm) fun k hk => hq k (by simp [hk])
      rw [List.filter_cons, List.filter_cons, hqa]
      simp only [e, decide_false, Bool.or_false]
      split
      · simp only [List.length_cons, hr]
      · exact hr
theorem int_leC (n : Nat) (l : List Int) (h : l.Nodup) (hb : ∀ a ∈ l, 0 ≤ a ∧ a < (n : Int)) : l.length ≤ n := by
  induction n generalizing l with
  | zero =>
    cases l with
    | nil => simp
    | cons a r => have := hb a (by simp); omega
  | succ n ih =>
    have h1 := ih (l.filter fun a => decide (a ≠ (n : Int))) (h.filter _) fun a ha => by
      obtain ⟨h2, h3⟩ := List.mem_filter.1 ha
      have := hb a h2
      simp only [ne_eq, decide_eq_true_eq] at h3
      omega
    by_cases hm : (n : Int) ∈ l
    · have h2 := count_more h hm (p := fun a => decide (a ≠ (n : Int))) (q := fun _ => true) (by simp) fun k _ => by by_cases e : k = (n : Int) <;> simp [e]
      rw [List.filter_eq_self.2 (fun _ _ => rfl)] at h2
      omega
    · rw [List.filter_eq_self.2 (fun a ha => by simp only [ne_eq, decide_eq_true_eq]; exact fun e => hm (e ▸ ha))] at h1
      omega
end
def sayS (S : Bs) (o : St) : Bs := if o.e = o.r then fltS S o.r else accS S o.e o.r
def saysS (S : Bs) (l : List St) : Bs := l.foldl sayS S
section
variable {S : Bs} {x y : Int} {o : St} {l m : List St}
end
structure FewOK (n f wh kg ka said : Int) (S : Bs) : Prop where
  ok : OKB S
  hn : S.n = n
  hf : S.f = f
  g : ∀ x, S.g x = decide (0 ≤ x ∧ x < kg ∧ x ≠ wh)
  a : ∀ x, ka ≤ x → S.a x wh = false
  by_ : (((byL S wh).length : Nat) : Int) = said
section
variable {n f wh k kg ka said : Int} {S : Bs}
theorem FewOK.skip (h : FewOK n f wh k ka said S) (hw : k = wh) : FewOK n f wh (k + 1) ka said S :=
  ⟨h.ok, h.hn, h.hf, fun x => by rw [h.g]; exact decide_eq_decide.2 (by omega), h.a, h.by_⟩
theorem FewOK.on (h : FewOK n f wh kg ka said S) (hk : ka ≤ k) : FewOK n f wh kg k said S := ⟨h.ok, h.hn, h.hf, h.g, fun x hx => h.a x (by omega), h.by_⟩
theorem FewOK.not (h : FewOK n f wh kg ka said S) (hs : said ≤ f) : isB S wh = false := by
  have hb := h.by_
  unfold isB
  rw [h.g, h.hf, decide_eq_false (by omega), decide_eq_false (p := f + 1 ≤ _) (by omega)]
  simp
theorem FewOK.gone (h : FewOK n f wh n ka said S) (hs : said ≤ f) (w0 : 0 ≤ wh) (w1 : wh < n) : (((goneL S).length : Nat) : Int) = n - 1 := by
  have h1 := count_more (rng_nodup n) (mem_rng.2 ⟨w0, w1⟩) (p := fun k => isB S k) (q := fun _ => true) (h.not hs) fun k hk => by
    have := mem_rng.1 hk
    by_cases e : k = wh
    · simp [e]
    · have : isB S k = true := by unfold isB; rw [h.g, decide_eq_true (by omega)]; rfl
      rw [this]; rfl
  have h2 : ((rngI n).filter fun _ => true).length = n.toNat := by rw [List.filter_eq_self.2 (fun _ _ => rfl), rng_len]
  have h3 : (goneL S).length = ((rngI n).filter fun k => isB S k).length := by unfold goneL; rw [h.hn]
  omega
end
structure EnoOK (n f wh k said : Int) (S : Bs) : Prop where
  ok : OKB S
  hn : S.n = n
  hf : S.f = f
  g : ∀ x, S.g x = false
  a : ∀ x, x ≤ k → S.a x wh = false
  o : ∀ x y, y ≠ wh → S.a x y = false
  by_ : (((byL S wh).length : Nat) : Int) = said
  num : said = n - 1 - k - (if k < wh then 1 else 0)
section
variable {n f wh k said : Int} {S : Bs}
theorem EnoOK.skip (h : EnoOK n f wh k said S) (hw : k = wh) : EnoOK n f wh (k - 1) said S := ⟨h.ok, h.hn, h.hf, h.g, fun x hx => h.a x (by omega), h.o, h.by_, by
  have := h.num
  rw [if_neg (by omega)] at this
  rw [if_pos (by omega)]; omega⟩
theorem EnoOK.is (h : EnoOK n f wh k (f + 1) S) (w0 : 0 ≤ wh) (w1 : wh < n) : isB S wh = true ∧ (goneL S).length = 1 ∧ atI (goneL S) 0 = wh := by
  have hb := h.by_
  have hi : isB S wh = true := by
    unfold isB
    rw [h.g, h.hf, wk_iff.2 (by rw [h.hn]; omega), decide_eq_true (by omega)]; rfl
  have ho : ∀ x, x ≠ wh → isB S x = false := fun x hx => by
    have : byL S x = [] := by unfold byL; rw [List.filter_eq_nil_iff]; intro a _; rw [h.o a x hx]; simp
    unfold isB
    rw [h.g, this, decide_eq_false (by have := h.ok.f0; simp; omega)]; simp
  have h1 := count_more (rng_nodup n) (mem_rng.2 ⟨w0, w1⟩) (p := fun _ => false) (q := fun k => isB S k) rfl fun k _ => by
    by_cases e : k = wh
    · rw [e, hi]; simp
    · rw [ho k e]; simp [e]
  have h3 : (goneL S).length = ((rngI n).filter fun k => isB S k).length := by unfold goneL; rw [h.hn]
  have h4 : ((rngI n).filter fun _ => false).length = 0 := by rw [List.filter_eq_nil_iff.2 (fun _ _ => by simp)]; rfl
  have hl : (goneL S).length = 1 := by omega
  refine ⟨hi, hl, ?_⟩
  have hm : atI (goneL S) 0 ∈ goneL S := atE_mem (E := encI) (by omega)
  by_cases e : atI (goneL S) 0 = wh
  · exact e
  · have := (mem_gone.1 hm).2
    rw [ho _ e] at this; cases this
end
end Go.Proofs.Ytcobpabmmbcjcaa
namespace Go.Proofs.Ytcobpabmmbcjcaa
open Go.RowKit
set_option maxRecDepth 100000
set_option linter.unusedSimpArgs false
set_option linter.unusedVariables false
def pof : Value → Nat
  | .pointer (some a) => a.block
  | _ => 0
section
variable {P : Program} {Q : Exit → Act → World → Prop} {a : Act}
theorem ow_allocB {o : Oper} {R : List Nat} {w0 w : World} {B : List Ent} {K : Act → World → Prop} {t : TypeId} {i m' n' : Nat} {u : Value} {ys : List Value} (M : Mm R w0 w B) (ho : o.op = .alloc t) {cs : Array Value} (hz : (P.info? t).map (fun i => i.zero.map (·.cells)) = some (some cs)) (hi : B[i]? = some (.arg m' u n' ys))
    (h : ∀ x w', x = .pointer (some ⟨pof x, 0, none⟩) → Mm R w0 w' (B.set i (.blk (pof x) t cs)) → K (a.put o.dst x) w') : o.wp P a w K Q := by
  have hr : (execOp a.eval o).run P w = .ok (.value (.pointer (some ⟨w.heap.size, 0, none⟩))) (w.alloc (.cells cs t)) := by
    cases hq : P.info? t with
    | none => simp [hq] at hz
    | some i =>
      simp only [hq, Option.map_some, Option.some.injEq] at hz
      obtain ⟨z, hz1, hz2⟩ := Option.map_eq_some_iff.1 hz
      simp [execOp, ho, Instr.alloc, zeroValue, typeInfo, hq, hz1, newVar, newRow, go_sem]
      rw [← hz2]
      rfl
  unfold Oper.wp
  rw [hr]
  exact h (.pointer (some ⟨w.heap.size, 0, none⟩)) _ rfl (M.swap hi (x' := .blk w.heap.size t cs) (Below.out (bel1 _ _) _) (Blk.new _ _ _) (fun g hg => by simp only [Ent.fp, List.mem_singleton] at hg; exact .inr (by omega)) (fun g hg => by cases hg))
theorem ow_stA {o : Oper} {R : List Nat} {w0 w : World} {B : List Ent} {K : Act → World → Prop} {t ty : TypeId} {g i : Nat} {cs cs' : Array Value} {x y : Operand} (M : Mm R w0 w B) (ho : o.op = .store ty x y) (hx : a.eval x = .pointer (some ⟨g, 0, none⟩)) (hy : a.eval y = .agg cs')
    (hi : B[i]? = some (.blk g t cs)) {m : Nat} (hT : AggTy P ty m) (hm : cs.size = m) (hm' : cs'.size = m) (h1 : cs'.toList.all (·.oneCell') = true) (hd : o.dst = none)
    (h : ∀ x w', Mm R w0 w' (B.set i (.blk g t cs')) → K (a.put o.dst x) w') : o.wp P a w K Q := by
  obtain ⟨_, _, _, hi'⟩ := hT
  exact wp_store_row ty x y ho g cs' hx hy t cs (M.at hi) (by rw [hi', hm']) (by rw [hm, hm']) (by simpa using h1) (h undef _ (M.setRow hi cs'))
theorem ow_callT {o : Oper} {R : List Nat} {w0 w : World} {B : List Ent} {K : Act → World → Prop} {f : FuncId} {xs : List Operand} {ts : Array TypeId} {args : List Value} {i : Nat} {x : Ent} {Z : Value → Ent → Prop} (M : Mm R w0 w B) (ho : o.op = .call { callee := .value (.func f), args := xs.toArray, argTypes := ts })
    (he : enters P f = true) (ha : xs.map a.eval = args) (hi : B[i]? = some x) (hc : Calls P f args.toArray w fun e w' => ∃ v x', e = .returned v ∧ Out x.fp w w' ∧ x'.at w' ∧ (∀ g ∈ x'.fp, g ∈ x.fp ∨ w.heap.size ≤ g) ∧ x'.base = [] ∧ Z v x')
    (h : ∀ v x' w', Z v x' → Mm R w0 w' (B.set i x') → K (a.put o.dst v) w') : o.wp P a w K Q :=
  ow_callZ (Z := fun v w' => ∃ x', Z v x' ∧ Mm R w0 w' (B.set i x')) ho he ha (hc.mono fun e w' ⟨v, x', h1, h2, h3, h4, h5, h6⟩ => ⟨v, h1, x', h6, M.swap hi h2 h3 h4 (fun g hg => by rw [h5] at hg; cases hg)⟩) (fun v w' ⟨x', h1, h2⟩ => h v x' w' h1 h2)
section
variable {o : Oper} {x y : Operand}
theorem pu_eqlNN {t t' e : TypeId} (ho : o.op = .binOp .eql t x y t') (hx : a.eval x = .pointer none) (hy : a.eval y = .pointer none) (ht : P.underlying t = some (.pointer e)) : Pure P o a (.bool true) := fun w => by
  simp only [execOp, ho, hx, hy]; simp [go_sem, ht]
theorem pu_neqNN {t t' e : TypeId} (ho : o.op = .binOp .neq t x y t') (hx : a.eval x = .pointer none) (hy : a.eval y = .pointer none) (ht : P.underlying t = some (.pointer e)) : Pure P o a (.bool false) := fun w => by
  simp only [execOp, ho, hx, hy]; simp [go_sem, ht]
end
end
end Go.Proofs.Ytcobpabmmbcjcaa
