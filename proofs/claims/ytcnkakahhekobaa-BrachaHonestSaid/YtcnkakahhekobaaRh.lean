/- A statement whose order is open and that makes one variable: reads, calls and the new variable in any order, then the rest one by one. Any seat. -/
import Derived.Test.YtcnkakahhekobaaFx
import Derived.Test.YtcnkakahhekobaaRl
namespace Go.Proofs.Ytcnkakahhekobaa
open Go.RowKit
set_option maxRecDepth 100000
set_option linter.unusedSimpArgs false
set_option linter.unusedVariables false

/-- What an operation of open order leaves: a value; or a new variable. -/
inductive HV where
  | val (v : Value)
  | new (t : TypeId) (cs : Array Value)
def HV.value (g : Nat) : HV → Value
  | .val v => v
  | .new _ _ => .pointer (some ⟨g, 0, none⟩)
def HV.old : HV → Bool
  | .val _ => true
  | .new _ _ => false
def headL (g : Nat) : List Oper → List HV → List (Nat × Value) → List (Nat × Value)
  | o :: os, h :: hs, L => headL g os hs (match o.dst with | some d => (d, h.value g) :: L | none => L)
  | _, _, L => L
def HV.told (B : Nat) (x : Value) (w : World) : HV → Prop
  | .val v => x = v
  | .new t cs => ∃ g, x = .pointer (some ⟨g, 0, none⟩) ∧ Blk w g t cs ∧ B ≤ g
def told (B : Nat) (vals : List HV) (i : Nat) (x : Value) (w : World) : Prop := ∀ h, vals[i]? = some h → h.told B x w

section
variable {P : Program} {Q : Exit → Act → World → Prop} {R : List Nat} {w0 w : World} {a : Act} {n : Nat} {L : List (Nat × Value)} {B : List Ent} {l : List Oper}
/-- What is owed for one operation of open order. -/
def HeadOK (P : Program) (Q : Exit → Act → World → Prop) (l : List Oper) (nh : Nat) (vals : List HV) (a : Act) (n : Nat) (w : World) (i : Nat) (o : Oper) : Prop :=
  ∀ (a' : Act) (w' : World), Below w.heap.size w w' → Fr a' n [] →
    (∀ j oj d v, Region.waitsFor .any l.toArray i j = true → (l.take nh)[j]? = some oj → oj.dst = some d → vals[j]? = some (.val v) → a'.tmps.getD d undef = v) →
    (∀ s, ((l.take nh).all fun oj => oj.dst != some s) = true → a'.tmps.getD s undef = a.tmps.getD s undef) →
    Region.wanted o (yielded l.toArray a'.tmps) = true ∧ o.wp P a' w' (fun a'' w'' => ∃ x, a'' = a'.put o.dst x ∧ Below w'.heap.size w' w'' ∧ told w.heap.size vals i x w'') Q
def HeadsOK (P : Program) (Q : Exit → Act → World → Prop) (l : List Oper) (nh : Nat) (vals : List HV) (a : Act) (n : Nat) (w : World) : Nat → List Oper → Prop
  | _, [] => True
  | i, o :: os => HeadOK P Q l nh vals a n w i o ∧ HeadsOK P Q l nh vals a n w (i + 1) os
theorem heads_get {nh : Nat} {vals : List HV} : ∀ (os : List Oper) (k : Nat), HeadsOK P Q l nh vals a n w k os → ∀ i o, os[i]? = some o → HeadOK P Q l nh vals a n w (k + i) o
  | [], _, _, i, o, h => by simp at h
  | o' :: os, k, h, 0, o, hi => by
    have : o' = o := by simpa using hi
    subst this
    exact h.1
  | o' :: os, k, h, i + 1, o, hi => by
    have := heads_get os (k + 1) h.2 i o (by simpa using hi)
    rwa [show k + 1 + i = k + (i + 1) by omega] at this
theorem puts_fr {g : Nat} : ∀ (hs : List Oper) (vals : List HV) (k : Nat) (v : Nat → Value) (a : Act) (L : List (Nat × Value)), hs.length = vals.length →
    (hs.all fun o => match o.dst with | some d => Nat.blt d n | none => true) = true → (∀ i h, vals[i]? = some h → v (k + i) = h.value g) → Fr a n L → Fr (putsFrom (fun _ => true) v hs k a) n (headL g hs vals L)
  | [], [], _, _, _, _, _, _, _, F => F
  | o :: os, h :: hs, k, v, a, L, hl, hd, hv, F => by
    simp only [List.all_cons, Bool.and_eq_true] at hd
    have h0 : v k = h.value g := hv 0 h rfl
    simp only [putsFrom, if_true, headL, h0]
    refine puts_fr os hs (k + 1) v _ _ (by simpa using hl) hd.2 (fun i h' hi => by have := hv (i + 1) h' (by simpa using hi); rwa [show k + (i + 1) = k + 1 + i by omega] at this) ?_
    cases ho : o.dst with
    | none => exact F
    | some d =>
      rw [ho] at hd
      exact F.put hd.1
theorem told_keep (b : Nat) (vals : List HV) : ∀ i x w w', told b vals i x w → Below w.heap.size w w' → told b vals i x w' := by
  intro i x w w' h hb hv hi
  have := h hv hi
  cases hv with
  | val v => exact this
  | new t cs =>
    obtain ⟨g, h1, h2, h3⟩ := this
    exact ⟨g, h1, h2.below hb h2.lt, h3⟩
theorem Mm.with (M : Mm R w0 w B) {w' : World} (hb : Below w.heap.size w w') {g : Nat} {t : TypeId} {cs : Array Value} (h : Blk w' g t cs) (hg : w.heap.size ≤ g) : Mm R w0 w' (.blk g t cs :: B) :=
  M.add hb (x := .blk g t cs) h (fun k hk => by simp only [Ent.fp, List.mem_singleton] at hk; omega) (fun k hk => by cases hk)
theorem rg_heads {id : Nat} (F : Fr a n L) (M : Mm R w0 w B) (nh : Nat) (vals : List HV) (ia : Nat) {t : TypeId} {cs : Array Value} (hia : vals[ia]? = some (.new t cs)) (honly : ((List.range vals.length).all fun i => Nat.beq i ia || (match vals[i]? with | some h => h.old | none => true)) = true)
    (hm : P.follows .mixedOrders = true) (hB : headsG l.toArray (l.take nh) (l.drop nh).length = true) (hsz : ((l.take nh).all fun o => match o.dst with | some d => Nat.blt d n | none => true) = true) (hlen : (l.take nh).length = vals.length)
    (hop : HeadsOK P Q l nh vals a n w 0 (l.take nh))
    (hend : ∀ a' w' g, Fr a' n (headL g (l.take nh) vals L) → Mm R w0 w' (.blk g t cs :: B) → wpList P l.toArray Q (l.drop nh) a' w') : (Code.region id l.toArray true).wp P Q a w := by
  refine region_relG nh (told w.heap.size vals) hm hB ?_ (told_keep _ _) ?_ ?_
  · rw [List.all_eq_true] at hsz ⊢
    intro o ho
    have := hsz o ho
    cases hd : o.dst with
    | none => rfl
    | some d =>
      rw [hd] at this
      have hlt : d < n := Nat.le_of_ble_eq_true this
      simpa [F.size] using hlt
  · intro i o hi a' v w' hb hV hdep hold hsame
    have := heads_get (l.take nh) 0 hop i o hi
    rw [Nat.zero_add] at this
    refine this a' w' hb ⟨?_, ?_, fun h => by cases h⟩ (fun j oj d v' hj ho hd hv => ?_) hold
    · rw [hsame.1, F.size]
    · rw [hsame.2, F.defers]
    · rw [hdep j oj d hj ho hd]
      exact hV j hj (.val v') hv
  · intro v w' hb hV
    have hil : ia < vals.length := by
      rcases Nat.lt_or_ge ia vals.length with h | h
      · exact h
      · rw [List.getElem?_eq_none h] at hia; cases hia
    obtain ⟨g, hg1, hg2, hg3⟩ := hV ia (by omega) _ hia
    refine hend _ _ g (puts_fr _ _ 0 v a L hlen hsz (fun i h hi => ?_) F) (M.with hb hg2 hg3)
    rw [Nat.zero_add]
    have hi' : i < vals.length := by
      rcases Nat.lt_or_ge i vals.length with h | h
      · exact h
      · rw [List.getElem?_eq_none h] at hi; cases hi
    by_cases hii : i = ia
    · subst hii
      rw [hia] at hi
      injection hi with hi
      subst hi
      exact hg1
    · have ho := List.all_eq_true.1 honly i (List.mem_range.2 hi')
      rw [hi] at ho
      have hb' : Nat.beq i ia = false := by
        cases hbq : Nat.beq i ia
        · rfl
        · exact absurd (Nat.eq_of_beq_eq_true hbq) hii
      rw [hb', Bool.false_or] at ho
      cases h with
      | val u => exact hV i (by omega) _ hi
      | new _ _ => cases ho
theorem rg_heads0 {id : Nat} (F : Fr a n L) (M : Mm R w0 w B) (nh : Nat) (vals : List HV) (honly : (vals.all fun h => h.old) = true)
    (hm : P.follows .mixedOrders = true) (hB : headsG l.toArray (l.take nh) (l.drop nh).length = true) (hsz : ((l.take nh).all fun o => match o.dst with | some d => Nat.blt d n | none => true) = true) (hlen : (l.take nh).length = vals.length)
    (hop : HeadsOK P Q l nh vals a n w 0 (l.take nh))
    (hend : ∀ a' w', Fr a' n (headL 0 (l.take nh) vals L) → Mm R w0 w' B → wpList P l.toArray Q (l.drop nh) a' w') : (Code.region id l.toArray true).wp P Q a w := by
  refine region_relG nh (told w.heap.size vals) hm hB ?_ (told_keep _ _) ?_ ?_
  · rw [List.all_eq_true] at hsz ⊢
    intro o ho
    have := hsz o ho
    cases hd : o.dst with
    | none => rfl
    | some d =>
      rw [hd] at this
      have hlt : d < n := Nat.le_of_ble_eq_true this
      simpa [F.size] using hlt
  · intro i o hi a' v w' hb hV hdep hold hsame
    have := heads_get (l.take nh) 0 hop i o hi
    rw [Nat.zero_add] at this
    refine this a' w' hb ⟨?_, ?_, fun h => by cases h⟩ (fun j oj d v' hj ho hd hv => ?_) hold
    · rw [hsame.1, F.size]
    · rw [hsame.2, F.defers]
    · rw [hdep j oj d hj ho hd]
      exact hV j hj (.val v') hv
  · intro v w' hb hV
    refine hend _ _ (puts_fr _ _ 0 v a L hlen hsz (fun i h hi => ?_) F) (M.below hb)
    rw [Nat.zero_add]
    have hi' : i < vals.length := by
      rcases Nat.lt_or_ge i vals.length with h | h
      · exact h
      · rw [List.getElem?_eq_none h] at hi; cases hi
    have ho := List.all_eq_true.1 honly h (List.mem_of_getElem? hi)
    cases h with
    | val u => exact hV i (by omega) _ hi
    | new _ _ => cases ho
/-! ### One operation of open order -/
variable {o : Oper} {nh i : Nat} {vals : List HV} {a' : Act} {w' : World} {v : Value} {L' : List (Nat × Value)}
theorem ob_rd (hw : Region.wanted o (yielded l.toArray a'.tmps) = true) (hp : Rdy P o a' (fun x => x = w') v) (hv : vals[i]? = some (.val v)) :
    Region.wanted o (yielded l.toArray a'.tmps) = true ∧ o.wp P a' w' (fun a'' w'' => ∃ x, a'' = a'.put o.dst x ∧ Below w'.heap.size w' w'' ∧ told w.heap.size vals i x w'') Q :=
  ⟨hw, ow_value v w' (hp w' rfl) (Below.refl _ _) (fun h hh => by rw [hv] at hh; injection hh with hh; subst hh; rfl)⟩
theorem ob_call (hw : Region.wanted o (yielded l.toArray a'.tmps) = true) {f : FuncId} {xs : List Operand} {ts : Array TypeId} {args : List Value} (ho : o.op = .call { callee := .value (.func f), args := xs.toArray, argTypes := ts })
    (he : enters P f = true) (ha : xs.map a'.eval = args) (hc : Calls P f args.toArray w' fun e w'' => e = .returned v ∧ Below w'.heap.size w' w'') (hv : vals[i]? = some (.val v)) :
    Region.wanted o (yielded l.toArray a'.tmps) = true ∧ o.wp P a' w' (fun a'' w'' => ∃ x, a'' = a'.put o.dst x ∧ Below w'.heap.size w' w'' ∧ told w.heap.size vals i x w'') Q :=
  ⟨hw, ow_call f xs ts ho he args ha v hc (fun _ _ h hh => by rw [hv] at hh; injection hh with hh; subst hh; rfl)⟩
theorem ob_alloc (hw : Region.wanted o (yielded l.toArray a'.tmps) = true) (hb : Below w.heap.size w w') {t : TypeId} (ho : o.op = .alloc t) {cs : Array Value} (hz : (P.info? t).map (fun i => i.zero.map (·.cells)) = some (some cs)) (hv : vals[i]? = some (.new t cs)) :
    Region.wanted o (yielded l.toArray a'.tmps) = true ∧ o.wp P a' w' (fun a'' w'' => ∃ x, a'' = a'.put o.dst x ∧ Below w'.heap.size w' w'' ∧ told w.heap.size vals i x w'') Q := by
  refine ⟨hw, ?_⟩
  cases hq : P.info? t with
  | none => simp [hq] at hz
  | some inf =>
    simp only [hq, Option.map_some, Option.some.injEq] at hz
    obtain ⟨z, hz1, hz2⟩ := Option.map_eq_some_iff.1 hz
    refine ow_alloc t ho z (by simp [hq, hz1]) (fun h hh => ?_)
    rw [hv] at hh
    injection hh with hh
    subst hh
    rw [hz2]
    exact ⟨_, rfl, Blk.new _ _ _, hb.size⟩
/-- What the frame holds for it. -/
theorem Fr.dep (_F : Fr a' n []) (hdep : ∀ j oj d v, Region.waitsFor .any l.toArray i j = true → (l.take nh)[j]? = some oj → oj.dst = some d → vals[j]? = some (.val v) → a'.tmps.getD d undef = v) (j : Nat) {oj : Oper} {d : Nat} (h1 : Region.waitsFor .any l.toArray i j = true)
    (h2 : (l.take nh)[j]? = some oj) (h3 : oj.dst = some d) (h4 : vals[j]? = some (.val v)) : a'.tmps.getD d undef = v := hdep j oj d v h1 h2 h3 h4
theorem Fr.was (F : Fr a n L) (hold : ∀ s, ((l.take nh).all fun oj => oj.dst != some s) = true → a'.tmps.getD s undef = a.tmps.getD s undef) {s : Nat} (h1 : ((l.take nh).all fun oj => oj.dst != some s) = true) (h2 : look L s = some v) : a'.tmps.getD s undef = v := by
  rw [hold s h1, F.get h2]
end
/-! ### More ends of bodies -/
section
variable {P : Program} {a : Act} {n : Nat} {L : List (Nat × Value)} {w : World} {fn : Func} {Z : Ending → World → Prop} {k j : Nat} {v u : Value}
theorem rt_none (F : Fr a n L) (hr : fn.results = #[]) (hR : Z (.returned (.tuple #[])) w) : bodyPost P fn Z .ret a w := bodyPost_ret (results_none hr _ _ _) F.defers hR
theorem rt_end (F : Fr a n L) (hr : fn.results = #[]) (hR : Z (.returned (.tuple #[])) w) : bodyPost P fn Z .normal a w := bodyPost_end (results_none hr _ _ _) F.defers hR
theorem rt_tmp2 (F : Fr a n L) (hr : fn.results = #[.tmp k, .tmp j]) (hv : look L k = some v) (hu : look L j = some u) (hR : Z (.returned (.tuple #[v, u])) w) : bodyPost P fn Z .ret a w :=
  bodyPost_ret (by rw [results_tmp2 hr, F.get hv, F.get hu]) F.defers hR
end
end Go.Proofs.Ytcnkakahhekobaa
