/- Put together: Ob, So. -/
import Derived.Test.YtboinbmgndomhaaJ2
import Derived.Sort.AssemblyPlain
namespace Go.Proofs.Ytboinbmgndomhaa
open Go.RowKit
set_option maxRecDepth 100000
set_option linter.unusedSimpArgs false
set_option linter.unusedVariables false

def encP : Enc Nat := ⟨1, fun g => [.pointer (some ⟨g, 0, none⟩)], 0, fun _ => rfl, fun a v h => by
  simp only [List.mem_cons, List.not_mem_nil, or_false] at h; subst h; rfl⟩
def cP (L : List Nat) : List Value := cE encP L
def atP (L : List Nat) (i : Nat) : Nat := atE encP L i
theorem cP_at {L : List Nat} {i : Nat} (h : i < L.length) : (cP L)[i * 1]? = some (.pointer (some ⟨atP L i, 0, none⟩)) := by
  have h1 := cE_at (E := encP) h
  have h2 : ((cP L).drop (i * 1)).take 1 = [.pointer (some ⟨atP L i, 0, none⟩)] := h1
  have h3 : (((cP L).drop (i * 1)).take 1)[0]? = some (.pointer (some ⟨atP L i, 0, none⟩)) := by rw [h2]; rfl
  rw [List.getElem?_take] at h3
  simpa using h3
theorem cP_app (L K : List Nat) : cP (L ++ K) = cP L ++ cP K := cE_app L K
theorem cP_ones (L : List Nat) : ∀ z ∈ cP L, z.oneCell' = true := cE_ones L
abbrev RdP (w : World) (v : Value) (L : List Nat) : Prop := RdV w 1 v L.length (cP L)
section
variable {α : Type} {fp : α → List Nat} {Φ : α → World → Prop} {L : List α} {w w' : World}
/-- Objects told by Φ, each in its blocks fp, apart from one another. -/
structure ObjsV (fp : α → List Nat) (Φ : α → World → Prop) (L : List α) (w : World) : Prop where
  all : ∀ a ∈ L, Φ a w
  nd : L.Pairwise fun a b => ∀ g ∈ fp a, ¬ g ∈ fp b
theorem ObjsV.loc (hl : ∀ a, Loc (fp a) (Φ a)) (L : List α) : Loc (L.flatMap fp) (ObjsV fp Φ L) := fun w w' hk h => by
  have hin : ∀ a ∈ L, ∀ g ∈ fp a, g ∈ L.flatMap fp := fun a ha g hg => List.mem_flatMap.2 ⟨a, ha, hg⟩
  refine ⟨⟨fun a ha => (hl a w w' (fun g hg => hk g (hin a ha g hg)) (h.all a ha)).1, h.nd⟩, fun g hg => ?_⟩
  obtain ⟨a, ha, hg⟩ := List.mem_flatMap.1 hg
  exact (hl a w w (fun _ _ => rfl) (h.all a ha)).2 g hg
theorem ObjsV.nil (fp : α → List Nat) (Φ : α → World → Prop) (w : World) : ObjsV fp Φ [] w := ⟨fun a ha => (by cases ha), List.Pairwise.nil⟩
theorem ObjsV.apart (h : ObjsV fp Φ L w) {i j : Nat} (hi : i < L.length) (hj : j < L.length) (hne : i ≠ j) : ∀ g ∈ fp L[i], ¬ g ∈ fp L[j] := by
  have hp := List.pairwise_iff_getElem.1 h.nd
  rcases Nat.lt_or_gt_of_ne hne with h1 | h1
  · exact hp i j hi hj h1
  · exact fun g hg hg' => hp j i hj hi h1 g hg' hg
theorem ObjsV.lt (hl : ∀ a, Loc (fp a) (Φ a)) (h : ObjsV fp Φ L w) {a : α} (ha : a ∈ L) : ∀ g ∈ fp a, g < w.heap.size := (hl a w w (fun _ _ => rfl) (h.all a ha)).2
/-- One of them turned into another one. -/
theorem ObjsV.turn (hl : ∀ a, Loc (fp a) (Φ a)) (h : ObjsV fp Φ L w) {i : Nat} (hi : i < L.length) {Z : Value → Ent → Prop} {e : Ending} {Z' : Value → α → Prop}
    (ht : TurnsE w (.own (fp L[i]) (Φ L[i])) (fun u x' => ∃ a', Z' u a' ∧ x' = .own (fp a') (Φ a')) e w') :
    TurnsE w (.own (L.flatMap fp) (ObjsV fp Φ L)) (fun u x' => ∃ a', Z' u a' ∧ x' = .own ((L.set i a').flatMap fp) (ObjsV fp Φ (L.set i a'))) e w' := by
  obtain ⟨v, x', h1, h2, h3, h4, h5, a', h6, rfl⟩ := ht
  have hsub : ∀ g ∈ fp L[i], g ∈ L.flatMap fp := fun g hg => List.mem_flatMap.2 ⟨_, List.getElem_mem hi, hg⟩
  have hother : ∀ j (hj : j < L.length), j ≠ i → Φ L[j] w' ∧ ∀ g ∈ fp L[j], ¬ g ∈ fp a' := fun j hj hne => by
    have hlt := h.lt hl (List.getElem_mem hj)
    have hap := h.apart hj hi hne
    refine ⟨(hl _ w w' (fun g hg => h2.block g (hlt g hg) (hap g hg)) (h.all _ (List.getElem_mem hj))).1, fun g hg hg' => ?_⟩
    rcases h4 g hg' with h7 | h7
    · exact hap g hg h7
    · have := hlt g hg; omega
  refine ⟨v, .own ((L.set i a').flatMap fp) (ObjsV fp Φ (L.set i a')), h1, h2.mono hsub, ⟨⟨fun b hb => ?_, ?_⟩, ObjsV.loc hl _⟩, fun g hg => ?_, rfl, a', h6, rfl⟩
  · obtain ⟨j, hj, rfl⟩ := List.mem_iff_getElem.1 hb
    rw [List.length_set] at hj
    rw [List.getElem_set]
    split
    · exact h3.1
    · rename_i hne; exact (hother j hj (fun e => hne e.symm)).1
  · rw [List.pairwise_iff_getElem]
    intro j k hj hk hjk
    rw [List.length_set] at hj hk
    rw [List.getElem_set, List.getElem_set]
    by_cases e1 : i = j
    · rw [if_pos e1, if_neg (by omega)]
      exact fun g hg hg' => (hother k hk (by omega)).2 g hg' hg
    · rw [if_neg e1]
      by_cases e2 : i = k
      · rw [if_pos e2]; exact (hother j hj (by omega)).2
      · rw [if_neg e2]; exact h.apart hj hk (by omega)
  · obtain ⟨b, hb, hg⟩ := List.mem_flatMap.1 hg
    obtain ⟨j, hj, rfl⟩ := List.mem_iff_getElem.1 hb
    rw [List.length_set] at hj
    rw [List.getElem_set] at hg
    split at hg
    · rcases h4 g hg with h7 | h7
      · exact .inl (hsub g h7)
      · exact .inr h7
    · exact .inl (List.mem_flatMap.2 ⟨_, List.getElem_mem hj, hg⟩)
theorem ObjsV.push (h : ObjsV fp Φ L w) {a : α} (ha : Φ a w) (hd : ∀ g ∈ fp a, ¬ g ∈ L.flatMap fp) : ObjsV fp Φ (L ++ [a]) w := by
  refine ⟨fun b hb => ?_, List.pairwise_append.2 ⟨h.nd, List.pairwise_singleton _ _, fun b hb c hc g hg hg' => ?_⟩⟩
  · rcases List.mem_append.1 hb with hb | hb
    · exact h.all b hb
    · rw [List.mem_singleton.1 hb]; exact ha
  · rw [List.mem_singleton.1 hc] at hg'
    exact hd g hg' (List.mem_flatMap.2 ⟨b, hb, hg⟩)
end
/-- A new one goes to the others. -/
theorem Mm.pushO {α : Type} {fp : α → List Nat} {Φ : α → World → Prop} {L : List α} {a : α} {R : List Nat} {w w0 : World} {B : List Ent} (hl : ∀ a, Loc (fp a) (Φ a)) (M : Mm R w0 w (.own (fp a) (Φ a) :: .own (L.flatMap fp) (ObjsV fp Φ L) :: B)) :
    Mm R w0 w (.own ((L ++ [a]).flatMap fp) (ObjsV fp Φ (L ++ [a])) :: B) := by
  have hap := M.apart (i := 0) (j := 1) rfl rfl (by decide)
  refine Mm.recast (X := [.own (fp a) (Φ a), .own (L.flatMap fp) (ObjsV fp Φ L)]) (Y := [_]) M (fun y hy => ?_) (fun y hy g hg => ?_) (List.pairwise_singleton _ _) (fun y hy g hg => ?_)
  · rw [List.mem_singleton.1 hy]
    exact ⟨(M.pv (i := 1) rfl).push (M.pv (i := 0) rfl) hap, ObjsV.loc hl _⟩
  · rw [List.mem_singleton.1 hy] at hg
    have hg' : g ∈ (L ++ [a]).flatMap fp := hg
    rw [List.flatMap_append, List.mem_append] at hg'
    rcases hg' with h | h
    · exact ⟨.own (L.flatMap fp) (ObjsV fp Φ L), by simp, h⟩
    · exact ⟨.own (fp a) (Φ a), by simp, by simpa [Ent.fp] using h⟩
  · rw [List.mem_singleton.1 hy] at hg; cases hg
end Go.Proofs.Ytboinbmgndomhaa
namespace Go.Proofs.Ytboinbmgndomhaa
open Go.RowKit Go.Sort
set_option maxRecDepth 100000
set_option linter.unusedSimpArgs false
set_option linter.unusedVariables false

section
variable {α : Type} [Inhabited α] (P : Program) (g : Nat) (lb : Array Value) (lt : α → α → Bool) (sf : Nat) (sb : Array Value) (blk t n : Nat) (W0 : World) (cA : Array α → Array Value)
/-- In every world in which all but the row is as it was in W0: the comparison compares. -/
def LessOK : Prop := ∀ (d : Array α) (w : World) (i j : Nat), d.size = n → i < n → j < n → Out [blk] W0 w → Blk w blk t (cA d) →
  Calls P g (#[.int .i64 i, .int .i64 j] ++ lb) w fun e w' => e = .returned (.bool (lt d[i]! d[j]!)) ∧ Below w.heap.size w w'
def SwapOK : Prop := ∀ (d : Array α) (w : World) (i j : Nat), d.size = n → i < n → j < n → Blk w blk t (cA d) →
  ∃ w', (callFunc sf (#[.int .i64 i, .int .i64 j] ++ sb)).run P w = .ok (.value (.tuple #[])) w' ∧ Out [blk] w w' ∧ Blk w' blk t (cA (swp d i j))
/-- How a call ends that turns the row alone. -/
def Turns (w : World) (Z : Value → Array α → Prop) (e : Ending) (w' : World) : Prop := ∃ v d', e = .returned v ∧ Out [blk] w w' ∧ Blk w' blk t (cA d') ∧ Z v d'
end
section
variable {α : Type} [Inhabited α] {P : Program} {g : Nat} {lb : Array Value} {lt : α → α → Bool} {sf : Nat} {sb : Array Value} {blk t n : Nat} {W0 w : World} {cA : Array α → Array Value}
theorem LessOK.at (h : LessOK P g lb lt blk t n W0 cA) {d : Array α} {i j : Nat} {ii jj : Int} (hs : d.size = n) (hi : i < n) (hj : j < n) (ei : ii = i) (ej : jj = j) (ho : Out [blk] W0 w) (hb : Blk w blk t (cA d)) :
    Calls P g ([.int .i64 ii, .int .i64 jj].toArray ++ lb) w fun e w' => e = .returned (.bool (lt d[i]! d[j]!)) ∧ Below w.heap.size w w' := by
  subst ei; subst ej
  exact h d w i j hs hi hj ho hb
theorem SwapOK.at (h : SwapOK P sf sb blk t n cA) {d : Array α} {i j : Nat} {ii jj : Int} (hs : d.size = n) (hi : i < n) (hj : j < n) (ei : ii = i) (ej : jj = j) (hb : Blk w blk t (cA d)) :
    ∃ w', (callFunc sf ([.int .i64 ii, .int .i64 jj].toArray ++ sb)).run P w = .ok (.value (.tuple #[])) w' ∧ Out [blk] w w' ∧ Blk w' blk t (cA (swp d i j)) := by
  subst ei; subst ej
  exact h d w i j hs hi hj hb
theorem LessOK.later (h : LessOK P g lb lt blk t n W0 cA) (ho : Out [blk] W0 w) : LessOK P g lb lt blk t n w cA := fun d w' i j hs hi hj h1 h2 =>
  h d w' i j hs hi hj (ho.trans h1 (fun _ hg => .inr hg)) h2
end
/-- A block of one int. -/
def cOne (d : Array Int) : Array Value := #[.int .i64 d[0]!]
/-! ### Calls of function values -/
section
variable {P : Program} {o : Oper} {a : Act} {x : Operand}
theorem run_callV {xs : List Operand} {ts : Array TypeId} {args : List Value} {f : Nat} {lb : Array Value} (ho : o.op = .call { callee := .value x, args := xs.toArray, argTypes := ts }) (hx : a.eval x = .func (.func f) #[] lb) (ha : xs.map a.eval = args) (w : World) :
    (execOp a.eval o).run P w = (callFunc f (args.toArray ++ lb)).run P w := by
  simp only [execOp, ho, resolve, hx, List.map_toArray, ha]
  simp [Deferred.ofValue, invoke]
theorem callFunc_enters {f : Nat} (he : enters P f = true) (args : Array Value) (w : World) : (callFunc f args).run P w = .ok (.enter f args) w := by
  unfold enters at he
  cases hf : P.funcs[f]? with
  | none => simp [hf] at he
  | some fn =>
    simp only [hf, Option.any_some, Bool.and_eq_true, Bool.not_eq_true', beq_eq_false_iff_ne, ne_eq] at he
    obtain ⟨h1, h2⟩ := he
    have h2' : fn.body ≠ none := by intro e; rw [e] at h2; simp at h2
    simp [callFunc, program, hf, h1, h2', Sem.run, Sem.run_bind]
end
section
variable {P : Program} {ops rest : List Oper} {o : Oper} {a : Act} {n d : Nat} {L : List (Nat × Value)} {Q : Exit → Act → World → Prop} {R : List Nat} {w w0 : World} {B : List Ent} {v u : Value} {x : Operand}
theorem sq_callV (F : Fr a n L) (M : Mm R w0 w B) (hw : Region.wanted o (yielded ops.toArray a.tmps) = true) {xs : List Operand} {ts : Array TypeId} {args : List Value} {f : Nat} {lb : Array Value} (ho : o.op = .call { callee := .value x, args := xs.toArray, argTypes := ts })
    (hx : a.eval x = .func (.func f) #[] lb) (he : enters P f = true) (ha : xs.map a.eval = args) (hc : Calls P f (args.toArray ++ lb) w fun e w' => e = .returned v ∧ Below w.heap.size w w') (hd : o.dst = some d) (hdn : Nat.blt d n = true)
    (h : ∀ a' w', Fr a' n ((d, v) :: L) → Mm R w0 w' B → wpList P ops.toArray Q rest a' w') : wpList P ops.toArray Q (o :: rest) a w :=
  wpList_step fun K hK => by
    rw [if_pos hw]
    unfold Oper.wp
    rw [run_callV ho hx ha w, callFunc_enters he]
    refine hc.mono fun e w' ⟨h1, h2⟩ => ?_
    subst h1
    exact hK _ _ (by rw [hd]; exact h _ _ (F.put hdn) (M.below h2))
/-- A call that turns one block. -/
theorem Mm.turned (M : Mm R w0 w B) {i g : Nat} {t : TypeId} {cs cs' : Array Value} {w' : World} (hi : B[i]? = some (.blk g t cs)) (ho : Out [g] w w') (hb : Blk w' g t cs') : Mm R w0 w' (B.set i (.blk g t cs')) :=
  M.swap hi (x' := .blk g t cs') ho hb (fun g h => .inl h) (fun g h => by cases h)
theorem sq_swap (F : Fr a n L) (M : Mm R w0 w B) (hw : Region.wanted o (yielded ops.toArray a.tmps) = true) {xs : List Operand} {ts : Array TypeId} {args : List Value} {f i g : Nat} {lb : Array Value} {t : TypeId} {cs cs' : Array Value} (ho : o.op = .call { callee := .value x, args := xs.toArray, argTypes := ts })
    (hx : a.eval x = .func (.func f) #[] lb) (ha : xs.map a.eval = args) (hi : B[i]? = some (.blk g t cs)) (hc : ∃ w', (callFunc f (args.toArray ++ lb)).run P w = .ok (.value v) w' ∧ Out [g] w w' ∧ Blk w' g t cs') (hd : o.dst = some d) (hdn : Nat.blt d n = true)
    (h : ∀ a' w', Fr a' n ((d, v) :: L) → Mm R w0 w' (B.set i (.blk g t cs')) → wpList P ops.toArray Q rest a' w') : wpList P ops.toArray Q (o :: rest) a w :=
  wpList_step fun K hK => by
    obtain ⟨w', hr, h1, h2⟩ := hc
    rw [if_pos hw]
    unfold Oper.wp
    rw [run_callV ho hx ha w, hr]
    exact hK _ _ (by rw [hd]; exact h _ _ (F.put hdn) (M.turned hi h1 h2))
/-- A call of a function that turns the row. -/
theorem sq_callX (F : Fr a n L) (M : Mm R w0 w B) (hw : Region.wanted o (yielded ops.toArray a.tmps) = true) {f : FuncId} {xs : List Operand} {ts : Array TypeId} {args : List Value} {i g : Nat} {t : TypeId} {α : Type} {d0 : Array α} {cA : Array α → Array Value} {Z : Value → Array α → Prop} (ho : o.op = .call { callee := .value (.func f), args := xs.toArray, argTypes := ts })
    (he : enters P f = true) (ha : xs.map a.eval = args) (hi : B[i]? = some (.blk g t (cA d0))) (hc : Calls P f args.toArray w (Turns g t cA w Z)) (hd : o.dst = some d) (hdn : Nat.blt d n = true)
    (h : ∀ a' w' v d', Z v d' → Fr a' n ((d, v) :: L) → Mm R w0 w' (B.set i (.blk g t (cA d'))) → wpList P ops.toArray Q rest a' w') : wpList P ops.toArray Q (o :: rest) a w :=
  wpList_step fun K hK => by
    rw [if_pos hw]
    unfold Oper.wp
    rw [run_enter he ho w, List.map_toArray, ha]
    refine hc.mono fun e w' ⟨v, d', h1, h2, h3, h4⟩ => ?_
    subst h1
    exact hK _ _ (by rw [hd]; exact h _ _ _ _ h4 (F.put hdn) (M.turned hi h2 h3))
end
/-! ### The library's plain functions, a step at a time -/
section
variable {α : Type} [Inhabited α] {lt : α → α → Bool} {d : Array α} {a b : Nat}
theorem insOuter_go {i i' : Nat} (h : i < b) (hi : i' = i + 1) : insOuter lt a b i d = insOuter lt a b i' (insInner lt a i d) := by
  subst hi; rw [insOuter]; simp [h]
theorem insOuter_stop {i : Nat} (h : ¬ i < b) : insOuter lt a b i d = d := by
  rw [insOuter]; simp [h]
theorem insInner_stop1 {j : Nat} (h : j ≤ a) : insInner lt a j d = d := by
  cases j with
  | zero => rfl
  | succ j => rw [insInner, if_neg (by simp; omega)]
theorem insInner_stop2 {j j' : Nat} (e : j = j' + 1) (h : lt d[j]! d[j']! = false) : insInner lt a j d = d := by
  subst e; rw [insInner, if_neg (by simp [h])]
theorem insInner_go {j j' : Nat} (e : j = j' + 1) (h1 : a < j) (h2 : lt d[j]! d[j']! = true) : insInner lt a j d = insInner lt a j' (swp d j j') := by
  subst e; rw [insInner, if_pos (by simp [h2]; omega)]
theorem sift_stop {hi first r : Nat} (h : hi ≤ 2 * r + 1) : siftDown lt hi first r d = d := by
  rw [siftDown, dif_pos h]
theorem sift_R {hi first r o p q q' r' : Nat} {z : Bool} (h : 2 * r + 2 < hi) (ep : p = first + (2 * r + 1)) (eq : q = first + (2 * r + 2)) (eq' : q' = first + (2 * r + 2)) (eo : o = first + r) (er : r' = 2 * r + 2) (hl : lt d[p]! d[q]! = true) (hz : lt d[o]! d[q']! = z) :
    siftDown lt hi first r d = if z then siftDown lt hi first r' (swp d o q') else d := by
  subst ep; subst eq; subst eq'; subst eo; subst er
  rw [siftDown, dif_neg (by omega), show first + (2 * r + 1) + 1 = first + (2 * r + 2) by omega, show 2 * r + 1 + 1 = 2 * r + 2 by omega, hl, hz]
  simp only [h, decide_true, Bool.and_self, if_true]
  cases z <;> simp
theorem sift_L {hi first r o p r' : Nat} {z : Bool} (h : 2 * r + 1 < hi) (ep : p = first + (2 * r + 1)) (eo : o = first + r) (er : r' = 2 * r + 1) (hl : hi ≤ 2 * r + 2 ∨ ∃ q, q = first + (2 * r + 2) ∧ lt d[p]! d[q]! = false) (hz : lt d[o]! d[p]! = z) :
    siftDown lt hi first r d = if z then siftDown lt hi first r' (swp d o p) else d := by
  subst ep; subst eo; subst er
  have hc : (decide (2 * r + 1 + 1 < hi) && lt d[first + (2 * r + 1)]! d[first + (2 * r + 1) + 1]!) = false := by
    rcases hl with h1 | ⟨q, rfl, h1⟩
    · simp; omega
    · rw [show first + (2 * r + 1) + 1 = first + (2 * r + 2) by omega, h1]; simp
  rw [siftDown, dif_neg (by omega), hc, hz]
  cases z <;> simp
theorem hbuild_go {hi first i i' : Nat} (e : i = i' + 1) : heapBuild lt hi first i d = heapBuild lt hi first i' (siftDown lt hi first i' d) := by subst e; rfl
theorem hpop_go {first i i' o p : Nat} (e : i = i' + 1) (eo : o = first) (ep : p = first + i') : heapPop lt first i d = heapPop lt first i' (siftDown lt i' first 0 (swp d o p)) := by subst e; subst eo; subst ep; rfl
theorem sift_size (hi first : Nat) : ∀ (m r : Nat) (d : Array α), hi - r ≤ m → (siftDown lt hi first r d).size = d.size := by
  intro m
  induction m with
  | zero => intro r d h; rw [sift_stop (by omega)]
  | succ m ih =>
    intro r d h
    rw [siftDown]
    repeat' split
    all_goals first | rfl | (rw [ih _ _ (by omega), swp_size])
theorem scanUp_go {p : α → Bool} {j i i' : Nat} (h : i ≤ j) (hp : p d[i]! = true) (e : i' = i + 1) : scanUp p d j i = scanUp p d j i' := by
  subst e; rw [scanUp]; simp [h, hp]
theorem scanUp_stop {p : α → Bool} {j i : Nat} (h : ¬ i ≤ j ∨ p d[i]! = false) : scanUp p d j i = i := by
  rw [scanUp]; rcases h with h | h
  · simp [h]
  · simp [h]
theorem scanDown_go {p : α → Bool} {i j j' : Nat} (h : i ≤ j) (hp : p d[j]! = true) (e : j = j' + 1) : scanDown p d i j = scanDown p d i j' := by
  subst e; rw [scanDown]; simp [h, hp]
theorem scanDown_stop {p : α → Bool} {i j : Nat} (h : ¬ i ≤ j ∨ p d[j]! = false) : scanDown p d i j = j := by
  cases j with
  | zero => rfl
  | succ j =>
    rw [scanDown]; rcases h with h | h
    · simp [h]
    · simp [h]
theorem partLoop_stop {i j i2 j2 : Nat} (hi : scanUp (fun x => lt x d[a]!) d j i = i2) (hj : scanDown (fun x => !lt x d[a]!) d i2 j = j2) (h : j2 < i2) : partLoop lt a i j d = (j2, d) := by
  rw [partLoop]; simp only [hi, hj]; rw [if_pos h]
theorem partLoop_go {i j i2 j2 i3 j3 : Nat} (hi : scanUp (fun x => lt x d[a]!) d j i = i2) (hj : scanDown (fun x => !lt x d[a]!) d i2 j = j2) (h : i2 ≤ j2) (h1 : i ≤ i2) (h2 : j2 ≤ j) (h0 : 0 < j2) (e3 : i3 = i2 + 1) (e4 : j2 = j3 + 1) :
    partLoop lt a i j d = partLoop lt a i3 j3 (swp d i2 j2) := by
  subst e3; subst e4
  rw [partLoop]; simp only [hi, hj]; rw [if_neg (by omega), dif_pos (by omega)]; rfl
theorem partEqLoop_stop {i j i2 j2 : Nat} (hi : scanUp (fun x => !lt d[a]! x) d j i = i2) (hj : scanDown (fun x => lt d[a]! x) d i2 j = j2) (h : j2 < i2) : partEqLoop lt a i j d = (i2, d) := by
  rw [partEqLoop]; simp only [hi, hj]; rw [if_pos h]
theorem partEqLoop_go {i j i2 j2 i3 j3 : Nat} (hi : scanUp (fun x => !lt d[a]! x) d j i = i2) (hj : scanDown (fun x => lt d[a]! x) d i2 j = j2) (h : i2 ≤ j2) (h1 : i ≤ i2) (h2 : j2 ≤ j) (h0 : 0 < j2) (e3 : i3 = i2 + 1) (e4 : j2 = j3 + 1) :
    partEqLoop lt a i j d = partEqLoop lt a i3 j3 (swp d i2 j2) := by
  subst e3; subst e4
  rw [partEqLoop]; simp only [hi, hj]; rw [if_neg (by omega), dif_pos (by omega)]; rfl
theorem rev_go {i j i' j' : Nat} (h : i < j) (e : i' = i + 1) (e' : j' = j - 1) : reverseLoop i j d = reverseLoop i' j' (swp d i j) := by
  subst e; subst e'; rw [reverseLoop]; simp [h]
theorem rev_stop {i j : Nat} (h : ¬ i < j) : reverseLoop i j d = d := by rw [reverseLoop]; simp [h]
theorem scanSorted_go {i i' k : Nat} (h : i < b) (e : i' = i + 1) (ek : i = k + 1) (hl : lt d[i]! d[k]! = false) : scanSorted lt d b i = scanSorted lt d b i' := by
  subst e; subst ek; rw [scanSorted]; simp [h, hl]
theorem scanSorted_stop1 {i : Nat} (h : ¬ i < b) : scanSorted lt d b i = i := by rw [scanSorted]; simp [h]
theorem scanSorted_stop2 {i k : Nat} (ek : i = k + 1) (hl : lt d[i]! d[k]! = true) : scanSorted lt d b i = i := by
  subst ek; rw [scanSorted]; simp [hl]
theorem shiftDown_go {j j' : Nat} (e : j = j' + 1) (hl : lt d[j]! d[j']! = true) : shiftDown lt j d = shiftDown lt j' (swp d j j') := by
  subst e; rw [shiftDown]; simp [hl]
theorem shiftDown_stop1 {j : Nat} (h : ¬ 1 ≤ j) : shiftDown lt j d = d := by
  have : j = 0 := by omega
  subst this; rfl
theorem shiftDown_stop2 {j j' : Nat} (e : j = j' + 1) (hl : lt d[j]! d[j']! = false) : shiftDown lt j d = d := by
  subst e; rw [shiftDown]; simp [hl]
theorem shiftUp_go {j j' k : Nat} (h : j < b) (e : j' = j + 1) (ek : j = k + 1) (hl : lt d[j]! d[k]! = true) : shiftUp lt b j d = shiftUp lt b j' (swp d j k) := by
  subst e; subst ek; rw [shiftUp]; simp [h, hl]
theorem shiftUp_stop1 {j : Nat} (h : ¬ j < b) : shiftUp lt b j d = d := by rw [shiftUp]; simp [h]
theorem shiftUp_stop2 {j k : Nat} (ek : j = k + 1) (hl : lt d[j]! d[k]! = false) : shiftUp lt b j d = d := by
  subst ek; rw [shiftUp]; simp [hl]
theorem partialIns_go {s s' i i2 i1 : Nat} (es : s = s' + 1) (hi : scanSorted lt d b i = i2) (hne : ¬ i2 = b) (h50 : ¬ b - a < 50) (e1 : i2 = i1 + 1) {d2 d3 : Array α} (h2 : d2 = if i2 - a ≥ 2 then shiftDown lt i1 (swp d i2 i1) else swp d i2 i1) (h3 : d3 = if b - i2 ≥ 2 then shiftUp lt b (i2 + 1) d2 else d2) :
    partialIns lt a b s i d = partialIns lt a b s' i2 d3 := by
  subst es; subst e1; subst h3; subst h2
  rw [partialIns]; simp only [hi]; rw [if_neg hne, if_neg h50]; rfl
theorem partialIns_end {s s' i : Nat} (es : s = s' + 1) (hi : scanSorted lt d b i = b) : partialIns lt a b s i d = (d, true) := by
  subst es; rw [partialIns]; simp only [hi]; simp
theorem partialIns_short {s s' i i2 : Nat} (es : s = s' + 1) (hi : scanSorted lt d b i = i2) (hne : ¬ i2 = b) (h50 : b - a < 50) : partialIns lt a b s i d = (d, false) := by
  subst es; rw [partialIns]; simp only [hi]; rw [if_neg hne, if_pos h50]
theorem partialIns_zero {i : Nat} : partialIns lt a b 0 i d = (d, false) := rfl
end
end Go.Proofs.Ytboinbmgndomhaa
