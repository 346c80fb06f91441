/- What is open between workers; mathematics of layer 12. Any seat with layer 12 in it. -/
import Derived.Test.YtoadlnnhlnhkjaaCt
import Derived.Test.YtoadlnnhlnhkjaaAo
import Derived.Test.YtoadlnnhlnhkjaaWn
namespace Go.Proofs.Ytoadlnnhlnhkjaa
open Go.RowKit
set_option maxRecDepth 100000
set_option linter.unusedSimpArgs false
set_option linter.unusedVariables false

/-- From whom, to whom, along which edge, at which point. -/
structure Ln where
  f : Int
  t : Int
  e : Int
  p : Po
deriving DecidableEq
abbrev Lanes := List (Ln × Int)
def opn (C : Lanes) (k : Ln) : Int := (getM C k).getD 0
def setL (C : Lanes) (k : Ln) (v : Int) : Lanes := delM C k ++ [(k, v)]
def laneS (w : Int) (x : En) : Ln := ⟨w, x.peer, x.edge, x.po⟩
def laneT (w : Int) (x : En) : Ln := ⟨x.peer, w, x.edge, x.po⟩
def matE (C : Lanes) (w : Int) (x : En) : Int :=
  if ¬ ((0 ≤ w ∧ w ≤ 6) ∧ (0 ≤ x.peer ∧ x.peer ≤ 6) ∧ (1 ≤ x.n ∧ x.n ≤ 1000000)) then 1
  else if x.kind = 3 ∧ 1000000000 < opn C (laneS w x) + x.n then 9
  else if x.kind = 4 ∧ opn C (laneT w x) < x.n then 9 else 0
def matC (C : Lanes) (w : Int) (x : En) : Lanes :=
  if matE C w x ≠ 0 then C else if x.kind = 3 then setL C (laneS w x) (opn C (laneS w x) + x.n) else if x.kind = 4 then setL C (laneT w x) (opn C (laneT w x) - x.n) else C
def allL (C : Lanes) : Int := (C.map (·.2)).sum
def touchB (w : Int) (k : Ln) : Bool := decide (k.f = w ∨ k.t = w)
def offC (C : Lanes) (w : Int) : Lanes := C.filter fun q => !touchB w q.1
def aheadP (a b : Po) : Bool := decide (a.n < b.n) || (decide (a.n = b.n) && a.t.aheadB b.t)
def insP : Po → List Po → List Po
  | p, [] => [p]
  | p, q :: r => if aheadP q p then q :: insP p r else if q = p then q :: r else p :: q :: r
def offP (C : Lanes) (w : Int) : List Po := ((C.filter fun q => touchB w q.1 && decide (q.2 ≠ 0)).map (·.1.p)).foldr insP []
def sumAtL (C : Lanes) (w : Int) (p : Po) : Int := ((C.filter fun q => touchB w q.1 && decide (q.1.p = p)).map (·.2)).sum
def toldC (p : Po) (n : Int) : Ct := (⟨p.t.e, IntKind.i64.wrap (p.t.r + IntKind.i64.wrap (10000000 * p.n))⟩, n)
/-- What Off tells. -/
def offL (C : Lanes) (w : Int) : List Ct := (offP C w).map fun p => toldC p (sumAtL C w p)
/-- Each lane once, none below 0. -/
structure OKL (C : Lanes) : Prop where
  nd : C.Pairwise (fun p q => p.1 ≠ q.1)
  ge : ∀ q ∈ C, 0 ≤ q.2
  le : ∀ q ∈ C, q.2 ≤ 1000000000
section
variable {C : Lanes} {k j : Ln} {v w : Int} {x : En}
theorem opn_nil (k : Ln) : opn [] k = 0 := rfl
theorem opn_mem (h : OKL C) {q : Ln × Int} (hq : q ∈ C) : opn C q.1 = q.2 := by
  unfold opn; rw [getM_some h.nd (show (q.1, q.2) ∈ C from hq)]; rfl
theorem opn_bound (h : OKL C) (k : Ln) : 0 ≤ opn C k ∧ opn C k ≤ 1000000000 := by
  unfold opn
  cases hg : getM C k with
  | none => simp
  | some v => exact ⟨h.ge _ (getM_mem hg), h.le _ (getM_mem hg)⟩
theorem okl_nil : OKL [] := ⟨List.Pairwise.nil, fun q hq => (by cases hq), fun q hq => (by cases hq)⟩
theorem mem_setL {q : Ln × Int} : q ∈ setL C k v ↔ (q ∈ C ∧ q.1 ≠ k) ∨ q = (k, v) := by
  unfold setL delM
  simp only [List.mem_append, List.mem_filter, List.mem_singleton, Bool.not_eq_true', decide_eq_false_iff_not]
theorem okl_set (h : OKL C) (h0 : 0 ≤ v) (h1 : v ≤ 1000000000) : OKL (setL C k v) := by
  refine ⟨?_, fun q hq => ?_, fun q hq => ?_⟩
  · unfold setL
    rw [List.pairwise_append]
    refine ⟨h.nd.filter _, List.pairwise_singleton _ _, fun a ha b hb => ?_⟩
    rw [List.mem_singleton] at hb; subst hb
    unfold delM at ha
    simpa using (List.mem_filter.1 ha).2
  · rcases mem_setL.1 hq with hq | rfl
    · exact h.ge _ hq.1
    · exact h0
  · rcases mem_setL.1 hq with hq | rfl
    · exact h.le _ hq.1
    · exact h1
theorem opn_set : opn (setL C k v) j = if j = k then v else opn C j := by
  unfold opn setL delM getM
  rw [List.find?_append]
  by_cases e : j = k
  · rw [if_pos e]
    have : List.find? (fun p => decide (p.1 = j)) (C.filter fun p => !decide (p.1 = k)) = none := by
      rw [List.find?_eq_none]
      intro p hp
      have := (List.mem_filter.1 hp).2
      simp only [Bool.not_eq_true', decide_eq_false_iff_not] at this
      simp only [decide_eq_true_eq]
      rw [e]; exact this
    rw [this]; simp [e]
  · rw [if_neg e]
    have h1 : List.find? (fun p => decide (p.1 = j)) (C.filter fun p => !decide (p.1 = k)) = List.find? (fun p => decide (p.1 = j)) C := by
      rw [List.find?_filter]
      congr 1
      funext p
      by_cases h : p.1 = j
      · simp [h, e]
      · simp [h]
    rw [h1]
    have : List.find? (fun p => decide (p.1 = j)) [(k, v)] = none := by
      rw [List.find?_eq_none]; intro p hp; rw [List.mem_singleton] at hp; subst hp; simpa using fun z => e z.symm
    rw [this]; simp
theorem all_del (h : OKL C) (k : Ln) : allL (delM C k) = allL C - opn C k := by
  induction C with
  | nil => rfl
  | cons p r ih =>
    obtain ⟨h1, h2⟩ := List.pairwise_cons.1 h.nd
    have ho : OKL r := ⟨h2, fun q hq => h.ge q (by simp [hq]), fun q hq => h.le q (by simp [hq])⟩
    have hi := ih ho
    by_cases e : p.1 = k
    · have hd : delM (p :: r) k = delM r k := by unfold delM; rw [List.filter_cons, if_neg (by simp [e])]
      have hz : opn r k = 0 := by unfold opn; rw [getM_none (fun q hq z => h1 q hq (e.trans z.symm))]; rfl
      have hp : opn (p :: r) k = p.2 := by rw [← e]; exact opn_mem h (by simp)
      rw [hd, hi, hz, hp]; simp [allL]; omega
    · have hd : delM (p :: r) k = p :: delM r k := by unfold delM; rw [List.filter_cons, if_pos (by simp [e])]
      have hp : opn (p :: r) k = opn r k := by unfold opn getM; rw [List.find?_cons]; simp [e]
      rw [hd, hp]
      simp only [allL, List.map_cons, List.sum_cons] at hi ⊢
      omega
theorem all_set (h : OKL C) : allL (setL C k v) = allL C - opn C k + v := by
  have := all_del h k
  unfold setL
  simp only [allL, List.map_append, List.sum_append, List.map_cons, List.map_nil, List.sum_cons, List.sum_nil] at this ⊢
  omega
theorem set_len : (setL C k v).length ≤ C.length + 1 := by
  unfold setL delM
  rw [List.length_append, List.length_singleton]
  have := List.length_filter_le (fun p : Ln × Int => !decide (p.1 = k)) C
  omega
/-! ### What may be put -/
theorem mat_ok (h : matE C w x = 0) : (0 ≤ w ∧ w ≤ 6) ∧ (0 ≤ x.peer ∧ x.peer ≤ 6) ∧ (1 ≤ x.n ∧ x.n ≤ 1000000) ∧ (x.kind = 3 → opn C (laneS w x) + x.n ≤ 1000000000) ∧ (x.kind = 4 → x.n ≤ opn C (laneT w x)) := by
  unfold matE at h
  split at h
  · omega
  · rename_i h1
    have h1' := Decidable.not_not.1 h1
    split at h
    · omega
    · rename_i h2
      split at h
      · omega
      · rename_i h3
        exact ⟨h1'.1, h1'.2.1, h1'.2.2, fun k => by omega, fun k => by omega⟩
theorem mat_no (h : ¬ matE C w x = 0) : matC C w x = C := if_pos h
theorem mat_send (h : matE C w x = 0) (hk : x.kind = 3) : matC C w x = setL C (laneS w x) (opn C (laneS w x) + x.n) := by unfold matC; rw [if_neg (fun z => z h), if_pos hk]
theorem mat_take (h : matE C w x = 0) (hk : x.kind = 4) : matC C w x = setL C (laneT w x) (opn C (laneT w x) - x.n) := by unfold matC; rw [if_neg (fun z => z h), if_neg (by omega), if_pos hk]
theorem mat_else (h3 : ¬ x.kind = 3) (h4 : ¬ x.kind = 4) : matC C w x = C := by unfold matC; rw [if_neg h3, if_neg h4]; exact ite_self _
theorem mat_cases : matC C w x = C ∨ (matE C w x = 0 ∧ x.kind = 3 ∧ matC C w x = setL C (laneS w x) (opn C (laneS w x) + x.n)) ∨ (matE C w x = 0 ∧ x.kind = 4 ∧ matC C w x = setL C (laneT w x) (opn C (laneT w x) - x.n)) := by
  by_cases h : matE C w x = 0
  · by_cases h3 : x.kind = 3
    · exact .inr (.inl ⟨h, h3, mat_send h h3⟩)
    · by_cases h4 : x.kind = 4
      · exact .inr (.inr ⟨h, h4, mat_take h h4⟩)
      · exact .inl (mat_else h3 h4)
  · exact .inl (mat_no h)
theorem okl_mat (h : OKL C) (w : Int) (x : En) : OKL (matC C w x) := by
  rcases mat_cases (C := C) (w := w) (x := x) with e | ⟨h0, hk, e⟩ | ⟨h0, hk, e⟩
  · rw [e]; exact h
  · have := mat_ok h0; have hb := opn_bound h (laneS w x)
    rw [e]; exact okl_set h (by omega) (by have := this.2.2.2.1 hk; omega)
  · have := mat_ok h0; have hb := opn_bound h (laneT w x)
    rw [e]; exact okl_set h (by have := this.2.2.2.2 hk; omega) (by omega)
theorem mat_len : (matC C w x).length ≤ C.length + 1 := by
  rcases mat_cases (C := C) (w := w) (x := x) with e | ⟨_, _, e⟩ | ⟨_, _, e⟩ <;> rw [e]
  · omega
  · exact set_len
  · exact set_len
/-- How much an entry adds to what is open in all. -/
theorem all_mat (h : OKL C) (h0 : matE C w x = 0) : allL (matC C w x) = allL C + (if x.kind = 3 then x.n else if x.kind = 4 then -x.n else 0) := by
  by_cases h3 : x.kind = 3
  · rw [mat_send h0 h3, all_set h, if_pos h3]; omega
  · by_cases h4 : x.kind = 4
    · rw [mat_take h0 h4, all_set h, if_neg h3, if_pos h4]; omega
    · rw [mat_else h3 h4, if_neg h3, if_neg h4]; omega
theorem all_bound {m : Nat} (h : OKL C) (hm : C.length ≤ m) : 0 ≤ allL C ∧ allL C ≤ 1000000000 * (m : Int) := by
  induction C generalizing m with
  | nil => simp [allL]; omega
  | cons p r ih =>
    have ho : OKL r := ⟨(List.pairwise_cons.1 h.nd).2, fun q hq => h.ge q (by simp [hq]), fun q hq => h.le q (by simp [hq])⟩
    simp at hm
    have hi := ih ho (m := m - 1) (by omega)
    have h1 := h.ge p (by simp); have h2 := h.le p (by simp)
    simp only [allL, List.map_cons, List.sum_cons] at hi ⊢
    omega
theorem all_zero (h : OKL C) (hz : ∀ k, opn C k = 0) : allL C = 0 := by
  have : ∀ l : Lanes, (∀ q ∈ l, q.2 = 0) → allL l = 0 := by
    intro l
    induction l with
    | nil => intro _; rfl
    | cons p r ih => intro hq; have h1 := hq p (by simp); have h2 := ih fun q h => hq q (by simp [h]); simp only [allL, List.map_cons, List.sum_cons] at h2 ⊢; omega
  exact this C fun q hq => by rw [← opn_mem h hq]; exact hz _
end
end Go.Proofs.Ytoadlnnhlnhkjaa
