/- Package graph: ints in a row, what waits, the closure by edges one after another; the table of its rows in memory. Any seat with package graph in it. -/
import Derived.Test.YtlgeodnbkndciaaGm
import Derived.Test.YtlgeodnbkndciaaGo
import Derived.Test.YtlgeodnbkndciaaGr
namespace Go.Proofs.Ytlgeodnbkndciaa
open Go.RowKit
set_option maxRecDepth 100000
set_option linter.unusedSimpArgs false
set_option linter.unusedVariables false

/-! ### Ints in a row -/
def ixI (K : List Int) (x : Int) : Int :=
  match K.findIdx? (fun y => decide (x = y)) with
  | some i => (i : Int)
  | none => -1
theorem ix_hit {K : List Int} {x i : Int} (h0 : 0 ≤ i) (hi : i < (K.length : Int)) (hb : ∀ p, p < i.toNat → ¬ x = atI K p) (h : x = atI K i.toNat) : ixI K x = i := by
  unfold ixI
  have : K.findIdx? (fun y => decide (x = y)) = some i.toNat := by
    rw [List.findIdx?_eq_some_iff_getElem]
    refine ⟨by omega, by rw [← atI_eq (by omega)]; exact decide_eq_true h, fun j hj => ?_⟩
    have := hb j hj
    rw [atI_eq (by omega)] at this
    simpa using this
  rw [this]; simp only; omega
theorem ix_miss {K : List Int} {x i : Int} (hb : ∀ p, p < i.toNat → ¬ x = atI K p) (hi : ¬ i < (K.length : Int)) : ixI K x = -1 := by
  unfold ixI
  have : K.findIdx? (fun y => decide (x = y)) = none := by
    rw [List.findIdx?_eq_none_iff]
    intro y hy
    obtain ⟨j, hj, rfl⟩ := List.mem_iff_getElem.1 hy
    have := hb j (by omega)
    rw [atI_eq hj] at this
    simpa using this
  rw [this]
def memI (K : List Int) (x : Int) : Bool := decide (0 ≤ ixI K x)
theorem memI_iff {K : List Int} {x : Int} : memI K x = true ↔ x ∈ K := by
  unfold memI ixI
  rw [decide_eq_true_iff]
  cases h : K.findIdx? (fun y => decide (x = y)) with
  | none =>
    rw [List.findIdx?_eq_none_iff] at h
    constructor
    · intro h2; simp only at h2; omega
    · intro h2; have := h x h2; simp at this
  | some i =>
    rw [List.findIdx?_eq_some_iff_getElem] at h
    obtain ⟨h1, h2, _⟩ := h
    constructor
    · intro _; rw [of_decide_eq_true h2]; exact List.getElem_mem h1
    · intro _; simp only; omega
/-- The edge holds the node k up: it adds nothing, and comes from one that is not listed. -/
def waitE (K : List Int) (k : Int) (x : Ed) : Bool := decide (x.t = k) && decide (x.p = St.zero) && !memI K x.f
def waitsB (E : List Ed) (K : List Int) (k : Int) : Bool := E.any (waitE K k)
theorem waits_hit {E : List Ed} {K : List Int} {k i : Int} (h0 : 0 ≤ i) (hi : i < (E.length : Int)) (h : waitE K k (atG E i.toNat) = true) : waitsB E K k = true :=
  List.any_eq_true.2 ⟨_, atG_mem (by omega), h⟩
theorem waits_miss {E : List Ed} {K : List Int} {k i : Int} (hb : ∀ p, p < i.toNat → waitE K k (atG E p) = false) (hi : ¬ i < (E.length : Int)) : waitsB E K k = false := by
  rw [← Bool.not_eq_true]
  intro h
  obtain ⟨x, hx, h1⟩ := List.any_eq_true.1 h
  obtain ⟨q, hq, rfl⟩ := at_of_memG hx
  rw [hb q (by omega)] at h1; cases h1
theorem wait_t {K : List Int} {k : Int} {x : Ed} (h1 : x.t = k) (h2 : x.p = St.zero) (h3 : memI K x.f = false) : waitE K k x = true := by
  unfold waitE; rw [decide_eq_true h1, decide_eq_true h2, h3]; rfl
theorem wait_f {K : List Int} {k : Int} {x : Ed} (h : ¬ x.t = k ∨ ¬ x.p = St.zero ∨ memI K x.f = true) : waitE K k x = false := by
  unfold waitE
  rcases h with h | h | h <;> simp [h]
/-- The graph has the node. -/
def inN (n i : Int) : Bool := decide (0 ≤ i ∧ i < n)
theorem in_no {n i : Int} (h : ¬ (0 ≤ i ∧ i < n)) : inN n i = false := decide_eq_false h
theorem in_yes {n i : Int} (h : 0 ≤ i) : inN n i = decide (i < n) := by unfold inN; rw [decide_eq_decide]; omega
theorem fits_in (n : Int) (x : Ed) : fitsB n x = (inN n x.f && inN n x.t && x.p.rightB) := by
  unfold fitsB inN
  rw [← Bool.decide_and]
  congr 1
  rw [decide_eq_decide]; omega
/-! ### Rounds, by the list alone -/
theorem rounds_mem {E : List Ed} {n : Nat} : ∀ (r : Nat) {q : Nat}, q < n → memI (roundsO E n r).2 (q : Int) = atB (roundsO E n r).1 q
  | 0, q, hq => by
    have : atB (List.replicate n false) q = false := by
      unfold atB atE; rw [List.getD_eq_getElem?_getD, List.getElem?_replicate, if_pos hq]; rfl
    show memI [] (q : Int) = atB (List.replicate n false) q
    rw [this]; rfl
  | r + 1, q, hq => by
    have ih := rounds_mem (E := E) (n := n) r hq
    have hl := rounds_len E n r
    simp only [roundsO, stepO]
    split
    · rename_i k hk
      have hkn := List.mem_range.1 (List.mem_of_find?_eq_some hk)
      rw [atB_set (by omega), Bool.eq_iff_iff, memI_iff, List.mem_append, List.mem_singleton, ← memI_iff, ih]
      by_cases e : k = q
      · subst e; simp
      · rw [if_neg e]
        constructor
        · rintro (h | h)
          · exact h
          · omega
        · exact .inl
    · exact ih
theorem free_of {E : List Ed} {n r k : Nat} (hF : ∀ x ∈ E, fitsB (n : Int) x = true) (hk : k < n) : freeB E (roundsO E n r).1 k = (!memI (roundsO E n r).2 (k : Int) && !waitsB E (roundsO E n r).2 (k : Int)) := by
  unfold freeB waitsB
  rw [rounds_mem r hk]
  congr 1
  rw [List.all_eq_not_any_not]
  congr 1
  rw [Bool.eq_iff_iff, List.any_eq_true, List.any_eq_true]
  have key : ∀ x ∈ E, (!okE (roundsO E n r).1 k x) = waitE (roundsO E n r).2 (k : Int) x := fun x hx => by
    have hf := (fits_iff.1 (hF x hx)).1
    have := rounds_mem (E := E) (n := n) r (q := x.f.toNat) (by omega)
    rw [show ((x.f.toNat : Nat) : Int) = x.f by omega] at this
    unfold okE waitE
    rw [Bool.not_not, this]
  exact ⟨fun ⟨x, hx, h⟩ => ⟨x, hx, by rw [← key x hx]; exact h⟩, fun ⟨x, hx, h⟩ => ⟨x, hx, by rw [key x hx]; exact h⟩⟩
theorem free_no {E : List Ed} {n : Nat} {r k : Int} (hF : ∀ x ∈ E, fitsB (n : Int) x = true) (h0 : 0 ≤ k) (hk : k < (n : Int)) (h : memI (roundsO E n r.toNat).2 k = true ∨ waitsB E (roundsO E n r.toNat).2 k = true) : freeB E (roundsO E n r.toNat).1 k.toNat = false := by
  rw [free_of hF (by omega), show ((k.toNat : Nat) : Int) = k by omega]
  rcases h with h | h <;> rw [h] <;> simp
theorem free_yes {E : List Ed} {n : Nat} {r k : Int} (hF : ∀ x ∈ E, fitsB (n : Int) x = true) (h0 : 0 ≤ k) (hk : k < (n : Int)) (h : memI (roundsO E n r.toNat).2 k = false) (h' : waitsB E (roundsO E n r.toNat).2 k = false) : freeB E (roundsO E n r.toNat).1 k.toNat = true := by
  rw [free_of hF (by omega), show ((k.toNat : Nat) : Int) = k by omega, h, h']; rfl
theorem rounds_stop {E : List Ed} {n r : Nat} (hb : ∀ q, q < n → freeB E (roundsO E n r).1 q = false) : ∀ d, roundsO E n (r + d) = roundsO E n r
  | 0 => rfl
  | d + 1 => by
    have ih := rounds_stop hb d
    show stepO E n (roundsO E n (r + d)) = _
    rw [ih]
    unfold stepO
    have : nextO E (roundsO E n r).1 n = none := List.find?_eq_none.2 fun q hq => by rw [hb q (List.mem_range.1 hq)]; simp
    rw [this]
theorem order_stop {E : List Ed} {n : Nat} {r k : Int} (hr : r ≤ (n : Int)) (hb : ∀ q, q < k.toNat → freeB E (roundsO E n r.toNat).1 q = false) (hk : ¬ k < (n : Int)) : (roundsO E n r.toNat).2 = orderL E n := by
  unfold orderL
  rw [show n = r.toNat + (n - r.toNat) by omega]
  have := rounds_stop (E := E) (n := r.toNat + (n - r.toNat)) (r := r.toNat) (fun q hq => by
    have := hb q (by omega)
    rwa [show r.toNat + (n - r.toNat) = n by omega]) (n - r.toNat)
  rw [this]
theorem order_full {E : List Ed} {n : Nat} {r : Int} (hr : r ≤ (n : Int)) (h : ¬ r < (n : Int)) : (roundsO E n r.toNat).2 = orderL E n := by
  rw [show r.toNat = n by omega]; rfl
theorem rounds_one {E : List Ed} {n : Nat} {r k : Int} (h0 : 0 ≤ r) (hk0 : 0 ≤ k) (hk : k.toNat < n) (h : freeB E (roundsO E n r.toNat).1 k.toNat = true) (hb : ∀ q, q < k.toNat → freeB E (roundsO E n r.toNat).1 q = false) :
    (roundsO E n r.toNat).2 ++ [k] = (roundsO E n (r + 1).toNat).2 := by rw [round_some h0 hk0 hk h hb]
theorem sums_yes {L : List St} {p : St} {i : Int} (h0 : 0 ≤ i) (hi : i < (L.length : Int)) (h : (atS L i.toNat).afterB p = true) : sumsP (L.take i.toNat) [p] ++ [(atS L i.toNat).after p] = sumsP (L.take (i + 1).toNat) [p] := by
  rw [sums_one h0 hi, if_pos h]
theorem sums_no {L : List St} {p : St} {i : Int} (h0 : 0 ≤ i) (hi : i < (L.length : Int)) (h : (atS L i.toNat).afterB p = false) : sumsP (L.take i.toNat) [p] = sumsP (L.take (i + 1).toNat) [p] := by
  rw [sums_one h0 hi, if_neg (by rw [h]; simp), List.append_nil]
theorem sums1_len (L : List St) (p : St) (i : Nat) : (sumsP (L.take i) [p]).length ≤ L.length := by
  have := sums_len (L.take i) [p]
  simp only [List.length_singleton, Nat.mul_one, List.length_take] at this
  omega
theorem sums1_all (L : List St) (p : St) : (sumsP L [p]).length ≤ L.length := by
  have := sums_len L [p]
  simpa using this
/-! ### The closure, edge by edge -/
def edgeR (row : List (List St)) (x : Ed) : List (List St) := row.set x.t.toNat (minL (atR row x.t.toNat ++ sumsP (atR row x.f.toNat) [x.p]))
/-- The row after r rounds and k edges. -/
def rowE (E : List Ed) (row : List (List St)) (k : Nat) : List (List St) := (E.take k).foldl edgeR row
def rowP (E : List Ed) (n i : Nat) : Nat → List (List St)
  | 0 => (List.replicate n []).set i [St.zero]
  | r + 1 => rowE E (rowP E n i r) E.length
theorem edge_len (row : List (List St)) (x : Ed) : (edgeR row x).length = row.length := List.length_set
theorem rowE_len (E : List Ed) (row : List (List St)) (k : Nat) : (rowE E row k).length = row.length := by
  unfold rowE
  generalize E.take k = l
  induction l generalizing row with
  | nil => rfl
  | cons x r ih => rw [List.foldl_cons, ih, edge_len]
theorem rowP_len (E : List Ed) (n i : Nat) : ∀ r, (rowP E n i r).length = n
  | 0 => by simp [rowP]
  | r + 1 => by simp only [rowP]; rw [rowE_len, rowP_len E n i r]
theorem rowE_zero (E : List Ed) (row : List (List St)) : rowE E row (0 : Int).toNat = row := rfl
theorem rowE_step {E : List Ed} {row : List (List St)} {k : Int} (h0 : 0 ≤ k) (hk : k < (E.length : Int)) : rowE E row (k + 1).toNat = edgeR (rowE E row k.toNat) (atG E k.toNat) := by
  unfold rowE
  rw [show (k + 1).toNat = k.toNat + 1 by omega, List.take_add_one, List.foldl_append]
  have e : E[k.toNat]? = some (atG E k.toNat) := by rw [List.getElem?_eq_getElem (by omega), show atG E k.toNat = E[k.toNat] from atE_eq (by omega)]
  rw [e]; rfl
theorem rowP_step {E : List Ed} {n i : Nat} {r k : Int} (h0 : 0 ≤ r) (hk : ¬ k < (E.length : Int)) : rowE E (rowP E n i r.toNat) k.toNat = rowP E n i (r + 1).toNat := by
  rw [show (r + 1).toNat = r.toNat + 1 by omega]
  show _ = rowE E (rowP E n i r.toNat) E.length
  unfold rowE
  rw [List.take_of_length_le (by omega), List.take_of_length_le (Nat.le_refl _)]
/-- What holds of a row on its way: sums of ways, in their order, none above another. -/
structure RowOK (E : List Ed) (n i : Nat) (row : List (List St)) : Prop where
  len : row.length = n
  way : ∀ j, j < n → ∀ t ∈ atR row j, WayS E (i : Int) (j : Int) t
  asc : ∀ j, Asc (atR row j)
  anti : ∀ j, ∀ s ∈ atR row j, ∀ t ∈ atR row j, s.leB t = true → s = t
theorem asc_one (t : St) : Asc [t] := fun i h => absurd h (by simp)
theorem row0_at {n i j : Nat} (hi : i < n) : atR ((List.replicate n ([] : List St)).set i [St.zero]) j = if i = j then [St.zero] else [] := by
  rw [atR_set (by simpa using hi)]
  split
  · rfl
  · unfold atR; rw [List.getD_eq_getElem?_getD, List.getElem?_replicate]; split <;> rfl
theorem row0_ok {E : List Ed} {n i : Nat} (hi : i < n) : RowOK E n i (rowP E n i 0) := by
  refine ⟨by simp [rowP], fun j hj t ht => ?_, fun j => ?_, fun j s hs t ht h => ?_⟩
  · rw [show rowP E n i 0 = (List.replicate n []).set i [St.zero] from rfl, row0_at hi] at ht
    split at ht
    · rename_i e; subst e; rw [List.mem_singleton.1 ht]; exact way_nil _ _
    · cases ht
  · rw [show rowP E n i 0 = (List.replicate n []).set i [St.zero] from rfl, row0_at hi]
    split
    · exact asc_one _
    · exact asc_nil
  · rw [show rowP E n i 0 = (List.replicate n []).set i [St.zero] from rfl, row0_at hi] at hs ht
    split at hs
    · rename_i e
      rw [if_pos e] at ht
      rw [List.mem_singleton.1 hs, List.mem_singleton.1 ht]
    · cases hs
theorem mem_sums2 {A : List St} {p t : St} : t ∈ sumsP A [p] ↔ ∃ s ∈ A, s.afterB p = true ∧ s.after p = t := by
  rw [mem_sums]
  exact ⟨fun ⟨s, hs, q, hq, h1, h2⟩ => ⟨s, hs, by rw [List.mem_singleton.1 hq] at h1 h2; exact ⟨h1, h2⟩⟩, fun ⟨s, hs, h1, h2⟩ => ⟨s, hs, p, List.mem_singleton.2 rfl, h1, h2⟩⟩
theorem edge_at {row : List (List St)} {x : Ed} {j : Nat} (h : x.t.toNat < row.length) : atR (edgeR row x) j = if x.t.toNat = j then minL (atR row x.t.toNat ++ sumsP (atR row x.f.toNat) [x.p]) else atR row j := atR_set h
theorem edge_ok {E : List Ed} {n i : Nat} {row : List (List St)} {x : Ed} (hF : Fits (n : Int) E) (hx : x ∈ E) (h : RowOK E n i row) : RowOK E n i (edgeR row x) := by
  have hf := fit_t hF hx
  have ht : x.t.toNat < row.length := by rw [h.len]; omega
  refine ⟨by rw [edge_len, h.len], fun j hj t hm => ?_, fun j => ?_, fun j => ?_⟩
  · rw [edge_at ht] at hm
    split at hm
    · rename_i e; subst e
      rcases List.mem_append.1 (mem_minL.1 hm).1 with h1 | h1
      · exact h.way _ hj t h1
      · obtain ⟨s, hs, h2, rfl⟩ := mem_sums2.1 h1
        have h3 := h.way x.f.toNat (by omega) s hs
        rw [show ((x.f.toNat : Nat) : Int) = x.f by omega] at h3
        rw [show ((x.t.toNat : Nat) : Int) = x.t by omega]
        exact way_snoc h3 hx h2
    · exact h.way j hj t hm
  · rw [edge_at ht]
    split
    · exact minL_asc _
    · exact h.asc j
  · rw [edge_at ht]
    split
    · exact fun s h1 t h2 h3 => (mem_minL.1 h2).2 s (mem_minL.1 h1).1 h3
    · exact h.anti j
theorem edge_grow {row : List (List St)} {x : Ed} {j : Nat} {t : St} (ht : x.t.toNat < row.length) (h : covB (atR row j) t = true) : covB (atR (edgeR row x) j) t = true := by
  rw [edge_at ht]
  split
  · rename_i e; subst e
    obtain ⟨m, hm, h1⟩ := cov_iff.1 h
    obtain ⟨k, hk, h2⟩ := least_of (List.mem_append.2 (.inl hm) : m ∈ atR row x.t.toNat ++ sumsP (atR row x.f.toNat) [x.p])
    exact cov_iff.2 ⟨k, hk, St.le_trans h2 h1⟩
  · exact h
theorem edge_new {row : List (List St)} {x : Ed} {s : St} (ht : x.t.toNat < row.length) (hs : s ∈ atR row x.f.toNat) (ha : s.afterB x.p = true) : covB (atR (edgeR row x) x.t.toNat) (s.after x.p) = true := by
  rw [edge_at ht, if_pos rfl]
  obtain ⟨k, hk, h2⟩ := least_of (List.mem_append.2 (.inr (mem_sums2.2 ⟨s, hs, ha, rfl⟩)) : s.after x.p ∈ atR row x.t.toNat ++ sumsP (atR row x.f.toNat) [x.p])
  exact cov_iff.2 ⟨k, hk, h2⟩
theorem rowE_succ {E : List Ed} {row : List (List St)} {k : Nat} (hk : k < E.length) : rowE E row (k + 1) = edgeR (rowE E row k) E[k] := by
  unfold rowE
  rw [List.take_add_one, List.foldl_append, List.getElem?_eq_getElem hk]; rfl
theorem rowE_ok {E : List Ed} {n i : Nat} {row : List (List St)} (hF : Fits (n : Int) E) (h : RowOK E n i row) : ∀ k, k ≤ E.length → RowOK E n i (rowE E row k)
  | 0, _ => h
  | k + 1, hk => by rw [rowE_succ (by omega)]; exact edge_ok hF (List.getElem_mem _) (rowE_ok hF h k (by omega))
theorem rowP_ok {E : List Ed} {n i : Nat} (hF : Fits (n : Int) E) (hi : i < n) : ∀ r, RowOK E n i (rowP E n i r)
  | 0 => row0_ok hi
  | r + 1 => rowE_ok hF (rowP_ok hF hi r) _ (Nat.le_refl _)
theorem rowE_grow {E : List Ed} {n i : Nat} {row : List (List St)} (hF : Fits (n : Int) E) (h : RowOK E n i row) {j : Nat} {t : St} {k : Nat} (hc : covB (atR (rowE E row k) j) t = true) : ∀ d, k + d ≤ E.length → covB (atR (rowE E row (k + d)) j) t = true
  | 0, _ => hc
  | d + 1, hd => by
    rw [← Nat.add_assoc, rowE_succ (by omega)]
    have hf := fit_t hF (List.getElem_mem (show k + d < E.length by omega))
    exact edge_grow (by rw [rowE_len, h.len]; omega) (rowE_grow hF h hc d (by omega))
theorem rowP_grow {E : List Ed} {n i : Nat} (hF : Fits (n : Int) E) (hi : i < n) {r j : Nat} {t : St} (h : covB (atR (rowP E n i r) j) t = true) : ∀ d, covB (atR (rowP E n i (r + d)) j) t = true
  | 0 => h
  | d + 1 => by
    have := rowE_grow hF (rowP_ok hF hi (r + d)) (k := 0) (rowP_grow hF hi h d) E.length (by omega)
    rwa [Nat.zero_add] at this
theorem rowP_covers {n : Nat} {E : List Ed} (hf : Fits (n : Int) E) {i : Nat} (hi : i < n) : ∀ (m : Nat) (es : List Ed), es.length = m → (∀ x ∈ es, x ∈ E) → ∀ j : Int, Run (i : Int) es j → (sumW es).rightB = true → covB (atR (rowP E n i m) j.toNat) (sumW es) = true
  | 0, es, hl, he, j, hr, hs => by
    have h0 : es = [] := List.length_eq_zero_iff.1 hl
    subst h0
    have hj : (i : Int) = j := hr
    rw [← hj]
    refine cov_iff.2 ⟨St.zero, ?_, St.le_refl _⟩
    show St.zero ∈ atR ((List.replicate n []).set i [St.zero]) ((i : Int)).toNat
    rw [row0_at hi, if_pos (by omega)]
    exact List.mem_singleton.2 rfl
  | m + 1, es, hl, he, j, hr, hs => by
    rcases List.eq_nil_or_concat es with h0 | ⟨fs, x, h0⟩
    · subst h0; simp at hl
    · rw [List.concat_eq_append] at h0
      subst h0
      obtain ⟨k, h1, h2⟩ := run_app.1 hr
      have h3 : x.f = k := h2.1
      have h4 : x.t = j := h2.2
      have hxE : x ∈ E := he x (by simp)
      have hx := fit_t hf hxE
      have hfs : ∀ y ∈ fs, y ∈ E := fun y hy => he y (by simp [hy])
      have hp := sum_pos hf hfs
      have hs' := right_t hs
      have ha : sumW (fs ++ [x]) = (sumW fs).add x.p := by
        rw [sum_app, St.eq_iff]; simp only [sumW, St.add, St.zero]; omega
      have hs1 := St.right_iff.1 hs
      rw [ha] at hs1
      simp only [St.add] at hs1
      have hr1 : (sumW fs).rightB = true := St.right_iff.2 (by omega)
      have ih := rowP_covers hf hi m fs (by simpa using hl) hfs k h1 hr1
      have hok := rowP_ok hf hi m
      obtain ⟨e, hel, hex⟩ := List.mem_iff_getElem.1 hxE
      have hg := rowE_grow hf hok (k := 0) ih e (by omega)
      rw [Nat.zero_add] at hg
      have hoke := rowE_ok hf hok e (by omega)
      obtain ⟨q, hq, hle⟩ := cov_iff.1 hg
      have haft : (sumW fs).afterB x.p = true := after_iff.2 (by have := right_t hr1; omega)
      have hqr : q.rightB = true := way_right (hoke.way k.toNat (by omega) q hq)
      have hm := after_mono hle (St.le_refl x.p) hqr hx.2.2.2.2.2 haft
      have hnew := edge_new (row := rowE E (rowP E n i m) e) (x := x) (s := q) (by rw [rowE_len, rowP_len]; omega) (by rw [h3]; exact hq) hm.1
      rw [← hex, ← rowE_succ hel] at hnew
      have hfin := rowE_grow hf hok hnew (E.length - (e + 1)) (by omega)
      rw [show e + 1 + (E.length - (e + 1)) = E.length by omega, hex] at hfin
      obtain ⟨z, hz, hzl⟩ := cov_iff.1 hfin
      rw [← h4]
      refine cov_iff.2 ⟨z, hz, St.le_trans hzl (St.le_trans hm.2 ?_)⟩
      have := after_t haft
      rw [ha, St.le_iff]; simp only [St.add]; omega
/-- One round less than there are nodes, and the row is the closure's. -/
theorem rowP_clo {n : Nat} {E : List Ed} (hF : Fits (n : Int) E) {i : Nat} (hi : i < n) : rowP E n i (n - 1) = rowM E n i n := by
  have hok := rowP_ok hF hi (n - 1)
  refine atR_ext (by rw [rowP_len, row_len]) fun j hj => ?_
  rw [rowP_len] at hj
  refine clo_uniq hF hi hj (hok.asc j) (hok.way j hj) (fun t ht => ?_) (hok.anti j)
  obtain ⟨es, h1, h2, rfl, h4⟩ := ht
  obtain ⟨fs, f1, f2, f3, f4⟩ := run_short hF (by omega) es.length es (Nat.le_refl _) h1 h2
  have hp := sum_pos hF f2
  have hl := le_t f4
  have hr := right_t h4
  have hfr : (sumW fs).rightB = true := St.right_iff.2 (by omega)
  have h5 := rowP_covers hF hi fs.length fs rfl f2 _ f3 hfr
  rw [show ((j : Int)).toNat = j by omega] at h5
  have h6 := rowP_grow hF hi h5 (n - 1 - fs.length)
  rw [show fs.length + (n - 1 - fs.length) = n - 1 by omega] at h6
  obtain ⟨q, hq, hle⟩ := cov_iff.1 h6
  exact cov_iff.2 ⟨q, hq, St.le_trans hle f4⟩
theorem ok_small {E : List Ed} {n i : Nat} {row : List (List St)} (h : RowOK E n i row) (j : Nat) : (atR row j).length ≤ 1000001 := by
  rcases Nat.lt_or_ge j n with hj | hj
  · have hr : ∀ t ∈ atR row j, t.rightB = true := fun t ht => way_right (h.way j hj t ht)
    exact asc_small 1000001 _ (h.asc j) (h.anti j) hr (fun t ht => by have := right_t (hr t ht); omega)
  · rw [atR_out (by rw [h.len]; exact hj)]; simp
/-! ### Rows with many paths -/
def overB (L : List (List St)) : Bool := L.any fun l => decide (64 < l.length)
def ixO (L : List (List St)) : Int :=
  match L.findIdx? (fun l => decide (64 < l.length)) with
  | some i => (i : Int)
  | none => -1
theorem atR_eq {L : List (List St)} {i : Nat} (h : i < L.length) : atR L i = L[i] := by unfold atR; rw [List.getD_eq_getElem?_getD, List.getElem?_eq_getElem h]; rfl
theorem ixO_hit {L : List (List St)} {i : Int} (h0 : 0 ≤ i) (hi : i < (L.length : Int)) (hb : ∀ p, p < i.toNat → ¬ 64 < (atR L p).length) (h : 64 < (atR L i.toNat).length) : ixO L = i := by
  unfold ixO
  have : L.findIdx? (fun l => decide (64 < l.length)) = some i.toNat := by
    rw [List.findIdx?_eq_some_iff_getElem]
    refine ⟨by omega, by rw [← atR_eq (by omega)]; exact decide_eq_true h, fun j hj => ?_⟩
    have := hb j hj
    rw [atR_eq (by omega)] at this
    simpa using this
  rw [this]; simp only; omega
theorem ixO_miss {L : List (List St)} {i : Int} (hb : ∀ p, p < i.toNat → ¬ 64 < (atR L p).length) (hi : ¬ i < (L.length : Int)) : ixO L = -1 := by
  unfold ixO
  have : L.findIdx? (fun l => decide (64 < l.length)) = none := by
    rw [List.findIdx?_eq_none_iff]
    intro l hl
    obtain ⟨j, hj, rfl⟩ := List.mem_iff_getElem.1 hl
    have := hb j (by omega)
    rw [atR_eq hj] at this
    simpa using this
  rw [this]
theorem over_ix (L : List (List St)) : decide (0 ≤ ixO L) = overB L := by
  unfold ixO overB
  cases h : L.findIdx? (fun l => decide (64 < l.length)) with
  | none =>
    rw [List.findIdx?_eq_none_iff] at h
    have : L.any (fun l => decide (64 < l.length)) = false := by rw [List.any_eq_false]; intro l hl; rw [h l hl]; simp
    rw [this]; rfl
  | some i =>
    rw [List.findIdx?_eq_some_iff_getElem] at h
    obtain ⟨h1, h2, _⟩ := h
    have : L.any (fun l => decide (64 < l.length)) = true := List.any_eq_true.2 ⟨_, List.getElem_mem h1, h2⟩
    rw [this]; simp only; rw [decide_eq_true (by omega)]
theorem over_no {L : List (List St)} (h : overB L = false) (j : Nat) : (atR L j).length ≤ 64 := by
  rcases Nat.lt_or_ge j L.length with hj | hj
  · rw [atR_eq hj]
    have := List.any_eq_false.1 h _ (List.getElem_mem hj)
    simp only [decide_eq_true_eq] at this
    omega
  · rw [atR_out hj]; simp
theorem over_yes {L : List (List St)} (h : overB L = true) : ∃ j, j < L.length ∧ 64 < (atR L j).length := by
  obtain ⟨l, hl, h1⟩ := List.any_eq_true.1 h
  obtain ⟨j, hj, rfl⟩ := List.mem_iff_getElem.1 hl
  exact ⟨j, hj, by rw [atR_eq hj]; exact of_decide_eq_true h1⟩
end Go.Proofs.Ytlgeodnbkndciaa
