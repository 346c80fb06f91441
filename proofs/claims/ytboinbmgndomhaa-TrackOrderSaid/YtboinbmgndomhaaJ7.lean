/- Put together: Gx, Gy, Pk, Kp, Tw. -/
import Derived.Test.YtboinbmgndomhaaGm
import Derived.Test.YtboinbmgndomhaaJ5
import Derived.Test.YtboinbmgndomhaaJ6
import Derived.Test.YtboinbmgndomhaaJ4
import Derived.Test.YtboinbmgndomhaaJ2
import Derived.Test.YtboinbmgndomhaaCt
namespace Go.Proofs.Ytboinbmgndomhaa
open Go.RowKit
set_option maxRecDepth 100000
set_option linter.unusedSimpArgs false
set_option linter.unusedVariables false

/-! ### Ints in a row -/
def ixI (K : List Int) (x : Int) : Int :=
  match K.findIdx? (fun y => decide (x = y)) with
  | some i => (i : Int)
  | none => -1
theorem ix_hit {K : List Int} {x i : Int} (h0 : 0 ≤ i) (hi : i < (K.length : Int)) (hb : ∀ p, p < i.toNat → ¬ x = atI K p) (h : x = atI K i.toNat) : ixI K x = i := by
  unfold ixI
  have : K.findIdx? (fun y => decide (x = y)) = some i.toNat := by
    rw [List.findIdx?_eq_some_iff_getElem]
    refine ⟨by omega, by rw [← atI_eq (by omega)]; exact decide_eq_true h, fun j hj => ?_⟩
    have := hb j hj
    rw [atI_eq (by omega)] at this
    simpa using this
  rw [this]; simp only; omega
theorem ix_miss {K : List Int} {x i : Int} (hb : ∀ p, p < i.toNat → ¬ x = atI K p) (hi : ¬ i < (K.length : Int)) : ixI K x = -1 := by
  unfold ixI
  have : K.findIdx? (fun y => decide (x = y)) = none := by
    rw [List.findIdx?_eq_none_iff]
    intro y hy
    obtain ⟨j, hj, rfl⟩ := List.mem_iff_getElem.1 hy
    have := hb j (by omega)
    rw [atI_eq hj] at this
    simpa using this
  rw [this]
def memI (K : List Int) (x : Int) : Bool := decide (0 ≤ ixI K x)
theorem memI_iff {K : List Int} {x : Int} : memI K x = true ↔ x ∈ K := by
  unfold memI ixI
  rw [decide_eq_true_iff]
  cases h : K.findIdx? (fun y => decide (x = y)) with
  | none =>
    rw [List.findIdx?_eq_none_iff] at h
    constructor
    · intro h2; simp only at h2; omega
    · intro h2; have := h x h2; simp at this
  | some i =>
    rw [List.findIdx?_eq_some_iff_getElem] at h
    obtain ⟨h1, h2, _⟩ := h
    constructor
    · intro _; rw [of_decide_eq_true h2]; exact List.getElem_mem h1
    · intro _; simp only; omega
/-- The edge holds the node k up: it adds nothing, and comes from one that is not listed. -/
def waitE (K : List Int) (k : Int) (x : Ed) : Bool := decide (x.t = k) && decide (x.p = St.zero) && !memI K x.f
def waitsB (E : List Ed) (K : List Int) (k : Int) : Bool := E.any (waitE K k)
theorem waits_hit {E : List Ed} {K : List Int} {k i : Int} (h0 : 0 ≤ i) (hi : i < (E.length : Int)) (h : waitE K k (atG E i.toNat) = true) : waitsB E K k = true :=
  List.any_eq_true.2 ⟨_, atG_mem (by omega), h⟩
theorem waits_miss {E : List Ed} {K : List Int} {k i : Int} (hb : ∀ p, p < i.toNat → waitE K k (atG E p) = false) (hi : ¬ i < (E.length : Int)) : waitsB E K k = false := by
  rw [← Bool.not_eq_true]
  intro h
  obtain ⟨x, hx, h1⟩ := List.any_eq_true.1 h
  obtain ⟨q, hq, rfl⟩ := at_of_memG hx
  rw [hb q (by omega)] at h1; cases h1
theorem wait_t {K : List Int} {k : Int} {x : Ed} (h1 : x.t = k) (h2 : x.p = St.zero) (h3 : memI K x.f = false) : waitE K k x = true := by
  unfold waitE; rw [decide_eq_true h1, decide_eq_true h2, h3]; rfl
theorem wait_f {K : List Int} {k : Int} {x : Ed} (h : ¬ x.t = k ∨ ¬ x.p = St.zero ∨ memI K x.f = true) : waitE K k x = false := by
  unfold waitE
  rcases h with h | h | h <;> simp [h]
/-- The graph has the node. -/
def inN (n i : Int) : Bool := decide (0 ≤ i ∧ i < n)
theorem in_no {n i : Int} (h : ¬ (0 ≤ i ∧ i < n)) : inN n i = false := decide_eq_false h
theorem in_yes {n i : Int} (h : 0 ≤ i) : inN n i = decide (i < n) := by unfold inN; rw [decide_eq_decide]; omega
theorem fits_in (n : Int) (x : Ed) : fitsB n x = (inN n x.f && inN n x.t && x.p.rightB) := by
  unfold fitsB inN
  rw [← Bool.decide_and]
  congr 1
  rw [decide_eq_decide]; omega
/-! ### Rounds, by the list alone -/
theorem rounds_mem {E : List Ed} {n : Nat} : ∀ (r : Nat) {q : Nat}, q < n → memI (roundsO E n r).2 (q : Int) = atB (roundsO E n r).1 q
  | 0, q, hq => by
    have : atB (List.replicate n false) q = false := by
      unfold atB atE; rw [List.getD_eq_getElem?_getD, List.getElem?_replicate, if_pos hq]; rfl
    show memI [] (q : Int) = atB (List.replicate n false) q
    rw [this]; rfl
  | r + 1, q, hq => by
    have ih := rounds_mem (E := E) (n := n) r hq
    have hl := rounds_len E n r
    simp only [roundsO, stepO]
    split
    · rename_i k hk
      have hkn := List.mem_range.1 (List.mem_of_find?_eq_some hk)
      rw [atB_set (by omega), Bool.eq_iff_iff, memI_iff, List.mem_append, List.mem_singleton, ← memI_iff, ih]
      by_cases e : k = q
      · subst e; simp
      · rw [if_neg e]
        constructor
        · rintro (h | h)
          · exact h
          · omega
        · exact .inl
    · exact ih
theorem free_of {E : List Ed} {n r k : Nat} (hF : ∀ x ∈ E, fitsB (n : Int) x = true) (hk : k < n) : freeB E (roundsO E n r).1 k = (!memI (roundsO E n r).2 (k : Int) && !waitsB E (roundsO E n r).2 (k : Int)) := by
  unfold freeB waitsB
  rw [rounds_mem r hk]
  congr 1
  rw [List.all_eq_not_any_not]
  congr 1
  rw [Bool.eq_iff_iff, List.any_eq_true, List.any_eq_true]
  have key : ∀ x ∈ E, (!okE (roundsO E n r).1 k x) = waitE (roundsO E n r).2 (k : Int) x := fun x hx => by
    have hf := (fits_iff.1 (hF x hx)).1
    have := rounds_mem (E := E) (n := n) r (q := x.f.toNat) (by omega)
    rw [show ((x.f.toNat : Nat) : Int) = x.f by omega] at this
    unfold okE waitE
    rw [Bool.not_not, this]
  exact ⟨fun ⟨x, hx, h⟩ => ⟨x, hx, by rw [← key x hx]; exact h⟩, fun ⟨x, hx, h⟩ => ⟨x, hx, by rw [key x hx]; exact h⟩⟩
theorem free_no {E : List Ed} {n : Nat} {r k : Int} (hF : ∀ x ∈ E, fitsB (n : Int) x = true) (h0 : 0 ≤ k) (hk : k < (n : Int)) (h : memI (roundsO E n r.toNat).2 k = true ∨ waitsB E (roundsO E n r.toNat).2 k = true) : freeB E (roundsO E n r.toNat).1 k.toNat = false := by
  rw [free_of hF (by omega), show ((k.toNat : Nat) : Int) = k by omega]
  rcases h with h | h <;> rw [h] <;> simp
theorem free_yes {E : List Ed} {n : Nat} {r k : Int} (hF : ∀ x ∈ E, fitsB (n : Int) x = true) (h0 : 0 ≤ k) (hk : k < (n : Int)) (h : memI (roundsO E n r.toNat).2 k = false) (h' : waitsB E (roundsO E n r.toNat).2 k = false) : freeB E (roundsO E n r.toNat).1 k.toNat = true := by
  rw [free_of hF (by omega), show ((k.toNat : Nat) : Int) = k by omega, h, h']; rfl
theorem rounds_stop {E : List Ed} {n r : Nat} (hb : ∀ q, q < n → freeB E (roundsO E n r).1 q = false) : ∀ d, roundsO E n (r + d) = roundsO E n r
  | 0 => rfl
  | d + 1 => by
    have ih := rounds_stop hb d
    show stepO E n (roundsO E n (r + d)) = _
    rw [ih]
    unfold stepO
    have : nextO E (roundsO E n r).1 n = none := List.find?_eq_none.2 fun q hq => by rw [hb q (List.mem_range.1 hq)]; simp
    rw [this]
theorem order_stop {E : List Ed} {n : Nat} {r k : Int} (hr : r ≤ (n : Int)) (hb : ∀ q, q < k.toNat → freeB E (roundsO E n r.toNat).1 q = false) (hk : ¬ k < (n : Int)) : (roundsO E n r.toNat).2 = orderL E n := by
  unfold orderL
  rw [show n = r.toNat + (n - r.toNat) by omega]
  have := rounds_stop (E := E) (n := r.toNat + (n - r.toNat)) (r := r.toNat) (fun q hq => by
    have := hb q (by omega)
    rwa [show r.toNat + (n - r.toNat) = n by omega]) (n - r.toNat)
  rw [this]
theorem order_full {E : List Ed} {n : Nat} {r : Int} (hr : r ≤ (n : Int)) (h : ¬ r < (n : Int)) : (roundsO E n r.toNat).2 = orderL E n := by
  rw [show r.toNat = n by omega]; rfl
theorem rounds_one {E : List Ed} {n : Nat} {r k : Int} (h0 : 0 ≤ r) (hk0 : 0 ≤ k) (hk : k.toNat < n) (h : freeB E (roundsO E n r.toNat).1 k.toNat = true) (hb : ∀ q, q < k.toNat → freeB E (roundsO E n r.toNat).1 q = false) :
    (roundsO E n r.toNat).2 ++ [k] = (roundsO E n (r + 1).toNat).2 := by rw [round_some h0 hk0 hk h hb]
theorem sums_yes {L : List St} {p : St} {i : Int} (h0 : 0 ≤ i) (hi : i < (L.length : Int)) (h : (atS L i.toNat).afterB p = true) : sumsP (L.take i.toNat) [p] ++ [(atS L i.toNat).after p] = sumsP (L.take (i + 1).toNat) [p] := by
  rw [sums_one h0 hi, if_pos h]
theorem sums_no {L : List St} {p : St} {i : Int} (h0 : 0 ≤ i) (hi : i < (L.length : Int)) (h : (atS L i.toNat).afterB p = false) : sumsP (L.take i.toNat) [p] = sumsP (L.take (i + 1).toNat) [p] := by
  rw [sums_one h0 hi, if_neg (by rw [h]; simp), List.append_nil]
theorem sums1_len (L : List St) (p : St) (i : Nat) : (sumsP (L.take i) [p]).length ≤ L.length := by
  have := sums_len (L.take i) [p]
  simp only [List.length_singleton, Nat.mul_one, List.length_take] at this
  omega
theorem sums1_all (L : List St) (p : St) : (sumsP L [p]).length ≤ L.length := by
  have := sums_len L [p]
  simpa using this
/-! ### The closure, edge by edge -/
def edgeR (row : List (List St)) (x : Ed) : List (List St) := row.set x.t.toNat (minL (atR row x.t.toNat ++ sumsP (atR row x.f.toNat) [x.p]))
/-- The row after r rounds and k edges. -/
def rowE (E : List Ed) (row : List (List St)) (k : Nat) : List (List St) := (E.take k).foldl edgeR row
def rowP (E : List Ed) (n i : Nat) : Nat → List (List St)
  | 0 => (List.replicate n []).set i [St.zero]
  | r + 1 => rowE E (rowP E n i r) E.length
theorem edge_len (row : List (List St)) (x : Ed) : (edgeR row x).length = row.length := List.length_set
theorem rowE_len (E : List Ed) (row : List (List St)) (k : Nat) : (rowE E row k).length = row.length := by
  unfold rowE
  generalize E.take k = l
  induction l generalizing row with
  | nil => rfl
  | cons x r ih => rw [List.foldl_cons, ih, edge_len]
theorem rowP_len (E : List Ed) (n i : Nat) : ∀ r, (rowP E n i r).length = n
  | 0 => by simp [rowP]
  | r + 1 => by simp only [rowP]; rw [rowE_len, rowP_len E n i r]
theorem rowE_zero (E : List Ed) (row : List (List St)) : rowE E row (0 : Int).toNat = row := rfl
theorem rowE_step {E : List Ed} {row : List (List St)} {k : Int} (h0 : 0 ≤ k) (hk : k < (E.length : Int)) : rowE E row (k + 1).toNat = edgeR (rowE E row k.toNat) (atG E k.toNat) := by
  unfold rowE
  rw [show (k + 1).toNat = k.toNat + 1 by omega, List.take_add_one, List.foldl_append]
  have e : E[k.toNat]? = some (atG E k.toNat) := by rw [List.getElem?_eq_getElem (by omega), show atG E k.toNat = E[k.toNat] from atE_eq (by omega)]
  rw [e]; rfl
theorem rowP_step {E : List Ed} {n i : Nat} {r k : Int} (h0 : 0 ≤ r) (hk : ¬ k < (E.length : Int)) : rowE E (rowP E n i r.toNat) k.toNat = rowP E n i (r + 1).toNat := by
  rw [show (r + 1).toNat = r.toNat + 1 by omega]
  show _ = rowE E (rowP E n i r.toNat) E.length
  unfold rowE
  rw [List.take_of_length_le (by omega), List.take_of_length_le (Nat.le_refl _)]
/-- What holds of a row on its way: sums of ways, in their order, none above another. -/
structure RowOK (E : List Ed) (n i : Nat) (row : List (List St)) : Prop where
  len : row.length = n
  way : ∀ j, j < n → ∀ t ∈ atR row j, WayS E (i : Int) (j : Int) t
  asc : ∀ j, Asc (atR row j)
  anti : ∀ j, ∀ s ∈ atR row j, ∀ t ∈ atR row j, s.leB t = true → s = t
theorem asc_one (t : St) : Asc [t] := fun i h => absurd h (by simp)
theorem row0_at {n i j : Nat} (hi : i < n) : atR ((List.replicate n ([] : List St)).set i [St.zero]) j = if i = j then [St.zero] else [] := by
  rw [atR_set (by simpa using hi)]
  split
  · rfl
  · unfold atR; rw [List.getD_eq_getElem?_getD, List.getElem?_replicate]; split <;> rfl
theorem row0_ok {E : List Ed} {n i : Nat} (hi : i < n) : RowOK E n i (rowP E n i 0) := by
  refine ⟨by simp [rowP], fun j hj t ht => ?_, fun j => ?_, fun j s hs t ht h => ?_⟩
  · rw [show rowP E n i 0 = (List.replicate n []).set i [St.zero] from rfl, row0_at hi] at ht
    split at ht
    · rename_i e; subst e; rw [List.mem_singleton.1 ht]; exact way_nil _ _
    · cases ht
  · rw [show rowP E n i 0 = (List.replicate n []).set i [St.zero] from rfl, row0_at hi]
    split
    · exact asc_one _
    · exact asc_nil
  · rw [show rowP E n i 0 = (List.replicate n []).set i [St.zero] from rfl, row0_at hi] at hs ht
    split at hs
    · rename_i e
      rw [if_pos e] at ht
      rw [List.mem_singleton.1 hs, List.mem_singleton.1 ht]
    · cases hs
theorem mem_sums2 {A : List St} {p t : St} : t ∈ sumsP A [p] ↔ ∃ s ∈ A, s.afterB p = true ∧ s.after p = t := by
  rw [mem_sums]
  exact ⟨fun ⟨s, hs, q, hq, h1, h2⟩ => ⟨s, hs, by rw [List.mem_singleton.1 hq] at h1 h2; exact ⟨h1, h2⟩⟩, fun ⟨s, hs, h1, h2⟩ => ⟨s, hs, p, List.mem_singleton.2 rfl, h1, h2⟩⟩
theorem edge_at {row : List (List St)} {x : Ed} {j : Nat} (h : x.t.toNat < row.length) : atR (edgeR row x) j = if x.t.toNat = j then minL (atR row x.t.toNat ++ sumsP (atR row x.f.toNat) [x.p]) else atR row j := atR_set h
theorem edge_ok {E : List Ed} {n i : Nat} {row : List (List St)} {x : Ed} (hF : Fits (n : Int) E) (hx : x ∈ E) (h : RowOK E n i row) : RowOK E n i (edgeR row x) := by
  have hf := fit_t hF hx
  have ht : x.t.toNat < row.length := by rw [h.len]; omega
  refine ⟨by rw [edge_len, h.len], fun j hj t hm => ?_, fun j => ?_, fun j => ?_⟩
  · rw [edge_at ht] at hm
    split at hm
    · rename_i e; subst e
      rcases List.mem_append.1 (mem_minL.1 hm).1 with h1 | h1
      · exact h.way _ hj t h1
      · obtain ⟨s, hs, h2, rfl⟩ := mem_sums2.1 h1
        have h3 := h.way x.f.toNat (by omega) s hs
        rw [show ((x.f.toNat : Nat) : Int) = x.f by omega] at h3
        rw [show ((x.t.toNat : Nat) : Int) = x.t by omega]
        exact way_snoc h3 hx h2
    · exact h.way j hj t hm
  · rw [edge_at ht]
    split
    · exact minL_asc _
    · exact h.asc j
  · rw [edge_at ht]
    split
    · exact fun s h1 t h2 h3 => (mem_minL.1 h2).2 s (mem_minL.1 h1).1 h3
    · exact h.anti j
theorem edge_grow {row : List (List St)} {x : Ed} {j : Nat} {t : St} (ht : x.t.toNat < row.length) (h : covB (atR row j) t = true) : covB (atR (edgeR row x) j) t = true := by
  rw [edge_at ht]
  split
  · rename_i e; subst e
    obtain ⟨m, hm, h1⟩ := cov_iff.1 h
    obtain ⟨k, hk, h2⟩ := least_of (List.mem_append.2 (.inl hm) : m ∈ atR row x.t.toNat ++ sumsP (atR row x.f.toNat) [x.p])
    exact cov_iff.2 ⟨k, hk, St.le_trans h2 h1⟩
  · exact h
theorem edge_new {row : List (List St)} {x : Ed} {s : St} (ht : x.t.toNat < row.length) (hs : s ∈ atR row x.f.toNat) (ha : s.afterB x.p = true) : covB (atR (edgeR row x) x.t.toNat) (s.after x.p) = true := by
  rw [edge_at ht, if_pos rfl]
  obtain ⟨k, hk, h2⟩ := least_of (List.mem_append.2 (.inr (mem_sums2.2 ⟨s, hs, ha, rfl⟩)) : s.after x.p ∈ atR row x.t.toNat ++ sumsP (atR row x.f.toNat) [x.p])
  exact cov_iff.2 ⟨k, hk, h2⟩
theorem rowE_succ {E : List Ed} {row : List (List St)} {k : Nat} (hk : k < E.length) : rowE E row (k + 1) = edgeR (rowE E row k) E[k] := by
  unfold rowE
  rw [List.take_add_one, List.foldl_append, List.getElem?_eq_getElem hk]; rfl
theorem rowE_ok {E : List Ed} {n i : Nat} {row : List (List St)} (hF : Fits (n : Int) E) (h : RowOK E n i row) : ∀ k, k ≤ E.length → RowOK E n i (rowE E row k)
  | 0, _ => h
  | k + 1, hk => by rw [rowE_succ (by omega)]; exact edge_ok hF (List.getElem_mem _) (rowE_ok hF h k (by omega))
theorem rowP_ok {E : List Ed} {n i : Nat} (hF : Fits (n : Int) E) (hi : i < n) : ∀ r, RowOK E n i (rowP E n i r)
  | 0 => row0_ok hi
  | r + 1 => rowE_ok hF (rowP_ok hF hi r) _ (Nat.le_refl _)
theorem rowE_grow {E : List Ed} {n i : Nat} {row : List (List St)} (hF : Fits (n : Int) E) (h : RowOK E n i row) {j : Nat} {t : St} {k : Nat} (hc : covB (atR (rowE E row k) j) t = true) : ∀ d, k + d ≤ E.length → covB (atR (rowE E row (k + d)) j) t = true
  | 0, _ => hc
  | d + 1, hd => by
    rw [← Nat.add_assoc, rowE_succ (by omega)]
    have hf := fit_t hF (List.getElem_mem (show k + d < E.length by omega))
    exact edge_grow (by rw [rowE_len, h.len]; omega) (rowE_grow hF h hc d (by omega))
theorem rowP_grow {E : List Ed} {n i : Nat} (hF : Fits (n : Int) E) (hi : i < n) {r j : Nat} {t : St} (h : covB (atR (rowP E n i r) j) t = true) : ∀ d, covB (atR (rowP E n i (r + d)) j) t = true
  | 0 => h
  | d + 1 => by
    have := rowE_grow hF (rowP_ok hF hi (r + d)) (k := 0) (rowP_grow hF hi h d) E.length (by omega)
    rwa [Nat.zero_add] at this
theorem rowP_covers {n : Nat} {E : List Ed} (hf : Fits (n : Int) E) {i : Nat} (hi : i < n) : ∀ (m : Nat) (es : List Ed), es.length = m → (∀ x ∈ es, x ∈ E) → ∀ j : Int, Run (i : Int) es j → (sumW es).rightB = true → covB (atR (rowP E n i m) j.toNat) (sumW es) = true
  | 0, es, hl, he, j, hr, hs => by
    have h0 : es = [] := List.length_eq_zero_iff.1 hl
    subst h0
    have hj : (i : Int) = j := hr
    rw [← hj]
    refine cov_iff.2 ⟨St.zero, ?_, St.le_refl _⟩
    show St.zero ∈ atR ((List.replicate n []).set i [St.zero]) ((i : Int)).toNat
    rw [row0_at hi, if_pos (by omega)]
    exact List.mem_singleton.2 rfl
  | m + 1, es, hl, he, j, hr, hs => by
    rcases List.eq_nil_or_concat es with h0 | ⟨fs, x, h0⟩
    · subst h0; simp at hl
    · rw [List.concat_eq_append] at h0
      subst h0
      obtain ⟨k, h1, h2⟩ := run_app.1 hr
      have h3 : x.f = k := h2.1
      have h4 : x.t = j := h2.2
      have hxE : x ∈ E := he x (by simp)
      have hx := fit_t hf hxE
      have hfs : ∀ y ∈ fs, y ∈ E := fun y hy => he y (by simp [hy])
      have hp := sum_pos hf hfs
      have hs' := right_t hs
      have ha : sumW (fs ++ [x]) = (sumW fs).add x.p := by
        rw [sum_app, St.eq_iff]; simp only [sumW, St.add, St.zero]; omega
      have hs1 := St.right_iff.1 hs
      rw [ha] at hs1
      simp only [St.add] at hs1
      have hr1 : (sumW fs).rightB = true := St.right_iff.2 (by omega)
      have ih := rowP_covers hf hi m fs (by simpa using hl) hfs k h1 hr1
      have hok := rowP_ok hf hi m
      obtain ⟨e, hel, hex⟩ := List.mem_iff_getElem.1 hxE
      have hg := rowE_grow hf hok (k := 0) ih e (by omega)
      rw [Nat.zero_add] at hg
      have hoke := rowE_ok hf hok e (by omega)
      obtain ⟨q, hq, hle⟩ := cov_iff.1 hg
      have haft : (sumW fs).afterB x.p = true := after_iff.2 (by have := right_t hr1; omega)
      have hqr : q.rightB = true := way_right (hoke.way k.toNat (by omega) q hq)
      have hm := after_mono hle (St.le_refl x.p) hqr hx.2.2.2.2.2 haft
      have hnew := edge_new (row := rowE E (rowP E n i m) e) (x := x) (s := q) (by rw [rowE_len, rowP_len]; omega) (by rw [h3]; exact hq) hm.1
      rw [← hex, ← rowE_succ hel] at hnew
      have hfin := rowE_grow hf hok hnew (E.length - (e + 1)) (by omega)
      rw [show e + 1 + (E.length - (e + 1)) = E.length by omega, hex] at hfin
      obtain ⟨z, hz, hzl⟩ := cov_iff.1 hfin
      rw [← h4]
      refine cov_iff.2 ⟨z, hz, St.le_trans hzl (St.le_trans hm.2 ?_)⟩
      have := after_t haft
      rw [ha, St.le_iff]; simp only [St.add]; omega
/-- One round less than there are nodes, and the row is the closure's. -/
theorem rowP_clo {n : Nat} {E : List Ed} (hF : Fits (n : Int) E) {i : Nat} (hi : i < n) : rowP E n i (n - 1) = rowM E n i n := by
  have hok := rowP_ok hF hi (n - 1)
  refine atR_ext (by rw [rowP_len, row_len]) fun j hj => ?_
  rw [rowP_len] at hj
  refine clo_uniq hF hi hj (hok.asc j) (hok.way j hj) (fun t ht => ?_) (hok.anti j)
  obtain ⟨es, h1, h2, rfl, h4⟩ := ht
  obtain ⟨fs, f1, f2, f3, f4⟩ := run_short hF (by omega) es.length es (Nat.le_refl _) h1 h2
  have hp := sum_pos hF f2
  have hl := le_t f4
  have hr := right_t h4
  have hfr : (sumW fs).rightB = true := St.right_iff.2 (by omega)
  have h5 := rowP_covers hF hi fs.length fs rfl f2 _ f3 hfr
  rw [show ((j : Int)).toNat = j by omega] at h5
  have h6 := rowP_grow hF hi h5 (n - 1 - fs.length)
  rw [show fs.length + (n - 1 - fs.length) = n - 1 by omega] at h6
  obtain ⟨q, hq, hle⟩ := cov_iff.1 h6
  exact cov_iff.2 ⟨q, hq, St.le_trans hle f4⟩
theorem ok_small {E : List Ed} {n i : Nat} {row : List (List St)} (h : RowOK E n i row) (j : Nat) : (atR row j).length ≤ 1000001 := by
  rcases Nat.lt_or_ge j n with hj | hj
  · have hr : ∀ t ∈ atR row j, t.rightB = true := fun t ht => way_right (h.way j hj t ht)
    exact asc_small 1000001 _ (h.asc j) (h.anti j) hr (fun t ht => by have := right_t (hr t ht); omega)
  · rw [atR_out (by rw [h.len]; exact hj)]; simp
/-! ### Rows with many paths -/
def overB (L : List (List St)) : Bool := L.any fun l => decide (64 < l.length)
def ixO (L : List (List St)) : Int :=
  match L.findIdx? (fun l => decide (64 < l.length)) with
  | some i => (i : Int)
  | none => -1
theorem atR_eq {L : List (List St)} {i : Nat} (h : i < L.length) : atR L i = L[i] := by unfold atR; rw [List.getD_eq_getElem?_getD, List.getElem?_eq_getElem h]; rfl
theorem ixO_hit {L : List (List St)} {i : Int} (h0 : 0 ≤ i) (hi : i < (L.length : Int)) (hb : ∀ p, p < i.toNat → ¬ 64 < (atR L p).length) (h : 64 < (atR L i.toNat).length) : ixO L = i := by
  unfold ixO
  have : L.findIdx? (fun l => decide (64 < l.length)) = some i.toNat := by
    rw [List.findIdx?_eq_some_iff_getElem]
    refine ⟨by omega, by rw [← atR_eq (by omega)]; exact decide_eq_true h, fun j hj => ?_⟩
    have := hb j hj
    rw [atR_eq (by omega)] at this
    simpa using this
  rw [this]; simp only; omega
theorem ixO_miss {L : List (List St)} {i : Int} (hb : ∀ p, p < i.toNat → ¬ 64 < (atR L p).length) (hi : ¬ i < (L.length : Int)) : ixO L = -1 := by
  unfold ixO
  have : L.findIdx? (fun l => decide (64 < l.length)) = none := by
    rw [List.findIdx?_eq_none_iff]
    intro l hl
    obtain ⟨j, hj, rfl⟩ := List.mem_iff_getElem.1 hl
    have := hb j (by omega)
    rw [atR_eq hj] at this
    simpa using this
  rw [this]
theorem over_ix (L : List (List St)) : decide (0 ≤ ixO L) = overB L := by
  unfold ixO overB
  cases h : L.findIdx? (fun l => decide (64 < l.length)) with
  | none =>
    rw [List.findIdx?_eq_none_iff] at h
    have : L.any (fun l => decide (64 < l.length)) = false := by rw [List.any_eq_false]; intro l hl; rw [h l hl]; simp
    rw [this]; rfl
  | some i =>
    rw [List.findIdx?_eq_some_iff_getElem] at h
    obtain ⟨h1, h2, _⟩ := h
    have : L.any (fun l => decide (64 < l.length)) = true := List.any_eq_true.2 ⟨_, List.getElem_mem h1, h2⟩
    rw [this]; simp only; rw [decide_eq_true (by omega)]
theorem over_no {L : List (List St)} (h : overB L = false) (j : Nat) : (atR L j).length ≤ 64 := by
  rcases Nat.lt_or_ge j L.length with hj | hj
  · rw [atR_eq hj]
    have := List.any_eq_false.1 h _ (List.getElem_mem hj)
    simp only [decide_eq_true_eq] at this
    omega
  · rw [atR_out hj]; simp
theorem over_yes {L : List (List St)} (h : overB L = true) : ∃ j, j < L.length ∧ 64 < (atR L j).length := by
  obtain ⟨l, hl, h1⟩ := List.any_eq_true.1 h
  obtain ⟨j, hj, rfl⟩ := List.mem_iff_getElem.1 hl
  exact ⟨j, hj, by rw [atR_eq hj]; exact of_decide_eq_true h1⟩
end Go.Proofs.Ytboinbmgndomhaa
namespace Go.Proofs.Ytboinbmgndomhaa
open Go.RowKit
set_option maxRecDepth 100000
set_option linter.unusedSimpArgs false
set_option linter.unusedVariables false

theorem evfn {a : Act} {f : FuncId} : a.eval (.func f) = .func (.func f) #[] #[] := rfl
abbrev winV (g o n : Nat) : Value := .slice (some ⟨g, o, none⟩) n n
section
variable {P : Program} {ops rest : List Oper} {o : Oper} {a : Act} {n d : Nat} {L : List (Nat × Value)} {Q : Exit → Act → World → Prop} {R : List Nat} {w w0 : World} {B : List Ent} {v : Value} {x y lo hi mx : Operand} {t e ty : TypeId} {i g k s N c m : Nat} {k1 k2 k3 : IntKind} {i1 i2 i3 : Int} {A V C X : List Value}
/-- places[lo:hi:hi] -/
theorem pu_slice3 (ho : o.op = .slice t x (some lo) (some hi) (some mx)) (hx : a.eval x = .slice (some ⟨g, 0, none⟩) N c) (hlo : a.eval lo = .int k1 i1) (hhi : a.eval hi = .int k2 i2) (hmx : a.eval mx = .int k3 i3) (hT : SlTy P t e 1)
    (h0 : 0 ≤ i1) (e1 : i1.toNat = s) (e2 : i2.toNat = s + m) (e3 : i3 = i2) (hm : 0 < m) (hc : s + m ≤ c) : Pure P o a (winV g s m) := fun w' => by
  obtain ⟨hu, hi'⟩ := hT
  subst e3
  cases hq : P.info? e with
  | none => simp [hq] at hi'
  | some inf =>
    have hs : inf.size = 1 := by simpa [hq] using hi'
    simp only [execOp, ho, hx, Option.map_some, hlo, hhi, hmx]
    have e9 : (Instr.sliceBounds true N c (some (.int k1 i1)) (some (.int k2 i3)) (some (.int k3 i3))).run P w' = .ok (i1.toNat, i3.toNat, i3.toNat) w' := by
      simp only [Instr.sliceBounds, Sem.run_bind, Sem.run_pure, Result.andThen_ok, run_sliceBound _ _ _ _ _ (show 0 ≤ i3 by omega) (show i3 ≤ (c : Int) by omega)]
      rw [run_sliceBound _ _ _ _ _ (show 0 ≤ i3 by omega) (show i3 ≤ ((i3.toNat : Nat) : Int) by omega)]
      simp only [Result.andThen_ok]
      rw [run_sliceBound _ _ _ _ _ h0 (show i1 ≤ ((i3.toNat : Nat) : Int) by omega)]
      rfl
    simp [Instr.sliceAt, Instr.slice, run_underlying hu, e9, sizeOf, typeInfo, hq, hs, addr_add]
    exact ⟨by rw [if_neg (by omega), e1], by omega⟩
/-- A window of a block reads. -/
theorem win_rdv (h : Blk w g t (List.toArray (cV X))) (hX : (X.drop s).take n = V) (hV : V.length = n) (hn : n ≤ 1000000000) : RdV w 1 (winV g s n) n (cV V) :=
  ⟨by show V.length = n * 1; omega, _, _, rfl, Nat.le_refl _, by unfold maxLen; omega, fun _ => ⟨g, s, rfl, h.lt, fun j u hj => by
    rw [h.cell, List.getElem?_toArray]
    have hj' : V[j]? = some u := hj
    rw [← hX, List.getElem?_take, List.getElem?_drop] at hj'
    split at hj'
    · exact hj'
    · cases hj'⟩⟩
theorem mid_win (hA : A.length = s) (hV : V.length = n) : ((A ++ V ++ C).drop s).take n = V := by
  rw [List.append_assoc, ← hA, List.drop_left, ← hV, List.take_left]
theorem mid_set {j : Nat} (hA : A.length = s) (hj : j < V.length) : (A ++ V ++ C).set (s + j) v = A ++ V.set j v ++ C := by
  rw [List.append_assoc, List.set_append_right _ _ (by omega), show s + j - A.length = j by omega, List.set_append_left _ _ (by omega), List.append_assoc]
/-- A store into a window. -/
theorem sq_stW {j : Nat} (F : Fr a n L) (M : Mm R w0 w B) (hw : Region.wanted o (yielded ops.toArray a.tmps) = true) (ho : o.op = .store ty x y) (hx : a.eval x = .pointer (some ⟨g, s + j * 1, none⟩)) (hy : a.eval y = v)
    (hi : B[i]? = some (.blk g t (List.toArray (cV (A ++ V ++ C))))) (hA : A.length = s) (hj : j < V.length) (hT : (P.info? ty).map (·.size) = some 1) (h1 : v.oneCell' = true) (hv : v.cells = #[v]) (hd : o.dst = none)
    (h : ∀ w', Mm R w0 w' (B.set i (.blk g t (List.toArray (cV (A ++ V.set j v ++ C))))) → wpList P ops.toArray Q rest a w') : wpList P ops.toArray Q (o :: rest) a w :=
  sq_st1 (j := s + j) F M hw ho (by rw [hx]; simp) hy hi (by simp only [cV, List.length_append]; omega) hT h1 hv hd (fun w' M' => h w' (by
    have e1 : (cV (A ++ V ++ C)).set (s + j) v = cV (A ++ V.set j v ++ C) := mid_set hA hj
    rwa [e1] at M'))
end
/-! ### A window with its rows -/
theorem fpR_rep (n : Nat) : fpR (List.replicate n nilV) = [] := by
  unfold fpR
  rw [List.flatMap_eq_nil_iff]
  intro v hv
  rw [(List.mem_replicate.1 hv).2]; rfl
structure TabV (t ty : TypeId) (g : Nat) (A V C : List Value) (L : List (List St)) (w : World) : Prop where
  blk : Blk w g t (List.toArray (cV (A ++ V ++ C)))
  rows : RowsV ty V L w
  ne : ¬ g ∈ fpR V
theorem TabV.loc (t ty : TypeId) (g : Nat) (A V C : List Value) (L : List (List St)) : Loc (g :: fpR V) (TabV t ty g A V C L) := fun w w' hk h => by
  have h2 := RowsV.loc ty V L w w' (fun q hq => hk q (List.mem_cons_of_mem _ hq)) h.rows
  refine ⟨⟨(hk g (List.mem_cons_self ..)).trans h.blk, h2.1, h.ne⟩, fun q hq => ?_⟩
  rcases List.mem_cons.1 hq with rfl | hq
  · exact h.blk.lt
  · exact h2.2 q hq
theorem TabV.loc0 (t ty : TypeId) (g n : Nat) (A C : List Value) (L : List (List St)) : Loc [g] (TabV t ty g A (List.replicate n nilV) C L) := by
  have := TabV.loc t ty g A (List.replicate n nilV) C L
  rwa [fpR_rep] at this
section
variable {R : List Nat} {w0 w : World} {B : List Ent} {t ty t2 : TypeId} {g g2 n m s i k : Nat} {A V C X : List Value} {K : List (List St)} {vss : List (List Value)} {L : List (List (List St))}
theorem TabV.rd (h : TabV t ty g A V C K w) (hA : A.length = s) (hV : V.length = n) (hn : n ≤ 1000000000) : RdV w 1 (winV g s n) n (cV V) := win_rdv h.blk (mid_win hA hV) hV hn
theorem Mm.tabIn (M : Mm R w0 w B) (h : B[k]? = some (.blk g t (List.toArray (cV X)))) (ty : TypeId) (hX : X = A ++ List.replicate n nilV ++ C) : Mm R w0 w (B.set k (.own [g] (TabV t ty g A (List.replicate n nilV) C (List.replicate n [])))) := by
  subst hX
  exact M.swap h (x' := .own [g] (TabV t ty g A (List.replicate n nilV) C (List.replicate n []))) (Out.refl _ _) ⟨⟨M.at h, rows_rep ty n w, by rw [fpR_rep]; simp⟩, TabV.loc0 _ _ _ _ _ _ _⟩ (fun q hq => .inl (by simpa [Ent.fp] using hq)) (fun q hq => by cases hq)
theorem tab_post {Φ : World → Prop} (M : Mm [g] w0 w B) (hb : B[k]? = some (.blk g t (List.toArray (cV (A ++ V ++ C))))) (hr : B[i]? = some (.own (fpR V) (RowsV ty V K))) (hne : k ≠ i) (hV : V.length = n) :
    TurnsE w0 (.own [g] Φ) (fun u x' => u = .tuple #[] ∧ ∃ V', V'.length = n ∧ x' = .own (g :: fpR V') (TabV t ty g A V' C K)) (.returned (.tuple #[])) w := by
  refine ⟨_, .own (g :: fpR V) (TabV t ty g A V C K), rfl, M.out, ⟨⟨M.at hb, M.pv hr, fun hg => M.apart hb hr hne g (by simp [Ent.fp]) hg⟩, TabV.loc _ _ _ _ _ _ _⟩, fun q hq => ?_, rfl, rfl, V, hV, rfl⟩
  rcases List.mem_cons.1 hq with rfl | hq
  · exact .inl (by simp [Ent.fp])
  · rcases M.own _ (List.mem_of_getElem? hr) q hq with h | h
    · exact .inr h
    · exact .inl h
/-! ### Rows that are done -/
structure DoneV (vss : List (List Value)) (L : List (List (List St))) (w : World) : Prop where
  len : vss.length = L.length
  lv : ∀ i, i < L.length → (atW vss i).length = (at3 L i).length
  one : ∀ i j, i < L.length → j < (at3 L i).length → RdS w (atV (atW vss i) j) (atR (at3 L i) j)
def fpD (vss : List (List Value)) (L : List (List (List St))) : List Nat :=
  (List.range L.length).flatMap fun i => (List.range (at3 L i).length).flatMap fun j => fpN (atV (atW vss i) j) (atR (at3 L i) j).length
theorem mem_fpD {q : Nat} : q ∈ fpD vss L ↔ ∃ i, i < L.length ∧ ∃ j, j < (at3 L i).length ∧ q ∈ fpN (atV (atW vss i) j) (atR (at3 L i) j).length := by
  unfold fpD
  simp only [List.mem_flatMap, List.mem_range]
theorem DoneV.loc (vss : List (List Value)) (L : List (List (List St))) : Loc (fpD vss L) (DoneV vss L) := fun w w' hk h => by
  refine ⟨⟨h.len, h.lv, fun i j hi hj => ?_⟩, fun q hq => ?_⟩
  · exact (RdV.keep (h.one i j hi hj) fun q hq => hk q (mem_fpD.2 ⟨i, hi, j, hj, hq⟩)).1
  · obtain ⟨i, hi, j, hj, h1⟩ := mem_fpD.1 hq
    exact (RdV.keep (w' := w) (h.one i j hi hj) fun _ _ => rfl).2 q h1
theorem done_push (h : DoneV vss L w) (hl : V.length = K.length) (ho : ∀ j, j < K.length → RdS w (atV V j) (atR K j)) : DoneV (vss ++ [V]) (L ++ [K]) w := by
  have hs := h.len
  refine ⟨by simp [hs], fun i hi => ?_, fun i j hi hj => ?_⟩
  · simp only [List.length_append, List.length_singleton] at hi
    rcases Nat.lt_or_ge i L.length with h1 | h1
    · rw [atW_app (by omega), at3_app h1]; exact h.lv i h1
    · rw [atW_last (by omega), at3_last (by omega)]; exact hl
  · simp only [List.length_append, List.length_singleton] at hi
    rcases Nat.lt_or_ge i L.length with h1 | h1
    · rw [at3_app h1] at hj ⊢
      rw [atW_app (by omega)]; exact h.one i j h1 hj
    · rw [at3_last (by omega)] at hj ⊢
      rw [atW_last (by omega)]; exact ho j hj
theorem fpD_push (hs : vss.length = L.length) {q : Nat} (hq : q ∈ fpD (vss ++ [V]) (L ++ [K])) : q ∈ fpD vss L ∨ ∃ j, j < K.length ∧ q ∈ fpN (atV V j) (atR K j).length := by
  obtain ⟨i, hi, j, hj, h⟩ := mem_fpD.1 hq
  simp only [List.length_append, List.length_singleton] at hi
  rcases Nat.lt_or_ge i L.length with h1 | h1
  · rw [at3_app h1] at hj h
    rw [atW_app (by omega)] at h
    exact .inl (mem_fpD.2 ⟨i, h1, j, hj, h⟩)
  · rw [at3_last (by omega)] at hj h
    rw [atW_last (by omega)] at h
    exact .inr ⟨j, hj, h⟩
/-- The window's rows are done: the block by itself, the rows among the others. -/
theorem Mm.tabOut (M : Mm R w0 w (.own (g :: fpR V) (TabV t ty g A V C K) :: .own (fpD vss L) (DoneV vss L) :: B)) :
    Mm R w0 w (.blk g t (List.toArray (cV (A ++ V ++ C))) :: .own (fpD (vss ++ [V]) (L ++ [K])) (DoneV (vss ++ [V]) (L ++ [K])) :: B) := by
  have h1 : TabV t ty g A V C K w := M.pv (i := 0) rfl
  have h2 : DoneV vss L w := M.pv (i := 1) rfl
  have hl := h1.rows.len
  have hp : DoneV (vss ++ [V]) (L ++ [K]) w := done_push h2 hl (fun j hj => h1.rows.rd (by omega))
  have hfp : ∀ q ∈ fpD (vss ++ [V]) (L ++ [K]), q ∈ fpD vss L ∨ q ∈ fpR V := fun q hq => by
    rcases fpD_push h2.len hq with h | ⟨j, hj, h⟩
    · exact .inl h
    · exact .inr (mem_fpR.2 ⟨j, by omega, own_fpN (h1.rows.row j (by omega)) h⟩)
  have hnd := List.pairwise_cons.1 M.nd
  refine M.recast (X := [.own (g :: fpR V) (TabV t ty g A V C K), .own (fpD vss L) (DoneV vss L)]) (Y := [.blk g t (List.toArray (cV (A ++ V ++ C))), .own (fpD (vss ++ [V]) (L ++ [K])) (DoneV (vss ++ [V]) (L ++ [K]))]) (fun y hy => ?_) (fun y hy q hq => ?_) ?_ (fun y hy q hq => ?_)
  · rcases List.mem_cons.1 hy with rfl | hy
    · exact h1.blk
    · rw [List.mem_singleton.1 hy]; exact ⟨hp, DoneV.loc _ _⟩
  · rcases List.mem_cons.1 hy with rfl | hy
    · exact ⟨_, List.mem_cons_self .., by simp only [Ent.fp, List.mem_singleton] at hq; simp [Ent.fp, hq]⟩
    · rw [List.mem_singleton.1 hy] at hq
      rcases hfp q hq with h | h
      · exact ⟨.own (fpD vss L) (DoneV vss L), by simp, h⟩
      · exact ⟨.own (g :: fpR V) (TabV t ty g A V C K), by simp, by simp [Ent.fp, h]⟩
  · refine List.pairwise_cons.2 ⟨fun y hy q hq hq2 => ?_, List.pairwise_singleton _ _⟩
    rw [List.mem_singleton.1 hy] at hq2
    simp only [Ent.fp, List.mem_singleton] at hq
    subst hq
    rcases hfp q hq2 with h | h
    · exact hnd.1 (.own (fpD vss L) (DoneV vss L)) (by simp) q (by simp [Ent.fp]) h
    · exact h1.ne h
  · rcases List.mem_cons.1 hy with rfl | hy
    · cases hq
    · rw [List.mem_singleton.1 hy] at hq; cases hq
theorem done_nil (w : World) : DoneV [] [] w := ⟨rfl, fun i h => absurd h (Nat.not_lt_zero i), fun i _ h => absurd h (Nat.not_lt_zero i)⟩
/-- The start: the table's rows are nil yet, none is done. -/
theorem Mm.done0 {x y z : Ent} (M : Mm R w0 w (x :: y :: z :: B)) : Mm R w0 w (z :: .own (fpD [] []) (DoneV [] []) :: x :: B) := by
  have M1 := M.sub (B' := x :: z :: B) (.cons_cons _ (.cons _ (List.Sublist.refl _)))
  have M2 := M1.addOwn (Below.refl _ _) (done_nil w) (DoneV.loc _ _) (fun q hq => by cases hq)
  exact M2.perm ((List.Perm.cons _ (List.Perm.swap _ _ _)).trans (List.Perm.swap _ _ _))
/-! ### The rows' headers -/
def rsF (g n k : Nat) : List Value := (List.range n).map fun q => if q < k then winV g (q * n) n else nilV
theorem rsF_len (g n k : Nat) : (rsF g n k).length = n := by simp [rsF]
theorem rsF_at {q : Nat} (hk : q < k) (hn : q < n) : atV (rsF g n k) q = winV g (q * n) n := by
  rw [atV_eq (by rw [rsF_len]; exact hn)]; simp [rsF, hk]
theorem rsF_zero (g n : Nat) : List.replicate n nilV = rsF g n (0 : Int).toNat := by
  apply List.ext_getElem
  · simp [rsF_len]
  · intro j h1 h2; simp [rsF]
theorem rsF_set {i : Int} (h0 : 0 ≤ i) (hi : i.toNat < n) : (rsF g n i.toNat).set i.toNat (winV g (i.toNat * n) n) = rsF g n (i + 1).toNat := by
  apply List.ext_getElem
  · simp [rsF_len]
  · intro j h1 h2
    rw [List.getElem_set]
    split
    · rename_i e; subst e; simp only [rsF, List.getElem_map, List.getElem_range]; rw [if_pos (by omega)]
    · simp only [rsF, List.getElem_map, List.getElem_range]
      by_cases e : j < i.toNat
      · rw [if_pos e, if_pos (by omega)]
      · rw [if_neg e, if_neg (by omega)]
theorem flat_len : ∀ {vss : List (List Value)}, (∀ u ∈ vss, u.length = n) → vss.flatten.length = vss.length * n
  | [], _ => by simp
  | u :: r, h => by
    rw [List.flatten_cons, List.length_append, flat_len (fun x hx => h x (by simp [hx])), h u (by simp), List.length_cons, Nat.succ_mul]; omega
theorem flat_at : ∀ {vss : List (List Value)} {i : Nat}, (∀ u ∈ vss, u.length = n) → i < vss.length → (vss.flatten.drop (i * n)).take n = atW vss i
  | u :: r, 0, h, _ => by
    rw [List.flatten_cons, Nat.zero_mul, List.drop_zero, ← h u (by simp), List.take_left]; rfl
  | u :: r, i + 1, h, hi => by
    have e : u.length = n := h u (by simp)
    rw [List.flatten_cons, show (i + 1) * n = u.length + i * n by rw [Nat.succ_mul]; omega, List.drop_append, List.drop_of_length_le (by omega), List.nil_append, show u.length + i * n - u.length = i * n by omega]
    exact flat_at (fun x hx => h x (by simp [hx])) (by simpa using hi)
theorem rep_split {i : Nat} (hi : i < n) : List.replicate ((n - i) * n) nilV = List.replicate n nilV ++ List.replicate ((n - (i + 1)) * n) nilV := by
  rw [List.replicate_append_replicate, show n - i = (n - (i + 1)) + 1 by omega, Nat.succ_mul, Nat.add_comm]
theorem rep_splitI {i : Int} (h0 : 0 ≤ i) (hi : i.toNat < n) : List.replicate ((n - i.toNat) * n) nilV = List.replicate n nilV ++ List.replicate ((n - (i + 1).toNat) * n) nilV := by
  rw [show (i + 1).toNat = i.toNat + 1 by omega]; exact rep_split hi
theorem flat_push (vss : List (List Value)) (V C : List Value) : vss.flatten ++ V ++ C = (vss ++ [V]).flatten ++ C := by simp
theorem all_push (h : ∀ u ∈ vss, u.length = n) (hV : V.length = n) : ∀ u ∈ vss ++ [V], u.length = n := fun u hu => by
  rcases List.mem_append.1 hu with h1 | h1
  · exact h u h1
  · rw [List.mem_singleton.1 h1]; exact hV
theorem arg_apart {v : Value} {xs fp : List _} {Φ : World → Prop} (M : Mm [] w0 w B) (hi : B[i]? = some (.arg m v n xs)) (hk : B[k]? = some (.own fp Φ)) (hg : g ∈ fp) (hn : 0 < n) : ¬ gof v ∈ [g] := fun h => by
  have h1 := M.far _ (List.mem_of_getElem? hi) (gof v) (by rw [show (Ent.arg m v n xs).base = [gof v] from if_neg (by omega)]; simp)
  rcases M.own _ (List.mem_of_getElem? hk) g hg with h2 | h2
  · rw [List.mem_singleton.1 h] at h1; omega
  · cases h2
theorem mul_toNat {a b : Int} (ha : 0 ≤ a) (hb : 0 ≤ b) : (a * b).toNat = a.toNat * b.toNat := by
  obtain ⟨x, rfl⟩ := Int.eq_ofNat_of_zero_le ha
  obtain ⟨y, rfl⟩ := Int.eq_ofNat_of_zero_le hb
  rw [← Int.natCast_mul, Int.toNat_natCast, Int.toNat_natCast, Int.toNat_natCast]
theorem mul_small {a b : Int} (ha : 0 ≤ a) (ha8 : a ≤ 8) (hb : 0 ≤ b) (hb8 : b ≤ 8) : 0 ≤ a * b ∧ a * b ≤ 64 := by
  refine ⟨Int.mul_nonneg ha hb, ?_⟩
  have := Int.mul_le_mul ha8 hb8 hb (by omega : (0 : Int) ≤ 8)
  omega
/-- The whole, when all rows are done. -/
theorem rd3_tab (M : Mm R w0 w (.blk g t (List.toArray (cV (vss.flatten ++ C))) :: .own (fpD vss L) (DoneV vss L) :: .blk g2 t2 (List.toArray (cV (rsF g n n))) :: B)) (hu : ∀ u ∈ vss, u.length = n) (hL : L.length = n) (hn : n ≤ 1000) :
    Rd3 (.slice (some ⟨g2, 0, none⟩) n n) (rsF g n n) vss L w ∧ ∀ q ∈ fp3 (.slice (some ⟨g2, 0, none⟩) n n) (rsF g n n) vss L, w0.heap.size ≤ q ∨ q ∈ R := by
  have h1 : Blk w g t (List.toArray (cV (vss.flatten ++ C))) := M.at (i := 0) rfl
  have h2 : DoneV vss L w := M.pv (i := 1) rfl
  have h3 : Blk w g2 t2 (List.toArray (cV (rsF g n n))) := M.at (i := 2) rfl
  have hv := h2.len
  have hrow : ∀ i, i < L.length → (at3 L i).length = n := fun i hi => by
    rw [← h2.lv i hi]
    have e : atW vss i = vss[i]'(by omega) := by unfold atW; rw [List.getD_eq_getElem?_getD, List.getElem?_eq_getElem (by omega)]; rfl
    rw [e]; exact hu _ (List.getElem_mem _)
  have htop : RdV w 1 (.slice (some ⟨g2, 0, none⟩) n n) L.length (cV (rsF g n n)) := by
    rw [hL]
    exact win_rdv (s := 0) h3 (by rw [List.drop_zero, List.take_of_length_le (by rw [rsF_len]; omega)]) (rsF_len _ _ _) (by omega)
  refine ⟨⟨htop, ⟨by rw [rsF_len, hL], hv, h2.lv, fun i hi => ?_, h2.one⟩⟩, fun q hq => ?_⟩
  · rw [rsF_at (by omega) (by omega), hrow i hi]
    refine win_rdv h1 ?_ (by rw [h2.lv i hi, hrow i hi]) (by omega)
    have hfl := flat_len hu
    have h5 : i * n + n ≤ vss.flatten.length := by
      rw [hfl, ← Nat.succ_mul]; exact Nat.mul_le_mul_right _ (by omega)
    rw [List.drop_append, List.take_append_of_le_length (by rw [List.length_drop]; omega)]
    exact flat_at hu (by omega)
  · have hown := M.own
    rcases List.mem_append.1 hq with h | h
    · exact hown (.blk g2 t2 (List.toArray (cV (rsF g n n)))) (by simp) q (by
        have := (mem_fpN.1 h).2
        simp only [Ent.fp, List.mem_singleton]; exact this)
    · obtain ⟨i, hi, h4 | ⟨j, hj, h4⟩⟩ := mem_fpI.1 h
      · rw [rsF_at (by omega) (by omega)] at h4
        exact hown (.blk g t (List.toArray (cV (vss.flatten ++ C)))) (by simp) q (by
          have := (mem_fpN.1 h4).2
          simp only [Ent.fp, List.mem_singleton]; exact this)
      · exact hown (.own (fpD vss L) (DoneV vss L)) (by simp) q (mem_fpD.2 ⟨i, hi, j, hj, h4⟩)
/-- Another row of a table from which one is taken. -/
theorem rows_other {vs : List Value} {L : List (List St)} {j q : Nat} (h : RowsV ty (vs.set j nilV) (L.set j []) w) (hq : q < vs.length) (hl : vs.length = L.length) (hj : j < vs.length) (hne : ¬ j = q) : RdS w (atV vs q) (atR L q) := by
  have := h.rd (j := q) (by simpa using hq)
  rwa [atV_set hj, if_neg hne, atR_set (by omega), if_neg hne] at this
end
end Go.Proofs.Ytboinbmgndomhaa
namespace Go.Proofs.Ytboinbmgndomhaa
open Go.RowKit
set_option maxRecDepth 100000
set_option linter.unusedSimpArgs false
set_option linter.unusedVariables false

def fpE (B : List Ent) : List Nat := B.flatMap Ent.fp
theorem mem_fpE {B : List Ent} {g : Nat} : g ∈ fpE B ↔ ∃ x ∈ B, g ∈ x.fp := by unfold fpE; rw [List.mem_flatMap]
/-- All of B, apart from one another. -/
structure PkV (B : List Ent) (w : World) : Prop where
  has : ∀ x ∈ B, x.at w
  base : ∀ x ∈ B, x.base = []
  nd : B.Pairwise (fun x y => ∀ g ∈ x.fp, ¬ g ∈ y.fp)
theorem Ent.loc {x : Ent} (hb : x.base = []) : Loc x.fp (fun w => x.at w) := fun w w' hk h => by
  refine ⟨?_, Ent.lt h⟩
  cases x with
  | blk g t cs => exact (blk_loc w w' hk h).1
  | row t m v n xs =>
    have h : w.ownsRow 0 t m v n xs := h
    refine ⟨h.1, ?_⟩
    rcases h.2 with h4 | ⟨g, cap, cur, h4, h5, h6, h7⟩
    · exact .inl h4
    · exact .inr ⟨g, cap, cur, h4, h5, (hk g (by simp [Ent.fp, h4, Value.ownBlock])).trans h6, h7⟩
  | arg m v n xs =>
    have h : RdV w m v n xs := h
    have hn : n = 0 := by
      by_cases h0 : n = 0
      · exact h0
      · rw [show (Ent.arg m v n xs).base = [gof v] from if_neg h0] at hb; cases hb
    obtain ⟨h0, A, c, rfl, h1, h2, h3⟩ := h
    exact ⟨h0, A, c, rfl, h1, h2, fun hn' => by omega⟩
  | got m v n xs =>
    have h : RdV w m v n xs := h
    obtain ⟨h0, A, c, rfl, h1, h2, h3⟩ := h
    refine ⟨h0, A, c, rfl, h1, h2, fun hn' => ?_⟩
    obtain ⟨g, off, rfl, h4, h5⟩ := h3 hn'
    have hg := hk g (by rw [show (Ent.got m (.slice (some ⟨g, off, none⟩) n c) n xs).fp = [g] from if_neg (by omega)]; simp)
    refine ⟨g, off, rfl, ?_, fun j u hj => by rw [World.cell?_of_block hg]; exact h5 j u hj⟩
    have h6 : w.heap[g]? = some w.heap[g] := Array.getElem?_eq_getElem h4
    rw [← hg] at h6
    exact (Array.getElem?_eq_some_iff.1 h6).1
  | own fp Φ => exact ⟨(h.2 w w' hk h.1).1, h.2⟩
  | ext fp Φ =>
    have hb : fp = [] := hb
    subst hb
    exact ⟨(h.2 w w' (fun g hg => by cases hg) h.1).1, h.2⟩
section
variable {R : List Nat} {w0 w w' : World} {B C X : List Ent}
theorem PkV.loc (B : List Ent) : Loc (fpE B) (PkV B) := fun w w' hk h =>
  ⟨⟨fun x hx => (Ent.loc (h.base x hx) w w' (fun g hg => hk g (mem_fpE.2 ⟨x, hx, hg⟩)) (h.has x hx)).1, h.base, h.nd⟩, fun g hg => by
    obtain ⟨x, hx, hg⟩ := mem_fpE.1 hg
    exact Ent.lt (h.has x hx) g hg⟩
/-- A walk starts with all of it apart. -/
theorem PkV.start (h : PkV B w) : Mm (fpE B) w w B := ⟨Out.refl _ _, h.has, fun x hx g hg => .inr (mem_fpE.2 ⟨x, hx, hg⟩), fun x hx g hg => (by rw [h.base x hx] at hg; cases hg), h.nd⟩
theorem Mm.pkv (M : Mm R w0 w B) (hb : ∀ x ∈ B, x.base = []) : PkV B w := ⟨M.has, hb, M.nd⟩
/-- A call's end: what was turned is put together again. -/
theorem Mm.pkTurns {v : Value} {Φ : World → Prop} {fp : List Nat} {Z : Value → Ent → Prop} (M : Mm R w0 w B) (hR : R = fp) (hb : ∀ x ∈ B, x.base = []) {Ψ : World → Prop} (hΨ : Ψ w) (hl : Loc (fpE B) Ψ) (hz : Z v (.own (fpE B) Ψ)) :
    TurnsE w0 (.own fp Φ) Z (.returned v) w :=
  ⟨v, .own (fpE B) Ψ, rfl, hR ▸ M.out, ⟨hΨ, hl⟩, fun g hg => by
    obtain ⟨x, hx, hg⟩ := mem_fpE.1 (show g ∈ fpE B from hg)
    rcases M.own x hx g hg with h | h
    · exact .inr h
    · exact .inl (hR ▸ h), rfl, hz⟩
/-- A call's end: what was made is put together. -/
theorem Mm.pkMakes {v : Value} {Z : Value → Ent → Prop} (M : Mm [] w0 w B) {Ψ : World → Prop} (hΨ : Ψ w) (hl : Loc (fpE B) Ψ) (hz : Z v (.own (fpE B) Ψ)) : MakesE w0 Z (.returned v) w :=
  ⟨v, .own (fpE B) Ψ, rfl, M.bel, ⟨hΨ, hl⟩, fun g hg => by
    obtain ⟨x, hx, hg⟩ := mem_fpE.1 (show g ∈ fpE B from hg)
    exact (M.own x hx g hg).elim id (fun z => by cases z), rfl, hz⟩
/-- What lies at the head is put together. -/
theorem Mm.pack (M : Mm R w0 w (X ++ C)) (hb : ∀ x ∈ X, x.base = []) : Mm R w0 w (.own (fpE X) (PkV X) :: C) := by
  refine Mm.recast (X := X) (Y := [.own (fpE X) (PkV X)]) M (fun y hy => ?_) (fun y hy g hg => ?_) (List.pairwise_singleton _ _) (fun y hy g hg => ?_)
  · rw [List.mem_singleton.1 hy]
    exact ⟨⟨fun x hx => M.has x (List.mem_append.2 (.inl hx)), hb, (List.pairwise_append.1 M.nd).1⟩, PkV.loc _⟩
  · rw [List.mem_singleton.1 hy] at hg; exact mem_fpE.1 hg
  · rw [List.mem_singleton.1 hy] at hg; cases hg
/-- .. and taken apart. -/
theorem Mm.unpack (M : Mm R w0 w (.own (fpE X) (PkV X) :: C)) : Mm R w0 w (X ++ C) := by
  have h := M.pv (i := 0) rfl
  refine Mm.recast (X := [.own (fpE X) (PkV X)]) (Y := X) M h.has (fun y hy g hg => ⟨_, List.mem_singleton.2 rfl, mem_fpE.2 ⟨y, hy, hg⟩⟩) h.nd (fun y hy g hg => ?_)
  rw [h.base y hy] at hg; cases hg
theorem PkV.get (h : PkV B w) {i : Nat} {x : Ent} (hi : B[i]? = some x) : x.at w := h.has x (List.mem_of_getElem? hi)
theorem PkV.pv (h : PkV B w) {i : Nat} {fp : List Nat} {Φ : World → Prop} (hi : B[i]? = some (.own fp Φ)) : Φ w := (show Φ w ∧ Loc fp Φ from h.get hi).1
theorem PkV.blk (h : PkV B w) {i g : Nat} {t : TypeId} {cs : Array Value} (hi : B[i]? = some (.blk g t cs)) : Blk w g t cs := h.get hi
theorem PkV.apart (h : PkV B w) {i j : Nat} {x y : Ent} (hi : B[i]? = some x) (hj : B[j]? = some y) (hne : i ≠ j) : ∀ g ∈ x.fp, ¬ g ∈ y.fp := by
  have hp := List.pairwise_iff_getElem.1 h.nd
  obtain ⟨hi', rfl⟩ := List.getElem?_eq_some_iff.1 hi
  obtain ⟨hj', rfl⟩ := List.getElem?_eq_some_iff.1 hj
  rcases Nat.lt_or_gt_of_ne hne with h1 | h1
  · exact hp i j hi' hj' h1
  · exact fun g hg hg' => hp j i hj' hi' h1 g hg' hg
end
end Go.Proofs.Ytboinbmgndomhaa
namespace Go.Proofs.Ytboinbmgndomhaa
open Go.RowKit
set_option maxRecDepth 100000
set_option linter.unusedSimpArgs false
set_option linter.unusedVariables false

/-! ### Bags by their blocks -/
def bkP (K : List (Nat × Nat)) (i : Nat) : Nat := (K.getD i (0, 0)).1
def bkM (K : List (Nat × Nat)) (i : Nat) : Nat := (K.getD i (0, 0)).2
def pad (K : List (Nat × Nat)) (i : Nat) : Option Addr := K[i]?.map fun k => ⟨k.1, 0, none⟩
def arr8 (K : List (Nat × Nat)) : List Value := [.pointer (pad K 0), .pointer (pad K 1), .pointer (pad K 2), .pointer (pad K 3), .pointer (pad K 4), .pointer (pad K 5), .pointer (pad K 6), .pointer (pad K 7)]
def fpK (K : List (Nat × Nat)) : List Nat := K.flatMap fun k => [k.1, k.2]
section
variable {K : List (Nat × Nat)} {B : Bags} {i j p g : Nat} {w w' : World}
theorem bk_eq (h : i < K.length) : (bkP K i, bkM K i) = K[i] := by unfold bkP bkM; rw [List.getD_eq_getElem?_getD, List.getElem?_eq_getElem h]; rfl
theorem bkP_eq (h : i < K.length) : bkP K i = K[i].1 := by rw [← bk_eq h]
theorem bkM_eq (h : i < K.length) : bkM K i = K[i].2 := by rw [← bk_eq h]
theorem pad_eq (h : i < K.length) : pad K i = some ⟨bkP K i, 0, none⟩ := by unfold pad; rw [List.getElem?_eq_getElem h, bkP_eq h]; rfl
theorem arr8_len : (arr8 K).length = 8 := rfl
theorem arr8_get (h8 : i < 8) : (arr8 K)[i]? = some (.pointer (pad K i)) := by
  match i, h8 with
  | 0, _ => rfl
  | 1, _ => rfl
  | 2, _ => rfl
  | 3, _ => rfl
  | 4, _ => rfl
  | 5, _ => rfl
  | 6, _ => rfl
  | 7, _ => rfl
theorem pad_get (pre post : List Value) {o : Nat} (h : i < K.length) (h8 : K.length ≤ 8) (ho : o = pre.length) : (List.toArray (pre ++ (arr8 K ++ post)))[o + i * 1]? = some (.pointer (some ⟨bkP K i, 0, none⟩)) := by
  subst ho
  rw [List.getElem?_toArray, List.getElem?_append_right (by omega), show pre.length + i * 1 - pre.length = i by omega, List.getElem?_append_left (by rw [arr8_len]; omega), arr8_get (by omega), pad_eq h]
theorem arr8_push (hl : K.length = i) (h8 : i < 8) : (arr8 K).set i (.pointer (some ⟨p, 0, none⟩)) = arr8 (K ++ [(p, g)]) := by
  apply List.ext_getElem?
  intro q
  rw [List.getElem?_set]
  by_cases e : i = q
  · subst e
    rw [if_pos rfl, if_pos (by rw [arr8_len]; exact h8), arr8_get h8, pad_eq (by simp; omega)]
    unfold bkP
    rw [List.getD_eq_getElem?_getD, List.getElem?_append_right (by omega), hl]; simp
  · rw [if_neg e]
    by_cases h : q < 8
    · rw [arr8_get h, arr8_get h]
      congr 2
      unfold pad
      congr 1
      by_cases h1 : q < K.length
      · rw [List.getElem?_append_left h1]
      · rw [List.getElem?_eq_none (by omega), List.getElem?_eq_none (by simp; omega)]
    · rw [List.getElem?_eq_none (by rw [arr8_len]; omega), List.getElem?_eq_none (by rw [arr8_len]; omega)]
theorem arr8_store (hl : K.length = i) (h8 : i < 8) : (List.toArray (arr8 K)).setIfInBounds (0 + i * 1) (.pointer (some ⟨p, 0, none⟩)) = List.toArray (arr8 (K ++ [(p, g)])) := by
  rw [List.setIfInBounds_toArray, show 0 + i * 1 = i by omega, arr8_push hl h8]
theorem mem_fpK : g ∈ fpK K ↔ ∃ i, i < K.length ∧ (g = bkP K i ∨ g = bkM K i) := by
  unfold fpK
  rw [List.mem_flatMap]
  constructor
  · rintro ⟨k, hk, hg⟩
    obtain ⟨i, hi, rfl⟩ := List.mem_iff_getElem.1 hk
    rw [← bk_eq hi] at hg
    exact ⟨i, hi, by simpa using hg⟩
  · rintro ⟨i, hi, hg⟩
    exact ⟨K[i], List.getElem_mem hi, by rw [← bk_eq hi]; simpa using hg⟩
/-- Bags of the counts B in the blocks K, apart from one another. -/
structure BgsV (K : List (Nat × Nat)) (B : Bags) (w : World) : Prop where
  len : B.length = K.length
  all : ∀ i, i < K.length → BagV (bkP K i) (bkM K i) (atK B i) w
  nd : ∀ i j, i < K.length → j < K.length → i ≠ j → ∀ g ∈ [bkP K i, bkM K i], ¬ g ∈ [bkP K j, bkM K j]
theorem BgsV.loc (K : List (Nat × Nat)) (B : Bags) : Loc (fpK K) (BgsV K B) := fun w w' hk h => by
  refine ⟨⟨h.len, fun i hi => (BagV.loc _ _ _ w w' (fun g hg => hk g (mem_fpK.2 ⟨i, hi, by simpa using hg⟩)) (h.all i hi)).1, h.nd⟩, fun g hg => ?_⟩
  obtain ⟨i, hi, hg⟩ := mem_fpK.1 hg
  exact (BagV.loc _ _ _ w w (fun _ _ => rfl) (h.all i hi)).2 g (by simpa using hg)
theorem BgsV.ok (h : BgsV K B w) : OKs B := fun i hi => by
  have hi' : i < K.length := by rw [← h.len]; exact hi
  exact (h.all i hi').2.2
theorem BgsV.nil (w : World) : BgsV [] [] w := ⟨rfl, fun i hi => absurd hi (Nat.not_lt_zero i), fun i j hi => absurd hi (Nat.not_lt_zero i)⟩
/-- One of them turned. -/
theorem BgsV.turn (h : BgsV K B w) (hi : i < K.length) {e : Ending} {Zv : Value → Prop} {C : List Ct}
    (ht : TurnsE w (.own [bkP K i, bkM K i] (BagV (bkP K i) (bkM K i) (atK B i))) (fun u x' => Zv u ∧ x' = .own [bkP K i, bkM K i] (BagV (bkP K i) (bkM K i) C)) e w') :
    TurnsE w (.own (fpK K) (BgsV K B)) (fun u x' => Zv u ∧ x' = .own (fpK K) (BgsV K (B.set i C))) e w' := by
  obtain ⟨v, x', h1, h2, h3, h4, h5, h6, rfl⟩ := ht
  refine ⟨v, .own (fpK K) (BgsV K (B.set i C)), h1, h2.mono (fun g hg => mem_fpK.2 ⟨i, hi, by simpa [Ent.fp] using hg⟩), ⟨⟨by rw [List.length_set, h.len], fun j hj => ?_, h.nd⟩, BgsV.loc _ _⟩, fun g hg => .inl hg, rfl, h6, rfl⟩
  rw [atK_set (by rw [h.len]; exact hi)]
  split
  · rename_i e; subst e; exact h3.1
  · rename_i e
    have hb := h.all j hj
    have hlt := (BagV.loc _ _ _ w w (fun _ _ => rfl) hb).2
    exact (BagV.loc _ _ _ w w' (fun g hg => h2.block g (hlt g hg) (h.nd j i hj hi (fun z => e z.symm) g hg)) hb).1
theorem BgsV.push (h : BgsV K B w) (ha : BagV p g [] w) (hd : ∀ q ∈ [p, g], ¬ q ∈ fpK K) : BgsV (K ++ [(p, g)]) (B ++ [[]]) w := by
  have e1 : ∀ j, j < K.length → bkP (K ++ [(p, g)]) j = bkP K j ∧ bkM (K ++ [(p, g)]) j = bkM K j := fun j hj => by
    unfold bkP bkM
    simp only [List.getD_eq_getElem?_getD, List.getElem?_append_left hj]
    exact ⟨trivial, trivial⟩
  have e2 : bkP (K ++ [(p, g)]) K.length = p ∧ bkM (K ++ [(p, g)]) K.length = g := by
    unfold bkP bkM
    simp [List.getD_eq_getElem?_getD]
  have hl := h.len
  refine ⟨by simp [hl], fun j hj => ?_, fun a b ha hb hab q hq hq' => ?_⟩
  · rw [List.length_append, List.length_singleton] at hj
    by_cases hj' : j < K.length
    · rw [(e1 j hj').1, (e1 j hj').2, show atK (B ++ [[]]) j = atK B j by unfold atK; rw [List.getD_eq_getElem?_getD, List.getD_eq_getElem?_getD, List.getElem?_append_left (by omega)]]
      exact h.all j hj'
    · have : j = K.length := by omega
      subst this
      rw [e2.1, e2.2, show atK (B ++ [[]]) K.length = [] by unfold atK; rw [List.getD_eq_getElem?_getD, ← hl]; simp]
      exact ha
  · rw [List.length_append, List.length_singleton] at ha hb
    by_cases ha' : a < K.length
    · rw [(e1 a ha').1, (e1 a ha').2] at hq
      by_cases hb' : b < K.length
      · rw [(e1 b hb').1, (e1 b hb').2] at hq'
        exact h.nd a b ha' hb' hab q hq hq'
      · have : b = K.length := by omega
        subst this
        rw [e2.1, e2.2] at hq'
        exact hd q hq' (mem_fpK.2 ⟨a, ha', by simpa using hq⟩)
    · have : a = K.length := by omega
      subst this
      rw [e2.1, e2.2] at hq
      by_cases hb' : b < K.length
      · rw [(e1 b hb').1, (e1 b hb').2] at hq'
        exact hd q hq (mem_fpK.2 ⟨b, hb', by simpa using hq'⟩)
      · omega
end
theorem fpK_push {K : List (Nat × Nat)} {p g q : Nat} : q ∈ fpK (K ++ [(p, g)]) ↔ q ∈ fpK K ∨ q ∈ [p, g] := by unfold fpK; rw [List.flatMap_append, List.mem_append]; simp
/-- A new bag goes to the others. -/
theorem Mm.pushK {K : List (Nat × Nat)} {n p g : Nat} {R : List Nat} {w w0 : World} {C : List Ent} (M : Mm R w0 w (.own [p, g] (BagV p g []) :: .own (fpK K) (BgsV K (List.replicate n [])) :: C)) :
    Mm R w0 w (.own (fpK (K ++ [(p, g)])) (BgsV (K ++ [(p, g)]) (List.replicate (n + 1) [])) :: C) := by
  have hap := M.apart (i := 0) (j := 1) rfl rfl (by decide)
  refine Mm.recast (X := [.own [p, g] (BagV p g []), .own (fpK K) (BgsV K (List.replicate n []))]) (Y := [_]) M (fun y hy => ?_) (fun y hy q hq => ?_) (List.pairwise_singleton _ _) (fun y hy q hq => ?_)
  · rw [List.mem_singleton.1 hy]
    rw [List.replicate_succ']
    exact ⟨(M.pv (i := 1) rfl).push (M.pv (i := 0) rfl) hap, BgsV.loc _ _⟩
  · rw [List.mem_singleton.1 hy] at hq
    rcases fpK_push.1 (show q ∈ fpK (K ++ [(p, g)]) from hq) with h | h
    · exact ⟨.own (fpK K) (BgsV K (List.replicate n [])), by simp, h⟩
    · exact ⟨.own [p, g] (BagV p g []), by simp, h⟩
  · rw [List.mem_singleton.1 hy] at hq; cases hq
/-- Entries chosen among those that are known. -/
theorem Mm.sel {R : List Nat} {w0 w : World} {B : List Ent} (M : Mm R w0 w B) (is : List Nat) (hn : is.Nodup) {X : List Ent} (h : is.map (fun i => B[i]?) = X.map some) : Mm R w0 w X := by
  have hl : is.length = X.length := by have := congrArg List.length h; simpa using this
  have hat : ∀ k (hk : k < X.length), B[is[k]'(by omega)]? = some X[k] := fun k hk => by
    have := congrArg (fun l => l[k]?) h
    simpa [List.getElem?_eq_getElem hk, List.getElem?_eq_getElem (show k < is.length by omega)] using this
  have hm : ∀ x ∈ X, x ∈ B := fun x hx => by
    obtain ⟨k, hk, rfl⟩ := List.mem_iff_getElem.1 hx
    exact List.mem_of_getElem? (hat k hk)
  refine ⟨M.out, fun x hx => M.has x (hm x hx), fun x hx => M.own x (hm x hx), fun x hx => M.far x (hm x hx), ?_⟩
  rw [List.pairwise_iff_getElem]
  intro a b ha hb hab
  refine M.apart (hat a ha) (hat b hb) fun e => ?_
  exact (List.pairwise_iff_getElem.1 hn) a b (by omega) (by omega) hab e
/-! ### What the function that leads has caught -/
def LdV (bc br : Nat) (u : Value) (K : List (Nat × Nat)) (w : World) : Prop := Blk w bc 56 #[u] ∧ Blk w br 61 (arr8 K).toArray ∧ bc ≠ br
theorem LdV.loc (bc br : Nat) (u : Value) (K : List (Nat × Nat)) : Loc [bc, br] (LdV bc br u K) := fun w w' hk ⟨h1, h2, h3⟩ => by
  have e1 := blk_loc w w' (fun k hk' => hk k (by simp only [List.mem_singleton] at hk'; simp [hk'])) h1
  have e2 := blk_loc w w' (fun k hk' => hk k (by simp only [List.mem_singleton] at hk'; simp [hk'])) h2
  refine ⟨⟨e1.1, e2.1, h3⟩, fun k hk' => ?_⟩
  simp only [List.mem_cons, List.not_mem_nil, or_false] at hk'
  rcases hk' with rfl | rfl
  · exact e1.2 k (by simp)
  · exact e2.2 k (by simp)
theorem Mm.toLd {R : List Nat} {w0 w : World} {C : List Ent} {bc br : Nat} {u : Value} {K : List (Nat × Nat)} (M : Mm R w0 w (.blk br 61 (arr8 K).toArray :: .blk bc 56 #[u] :: C)) : Mm R w0 w (.own [bc, br] (LdV bc br u K) :: C) := by
  have hap := M.apart (i := 0) (j := 1) rfl rfl (by decide)
  refine Mm.recast (X := [.blk br 61 (arr8 K).toArray, .blk bc 56 #[u]]) (Y := [_]) M (fun y hy => ?_) (fun y hy q hq => ?_) (List.pairwise_singleton _ _) (fun y hy q hq => ?_)
  · rw [List.mem_singleton.1 hy]
    exact ⟨⟨M.at (i := 1) rfl, M.at (i := 0) rfl, fun e => hap br (by simp [Ent.fp]) (by simp [Ent.fp, e])⟩, LdV.loc _ _ _ _⟩
  · rw [List.mem_singleton.1 hy] at hq
    simp only [Ent.fp, List.mem_cons, List.not_mem_nil, or_false] at hq
    rcases hq with rfl | rfl
    · exact ⟨.blk q 56 #[u], by simp, by simp [Ent.fp]⟩
    · exact ⟨.blk q 61 (arr8 K).toArray, by simp, by simp [Ent.fp]⟩
  · rw [List.mem_singleton.1 hy] at hq; cases hq
/-! ### A track -/
def tkCells (u : Value) (Kc Kr : List (Nat × Nat)) (bc br : Nat) : Array Value := #[u, .pointer (pad Kc 0), .pointer (pad Kc 1), .pointer (pad Kc 2), .pointer (pad Kc 3), .pointer (pad Kc 4), .pointer (pad Kc 5), .pointer (pad Kc 6), .pointer (pad Kc 7), .pointer (pad Kr 0), .pointer (pad Kr 1), .pointer (pad Kr 2), .pointer (pad Kr 3), .pointer (pad Kr 4), .pointer (pad Kr 5), .pointer (pad Kr 6), .pointer (pad Kr 7), .func (.func 34) #[] #[.pointer (some ⟨bc, 0, none⟩), .pointer (some ⟨br, 0, none⟩)]]
def tkEnts (r : Nat) (u : Value) (ru : List Value) (su : List (List Value)) (L : List (List (List St))) (Kc : List (Nat × Nat)) (B : Bags) (Kr : List (Nat × Nat)) (Rb : Bags) (bc br : Nat) : List Ent :=
  [.blk r 65 (tkCells u Kc Kr bc br), .own (fp3 u ru su L) (Rd3 u ru su L), .own (fpK Kc) (BgsV Kc B), .own (fpK Kr) (BgsV Kr Rb), .own [bc, br] (LdV bc br u Kr)]
theorem tkEnts_base (r : Nat) (u : Value) (ru : List Value) (su : List (List Value)) (L : List (List (List St))) (Kc : List (Nat × Nat)) (B : Bags) (Kr : List (Nat × Nat)) (Rb : Bags) (bc br : Nat) : ∀ x ∈ tkEnts r u ru su L Kc B Kr Rb bc br, x.base = [] := fun x hx => by
  simp only [tkEnts, List.mem_cons, List.not_mem_nil, or_false] at hx
  rcases hx with rfl | rfl | rfl | rfl | rfl <;> rfl
theorem tkEnts_fp (r : Nat) (u : Value) (ru : List Value) (su : List (List Value)) (L : List (List (List St))) (Kc : List (Nat × Nat)) (B B' : Bags) (Kr : List (Nat × Nat)) (Rb Rb' : Bags) (bc br : Nat) : fpE (tkEnts r u ru su L Kc B Kr Rb bc br) = fpE (tkEnts r u ru su L Kc B' Kr Rb' bc br) := rfl
/-- The program's track: its block, its blocks, its closure, its bags. -/
def TrkV (r : Nat) (fp : List Nat) (L : List (List (List St))) (B : Bags) (w : World) : Prop :=
  ∃ u ru su Kc Kr Rb bc br, fp = fpE (tkEnts r u ru su L Kc B Kr Rb bc br) ∧ PkV (tkEnts r u ru su L Kc B Kr Rb bc br) w ∧ L.length = B.length ∧ Sm3 L ∧ Sm64 L ∧ InvR L B Rb
theorem TrkV.loc (r : Nat) (fp : List Nat) (L : List (List (List St))) (B : Bags) : Loc fp (TrkV r fp L B) := fun w w' hk ⟨u, ru, su, Kc, Kr, Rb, bc, br, e, h, h1, h2, h3, h4⟩ => by
  subst e
  have z := PkV.loc _ w w' hk h
  exact ⟨⟨u, ru, su, Kc, Kr, Rb, bc, br, rfl, z.1, h1, h2, h3, h4⟩, z.2⟩
/-- A call's end that has turned a track. -/
theorem Mm.trkTurns {w0 w : World} {r : Nat} {u : Value} {ru : List Value} {su : List (List Value)} {L : List (List (List St))} {Kc Kr : List (Nat × Nat)} {B B' Rb Rb' : Bags} {bc br : Nat} {fp : List Nat} {v : Value} {Z : Value → Ent → Prop} (M : Mm fp w0 w (tkEnts r u ru su L Kc B' Kr Rb' bc br)) (e : fp = fpE (tkEnts r u ru su L Kc B Kr Rb bc br)) (hl : L.length = B'.length) (hs : Sm3 L) (h64 : Sm64 L) (hI : InvR L B' Rb') (hz : Z v (.own fp (TrkV r fp L B'))) :
    TurnsE w0 (.own fp (TrkV r fp L B)) Z (.returned v) w := by
  have e' : fp = fpE (tkEnts r u ru su L Kc B' Kr Rb' bc br) := e
  have hb := tkEnts_base r u ru su L Kc B' Kr Rb' bc br
  have hv : TrkV r fp L B' w := ⟨u, ru, su, Kc, Kr, Rb', bc, br, e', M.pkv hb, hl, hs, h64, hI⟩
  exact M.pkTurns rfl hb (Ψ := TrkV r fp L B') hv (e' ▸ TrkV.loc r fp L B') (e' ▸ hz)
theorem Mm.trkMakes {w0 w : World} {r : Nat} {u : Value} {ru : List Value} {su : List (List Value)} {L : List (List (List St))} {Kc Kr : List (Nat × Nat)} {B Rb : Bags} {bc br : Nat} {v : Value} {Z : Value → Ent → Prop} (M : Mm [] w0 w (tkEnts r u ru su L Kc B Kr Rb bc br)) (hl : L.length = B.length) (hs : Sm3 L) (h64 : Sm64 L) (hI : InvR L B Rb) (hz : ∀ fp, Z v (.own fp (TrkV r fp L B))) : MakesE w0 Z (.returned v) w :=
  M.pkMakes (Ψ := TrkV r (fpE (tkEnts r u ru su L Kc B Kr Rb bc br)) L B) ⟨u, ru, su, Kc, Kr, Rb, bc, br, rfl, M.pkv (tkEnts_base _ _ _ _ _ _ _ _ _ _ _), hl, hs, h64, hI⟩ (TrkV.loc _ _ _ _) (hz _)
/-! ### The loops of what leads -/
section
variable {L : List (List (List St))} {R : Bags} {p : Po} {x i j : Int}
/-- At node i, at the first j places. -/
def leadP (L : List (List (List St))) (R : Bags) (p : Po) (x i j : Int) : Bags := (leadR L R p x i.toNat).set i.toNat (leadC (atK (leadR L R p x i.toNat) i.toNat) ((placesC L p i).take j.toNat) x)
theorem set_self {B : Bags} {k : Nat} : B.set k (atK B k) = B := by
  apply List.ext_getElem (by simp)
  intro a h1 h2
  rw [List.getElem_set]
  split
  · rename_i e; subst e; rw [atK_eq h2]
  · rfl
theorem leadP_zero : leadR L R p x i.toNat = leadP L R p x i 0 := by unfold leadP; simp [leadC, set_self]
theorem leadP_step (h0 : 0 ≤ j) (h : j < ((placesC L p i).length : Int)) (hi : i.toNat < R.length) : (leadP L R p x i j).set i.toNat (addC (atK (leadP L R p x i j) i.toNat) (atS (placesC L p i) j.toNat) x) = leadP L R p x i (j + 1) := by
  unfold leadP
  rw [atK_set (by rw [leadR_len]; exact hi), if_pos rfl, List.set_set, show (j + 1).toNat = j.toNat + 1 by omega, List.take_succ_eq_append_getElem (by omega), leadC_snoc, atS_eq (by omega)]
theorem leadP_end (h0 : 0 ≤ i) (hj : ¬ j < ((placesC L p i).length : Int)) : leadP L R p x i j = leadR L R p x (i + 1).toNat := by
  unfold leadP
  rw [List.take_of_length_le (by omega), show (i + 1).toNat = i.toNat + 1 by omega, leadR, show ((i.toNat : Nat) : Int) = i by omega]
end
end Go.Proofs.Ytboinbmgndomhaa
namespace Go.Proofs.Ytboinbmgndomhaa
open Go.RowKit
set_option maxRecDepth 100000
set_option linter.unusedSimpArgs false
set_option linter.unusedVariables false

section
variable {n : Int} {E : List Ed} {B : Bags} {p q r : Po} {T : List Po} {m : Nat} {L : List (List (List St))}
theorem rep_eq (hL : L.length = m) (h : RepT L B [p]) : B = addTB L (List.replicate m []) p 1 := by
  have h2 := RepT.one hL (h.right p (by simp))
  have hl : (addTB L (List.replicate m []) p 1).length = B.length := by rw [addT_len, List.length_replicate, h.len, hL]
  exact bags_ext hl.symm h.ok h2.ok (fun q hq => by rw [h.of q (by rw [← hl]; exact hq), h2.of q hq])
theorem rep_sm (hL : L.length = m) (h : RepT L B [p]) : SmB B 1 := by
  rw [rep_eq hL h]; exact smB_add (smB_new _ 0) _ _
theorem walk_front (hz : (cloG n E).2 = 0) (h : RepT (cloG n E).1 B [p]) : frontT (cloG n E).1 B p.n = [p.t] := by
  have hl := clo_len hz
  have hr := h.right p (by simp)
  rw [rep_eq hl.1 h, frontT_one hl.1 (by omega) (by omega)]
  obtain ⟨⟨h1, h8, _, hF, _⟩, hc, _⟩ := (clo_cases n E).resolve_left fun z => z.2 hz
  have hF' : Fits ((n.toNat : Nat) : Int) E := by rw [show ((n.toNat : Nat) : Int) = n by omega]; exact hF
  rw [hc] at hr ⊢
  exact places_self hF' (by omega) (by omega) hr
theorem walk_self (hz : (cloG n E).2 = 0) (hq : rightC (cloG n E).1 q = true) : couldC (cloG n E).1 q q = true := by
  obtain ⟨⟨h1, h8, _, hF, _⟩, hc, _⟩ := (clo_cases n E).resolve_left fun z => z.2 hz
  have hF' : Fits ((n.toNat : Nat) : Int) E := by rw [show ((n.toNat : Nat) : Int) = n by omega]; exact hF
  rw [hc] at hq ⊢
  rw [could_self hF' (by omega) (by omega)]; exact hq
theorem walk_edge (hz : (cloG n E).2 = 0) (hp : rightC (cloG n E).1 p = true) {x : Ed} (hx : x ∈ E) (hf : x.f = p.n) (ha : p.t.afterB x.p = true) : rightC (cloG n E).1 ⟨x.t, p.t.after x.p⟩ = true ∧ couldC (cloG n E).1 p ⟨x.t, p.t.after x.p⟩ = true := by
  have hs := walk_self hz hp
  obtain ⟨⟨h1, h8, _, hF, _⟩, hc, _⟩ := (clo_cases n E).resolve_left fun z => z.2 hz
  have hF' : Fits ((n.toNat : Nat) : Int) E := by rw [show ((n.toNat : Nat) : Int) = n by omega]; exact hF
  have hadd : p.t.after x.p = p.t.add x.p := by
    have := after_t ha
    rw [St.eq_iff]; simp only [St.add]; omega
  have hright : (p.t.add x.p).rightB = true := by rw [← hadd]; exact after_right ha
  rw [hc] at hs ⊢
  have := could_edge hF' (by omega) (by omega) hs hx hf.symm hright
  rw [hadd]
  exact ⟨could_right this, this⟩
theorem walk_open (h : RepT L B T) (hr : r ∈ T) (hq : rightC L q = true) (hc : couldC L r q = true) : passedT L B q = false :=
  (passed_of h.ok hq).2 ⟨r, (h.inn hr).1, (h.inn hr).2, hc⟩
theorem walk_step (h : RepT L B [p]) (hq : rightC L q = true) : RepT L (addTB L (addTB L B q 1) p (-1)) [q] := by
  have h1 := h.add hq (by simp)
  exact h1.off (k := 0) (by simp) (by simp)
theorem walk_ok (h : RepT L B [p]) (hq : rightC L q = true) : addTE L B q 1 = 0 ∧ addTE L (addTB L B q 1) p (-1) = 0 := by
  have h1 := h.add hq (by simp)
  exact ⟨h.addOK hq (by simp), h1.offOK (by simp) (by simp)⟩
theorem walk_off (h : RepT L B [p]) : passedT L (addTB L B p (-1)) p = true ∧ ∀ k, (frontT L (addTB L B p (-1)) k).length = 0 := by
  have h1 : RepT L (addTB L B p (-1)) [] := h.off (k := 0) (by simp) (by simp)
  exact ⟨by rw [passed_nil h1.none]; exact h.right p (by simp), fun k => by rw [front_nil h1.none]; rfl⟩
theorem walk_first (hz : (cloG n E).2 = 0) {t : St} (ht : t.rightB = true) : rightC (cloG n E).1 ⟨0, t⟩ = true ∧ RepT (cloG n E).1 (addTB (cloG n E).1 (List.replicate n.toNat []) ⟨0, t⟩ 1) [⟨0, t⟩] ∧ addTE (cloG n E).1 (List.replicate n.toNat []) ⟨0, t⟩ 1 = 0 := by
  have hl := clo_len hz
  have h1 : rightC (cloG n E).1 ⟨0, t⟩ = true := right_same (a := ⟨0, ⟨1, 1⟩⟩) (first_right hz) ⟨Int.le_refl _, by omega⟩ ht
  exact ⟨h1, RepT.one hl.1 h1, (one_of hl.1 h1 (by omega) (by omega)).1⟩
end
end Go.Proofs.Ytboinbmgndomhaa
