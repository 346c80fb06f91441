/- Put together: Gx, Gy, Pn, Hc. -/
import Derived.Test.YtcnmmnhlhenifaaGreatJ3
import Derived.Recover
import Derived.Laws.Bits64
import Derived.Laws.CopyOwn
import Derived.Lib.AppendZerosOnto
import Derived.Test.YtcnmmnhlhenifaaGreatHa
namespace Go.Proofs.YtcnmmnhlhenifaaGreat
open Go.RowKit
set_option maxRecDepth 100000
set_option linter.unusedSimpArgs false
set_option linter.unusedVariables false
def ixI (K : List Int) (x : Int) : Int :=
  match K.findIdx? (fun y => decide (x = y)) with
  | some i => (i : Int)
  | none => -1
theorem ix_hit {K : List Int} {x i : Int} (h0 : 0 ≤ i) (hi : i < (K.length : Int)) (hb : ∀ p, p < i.toNat → ¬ x = atI K p) (h : x = atI K i.toNat) : ixI K x = i := by
  unfold ixI
  have : K.findIdx? (fun y => decide (x = y)) = some i.toNat := by
    rw [List.findIdx?_eq_some_iff_getElem]
    refine ⟨by omega, by rw [← atI_eq (by omega)]; exact decide_eq_true h, fun j hj => ?_⟩
    have := hb j hj
    rw [atI_eq (by omega)] at this
    simpa using this
  rw [this]; simp only; omega
theorem ix_miss {K : List Int} {x i : Int} (hb : ∀ p, p < i.toNat → ¬ x = atI K p) (hi : ¬ i < (K.length : Int)) : ixI K x = -1 := by
  unfold ixI
  have : K.findIdx? (fun y => decide (x = y)) = none := by
    rw [List.findIdx?_eq_none_iff]
    intro y hy
    obtain ⟨j, hj, rfl⟩ := List.mem_iff_getElem.1 hy
    have := hb j (by omega)
    rw [atI_eq hj] at this
    simpa using this
  rw [this]
def memI (K : List Int) (x : Int) : Bool := decide (0 ≤ ixI K x)
theorem memI_iff {K : List Int} {x : Int} : memI K x = true ↔ x ∈ K := by
  unfold memI ixI
  rw [decide_eq_true_iff]
  cases h : K.findIdx? (fun y => decide (x = y)) with
  | none =>
    rw [List.findIdx?_eq_none_iff] at h
    constructor
    · intro h2; simp only at h2; omega
    · intro h2; have := h x h2; simp at this
  | some i =>
    rw [List.findIdx?_eq_some_iff_getElem] at h
    obtain ⟨h1, h2, _⟩ := h
    constructor
    · intro _; rw [of_decide_eq_true h2]; exact List.getElem_mem h1
    · intro _; simp only; omega
def waitE (K : List Int) (k : Int) (x : Ed) : Bool := decide (x.t = k) && decide (x.p = St.zero) && !memI K x.f
def waitsB (E : List Ed) (K : List Int) (k : Int) : Bool := E.any (waitE K k)
theorem waits_hit {E : List Ed} {K : List Int} {k i : Int} (h0 : 0 ≤ i) (hi : i < (E.length : Int)) (h : waitE K k (atG E i.toNat) = true) : waitsB E K k = true :=
  List.any_eq_true.2 ⟨_, atG_mem (by omega), h⟩
theorem waits_miss {E : List Ed} {K : List Int} {k i : Int} (hb : ∀ p, p < i.toNat → waitE K k (atG E p) = false) (hi : ¬ i < (E.length : Int)) : waitsB E K k = false := by
  rw [← Bool.not_eq_true]
  intro h
  obtain ⟨x, hx, h1⟩ := List.any_eq_true.1 h
  obtain ⟨q, hq, rfl⟩ := at_of_memG hx
  rw [hb q (by omega)] at h1; cases h1
theorem wait_t {K : List Int} {k : Int} {x : Ed} (h1 : x.t = k) (h2 : x.p = St.zero) (h3 : memI K x.f = false) : waitE K k x = true := by
  unfold waitE; rw [decide_eq_true h1, decide_eq_true h2, h3]; rfl
theorem wait_f {K : List Int} {k : Int} {x : Ed} (h : ¬ x.t = k ∨ ¬ x.p = St.zero ∨ memI K x.f = true) : waitE K k x = false := by
  unfold waitE
  rcases h with h | h | h <;> simp [h]
def inN (n i : Int) : Bool := decide (0 ≤ i ∧ i < n)
theorem in_no {n i : Int} (h : ¬ (0 ≤ i ∧ i < n)) : inN n i = false := decide_eq_false h
theorem in_yes {n i : Int} (h : 0 ≤ i) : inN n i = decide (i < n) := by unfold inN; rw [decide_eq_decide]; omega
theorem fits_in (n : Int) (x : Ed) : fitsB n x = (inN n x.f && inN n x.t && x.p.rightB) := by
  unfold fitsB inN
  rw [← Bool.decide_and]
  congr 1
  rw [decide_eq_decide]; omega
theorem rounds_mem {E : List Ed} {n : Nat} : ∀ (r : Nat) {q : Nat}, q < n → memI (roundsO E n r).2 (q : Int) = atB (roundsO E n r).1 q
  | 0, q, hq => by
    have : atB (List.replicate n false) q = false := by
      unfold atB atE; rw [List.getD_eq_getElem?_getD, List.getElem?_replicate, if_pos hq]; rfl
    show memI [] (q : Int) = atB (List.replicate n false) q
    rw [this]; rfl
  | r + 1, q, hq => by
    have ih := rounds_mem (E := E) (n := n) r hq
    have hl := rounds_len E n r
    simp only [roundsO, stepO]
    split
    · rename_i k hk
      have hkn := List.mem_range.1 (List.mem_of_find?_eq_some hk)
      rw [atB_set (by omega), Bool.eq_iff_iff, memI_iff, List.mem_append, List.mem_singleton, ← memI_iff, ih]
      by_cases e : k = q
      · subst e; simp
      · rw [if_neg e]
        constructor
        · rintro (h | h)
          · exact h
          · omega
        · exact .inl
    · exact ih
theorem free_of {E : List Ed} {n r k : Nat} (hF : ∀ x ∈ E, fitsB (n : Int) x = true) (hk : k < n) : freeB E (roundsO E n r).1 k = (!memI (roundsO E n r).2 (k : Int) && !waitsB E (roundsO E n r).2 (k : Int)) := by
  unfold freeB waitsB
  rw [rounds_mem r hk]
  congr 1
  rw [List.all_eq_not_any_not]
  congr 1
  rw [Bool.eq_iff_iff, List.any_eq_true, List.any_eq_true]
  have key : ∀ x ∈ E, (!okE (roundsO E n r).1 k x) = waitE (roundsO E n r).2 (k : Int) x := fun x hx => by
    have hf := (fits_iff.1 (hF x hx)).1
    have := rounds_mem (E := E) (n := n) r (q := x.f.toNat) (by omega)
    rw [show ((x.f.toNat : Nat) : Int) = x.f by omega] at this
    unfold okE waitE
    rw [Bool.not_not, this]
  exact ⟨fun ⟨x, hx, h⟩ => ⟨x, hx, by rw [← key x hx]; exact h⟩, fun ⟨x, hx, h⟩ => ⟨x, hx, by rw [key x hx]; exact h⟩⟩
theorem free_no {E : List Ed} {n : Nat} {r k : Int} (hF : ∀ x ∈ E, fitsB (n : Int) x = true) (h0 : 0 ≤ k) (hk : k < (n : Int)) (h : memI (roundsO E n r.toNat).2 k = true ∨ waitsB E (roundsO E n r.toNat).2 k = true) : freeB E (roundsO E n r.toNat).1 k.toNat = false := by
  rw [free_of hF (by omega), show ((k.toNat : Nat) : Int) = k by omega]
  rcases h with h | h <;> rw [h] <;> simp
theorem free_yes {E : List Ed} {n : Nat} {r k : Int} (hF : ∀ x ∈ E, fitsB (n : Int) x = true) (h0 : 0 ≤ k) (hk : k < (n : Int)) (h : memI (roundsO E n r.toNat).2 k = false) (h' : waitsB E (roundsO E n r.toNat).2 k = false) : freeB E (roundsO E n r.toNat).1 k.toNat = true := by
  rw [free_of hF (by omega), show ((k.toNat : Nat) : Int) = k by omega, h, h']; rfl
theorem rounds_stop {E : List Ed} {n r : Nat} (hb : ∀ q, q < n → freeB E (roundsO E n r).1 q = false) : ∀ d, roundsO E n (r + d) = roundsO E n r
  | 0 => rfl
  | d + 1 => by
    have ih := rounds_stop hb d
    show stepO E n (roundsO E n (r + d)) = _
    rw [ih]
    unfold stepO
    have : nextO E (roundsO E n r).1 n = none := List.find?_eq_none.2 fun q hq => by rw [hb q (List.mem_range.1 hq)]; simp
    rw [this]
theorem order_stop {E : List Ed} {n : Nat} {r k : Int} (hr : r ≤ (n : Int)) (hb : ∀ q, q < k.toNat → freeB E (roundsO E n r.toNat).1 q = false) (hk : ¬ k < (n : Int)) : (roundsO E n r.toNat).2 = orderL E n := by
  unfold orderL
  rw [show n = r.toNat + (n - r.toNat) by omega]
  have := rounds_stop (E := E) (n := r.toNat + (n - r.toNat)) (r := r.toNat) (fun q hq => by
    have := hb q (by omega)
    rwa [show r.toNat + (n - r.toNat) = n by omega]) (n - r.toNat)
  rw [this]
theorem order_full {E : List Ed} {n : Nat} {r : Int} (hr : r ≤ (n : Int)) (h : ¬ r < (n : Int)) : (roundsO E n r.toNat).2 = orderL E n := by
  rw [show r.toNat = n by omega]; rfl
theorem rounds_one {E : List Ed} {n : Nat} {r k : Int} (h0 : 0 ≤ r) (hk0 : 0 ≤ k) (hk : k.toNat < n) (h : freeB E (roundsO E n r.toNat).1 k.toNat = true) (hb : ∀ q, q < k.toNat → freeB E (roundsO E n r.toNat).1 q = false) :
    (roundsO E n r.toNat).2 ++ [k] = (roundsO E n (r + 1).toNat).2 := by rw [round_some h0 hk0 hk h hb]
theorem sums_yes {L : List St} {p : St} {i : Int} (h0 : 0 ≤ i) (hi : i < (L.length : Int)) (h : (atS L i.toNat).afterB p = true) : sumsP (L.take i.toNat) [p] ++ [(atS L i.toNat).after p] = sumsP (L.take (i + 1).toNat) [p] := by
  rw [sums_one h0 hi, if_pos h]
theorem sums_no {L : List St} {p : St} {i : Int} (h0 : 0 ≤ i) (hi : i < (L.length : Int)) (h : (atS L i.toNat).afterB p = false) : sumsP (L.take i.toNat) [p] = sumsP (L.take (i + 1).toNat) [p] := by
  rw [sums_one h0 hi, if_neg (by rw [h]; simp), List.append_nil]
theorem sums1_len (L : List St) (p : St) (i : Nat) : (sumsP (L.take i) [p]).length ≤ L.length := by
  have := sums_len (L.take i) [p]
  simp only [List.length_singleton, Nat.mul_one, List.length_take] at this
  omega
theorem sums1_all (L : List St) (p : St) : (sumsP L [p]).length ≤ L.length := by
  have := sums_len L [p]
  simpa using this
def edgeR (row : List (List St)) (x : Ed) : List (List St) := row.set x.t.toNat (minL (atR row x.t.toNat ++ sumsP (atR row x.f.toNat) [x.p]))
def rowE (E : List Ed) (row : List (List St)) (k : Nat) : List (List St) := (E.take k).foldl edgeR row
def rowP (E : List Ed) (n i : Nat) : Nat → List (List St)
  | 0 => (List.replicate n []).set i [St.zero]
  | r + 1 => rowE E (rowP E n i r) E.length
theorem edge_len (row : List (List St)) (x : Ed) : (edgeR row x).length = row.length := List.length_set
theorem rowE_len (E : List Ed) (row : List (List St)) (k : Nat) : (rowE E row k).length = row.length := by
  unfold rowE
  generalize E.take k = l
  induction l generalizing row with
  | nil => rfl
  | cons x r ih => rw [List.foldl_cons, ih, edge_len]
theorem rowP_len (E : List Ed) (n i : Nat) : ∀ r, (rowP E n i r).length = n
  | 0 => by simp [rowP]
  | r + 1 => by simp only [rowP]; rw [rowE_len, rowP_len E n i r]
theorem rowE_step {E : List Ed} {row : List (List St)} {k : Int} (h0 : 0 ≤ k) (hk : k < (E.length : Int)) : rowE E row (k + 1).toNat = edgeR (rowE E row k.toNat) (atG E k.toNat) := by
  unfold rowE
  rw [show (k + 1).toNat = k.toNat + 1 by omega, List.take_add_one, List.foldl_append]
  have e : E[k.toNat]? = some (atG E k.toNat) := by rw [List.getElem?_eq_getElem (by omega), show atG E k.toNat = E[k.toNat] from atE_eq (by omega)]
  rw [e]; rfl
theorem rowP_step {E : List Ed} {n i : Nat} {r k : Int} (h0 : 0 ≤ r) (hk : ¬ k < (E.length : Int)) : rowE E (rowP E n i r.toNat) k.toNat = rowP E n i (r + 1).toNat := by
  rw [show (r + 1).toNat = r.toNat + 1 by omega]
  show _ = rowE E (rowP E n i r.toNat) E.length
  unfold rowE
  rw [List.take_of_length_le (by omega), List.take_of_length_le (Nat.le_refl _)]
structure RowOK (E : List Ed) (n i : Nat) (row : List (List St)) : Prop where
  len : row.length = n
  way : ∀ j, j < n → ∀ t ∈ atR row j, WayS E (i : Int) (j : Int) t
  asc : ∀ j, Asc (atR row j)
  anti : ∀ j, ∀ s ∈ atR row j, ∀ t ∈ atR row j, s.leB t = true → s = t
theorem asc_one (t : St) : Asc [t] := fun i h => absurd h (by simp)
theorem row0_at {n i j : Nat} (hi : i < n) : atR ((List.replicate n ([] : List St)).set i [St.zero]) j = if i = j then [St.zero] else [] := by
  rw [atR_set (by simpa using hi)]
  split
  · rfl
  · unfold atR; rw [List.getD_eq_getElem?_getD, List.getElem?_replicate]; split <;> rfl
theorem row0_ok {E : List Ed} {n i : Nat} (hi : i < n) : RowOK E n i (rowP E n i 0) := by
  refine ⟨by simp [rowP], fun j hj t ht => ?_, fun j => ?_, fun j s hs t ht h => ?_⟩
  · rw [show rowP E n i 0 = (List.replicate n []).set i [St.zero] from rfl, row0_at hi] at ht
    split at ht
    · rename_i e; subst e; rw [List.mem_singleton.1 ht]; exact way_nil _ _
    · cases ht
  · rw [show rowP E n i 0 = (List.replicate n []).set i [St.zero] from rfl, row0_at hi]
    split
    · exact asc_one _
    · exact asc_nil
  · rw [show rowP E n i 0 = (List.replicate n []).set i [St.zero] from rfl, row0_at hi] at hs ht
    split at hs
    · rename_i e
      rw [if_pos e] at ht
      rw [List.mem_singleton.1 hs, List.mem_singleton.1 ht]
    · cases hs
theorem mem_sums2 {A : List St} {p t : St} : t ∈ sumsP A [p] ↔ ∃ s ∈ A, s.afterB p = true ∧ s.after p = t := by
  rw [mem_sums]
  exact ⟨fun ⟨s, hs, q, hq, h1, h2⟩ => ⟨s, hs, by rw [List.mem_singleton.1 hq] at h1 h2; exact ⟨h1, h2⟩⟩, fun ⟨s, hs, h1, h2⟩ => ⟨s, hs, p, List.mem_singleton.2 rfl, h1, h2⟩⟩
theorem edge_at {row : List (List St)} {x : Ed} {j : Nat} (h : x.t.toNat < row.length) : atR (edgeR row x) j = if x.t.toNat = j then minL (atR row x.t.toNat ++ sumsP (atR row x.f.toNat) [x.p]) else atR row j := atR_set h
theorem edge_ok {E : List Ed} {n i : Nat} {row : List (List St)} {x : Ed} (hF : Fits (n : Int) E) (hx : x ∈ E) (h : RowOK E n i row) : RowOK E n i (edgeR row x) := by
  have hf := fit_t hF hx
  have ht : x.t.toNat < row.length := by rw [h.len]; omega
  refine ⟨by rw [edge_len, h.len], fun j hj t hm => ?_, fun j => ?_, fun j => ?_⟩
  · rw [edge_at ht] at hm
    split at hm
    · rename_i e; subst e
      rcases List.mem_append.1 (mem_minL.1 hm).1 with h1 | h1
      · exact h.way _ hj t h1
      · obtain ⟨s, hs, h2, rfl⟩ := mem_sums2.1 h1
        have h3 := h.way x.f.toNat (by omega) s hs
        rw [show ((x.f.toNat : Nat) : Int) = x.f by omega] at h3
        rw [show ((x.t.toNat : Nat) : Int) = x.t by omega]
        exact way_snoc h3 hx h2
    · exact h.way j hj t hm
  · rw [edge_at ht]
    split
    · exact minL_asc _
    · exact h.asc j
  · rw [edge_at ht]
    split
    · exact fun s h1 t h2 h3 => (mem_minL.1 h2).2 s (mem_minL.1 h1).1 h3
    · exact h.anti j
theorem edge_grow {row : List (List St)} {x : Ed} {j : Nat} {t : St} (ht : x.t.toNat < row.length) (h : covB (atR row j) t = true) : covB (atR (edgeR row x) j) t = true := by
  rw [edge_at ht]
  split
  · rename_i e; subst e
    obtain ⟨m, hm, h1⟩ := cov_iff.1 h
    obtain ⟨k, hk, h2⟩ := least_of (List.mem_append.2 (.inl hm) : m ∈ atR row x.t.toNat ++ sumsP (atR row x.f.toNat) [x.p])
    exact cov_iff.2 ⟨k, hk, St.le_trans h2 h1⟩
  · exact h
theorem edge_new {row : List (List St)} {x : Ed} {s : St} (ht : x.t.toNat < row.length) (hs : s ∈ atR row x.f.toNat) (ha : s.afterB x.p = true) : covB (atR (edgeR row x) x.t.toNat) (s.after x.p) = true := by
  rw [edge_at ht, if_pos rfl]
  obtain ⟨k, hk, h2⟩ := least_of (List.mem_append.2 (.inr (mem_sums2.2 ⟨s, hs, ha, rfl⟩)) : s.after x.p ∈ atR row x.t.toNat ++ sumsP (atR row x.f.toNat) [x.p])
  exact cov_iff.2 ⟨k, hk, h2⟩
theorem rowE_succ {E : List Ed} {row : List (List St)} {k : Nat} (hk : k < E.length) : rowE E row (k + 1) = edgeR (rowE E row k) E[k] := by
  unfold rowE
  rw [List.take_add_one, List.foldl_append, List.getElem?_eq_getElem hk]; rfl
theorem rowE_ok {E : List Ed} {n i : Nat} {row : List (List St)} (hF : Fits (n : Int) E) (h : RowOK E n i row) : ∀ k, k ≤ E.length → RowOK E n i (rowE E row k)
  | 0, _ => h
  | k + 1, hk => by rw [rowE_succ (by omega)]; exact edge_ok hF (List.getElem_mem _) (rowE_ok hF h k (by omega))
theorem rowP_ok {E : List Ed} {n i : Nat} (hF : Fits (n : Int) E) (hi : i < n) : ∀ r, RowOK E n i (rowP E n i r)
  | 0 => row0_ok hi
  | r + 1 => rowE_ok hF (rowP_ok hF hi r) _ (Nat.le_refl _)
theorem rowE_grow {E : List Ed} {n i : Nat} {row : List (List St)} (hF : Fits (n : Int) E) (h : RowOK E n i row) {j : Nat} {t : St} {k : Nat} (hc : covB (atR (rowE E row k) j) t = true) : ∀ d, k + d ≤ E.length → covB (atR (rowE E row (k + d)) j) t = true
  | 0, _ => hc
  | d + 1, hd => by
    rw [← Nat.add_assoc, rowE_succ (by omega)]
    have hf := fit_t hF (List.getElem_mem (show k + d < E.length by omega))
    exact edge_grow (by rw [rowE_len, h.len]; omega) (rowE_grow hF h hc d (by omega))
theorem rowP_grow {E : List Ed} {n i : Nat} (hF : Fits (n : Int) E) (hi : i < n) {r j : Nat} {t : St} (h : covB (atR (rowP E n i r) j) t = true) : ∀ d, covB (atR (rowP E n i (r + d)) j) t = true
  | 0 => h
  | d + 1 => by
    have := rowE_grow hF (rowP_ok hF hi (r + d)) (k := 0) (rowP_grow hF hi h d) E.length (by omega)
    rwa [Nat.zero_add] at this
theorem rowP_covers {n : Nat} {E : List Ed} (hf : Fits (n : Int) E) {i : Nat} (hi : i < n) : ∀ (m : Nat) (es : List Ed), es.length = m → (∀ x ∈ es, x ∈ E) → ∀ j : Int, Run (i : Int) es j → (sumW es).rightB = true → covB (atR (rowP E n i m) j.toNat) (sumW es) = true
  | 0, es, hl, he, j, hr, hs => by
    have h0 : es = [] := List.length_eq_zero_iff.1 hl
    subst h0
    have hj : (i : Int) = j := hr
    rw [← hj]
    refine cov_iff.2 ⟨St.zero, ?_, St.le_refl _⟩
    show St.zero ∈ atR ((List.replicate n []).set i [St.zero]) ((i : Int)).toNat
    rw [row0_at hi, if_pos (by omega)]
    exact List.mem_singleton.2 rfl
  | m + 1, es, hl, he, j, hr, hs => by
    rcases List.eq_nil_or_concat es with h0 | ⟨fs, x, h0⟩
    · subst h0; simp at hl
    · rw [List.concat_eq_append] at h0
      subst h0
      obtain ⟨k, h1, h2⟩ := run_app.1 hr
      have h3 : x.f = k := h2.1
      have h4 : x.t = j := h2.2
      have hxE : x ∈ E := he x (by simp)
      have hx := fit_t hf hxE
      have hfs : ∀ y ∈ fs, y ∈ E := fun y hy => he y (by simp [hy])
      have hp := sum_pos hf hfs
      have hs' := right_t hs
      have ha : sumW (fs ++ [x]) = (sumW fs).add x.p := by
        rw [sum_app, St.eq_iff]; simp only [sumW, St.add, St.zero]; omega
      have hs1 := St.right_iff.1 hs
      rw [ha] at hs1
      simp only [St.add] at hs1
      have hr1 : (sumW fs).rightB = true := St.right_iff.2 (by omega)
      have ih := rowP_covers hf hi m fs (by simpa using hl) hfs k h1 hr1
      have hok := rowP_ok hf hi m
      obtain ⟨e, hel, hex⟩ := List.mem_iff_getElem.1 hxE
      have hg := rowE_grow hf hok (k := 0) ih e (by omega)
      rw [Nat.zero_add] at hg
      have hoke := rowE_ok hf hok e (by omega)
      obtain ⟨q, hq, hle⟩ := cov_iff.1 hg
      have haft : (sumW fs).afterB x.p = true := after_iff.2 (by have := right_t hr1; omega)
      have hqr : q.rightB = true := way_right (hoke.way k.toNat (by omega) q hq)
      have hm := after_mono hle (St.le_refl x.p) hqr hx.2.2.2.2.2 haft
      have hnew := edge_new (row := rowE E (rowP E n i m) e) (x := x) (s := q) (by rw [rowE_len, rowP_len]; omega) (by rw [h3]; exact hq) hm.1
      rw [← hex, ← rowE_succ hel] at hnew
      have hfin := rowE_grow hf hok hnew (E.length - (e + 1)) (by omega)
      rw [show e + 1 + (E.length - (e + 1)) = E.length by omega, hex] at hfin
      obtain ⟨z, hz, hzl⟩ := cov_iff.1 hfin
      rw [← h4]
      refine cov_iff.2 ⟨z, hz, St.le_trans hzl (St.le_trans hm.2 ?_)⟩
      have := after_t haft
      rw [ha, St.le_iff]; simp only [St.add]; omega
theorem rowP_clo {n : Nat} {E : List Ed} (hF : Fits (n : Int) E) {i : Nat} (hi : i < n) : rowP E n i (n - 1) = rowM E n i n := by
  have hok := rowP_ok hF hi (n - 1)
  refine atR_ext (by rw [rowP_len, row_len]) fun j hj => ?_
  rw [rowP_len] at hj
  refine clo_uniq hF hi hj (hok.asc j) (hok.way j hj) (fun t ht => ?_) (hok.anti j)
  obtain ⟨es, h1, h2, rfl, h4⟩ := ht
  obtain ⟨fs, f1, f2, f3, f4⟩ := run_short hF (by omega) es.length es (Nat.le_refl _) h1 h2
  have hp := sum_pos hF f2
  have hl := le_t f4
  have hr := right_t h4
  have hfr : (sumW fs).rightB = true := St.right_iff.2 (by omega)
  have h5 := rowP_covers hF hi fs.length fs rfl f2 _ f3 hfr
  rw [show ((j : Int)).toNat = j by omega] at h5
  have h6 := rowP_grow hF hi h5 (n - 1 - fs.length)
  rw [show fs.length + (n - 1 - fs.length) = n - 1 by omega] at h6
  obtain ⟨q, hq, hle⟩ := cov_iff.1 h6
  exact cov_iff.2 ⟨q, hq, St.le_trans hle f4⟩
theorem ok_small {E : List Ed} {n i : Nat} {row : List (List St)} (h : RowOK E n i row) (j : Nat) : (atR row j).length ≤ 1000001 := by
  rcases Nat.lt_or_ge j n with hj | hj
  · have hr : ∀ t ∈ atR row j, t.rightB = true := fun t ht => way_right (h.way j hj t ht)
    exact asc_small 1000001 _ (h.asc j) (h.anti j) hr (fun t ht => by have := right_t (hr t ht); omega)
  · rw [atR_out (by rw [h.len]; exact hj)]; simp
def overB (L : List (List St)) : Bool := L.any fun l => decide (64 < l.length)
def ixO (L : List (List St)) : Int :=
  match L.findIdx? (fun l => decide (64 < l.length)) with
  | some i => (i : Int)
  | none => -1
theorem atR_eq {L : List (List St)} {i : Nat} (h : i < L.length) : atR L i = L[i] := by unfold atR; rw [List.getD_eq_getElem?_getD, List.getElem?_eq_getElem h]; rfl
theorem ixO_hit {L : List (List St)} {i : Int} (h0 : 0 ≤ i) (hi : i < (L.length : Int)) (hb : ∀ p, p < i.toNat → ¬ 64 < (atR L p).length) (h : 64 < (atR L i.toNat).length) : ixO L = i := by
  unfold ixO
  have : L.findIdx? (fun l => decide (64 < l.length)) = some i.toNat := by
    rw [List.findIdx?_eq_some_iff_getElem]
    refine ⟨by omega, by rw [← atR_eq (by omega)]; exact decide_eq_true h, fun j hj => ?_⟩
    have := hb j hj
    rw [atR_eq (by omega)] at this
    simpa using this
  rw [this]; simp only; omega
theorem ixO_miss {L : List (List St)} {i : Int} (hb : ∀ p, p < i.toNat → ¬ 64 < (atR L p).length) (hi : ¬ i < (L.length : Int)) : ixO L = -1 := by
  unfold ixO
  have : L.findIdx? (fun l => decide (64 < l.length)) = none := by
    rw [List.findIdx?_eq_none_iff]
    intro l hl
    obtain ⟨j, hj, rfl⟩ := List.mem_iff_getElem.1 hl
    have := hb j (by omega)
    rw [atR_eq hj] at this
    simpa using this
  rw [this]
theorem over_ix (L : List (List St)) : decide (0 ≤ ixO L) = overB L := by
  unfold ixO overB
  cases h : L.findIdx? (fun l => decide (64 < l.length)) with
  | none =>
    rw [List.findIdx?_eq_none_iff] at h
    have : L.any (fun l => decide (64 < l.length)) = false := by rw [List.any_eq_false]; intro l hl; rw [h l hl]; simp
    rw [this]; rfl
  | some i =>
    rw [List.findIdx?_eq_some_iff_getElem] at h
    obtain ⟨h1, h2, _⟩ := h
    have : L.any (fun l => decide (64 < l.length)) = true := List.any_eq_true.2 ⟨_, List.getElem_mem h1, h2⟩
    rw [this]; simp only; rw [decide_eq_true (by omega)]
theorem over_no {L : List (List St)} (h : overB L = false) (j : Nat) : (atR L j).length ≤ 64 := by
  rcases Nat.lt_or_ge j L.length with hj | hj
  · rw [atR_eq hj]
    have := List.any_eq_false.1 h _ (List.getElem_mem hj)
    simp only [decide_eq_true_eq] at this
    omega
  · rw [atR_out hj]; simp
theorem over_yes {L : List (List St)} (h : overB L = true) : ∃ j, j < L.length ∧ 64 < (atR L j).length := by
  obtain ⟨l, hl, h1⟩ := List.any_eq_true.1 h
  obtain ⟨j, hj, rfl⟩ := List.mem_iff_getElem.1 hl
  exact ⟨j, hj, by rw [atR_eq hj]; exact of_decide_eq_true h1⟩
end Go.Proofs.YtcnmmnhlhenifaaGreat
namespace Go.Proofs.YtcnmmnhlhenifaaGreat
open Go.RowKit
set_option maxRecDepth 100000
set_option linter.unusedSimpArgs false
set_option linter.unusedVariables false
theorem evfn {a : Act} {f : FuncId} : a.eval (.func f) = .func (.func f) #[] #[] := rfl
abbrev winV (g o n : Nat) : Value := .slice (some ⟨g, o, none⟩) n n
section
variable {P : Program} {ops rest : List Oper} {o : Oper} {a : Act} {n d : Nat} {L : List (Nat × Value)} {Q : Exit → Act → World → Prop} {R : List Nat} {w w0 : World} {B : List Ent} {v : Value} {x y lo hi mx : Operand} {t e ty : TypeId} {i g k s N c m : Nat} {k1 k2 k3 : IntKind} {i1 i2 i3 : Int} {A V C X : List Value}
theorem pu_slice3 (ho : o.op = .slice t x (some lo) (some hi) (some mx)) (hx : a.eval x = .slice (some ⟨g, 0, none⟩) N c) (hlo : a.eval lo = .int k1 i1) (hhi : a.eval hi = .int k2 i2) (hmx : a.eval mx = .int k3 i3) (hT : SlTy P t e 1)
    (h0 : 0 ≤ i1) (e1 : i1.toNat = s) (e2 : i2.toNat = s + m) (e3 : i3 = i2) (hm : 0 < m) (hc : s + m ≤ c) : Pure P o a (winV g s m) := fun w' => by
  obtain ⟨hu, hi'⟩ := hT
  subst e3
  cases hq : P.info? e with
  | none => simp [hq] at hi'
  | some inf =>
    have hs : inf.size = 1 := by simpa [hq] using hi'
    simp only [execOp, ho, hx, Option.map_some, hlo, hhi, hmx]
    have e9 : (Instr.sliceBounds true N c (some (.int k1 i1)) (some (.int k2 i3)) (some (.int k3 i3))).run P w' = .ok (i1.toNat, i3.toNat, i3.toNat) w' := by
      simp only [Instr.sliceBounds, Sem.run_bind, Sem.run_pure, Result.andThen_ok, run_sliceBound _ _ _ _ _ (show 0 ≤ i3 by omega) (show i3 ≤ (c : Int) by omega)]
      rw [run_sliceBound _ _ _ _ _ (show 0 ≤ i3 by omega) (show i3 ≤ ((i3.toNat : Nat) : Int) by omega)]
      simp only [Result.andThen_ok]
      rw [run_sliceBound _ _ _ _ _ h0 (show i1 ≤ ((i3.toNat : Nat) : Int) by omega)]
      rfl
    simp [Instr.sliceAt, Instr.slice, run_underlying hu, e9, sizeOf, typeInfo, hq, hs, addr_add]
    exact ⟨by rw [if_neg (by omega), e1], by omega⟩
theorem win_rdv (h : Blk w g t (List.toArray (cV X))) (hX : (X.drop s).take n = V) (hV : V.length = n) (hn : n ≤ 1000000000) : RdV w 1 (winV g s n) n (cV V) :=
  ⟨by show V.length = n * 1; omega, _, _, rfl, Nat.le_refl _, by unfold maxLen; omega, fun _ => ⟨g, s, rfl, h.lt, fun j u hj => by
    rw [h.cell, List.getElem?_toArray]
    have hj' : V[j]? = some u := hj
    rw [← hX, List.getElem?_take, List.getElem?_drop] at hj'
    split at hj'
    · exact hj'
    · cases hj'⟩⟩
theorem mid_win (hA : A.length = s) (hV : V.length = n) : ((A ++ V ++ C).drop s).take n = V := by
  rw [List.append_assoc, ← hA, List.drop_left, ← hV, List.take_left]
theorem mid_set {j : Nat} (hA : A.length = s) (hj : j < V.length) : (A ++ V ++ C).set (s + j) v = A ++ V.set j v ++ C := by
  rw [List.append_assoc, List.set_append_right _ _ (by omega), show s + j - A.length = j by omega, List.set_append_left _ _ (by omega), List.append_assoc]
theorem sq_stW {j : Nat} (F : Fr a n L) (M : Mm R w0 w B) (hw : Region.wanted o (yielded ops.toArray a.tmps) = true) (ho : o.op = .store ty x y) (hx : a.eval x = .pointer (some ⟨g, s + j * 1, none⟩)) (hy : a.eval y = v)
    (hi : B[i]? = some (.blk g t (List.toArray (cV (A ++ V ++ C))))) (hA : A.length = s) (hj : j < V.length) (hT : (P.info? ty).map (·.size) = some 1) (h1 : v.oneCell' = true) (hv : v.cells = #[v]) (hd : o.dst = none)
    (h : ∀ w', Mm R w0 w' (B.set i (.blk g t (List.toArray (cV (A ++ V.set j v ++ C))))) → wpList P ops.toArray Q rest a w') : wpList P ops.toArray Q (o :: rest) a w :=
  sq_st1 (j := s + j) F M hw ho (by rw [hx]; simp) hy hi (by simp only [cV, List.length_append]; omega) hT h1 hv hd (fun w' M' => h w' (by
    have e1 : (cV (A ++ V ++ C)).set (s + j) v = cV (A ++ V.set j v ++ C) := mid_set hA hj
    rwa [e1] at M'))
end
theorem fpR_rep (n : Nat) : fpR (List.replicate n nilV) = [] := by
  unfold fpR
  rw [List.flatMap_eq_nil_iff]
  intro v hv
  rw [(List.mem_replicate.1 hv).2]; rfl
structure TabV (t ty : TypeId) (g : Nat) (A V C : List Value) (L : List (List St)) (w : World) : Prop where
  blk : Blk w g t (List.toArray (cV (A ++ V ++ C)))
  rows : RowsV ty V L w
  ne : ¬ g ∈ fpR V
theorem TabV.loc (t ty : TypeId) (g : Nat) (A V C : List Value) (L : List (List St)) : Loc (g :: fpR V) (TabV t ty g A V C L) := fun w w' hk h => by
  have h2 := RowsV.loc ty V L w w' (fun q hq => hk q (List.mem_cons_of_mem _ hq)) h.rows
  refine ⟨⟨(hk g (List.mem_cons_self ..)).trans h.blk, h2.1, h.ne⟩, fun q hq => ?_⟩
  rcases List.mem_cons.1 hq with rfl | hq
  · exact h.blk.lt
  · exact h2.2 q hq
theorem TabV.loc0 (t ty : TypeId) (g n : Nat) (A C : List Value) (L : List (List St)) : Loc [g] (TabV t ty g A (List.replicate n nilV) C L) := by
  have := TabV.loc t ty g A (List.replicate n nilV) C L
  rwa [fpR_rep] at this
section
variable {R : List Nat} {w0 w : World} {B : List Ent} {t ty t2 : TypeId} {g g2 n m s i k : Nat} {A V C X : List Value} {K : List (List St)} {vss : List (List Value)} {L : List (List (List St))}
theorem TabV.rd (h : TabV t ty g A V C K w) (hA : A.length = s) (hV : V.length = n) (hn : n ≤ 1000000000) : RdV w 1 (winV g s n) n (cV V) := win_rdv h.blk (mid_win hA hV) hV hn
theorem Mm.tabIn (M : Mm R w0 w B) (h : B[k]? = some (.blk g t (List.toArray (cV X)))) (ty : TypeId) (hX : X = A ++ List.replicate n nilV ++ C) : Mm R w0 w (B.set k (.own [g] (TabV t ty g A (List.replicate n nilV) C (List.replicate n [])))) := by
  subst hX
  exact M.swap h (x' := .own [g] (TabV t ty g A (List.replicate n nilV) C (List.replicate n []))) (Out.refl _ _) ⟨⟨M.at h, rows_rep ty n w, by rw [fpR_rep]; simp⟩, TabV.loc0 _ _ _ _ _ _ _⟩ (fun q hq => .inl (by simpa [Ent.fp] using hq)) (fun q hq => by cases hq)
theorem tab_post {Φ : World → Prop} (M : Mm [g] w0 w B) (hb : B[k]? = some (.blk g t (List.toArray (cV (A ++ V ++ C))))) (hr : B[i]? = some (.own (fpR V) (RowsV ty V K))) (hne : k ≠ i) (hV : V.length = n) :
    TurnsE w0 (.own [g] Φ) (fun u x' => u = .tuple #[] ∧ ∃ V', V'.length = n ∧ x' = .own (g :: fpR V') (TabV t ty g A V' C K)) (.returned (.tuple #[])) w := by
  refine ⟨_, .own (g :: fpR V) (TabV t ty g A V C K), rfl, M.out, ⟨⟨M.at hb, M.pv hr, fun hg => M.apart hb hr hne g (by simp [Ent.fp]) hg⟩, TabV.loc _ _ _ _ _ _ _⟩, fun q hq => ?_, rfl, rfl, V, hV, rfl⟩
  rcases List.mem_cons.1 hq with rfl | hq
  · exact .inl (by simp [Ent.fp])
  · rcases M.own _ (List.mem_of_getElem? hr) q hq with h | h
    · exact .inr h
    · exact .inl h
structure DoneV (vss : List (List Value)) (L : List (List (List St))) (w : World) : Prop where
  len : vss.length = L.length
  lv : ∀ i, i < L.length → (atW vss i).length = (at3 L i).length
  one : ∀ i j, i < L.length → j < (at3 L i).length → RdS w (atV (atW vss i) j) (atR (at3 L i) j)
def fpD (vss : List (List Value)) (L : List (List (List St))) : List Nat :=
  (List.range L.length).flatMap fun i => (List.range (at3 L i).length).flatMap fun j => fpN (atV (atW vss i) j) (atR (at3 L i) j).length
theorem mem_fpD {q : Nat} : q ∈ fpD vss L ↔ ∃ i, i < L.length ∧ ∃ j, j < (at3 L i).length ∧ q ∈ fpN (atV (atW vss i) j) (atR (at3 L i) j).length := by
  unfold fpD
  simp only [List.mem_flatMap, List.mem_range]
theorem DoneV.loc (vss : List (List Value)) (L : List (List (List St))) : Loc (fpD vss L) (DoneV vss L) := fun w w' hk h => by
  refine ⟨⟨h.len, h.lv, fun i j hi hj => ?_⟩, fun q hq => ?_⟩
  · exact (RdV.keep (h.one i j hi hj) fun q hq => hk q (mem_fpD.2 ⟨i, hi, j, hj, hq⟩)).1
  · obtain ⟨i, hi, j, hj, h1⟩ := mem_fpD.1 hq
    exact (RdV.keep (w' := w) (h.one i j hi hj) fun _ _ => rfl).2 q h1
theorem done_push (h : DoneV vss L w) (hl : V.length = K.length) (ho : ∀ j, j < K.length → RdS w (atV V j) (atR K j)) : DoneV (vss ++ [V]) (L ++ [K]) w := by
  have hs := h.len
  refine ⟨by simp [hs], fun i hi => ?_, fun i j hi hj => ?_⟩
  · simp only [List.length_append, List.length_singleton] at hi
    rcases Nat.lt_or_ge i L.length with h1 | h1
    · rw [atW_app (by omega), at3_app h1]; exact h.lv i h1
    · rw [atW_last (by omega), at3_last (by omega)]; exact hl
  · simp only [List.length_append, List.length_singleton] at hi
    rcases Nat.lt_or_ge i L.length with h1 | h1
    · rw [at3_app h1] at hj ⊢
      rw [atW_app (by omega)]; exact h.one i j h1 hj
    · rw [at3_last (by omega)] at hj ⊢
      rw [atW_last (by omega)]; exact ho j hj
theorem fpD_push (hs : vss.length = L.length) {q : Nat} (hq : q ∈ fpD (vss ++ [V]) (L ++ [K])) : q ∈ fpD vss L ∨ ∃ j, j < K.length ∧ q ∈ fpN (atV V j) (atR K j).length := by
  obtain ⟨i, hi, j, hj, h⟩ := mem_fpD.1 hq
  simp only [List.length_append, List.length_singleton] at hi
  rcases Nat.lt_or_ge i L.length with h1 | h1
  · rw [at3_app h1] at hj h
    rw [atW_app (by omega)] at h
    exact .inl (mem_fpD.2 ⟨i, h1, j, hj, h⟩)
  · rw [at3_last (by omega)] at hj h
    rw [atW_last (by omega)] at h
    exact .inr ⟨j, hj, h⟩
theorem Mm.tabOut (M : Mm R w0 w (.own (g :: fpR V) (TabV t ty g A V C K) :: .own (fpD vss L) (DoneV vss L) :: B)) :
    Mm R w0 w (.blk g t (List.toArray (cV (A ++ V ++ C))) :: .own (fpD (vss ++ [V]) (L ++ [K])) (DoneV (vss ++ [V]) (L ++ [K])) :: B) := by
  have h1 : TabV t ty g A V C K w := M.pv (i := 0) rfl
  have h2 : DoneV vss L w := M.pv (i := 1) rfl
  have hl := h1.rows.len
  have hp : DoneV (vss ++ [V]) (L ++ [K]) w := done_push h2 hl (fun j hj => h1.rows.rd (by omega))
  have hfp : ∀ q ∈ fpD (vss ++ [V]) (L ++ [K]), q ∈ fpD vss L ∨ q ∈ fpR V := fun q hq => by
    rcases fpD_push h2.len hq with h | ⟨j, hj, h⟩
    · exact .inl h
    · exact .inr (mem_fpR.2 ⟨j, by omega, own_fpN (h1.rows.row j (by omega)) h⟩)
  have hnd := List.pairwise_cons.1 M.nd
  refine M.recast (X := [.own (g :: fpR V) (TabV t ty g A V C K), .own (fpD vss L) (DoneV vss L)]) (Y := [.blk g t (List.toArray (cV (A ++ V ++ C))), .own (fpD (vss ++ [V]) (L ++ [K])) (DoneV (vss ++ [V]) (L ++ [K]))]) (fun y hy => ?_) (fun y hy q hq => ?_) ?_ (fun y hy q hq => ?_)
  · rcases List.mem_cons.1 hy with rfl | hy
    · exact h1.blk
    · rw [List.mem_singleton.1 hy]; exact ⟨hp, DoneV.loc _ _⟩
  · rcases List.mem_cons.1 hy with rfl | hy
    · exact ⟨_, List.mem_cons_self .., by simp only [Ent.fp, List.mem_singleton] at hq; simp [Ent.fp, hq]⟩
    · rw [List.mem_singleton.1 hy] at hq
      rcases hfp q hq with h | h
      · exact ⟨.own (fpD vss L) (DoneV vss L), by simp, h⟩
      · exact ⟨.own (g :: fpR V) (TabV t ty g A V C K), by simp, by simp [Ent.fp, h]⟩
  · refine List.pairwise_cons.2 ⟨fun y hy q hq hq2 => ?_, List.pairwise_singleton _ _⟩
    rw [List.mem_singleton.1 hy] at hq2
    simp only [Ent.fp, List.mem_singleton] at hq
    subst hq
    rcases hfp q hq2 with h | h
    · exact hnd.1 (.own (fpD vss L) (DoneV vss L)) (by simp) q (by simp [Ent.fp]) h
    · exact h1.ne h
  · rcases List.mem_cons.1 hy with rfl | hy
    · cases hq
    · rw [List.mem_singleton.1 hy] at hq; cases hq
theorem done_nil (w : World) : DoneV [] [] w := ⟨rfl, fun i h => absurd h (Nat.not_lt_zero i), fun i _ h => absurd h (Nat.not_lt_zero i)⟩
theorem Mm.done0 {x y z : Ent} (M : Mm R w0 w (x :: y :: z :: B)) : Mm R w0 w (z :: .own (fpD [] []) (DoneV [] []) :: x :: B) := by
  have M1 := M.sub (B' := x :: z :: B) (.cons_cons _ (.cons _ (List.Sublist.refl _)))
  have M2 := M1.addOwn (Below.refl _ _) (done_nil w) (DoneV.loc _ _) (fun q hq => by cases hq)
  exact M2.perm ((List.Perm.cons _ (List.Perm.swap _ _ _)).trans (List.Perm.swap _ _ _))
def rsF (g n k : Nat) : List Value := (List.range n).map fun q => if q < k then winV g (q * n) n else nilV
theorem rsF_len (g n k : Nat) : (rsF g n k).length = n := by simp [rsF]
theorem rsF_at {q : Nat} (hk : q < k) (hn : q < n) : atV (rsF g n k) q = winV g (q * n) n := by
  rw [atV_eq (by rw [rsF_len]; exact hn)]; simp [rsF, hk]
theorem rsF_zero (g n : Nat) : List.replicate n nilV = rsF g n (0 : Int).toNat := by
  apply List.ext_getElem
  · simp [rsF_len]
  · intro j h1 h2; simp [rsF]
theorem rsF_set {i : Int} (h0 : 0 ≤ i) (hi : i.toNat < n) : (rsF g n i.toNat).set i.toNat (winV g (i.toNat * n) n) = rsF g n (i + 1).toNat := by
  apply List.ext_getElem
  · simp [rsF_len]
  · intro j h1 h2
    rw [List.getElem_set]
    split
    · rename_i e; subst e; simp only [rsF, List.getElem_map, List.getElem_range]; rw [if_pos (by omega)]
    · simp only [rsF, List.getElem_map, List.getElem_range]
      by_cases e : j < i.toNat
      · rw [if_pos e, if_pos (by omega)]
      · rw [if_neg e, if_neg (by omega)]
theorem flat_len : ∀ {vss : List (List Value)}, (∀ u ∈ vss, u.length = n) → vss.flatten.length = vss.length * n
  | [], _ => by simp
  | u :: r, h => by
    rw [List.flatten_cons, List.length_append, flat_len (fun x hx => h x (by simp [hx])), h u (by simp), List.length_cons, Nat.succ_mul]; omega
theorem flat_at : ∀ {vss : List (List Value)} {i : Nat}, (∀ u ∈ vss, u.length = n) → i < vss.length → (vss.flatten.drop (i * n)).take n = atW vss i
  | u :: r, 0, h, _ => by
    rw [List.flatten_cons, Nat.zero_mul, List.drop_zero, ← h u (by simp), List.take_left]; rfl
  | u :: r, i + 1, h, hi => by
    have e : u.length = n := h u (by simp)
    rw [List.flatten_cons, show (i + 1) * n = u.length + i * n by rw [Nat.succ_mul]; omega, List.drop_append, List.drop_of_length_le (by omega), List.nil_append, show u.length + i * n - u.length = i * n by omega]
    exact flat_at (fun x hx => h x (by simp [hx])) (by simpa using hi)
theorem rep_split {i : Nat} (hi : i < n) : List.replicate ((n - i) * n) nilV = List.replicate n nilV ++ List.replicate ((n - (i + 1)) * n) nilV := by
  rw [List.replicate_append_replicate, show n - i = (n - (i + 1)) + 1 by omega, Nat.succ_mul, Nat.add_comm]
theorem rep_splitI {i : Int} (h0 : 0 ≤ i) (hi : i.toNat < n) : List.replicate ((n - i.toNat) * n) nilV = List.replicate n nilV ++ List.replicate ((n - (i + 1).toNat) * n) nilV := by
  rw [show (i + 1).toNat = i.toNat + 1 by omega]; exact rep_split hi
theorem flat_push (vss : List (List Value)) (V C : List Value) : vss.flatten ++ V ++ C = (vss ++ [V]).flatten ++ C := by simp
theorem all_push (h : ∀ u ∈ vss, u.length = n) (hV : V.length = n) : ∀ u ∈ vss ++ [V], u.length = n := fun u hu => by
  rcases List.mem_append.1 hu with h1 | h1
  · exact h u h1
  · rw [List.mem_singleton.1 h1]; exact hV
theorem arg_apart {v : Value} {xs fp : List _} {Φ : World → Prop} (M : Mm [] w0 w B) (hi : B[i]? = some (.arg m v n xs)) (hk : B[k]? = some (.own fp Φ)) (hg : g ∈ fp) (hn : 0 < n) : ¬ gof v ∈ [g] := fun h => by
  have h1 := M.far _ (List.mem_of_getElem? hi) (gof v) (by rw [show (Ent.arg m v n xs).base = [gof v] from if_neg (by omega)]; simp)
  rcases M.own _ (List.mem_of_getElem? hk) g hg with h2 | h2
  · rw [List.mem_singleton.1 h] at h1; omega
  · cases h2
theorem mul_toNat {a b : Int} (ha : 0 ≤ a) (hb : 0 ≤ b) : (a * b).toNat = a.toNat * b.toNat := by
  obtain ⟨x, rfl⟩ := Int.eq_ofNat_of_zero_le ha
  obtain ⟨y, rfl⟩ := Int.eq_ofNat_of_zero_le hb
  rw [← Int.natCast_mul, Int.toNat_natCast, Int.toNat_natCast, Int.toNat_natCast]
theorem mul_small {a b : Int} (ha : 0 ≤ a) (ha8 : a ≤ 8) (hb : 0 ≤ b) (hb8 : b ≤ 8) : 0 ≤ a * b ∧ a * b ≤ 64 := by
  refine ⟨Int.mul_nonneg ha hb, ?_⟩
  have := Int.mul_le_mul ha8 hb8 hb (by omega : (0 : Int) ≤ 8)
  omega
theorem rd3_tab (M : Mm R w0 w (.blk g t (List.toArray (cV (vss.flatten ++ C))) :: .own (fpD vss L) (DoneV vss L) :: .blk g2 t2 (List.toArray (cV (rsF g n n))) :: B)) (hu : ∀ u ∈ vss, u.length = n) (hL : L.length = n) (hn : n ≤ 1000) :
    Rd3 (.slice (some ⟨g2, 0, none⟩) n n) (rsF g n n) vss L w ∧ ∀ q ∈ fp3 (.slice (some ⟨g2, 0, none⟩) n n) (rsF g n n) vss L, w0.heap.size ≤ q ∨ q ∈ R := by
  have h1 : Blk w g t (List.toArray (cV (vss.flatten ++ C))) := M.at (i := 0) rfl
  have h2 : DoneV vss L w := M.pv (i := 1) rfl
  have h3 : Blk w g2 t2 (List.toArray (cV (rsF g n n))) := M.at (i := 2) rfl
  have hv := h2.len
  have hrow : ∀ i, i < L.length → (at3 L i).length = n := fun i hi => by
    rw [← h2.lv i hi]
    have e : atW vss i = vss[i]'(by omega) := by unfold atW; rw [List.getD_eq_getElem?_getD, List.getElem?_eq_getElem (by omega)]; rfl
    rw [e]; exact hu _ (List.getElem_mem _)
  have htop : RdV w 1 (.slice (some ⟨g2, 0, none⟩) n n) L.length (cV (rsF g n n)) := by
    rw [hL]
    exact win_rdv (s := 0) h3 (by rw [List.drop_zero, List.take_of_length_le (by rw [rsF_len]; omega)]) (rsF_len _ _ _) (by omega)
  refine ⟨⟨htop, ⟨by rw [rsF_len, hL], hv, h2.lv, fun i hi => ?_, h2.one⟩⟩, fun q hq => ?_⟩
  · rw [rsF_at (by omega) (by omega), hrow i hi]
    refine win_rdv h1 ?_ (by rw [h2.lv i hi, hrow i hi]) (by omega)
    have hfl := flat_len hu
    have h5 : i * n + n ≤ vss.flatten.length := by
      rw [hfl, ← Nat.succ_mul]; exact Nat.mul_le_mul_right _ (by omega)
    rw [List.drop_append, List.take_append_of_le_length (by rw [List.length_drop]; omega)]
    exact flat_at hu (by omega)
  · have hown := M.own
    rcases List.mem_append.1 hq with h | h
    · exact hown (.blk g2 t2 (List.toArray (cV (rsF g n n)))) (by simp) q (by
        have := (mem_fpN.1 h).2
        simp only [Ent.fp, List.mem_singleton]; exact this)
    · obtain ⟨i, hi, h4 | ⟨j, hj, h4⟩⟩ := mem_fpI.1 h
      · rw [rsF_at (by omega) (by omega)] at h4
        exact hown (.blk g t (List.toArray (cV (vss.flatten ++ C)))) (by simp) q (by
          have := (mem_fpN.1 h4).2
          simp only [Ent.fp, List.mem_singleton]; exact this)
      · exact hown (.own (fpD vss L) (DoneV vss L)) (by simp) q (mem_fpD.2 ⟨i, hi, j, hj, h4⟩)
theorem rows_other {vs : List Value} {L : List (List St)} {j q : Nat} (h : RowsV ty (vs.set j nilV) (L.set j []) w) (hq : q < vs.length) (hl : vs.length = L.length) (hj : j < vs.length) (hne : ¬ j = q) : RdS w (atV vs q) (atR L q) := by
  have := h.rd (j := q) (by simpa using hq)
  rwa [atV_set hj, if_neg hne, atR_set (by omega), if_neg hne] at this
end
end Go.Proofs.YtcnmmnhlhenifaaGreat
namespace Go.Proofs.YtcnmmnhlhenifaaGreat
open Go.RowKit
set_option maxRecDepth 100000
set_option linter.unusedSimpArgs false
set_option linter.unusedVariables false
def PanE (T : TypeId) (n : Int) : List PanicEntry := [{ v := .iface T (.int .i64 n), recovered := false }]
section
variable {P : Program} {a : Act} {o : Oper} {x : Operand}
theorem run_callVp {xs : List Operand} {ts : Array TypeId} {args : List Value} {f : Nat} {lb : Array Value} (ho : o.op = .call { callee := .value x, args := xs.toArray, argTypes := ts }) (hx : a.eval x = .func (.func f) #[] lb) (ha : xs.map a.eval = args) (w : World) :
    (execOp a.eval o).run P w = (callFunc f (args.toArray ++ lb)).run P w := by
  simp only [execOp, ho, resolve, hx, List.map_toArray, ha]
  simp [Deferred.ofValue, invoke]
theorem callFunc_entersP {f : Nat} (he : enters P f = true) (args : Array Value) (w : World) : (callFunc f args).run P w = .ok (.enter f args) w := by
  unfold enters at he
  cases hf : P.funcs[f]? with
  | none => simp [hf] at he
  | some fn =>
    simp only [hf, Option.any_some, Bool.and_eq_true, Bool.not_eq_true', beq_eq_false_iff_ne, ne_eq] at he
    obtain ⟨h1, h2⟩ := he
    have h2' : fn.body ≠ none := by intro e; rw [e] at h2; simp at h2
    simp [callFunc, program, hf, h1, h2', Sem.run, Sem.run_bind]
end
section
variable {P : Program} {Q : Exit → Act → World → Prop} {K J : Act → World → Prop} {c : List PanicEntry} {a : Act} {w w0 : World} {n d : Nat} {L : List (Nat × Value)} {fn : Func} {R : Ending → World → Prop}
theorem npT (h : Q (.panic c) a w) : Exit.then K Q (.panic c) a w := h
theorem rt_panic (F : Fr a n L) (hR : R (.panicked c) w) : bodyPost P fn R (.panic c) a w := ⟨F.defers, hR⟩
variable {ops rest : List Oper} {o : Oper} {Z : List Nat} {B : List Ent} {x y : Operand} {v u : Value} {t e ty : TypeId} {i g k m : Nat} {f : FuncId} {xs : List Operand} {ts : Array TypeId} {args : List Value} {cs cs' : Array Value}
theorem sq_panic (hw : Region.wanted o (yielded ops.toArray a.tmps) = true) (ho : o.op = .panic x) (hx : a.eval x = .iface t v) (h : Q (.panic [{ v := .iface t v, recovered := false }]) a w) : wpList P ops.toArray Q (o :: rest) a w :=
  wpList_step fun K hK => by
    rw [if_pos hw]
    unfold Oper.wp
    simp only [execOp, ho, hx]
    exact h
theorem ow_callPn {K : Act → World → Prop} (ho : o.op = .call { callee := .value (.func f), args := xs.toArray, argTypes := ts }) (he : enters P f = true) (ha : xs.map a.eval = args) (hc : Calls P f args.toArray w fun e w' => e = .panicked c ∧ Out Z w w') (h : ∀ w', Out Z w w' → Q (.panic c) a w') : o.wp P a w K Q := by
  unfold Oper.wp
  rw [run_enter he ho w, List.map_toArray, ha]
  refine hc.mono fun e w' ⟨h1, h2⟩ => ?_
  subst h1
  exact h _ h2
theorem sq_callPn (M : Mm Z w0 w B) (hw : Region.wanted o (yielded ops.toArray a.tmps) = true) (ho : o.op = .call { callee := .value (.func f), args := xs.toArray, argTypes := ts }) (he : enters P f = true) (ha : xs.map a.eval = args) (hc : Calls P f args.toArray w fun e w' => e = .panicked c ∧ Out [] w w') (h : ∀ w', Out Z w0 w' → Q (.panic c) a w') : wpList P ops.toArray Q (o :: rest) a w :=
  wpList_step fun K hK => by
    rw [if_pos hw]
    exact ow_callPn ho he ha hc fun w' h1 => h w' (M.out.trans h1 (fun g hg => by cases hg))
end
def addD (a : Act) (ds : List Deferred) : Act := { a with defers := a.defers ++ ds }
section
variable {P : Program} {ops : Array Oper} {Q : Exit → Act → World → Prop} {ds : List Deferred}
theorem put_addD (a : Act) (d : Option Nat) (v : Value) : (addD a ds).put d v = addD (a.put d v) ds := by cases d <;> rfl
theorem upon_addD {o : Oper} {a : Act} {K K' : Act → World → Prop} (hK : ∀ a w, K a w → K' (addD a ds) w) {r : Result Next} (h : o.upon P a K (fun e a' w' => Q e (addD a' ds) w') r) : o.upon P (addD a ds) K' Q r := by
  unfold Oper.upon at h ⊢
  split at h
  · rw [put_addD]; exact hK _ _ h
  · rw [put_addD]; exact hK _ _ h
  · rename_i d w'
    have := hK _ _ h
    rw [← put_addD] at this
    exact this
  · refine Calls.mono h fun e w'' hR => ?_
    cases e with
    | returned v => simp only at hR ⊢; rw [put_addD]; exact hK _ _ hR
    | panicked c => exact hR
    | outgrown => obtain ⟨a1, w1, h1⟩ := hR; exact ⟨_, w1, h1⟩
  · rename_i row args w'
    rw [show (fun v w'' => K' ((addD a ds).put o.dst v) w'') = fun v w'' => K' (addD (a.put o.dst v) ds) w'' from by funext v w''; rw [put_addD]]
    intro b cs
    obtain ⟨v, w'', h1, h2⟩ := h b cs
    exact ⟨v, w'', hK _ _ h1, h2⟩
  · exact h
  · exact h.elim
theorem wpList_addD : ∀ (l : List Oper) (a : Act) (w : World), wpList P ops (fun e a' w' => Q e (addD a' ds) w') l a w → wpList P ops Q l (addD a ds) w
  | [], _, _, h => h
  | o :: rest, a, w, h => by
    unfold wpList at h ⊢
    show if Region.wanted o (yielded ops a.tmps) = true then _ else _
    split
    · rename_i hw
      rw [if_pos hw] at h
      rcases h with h | ⟨h1, a1, w1, h2⟩
      · exact .inl (upon_addD (fun a w hk => wpList_addD rest a w hk) h)
      · exact .inr ⟨h1, _, w1, h2⟩
    · rename_i hw
      rw [if_neg hw] at h
      rw [put_addD]
      exact wpList_addD rest _ _ h
end
section
variable {P : Program} {Q : Exit → Act → World → Prop} {a : Act} {w w0 : World} {n d : Nat} {L : List (Nat × Value)} {ops rest : List Oper} {o : Oper} {Z : List Nat} {B : List Ent} {x y : Operand} {v : Value} {f : FuncId} {lb : Array Value} {vs : List Value} {R : Ending → World → Prop} {c : Code} {fn : Func}
theorem enterD (hf : P.funcs[f]? = some fn) (hb : fn.body = some c) (n : Nat) (hn : fn.ntmps = n) (vs : List Value) (hlen : Nat.ble vs.length n = true) (L : List (Nat × Value)) (hL : argL 0 vs = L)
    (h : ∀ a, Fr a n L → c.wp P (bodyPostD P fn R) a w) : Calls P f vs.toArray w R := by
  subst hL
  have hlen' : vs.length ≤ n := Nat.le_of_ble_eq_true hlen
  refine calls_of_wp_defers hf hb (h _ ⟨by simp [hn]; omega, rfl, fun {k v} hk => ?_⟩)
  obtain ⟨_, h2⟩ := look_argL vs 0 k v hk
  have hk' : k < vs.length := by
    rcases Nat.lt_or_ge k vs.length with h | h
    · exact h
    · rw [Nat.sub_zero, List.getElem?_eq_none h] at h2; cases h2
  rw [Nat.sub_zero, List.getElem?_eq_getElem hk'] at h2
  injection h2 with h2
  simp only [Array.getD_eq_getD_getElem?]
  rw [Array.getElem?_append_left (by simpa using hk')]
  simp [hk', h2]
theorem sq_defer (F : Fr a n L) (hw : Region.wanted o (yielded ops.toArray a.tmps) = true) (ho : o.op = .defer { callee := .value x, args := #[], argTypes := #[] }) (hx : a.eval x = .func (.func f) #[] lb) (hd : o.dst = none)
    (h : Q .normal (addD a [⟨.fn (.func f) lb, #[]⟩]) w) : wpList P ops.toArray Q [o] a w :=
  wpList_step fun K hK => by
    rw [if_pos hw]
    unfold Oper.wp
    have hr : (execOp a.eval o).run P w = .ok (.defer ⟨.fn (.func f) lb, #[]⟩) w := by
      simp only [execOp, ho, resolve, hx]
      simp [Deferred.ofValue]
    rw [hr, Oper.upon_defer]
    refine hK _ _ (wpList_nil ?_)
    rw [hd]
    have e : ({ a with defers := ⟨.fn (.func f) lb, #[]⟩ :: a.defers }.put none undef : Act) = addD a [⟨.fn (.func f) lb, #[]⟩] := by
      unfold addD
      rw [F.defers]; rfl
    rw [e]
    exact h
theorem sq_callVR (hw : Region.wanted o (yielded ops.toArray a.tmps) = true) (ho : o.op = .call { callee := .value x, args := #[], argTypes := #[] })
    (hx : a.eval x = .func (.func f) #[] lb) (he : enters P f = true) (hd : o.dst = some d) {Y : Ending → World → Prop} (hc : Calls P f lb w Y)
    (h1 : ∀ v w', Y (.returned v) w' → wpList P ops.toArray Q rest (a.put (some d) v) w') (h2 : ∀ c w', Y (.panicked c) w' → Q (.panic c) a w') (h3 : ∀ w', ¬ Y .outgrown w') : wpList P ops.toArray Q (o :: rest) a w :=
  wpList_step fun K hK => by
    rw [if_pos hw]
    unfold Oper.wp
    rw [run_callVp (xs := []) (args := []) ho hx rfl w, callFunc_entersP he]
    rw [show (#[] : Array Value) ++ lb = lb by simp]
    refine hc.mono fun e w' hY => ?_
    cases e with
    | returned v => exact hK _ _ (by rw [hd]; exact h1 v w' hY)
    | panicked c => exact h2 c w' hY
    | outgrown => exact absurd hY (h3 w')
end
section
variable {P : Program} {a : Act} {w w0 : World} {n : Nat} {L : List (Nat × Value)} {R : Ending → World → Prop} {fn : Func} {ds : List Deferred} {c : List PanicEntry} {Z : List Nat} {B : List Ent} {i i' k j g g' m : Nat} {ty ty' t t' : TypeId} {v x : Value} {cs : Array Value}
theorem lv_ret (F : Fr a n L) (h : Leaves P fn a.tmps R ds .returning w) : bodyPostD P fn R .ret (addD a ds) w := by
  show Leaves P fn a.tmps R (a.defers ++ ds) .returning w
  rw [F.defers]; exact h
theorem lv_panic (F : Fr a n L) (h : Leaves P fn a.tmps R ds (.panicking c) w) : bodyPostD P fn R (.panic c) (addD a ds) w := by
  show Leaves P fn a.tmps R (a.defers ++ ds) (.panicking c) w
  rw [F.defers]; exact h
theorem out_setCell (hB : Blk w g t #[x]) (v : Value) : Out [g] w (w.setCell ⟨g, 0, none⟩ v) ∧ Blk (w.setCell ⟨g, 0, none⟩ v) g t #[v] :=
  ⟨⟨rfl, rfl, rfl, by simp, fun j _ hj => heap_setCell_other w ⟨g, 0, none⟩ j v (fun e => hj (by rw [e]; simp))⟩, hB.set_ _ _⟩
theorem run_one (hB : Blk w g t #[x]) (hT : OneTy P ty) : (loadVar ty ⟨g, 0, none⟩).run P w = .ok x w := by
  obtain ⟨d, hu, hd⟩ := hT
  have hagg : (isAgg ty).run P w = .ok false w := by
    unfold isAgg
    rw [Sem.run_bind, run_underlying hu w]
    cases d <;> simp_all
  have hc : w.cell? ⟨g, 0, none⟩ = some x := by rw [hB.cell]; rfl
  simp [loadVar, hagg, hc]
theorem rs_tmp_one (F : Fr a n L) (hr : fn.results = #[.tmp k, .cell j ty]) (hv : look L k = some v) (hp : look L j = some (.pointer (some ⟨g, 0, none⟩))) (hB : Blk w g t #[x]) (hT : OneTy P ty) : (results fn a.tmps).run P w = .ok (.tuple #[v, x]) w := by
  have h1 := F.get hv
  have h2 : a.tmps[k]?.getD undef = v := by simpa using h1
  have h3 := F.get hp
  have h4 : a.tmps[j]?.getD undef = .pointer (some ⟨g, 0, none⟩) := by simpa using h3
  simp [results, hr, h2, h4, asAddr, run_one hB hT]
theorem lv_end {tmps : Array Value} (h1 : (results fn tmps).run P w = .ok v w) (h2 : R (.returned v) w) : Leaves P fn tmps R [] (settle .returning) w := ⟨v, h1, h2⟩
theorem lv_endP {tmps : Array Value} {pv : Value} (h1 : (results fn tmps).run P w = .ok v w) (h2 : R (.returned v) w) : Leaves P fn tmps R [] (settle (.panicking [{ v := pv, recovered := true }])) w := ⟨v, h1, h2⟩
theorem Mm.outNew (M : Mm [] w0 w B) (hi : B[i]? = some (.blk g t cs)) {w' : World} (h : Out [g] w w') : Out [] w0 w' :=
  M.out.trans h (fun g' hg => by
    simp only [List.mem_singleton] at hg
    subst hg
    exact .inl (M.newer hi (by simp)))
end
def restV (v : Value) (n : Nat) : List Nat → Value
  | [] => v
  | j :: js => subS 1 j (n - js.sum) (restV v n js)
section
variable {w : World} {v : Value} {n j : Nat} {L : List UInt8}
end
def numB (L : List UInt8) : Int := L.foldl (fun a b => a * 256 + u8 b) 0
section
variable {P : Program} {o : Oper} {a : Act} {x y : Operand} {i j : Int} {t t' : TypeId}
end
theorem zcU (k : Nat) : Builtin.zeroCells (Value.int .u8 0).cells k = (cU (List.replicate k 0)).toArray := by
  have h : cU (List.replicate k 0) = List.replicate k (.int .u8 0) := by rw [cU_map]; simp [u8]
  rw [h]
  unfold Builtin.zeroCells
  apply Array.ext
  · simp [Value.cells]
  · intro i h1 h2
    simp [Value.cells, Nat.mod_one]
section
variable {P : Program} {ops rest : List Oper} {o : Oper} {a : Act} {n d : Nat} {L : List (Nat × Value)} {Q : Exit → Act → World → Prop} {R : List Nat} {w w0 : World} {B : List Ent} {v u : Value} {x y : Operand} {t tn e : TypeId} {i k c : Nat} {xs : List Value}
theorem appZ_run (M : Mm R w0 w B) (ho : o.op = .call { callee := .builtin .append, args := #[x, y], argTypes := #[t, tn] }) (ht : P.underlying t = some (.slice e)) (htn : P.underlying tn = some (.int .i64)) (hE : (P.info? e).map (fun i => (i.zero, i.size, i.bytes)) = some (some (.int .u8 0), 1, 1))
    (hx : a.eval x = v) (hi : B[i]? = some (.row e 1 v k xs)) (hy : a.eval y = .int .i64 (c : Int)) (hk : 0 < k) (hc : 0 < c) (hmax : k + c ≤ 1000000000) :
    ∃ v' w', (execOp a.eval o).run P w = .ok (.value v') w' ∧ Mm R w0 w' (B.set i (.row e 1 v' (k + c) (xs ++ cU (List.replicate c 0)))) := by
  have hown : w.ownsRow 0 e 1 v k xs := M.get hi
  cases hq : P.info? e with
  | none => simp [hq] at hE
  | some inf =>
    simp only [hq, Option.map_some, Option.some.injEq, Prod.mk.injEq] at hE
    obtain ⟨hz, hs, hby⟩ := hE
    have hw : IntKind.i64.wrap (c : Int) = c := by rw [IntKind.wrap_i64]; omega
    have hneg : ¬ ((c : Int) < 0) := by omega
    have h48i : ¬ (281474976710656 < (c : Int)) := by omega
    have hc0 : c ≠ 0 := by omega
    have hlen : (cU (List.replicate c 0)).length = c := by rw [cU_len, List.length_replicate]
    have hxl : xs.length = k := by have := hown.1; omega
    have hrun : ∃ v' w', (Builtin.append_ #[t, tn] o.type #[v, .int .i64 (c : Int)]).run P w = .ok v' w' ∧ w'.ownsRow 0 e 1 v' (k + c) (xs ++ cU (List.replicate c 0)) ∧ w.grownBy w' v.ownBlock ∧ (v'.ownBlock = v.ownBlock ∨ v'.ownBlock = some w.heap.size) := by
      rcases hown.2 with ⟨rfl, hn⟩ | ⟨g, cap, cur, rfl, hbg, hg, hnc, hcm, hcs, htake⟩
      · omega
      · by_cases hroom : k + c ≤ cap
        · have hst := run_storeCells_at P g k e (cU (List.replicate c 0)) 0 cur w hg (by rw [hcs, hlen]; omega) (cU_ones _)
          simp only [Nat.add_zero] at hst
          refine ⟨.slice (some ⟨g, 0, none⟩) (k + c) cap, w.setRow g (cur.toList.take k ++ cU (List.replicate c 0) ++ cur.toList.drop (k + (cU (List.replicate c 0)).length)).toArray, ?_, ?_, ⟨rfl, rfl, rfl, by simp, fun j _ hj => setRow_other w g j _ (fun e => hj (by simp [Value.ownBlock, e]))⟩, .inl rfl⟩
          · simp [Builtin.append_, run_underlying ht, run_underlying htn, sizeOf, typeInfo, zeroValue, hq, hz, hs, hby, asInt, asIntOf, hw, hneg, h48i, hc0, hroom, zcU, Addr.add_lit, hst]
          · refine ⟨by rw [List.length_append, hlen, hxl]; omega, .inr ⟨g, cap, _, rfl, hbg, setRow_heap w g cur _ e _ hg, hroom, hcm, ?_, ?_⟩⟩
            · simp only [List.size_toArray, List.length_append, List.length_take, List.length_drop, Array.length_toList, hlen]
              omega
            · rw [Nat.mul_one] at htake
              rw [htake, Nat.mul_one]
              have : (xs ++ cU (List.replicate c 0)).length = k + c := by rw [List.length_append, hlen, hxl]
              rw [← this]
              exact List.take_left
        · have holds : ∀ j u, xs[j]? = some u → w.drew.cell? ((⟨g, 0, none⟩ : Addr).add j) = some u := hown.cells (g := g) rfl
          have hfc := run_firstCells_some (P := P) w.drew inf.size k ⟨g, 0, none⟩ k cap xs (by rw [hs, hxl]; omega) holds
          have hr := Lib.run_append_grow_zeros (P := P) w t tn o.type e inf (.int .u8 0) .i64 .i64 ht htn hq hz (some ⟨g, 0, none⟩) k cap xs hfc c (by omega) (by omega) (by omega) (by omega) (by rw [hby]; omega) (growslice_fits (by omega) (by rw [hby]; omega))
          have hge := grownCap_ge w (k + c) cap e
          have hcm' : grownCap w (k + c) cap e ≤ maxLen := grownCap_le_maxLen w (k + c) cap e (by unfold maxLen; omega)
          refine ⟨_, _, hr, ?_, ⟨rfl, rfl, rfl, by simp, fun j hj _ => Below.heap_alloc w.drew _ j hj⟩, .inr rfl⟩
          rw [zcU c]
          refine ⟨by rw [List.length_append, hlen, hxl]; omega, .inr ⟨w.heap.size, _, _, rfl, Nat.zero_le _, heap_alloc_new w.drew _, hge, hcm', ?_, ?_⟩⟩
          · simp only [Array.size_append, List.size_toArray, size_zeroCells, hlen, hxl, Value.cells]
            simp
            omega
          · simp only [Array.toList_append, List.append_assoc]
            rw [← List.append_assoc, Nat.mul_one]
            have : (xs ++ cU (List.replicate c 0)).length = k + c := by rw [List.length_append, hlen, hxl]
            rw [← this]
            exact List.take_left
    obtain ⟨v', w', hr, h2, h3, h5⟩ := hrun
    have hexec : (execOp a.eval o).run P w = .ok (.value v') w' := by
      simp only [execOp, ho, resolve, invoke, builtin, Sem.run_bind, Sem.run_pure, Result.andThen_ok, List.map_toArray, List.map_cons, List.map_nil, hx, hy, hr]
    refine ⟨v', w', hexec, M.swap hi (x' := .row e 1 v' (k + c) (xs ++ cU (List.replicate c 0))) (Out.of_grown h3) h2 (fun g hg => ?_) (fun g hg => by cases hg)⟩
    simp only [Ent.fp] at hg ⊢
    rcases h5 with h6 | h6
    · exact .inl (by rw [← h6]; exact hg)
    · rw [h6] at hg; simp only [Option.toList_some, List.mem_singleton] at hg; exact .inr (by omega)
theorem sq_appZ (F : Fr a n L) (M : Mm R w0 w B) (hw : Region.wanted o (yielded ops.toArray a.tmps) = true) (ho : o.op = .call { callee := .builtin .append, args := #[x, y], argTypes := #[t, tn] }) (ht : P.underlying t = some (.slice e)) (htn : P.underlying tn = some (.int .i64)) (hE : (P.info? e).map (fun i => (i.zero, i.size, i.bytes)) = some (some (.int .u8 0), 1, 1))
    (hx : a.eval x = v) (hi : B[i]? = some (.row e 1 v k xs)) (hy : a.eval y = .int .i64 (c : Int)) (hk : 0 < k) (hc : 0 < c) (hmax : k + c ≤ 1000000000) (hd : o.dst = some d) (hdn : Nat.blt d n = true)
    (h : ∀ a' w' v', Fr a' n ((d, v') :: L) → Mm R w0 w' (B.set i (.row e 1 v' (k + c) (xs ++ cU (List.replicate c 0)))) → wpList P ops.toArray Q rest a' w') : wpList P ops.toArray Q (o :: rest) a w := by
  obtain ⟨v', w', hexec, hM⟩ := appZ_run M ho ht htn hE hx hi hy hk hc hmax
  exact sq_run F hw hexec hM hd hdn (fun a' w' F' M' => h a' w' v' F' M')
theorem sq_callA (F : Fr a n L) (M : Mm R w0 w B) (hw : Region.wanted o (yielded ops.toArray a.tmps) = true) {f : FuncId} {zs : List Operand} {ts : Array TypeId} {args : List Value} {m k' : Nat} {ys : List Value} (ho : o.op = .call { callee := .value (.func f), args := zs.toArray, argTypes := ts })
    (he : enters P f = true) (ha : zs.map a.eval = args) (hi : B[i]? = some (.row t m v k xs)) (hc : Calls P f args.toArray w fun e w' => ∃ x, e = .returned x ∧ Out v.ownBlock.toList w w' ∧ w'.ownsRow 0 t m x k' ys ∧ ∀ g ∈ x.ownBlock.toList, g ∈ v.ownBlock.toList ∨ w.heap.size ≤ g) (hd : o.dst = some d) (hdn : Nat.blt d n = true)
    (h : ∀ a' w' x, Fr a' n ((d, x) :: L) → Mm R w0 w' (B.set i (.row t m x k' ys)) → wpList P ops.toArray Q rest a' w') : wpList P ops.toArray Q (o :: rest) a w :=
  sq_callR F hw ho he ha hc hd hdn fun e w' hR => by
    obtain ⟨x, h1, h2, h3, h4⟩ := hR
    exact ⟨x, h1, fun a' F' => h a' w' x F' (M.swap hi (x' := .row t m x k' ys) h2 h3 h4 (fun g hg => by cases hg))⟩
theorem Mm.owns {m : Nat} (M : Mm v.ownBlock.toList w0 w B) (hi : B[i]? = some (.row t m u k xs)) : Out v.ownBlock.toList w0 w ∧ w.ownsRow 0 t m u k xs ∧ ∀ g ∈ u.ownBlock.toList, g ∈ v.ownBlock.toList ∨ w0.heap.size ≤ g :=
  ⟨M.out, M.ow hi, fun g hg => (M.own _ (List.mem_of_getElem? hi) g hg).symm⟩
end
end Go.Proofs.YtcnmmnhlhenifaaGreat
namespace Go.Proofs.YtcnmmnhlhenifaaGreat
open Go.RowKit
set_option maxRecDepth 100000
set_option linter.unusedSimpArgs false
set_option linter.unusedVariables false
def natL (L : List UInt8) : List Nat := L.map (·.toNat)
theorem natL_len (L : List UInt8) : (natL L).length = L.length := List.length_map _
theorem natL_w8 (L : List UInt8) : Hs.W8 (natL L) := fun a ha => by
  obtain ⟨b, _, rfl⟩ := List.mem_map.1 ha
  exact b.toNat_lt
theorem natL_at {L : List UInt8} {j : Nat} (h : j < L.length) : ((Hs.at0 (natL L) j : Nat) : Int) = u8 (atU L j) := by
  rw [Hs.at0_eq (by rw [natL_len]; exact h), atU_eq h]
  simp [natL, u8]
theorem natL_rd {L : List UInt8} {w : World} {A : Option Addr} {c n : Nat} (hr : RdV w 1 (.slice A n c) n (cU L)) (hn : L.length = n) : Hs.Rd w w.heap.size A (natL L) ∧ n ≤ c := by
  obtain ⟨hl, A', c', he, hc, hm, h⟩ := hr
  injection he with h1 _ h2
  subst h1 h2
  refine ⟨fun h0 => ?_, hc⟩
  rw [natL_len, hn] at h0
  obtain ⟨g, off, rfl, hg, hcell⟩ := h h0
  refine ⟨⟨g, off, none⟩, rfl, hg, fun j hj => ?_⟩
  rw [natL_len] at hj
  rw [natL_at hj, addr_add]
  have := cU_at hj
  rw [Nat.mul_one] at this
  exact hcell j _ this
theorem sumN_lt (l : List Nat) : ∀ a ∈ Hs.sumN l, a < 256 := by
  intro a ha
  simp only [Hs.sumN, Hs.finishN, Hs.bytesN, List.mem_map] at ha
  obtain ⟨i, _, rfl⟩ := ha
  exact Nat.mod_lt _ (by omega)
def sumB (L : List UInt8) : B32 := ⟨(Hs.sumN (natL L)).map UInt8.ofNat, by rw [List.length_map]; exact Hs.bytesN_length _⟩
theorem sumB_cells (L : List UInt8) : Hs.B8 (Hs.sumN (natL L)) = List.toArray (l32 (sumB L)) := by
  rw [l32_eq, cU_map]
  unfold Hs.B8 sumB
  congr 1
  rw [List.map_map]
  refine List.map_congr_left fun a ha => ?_
  have := sumN_lt _ a ha
  simp only [Function.comp, u8]
  rw [UInt8.toNat_ofNat', Nat.mod_eq_of_lt (by omega)]
theorem sum_any (L : List UInt8) (v : Value) (n : Nat) (w : World) (hr : RdV w 1 v n (cU L)) (hn : L.length = n) (hlen : n ≤ 800000) :
    Calls Tryz.prog 90 #[v] w fun e w' => e = .returned (.agg (List.toArray (l32 (sumB L)))) ∧ Below w.heap.size w w' := by
  obtain ⟨A, c, rfl⟩ : ∃ A c, v = .slice A n c := by obtain ⟨_, A, c, h, _⟩ := hr; exact ⟨A, c, h⟩
  obtain ⟨h1, h2⟩ := natL_rd hr hn
  have h := Hs.sum_any (natL L) A c w (natL_w8 L) h1 (by rw [natL_len, hn]; exact h2) (by rw [natL_len, hn]; omega)
  rw [natL_len, hn, sumB_cells] at h
  exact h
end Go.Proofs.YtcnmmnhlhenifaaGreat
