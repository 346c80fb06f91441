/- Arrays of ints; nodes' places in a row; lines of nodes: mathematics. Any seat with layer 6 in it. -/
import Derived.Test.YtlgeodnbkndciaaGo
namespace Go.Proofs.Ytlgeodnbkndciaa
open Go.RowKit
set_option maxRecDepth 100000
set_option linter.unusedSimpArgs false
set_option linter.unusedVariables false

theorem cI_len (L : List Int) : (cI L).length = L.length := by unfold cI; rw [cE_len]; simp [encI]
theorem cI_set : ∀ (L : List Int) (j : Nat) (x : Int), (cI L).set j (.int .i64 x) = cI (L.set j x)
  | [], _, _ => rfl
  | _ :: _, 0, _ => rfl
  | a :: r, j + 1, x => by
    have := cI_set r j x
    show Value.int .i64 a :: (cI r).set j (.int .i64 x) = Value.int .i64 a :: cI (r.set j x)
    rw [this]
theorem aI_at {T : List Int} {j : Nat} (h : j < T.length) : (List.toArray (cI T))[0 + j * 1]? = some (.int .i64 (atI T j)) := by
  rw [Nat.zero_add, List.getElem?_toArray]; exact cI_at h
theorem aI_set (T : List Int) (j : Nat) (x : Int) : (List.toArray (cI T)).setIfInBounds (0 + j * 1) (.int .i64 x) = List.toArray (cI (T.set j x)) := by
  rw [← cI_set]; simp
theorem aI_size (T : List Int) : (List.toArray (cI T)).size = T.length := by rw [List.size_toArray, cI_len]
theorem atI_eq {L : List Int} {i : Nat} (h : i < L.length) : atI L i = L[i] := atE_eq (E := encI) h
theorem atI_set {L : List Int} {i j : Nat} {b : Int} (h : i < L.length) : atI (L.set i b) j = if i = j then b else atI L j := by
  unfold atI atE
  rw [List.getD_eq_getElem?_getD, List.getD_eq_getElem?_getD, List.getElem?_set]
  split
  · rename_i e; subst e; simp [h]
  · rfl
theorem ext_atI {A B : List Int} (hl : A.length = B.length) (h : ∀ k, k < A.length → atI A k = atI B k) : A = B := by
  apply List.ext_getElem hl
  intro k h1 h2
  have := h k h1
  rwa [atI_eq h1, atI_eq h2] at this
/-! ### Places -/
def posO (o : List Int) (i : Nat) : List Int := (List.range 8).map fun (q : Nat) => if (q : Int) ∈ o.take i then ((o.idxOf (q : Int) : Nat) : Int) + 1 else 0
theorem pos_len (o : List Int) (i : Nat) : (posO o i).length = 8 := by simp [posO]
theorem pos_at {o : List Int} {i q : Nat} (h : q < 8) : atI (posO o i) q = if (q : Int) ∈ o.take i then ((o.idxOf (q : Int) : Nat) : Int) + 1 else 0 := by
  rw [atI_eq (by rw [pos_len]; exact h)]; simp [posO]
theorem pos_zero (o : List Int) : List.replicate 8 0 = posO o (0 : Int).toNat := by
  apply ext_atI
  · rw [pos_len]; simp
  · intro k hk
    have hk8 : k < 8 := by simpa using hk
    rw [pos_at hk8, atI_eq hk, List.getElem_replicate]; simp
theorem idx_at {o : List Int} (hn : o.Nodup) {i : Nat} (h : i < o.length) : o.idxOf (atI o i) = i := by
  rw [atI_eq h]; exact hn.idxOf_getElem i h
theorem not_yet {o : List Int} (hn : o.Nodup) {i : Nat} (h : i < o.length) : ¬ atI o i ∈ o.take i := fun hm => by
  rw [atI_eq h] at hm
  obtain ⟨k, hk, e⟩ := List.mem_iff_getElem.1 hm
  rw [List.length_take] at hk
  rw [List.getElem_take] at e
  have := (List.getElem_inj hn).1 e
  omega
theorem pos_new {o : List Int} (hn : o.Nodup) {i : Int} (h0 : 0 ≤ i) (h : i < (o.length : Int)) (hr : 0 ≤ atI o i.toNat ∧ atI o i.toNat < 8) : atI (posO o i.toNat) (atI o i.toNat).toNat = 0 := by
  rw [pos_at (by omega), show (((atI o i.toNat).toNat : Nat) : Int) = atI o i.toNat by omega, if_neg (not_yet hn (by omega))]
theorem pos_step {o : List Int} (hn : o.Nodup) {i : Int} (h0 : 0 ≤ i) (h : i < (o.length : Int)) (hr : 0 ≤ atI o i.toNat ∧ atI o i.toNat < 8) : (posO o i.toNat).set (atI o i.toNat).toNat (i + 1) = posO o (i + 1).toNat := by
  apply ext_atI
  · rw [List.length_set, pos_len, pos_len]
  · intro k hk
    have hk8 : k < 8 := by rw [List.length_set, pos_len] at hk; exact hk
    rw [atI_set (by rw [pos_len]; omega), pos_at hk8, pos_at hk8, show (i + 1).toNat = i.toNat + 1 by omega, List.take_succ_eq_append_getElem (by omega)]
    have e2 := idx_at hn (show i.toNat < o.length by omega)
    have e3 := atI_eq (L := o) (show i.toNat < o.length by omega)
    by_cases hk2 : (atI o i.toNat).toNat = k
    · rw [if_pos hk2, if_pos (by rw [← e3]; simp; omega), show ((k : Nat) : Int) = atI o i.toNat by omega, e2]; omega
    · rw [if_neg hk2]
      have : (k : Int) ∈ o.take i.toNat ++ [o[i.toNat]] ↔ (k : Int) ∈ o.take i.toNat := by
        rw [← e3]; simp; omega
      simp only [this]
theorem pos_in {o : List Int} {i : Int} (hi : ¬ i < (o.length : Int)) {q : Int} (h0 : 0 ≤ q) (h8 : q < 8) (hm : q ∈ o) : atI (posO o i.toNat) q.toNat = ((o.idxOf q : Nat) : Int) + 1 := by
  rw [pos_at (by omega), show ((q.toNat : Nat) : Int) = q by omega, List.take_of_length_le (by omega), if_pos hm]
theorem row_rng {n : Nat} {E : List Ed} (hF : Fits (n : Int) E) (hn : n ≤ 8) {i : Nat} (h : i < (orderL E n).length) : 0 ≤ atI (orderL E n) i ∧ atI (orderL E n) i < (n : Int) :=
  (row_inv hF n).rng _ (atE_mem (E := encI) h)
theorem row_nd {n : Nat} {E : List Ed} (hF : Fits (n : Int) E) : (orderL E n).Nodup := (row_inv hF n).nd
/-! ### Lines -/
def lineE (P : List St) (k : Nat) : List Ed := (List.range k).map fun (i : Nat) => (⟨(i : Int), (i : Int) + 1, atS P i⟩ : Ed)
theorem line_len (P : List St) (k : Nat) : (lineE P k).length = k := by simp [lineE]
theorem line_zero (P : List St) : [] = lineE P (0 : Int).toNat := rfl
theorem line_snoc {P : List St} {k : Int} (h0 : 0 ≤ k) : lineE P k.toNat ++ [Ed.mk k (k + 1) (atS P k.toNat)] = lineE P (k + 1).toNat := by
  unfold lineE
  rw [show (k + 1).toNat = k.toNat + 1 by omega, List.range_succ, List.map_append, List.map_singleton, show ((k.toNat : Nat) : Int) = k by omega]
theorem line_mem {P : List St} {m : Nat} {x : Ed} (h : x ∈ lineE P m) : ∃ i : Nat, i < m ∧ x = ⟨(i : Int), (i : Int) + 1, atS P i⟩ := by
  obtain ⟨i, hi, e⟩ := List.mem_map.1 h
  exact ⟨i, List.mem_range.1 hi, e.symm⟩
def lsum (P : List St) (i : Nat) : Nat → St
  | 0 => St.zero
  | d + 1 => (lsum P i d).add (atS P (i + d))
def Small (P : List St) (m : Nat) : Prop := ∀ k, k < m → 0 ≤ (atS P k).e ∧ (atS P k).e ≤ 100000 ∧ 0 ≤ (atS P k).r ∧ (atS P k).r ≤ 100000
theorem lsum_small {P : List St} {m i : Nat} (hs : Small P m) : ∀ d, i + d ≤ m → 0 ≤ (lsum P i d).e ∧ (lsum P i d).e ≤ 100000 * (d : Int) ∧ 0 ≤ (lsum P i d).r ∧ (lsum P i d).r ≤ 100000 * (d : Int)
  | 0, _ => by simp [lsum, St.zero]
  | d + 1, h => by
    have ih := lsum_small (i := i) hs d (by omega)
    have h2 := hs (i + d) (by omega)
    simp only [lsum, St.add]; omega
theorem lsum_cons (P : List St) (i : Nat) : ∀ d, lsum P i (d + 1) = (atS P i).add (lsum P (i + 1) d)
  | 0 => by simp [lsum, St.add, St.zero, St.eq_iff]
  | d + 1 => by
    have ih := lsum_cons P i d
    rw [show lsum P i (d + 1 + 1) = (lsum P i (d + 1)).add (atS P (i + (d + 1))) from rfl, ih, show lsum P (i + 1) (d + 1) = (lsum P (i + 1) d).add (atS P (i + 1 + d)) from rfl, show i + 1 + d = i + (d + 1) by omega, St.eq_iff]
    simp only [St.add]; omega
theorem line_fits {P : List St} {m : Nat} (hs : Small P m) : Fits ((m + 1 : Nat) : Int) (lineE P m) := fun x hx => by
  obtain ⟨i, hi, rfl⟩ := line_mem hx
  have := hs i hi
  rw [fits_iff]
  refine ⟨by simp only; omega, St.right_iff.2 ?_⟩
  simp only; omega
theorem line_run {P : List St} {m : Nat} : ∀ {es : List Ed} {i : Nat} {j : Int}, (∀ x ∈ es, x ∈ lineE P m) → Run (i : Int) es j → j = (i : Int) + (es.length : Int) ∧ sumW es = lsum P i es.length
  | [], i, j, _, h => by
    have h' : (i : Int) = j := h
    exact ⟨by simp; omega, rfl⟩
  | x :: r, i, j, hm, h => by
    obtain ⟨h1, h2⟩ := (show x.f = (i : Int) ∧ Run x.t r j from h)
    obtain ⟨q, hq, rfl⟩ := line_mem (hm x (by simp))
    have e : q = i := by simp only at h1; omega
    subst e
    have h3 : Run ((q + 1 : Nat) : Int) r j := by simpa using h2
    have ih := line_run (fun y hy => hm y (by simp [hy])) h3
    refine ⟨by simp only [List.length_cons]; omega, ?_⟩
    simp only [List.length_cons]
    rw [lsum_cons, ← ih.2]
    rfl
theorem line_way {P : List St} {m i : Nat} (hm : m ≤ 7) (hs : Small P m) : ∀ d, i + d ≤ m → WayS (lineE P m) (i : Int) ((i + d : Nat) : Int) (lsum P i d)
  | 0, _ => way_nil _ _
  | d + 1, h => by
    have ih := line_way (i := i) hm hs d (by omega)
    have h1 := lsum_small hs (i := i) d (by omega)
    have h2 := hs (i + d) (by omega)
    have h3 := lsum_small hs (i := i) (d + 1) h
    have ha : (lsum P i d).afterB (atS P (i + d)) = true := by
      unfold St.afterB
      rw [Bool.and_eq_true, Bool.and_eq_true]
      refine ⟨⟨St.right_iff.2 (by omega), St.right_iff.2 (by omega)⟩, St.right_iff.2 ?_⟩
      have e : (lsum P i d).add (atS P (i + d)) = lsum P i (d + 1) := rfl
      rw [e]; omega
    have hx : (⟨((i + d : Nat) : Int), ((i + d : Nat) : Int) + 1, atS P (i + d)⟩ : Ed) ∈ lineE P m := List.mem_map.2 ⟨i + d, List.mem_range.2 (by omega), rfl⟩
    have z := way_snoc (x := ⟨((i + d : Nat) : Int), ((i + d : Nat) : Int) + 1, atS P (i + d)⟩) ih hx ha
    have e : (lsum P i d).after (atS P (i + d)) = lsum P i (d + 1) := by unfold St.after; rw [if_pos ha]; rfl
    rw [show ((i + (d + 1) : Nat) : Int) = ((i + d : Nat) : Int) + 1 by omega, ← e]
    exact z
theorem line_row {P : List St} {m : Nat} (hm : m ≤ 7) (hs : Small P m) {i j : Nat} (hi : i < m + 1) (hj : j < m + 1) : atR (rowM (lineE P m) (m + 1) i (m + 1)) j = if i ≤ j then [lsum P i (j - i)] else [] := by
  have hF := line_fits hs
  split
  · rename_i hij
    refine (clo_uniq hF hi hj (K := [lsum P i (j - i)]) (fun k hk => by simp at hk) ?_ ?_ ?_).symm
    · intro t ht
      rw [List.mem_singleton.1 ht]
      have := line_way hm hs (i := i) (j - i) (by omega)
      rwa [show i + (j - i) = j by omega] at this
    · rintro t ⟨es, h1, h2, h3, _⟩
      have z := line_run h1 h2
      have e : es.length = j - i := by omega
      rw [← h3, z.2, e, cov_iff]
      exact ⟨_, List.mem_singleton.2 rfl, St.le_refl _⟩
    · intro s hs' t ht' _
      rw [List.mem_singleton.1 hs', List.mem_singleton.1 ht']
  · rename_i hij
    refine (clo_uniq hF hi hj (K := []) asc_nil (fun t ht => by cases ht) ?_ (fun s hs' => by cases hs')).symm
    rintro t ⟨es, h1, h2, h3, _⟩
    have z := line_run h1 h2
    omega
theorem line_order {P : List St} {m : Nat} (hs : Small P m) : (orderL (lineE P m) (m + 1)).length = m + 1 :=
  order_of_rank (line_fits hs) id fun x hx _ => by
    obtain ⟨i, hi, rfl⟩ := line_mem hx
    simp only [id]; omega
theorem line_check {P : List St} {m : Nat} (hm : m ≤ 7) (hs : Small P m) : (checkG ((m : Int) + 1) (lineE P m)).1 = 0 := by
  have hF := line_fits hs
  rw [check_of (by omega) (by omega) (by rw [line_len]; omega) (by have := hF; rwa [show ((m + 1 : Nat) : Int) = (m : Int) + 1 by omega] at this) (by rw [show ((m : Int) + 1).toNat = m + 1 by omega, line_order hs]; omega)]
theorem line_clo {P : List St} {m : Nat} (hm : m ≤ 7) (hs : Small P m) : cloG ((m : Int) + 1) (lineE P m) = (cloT (lineE P m) (m + 1) (m + 1), 0) := by
  have hc := line_check hm hs
  have z := clo_ok (n := (m : Int) + 1) (E := lineE P m) hc (by
    intro i hi j hj
    rw [show ((m : Int) + 1).toNat = m + 1 by omega] at *
    rw [line_row hm hs hi hj]
    split <;> simp)
  rwa [show ((m : Int) + 1).toNat = m + 1 by omega] at z
theorem line_at {P : List St} {m : Nat} (hm : m ≤ 7) (hs : Small P m) {i j : Int} (h0 : 0 ≤ i) (hi : i < (m : Int) + 1) (h1 : 0 ≤ j) (hj : j < (m : Int) + 1) : (i ≤ j → atR (at3 (cloT (lineE P m) (m + 1) (m + 1)) i.toNat) j.toNat = [lsum P i.toNat (j.toNat - i.toNat)]) ∧ (j < i → atR (at3 (cloT (lineE P m) (m + 1) (m + 1)) i.toNat) j.toNat = []) := by
  rw [cloT_at (by omega), line_row hm hs (by omega) (by omega)]
  exact ⟨fun h => if_pos (by omega), fun h => if_neg (by omega)⟩
theorem lsum_step {P : List St} {a b : Int} (h0 : 0 ≤ a) (h : a < b) : lsum P a.toNat (b - a).toNat = (lsum P a.toNat ((b - a).toNat - 1)).add (atS P (b - 1).toNat) := by
  obtain ⟨d, hd⟩ : ∃ d, (b - a).toNat = d + 1 := ⟨(b - a).toNat - 1, by omega⟩
  rw [hd, show (b - 1).toNat = a.toNat + d by omega]; rfl
theorem lsum_same {P : List St} {a b : Int} (h0 : a ≤ b) (h : ¬ a < b) : lsum P a.toNat ((b - a).toNat - 1) = lsum P a.toNat (b - a).toNat := by
  rw [show (b - a).toNat - 1 = (b - a).toNat by omega]
theorem line_vals {P : List St} {m : Nat} (hm : m ≤ 7) (hs : Small P m) {a b : Int} (h0 : 0 ≤ a) (hab : a ≤ b) (hb : b < (m : Int) + 1) :
    atR (at3 (cloT (lineE P m) (m + 1) (m + 1)) a.toNat) b.toNat = [lsum P a.toNat (b - a).toNat] ∧ (a < b → (atR (at3 (cloT (lineE P m) (m + 1) (m + 1)) b.toNat) a.toNat).length = 0) := by
  have h1 := (line_at hm hs h0 (by omega) (by omega) hb).1 hab
  rw [show b.toNat - a.toNat = (b - a).toNat by omega] at h1
  exact ⟨h1, fun h => by rw [(line_at hm hs (show 0 ≤ b by omega) hb h0 (by omega)).2 h]; rfl⟩
end Go.Proofs.Ytlgeodnbkndciaa
