/- Laws of rows of stamps: mathematics. Any seat. -/
import Derived.Test.YtlgeodnbkndciaaAo
namespace Go.Proofs.Ytlgeodnbkndciaa
open Go.RowKit
set_option maxRecDepth 100000
set_option linter.unusedSimpArgs false
set_option linter.unusedVariables false

theorem cov_iff {L : List St} {t : St} : covB L t = true ↔ ∃ s ∈ L, s.leB t = true := by unfold covB; rw [List.any_eq_true]
theorem bey_iff {A B : List St} : beyB A B = true ↔ ∀ t ∈ A, covB B t = true := by unfold beyB; rw [List.all_eq_true]
theorem bey_refl (A : List St) : beyB A A = true := bey_iff.2 fun t ht => cov_iff.2 ⟨t, ht, St.le_refl t⟩
theorem cov_trans {A B : List St} {t : St} (h : beyB A B = true) (hc : covB A t = true) : covB B t = true := by
  obtain ⟨s, hs, hl⟩ := cov_iff.1 hc
  obtain ⟨q, hq, hl2⟩ := cov_iff.1 (bey_iff.1 h s hs)
  exact cov_iff.2 ⟨q, hq, St.le_trans hl2 hl⟩
theorem bey_trans {A B C : List St} (h1 : beyB A B = true) (h2 : beyB B C = true) : beyB A C = true := bey_iff.2 fun t ht => cov_trans h2 (bey_iff.1 h1 t ht)
/-- Below each stamp of a list there is a least one. -/
theorem least_below : ∀ (n : Nat) {L : List St} (_ : L.length ≤ n) (t : St), t ∈ L → ∃ m ∈ L, m.leB t = true ∧ ∀ s ∈ L, s.leB m = true → s = m := by
  intro n
  induction n with
  | zero => intro L hn t ht; cases L with
    | nil => cases ht
    | cons a r => simp at hn
  | succ n ih =>
    intro L hn t ht
    by_cases h : ∀ s ∈ L, s.leB t = true → s = t
    · exact ⟨t, ht, St.le_refl t, h⟩
    · obtain ⟨s, hs, hl, hne⟩ : ∃ s, s ∈ L ∧ s.leB t = true ∧ ¬ s = t := by
        simp only [Classical.not_forall] at h
        obtain ⟨s, hs, hl, hne⟩ := h
        exact ⟨s, hs, hl, hne⟩
      have hs' : s ∈ L.filter (fun x => !decide (x = t)) := by simp [hs, hne]
      have hlen : (L.filter (fun x => !decide (x = t))).length ≤ n := by
        have : (L.filter (fun x => !decide (x = t))).length < L.length := by
          rw [List.length_filter_lt_length_iff_exists]
          exact ⟨t, ht, by simp⟩
        omega
      obtain ⟨m, hm, hms, hmin⟩ := ih hlen s hs'
      have hmL := (List.mem_filter.1 hm).1
      refine ⟨m, hmL, St.le_trans hms hl, fun u hu hum => ?_⟩
      by_cases e : u = t
      · exfalso
        subst e
        have := St.le_antisymm (St.le_trans hum hms) hl
        exact hne this.symm
      · exact hmin u (by simp [hu, e]) hum
theorem min_cov (L : List St) (t : St) : covB (minL L) t = covB L t := by
  rw [Bool.eq_iff_iff, cov_iff, cov_iff]
  constructor
  · rintro ⟨s, hs, hl⟩; exact ⟨s, (mem_minL.1 hs).1, hl⟩
  · rintro ⟨s, hs, hl⟩
    obtain ⟨m, hm, hms, hmin⟩ := least_below _ (Nat.le_refl _) s hs
    exact ⟨m, mem_minL.2 ⟨hm, hmin⟩, St.le_trans hms hl⟩
theorem min_same {A B : List St} : minL A = minL B ↔ beyB A B = true ∧ beyB B A = true := by
  constructor
  · intro h
    have : ∀ X Y : List St, minL X = minL Y → beyB X Y = true := fun X Y h => bey_iff.2 fun t ht => by
      rw [← min_cov, ← h, min_cov]; exact cov_iff.2 ⟨t, ht, St.le_refl t⟩
    exact ⟨this A B h, this B A h.symm⟩
  · rintro ⟨h1, h2⟩
    have key : ∀ X Y : List St, beyB X Y = true → beyB Y X = true → ∀ t, t ∈ minL X → t ∈ minL Y := by
      intro X Y h1 h2 t ht
      obtain ⟨ht, hmin⟩ := mem_minL.1 ht
      obtain ⟨q, hq, hqt⟩ := cov_iff.1 (bey_iff.1 h1 t ht)
      obtain ⟨p, hp, hpq⟩ := cov_iff.1 (bey_iff.1 h2 q hq)
      have e : p = t := hmin p hp (St.le_trans hpq hqt)
      subst e
      have e2 : q = p := St.le_antisymm hqt hpq
      subst e2
      refine mem_minL.2 ⟨hq, fun s hs hl => ?_⟩
      obtain ⟨r, hr, hrs⟩ := cov_iff.1 (bey_iff.1 h2 s hs)
      have e3 : r = q := hmin r hr (St.le_trans hrs hl)
      subst e3
      exact St.le_antisymm hl hrs
    exact (minL_asc A).uniq (minL_asc B) fun t => ⟨key A B h1 h2 t, key B A h2 h1 t⟩
theorem min_sameB (A B : List St) : decide (minL A = minL B) = (beyB A B && beyB B A) := by
  rw [Bool.eq_iff_iff, decide_eq_true_eq, min_same, Bool.and_eq_true]
theorem cov_app (A B : List St) (t : St) : covB (A ++ B) t = (covB A t || covB B t) := by unfold covB; rw [List.any_append]
theorem joined (A B : List St) : minL (A ++ B) = minL (minL A ++ minL B) := min_same.2 (by
  constructor
  · refine bey_iff.2 fun t ht => ?_
    rw [cov_app, min_cov, min_cov]
    rcases List.mem_append.1 ht with h | h
    · rw [cov_iff.2 ⟨t, h, St.le_refl t⟩]; rfl
    · rw [cov_iff.2 ⟨t, h, St.le_refl t⟩, Bool.or_true]
  · refine bey_iff.2 fun t ht => ?_
    rw [cov_app]
    rcases List.mem_append.1 ht with h | h
    · rw [cov_iff.2 ⟨t, (mem_minL.1 h).1, St.le_refl t⟩]; rfl
    · rw [cov_iff.2 ⟨t, (mem_minL.1 h).1, St.le_refl t⟩, Bool.or_true])
theorem row_mem {A B : List St} (h : ∀ t, t ∈ A ↔ t ∈ B) : rowL A = rowL B := (rowL_asc A).uniq (rowL_asc B) fun t => by rw [mem_rowL, mem_rowL, h]
theorem min_mem {A B : List St} (h : ∀ t, t ∈ A ↔ t ∈ B) : minL A = minL B := (minL_asc A).uniq (minL_asc B) fun t => by
  rw [mem_minL, mem_minL, h]
  exact and_congr_right fun _ => forall_congr' fun s => by rw [h]
theorem turned_mem {L : List St} {k : Nat} (hk : k < L.length) (t : St) : t ∈ [atS L k] ++ L.drop k ++ L.take k ↔ t ∈ L := by
  have e : ∀ t, t ∈ L ↔ t ∈ L.take k ∨ t ∈ L.drop k := fun t => by rw [← List.mem_append, List.take_append_drop]
  rw [List.mem_append, List.mem_append, List.mem_singleton, e]
  constructor
  · rintro ((h | h) | h)
    · rw [← e, h]; exact atS_mem hk
    · exact .inr h
    · exact .inl h
  · rintro (h | h)
    · exact .inr h
    · exact .inl (.inr h)
theorem min_min (L : List St) : minL (minL L) = minL L := min_same.2 ⟨bey_iff.2 fun t ht => cov_iff.2 ⟨t, (mem_minL.1 ht).1, St.le_refl t⟩, bey_iff.2 fun t ht => by rw [min_cov]; exact cov_iff.2 ⟨t, ht, St.le_refl t⟩⟩
theorem min_nil (L : List St) : decide (((minL L).length : Int) = 0) = decide ((L.length : Int) = 0) := by
  rw [Bool.eq_iff_iff, decide_eq_true_eq, decide_eq_true_eq]
  constructor
  · intro h
    cases L with
    | nil => rfl
    | cons a r =>
      obtain ⟨m, hm, _, hmin⟩ := least_below _ (Nat.le_refl _) a (show a ∈ a :: r by simp)
      have : m ∈ minL (a :: r) := mem_minL.2 ⟨hm, hmin⟩
      have := List.length_pos_of_mem this
      omega
  · intro h
    have := minL_len L
    omega
theorem in_none {L : List St} {x : St} : false = true ↔ ∃ j, j < (0 : Int).toNat ∧ atS L j = x := ⟨(fun h => by cases h), (fun ⟨j, h, _⟩ => by simp at h)⟩
theorem in_step {L : List St} {x : St} {b b' : Bool} {i : Int} (h0 : 0 ≤ i) (h : b = true ↔ ∃ j, j < i.toNat ∧ atS L j = x) (hb : b' = true ↔ (b = true ∨ atS L i.toNat = x)) : b' = true ↔ ∃ j, j < (i + 1).toNat ∧ atS L j = x := by
  rw [hb, h, show (i + 1).toNat = i.toNat + 1 by omega]
  constructor
  · rintro (⟨j, h1, h2⟩ | h1)
    · exact ⟨j, by omega, h2⟩
    · exact ⟨_, by omega, h1⟩
  · rintro ⟨j, h1, h2⟩
    rcases (show j < i.toNat ∨ j = i.toNat by omega) with h3 | h3
    · exact .inl ⟨j, h3, h2⟩
    · subst h3; exact .inr h2
theorem in_end {L : List St} {x : St} {b : Bool} {i : Int} {n : Nat} (h : b = true ↔ ∃ j, j < i.toNat ∧ atS L j = x) (hi : i.toNat = n) : b = true ↔ ∃ j, j < n ∧ atS L j = x := by subst hi; exact h
theorem in_false {L : List St} {b : Bool} {i : Nat} (h : b = true ↔ ∃ j, j < L.length ∧ atS L j = atS (minL L) i) (hb : b = false) (hi : i < (minL L).length) : False := by
  have h1 := (mem_minL.1 (atS_mem hi)).1
  have := h.2 (at_of_mem h1)
  rw [hb] at this; cases this
theorem asc_false {L : List St} {i j : Nat} (h : (atS (minL L) i).aheadB (atS (minL L) j) = false) (hij : i < j) (hj : j < (minL L).length) : False := by
  have := (minL_asc L).lt' hij hj
  rw [h] at this; cases this
theorem min_false {L : List St} {i j : Nat} (h : (atS (minL L) i).leB (atS (minL L) j) = true) (hij : i ≠ j) (hi : i < (minL L).length) (hj : j < (minL L).length) : False := by
  have h1 := mem_minL.1 (atS_mem hi)
  have h2 := mem_minL.1 (atS_mem hj)
  have e := h2.2 _ h1.1 h
  rcases Nat.lt_or_gt_of_ne hij with h3 | h3
  · have := (minL_asc L).lt' h3 hj; rw [e, ahead_irr] at this; cases this
  · have := (minL_asc L).lt' h3 hi; rw [e, ahead_irr] at this; cases this
theorem Asc.nodup {L : List St} (h : Asc L) : L.Nodup := by
  rw [List.Nodup, List.pairwise_iff_getElem]
  intro i j hi hj hij e
  have := h.lt' hij hj
  rw [atS_eq hi, atS_eq hj, e, ahead_irr] at this
  cases this
theorem more_cov {L : List St} {t : St} (h : covB (minL L) t = true) : minL L = minL (minL L ++ [t]) := by
  rw [← min_min L]
  conv => rhs; rw [min_min L]
  refine min_same.2 ⟨bey_iff.2 fun s hs => ?_, bey_iff.2 fun s hs => ?_⟩
  · rw [cov_app]; rw [cov_iff.2 ⟨s, hs, St.le_refl s⟩]; rfl
  · rcases List.mem_append.1 hs with h1 | h1
    · exact cov_iff.2 ⟨s, h1, St.le_refl s⟩
    · rw [List.mem_singleton.1 h1]; exact h
theorem more_mem {L : List St} {t : St} (h : covB (minL L) t = false) (s : St) : s ∈ minL (minL L ++ [t]) ↔ s = t ∨ s ∈ minL L ∧ t.leB s = false := by
  have hn : ∀ q ∈ minL L, q.leB t = false := fun q hq => by
    cases hb : q.leB t with
    | false => rfl
    | true => have := cov_iff.2 ⟨q, hq, hb⟩; rw [h] at this; cases this
  rw [mem_minL, List.mem_append, List.mem_singleton]
  constructor
  · rintro ⟨h1 | h1, h2⟩
    · by_cases e : s = t
      · exact .inl e
      · refine .inr ⟨h1, ?_⟩
        cases hb : t.leB s with
        | false => rfl
        | true => exact absurd (h2 t (by simp) hb).symm e
    · exact .inl h1
  · rintro (h1 | ⟨h1, h2⟩)
    · subst h1
      refine ⟨.inr rfl, fun q hq hl => ?_⟩
      rcases List.mem_append.1 hq with h3 | h3
      · rw [hn q h3] at hl; cases hl
      · exact List.mem_singleton.1 h3
    · refine ⟨.inl h1, fun q hq hl => ?_⟩
      rcases List.mem_append.1 hq with h3 | h3
      · have e := mem_minL.1 (by rw [min_min]; exact h1 : s ∈ minL (minL L))
        exact e.2 q h3 hl
      · rw [List.mem_singleton.1 h3, h2] at hl; cases hl
def cntS (L : List St) (t : St) (i : Nat) : Nat := (L.take i).countP fun s => !t.leB s
theorem more_len {L : List St} {t : St} (h : covB (minL L) t = false) : (minL (minL L ++ [t])).length = 1 + cntS (minL L) t (minL L).length := by
  have hp : (minL (minL L ++ [t])).Perm (t :: (minL L).filter fun s => !t.leB s) := by
    refine (List.perm_ext_iff_of_nodup (minL_asc _).nodup ?_).2 fun s => ?_
    · refine List.nodup_cons.2 ⟨fun h1 => ?_, (minL_asc L).nodup.filter _⟩
      have := (List.mem_filter.1 h1).2
      rw [St.le_refl] at this; cases this
    · rw [more_mem h, List.mem_cons, List.mem_filter]
      simp
  rw [hp.length_eq, List.length_cons, ← List.countP_eq_length_filter]
  unfold cntS; rw [List.take_length]; omega
theorem cnt_step {L : List St} {t : St} {i : Int} {k k' : Int} (h0 : 0 ≤ i) (hi : i < (L.length : Int)) (hk : k = 1 + (cntS L t i.toNat : Int)) {b : Bool} (hb : t.leB (atS L i.toNat) = b) (hk' : k' = if b then k else k + 1) : k' = 1 + (cntS L t (i + 1).toNat : Int) := by
  rw [hk', hk, show (i + 1).toNat = i.toNat + 1 by omega]
  unfold cntS
  rw [List.take_succ_eq_append_getElem (by omega), List.countP_append, ← atS_eq]
  cases b <;> simp [List.countP_cons, hb] <;> omega
theorem cnt_le (L : List St) (t : St) (i : Nat) : cntS L t i ≤ L.length := by
  unfold cntS
  refine Nat.le_trans List.countP_le_length ?_
  rw [List.length_take]; omega
theorem more_in {L : List St} {t : St} {b : Bool} (h : covB (minL L) t = false) (hb : b = true ↔ ∃ j, j < (minL (minL L ++ [t])).length ∧ atS (minL (minL L ++ [t])) j = t) (hf : b = false) : False := by
  have := hb.2 (at_of_mem ((more_mem h t).2 (.inl rfl)))
  rw [hf] at this; cases this
structure Chn (t : St) (Q : List St) : Prop where
  pos : 0 < Q.length
  first : atS Q 0 = t
  low : ∀ s ∈ Q, t.leB s = true
  high : ∀ s ∈ Q, s.leB (atS Q (Q.length - 1)) = true
theorem Chn.start (t : St) : Chn t [t] := ⟨by simp, rfl, fun s hs => by rw [List.mem_singleton.1 hs]; exact St.le_refl t, fun s hs => by rw [List.mem_singleton.1 hs]; exact St.le_refl t⟩
theorem after_le {t p : St} (h : t.afterB p = true) : t.leB (t.after p) = true := by
  have h2 := after_t h
  rw [after_yes h, St.le_iff]
  show t.e ≤ t.e + p.e ∧ t.r ≤ t.r + p.r
  omega
theorem Chn.next {t u : St} {Q : List St} {k : Nat} (h : Chn t Q) (hk : k = Q.length - 1) (hu : (atS Q k).leB u = true) : Chn t (Q ++ [u]) := by
  subst hk
  have hp := h.pos
  have hl : atS (Q ++ [u]) ((Q ++ [u]).length - 1) = u := by
    unfold atS; rw [List.length_append, List.length_singleton, Nat.add_sub_cancel, List.getD_eq_getElem?_getD, List.getElem?_append_right (Nat.le_refl _)]; simp
  have hm : atS Q (Q.length - 1) ∈ Q := atS_mem (by omega)
  refine ⟨by rw [List.length_append, List.length_singleton]; omega, by rw [atS_app hp]; exact h.first, fun s hs => ?_, fun s hs => ?_⟩
  · rcases List.mem_append.1 hs with h1 | h1
    · exact h.low s h1
    · rw [List.mem_singleton.1 h1]; exact St.le_trans (h.low _ hm) hu
  · rw [hl]
    rcases List.mem_append.1 hs with h1 | h1
    · exact St.le_trans (h.high s h1) hu
    · rw [List.mem_singleton.1 h1]; exact St.le_refl u
theorem Chn.min {t : St} {Q : List St} (h : Chn t Q) : minL Q = [t] := by
  have ht : t ∈ Q := h.first ▸ atS_mem h.pos
  refine ((show Asc [t] from fun i hi => by simp at hi).uniq (minL_asc Q) fun s => ?_).symm
  rw [mem_minL, List.mem_singleton]
  constructor
  · intro e; subst e
    exact ⟨ht, fun q hq hl => St.le_antisymm hl (h.low q hq)⟩
  · rintro ⟨h1, h2⟩; exact (h2 t ht (h.low s h1)).symm
theorem le_ahead {a b : St} (h : a.leB b = true) (hb : b.aheadB a = true) : False := by
  rw [St.le_iff] at h; rw [St.ahead_iff] at hb; omega
theorem Chn.row0 {t : St} {Q : List St} (h : Chn t Q) : 0 < (rowL Q).length ∧ atS (rowL Q) 0 = t := by
  have ht : t ∈ rowL Q := mem_rowL.2 (h.first ▸ atS_mem h.pos)
  have hp := List.length_pos_of_mem ht
  refine ⟨hp, ?_⟩
  obtain ⟨j, hj, hjt⟩ := at_of_mem ht
  rcases Nat.eq_zero_or_pos j with h0 | h0
  · rw [← hjt, h0]
  · exfalso
    have h1 := (rowL_asc Q).lt' h0 hj
    rw [hjt] at h1
    exact le_ahead (h.low _ (mem_rowL.1 (atS_mem hp))) h1
theorem Chn.rowl {t : St} {Q : List St} (h : Chn t Q) : atS (rowL Q) ((((rowL Q).length : Nat) : Int) - 1).toNat = atS Q (((Q.length : Nat) : Int) - 1).toNat := by
  have hp := h.row0.1
  have hq := h.pos
  rw [show ((((rowL Q).length : Nat) : Int) - 1).toNat = (rowL Q).length - 1 by omega, show (((Q.length : Nat) : Int) - 1).toNat = Q.length - 1 by omega]
  have hm : atS Q (Q.length - 1) ∈ rowL Q := mem_rowL.2 (atS_mem (by omega))
  obtain ⟨j, hj, hjt⟩ := at_of_mem hm
  rcases (show j = (rowL Q).length - 1 ∨ j < (rowL Q).length - 1 by omega) with h0 | h0
  · rw [← h0, hjt]
  · exfalso
    have h1 := (rowL_asc Q).lt' h0 (by omega)
    rw [hjt] at h1
    exact le_ahead (h.high _ (mem_rowL.1 (atS_mem (L := rowL Q) (i := (rowL Q).length - 1) (by omega)))) h1
theorem awake_min : minL [St.mk 1 2, St.mk 0 3, St.mk 2 2] = [St.mk 0 3, St.mk 1 2] := by decide +kernel
end Go.Proofs.Ytlgeodnbkndciaa
