/- Laws of rows of stamps: mathematics. Any seat. -/
import Derived.Test.YtabpnebiannglaaAm
namespace Go.Proofs.Ytabpnebiannglaa
open Go.RowKit Go.Sort

theorem cov_iff {L : List St} {t : St} : covB L t = true ↔ ∃ s ∈ L, s.leB t = true := by unfold covB; rw [List.any_eq_true]
theorem bey_iff {A B : List St} : beyB A B = true ↔ ∀ t ∈ A, covB B t = true := by unfold beyB; rw [List.all_eq_true]
theorem bey_refl (A : List St) : beyB A A = true := bey_iff.2 fun t ht => cov_iff.2 ⟨t, ht, St.le_refl t⟩
theorem cov_trans {A B : List St} {t : St} (h : beyB A B = true) (hc : covB A t = true) : covB B t = true := by
  obtain ⟨s, hs, hl⟩ := cov_iff.1 hc
  obtain ⟨q, hq, hl2⟩ := cov_iff.1 (bey_iff.1 h s hs)
  exact cov_iff.2 ⟨q, hq, St.le_trans hl2 hl⟩
theorem bey_trans {A B C : List St} (h1 : beyB A B = true) (h2 : beyB B C = true) : beyB A C = true := bey_iff.2 fun t ht => cov_trans h2 (bey_iff.1 h1 t ht)
/-- Below each stamp of a list there is a least one. -/
theorem least_below : ∀ (n : Nat) {L : List St} (_ : L.length ≤ n) (t : St), t ∈ L → ∃ m ∈ L, m.leB t = true ∧ ∀ s ∈ L, s.leB m = true → s = m := by
  intro n
  induction n with
  | zero => intro L hn t ht; cases L with
    | nil => cases ht
    | cons a r => simp at hn
  | succ n ih =>
    intro L hn t ht
    by_cases h : ∀ s ∈ L, s.leB t = true → s = t
    · exact ⟨t, ht, St.le_refl t, h⟩
    · obtain ⟨s, hs, hl, hne⟩ : ∃ s, s ∈ L ∧ s.leB t = true ∧ ¬ s = t := by
        simp only [Classical.not_forall] at h
        obtain ⟨s, hs, hl, hne⟩ := h
        exact ⟨s, hs, hl, hne⟩
      have hs' : s ∈ L.filter (fun x => !decide (x = t)) := by simp [hs, hne]
      have hlen : (L.filter (fun x => !decide (x = t))).length ≤ n := by
        have : (L.filter (fun x => !decide (x = t))).length < L.length := by
          rw [List.length_filter_lt_length_iff_exists]
          exact ⟨t, ht, by simp⟩
        omega
      obtain ⟨m, hm, hms, hmin⟩ := ih hlen s hs'
      have hmL := (List.mem_filter.1 hm).1
      refine ⟨m, hmL, St.le_trans hms hl, fun u hu hum => ?_⟩
      by_cases e : u = t
      · exfalso
        subst e
        have := St.le_antisymm (St.le_trans hum hms) hl
        exact hne this.symm
      · exact hmin u (by simp [hu, e]) hum
theorem min_cov (L : List St) (t : St) : covB (minL L) t = covB L t := by
  rw [Bool.eq_iff_iff, cov_iff, cov_iff]
  constructor
  · rintro ⟨s, hs, hl⟩; exact ⟨s, (mem_minL.1 hs).1, hl⟩
  · rintro ⟨s, hs, hl⟩
    obtain ⟨m, hm, hms, hmin⟩ := least_below _ (Nat.le_refl _) s hs
    exact ⟨m, mem_minL.2 ⟨hm, hmin⟩, St.le_trans hms hl⟩
theorem min_same {A B : List St} : minL A = minL B ↔ beyB A B = true ∧ beyB B A = true := by
  constructor
  · intro h
    have : ∀ X Y : List St, minL X = minL Y → beyB X Y = true := fun X Y h => bey_iff.2 fun t ht => by
      rw [← min_cov, ← h, min_cov]; exact cov_iff.2 ⟨t, ht, St.le_refl t⟩
    exact ⟨this A B h, this B A h.symm⟩
  · rintro ⟨h1, h2⟩
    have key : ∀ X Y : List St, beyB X Y = true → beyB Y X = true → ∀ t, t ∈ minL X → t ∈ minL Y := by
      intro X Y h1 h2 t ht
      obtain ⟨ht, hmin⟩ := mem_minL.1 ht
      obtain ⟨q, hq, hqt⟩ := cov_iff.1 (bey_iff.1 h1 t ht)
      obtain ⟨p, hp, hpq⟩ := cov_iff.1 (bey_iff.1 h2 q hq)
      have e : p = t := hmin p hp (St.le_trans hpq hqt)
      subst e
      have e2 : q = p := St.le_antisymm hqt hpq
      subst e2
      refine mem_minL.2 ⟨hq, fun s hs hl => ?_⟩
      obtain ⟨r, hr, hrs⟩ := cov_iff.1 (bey_iff.1 h2 s hs)
      have e3 : r = q := hmin r hr (St.le_trans hrs hl)
      subst e3
      exact St.le_antisymm hl hrs
    exact (minL_asc A).uniq (minL_asc B) fun t => ⟨key A B h1 h2 t, key B A h2 h1 t⟩
theorem min_sameB (A B : List St) : decide (minL A = minL B) = (beyB A B && beyB B A) := by
  rw [Bool.eq_iff_iff, decide_eq_true_eq, min_same, Bool.and_eq_true]
theorem cov_app (A B : List St) (t : St) : covB (A ++ B) t = (covB A t || covB B t) := by unfold covB; rw [List.any_append]
theorem joined (A B : List St) : minL (A ++ B) = minL (minL A ++ minL B) := min_same.2 (by
  constructor
  · refine bey_iff.2 fun t ht => ?_
    rw [cov_app, min_cov, min_cov]
    rcases List.mem_append.1 ht with h | h
    · rw [cov_iff.2 ⟨t, h, St.le_refl t⟩]; rfl
    · rw [cov_iff.2 ⟨t, h, St.le_refl t⟩, Bool.or_true]
  · refine bey_iff.2 fun t ht => ?_
    rw [cov_app]
    rcases List.mem_append.1 ht with h | h
    · rw [cov_iff.2 ⟨t, (mem_minL.1 h).1, St.le_refl t⟩]; rfl
    · rw [cov_iff.2 ⟨t, (mem_minL.1 h).1, St.le_refl t⟩, Bool.or_true])
theorem row_mem {A B : List St} (h : ∀ t, t ∈ A ↔ t ∈ B) : rowL A = rowL B := (rowL_asc A).uniq (rowL_asc B) fun t => by rw [mem_rowL, mem_rowL, h]
theorem min_mem {A B : List St} (h : ∀ t, t ∈ A ↔ t ∈ B) : minL A = minL B := (minL_asc A).uniq (minL_asc B) fun t => by
  rw [mem_minL, mem_minL, h]
  exact and_congr_right fun _ => forall_congr' fun s => by rw [h]
theorem turned_mem {L : List St} {k : Nat} (hk : k < L.length) (t : St) : t ∈ [atS L k] ++ L.drop k ++ L.take k ↔ t ∈ L := by
  have e : ∀ t, t ∈ L ↔ t ∈ L.take k ∨ t ∈ L.drop k := fun t => by rw [← List.mem_append, List.take_append_drop]
  rw [List.mem_append, List.mem_append, List.mem_singleton, e]
  constructor
  · rintro ((h | h) | h)
    · rw [← e, h]; exact atS_mem hk
    · exact .inr h
    · exact .inl h
  · rintro (h | h)
    · exact .inr h
    · exact .inl (.inr h)
theorem awake_min : minL [St.mk 1 2, St.mk 0 3, St.mk 2 2] = [St.mk 0 3, St.mk 1 2] := by decide +kernel
end Go.Proofs.Ytabpnebiannglaa
