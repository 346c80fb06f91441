/- What could come where: mathematics. Any seat with layer 7 in it. -/
import Derived.Test.YtlgeodnbkndciaaGo
import Derived.Test.YtlgeodnbkndciaaPq
namespace Go.Proofs.Ytlgeodnbkndciaa
open Go.RowKit
set_option maxRecDepth 100000
set_option linter.unusedSimpArgs false
set_option linter.unusedVariables false

def rightC (L : List (List (List St))) (p : Po) : Bool :=
  decide (1 ≤ L.length ∧ L.length ≤ 8) && L.all (fun r => decide (r.length = L.length)) && (decide (0 ≤ p.n ∧ p.n < (L.length : Int)) && p.t.rightB)
def placesC (L : List (List (List St))) (p : Po) (k : Int) : List St :=
  if rightC L p && decide (0 ≤ k ∧ k < (L.length : Int)) then minL (sumsP [p.t] (atR (at3 L p.n.toNat) k.toNat)) else []
def couldC (L : List (List (List St))) (a b : Po) : Bool := rightC L b && covB (placesC L a b.n) b.t
section
variable {L : List (List (List St))} {p a b d : Po} {k : Int}
theorem rightC_iff : rightC L p = true ↔ (1 ≤ L.length ∧ L.length ≤ 8) ∧ (∀ r ∈ L, r.length = L.length) ∧ (0 ≤ p.n ∧ p.n < (L.length : Int)) ∧ p.t.rightB = true := by
  unfold rightC; simp [and_assoc]
theorem rc_len (h : L.length < 1 ∨ 8 < L.length) : rightC L p = false := by
  rw [← Bool.not_eq_true, rightC_iff]; intro z; omega
theorem rc_row {i : Nat} (hi : i < L.length) (h : ¬ (at3 L i).length = L.length) : rightC L p = false := by
  rw [← Bool.not_eq_true, rightC_iff]
  intro z
  exact h (z.2.1 _ (by rw [at3_eq hi]; exact List.getElem_mem hi))
theorem rc_fin {i : Int} (h1 : 1 ≤ L.length ∧ L.length ≤ 8) (h : ∀ k, k < i.toNat → (at3 L k).length = L.length) (hi : ¬ i < (L.length : Int)) : rightC L p = (decide (0 ≤ p.n ∧ p.n < (L.length : Int)) && p.t.rightB) := by
  unfold rightC
  rw [decide_eq_true h1, Bool.true_and, show L.all (fun r => decide (r.length = L.length)) = true from ?_, Bool.true_and]
  rw [List.all_eq_true]
  intro r hr
  obtain ⟨q, hq, e⟩ := List.mem_iff_getElem.1 hr
  have := h q (by omega)
  rw [at3_eq hq, e] at this
  exact decide_eq_true this
theorem rightC_at (h : rightC L p = true) : (1 ≤ L.length ∧ L.length ≤ 8) ∧ (0 ≤ p.n ∧ p.n < (L.length : Int)) ∧ p.t.rightB = true ∧ ∀ i, i < L.length → (at3 L i).length = L.length := by
  have z := rightC_iff.1 h
  exact ⟨z.1, z.2.2.1, z.2.2.2, fun i hi => z.2.1 _ (by rw [at3_eq hi]; exact List.getElem_mem hi)⟩
theorem pl_no (h : rightC L p = false ∨ ¬ (0 ≤ k ∧ k < (L.length : Int))) : placesC L p k = [] := by
  unfold placesC
  rcases h with h | h
  · rw [h]; rfl
  · rw [decide_eq_false h, Bool.and_false]; rfl
theorem pl_yes (h : rightC L p = true) (hk : 0 ≤ k ∧ k < (L.length : Int)) : placesC L p k = minL (sumsP [p.t] (atR (at3 L p.n.toNat) k.toNat)) := by
  unfold placesC; rw [h, decide_eq_true hk]; rfl
theorem could_right (h : couldC L a b = true) : rightC L b = true := by
  unfold couldC at h; rw [Bool.and_eq_true] at h; exact h.1
theorem mem_sums1 {t : St} {l : List St} {s : St} : s ∈ sumsP [t] l ↔ ∃ q ∈ l, t.afterB q = true ∧ t.after q = s := by
  rw [mem_sums]; simp
theorem aft_len (t : St) (l : List St) (k : Nat) : (partP [t] l 0 k).length ≤ l.length := by
  unfold partP
  simp only [List.take_zero, sumsP, List.flatMap_nil, List.nil_append, List.length_map]
  exact Nat.le_trans (List.length_filter_le _ _) (by rw [List.length_take]; omega)
theorem aft_zero (t : St) (l : List St) : [] = partP [t] l 0 (0 : Int).toNat := by simp [partP, sumsP]
theorem aft_end {t : St} {l : List St} {k : Int} (h : ¬ k < (l.length : Int)) : partP [t] l 0 k.toNat = sumsP [t] l := by
  have e : l.take k.toNat = l := List.take_of_length_le (by omega)
  simp only [partP, List.take_zero, e, sumsP, List.flatMap_nil, List.nil_append, List.flatMap_cons, List.append_nil]
  rfl
theorem cov_minL {l : List St} {t : St} : covB (minL l) t = true ↔ ∃ s ∈ l, s.leB t = true := by rw [min_cov, cov_iff]
theorem min_one (t : St) : minL [t] = [t] := (minL_of (fun k hk => by simp at hk) (fun s => by
  simp only [List.mem_singleton]
  exact ⟨fun h => ⟨h, fun u hu _ => hu.trans h.symm⟩, fun h => h.1⟩)).symm
end
theorem placesC_len {L : List (List (List St))} {a : Po} {k : Int} (hs : Sm3 L) : (placesC L a k).length ≤ 20000000 := by
  unfold placesC
  split
  · refine Nat.le_trans (minL_len _) (Nat.le_trans (sums_len _ _) ?_)
    have := hs.2.2 a.n.toNat k.toNat
    simp only [List.length_singleton]; omega
  · simp
/-! ### By a graph's closure -/
section
variable {n : Nat} {E : List Ed} {a b d p : Po} {k : Int}
theorem rightC_clo (h1 : 1 ≤ n) (h8 : n ≤ 8) : rightC (cloT E n n) p = true ↔ (0 ≤ p.n ∧ p.n < (n : Int)) ∧ p.t.rightB = true := by
  rw [rightC_iff, cloT_len]
  constructor
  · intro h; exact h.2.2
  · intro h
    refine ⟨⟨h1, h8⟩, fun r hr => ?_, h⟩
    obtain ⟨q, hq, rfl⟩ := List.mem_map.1 hr
    exact row_len E n q n
theorem could_iff (hF : Fits (n : Int) E) (h1 : 1 ≤ n) (h8 : n ≤ 8) : couldC (cloT E n n) a b = true ↔
    ((0 ≤ a.n ∧ a.n < (n : Int)) ∧ a.t.rightB = true) ∧ ((0 ≤ b.n ∧ b.n < (n : Int)) ∧ b.t.rightB = true) ∧ ∃ s, WayS E a.n b.n s ∧ a.t.afterB s = true ∧ (a.t.after s).leB b.t = true := by
  unfold couldC
  rw [Bool.and_eq_true, rightC_clo h1 h8]
  by_cases ha : rightC (cloT E n n) a = true
  · have ha2 := (rightC_clo h1 h8).1 ha
    constructor
    · rintro ⟨hb, hc⟩
      rw [pl_yes ha (by rw [cloT_len]; exact hb.1), cov_minL] at hc
      obtain ⟨m, hm, hle⟩ := hc
      obtain ⟨q, hq, hq1, rfl⟩ := mem_sums1.1 hm
      rw [cloT_at (by omega)] at hq
      have hw := clo_sound hF (i := a.n.toNat) (j := b.n.toNat) (by omega) (by omega) hq
      rw [show ((a.n.toNat : Nat) : Int) = a.n by omega, show ((b.n.toNat : Nat) : Int) = b.n by omega] at hw
      exact ⟨ha2, hb, q, hw, hq1, hle⟩
    · rintro ⟨_, hb, s, hw, hs1, hle⟩
      refine ⟨hb, ?_⟩
      rw [pl_yes ha (by rw [cloT_len]; exact hb.1), cov_minL]
      have hc := way_cov hF (i := a.n) (j := b.n) ha2.1.1 ha2.1.2 hw
      obtain ⟨q, hq, hqs⟩ := cov_iff.1 hc
      have hqr : q.rightB = true := by
        rw [cloT_at (by omega)] at hq
        exact way_right (clo_sound hF (by omega) (by omega) hq)
      have z := after_mono (p := a.t) (q := s) (m := a.t) (n := q) (St.le_refl _) hqs ha2.2 hqr hs1
      exact ⟨_, mem_sums1.2 ⟨q, hq, z.1, rfl⟩, St.le_trans z.2 hle⟩
  · rw [Bool.not_eq_true] at ha
    constructor
    · rintro ⟨_, hc⟩; rw [pl_no (.inl ha)] at hc; cases hc
    · rintro ⟨h, _⟩; rw [(rightC_clo h1 h8).2 h] at ha; cases ha
theorem could_self (hF : Fits (n : Int) E) (h1 : 1 ≤ n) (h8 : n ≤ 8) : couldC (cloT E n n) a a = rightC (cloT E n n) a := by
  rw [Bool.eq_iff_iff, could_iff hF h1 h8, rightC_clo h1 h8]
  refine ⟨fun h => h.1, fun h => ⟨h, h, St.zero, way_nil _ _, ?_⟩⟩
  have hr := St.right_iff.1 h.2
  have ha : a.t.afterB St.zero = true := by
    unfold St.afterB
    rw [Bool.and_eq_true, Bool.and_eq_true]
    exact ⟨⟨h.2, by decide⟩, St.right_iff.2 (by simp only [St.add, St.zero]; omega)⟩
  have z := after_t ha
  refine ⟨ha, ?_⟩
  rw [St.le_iff]
  have z0 : St.zero.e = 0 ∧ St.zero.r = 0 := ⟨rfl, rfl⟩
  omega
theorem could_trans (hF : Fits (n : Int) E) (h1 : 1 ≤ n) (h8 : n ≤ 8) (hx : couldC (cloT E n n) a b = true) (hy : couldC (cloT E n n) b d = true) : couldC (cloT E n n) a d = true := by
  rw [could_iff hF h1 h8] at *
  obtain ⟨ha, hb, s, hs, hs1, hs2⟩ := hx
  obtain ⟨_, hd, u, hu, hu1, hu2⟩ := hy
  have e1 := after_t hs1
  have e2 := after_t hu1
  have l1 := St.le_iff.1 hs2
  have l2 := St.le_iff.1 hu2
  have hdr := St.right_iff.1 hd.2
  have har := St.right_iff.1 ha.2
  have hsu : s.afterB u = true := by
    unfold St.afterB
    rw [Bool.and_eq_true, Bool.and_eq_true]
    exact ⟨⟨way_right hs, way_right hu⟩, St.right_iff.2 (by simp only [St.add]; omega)⟩
  have e3 := after_t hsu
  have hasu : a.t.afterB (s.after u) = true := by
    unfold St.afterB
    rw [Bool.and_eq_true, Bool.and_eq_true]
    exact ⟨⟨ha.2, after_right hsu⟩, St.right_iff.2 (by simp only [St.add]; omega)⟩
  have e4 := after_t hasu
  exact ⟨ha, hd, s.after u, way_add hs hu hsu, hasu, St.le_iff.2 (by omega)⟩
theorem could_mono {a' b' : Po} (hF : Fits (n : Int) E) (h1 : 1 ≤ n) (h8 : n ≤ 8) (h : couldC (cloT E n n) a b = true) (ha : a'.n = a.n) (hb : b'.n = b.n) (la : a'.t.leB a.t = true) (lb : b.t.leB b'.t = true) (ra : a'.t.rightB = true) (rb : b'.t.rightB = true) : couldC (cloT E n n) a' b' = true := by
  rw [could_iff hF h1 h8] at *
  obtain ⟨ha2, hb2, s, hs, hs1, hs2⟩ := h
  have z := after_mono (p := a.t) (q := s) (m := a'.t) (n := s) la (St.le_refl _) ra (way_right hs) hs1
  exact ⟨⟨by rw [ha]; exact ha2.1, ra⟩, ⟨by rw [hb]; exact hb2.1, rb⟩, s, by rw [ha, hb]; exact hs, z.1, St.le_trans z.2 (St.le_trans hs2 lb)⟩
theorem could_edge (hF : Fits (n : Int) E) (h1 : 1 ≤ n) (h8 : n ≤ 8) (h : couldC (cloT E n n) a b = true) {x : Ed} (hx : x ∈ E) (hf : b.n = x.f) (ht : (b.t.add x.p).rightB = true) : couldC (cloT E n n) a ⟨x.t, b.t.add x.p⟩ = true := by
  have hfx := fit_t hF hx
  refine could_trans (b := b) hF h1 h8 h ?_
  rw [could_iff hF h1 h8] at *
  obtain ⟨_, hb2, _⟩ := h
  have hp : St.zero.afterB x.p = true := by
    unfold St.afterB
    rw [Bool.and_eq_true, Bool.and_eq_true]
    exact ⟨⟨by decide, hfx.2.2.2.2.2⟩, St.right_iff.2 (by simp only [St.add, St.zero]; omega)⟩
  have e1 := after_t hp
  have hw : WayS E b.n x.t (St.zero.after x.p) := way_snoc (i := b.n) (s := St.zero) (by rw [hf]; exact way_nil _ _) hx hp
  have e0 : St.zero.after x.p = x.p := by rw [St.eq_iff]; simp only [St.zero] at e1 ⊢; omega
  rw [e0] at hw
  have hbp : b.t.afterB x.p = true := by
    unfold St.afterB
    rw [Bool.and_eq_true, Bool.and_eq_true]
    exact ⟨⟨hb2.2, hfx.2.2.2.2.2⟩, ht⟩
  have e2 : b.t.after x.p = b.t.add x.p := by unfold St.after; rw [if_pos hbp]
  exact ⟨hb2, ⟨by simp only; omega, ht⟩, x.p, hw, hbp, by rw [e2]; exact St.le_refl _⟩
theorem places_self (hF : Fits (n : Int) E) (h1 : 1 ≤ n) (h8 : n ≤ 8) (ha : rightC (cloT E n n) a = true) : placesC (cloT E n n) a a.n = [a.t] := by
  have ha2 := (rightC_clo h1 h8).1 ha
  rw [pl_yes ha (by rw [cloT_len]; exact ha2.1), self_one hF (by omega)]
  have hz : sumsP [a.t] [St.zero] = [a.t] := sums_zero (A := [a.t]) fun q hq => by rw [List.mem_singleton.1 hq]; exact ha2.2
  rw [hz]
  exact min_one a.t
theorem places_each (ha : rightC (cloT E n n) a = true) (hk : 0 ≤ k ∧ k < (n : Int)) (h1 : 1 ≤ n) (h8 : n ≤ 8) {i : Nat} (hi : i < (placesC (cloT E n n) a k).length) : couldC (cloT E n n) a ⟨k, atS (placesC (cloT E n n) a k) i⟩ = true := by
  have hm : atS (placesC (cloT E n n) a k) i ∈ placesC (cloT E n n) a k := atS_mem hi
  unfold couldC
  rw [Bool.and_eq_true, rightC_clo h1 h8]
  refine ⟨⟨hk, ?_⟩, cov_iff.2 ⟨_, hm, St.le_refl _⟩⟩
  rw [pl_yes ha (by rw [cloT_len]; exact hk)] at hm ⊢
  exact sums_right (mem_minL.1 hm).1
end
theorem places_ne {L : List (List (List St))} {a : Po} {k : Int} {i : Nat} (h : i < (placesC L a k).length) : rightC L a = true ∧ (0 ≤ k ∧ k < (L.length : Int)) := by
  cases hr : rightC L a with
  | false => rw [pl_no (.inl hr)] at h; simp at h
  | true =>
    by_cases hk : 0 ≤ k ∧ k < (L.length : Int)
    · exact ⟨rfl, hk⟩
    · rw [pl_no (.inr hk)] at h; simp at h
theorem places_right {L : List (List (List St))} {a : Po} {k : Int} {i : Nat} (h : i < (placesC L a k).length) : (atS (placesC L a k) i).rightB = true := by
  have h2 := places_ne h
  have hm : atS (placesC L a k) i ∈ placesC L a k := atS_mem h
  rw [pl_yes h2.1 h2.2] at hm ⊢
  exact sums_right (mem_minL.1 hm).1
theorem right_same {L : List (List (List St))} {a : Po} {k : Int} {t : St} (ha : rightC L a = true) (hk : 0 ≤ k ∧ k < (L.length : Int)) (ht : t.rightB = true) : rightC L ⟨k, t⟩ = true := by
  have z := rightC_iff.1 ha
  exact rightC_iff.2 ⟨z.1, z.2.1, hk, ht⟩
theorem could_cov {L : List (List (List St))} {a : Po} {k : Int} {t : St} {i : Nat} (h : i < (placesC L a k).length) (ht : t.rightB = true) : couldC L a ⟨k, t⟩ = covB (placesC L a k) t := by
  have h2 := places_ne h
  unfold couldC
  rw [right_same h2.1 h2.2 ht, Bool.true_and]
theorem could_at {L : List (List (List St))} {a : Po} {k : Int} {i : Nat} (h : i < (placesC L a k).length) : couldC L a ⟨k, atS (placesC L a k) i⟩ = true := by
  rw [could_cov h (places_right h), cov_iff]
  exact ⟨_, atS_mem h, St.le_refl _⟩
theorem could_no {L : List (List (List St))} {a : Po} (b : Po) (h : rightC L a = false) : couldC L a b = false ∧ couldC L b a = false := by
  unfold couldC
  rw [pl_no (.inl h), h]
  exact ⟨by simp [covB], rfl⟩
theorem places_nil {a : Po} {k : Int} : placesC [] a k = [] := pl_no (.inl (rc_len (by simp)))
theorem places_bad {n : Int} {E : List Ed} {a : Po} {k : Int} (h : ¬ (cloG n E).2 = 0) : (placesC (cloG n E).1 a k).length = 0 := by
  have z := clo_none h
  rw [List.length_eq_zero_iff.1 z, places_nil]; rfl
theorem sm_light {L : List (List (List St))} (h : L.length ≤ 20 ∧ ∀ k, k < L.length → (at3 L k).length ≤ 20 ∧ ∀ q, q < (at3 L k).length → (atR (at3 L k) q).length < 3000) : Sm3 L := by
  refine ⟨by omega, fun i => ?_, fun i j => ?_⟩
  · rcases Nat.lt_or_ge i L.length with hi | hi
    · have := (h.2 i hi).1; omega
    · rw [at3_out hi]; simp
  · rcases Nat.lt_or_ge i L.length with hi | hi
    · rcases Nat.lt_or_ge j (at3 L i).length with hj | hj
      · have := (h.2 i hi).2 j hj; omega
      · rw [atR_out hj]; simp
    · rw [at3_out hi]; simp [atR]
theorem could_both {n : Nat} {E : List Ed} {a b : Po} (hF : Fits (n : Int) E) (h1 : 1 ≤ n) (h8 : n ≤ 8) (h : couldC (cloT E n n) a b = true) :
    (0 ≤ a.n ∧ a.n < (n : Int) ∧ 0 ≤ a.t.e ∧ a.t.e ≤ 1000000 ∧ 0 ≤ a.t.r ∧ a.t.r ≤ 1000000) ∧ 0 ≤ b.n ∧ b.n < (n : Int) ∧ 0 ≤ b.t.e ∧ b.t.e ≤ 1000000 ∧ 0 ≤ b.t.r ∧ b.t.r ≤ 1000000 := by
  obtain ⟨ha, hb, _⟩ := (could_iff hF h1 h8).1 h
  have := St.right_iff.1 ha.2
  have := St.right_iff.1 hb.2
  omega
theorem places_anti {L : List (List (List St))} {a : Po} {k : Int} {i j : Nat} (hj : j < i) (hi : i < (placesC L a k).length) : (atS (placesC L a k) j).leB (atS (placesC L a k) i) = false := by
  unfold placesC at *
  split at hi
  · rename_i h
    simp only [h, if_true]
    exact Bool.eq_false_iff.2 fun h2 => min_false h2 (by omega) (by omega) (by simpa only [h, if_true] using hi)
  · simp at hi
end Go.Proofs.Ytlgeodnbkndciaa
