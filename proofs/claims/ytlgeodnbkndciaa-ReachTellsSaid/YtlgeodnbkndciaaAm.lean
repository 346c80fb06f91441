/- Rows of stamps in order: what Compact keeps; entries. Any seat with the sort in it. -/
import Derived.Test.YtlgeodnbkndciaaEl
import Derived.Test.YtlgeodnbkndciaaAo
namespace Go.Proofs.Ytlgeodnbkndciaa
open Go.RowKit Go.Sort
set_option maxRecDepth 100000
set_option linter.unusedSimpArgs false
set_option linter.unusedVariables false

/-! ### Compact -/
structure CInv (L K : List St) (k0 k2 k : Nat) : Prop where
  len : K.length = L.length
  h1 : 1 ≤ k2
  h2 : k0 + k2 ≤ L.length
  h3 : 1 ≤ k
  h4 : k + 1 ≤ k0 + k2
  same : ∀ p, k0 + k2 - 1 ≤ p → atS K p = atS L p
  asc : ∀ j, j + 1 < k → (atS K j).aheadB (atS K (j + 1)) = true
  last : atS K (k - 1) = atS L (k0 + k2 - 1)
  mem : ∀ t, (∃ j, j < k ∧ atS K j = t) ↔ (∃ j, j < k0 + k2 ∧ atS L j = t)
/-- A row in order, with stamps that stand there more than once. -/
def Ord (L : List St) : Prop := ∀ i, i + 1 < L.length → atS L i = atS L (i + 1) ∨ (atS L i).aheadB (atS L (i + 1)) = true
theorem CInv.start {L : List St} {k : Nat} (hk : 1 ≤ k) (hl : k < L.length) (ha : ∀ j, j + 1 < k → (atS L j).aheadB (atS L (j + 1)) = true) (he : atS L k = atS L (k - 1)) : CInv L L k 1 k :=
  ⟨rfl, Nat.le_refl _, by omega, hk, Nat.le_refl _, fun _ _ => rfl, ha, by rw [Nat.add_sub_cancel, he], fun t => ⟨fun ⟨j, h1, h2⟩ => ⟨j, by omega, h2⟩, fun ⟨j, h1, h2⟩ => by
    rcases (show j < k ∨ j = k by omega) with h3 | h3
    · exact ⟨j, h3, h2⟩
    · exact ⟨k - 1, by omega, by rw [← he, ← h3, h2]⟩⟩⟩
theorem CInv.skip {L K : List St} {k0 k2 k : Nat} (h : CInv L K k0 k2 k) (hl : k0 + k2 < L.length) (he : atS K (k0 + k2) = atS K (k0 + (k2 - 1))) : CInv L K k0 (k2 + 1) k := by
  have := h.h1
  have e1 := h.same (k0 + k2) (by omega)
  have e2 := h.same (k0 + k2 - 1) (by omega)
  rw [show k0 + (k2 - 1) = k0 + k2 - 1 by omega] at he
  refine ⟨h.len, by omega, by omega, h.h3, by have := h.h4; omega, fun p hp => h.same p (by omega), h.asc, ?_, fun t => ?_⟩
  · rw [h.last, show k0 + (k2 + 1) - 1 = k0 + k2 by omega, ← e1, he, e2]
  · rw [h.mem]
    constructor
    · rintro ⟨j, h1, h2⟩; exact ⟨j, by omega, h2⟩
    · rintro ⟨j, h1, h2⟩
      rcases (show j < k0 + k2 ∨ j = k0 + k2 by omega) with h3 | h3
      · exact ⟨j, h3, h2⟩
      · exact ⟨k0 + k2 - 1, by omega, by rw [← e2, ← he, e1, ← h3, h2]⟩
theorem CInv.put {L K : List St} {k0 k2 k : Nat} (h : CInv L K k0 k2 k) (hs : Ord L) (hl : k0 + k2 < L.length) (he : ¬ atS K (k0 + k2) = atS K (k0 + (k2 - 1))) : CInv L (K.set k (atS K (k0 + k2))) k0 (k2 + 1) (k + 1) := by
  have g1 := h.h1
  have g4 := h.h4
  have g3 := h.h3
  have g2 := h.h2
  have e1 := h.same (k0 + k2) (by omega)
  have e2 := h.same (k0 + k2 - 1) (by omega)
  rw [show k0 + (k2 - 1) = k0 + k2 - 1 by omega] at he
  have hk : k < K.length := by rw [h.len]; omega
  refine ⟨by simp [h.len], by omega, by omega, by omega, by omega, fun p hp => ?_, fun j hj => ?_, ?_, fun t => ?_⟩
  · rw [atS_set hk, if_neg (by omega)]; exact h.same p (by omega)
  · rw [atS_set hk, atS_set hk, if_neg (by omega)]
    rcases (show j + 1 < k ∨ j + 1 = k by omega) with h5 | h5
    · rw [if_neg (by omega)]; exact h.asc j h5
    · rw [if_pos h5.symm, show j = k - 1 by omega, h.last]
      have := hs (k0 + k2 - 1) (by omega)
      rw [show k0 + k2 - 1 + 1 = k0 + k2 by omega] at this
      rcases this with h6 | h6
      · exact absurd (by rw [e1, e2, h6]) he
      · rw [e1]; exact h6
  · rw [atS_set hk, if_pos (by omega), show k0 + (k2 + 1) - 1 = k0 + k2 by omega, e1]
  · constructor
    · rintro ⟨j, h5, h6⟩
      rw [atS_set hk] at h6
      split at h6
      · exact ⟨k0 + k2, by omega, by rw [← e1]; exact h6⟩
      · obtain ⟨j', h7, h8⟩ := (h.mem t).1 ⟨j, by omega, h6⟩
        exact ⟨j', by omega, h8⟩
    · rintro ⟨j, h5, h6⟩
      rcases (show j < k0 + k2 ∨ j = k0 + k2 by omega) with h7 | h7
      · obtain ⟨j', h8, h9⟩ := (h.mem t).2 ⟨j, h7, h6⟩
        exact ⟨j', by omega, by rw [atS_set hk, if_neg (by omega)]; exact h9⟩
      · exact ⟨k, by omega, by rw [atS_set hk, if_pos rfl, e1, ← h7, h6]⟩
theorem CInv.fin {L K : List St} {k0 k2 k : Nat} (h : CInv L K k0 k2 k) (he : L.length ≤ k0 + k2) : Asc (K.take k) ∧ ∀ t, t ∈ K.take k ↔ t ∈ L := by
  have g2 := h.h2
  have g4 := h.h4
  have hl : (K.take k).length = k := by rw [List.length_take, h.len]; omega
  refine ⟨fun i hi => ?_, fun t => ?_⟩
  · rw [hl] at hi
    rw [atS_take (by omega), atS_take (by omega)]; exact h.asc i hi
  · rw [mem_at, mem_at, hl, show L.length = k0 + k2 by omega]
    rw [← h.mem]
    constructor
    · rintro ⟨j, h5, h6⟩; exact ⟨j, h5, by rw [← atS_take h5]; exact h6⟩
    · rintro ⟨j, h5, h6⟩; exact ⟨j, h5, by rw [atS_take h5]; exact h6⟩
theorem asc_of {L : List St} (h : ∀ j, j + 1 < L.length → (atS L j).aheadB (atS L (j + 1)) = true) : Asc L := h
theorem asc_short {L : List St} (h : L.length < 2) : Asc L := fun i hi => by omega
theorem ord_go {L : List St} {k : Int} (hs : Ord L) (h0 : 1 ≤ k) (hl : k < L.length) (ha : ∀ j, j + 1 < k.toNat → (atS L j).aheadB (atS L (j + 1)) = true) (he : ¬ atS L k.toNat = atS L (k - 1).toNat) : ∀ j, j + 1 < (k + 1).toNat → (atS L j).aheadB (atS L (j + 1)) = true := fun j hj => by
  rcases (show j + 1 < k.toNat ∨ j + 1 = k.toNat by omega) with h | h
  · exact ha j h
  · rcases hs j (by omega) with h1 | h1
    · exact absurd (by rw [← h, show (k - 1).toNat = j by omega, h1]) he
    · exact h1
theorem ord_of_sorted {d : Array St} (h : SortedIn St.aheadB 0 d.size d) : Ord d.toList := fun i hi => by
  have hi' : i + 1 < d.size := by simpa using hi
  have h1 := h i (i + 1) (by omega) (by omega) hi'
  have e : ∀ k, k < d.size → atS d.toList k = d[k]! := fun k hk => by rw [atS_eq (by simpa using hk)]; simp [hk]
  rw [e i (by omega), e (i + 1) hi']
  cases hq : (d[i]!).aheadB (d[i + 1]!) with
  | true => exact .inr rfl
  | false => exact .inl (ahead_tri hq h1)
/-! ### Entries -/
theorem gof_sub {m l h n c g o : Nat} {v : Value} (e : v = .slice (some ⟨g, o, none⟩) n c) : gof (subS m l h v) = g := by
  subst e
  simp only [subS, Option.map_some, addr_add]
  split <;> rfl
section
variable {R : List Nat} {w0 w : World} {B : List Ent} {i n p j : Nat} {t m : Nat} {v : Value} {xs : List Value} {K : List St}
theorem Mm.toGot (M : Mm R w0 w B) (h : B[i]? = some (.row t m v n xs)) : Mm R w0 w (B.set i (.got m v n xs)) := by
  refine M.swap h (x' := .got m v n xs) (Out.refl _ _) (M.rv h) (fun g hg => ?_) (fun g hg => by cases hg)
  simp only [Ent.fp] at hg ⊢
  split at hg
  · cases hg
  · rw [(own_spot (M.ow h) (by omega)).1]
    exact .inl (by simpa using hg)
theorem Mm.subGot (M : Mm R w0 w B) (h : B[i]? = some (.got 2 v (n - p) (cS (K.drop p)))) (hK : K.length = n) (hj : p + j ≤ n) : Mm R w0 w (B.set i (.got 2 (subS 2 j (n - p) v) (n - (p + j)) (cS (K.drop (p + j))))) := by
  have hr := M.gv h
  have hs := sub_rv (k := j) hr (by rw [List.length_drop, hK]) (by omega)
  rw [List.drop_drop, show n - p - j = n - (p + j) by omega] at hs
  refine M.swap h (x' := .got 2 (subS 2 j (n - p) v) (n - (p + j)) (cS (K.drop (p + j)))) (Out.refl _ _) hs (fun g hg => ?_) (fun g hg => by cases hg)
  simp only [Ent.fp] at hg ⊢
  split at hg
  · cases hg
  · obtain ⟨c, hv, _⟩ := hr.form (by omega)
    rw [if_neg (by omega)]
    rw [gof_sub hv] at hg
    exact .inl hg
end
/-! ### A part of a block, the caller's -/
theorem own_whole {w : World} {g t n : Nat} {L : List St} (h : Blk w g t (cL L)) (hz : L.length = n) (hn : n ≤ 1000000000) : w.ownsRow 0 t 2 (.slice (some ⟨g, 0, none⟩) n n) n (cS L) :=
  ⟨by rw [cS_len, hz], .inr ⟨g, n, _, rfl, Nat.zero_le _, h, Nat.le_refl _, by unfold maxLen; omega, by rw [cL_size, hz], by simp only [cL]; rw [List.take_of_length_le (by rw [cS_len, hz]; omega)]⟩⟩
theorem own_first {w : World} {g t n k : Nat} {K Z : List St} (h : Blk w g t (cL (K ++ Z))) (hz : (K ++ Z).length = n) (hk : K.length = k) (hn : n ≤ 1000000000) : w.ownsRow 0 t 2 (subS 2 0 k (.slice (some ⟨g, 0, none⟩) n n)) k (cS K) := by
  have e : subS 2 0 k (.slice (some ⟨g, 0, none⟩) n n) = .slice (some ⟨g, 0, none⟩) k n := by
    simp only [subS, Option.map_some, addr_add, Nat.zero_mul, Nat.add_zero, Nat.sub_zero, ite_self]
  have hkn : k ≤ n := by rw [← hz, ← hk, List.length_append]; omega
  rw [e]
  exact ⟨by rw [cS_len, hk], .inr ⟨g, n, _, rfl, Nat.zero_le _, h, hkn, by unfold maxLen; omega, by rw [cL_size, hz], by simp only [cL, cS_app]; rw [List.take_left' (by rw [cS_len, hk])]⟩⟩
theorem fA_cL (d : Array St) : fA d = cL d.toList := by have := fA_eq d.toList; simpa [cL] using this
theorem swo_ahead : SWO St.aheadB where
  irrefl := fun x => ahead_irr
  trans := fun x y z h1 h2 => ahead_trans h1 h2
  ntrans := fun x y z h1 h2 => by
    rw [← Bool.not_eq_true, St.ahead_iff] at *; omega
theorem cmp_lt (a b : St) : decide (a.cmp b < 0) = a.aheadB b := by
  rw [Bool.eq_iff_iff, decide_eq_true_eq, St.ahead_iff]
  have := cmp_spec a b
  omega
theorem mem_perm {d d' : Array St} (h : PermIn 0 d.size d d') (t : St) : t ∈ d'.toList ↔ t ∈ d.toList := by
  have h3 := h.2.2
  have e1 : d'.extract 0 d.size = d' := by rw [← h.1]; simp
  rw [e1] at h3
  have e2 : d.extract 0 d.size = d := by simp
  rw [e2] at h3
  exact h3.mem_iff
theorem first_spot (g k n : Nat) : (subS 2 0 k (.slice (some ⟨g, 0, none⟩) n n)).ownBlock = some g := by
  simp only [subS, Option.map_some, addr_add, Nat.zero_mul, Nat.add_zero, ite_self]
  rfl
end Go.Proofs.Ytlgeodnbkndciaa
