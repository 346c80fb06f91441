/- Rows of stamps in order, and the least ones: mathematics. Any seat. -/
import Derived.Test.YtoadlnnhlnhkjaaSt
namespace Go.Proofs.Ytoadlnnhlnhkjaa
open Go.RowKit
set_option maxRecDepth 100000
set_option linter.unusedSimpArgs false
set_option linter.unusedVariables false

/-- In a row, each once. -/
def Asc (L : List St) : Prop := ∀ i, i + 1 < L.length → (atS L i).aheadB (atS L (i + 1)) = true
theorem mem_at {L : List St} {t : St} : t ∈ L ↔ ∃ j, j < L.length ∧ atS L j = t := ⟨at_of_mem, fun ⟨_, h1, h2⟩ => mem_of_at h1 h2⟩
theorem atS_set {L : List St} {i j : Nat} {x : St} (h : i < L.length) : atS (L.set i x) j = if i = j then x else atS L j := by
  unfold atS
  rw [List.getD_eq_getElem?_getD, List.getD_eq_getElem?_getD, List.getElem?_set]
  split
  · rename_i e; subst e; simp [h]
  · rfl
theorem atS_take {L : List St} {k j : Nat} (h : j < k) : atS (L.take k) j = atS L j := by
  unfold atS; simp [List.getD_eq_getElem?_getD, List.getElem?_take, h]
theorem atS_app {L K : List St} {j : Nat} (h : j < L.length) : atS (L ++ K) j = atS L j := by
  unfold atS; simp [List.getD_eq_getElem?_getD, List.getElem?_append_left h]
theorem ahead_trans {a b c : St} (h1 : a.aheadB b = true) (h2 : b.aheadB c = true) : a.aheadB c = true := by
  rw [St.ahead_iff] at *; omega
theorem ahead_irr {a : St} : a.aheadB a = false := by
  rw [← Bool.not_eq_true, St.ahead_iff]; omega
theorem ahead_tri {a b : St} (h1 : a.aheadB b = false) (h2 : b.aheadB a = false) : a = b := by
  rw [← Bool.not_eq_true, St.ahead_iff] at *
  rw [St.eq_iff]; omega
theorem Asc.lt {L : List St} (h : Asc L) : ∀ (d i : Nat), i + d + 1 < L.length → (atS L i).aheadB (atS L (i + d + 1)) = true := by
  intro d
  induction d with
  | zero => intro i hi; exact h i hi
  | succ d ih => intro i hi; exact ahead_trans (ih i (by omega)) (h (i + d + 1) hi)
theorem Asc.lt' {L : List St} (h : Asc L) {i j : Nat} (hij : i < j) (hj : j < L.length) : (atS L i).aheadB (atS L j) = true := by
  have := h.lt (j - i - 1) i (by omega)
  rwa [show i + (j - i - 1) + 1 = j by omega] at this
theorem Asc.tail {s : St} {L : List St} (h : Asc (s :: L)) : Asc L := fun i hi => by
  have := h (i + 1) (by simp; omega)
  simpa [atS] using this
theorem Asc.head {s : St} {L : List St} (h : Asc (s :: L)) {t : St} (ht : t ∈ L) : s.aheadB t = true := by
  obtain ⟨j, hj, rfl⟩ := mem_at.1 ht
  have := h.lt' (i := 0) (j := j + 1) (by omega) (by simpa using hj)
  simpa [atS] using this
/-- Two rows of the same stamps are the same. -/
theorem Asc.uniq : ∀ {L K : List St}, Asc L → Asc K → (∀ t, t ∈ L ↔ t ∈ K) → L = K
  | [], [], _, _, _ => rfl
  | [], k :: K, _, _, h => by have := (h k).2 (by simp); simp at this
  | l :: L, [], _, _, h => by have := (h l).1 (by simp); simp at this
  | l :: L, k :: K, hl, hk, h => by
    have e : l = k := by
      have h1 := (h l).1 (by simp)
      have h2 := (h k).2 (by simp)
      rcases List.mem_cons.1 h1 with h1 | h1
      · exact h1
      · rcases List.mem_cons.1 h2 with h2 | h2
        · exact h2.symm
        · have := ahead_trans (hk.head h1) (hl.head h2)
          rw [ahead_irr] at this; cases this
    subst e
    congr 1
    refine Asc.uniq hl.tail hk.tail fun t => ⟨fun ht => ?_, fun ht => ?_⟩
    · rcases List.mem_cons.1 ((h t).1 (by simp [ht])) with h1 | h1
      · subst h1; have := hl.head ht; rw [ahead_irr] at this; cases this
      · exact h1
    · rcases List.mem_cons.1 ((h t).2 (by simp [ht])) with h1 | h1
      · subst h1; have := hk.head ht; rw [ahead_irr] at this; cases this
      · exact h1
/-! ### The reference's row: a stamp put in its place -/
def putL : List St → St → List St
  | [], t => [t]
  | s :: r, t => if s.aheadB t then s :: putL r t else if s = t then s :: r else t :: s :: r
def rowL (L : List St) : List St := L.foldl putL []
theorem mem_putL {L : List St} {t u : St} : u ∈ putL L t ↔ u ∈ L ∨ u = t := by
  induction L with
  | nil => simp [putL]
  | cons s r ih =>
    simp only [putL]
    split
    · simp only [List.mem_cons, ih]
      constructor
      · rintro (h | h | h) <;> simp [h]
      · rintro ((h | h) | h) <;> simp [h]
    · split
      · rename_i e; subst e; simp only [List.mem_cons]
        constructor
        · rintro (h | h) <;> simp [h]
        · rintro ((h | h) | h) <;> simp [h]
      · simp only [List.mem_cons]
        constructor
        · rintro (h | h | h) <;> simp [h]
        · rintro ((h | h) | h) <;> simp [h]
theorem Asc.cons {s : St} {L : List St} (h : Asc L) (hs : ∀ t ∈ L, s.aheadB t = true) : Asc (s :: L) := fun i hi => by
  cases i with
  | zero =>
    have : 0 < L.length := by simpa using hi
    have h1 := hs (atS L 0) (atS_mem this)
    simpa [atS] using h1
  | succ i =>
    have := h i (by simpa using hi)
    simpa [atS] using this
theorem putL_asc {L : List St} {t : St} (h : Asc L) : Asc (putL L t) := by
  induction L with
  | nil => intro i hi; simp [putL] at hi
  | cons s r ih =>
    simp only [putL]
    split
    · rename_i hst
      refine (ih h.tail).cons fun u hu => ?_
      rcases mem_putL.1 hu with h1 | h1
      · exact h.head h1
      · rw [h1]; exact hst
    · split
      · exact h
      · rename_i h1 h2
        refine h.cons fun u hu => ?_
        have hts : t.aheadB s = true := by
          cases hq : t.aheadB s with
          | true => rfl
          | false => exact absurd (ahead_tri (by simpa using h1) hq) h2
        rcases List.mem_cons.1 hu with h3 | h3
        · rw [h3]; exact hts
        · exact ahead_trans hts (h.head h3)
theorem foldl_put : ∀ (L K : List St), Asc K → Asc (L.foldl putL K) ∧ ∀ t, t ∈ L.foldl putL K ↔ t ∈ K ∨ t ∈ L
  | [], K, h => ⟨h, fun t => by simp⟩
  | s :: r, K, h => by
    have ih := foldl_put r (putL K s) (putL_asc h)
    refine ⟨ih.1, fun t => ?_⟩
    rw [List.foldl_cons, ih.2, mem_putL]
    simp only [List.mem_cons]
    constructor
    · rintro ((h | h) | h) <;> simp [h]
    · rintro (h | h | h) <;> simp [h]
theorem asc_nil : Asc [] := fun i hi => by simp at hi
theorem rowL_asc (L : List St) : Asc (rowL L) := (foldl_put L [] asc_nil).1
theorem mem_rowL {L : List St} {t : St} : t ∈ rowL L ↔ t ∈ L := by
  unfold rowL; rw [(foldl_put L [] asc_nil).2]; simp
theorem rowL_of {L K : List St} (h : Asc K) (hm : ∀ t, t ∈ K ↔ t ∈ L) : K = rowL L := h.uniq (rowL_asc L) (fun t => by rw [hm, mem_rowL])
theorem putL_spec {L : List St} {t : St} {i : Nat} (hL : Asc L) (hi : i ≤ L.length) (h1 : ∀ k, k < i → (atS L k).aheadB t = true) (h2 : i < L.length → (atS L i).aheadB t = false) :
    putL L t = if t ∈ L then L else L.take i ++ [t] ++ L.drop i := by
  refine (putL_asc hL).uniq ?_ ?_
  · split
    · exact hL
    · rename_i hn
      intro j hj
      rw [List.length_append, List.length_append, List.length_singleton, List.length_take, List.length_drop] at hj
      have at1 : ∀ k, k < i → atS (L.take i ++ [t] ++ L.drop i) k = atS L k := fun k hk => by
        rw [atS_app (by simp; omega), atS_app (by simp; omega), atS_take hk]
      have at2 : atS (L.take i ++ [t] ++ L.drop i) i = t := by
        unfold atS; simp [List.getD_eq_getElem?_getD, List.getElem?_append, Nat.min_eq_left hi]
      have at3 : ∀ k, i < k → atS (L.take i ++ [t] ++ L.drop i) k = atS L (k - 1) := fun k hk => by
        unfold atS
        rw [List.getD_eq_getElem?_getD, List.getD_eq_getElem?_getD, List.getElem?_append_right (by simp; omega), List.getElem?_drop]
        simp only [List.length_append, List.length_take, List.length_singleton, Nat.min_eq_left hi]
        rw [show i + (k - (i + 1)) = k - 1 by omega]
      rcases Nat.lt_trichotomy (j + 1) i with h3 | h3 | h3
      · rw [at1 j (by omega), at1 (j + 1) h3]; exact hL j (by omega)
      · rw [at1 j (by omega), h3, at2]; exact h1 j (by omega)
      · rw [at3 (j + 1) h3, Nat.add_sub_cancel]
        rcases (show i < j ∨ j = i by omega) with h4 | h4
        · rw [at3 j h4]
          have := hL (j - 1) (by omega)
          rwa [show j - 1 + 1 = j by omega] at this
        · rw [h4, at2]
          cases hq : t.aheadB (atS L i) with
          | true => rfl
          | false => exact absurd (ahead_tri hq (h2 (by omega)) ▸ atS_mem (by omega)) hn
  · intro u
    rw [mem_putL]
    split
    · rename_i h; constructor
      · rintro (h3 | h3)
        · exact h3
        · rw [h3]; exact h
      · exact .inl
    · have e : L.take i ++ L.drop i = L := List.take_append_drop i L
      constructor
      · rintro (h3 | h3)
        · rw [← e] at h3; simp only [List.mem_append] at h3 ⊢; rcases h3 with h4 | h4 <;> simp [h4]
        · simp [h3]
      · intro h3
        simp only [List.mem_append, List.mem_singleton] at h3
        rcases h3 with (h4 | h4) | h4
        · exact .inl (List.mem_of_mem_take h4)
        · right; exact h4
        · exact .inl (List.mem_of_mem_drop h4)
/-! ### The least ones -/
def leastB (L : List St) (t : St) : Bool := L.all fun s => !(!decide (s = t) && s.leB t)
def minL (L : List St) : List St := rowL (L.filter (leastB L))
theorem least_iff {L : List St} {t : St} : leastB L t = true ↔ ∀ s ∈ L, s.leB t = true → s = t := by
  simp only [leastB, List.all_eq_true, Bool.not_eq_true', Bool.and_eq_false_iff, Bool.not_eq_false', decide_eq_true_eq]
  constructor
  · intro h s hs hl
    rcases h s hs with h1 | h1
    · exact h1
    · rw [hl] at h1; cases h1
  · intro h s hs
    cases hl : s.leB t with
    | false => exact .inr rfl
    | true => exact .inl (h s hs hl)
theorem mem_minL {L : List St} {t : St} : t ∈ minL L ↔ t ∈ L ∧ ∀ s ∈ L, s.leB t = true → s = t := by
  unfold minL; rw [mem_rowL, List.mem_filter, least_iff]
theorem minL_asc (L : List St) : Asc (minL L) := rowL_asc _
theorem minL_of {L K : List St} (h : Asc K) (hm : ∀ t, t ∈ K ↔ t ∈ L ∧ ∀ s ∈ L, s.leB t = true → s = t) : K = minL L := h.uniq (minL_asc L) (fun t => by rw [hm, mem_minL])
/-! ### The least ones, one after another -/
structure MInv (K : List St) (p : Nat) (Q : List St) : Prop where
  pos : p ≤ K.length
  asc : Asc Q
  sub : ∀ t ∈ Q, t ∈ K ∧ ∀ s ∈ K, s.leB t = true → s = t
  cov : ∀ j, j < p → ∃ q ∈ Q, q.leB (atS K j) = true
  low : p < K.length → ∀ q ∈ Q, (atS K p).r < q.r ∧ q.aheadB (atS K p) = true
  len : Q.length ≤ p
theorem MInv.start (K : List St) : MInv K 0 [] := ⟨Nat.zero_le _, asc_nil, by simp, fun j h => by omega, by simp, by simp⟩
theorem asc_snoc {Q : List St} {t : St} (h : Asc Q) (hq : ∀ q ∈ Q, q.aheadB t = true) : Asc (Q ++ [t]) := fun i hi => by
  rw [List.length_append, List.length_singleton] at hi
  rw [atS_app (by omega)]
  rcases (show i + 1 < Q.length ∨ i + 1 = Q.length by omega) with h1 | h1
  · rw [atS_app h1]; exact h i h1
  · have : atS (Q ++ [t]) (i + 1) = t := by
      unfold atS; rw [List.getD_eq_getElem?_getD, List.getElem?_append_right (by omega)]; simp [h1]
    rw [this]; exact hq _ (atS_mem (by omega))
theorem MInv.least {K Q : List St} {p : Nat} (hK : Asc K) (h : MInv K p Q) (hp : p < K.length) : ∀ s ∈ K, s.leB (atS K p) = true → s = atS K p := by
  intro s hs hle
  obtain ⟨j, hj, rfl⟩ := at_of_mem hs
  rcases Nat.lt_trichotomy j p with h1 | h1 | h1
  · obtain ⟨q, hq, hqs⟩ := h.cov j h1
    have h2 := h.low hp q hq
    rw [St.le_iff] at hle hqs
    omega
  · rw [h1]
  · have h2 := hK.lt' h1 hj
    rw [St.le_iff] at hle
    rw [St.ahead_iff] at h2
    omega
theorem MInv.next {K Q : List St} {p p' : Nat} (hK : Asc K) (h : MInv K p Q) (hp : p < K.length) (hpp : p < p') (hl : p' ≤ K.length) (hc : ∀ j, p ≤ j → j < p' → (atS K p).leB (atS K j) = true) (hn : p' < K.length → (atS K p).leB (atS K p') = false) : MInv K p' (Q ++ [atS K p]) := by
  refine ⟨hl, asc_snoc h.asc (fun q hq => (h.low hp q hq).2), fun t ht => ?_, fun j hj => ?_, fun hp' q hq => ?_, ?_⟩
  · rcases List.mem_append.1 ht with h1 | h1
    · exact h.sub t h1
    · rw [List.mem_singleton.1 h1]; exact ⟨atS_mem hp, h.least hK hp⟩
  · rcases Nat.lt_or_ge j p with h1 | h1
    · obtain ⟨q, hq, h2⟩ := h.cov j h1
      exact ⟨q, by simp [hq], h2⟩
    · exact ⟨atS K p, by simp, hc j h1 hj⟩
  · have h1 := hn hp'
    have h2 := hK.lt' hpp hp'
    have h3 : (atS K p').r < (atS K p).r := by
      rw [← Bool.not_eq_true, St.le_iff] at h1
      rw [St.ahead_iff] at h2
      omega
    rcases List.mem_append.1 hq with h4 | h4
    · have h5 := h.low hp q h4
      exact ⟨by omega, ahead_trans h5.2 h2⟩
    · rw [List.mem_singleton.1 h4]; exact ⟨h3, h2⟩
  · have := h.len
    rw [List.length_append, List.length_singleton]; omega
theorem MInv.fin {L Q : List St} {p : Nat} (h : MInv (rowL L) p Q) (hp : ¬ p < (rowL L).length) : Q = minL L := by
  refine minL_of h.asc fun t => ⟨fun ht => ?_, fun ⟨h1, h2⟩ => ?_⟩
  · have h1 := h.sub t ht
    exact ⟨mem_rowL.1 h1.1, fun s hs => h1.2 s (mem_rowL.2 hs)⟩
  · obtain ⟨j, hj, rfl⟩ := at_of_mem (mem_rowL.2 h1)
    obtain ⟨q, hq, hle⟩ := h.cov j (by omega)
    rw [← h2 q (mem_rowL.1 (h.sub q hq).1) hle]
    exact hq
theorem rowL_len (L : List St) : (rowL L).length ≤ L.length := by
  have : ∀ (L K : List St), (L.foldl putL K).length ≤ K.length + L.length := by
    intro L
    induction L with
    | nil => intro K; simp
    | cons s r ih =>
      intro K
      have h1 := ih (putL K s)
      have h2 : ∀ (K : List St), (putL K s).length ≤ K.length + 1 := by
        intro K
        induction K with
        | nil => simp [putL]
        | cons k K ih2 => simp only [putL]; split; simp; omega; split <;> simp
      have := h2 K
      rw [List.foldl_cons, List.length_cons]; omega
  have := this L []
  simpa [rowL] using this
theorem minL_len (L : List St) : (minL L).length ≤ L.length := Nat.le_trans (rowL_len _) (List.length_filter_le _ _)
/-! ### The reference's loops -/
theorem foldl_snoc {L : List St} {i : Nat} (h : i < L.length) : (L.take (i + 1)).foldl putL [] = putL ((L.take i).foldl putL []) (atS L i) := by
  rw [List.take_succ_eq_append_getElem h, List.foldl_append, atS_eq h]; rfl
theorem rowL_step {L : List St} {i : Int} (h0 : 0 ≤ i) (h : i < (L.length : Int)) : rowL (L.take (i + 1).toNat) = putL (rowL (L.take i.toNat)) (atS L i.toNat) := by
  rw [show (i + 1).toNat = i.toNat + 1 by omega]; exact foldl_snoc (by omega)
def filt (L : List St) (i : Nat) : List St := rowL ((L.take i).filter (leastB L))
theorem filt_yes {L : List St} {i : Int} (h0 : 0 ≤ i) (h : i < (L.length : Int)) (hl : leastB L (atS L i.toNat) = true) : filt L (i + 1).toNat = putL (filt L i.toNat) (atS L i.toNat) := by
  rw [show (i + 1).toNat = i.toNat + 1 by omega]
  unfold filt rowL
  rw [List.take_succ_eq_append_getElem (by omega), List.filter_append, List.foldl_append, ← atS_eq]
  simp [hl]
theorem filt_no {L : List St} {i : Int} (h0 : 0 ≤ i) (h : i < (L.length : Int)) (hl : leastB L (atS L i.toNat) = false) : filt L (i + 1).toNat = filt L i.toNat := by
  rw [show (i + 1).toNat = i.toNat + 1 by omega]
  unfold filt rowL
  rw [List.take_succ_eq_append_getElem (by omega), List.filter_append, ← atS_eq]
  simp [hl]
theorem filt_end {L : List St} {i : Int} (h : ¬ i < (L.length : Int)) : filt L i.toNat = minL L := by
  unfold filt minL; rw [List.take_of_length_le (by omega)]
theorem filt_len (L : List St) (i : Nat) : (filt L i).length ≤ L.length := by
  unfold filt
  refine Nat.le_trans (rowL_len _) (Nat.le_trans (List.length_filter_le _ _) ?_)
  rw [List.length_take]; omega
theorem filt_asc (L : List St) (i : Nat) : Asc (filt L i) := rowL_asc _
theorem least_t {L : List St} {t : St} {b : Bool} (h : b = true ↔ ∀ k, k < L.length → atS L k = t ∨ (atS L k).leB t = false) : leastB L t = b := by
  rw [Bool.eq_iff_iff, h, least_iff]
  constructor
  · intro h2 k hk
    cases hq : (atS L k).leB t with
    | true => exact .inl (h2 _ (atS_mem hk) hq)
    | false => exact .inr rfl
  · intro h2 s hs hq
    obtain ⟨k, hk, rfl⟩ := at_of_mem hs
    rcases h2 k hk with h3 | h3
    · exact h3
    · rw [hq] at h3; cases h3
theorem flag_step {L : List St} {t : St} {b b' : Bool} {i : Int} (h0 : 0 ≤ i) (h : b = true ↔ ∀ k, k < i.toNat → atS L k = t ∨ (atS L k).leB t = false) (hb : b' = true ↔ (b = true ∧ (atS L i.toNat = t ∨ (atS L i.toNat).leB t = false))) : b' = true ↔ ∀ k, k < (i + 1).toNat → atS L k = t ∨ (atS L k).leB t = false := by
  rw [hb, h, show (i + 1).toNat = i.toNat + 1 by omega]
  constructor
  · rintro ⟨h1, h2⟩ k hk
    rcases (show k < i.toNat ∨ k = i.toNat by omega) with h3 | h3
    · exact h1 k h3
    · rw [h3]; exact h2
  · intro h1
    exact ⟨fun k hk => h1 k (by omega), h1 _ (by omega)⟩
end Go.Proofs.Ytoadlnnhlnhkjaa
