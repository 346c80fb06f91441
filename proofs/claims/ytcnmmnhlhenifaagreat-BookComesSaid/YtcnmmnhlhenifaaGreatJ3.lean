/- Put together: Ao, Aw, Pt, Gp, Gw, Fg, Ob, So, Rk, Pn. -/
import Derived.Test.YtcnmmnhlhenifaaGreatJ2
import Derived.IntWalk
import Derived.Test.YtcnmmnhlhenifaaGreatFx
import Derived.Sort.AssemblyPlain
import Derived.Recover
import Derived.Laws.Bits64
import Derived.Laws.CopyOwn
import Derived.Lib.AppendZerosOnto
namespace Go.Proofs.YtcnmmnhlhenifaaGreat
open Go.RowKit
set_option maxRecDepth 100000
set_option linter.unusedSimpArgs false
set_option linter.unusedVariables false
def Asc (L : List St) : Prop := ∀ i, i + 1 < L.length → (atS L i).aheadB (atS L (i + 1)) = true
theorem mem_at {L : List St} {t : St} : t ∈ L ↔ ∃ j, j < L.length ∧ atS L j = t := ⟨at_of_mem, fun ⟨_, h1, h2⟩ => mem_of_at h1 h2⟩
theorem atS_set {L : List St} {i j : Nat} {x : St} (h : i < L.length) : atS (L.set i x) j = if i = j then x else atS L j := by
  unfold atS
  rw [List.getD_eq_getElem?_getD, List.getD_eq_getElem?_getD, List.getElem?_set]
  split
  · rename_i e; subst e; simp [h]
  · rfl
theorem atS_take {L : List St} {k j : Nat} (h : j < k) : atS (L.take k) j = atS L j := by
  unfold atS; simp [List.getD_eq_getElem?_getD, List.getElem?_take, h]
theorem atS_app {L K : List St} {j : Nat} (h : j < L.length) : atS (L ++ K) j = atS L j := by
  unfold atS; simp [List.getD_eq_getElem?_getD, List.getElem?_append_left h]
theorem ahead_trans {a b c : St} (h1 : a.aheadB b = true) (h2 : b.aheadB c = true) : a.aheadB c = true := by
  rw [St.ahead_iff] at *; omega
theorem ahead_irr {a : St} : a.aheadB a = false := by
  rw [← Bool.not_eq_true, St.ahead_iff]; omega
theorem ahead_tri {a b : St} (h1 : a.aheadB b = false) (h2 : b.aheadB a = false) : a = b := by
  rw [← Bool.not_eq_true, St.ahead_iff] at *
  rw [St.eq_iff]; omega
theorem Asc.lt {L : List St} (h : Asc L) : ∀ (d i : Nat), i + d + 1 < L.length → (atS L i).aheadB (atS L (i + d + 1)) = true := by
  intro d
  induction d with
  | zero => intro i hi; exact h i hi
  | succ d ih => intro i hi; exact ahead_trans (ih i (by omega)) (h (i + d + 1) hi)
theorem Asc.lt' {L : List St} (h : Asc L) {i j : Nat} (hij : i < j) (hj : j < L.length) : (atS L i).aheadB (atS L j) = true := by
  have := h.lt (j - i - 1) i (by omega)
  rwa [show i + (j - i - 1) + 1 = j by omega] at this
theorem Asc.tail {s : St} {L : List St} (h : Asc (s :: L)) : Asc L := fun i hi => by
  have := h (i + 1) (by simp; omega)
  simpa [atS] using this
theorem Asc.head {s : St} {L : List St} (h : Asc (s :: L)) {t : St} (ht : t ∈ L) : s.aheadB t = true := by
  obtain ⟨j, hj, rfl⟩ := mem_at.1 ht
  have := h.lt' (i := 0) (j := j + 1) (by omega) (by simpa using hj)
  simpa [atS] using this
theorem Asc.uniq : ∀ {L K : List St}, Asc L → Asc K → (∀ t, t ∈ L ↔ t ∈ K) → L = K
  | [], [], _, _, _ => rfl
  | [], k :: K, _, _, h => by have := (h k).2 (by simp); simp at this
  | l :: L, [], _, _, h => by have := (h l).1 (by simp); simp at this
  | l :: L, k :: K, hl, hk, h => by
    have e : l = k := by
      have h1 := (h l).1 (by simp)
      have h2 := (h k).2 (by simp)
      rcases List.mem_cons.1 h1 with h1 | h1
      · exact h1
      · rcases List.mem_cons.1 h2 with h2 | h2
        · exact h2.symm
        · have := ahead_trans (hk.head h1) (hl.head h2)
          rw [ahead_irr] at this; cases this
    subst e
    congr 1
    refine Asc.uniq hl.tail hk.tail fun t => ⟨fun ht => ?_, fun ht => ?_⟩
    · rcases List.mem_cons.1 ((h t).1 (by simp [ht])) with h1 | h1
      · subst h1; have := hl.head ht; rw [ahead_irr] at this; cases this
      · exact h1
    · rcases List.mem_cons.1 ((h t).2 (by simp [ht])) with h1 | h1
      · subst h1; have := hk.head ht; rw [ahead_irr] at this; cases this
      · exact h1
def putL : List St → St → List St
  | [], t => [t]
  | s :: r, t => if s.aheadB t then s :: putL r t else if s = t then s :: r else t :: s :: r
def rowL (L : List St) : List St := L.foldl putL []
theorem mem_putL {L : List St} {t u : St} : u ∈ putL L t ↔ u ∈ L ∨ u = t := by
  induction L with
  | nil => simp [putL]
  | cons s r ih =>
    simp only [putL]
    split
    · simp only [List.mem_cons, ih]
      constructor
      · rintro (h | h | h) <;> simp [h]
      · rintro ((h | h) | h) <;> simp [h]
    · split
      · rename_i e; subst e; simp only [List.mem_cons]
        constructor
        · rintro (h | h) <;> simp [h]
        · rintro ((h | h) | h) <;> simp [h]
      · simp only [List.mem_cons]
        constructor
        · rintro (h | h | h) <;> simp [h]
        · rintro ((h | h) | h) <;> simp [h]
theorem Asc.cons {s : St} {L : List St} (h : Asc L) (hs : ∀ t ∈ L, s.aheadB t = true) : Asc (s :: L) := fun i hi => by
  cases i with
  | zero =>
    have : 0 < L.length := by simpa using hi
    have h1 := hs (atS L 0) (atS_mem this)
    simpa [atS] using h1
  | succ i =>
    have := h i (by simpa using hi)
    simpa [atS] using this
theorem putL_asc {L : List St} {t : St} (h : Asc L) : Asc (putL L t) := by
  induction L with
  | nil => intro i hi; simp [putL] at hi
  | cons s r ih =>
    simp only [putL]
    split
    · rename_i hst
      refine (ih h.tail).cons fun u hu => ?_
      rcases mem_putL.1 hu with h1 | h1
      · exact h.head h1
      · rw [h1]; exact hst
    · split
      · exact h
      · rename_i h1 h2
        refine h.cons fun u hu => ?_
        have hts : t.aheadB s = true := by
          cases hq : t.aheadB s with
          | true => rfl
          | false => exact absurd (ahead_tri (by simpa using h1) hq) h2
        rcases List.mem_cons.1 hu with h3 | h3
        · rw [h3]; exact hts
        · exact ahead_trans hts (h.head h3)
theorem foldl_put : ∀ (L K : List St), Asc K → Asc (L.foldl putL K) ∧ ∀ t, t ∈ L.foldl putL K ↔ t ∈ K ∨ t ∈ L
  | [], K, h => ⟨h, fun t => by simp⟩
  | s :: r, K, h => by
    have ih := foldl_put r (putL K s) (putL_asc h)
    refine ⟨ih.1, fun t => ?_⟩
    rw [List.foldl_cons, ih.2, mem_putL]
    simp only [List.mem_cons]
    constructor
    · rintro ((h | h) | h) <;> simp [h]
    · rintro (h | h | h) <;> simp [h]
theorem asc_nil : Asc [] := fun i hi => by simp at hi
theorem rowL_asc (L : List St) : Asc (rowL L) := (foldl_put L [] asc_nil).1
theorem mem_rowL {L : List St} {t : St} : t ∈ rowL L ↔ t ∈ L := by
  unfold rowL; rw [(foldl_put L [] asc_nil).2]; simp
theorem rowL_of {L K : List St} (h : Asc K) (hm : ∀ t, t ∈ K ↔ t ∈ L) : K = rowL L := h.uniq (rowL_asc L) (fun t => by rw [hm, mem_rowL])
theorem putL_spec {L : List St} {t : St} {i : Nat} (hL : Asc L) (hi : i ≤ L.length) (h1 : ∀ k, k < i → (atS L k).aheadB t = true) (h2 : i < L.length → (atS L i).aheadB t = false) :
    putL L t = if t ∈ L then L else L.take i ++ [t] ++ L.drop i := by
  refine (putL_asc hL).uniq ?_ ?_
  · split
    · exact hL
    · rename_i hn
      intro j hj
      rw [List.length_append, List.length_append, List.length_singleton, List.length_take, List.length_drop] at hj
      have at1 : ∀ k, k < i → atS (L.take i ++ [t] ++ L.drop i) k = atS L k := fun k hk => by
        rw [atS_app (by simp; omega), atS_app (by simp; omega), atS_take hk]
      have at2 : atS (L.take i ++ [t] ++ L.drop i) i = t := by
        unfold atS; simp [List.getD_eq_getElem?_getD, List.getElem?_append, Nat.min_eq_left hi]
      have at3 : ∀ k, i < k → atS (L.take i ++ [t] ++ L.drop i) k = atS L (k - 1) := fun k hk => by
        unfold atS
        rw [List.getD_eq_getElem?_getD, List.getD_eq_getElem?_getD, List.getElem?_append_right (by simp; omega), List.getElem?_drop]
        simp only [List.length_append, List.length_take, List.length_singleton, Nat.min_eq_left hi]
        rw [show i + (k - (i + 1)) = k - 1 by omega]
      rcases Nat.lt_trichotomy (j + 1) i with h3 | h3 | h3
      · rw [at1 j (by omega), at1 (j + 1) h3]; exact hL j (by omega)
      · rw [at1 j (by omega), h3, at2]; exact h1 j (by omega)
      · rw [at3 (j + 1) h3, Nat.add_sub_cancel]
        rcases (show i < j ∨ j = i by omega) with h4 | h4
        · rw [at3 j h4]
          have := hL (j - 1) (by omega)
          rwa [show j - 1 + 1 = j by omega] at this
        · rw [h4, at2]
          cases hq : t.aheadB (atS L i) with
          | true => rfl
          | false => exact absurd (ahead_tri hq (h2 (by omega)) ▸ atS_mem (by omega)) hn
  · intro u
    rw [mem_putL]
    split
    · rename_i h; constructor
      · rintro (h3 | h3)
        · exact h3
        · rw [h3]; exact h
      · exact .inl
    · have e : L.take i ++ L.drop i = L := List.take_append_drop i L
      constructor
      · rintro (h3 | h3)
        · rw [← e] at h3; simp only [List.mem_append] at h3 ⊢; rcases h3 with h4 | h4 <;> simp [h4]
        · simp [h3]
      · intro h3
        simp only [List.mem_append, List.mem_singleton] at h3
        rcases h3 with (h4 | h4) | h4
        · exact .inl (List.mem_of_mem_take h4)
        · right; exact h4
        · exact .inl (List.mem_of_mem_drop h4)
def leastB (L : List St) (t : St) : Bool := L.all fun s => !(!decide (s = t) && s.leB t)
def minL (L : List St) : List St := rowL (L.filter (leastB L))
theorem least_iff {L : List St} {t : St} : leastB L t = true ↔ ∀ s ∈ L, s.leB t = true → s = t := by
  simp only [leastB, List.all_eq_true, Bool.not_eq_true', Bool.and_eq_false_iff, Bool.not_eq_false', decide_eq_true_eq]
  constructor
  · intro h s hs hl
    rcases h s hs with h1 | h1
    · exact h1
    · rw [hl] at h1; cases h1
  · intro h s hs
    cases hl : s.leB t with
    | false => exact .inr rfl
    | true => exact .inl (h s hs hl)
theorem mem_minL {L : List St} {t : St} : t ∈ minL L ↔ t ∈ L ∧ ∀ s ∈ L, s.leB t = true → s = t := by
  unfold minL; rw [mem_rowL, List.mem_filter, least_iff]
theorem minL_asc (L : List St) : Asc (minL L) := rowL_asc _
theorem minL_of {L K : List St} (h : Asc K) (hm : ∀ t, t ∈ K ↔ t ∈ L ∧ ∀ s ∈ L, s.leB t = true → s = t) : K = minL L := h.uniq (minL_asc L) (fun t => by rw [hm, mem_minL])
structure MInv (K : List St) (p : Nat) (Q : List St) : Prop where
  pos : p ≤ K.length
  asc : Asc Q
  sub : ∀ t ∈ Q, t ∈ K ∧ ∀ s ∈ K, s.leB t = true → s = t
  cov : ∀ j, j < p → ∃ q ∈ Q, q.leB (atS K j) = true
  low : p < K.length → ∀ q ∈ Q, (atS K p).r < q.r ∧ q.aheadB (atS K p) = true
  len : Q.length ≤ p
theorem MInv.start (K : List St) : MInv K 0 [] := ⟨Nat.zero_le _, asc_nil, by simp, fun j h => by omega, by simp, by simp⟩
theorem asc_snoc {Q : List St} {t : St} (h : Asc Q) (hq : ∀ q ∈ Q, q.aheadB t = true) : Asc (Q ++ [t]) := fun i hi => by
  rw [List.length_append, List.length_singleton] at hi
  rw [atS_app (by omega)]
  rcases (show i + 1 < Q.length ∨ i + 1 = Q.length by omega) with h1 | h1
  · rw [atS_app h1]; exact h i h1
  · have : atS (Q ++ [t]) (i + 1) = t := by
      unfold atS; rw [List.getD_eq_getElem?_getD, List.getElem?_append_right (by omega)]; simp [h1]
    rw [this]; exact hq _ (atS_mem (by omega))
theorem MInv.least {K Q : List St} {p : Nat} (hK : Asc K) (h : MInv K p Q) (hp : p < K.length) : ∀ s ∈ K, s.leB (atS K p) = true → s = atS K p := by
  intro s hs hle
  obtain ⟨j, hj, rfl⟩ := at_of_mem hs
  rcases Nat.lt_trichotomy j p with h1 | h1 | h1
  · obtain ⟨q, hq, hqs⟩ := h.cov j h1
    have h2 := h.low hp q hq
    rw [St.le_iff] at hle hqs
    omega
  · rw [h1]
  · have h2 := hK.lt' h1 hj
    rw [St.le_iff] at hle
    rw [St.ahead_iff] at h2
    omega
theorem MInv.next {K Q : List St} {p p' : Nat} (hK : Asc K) (h : MInv K p Q) (hp : p < K.length) (hpp : p < p') (hl : p' ≤ K.length) (hc : ∀ j, p ≤ j → j < p' → (atS K p).leB (atS K j) = true) (hn : p' < K.length → (atS K p).leB (atS K p') = false) : MInv K p' (Q ++ [atS K p]) := by
  refine ⟨hl, asc_snoc h.asc (fun q hq => (h.low hp q hq).2), fun t ht => ?_, fun j hj => ?_, fun hp' q hq => ?_, ?_⟩
  · rcases List.mem_append.1 ht with h1 | h1
    · exact h.sub t h1
    · rw [List.mem_singleton.1 h1]; exact ⟨atS_mem hp, h.least hK hp⟩
  · rcases Nat.lt_or_ge j p with h1 | h1
    · obtain ⟨q, hq, h2⟩ := h.cov j h1
      exact ⟨q, by simp [hq], h2⟩
    · exact ⟨atS K p, by simp, hc j h1 hj⟩
  · have h1 := hn hp'
    have h2 := hK.lt' hpp hp'
    have h3 : (atS K p').r < (atS K p).r := by
      rw [← Bool.not_eq_true, St.le_iff] at h1
      rw [St.ahead_iff] at h2
      omega
    rcases List.mem_append.1 hq with h4 | h4
    · have h5 := h.low hp q h4
      exact ⟨by omega, ahead_trans h5.2 h2⟩
    · rw [List.mem_singleton.1 h4]; exact ⟨h3, h2⟩
  · have := h.len
    rw [List.length_append, List.length_singleton]; omega
theorem MInv.fin {L Q : List St} {p : Nat} (h : MInv (rowL L) p Q) (hp : ¬ p < (rowL L).length) : Q = minL L := by
  refine minL_of h.asc fun t => ⟨fun ht => ?_, fun ⟨h1, h2⟩ => ?_⟩
  · have h1 := h.sub t ht
    exact ⟨mem_rowL.1 h1.1, fun s hs => h1.2 s (mem_rowL.2 hs)⟩
  · obtain ⟨j, hj, rfl⟩ := at_of_mem (mem_rowL.2 h1)
    obtain ⟨q, hq, hle⟩ := h.cov j (by omega)
    rw [← h2 q (mem_rowL.1 (h.sub q hq).1) hle]
    exact hq
theorem rowL_len (L : List St) : (rowL L).length ≤ L.length := by
  have : ∀ (L K : List St), (L.foldl putL K).length ≤ K.length + L.length := by
    intro L
    induction L with
    | nil => intro K; simp
    | cons s r ih =>
      intro K
      have h1 := ih (putL K s)
      have h2 : ∀ (K : List St), (putL K s).length ≤ K.length + 1 := by
        intro K
        induction K with
        | nil => simp [putL]
        | cons k K ih2 => simp only [putL]; split; simp; omega; split <;> simp
      have := h2 K
      rw [List.foldl_cons, List.length_cons]; omega
  have := this L []
  simpa [rowL] using this
theorem minL_len (L : List St) : (minL L).length ≤ L.length := Nat.le_trans (rowL_len _) (List.length_filter_le _ _)
def filt (L : List St) (i : Nat) : List St := rowL ((L.take i).filter (leastB L))
theorem filt_yes {L : List St} {i : Int} (h0 : 0 ≤ i) (h : i < (L.length : Int)) (hl : leastB L (atS L i.toNat) = true) : filt L (i + 1).toNat = putL (filt L i.toNat) (atS L i.toNat) := by
  rw [show (i + 1).toNat = i.toNat + 1 by omega]
  unfold filt rowL
  rw [List.take_succ_eq_append_getElem (by omega), List.filter_append, List.foldl_append, ← atS_eq]
  simp [hl]
theorem filt_no {L : List St} {i : Int} (h0 : 0 ≤ i) (h : i < (L.length : Int)) (hl : leastB L (atS L i.toNat) = false) : filt L (i + 1).toNat = filt L i.toNat := by
  rw [show (i + 1).toNat = i.toNat + 1 by omega]
  unfold filt rowL
  rw [List.take_succ_eq_append_getElem (by omega), List.filter_append, ← atS_eq]
  simp [hl]
theorem filt_end {L : List St} {i : Int} (h : ¬ i < (L.length : Int)) : filt L i.toNat = minL L := by
  unfold filt minL; rw [List.take_of_length_le (by omega)]
theorem filt_len (L : List St) (i : Nat) : (filt L i).length ≤ L.length := by
  unfold filt
  refine Nat.le_trans (rowL_len _) (Nat.le_trans (List.length_filter_le _ _) ?_)
  rw [List.length_take]; omega
theorem filt_asc (L : List St) (i : Nat) : Asc (filt L i) := rowL_asc _
theorem least_t {L : List St} {t : St} {b : Bool} (h : b = true ↔ ∀ k, k < L.length → atS L k = t ∨ (atS L k).leB t = false) : leastB L t = b := by
  rw [Bool.eq_iff_iff, h, least_iff]
  constructor
  · intro h2 k hk
    cases hq : (atS L k).leB t with
    | true => exact .inl (h2 _ (atS_mem hk) hq)
    | false => exact .inr rfl
  · intro h2 s hs hq
    obtain ⟨k, hk, rfl⟩ := at_of_mem hs
    rcases h2 k hk with h3 | h3
    · exact h3
    · rw [hq] at h3; cases h3
theorem flag_step {L : List St} {t : St} {b b' : Bool} {i : Int} (h0 : 0 ≤ i) (h : b = true ↔ ∀ k, k < i.toNat → atS L k = t ∨ (atS L k).leB t = false) (hb : b' = true ↔ (b = true ∧ (atS L i.toNat = t ∨ (atS L i.toNat).leB t = false))) : b' = true ↔ ∀ k, k < (i + 1).toNat → atS L k = t ∨ (atS L k).leB t = false := by
  rw [hb, h, show (i + 1).toNat = i.toNat + 1 by omega]
  constructor
  · rintro ⟨h1, h2⟩ k hk
    rcases (show k < i.toNat ∨ k = i.toNat by omega) with h3 | h3
    · exact h1 k h3
    · rw [h3]; exact h2
  · intro h1
    exact ⟨fun k hk => h1 k (by omega), h1 _ (by omega)⟩
end Go.Proofs.YtcnmmnhlhenifaaGreat
namespace Go.Proofs.YtcnmmnhlhenifaaGreat
open Go.RowKit
set_option maxRecDepth 100000
set_option linter.unusedSimpArgs false
set_option linter.unusedVariables false
theorem cov_iff {L : List St} {t : St} : covB L t = true ↔ ∃ s ∈ L, s.leB t = true := by unfold covB; rw [List.any_eq_true]
theorem least_below : ∀ (n : Nat) {L : List St} (_ : L.length ≤ n) (t : St), t ∈ L → ∃ m ∈ L, m.leB t = true ∧ ∀ s ∈ L, s.leB m = true → s = m := by
  intro n
  induction n with
  | zero => intro L hn t ht; cases L with
    | nil => cases ht
    | cons a r => simp at hn
  | succ n ih =>
    intro L hn t ht
    by_cases h : ∀ s ∈ L, s.leB t = true → s = t
    · exact ⟨t, ht, St.le_refl t, h⟩
    · obtain ⟨s, hs, hl, hne⟩ : ∃ s, s ∈ L ∧ s.leB t = true ∧ ¬ s = t := by
        simp only [Classical.not_forall] at h
        obtain ⟨s, hs, hl, hne⟩ := h
        exact ⟨s, hs, hl, hne⟩
      have hs' : s ∈ L.filter (fun x => !decide (x = t)) := by simp [hs, hne]
      have hlen : (L.filter (fun x => !decide (x = t))).length ≤ n := by
        have : (L.filter (fun x => !decide (x = t))).length < L.length := by
          rw [List.length_filter_lt_length_iff_exists]
          exact ⟨t, ht, by simp⟩
        omega
      obtain ⟨m, hm, hms, hmin⟩ := ih hlen s hs'
      have hmL := (List.mem_filter.1 hm).1
      refine ⟨m, hmL, St.le_trans hms hl, fun u hu hum => ?_⟩
      by_cases e : u = t
      · exfalso
        subst e
        have := St.le_antisymm (St.le_trans hum hms) hl
        exact hne this.symm
      · exact hmin u (by simp [hu, e]) hum
theorem min_cov (L : List St) (t : St) : covB (minL L) t = covB L t := by
  rw [Bool.eq_iff_iff, cov_iff, cov_iff]
  constructor
  · rintro ⟨s, hs, hl⟩; exact ⟨s, (mem_minL.1 hs).1, hl⟩
  · rintro ⟨s, hs, hl⟩
    obtain ⟨m, hm, hms, hmin⟩ := least_below _ (Nat.le_refl _) s hs
    exact ⟨m, mem_minL.2 ⟨hm, hmin⟩, St.le_trans hms hl⟩
theorem min_mem {A B : List St} (h : ∀ t, t ∈ A ↔ t ∈ B) : minL A = minL B := (minL_asc A).uniq (minL_asc B) fun t => by
  rw [mem_minL, mem_minL, h]
  exact and_congr_right fun _ => forall_congr' fun s => by rw [h]
theorem Asc.nodup {L : List St} (h : Asc L) : L.Nodup := by
  rw [List.Nodup, List.pairwise_iff_getElem]
  intro i j hi hj hij e
  have := h.lt' hij hj
  rw [atS_eq hi, atS_eq hj, e, ahead_irr] at this
  cases this
def cntS (L : List St) (t : St) (i : Nat) : Nat := (L.take i).countP fun s => !t.leB s
structure Chn (t : St) (Q : List St) : Prop where
  pos : 0 < Q.length
  first : atS Q 0 = t
  low : ∀ s ∈ Q, t.leB s = true
  high : ∀ s ∈ Q, s.leB (atS Q (Q.length - 1)) = true
theorem Chn.start (t : St) : Chn t [t] := ⟨by simp, rfl, fun s hs => by rw [List.mem_singleton.1 hs]; exact St.le_refl t, fun s hs => by rw [List.mem_singleton.1 hs]; exact St.le_refl t⟩
theorem Chn.next {t u : St} {Q : List St} {k : Nat} (h : Chn t Q) (hk : k = Q.length - 1) (hu : (atS Q k).leB u = true) : Chn t (Q ++ [u]) := by
  subst hk
  have hp := h.pos
  have hl : atS (Q ++ [u]) ((Q ++ [u]).length - 1) = u := by
    unfold atS; rw [List.length_append, List.length_singleton, Nat.add_sub_cancel, List.getD_eq_getElem?_getD, List.getElem?_append_right (Nat.le_refl _)]; simp
  have hm : atS Q (Q.length - 1) ∈ Q := atS_mem (by omega)
  refine ⟨by rw [List.length_append, List.length_singleton]; omega, by rw [atS_app hp]; exact h.first, fun s hs => ?_, fun s hs => ?_⟩
  · rcases List.mem_append.1 hs with h1 | h1
    · exact h.low s h1
    · rw [List.mem_singleton.1 h1]; exact St.le_trans (h.low _ hm) hu
  · rw [hl]
    rcases List.mem_append.1 hs with h1 | h1
    · exact St.le_trans (h.high s h1) hu
    · rw [List.mem_singleton.1 h1]; exact St.le_refl u
theorem Chn.min {t : St} {Q : List St} (h : Chn t Q) : minL Q = [t] := by
  have ht : t ∈ Q := h.first ▸ atS_mem h.pos
  refine ((show Asc [t] from fun i hi => by simp at hi).uniq (minL_asc Q) fun s => ?_).symm
  rw [mem_minL, List.mem_singleton]
  constructor
  · intro e; subst e
    exact ⟨ht, fun q hq hl => St.le_antisymm hl (h.low q hq)⟩
  · rintro ⟨h1, h2⟩; exact (h2 t ht (h.low s h1)).symm
end Go.Proofs.YtcnmmnhlhenifaaGreat
namespace Go.Proofs.YtcnmmnhlhenifaaGreat
open Go.RowKit
set_option maxRecDepth 100000
set_option linter.unusedSimpArgs false
set_option linter.unusedVariables false
def rightsB (L : List St) : Bool := L.all St.rightB && decide (L.length ≤ 64)
def sumsP (A B : List St) : List St := A.flatMap fun p => (B.filter fun q => p.afterB q).map fun q => p.after q
def eachB (A B : List St) : Bool := rightsB A && rightsB B && decide ((minL (sumsP A B)).length ≤ 64)
def eachL (A B : List St) : List St := if eachB A B then minL (sumsP A B) else []
theorem mem_sums {A B : List St} {t : St} : t ∈ sumsP A B ↔ ∃ p ∈ A, ∃ q ∈ B, p.afterB q = true ∧ p.after q = t := by
  unfold sumsP
  simp only [List.mem_flatMap, List.mem_map, List.mem_filter]
  constructor
  · rintro ⟨p, hp, q, ⟨hq, h1⟩, h2⟩; exact ⟨p, hp, q, hq, h1, h2⟩
  · rintro ⟨p, hp, q, hq, h1, h2⟩; exact ⟨p, hp, q, ⟨hq, h1⟩, h2⟩
theorem sums_len (A B : List St) : (sumsP A B).length ≤ A.length * B.length := by
  unfold sumsP
  induction A with
  | nil => simp
  | cons p r ih =>
    simp only [List.flatMap_cons, List.length_append, List.length_map, List.length_cons, Nat.add_mul, Nat.one_mul]
    have := List.length_filter_le (fun q => p.afterB q) B
    omega
theorem then_add {p q : St} (hp : p.rightB = true) (hq : q.rightB = true) : St.mk (IntKind.i64.wrap (p.e + q.e)) (IntKind.i64.wrap (p.r + q.r)) = p.add q := by
  have h1 := right_t hp
  have h2 := right_t hq
  rw [IntWalk.i64_in _ (by omega), IntWalk.i64_in _ (by omega)]; rfl
theorem then_t {p q : St} (hp : p.rightB = true) (hq : q.rightB = true) (hs : (St.mk (IntKind.i64.wrap (p.e + q.e)) (IntKind.i64.wrap (p.r + q.r))).rightB = true) : p.afterB q = true ∧ IntKind.i64.wrap (p.e + q.e) = (p.after q).e ∧ IntKind.i64.wrap (p.r + q.r) = (p.after q).r := by
  have h := then_add hp hq
  rw [h] at hs
  have ha : p.afterB q = true := by unfold St.afterB; rw [hp, hq, hs]; rfl
  have he := St.eq_iff.1 h
  rw [after_yes ha]
  exact ⟨ha, he.1, he.2⟩
theorem then_f {p q : St} (h : p.rightB = false ∨ q.rightB = false ∨ (p.rightB = true ∧ q.rightB = true ∧ (St.mk (IntKind.i64.wrap (p.e + q.e)) (IntKind.i64.wrap (p.r + q.r))).rightB = false)) : p.afterB q = false := by
  unfold St.afterB
  rcases h with h | h | ⟨h1, h2, h3⟩
  · simp [h]
  · simp [h]
  · rw [then_add h1 h2] at h3; simp [h3]
theorem take_snocS {L : List St} {i : Int} (h0 : 0 ≤ i) (h : i < (L.length : Int)) : L.take i.toNat ++ [atS L i.toNat] = L.take (i + 1).toNat := by
  rw [show (i + 1).toNat = i.toNat + 1 by omega, List.take_succ_eq_append_getElem (by omega), atS_eq (by omega)]
def partP (A B : List St) (i k : Nat) : List St := sumsP (A.take i) B ++ ((B.take k).filter fun q => (atS A i).afterB q).map fun q => (atS A i).after q
theorem part_yes {A B : List St} {i : Nat} {k : Int} (h0 : 0 ≤ k) (h : k < (B.length : Int)) (ha : (atS A i).afterB (atS B k.toNat) = true) : partP A B i k.toNat ++ [(atS A i).after (atS B k.toNat)] = partP A B i (k + 1).toNat := by
  unfold partP
  rw [show (k + 1).toNat = k.toNat + 1 by omega, List.take_succ_eq_append_getElem (show k.toNat < B.length by omega), List.filter_append, List.map_append, ← List.append_assoc, ← atS_eq]
  simp [ha]
theorem part_no {A B : List St} {i : Nat} {k : Int} (h0 : 0 ≤ k) (h : k < (B.length : Int)) (ha : (atS A i).afterB (atS B k.toNat) = false) : partP A B i k.toNat = partP A B i (k + 1).toNat := by
  unfold partP
  rw [show (k + 1).toNat = k.toNat + 1 by omega, List.take_succ_eq_append_getElem (show k.toNat < B.length by omega), List.filter_append, List.map_append, ← atS_eq]
  simp [ha]
theorem each_f {A B : List St} (h : eachB A B = false) : eachL A B = [] := by unfold eachL; rw [h]; rfl
theorem each_t {A B : List St} (h : eachB A B = true) : (rightsB A = true ∧ rightsB B = true ∧ (minL (sumsP A B)).length ≤ 64) ∧ eachL A B = minL (sumsP A B) := by
  refine ⟨?_, by unfold eachL; rw [h]; rfl⟩
  unfold eachB at h
  simp only [Bool.and_eq_true, decide_eq_true_eq] at h
  exact ⟨h.1.1, h.1.2, h.2⟩
theorem eachL_len (A B : List St) : (eachL A B).length ≤ 64 := by
  cases h : eachB A B with
  | true => have := each_t h; rw [this.2]; exact this.1.2.2
  | false => rw [each_f h]; simp
theorem after_right {p q : St} (h : p.afterB q = true) : (p.after q).rightB = true := by
  have := after_t h
  rw [St.right_iff]; omega
theorem least_of {L : List St} {t : St} (h : t ∈ L) : ∃ m ∈ minL L, m.leB t = true := by
  obtain ⟨m, hm, h1, h2⟩ := least_below _ (Nat.le_refl _) t h
  exact ⟨m, mem_minL.2 ⟨hm, h2⟩, h1⟩
theorem after_mono {p q m n : St} (hp : m.leB p = true) (hq : n.leB q = true) (hm : m.rightB = true) (hn : n.rightB = true) (h : p.afterB q = true) : m.afterB n = true ∧ (m.after n).leB (p.after q) = true := by
  have h1 := after_t h
  have h2 := le_t hp
  have h3 := le_t hq
  have h4 := right_t hm
  have h5 := right_t hn
  have h6 : m.afterB n = true := after_iff.2 (by omega)
  have h7 := after_t h6
  exact ⟨h6, St.le_iff.2 (by omega)⟩
end Go.Proofs.YtcnmmnhlhenifaaGreat
namespace Go.Proofs.YtcnmmnhlhenifaaGreat
open Go.RowKit
set_option maxRecDepth 100000
set_option linter.unusedSimpArgs false
set_option linter.unusedVariables false
structure Ed where
  f : Int
  t : Int
  p : St
deriving DecidableEq
def Ed.zero : Ed := ⟨0, 0, St.zero⟩
def encG : Enc Ed := ⟨4, fun x => [.int .i64 x.f, .int .i64 x.t, .int .i64 x.p.e, .int .i64 x.p.r], Ed.zero, fun _ => rfl, fun a v h => by
  simp only [List.mem_cons, List.not_mem_nil, or_false] at h
  rcases h with rfl | rfl | rfl | rfl <;> rfl⟩
def cG (L : List Ed) : List Value := cE encG L
def atG (L : List Ed) (i : Nat) : Ed := atE encG L i
theorem cG_at {L : List Ed} {i : Nat} (h : i < L.length) : ((cG L).drop (i * 4)).take 4 = [.int .i64 (atG L i).f, .int .i64 (atG L i).t, .int .i64 (atG L i).p.e, .int .i64 (atG L i).p.r] := cE_at (E := encG) h
theorem cG_ones (L : List Ed) : ∀ z ∈ cG L, z.oneCell' = true := cE_ones L
theorem atG_mem {L : List Ed} {i : Nat} (h : i < L.length) : atG L i ∈ L := atE_mem (E := encG) h
theorem at_of_memG {L : List Ed} {x : Ed} (h : x ∈ L) : ∃ i, i < L.length ∧ atG L i = x := at_of_memE (E := encG) h
abbrev RdG (w : World) (v : Value) (L : List Ed) : Prop := RdV w 4 v L.length (cG L)
def fitsB (n : Int) (x : Ed) : Bool := decide (0 ≤ x.f ∧ x.f < n ∧ 0 ≤ x.t ∧ x.t < n) && x.p.rightB
theorem fits_iff {n : Int} {x : Ed} : fitsB n x = true ↔ (0 ≤ x.f ∧ x.f < n ∧ 0 ≤ x.t ∧ x.t < n) ∧ x.p.rightB = true := by unfold fitsB; simp
theorem fits_no {n : Int} {x : Ed} (h : ¬ (0 ≤ x.f ∧ x.f < n ∧ 0 ≤ x.t ∧ x.t < n)) : fitsB n x = false := by rw [← Bool.not_eq_true, fits_iff]; exact fun h2 => h h2.1
theorem fits_yes {n : Int} {x : Ed} (h : 0 ≤ x.f ∧ x.f < n ∧ 0 ≤ x.t ∧ x.t < n) : fitsB n x = x.p.rightB := by rw [Bool.eq_iff_iff, fits_iff]; exact ⟨fun h2 => h2.2, fun h2 => ⟨h, h2⟩⟩
def okE (T : List Bool) (k : Nat) (x : Ed) : Bool := !(decide (x.t = (k : Int)) && decide (x.p = St.zero) && !atB T x.f.toNat)
def freeB (E : List Ed) (T : List Bool) (k : Nat) : Bool := !atB T k && E.all (okE T k)
def nextO (E : List Ed) (T : List Bool) (n : Nat) : Option Nat := (List.range n).find? (freeB E T)
def stepO (E : List Ed) (n : Nat) (s : List Bool × List Int) : List Bool × List Int :=
  match nextO E s.1 n with
  | some k => (s.1.set k true, s.2 ++ [(k : Int)])
  | none => s
def roundsO (E : List Ed) (n : Nat) : Nat → List Bool × List Int
  | 0 => (List.replicate n false, [])
  | r + 1 => stepO E n (roundsO E n r)
def orderL (E : List Ed) (n : Nat) : List Int := (roundsO E n n).2
theorem rounds_len (E : List Ed) (n : Nat) : ∀ r, (roundsO E n r).1.length = n
  | 0 => by simp [roundsO]
  | r + 1 => by
    have ih := rounds_len E n r
    simp only [roundsO, stepO]
    split
    · simpa using ih
    · exact ih
theorem rounds_out (E : List Ed) (n : Nat) : ∀ r, (roundsO E n r).2.length ≤ r
  | 0 => by simp [roundsO]
  | r + 1 => by
    have ih := rounds_out E n r
    simp only [roundsO, stepO]
    split
    · rw [List.length_append, List.length_singleton]; omega
    · omega
theorem find_range {n k : Nat} {p : Nat → Bool} (hk : k < n) (h : p k = true) (hb : ∀ q, q < k → p q = false) : (List.range n).find? p = some k := by
  rw [List.find?_range_eq_some]
  exact ⟨h, List.mem_range.2 hk, fun j hj => by rw [hb j hj]; rfl⟩
theorem round_some {E : List Ed} {n : Nat} {r : Int} {k : Int} (h0 : 0 ≤ r) (hk0 : 0 ≤ k) (hk : k.toNat < n) (h : freeB E (roundsO E n r.toNat).1 k.toNat = true) (hb : ∀ q, q < k.toNat → freeB E (roundsO E n r.toNat).1 q = false) :
    roundsO E n (r + 1).toNat = ((roundsO E n r.toNat).1.set k.toNat true, (roundsO E n r.toNat).2 ++ [k]) := by
  rw [show (r + 1).toNat = r.toNat + 1 by omega]
  simp only [roundsO, stepO]
  rw [show nextO E (roundsO E n r.toNat).1 n = some k.toNat from find_range hk h hb]
  simp only [show ((k.toNat : Nat) : Int) = k by omega]
theorem round_none {E : List Ed} {n : Nat} {r k : Int} (h0 : 0 ≤ r) (hb : ∀ q, q < k.toNat → freeB E (roundsO E n r.toNat).1 q = false) (hk : ¬ k.toNat < n) :
    roundsO E n (r + 1).toNat = roundsO E n r.toNat := by
  rw [show (r + 1).toNat = r.toNat + 1 by omega]
  simp only [roundsO, stepO]
  have : nextO E (roundsO E n r.toNat).1 n = none := List.find?_eq_none.2 fun q hq => by
    rw [hb q (by have := List.mem_range.1 hq; omega)]; simp
  rw [this]
def FreeI (E : List Ed) (T : List Bool) (k i : Nat) (b : Bool) : Prop := b = true ↔ atB T k = false ∧ ∀ q, q < i → okE T k (atG E q) = true
theorem free_start {E : List Ed} {T : List Bool} {k : Nat} {b : Bool} (h : atB T k = b) : FreeI E T k (0 : Int).toNat (!b) := by
  unfold FreeI; rw [h]; cases b <;> simp
theorem free_keep {E : List Ed} {T : List Bool} {k : Nat} {i : Int} {b : Bool} (h0 : 0 ≤ i) (h : FreeI E T k i.toNat b) (hx : okE T k (atG E i.toNat) = true) : FreeI E T k (i + 1).toNat b := by
  unfold FreeI at *
  rw [h]
  refine and_congr_right fun _ => ⟨fun h2 => all_succ h2 h0 hx, fun h2 q hq => h2 q (by omega)⟩
theorem free_drop {E : List Ed} {T : List Bool} {k : Nat} {i : Int} (h0 : 0 ≤ i) (hx : okE T k (atG E i.toNat) = false) : FreeI E T k (i + 1).toNat false := by
  unfold FreeI
  refine ⟨(fun h => by cases h), fun ⟨_, h⟩ => ?_⟩
  rw [h i.toNat (by omega)] at hx; cases hx
theorem free_end {E : List Ed} {T : List Bool} {k : Nat} {i : Int} {b : Bool} (h : FreeI E T k i.toNat b) (hl : i ≤ (E.length : Int)) (hi : ¬ i < (E.length : Int)) : freeB E T k = b := by
  unfold FreeI at h
  unfold freeB
  rw [Bool.eq_iff_iff, h, Bool.and_eq_true, Bool.not_eq_true', List.all_eq_true]
  refine and_congr_right fun _ => ⟨fun h2 q hq => h2 _ (atG_mem (by omega)), fun h2 x hx => ?_⟩
  obtain ⟨q, hq, rfl⟩ := at_of_memG hx
  exact h2 q (by omega)
theorem ok_f {T : List Bool} {k : Int} {x : Ed} (hk : 0 ≤ k) (h1 : x.t = k) (h2 : x.p = St.zero) (h3 : atB T x.f.toNat = false) : okE T k.toNat x = false := by
  unfold okE; simp [h2, h3]; omega
theorem ok_t {T : List Bool} {k : Int} {x : Ed} (hk : 0 ≤ k) (h : ¬ x.t = k ∨ ¬ x.p = St.zero ∨ atB T x.f.toNat = true) : okE T k.toNat x = true := by
  unfold okE
  have e : ((k.toNat : Nat) : Int) = k := by omega
  rw [e]
  rcases h with h | h | h <;> simp [h]
def badE (n : Int) (E : List Ed) : Nat → Option Nat
  | 0 => none
  | i + 1 => match badE n E i with
    | some k => some k
    | none => if fitsB n (atG E i) then none else some i
def checkG (n : Int) (E : List Ed) : Int × Int :=
  if n < 1 ∨ 8 < n ∨ 16 < E.length then (4, -1) else
  match E.findIdx? (fun x => !fitsB n x) with
  | some i => (4, (i : Int))
  | none => if ((orderL E n.toNat).length : Int) < n then (5, -1) else (0, -1)
theorem check_many {n : Int} {E : List Ed} (h : n < 1 ∨ 8 < n ∨ 16 < E.length) : checkG n E = (4, -1) := if_pos h
theorem check_bad {n : Int} {E : List Ed} {i : Int} (h : ¬ (n < 1 ∨ 8 < n ∨ 16 < E.length)) (h0 : 0 ≤ i) (hi : i < (E.length : Int)) (hb : ∀ q, q < i.toNat → fitsB n (atG E q) = true) (hx : fitsB n (atG E i.toNat) = false) : checkG n E = (4, i) := by
  unfold checkG
  rw [if_neg h]
  have : E.findIdx? (fun x => !fitsB n x) = some i.toNat := by
    rw [List.findIdx?_eq_some_iff_getElem]
    refine ⟨by omega, by rw [← show atG E i.toNat = E[i.toNat] from atE_eq (by omega), hx]; rfl, fun j hj => ?_⟩
    rw [← show atG E j = E[j] from atE_eq (by omega), hb j hj]; simp
  rw [this]
  simp only
  rw [show ((i.toNat : Nat) : Int) = i by omega]
theorem check_fit {n : Int} {E : List Ed} {i : Int} (h : ¬ (n < 1 ∨ 8 < n ∨ 16 < E.length)) (hb : ∀ q, q < i.toNat → fitsB n (atG E q) = true) (hi : ¬ i < (E.length : Int)) : (∀ x ∈ E, fitsB n x = true) ∧ checkG n E = if ((orderL E n.toNat).length : Int) < n then (5, -1) else (0, -1) := by
  have hall : ∀ x ∈ E, fitsB n x = true := fun x hx => by
    obtain ⟨q, hq, rfl⟩ := at_of_memG hx
    exact hb q (by omega)
  refine ⟨hall, ?_⟩
  unfold checkG
  rw [if_neg h]
  have : E.findIdx? (fun x => !fitsB n x) = none := by
    rw [List.findIdx?_eq_none_iff]
    intro x hx; rw [hall x hx]; rfl
  rw [this]
end Go.Proofs.YtcnmmnhlhenifaaGreat
namespace Go.Proofs.YtcnmmnhlhenifaaGreat
open Go.RowKit
set_option maxRecDepth 100000
set_option linter.unusedSimpArgs false
set_option linter.unusedVariables false
def fpN (v : Value) (n : Nat) : List Nat := if n = 0 then [] else [gof v]
theorem mem_fpN {v : Value} {n g : Nat} : g ∈ fpN v n ↔ 0 < n ∧ g = gof v := by
  unfold fpN
  split
  · constructor
    · intro h; cases h
    · intro h; omega
  · rw [List.mem_singleton]
    exact ⟨fun h => ⟨by omega, h⟩, fun h => h.2⟩
theorem RdV.keep {w w' : World} {m n : Nat} {v : Value} {xs : List Value} (h : RdV w m v n xs) (hk : ∀ g ∈ fpN v n, w'.heap[g]? = w.heap[g]?) : RdV w' m v n xs ∧ ∀ g ∈ fpN v n, g < w.heap.size := by
  obtain ⟨h1, A, c, h2, h3, h4, h5⟩ := h
  refine ⟨⟨h1, A, c, h2, h3, h4, fun hn => ?_⟩, fun g hg => ?_⟩
  · obtain ⟨g, off, e, h6, h7⟩ := h5 hn
    have hg : gof v = g := by rw [h2, e]; rfl
    have hb := hk g (mem_fpN.2 ⟨hn, hg.symm⟩)
    refine ⟨g, off, e, ?_, fun j u hu => ?_⟩
    · rcases Nat.lt_or_ge g w'.heap.size with hl | hl
      · exact hl
      · rw [Array.getElem?_eq_none hl, Array.getElem?_eq_getElem h6] at hb; cases hb
    · have := h7 j u hu
      unfold World.cell? at this ⊢
      simp only at this ⊢
      rw [hb]; exact this
  · obtain ⟨hn, rfl⟩ := mem_fpN.1 hg
    obtain ⟨g, off, e, h6, h7⟩ := h5 hn
    rw [h2, e]; exact h6
def atW (L : List (List Value)) (i : Nat) : List Value := L.getD i []
def at3 (L : List (List (List St))) (i : Nat) : List (List St) := L.getD i []
theorem at3_eq {L : List (List (List St))} {i : Nat} (h : i < L.length) : at3 L i = L[i] := by unfold at3; rw [List.getD_eq_getElem?_getD, List.getElem?_eq_getElem h]; rfl
def Sm3 (L : List (List (List St))) : Prop := L.length ≤ 1000 ∧ (∀ i, (at3 L i).length ≤ 1000) ∧ ∀ i j, (atR (at3 L i) j).length ≤ 20000000
structure In3 (rs : List Value) (vss : List (List Value)) (L : List (List (List St))) (w : World) : Prop where
  lr : rs.length = L.length
  ls : vss.length = L.length
  lv : ∀ i, i < L.length → (atW vss i).length = (at3 L i).length
  row : ∀ i, i < L.length → RdV w 1 (atV rs i) (at3 L i).length (cV (atW vss i))
  one : ∀ i j, i < L.length → j < (at3 L i).length → RdS w (atV (atW vss i) j) (atR (at3 L i) j)
def fpI (rs : List Value) (vss : List (List Value)) (L : List (List (List St))) : List Nat :=
  (List.range L.length).flatMap fun i => fpN (atV rs i) (at3 L i).length ++ (List.range (at3 L i).length).flatMap fun j => fpN (atV (atW vss i) j) (atR (at3 L i) j).length
theorem mem_fpI {rs : List Value} {vss : List (List Value)} {L : List (List (List St))} {g : Nat} : g ∈ fpI rs vss L ↔ ∃ i, i < L.length ∧ (g ∈ fpN (atV rs i) (at3 L i).length ∨ ∃ j, j < (at3 L i).length ∧ g ∈ fpN (atV (atW vss i) j) (atR (at3 L i) j).length) := by
  unfold fpI
  simp only [List.mem_flatMap, List.mem_range, List.mem_append]
theorem In3.loc (rs : List Value) (vss : List (List Value)) (L : List (List (List St))) : Loc (fpI rs vss L) (In3 rs vss L) := fun w w' hk h => by
  refine ⟨⟨h.lr, h.ls, h.lv, fun i hi => ?_, fun i j hi hj => ?_⟩, fun g hg => ?_⟩
  · exact ((h.row i hi).keep fun g hg => hk g (mem_fpI.2 ⟨i, hi, .inl hg⟩)).1
  · exact (RdV.keep (h.one i j hi hj) fun g hg => hk g (mem_fpI.2 ⟨i, hi, .inr ⟨j, hj, hg⟩⟩)).1
  · obtain ⟨i, hi, h1 | ⟨j, hj, h1⟩⟩ := mem_fpI.1 hg
    · exact ((h.row i hi).keep (w' := w) fun _ _ => rfl).2 g h1
    · exact (RdV.keep (w' := w) (h.one i j hi hj) fun _ _ => rfl).2 g h1
structure Rd3 (v : Value) (rs : List Value) (vss : List (List Value)) (L : List (List (List St))) (w : World) : Prop where
  top : RdV w 1 v L.length (cV rs)
  inn : In3 rs vss L w
def fp3 (v : Value) (rs : List Value) (vss : List (List Value)) (L : List (List (List St))) : List Nat := fpN v L.length ++ fpI rs vss L
theorem Rd3.loc (v : Value) (rs : List Value) (vss : List (List Value)) (L : List (List (List St))) : Loc (fp3 v rs vss L) (Rd3 v rs vss L) := fun w w' hk h => by
  have h1 := h.top.keep (w' := w') fun g hg => hk g (List.mem_append.2 (.inl hg))
  have h2 := In3.loc rs vss L w w' (fun g hg => hk g (List.mem_append.2 (.inr hg))) h.inn
  refine ⟨⟨h1.1, h2.1⟩, fun g hg => ?_⟩
  rcases List.mem_append.1 hg with h3 | h3
  · exact h1.2 g h3
  · exact h2.2 g h3
theorem in3_nil (w : World) : In3 [] [] [] w := ⟨rfl, rfl, fun i h => absurd h (Nat.not_lt_zero i), fun i h => absurd h (Nat.not_lt_zero i), fun i _ h => absurd h (Nat.not_lt_zero i)⟩
theorem rd3_nil (w : World) : Rd3 nilV [] [] [] w := ⟨nil_rd w, in3_nil w⟩
theorem atV_app {L K : List Value} {i : Nat} (h : i < L.length) : atV (L ++ K) i = atV L i := by
  unfold atV; rw [List.getD_eq_getElem?_getD, List.getD_eq_getElem?_getD, List.getElem?_append_left h]
theorem atW_app {L K : List (List Value)} {i : Nat} (h : i < L.length) : atW (L ++ K) i = atW L i := by
  unfold atW; rw [List.getD_eq_getElem?_getD, List.getD_eq_getElem?_getD, List.getElem?_append_left h]
theorem at3_app {L K : List (List (List St))} {i : Nat} (h : i < L.length) : at3 (L ++ K) i = at3 L i := by
  unfold at3; rw [List.getD_eq_getElem?_getD, List.getD_eq_getElem?_getD, List.getElem?_append_left h]
theorem atV_last {L : List Value} {x : Value} {i : Nat} (h : i = L.length) : atV (L ++ [x]) i = x := by
  subst h; unfold atV; rw [List.getD_eq_getElem?_getD, List.getElem?_append_right (Nat.le_refl _)]; simp
theorem atW_last {L : List (List Value)} {x : List Value} {i : Nat} (h : i = L.length) : atW (L ++ [x]) i = x := by
  subst h; unfold atW; rw [List.getD_eq_getElem?_getD, List.getElem?_append_right (Nat.le_refl _)]; simp
theorem at3_last {L : List (List (List St))} {x : List (List St)} {i : Nat} (h : i = L.length) : at3 (L ++ [x]) i = x := by
  subst h; unfold at3; rw [List.getD_eq_getElem?_getD, List.getElem?_append_right (Nat.le_refl _)]; simp
section
variable {w : World} {rs vs : List Value} {vss : List (List Value)} {L : List (List (List St))} {K : List (List St)} {v : Value}
theorem in3_push (h : In3 rs vss L w) (hv : RdV w 1 v K.length (cV vs)) (hl : vs.length = K.length) (ho : ∀ j, j < K.length → RdS w (atV vs j) (atR K j)) : In3 (rs ++ [v]) (vss ++ [vs]) (L ++ [K]) w := by
  have hr := h.lr
  have hs := h.ls
  refine ⟨by simp [hr], by simp [hs], fun i hi => ?_, fun i hi => ?_, fun i j hi hj => ?_⟩
  · simp only [List.length_append, List.length_singleton] at hi
    rcases Nat.lt_or_ge i L.length with h1 | h1
    · rw [atW_app (by omega), at3_app h1]; exact h.lv i h1
    · rw [atW_last (by omega), at3_last (by omega)]; exact hl
  · simp only [List.length_append, List.length_singleton] at hi
    rcases Nat.lt_or_ge i L.length with h1 | h1
    · rw [atV_app (by omega), atW_app (by omega), at3_app h1]; exact h.row i h1
    · rw [atV_last (by omega), atW_last (by omega), at3_last (by omega)]; exact hv
  · simp only [List.length_append, List.length_singleton] at hi
    rcases Nat.lt_or_ge i L.length with h1 | h1
    · rw [at3_app h1] at hj ⊢
      rw [atW_app (by omega)]; exact h.one i j h1 hj
    · rw [at3_last (by omega)] at hj ⊢
      rw [atW_last (by omega)]; exact ho j hj
theorem fp_push (hr : rs.length = L.length) (hs : vss.length = L.length) {g : Nat} (hg : g ∈ fpI (rs ++ [v]) (vss ++ [vs]) (L ++ [K])) : g ∈ fpI rs vss L ∨ g ∈ fpN v K.length ∨ ∃ j, j < K.length ∧ g ∈ fpN (atV vs j) (atR K j).length := by
  obtain ⟨i, hi, h⟩ := mem_fpI.1 hg
  simp only [List.length_append, List.length_singleton] at hi
  rcases Nat.lt_or_ge i L.length with h1 | h1
  · rw [atV_app (by omega), atW_app (by omega), at3_app h1] at h
    exact .inl (mem_fpI.2 ⟨i, h1, h⟩)
  · rw [atV_last (by omega), atW_last (by omega), at3_last (by omega)] at h
    exact .inr h
theorem own_fpN {t : TypeId} {b m n : Nat} {xs : List Value} (h : w.ownsRow b t m v n xs) {g : Nat} (hg : g ∈ fpN v n) : v.ownBlock = some g := by
  obtain ⟨hn, rfl⟩ := mem_fpN.1 hg
  rcases h.2 with h4 | ⟨g', cap, cur, h4, _⟩
  · omega
  · rw [h4]; rfl
theorem Mm.push3 {R : List Nat} {w0 : World} {B : List Ent} {g t : Nat} {ty : TypeId} {n : Nat} (M : Mm R w0 w (.own (fpI rs vss L) (In3 rs vss L) :: .blk g t (List.toArray (cV vs)) :: .own (fpR vs) (RowsV ty vs K) :: B)) (hn : vs.length = n) (hb : n ≤ 1000000000) :
    Mm R w0 w (.own (fpI (rs ++ [.slice (some ⟨g, 0, none⟩) n n]) (vss ++ [vs]) (L ++ [K])) (In3 (rs ++ [.slice (some ⟨g, 0, none⟩) n n]) (vss ++ [vs]) (L ++ [K])) :: B) := by
  have h1 : In3 rs vss L w := M.pv (i := 0) rfl
  have h2 : Blk w g t (List.toArray (cV vs)) := M.at (i := 1) rfl
  have h3 : RowsV ty vs K w := M.pv (i := 2) rfl
  have hl := h3.len
  have hv : RdV w 1 (.slice (some ⟨g, 0, none⟩) n n) n (cV vs) := by
    have := blk_rdv (m := 1) h2 (by simp [cV, hn]) hb
    simpa using this
  have hp : In3 (rs ++ [.slice (some ⟨g, 0, none⟩) n n]) (vss ++ [vs]) (L ++ [K]) w := in3_push h1 (by rw [← hl, hn]; exact hv) hl (fun j hj => h3.rd (by omega))
  have hfp : ∀ q ∈ fpI (rs ++ [.slice (some ⟨g, 0, none⟩) n n]) (vss ++ [vs]) (L ++ [K]), q ∈ fpI rs vss L ∨ q = g ∨ q ∈ fpR vs := fun q hq => by
    rcases fp_push h1.lr h1.ls hq with h | h | ⟨j, hj, h⟩
    · exact .inl h
    · exact .inr (.inl (mem_fpN.1 h).2)
    · exact .inr (.inr (mem_fpR.2 ⟨j, by omega, own_fpN (h3.row j (by omega)) h⟩))
  have hnd := List.pairwise_cons.1 M.nd
  have hnd2 := List.pairwise_cons.1 hnd.2
  have hnd3 := List.pairwise_cons.1 hnd2.2
  refine ⟨M.out, fun y hy => ?_, fun y hy q hq => ?_, fun y hy q hq => ?_, List.pairwise_cons.2 ⟨fun y hy q hq hqy => ?_, hnd3.2⟩⟩
  · rcases List.mem_cons.1 hy with rfl | h
    · exact ⟨hp, In3.loc _ _ _⟩
    · exact M.has y (by simp [h])
  · rcases List.mem_cons.1 hy with rfl | h
    · rcases hfp q hq with h | h | h
      · exact M.own _ (by simp) q (show q ∈ (Ent.own (fpI rs vss L) (In3 rs vss L)).fp from h)
      · exact M.own (.blk g t (List.toArray (cV vs))) (by simp) q (by simp [Ent.fp, h])
      · exact M.own (.own (fpR vs) (RowsV ty vs K)) (by simp) q h
    · exact M.own y (by simp [h]) q hq
  · rcases List.mem_cons.1 hy with rfl | h
    · cases hq
    · exact M.far y (by simp [h]) q hq
  · rcases hfp q hq with h | h | h
    · exact hnd.1 y (by simp [hy]) q h hqy
    · exact hnd2.1 y (by simp [hy]) q (by simp [Ent.fp, h]) hqy
    · exact hnd3.1 y hy q h hqy
theorem Mm.push3o {R : List Nat} {w0 : World} {B : List Ent} {c : Ent} {g t : Nat} {ty : TypeId} {n : Nat} (M : Mm R w0 w (.own (fpR vs) (RowsV ty vs K) :: .blk g t (List.toArray (cV vs)) :: c :: .own (fpI rs vss L) (In3 rs vss L) :: B)) (hn : vs.length = n) (hb : n ≤ 1000000000) :
    Mm R w0 w (c :: .own (fpI (rs ++ [.slice (some ⟨g, 0, none⟩) n n]) (vss ++ [vs]) (L ++ [K])) (In3 (rs ++ [.slice (some ⟨g, 0, none⟩) n n]) (vss ++ [vs]) (L ++ [K])) :: B) := by
  have h1 := M.perm ((List.Perm.cons _ (List.Perm.cons _ (List.Perm.swap _ _ _))).trans ((List.Perm.cons _ (List.Perm.swap _ _ _)).trans ((List.Perm.swap _ _ _).trans (List.Perm.cons _ (List.Perm.swap _ _ _)))))
  exact (h1.push3 hn hb).perm (List.Perm.swap _ _ _)
theorem Mm.nil3 {R : List Nat} {w0 : World} {B : List Ent} (M : Mm R w0 w B) : Mm R w0 w (.own (fpI [] [] []) (In3 [] [] []) :: B) :=
  M.addOwn (Below.refl _ _) (in3_nil w) (In3.loc _ _ _) (fun g hg => by cases hg)
theorem rd3_of {R : List Nat} {w0 : World} {B : List Ent} {t : TypeId} (M : Mm R w0 w B) {i k : Nat} (hi : B[i]? = some (.row t 1 v rs.length (cV rs))) (hk : B[k]? = some (.own (fpI rs vss L) (In3 rs vss L))) : Rd3 v rs vss L w ∧ ∀ g ∈ fp3 v rs vss L, w0.heap.size ≤ g ∨ g ∈ R := by
  have h1 : In3 rs vss L w := M.pv hk
  have h2 := M.ow hi
  refine ⟨⟨by rw [← h1.lr]; exact own_rdv h2, h1⟩, fun g hg => ?_⟩
  rcases List.mem_append.1 hg with h | h
  · rw [← h1.lr] at h
    exact M.own _ (List.mem_of_getElem? hi) g (by simp [Ent.fp, own_fpN h2 h])
  · exact M.own _ (List.mem_of_getElem? hk) g h
end
end Go.Proofs.YtcnmmnhlhenifaaGreat
namespace Go.Proofs.YtcnmmnhlhenifaaGreat
open Go.RowKit
set_option maxRecDepth 100000
set_option linter.unusedSimpArgs false
set_option linter.unusedVariables false
def evL (L : List (Nat × Value)) : Operand → Option Value
  | .tmp k => look L k
  | .const v => some v
  | .func f => some (.func (.func f) #[] #[])
  | .global _ => none
theorem Fr.evL {a : Act} {n : Nat} {L : List (Nat × Value)} (F : Fr a n L) {x : Operand} {v : Value} (h : evL L x = some v) : a.eval x = v := by
  cases x with
  | tmp k => exact F.ev h
  | const u => injection h
  | func f => injection h
  | global g => cases h
def seenL (n : Nat) (L : List (Nat × Value)) (ops : List Oper) (j : Nat) : Option Value :=
  match ops[j]? with
  | some oj => match oj.dst with
    | some d => match Nat.blt d n with
      | true => look L d
      | false => none
    | none => none
  | none => none
def wantL (n : Nat) (L : List (Nat × Value)) (ops : List Oper) (o : Oper) : Bool :=
  match o.guard with
  | none => true
  | some (j, b) => match seenL n L ops j with
    | some (.bool c) => match b, c with
      | true, true => true
      | false, false => true
      | _, _ => false
    | _ => false
def skipL (n : Nat) (L : List (Nat × Value)) (ops : List Oper) (o : Oper) : Prop :=
  match o.guard with
  | none => False
  | some (j, b) => seenL n L ops j = some (.bool !b) ∨ seenL n L ops j = some undef
theorem seen_some {n : Nat} {L : List (Nat × Value)} {ops : List Oper} {j : Nat} {v : Value} (h : seenL n L ops j = some v) : ∃ oj d, ops[j]? = some oj ∧ oj.dst = some d ∧ Nat.blt d n = true ∧ look L d = some v := by
  unfold seenL at h
  split at h
  · rename_i oj hj
    split at h
    · rename_i d hd
      split at h
      · rename_i hb; exact ⟨oj, d, hj, hd, hb, h⟩
      · cases h
    · cases h
  · cases h
section
variable {P : Program} {ops rest : List Oper} {o : Oper} {a : Act} {n d : Nat} {L : List (Nat × Value)} {Q : Exit → Act → World → Prop} {w : World} {v u : Value} {x y c : Operand} {t t' e s : TypeId} {i j : Int} {k k' : IntKind} {vs : Array Value} {q f g p m N : Nat} {xs : List Value} {cs : Array Value}
theorem wantL_ok (F : Fr a n L) (h : wantL n L ops o = true) : Region.wanted o (yielded ops.toArray a.tmps) = true := by
  unfold wantL at h
  split at h
  · rename_i hg; exact wt0 hg
  · rename_i j b hg
    split at h
    · rename_i c hs
      obtain ⟨oj, d, h1, h2, h3, h4⟩ := seen_some hs
      cases b <;> cases c <;> first | exact wt1 F hg h1 h2 h4 h3 | exact absurd h (by decide)
    · cases h
theorem skipL_ok (F : Fr a n L) (h : skipL n L ops o) : Region.wanted o (yielded ops.toArray a.tmps) = false := by
  unfold skipL at h
  split at h
  · cases h
  · rename_i j b hg
    rcases h with h | h
    · obtain ⟨oj, d, h1, h2, h3, h4⟩ := seen_some h; exact wtn F hg h1 h2 h4 h3
    · obtain ⟨oj, d, h1, h2, h3, h4⟩ := seen_some h; exact wtu F hg h1 h2 h4 h3
theorem puG (hp : ∀ a, Fr a n L → Pure P o a v) (h : ∀ a, Fr a n ((d, v) :: L) → wpList P ops.toArray Q rest a w) (hw : wantL n L ops o = true := by exact rfl) (hd : o.dst = some d := by exact rfl) (hdn : Nat.blt d n = true := by exact rfl) : ∀ a, Fr a n L → wpList P ops.toArray Q (o :: rest) a w :=
  fun a F => sq_pure F (wantL_ok F hw) (hp a F) hd hdn h
theorem rdG (hp : ∀ a, Fr a n L → Rdy P o a (fun w' => w' = w) v) (h : ∀ a, Fr a n ((d, v) :: L) → wpList P ops.toArray Q rest a w) (hw : wantL n L ops o = true := by exact rfl) (hd : o.dst = some d := by exact rfl) (hdn : Nat.blt d n = true := by exact rfl) : ∀ a, Fr a n L → wpList P ops.toArray Q (o :: rest) a w :=
  fun a F => sq_rd F (wantL_ok F hw) (hp a F) hd hdn h
theorem skG (h : ∀ a, Fr a n ((d, undef) :: L) → wpList P ops.toArray Q rest a w) (hd : o.dst = some d := by exact rfl) (hw : skipL n L ops o := by first | exact .inl rfl | exact .inr rfl) (hdn : Nat.blt d n = true := by exact rfl) : ∀ a, Fr a n L → wpList P ops.toArray Q (o :: rest) a w :=
  fun a F => sq_skip F (skipL_ok F hw) hd hdn h
theorem mvG (h : ∀ a, Fr a n ((d, v) :: L) → wpList P ops.toArray Q rest a w) (ho : o.op = .move x := by exact rfl) (hx : evL L x = some v := by exact rfl) (hw : wantL n L ops o = true := by exact rfl) (hd : o.dst = some d := by exact rfl) (hdn : Nat.blt d n = true := by exact rfl) : ∀ a, Fr a n L → wpList P ops.toArray Q (o :: rest) a w :=
  puG (fun _ F => pu_move ho (F.evL hx)) h hw hd hdn
theorem asG (h : ∀ a, Fr a n ((d, v) :: L) → wpList P ops.toArray Q rest a w) (ho : o.op = .assign x := by exact rfl) (hx : evL L x = some v := by exact rfl) (hw : wantL n L ops o = true := by exact rfl) (hd : o.dst = some d := by exact rfl) (hdn : Nat.blt d n = true := by exact rfl) : ∀ a, Fr a n L → wpList P ops.toArray Q (o :: rest) a w :=
  puG (fun _ F => pu_assign ho (F.evL hx)) h hw hd hdn
theorem faG (hf : fieldOff P s f = some q) (h : ∀ a, Fr a n ((d, .pointer (some ⟨g, p + q, none⟩)) :: L) → wpList P ops.toArray Q rest a w) (ho : o.op = .fieldAddr s x f := by exact rfl) (hx : evL L x = some (.pointer (some ⟨g, p, none⟩)) := by exact rfl) (hw : wantL n L ops o = true := by exact rfl) (hd : o.dst = some d := by exact rfl) (hdn : Nat.blt d n = true := by exact rfl) : ∀ a, Fr a n L → wpList P ops.toArray Q (o :: rest) a w :=
  puG (fun _ F => pu_field ho (F.evL hx) hf) h hw hd hdn
theorem exG (h : ∀ a, Fr a n ((d, v) :: L) → wpList P ops.toArray Q rest a w) (ho : o.op = .extract x q := by exact rfl) (hx : evL L x = some (.tuple vs) := by exact rfl) (hv : vs[q]? = some v := by exact rfl) (hw : wantL n L ops o = true := by exact rfl) (hd : o.dst = some d := by exact rfl) (hdn : Nat.blt d n = true := by exact rfl) : ∀ a, Fr a n L → wpList P ops.toArray Q (o :: rest) a w :=
  puG (fun _ F => pu_extract ho (F.evL hx) hv) h hw hd hdn
theorem lsG (h : ∀ a, Fr a n ((d, .bool (decide (i < j))) :: L) → wpList P ops.toArray Q rest a w) (ho : o.op = .binOp .lss t x y t' := by exact rfl) (hx : evL L x = some (.int k i) := by exact rfl) (hy : evL L y = some (.int k j) := by exact rfl) (hw : wantL n L ops o = true := by exact rfl) (hd : o.dst = some d := by exact rfl) (hdn : Nat.blt d n = true := by exact rfl) : ∀ a, Fr a n L → wpList P ops.toArray Q (o :: rest) a w :=
  puG (fun _ F => pu_lss ho (F.evL hx) (F.evL hy)) h hw hd hdn
theorem leG (h : ∀ a, Fr a n ((d, .bool (decide (i ≤ j))) :: L) → wpList P ops.toArray Q rest a w) (ho : o.op = .binOp .leq t x y t' := by exact rfl) (hx : evL L x = some (.int k i) := by exact rfl) (hy : evL L y = some (.int k j) := by exact rfl) (hw : wantL n L ops o = true := by exact rfl) (hd : o.dst = some d := by exact rfl) (hdn : Nat.blt d n = true := by exact rfl) : ∀ a, Fr a n L → wpList P ops.toArray Q (o :: rest) a w :=
  puG (fun _ F => pu_leq ho (F.evL hx) (F.evL hy)) h hw hd hdn
theorem gtG (h : ∀ a, Fr a n ((d, .bool (decide (j < i))) :: L) → wpList P ops.toArray Q rest a w) (ho : o.op = .binOp .gtr t x y t' := by exact rfl) (hx : evL L x = some (.int k i) := by exact rfl) (hy : evL L y = some (.int k j) := by exact rfl) (hw : wantL n L ops o = true := by exact rfl) (hd : o.dst = some d := by exact rfl) (hdn : Nat.blt d n = true := by exact rfl) : ∀ a, Fr a n L → wpList P ops.toArray Q (o :: rest) a w :=
  puG (fun _ F => pu_gtr ho (F.evL hx) (F.evL hy)) h hw hd hdn
theorem geG (h : ∀ a, Fr a n ((d, .bool (decide (j ≤ i))) :: L) → wpList P ops.toArray Q rest a w) (ho : o.op = .binOp .geq t x y t' := by exact rfl) (hx : evL L x = some (.int k i) := by exact rfl) (hy : evL L y = some (.int k j) := by exact rfl) (hw : wantL n L ops o = true := by exact rfl) (hd : o.dst = some d := by exact rfl) (hdn : Nat.blt d n = true := by exact rfl) : ∀ a, Fr a n L → wpList P ops.toArray Q (o :: rest) a w :=
  puG (fun _ F => pu_geq ho (F.evL hx) (F.evL hy)) h hw hd hdn
theorem eqG (h : ∀ a, Fr a n ((d, .bool (decide (i = j))) :: L) → wpList P ops.toArray Q rest a w) (ho : o.op = .binOp .eql t x y t' := by exact rfl) (hx : evL L x = some (.int k i) := by exact rfl) (hy : evL L y = some (.int k j) := by exact rfl) (hw : wantL n L ops o = true := by exact rfl) (hd : o.dst = some d := by exact rfl) (hdn : Nat.blt d n = true := by exact rfl) : ∀ a, Fr a n L → wpList P ops.toArray Q (o :: rest) a w :=
  puG (fun _ F => pu_eqlI ho (F.evL hx) (F.evL hy)) h hw hd hdn
theorem adG (h : ∀ a, Fr a n ((d, .int .i64 (i + j)) :: L) → wpList P ops.toArray Q rest a w) (ho : o.op = .binOp .add t x y t' := by exact rfl) (hx : evL L x = some (.int .i64 i) := by exact rfl) (hy : evL L y = some (.int .i64 j) := by exact rfl) (h1 : -9223372036854775808 ≤ i + j := by omega) (h2 : i + j ≤ 9223372036854775807 := by omega) (hw : wantL n L ops o = true := by exact rfl) (hd : o.dst = some d := by exact rfl) (hdn : Nat.blt d n = true := by exact rfl) : ∀ a, Fr a n L → wpList P ops.toArray Q (o :: rest) a w :=
  puG (fun _ F => pu_add ho (F.evL hx) (F.evL hy) h1 h2) h hw hd hdn
theorem pkT (h : ∀ a, Fr a n ((d, v) :: L) → wpList P ops.toArray Q rest a w) (ho : o.op = .pick c x y := by exact rfl) (hc : evL L c = some (.bool true) := by exact rfl) (hx : evL L x = some v := by exact rfl) (hw : wantL n L ops o = true := by exact rfl) (hd : o.dst = some d := by exact rfl) (hdn : Nat.blt d n = true := by exact rfl) : ∀ a, Fr a n L → wpList P ops.toArray Q (o :: rest) a w :=
  puG (fun _ F => pu_pickt ho (F.evL hc) (F.evL hx)) h hw hd hdn
theorem pkF (h : ∀ a, Fr a n ((d, v) :: L) → wpList P ops.toArray Q rest a w) (ho : o.op = .pick c x y := by exact rfl) (hc : evL L c = some (.bool false) := by exact rfl) (hy : evL L y = some v := by exact rfl) (hw : wantL n L ops o = true := by exact rfl) (hd : o.dst = some d := by exact rfl) (hdn : Nat.blt d n = true := by exact rfl) : ∀ a, Fr a n L → wpList P ops.toArray Q (o :: rest) a w :=
  puG (fun _ F => pu_pickf ho (F.evL hc) (F.evL hy)) h hw hd hdn
theorem lcG {ty : TypeId} {B : List Ent} {R : List Nat} {w0 : World} (M : Mm R w0 w B) (hT : OneTy P ty) {r : Nat} (hb : B[r]? = some (.blk g t cs)) (h : ∀ a, Fr a n ((d, v) :: L) → wpList P ops.toArray Q rest a w) (ho : o.op = .load ty x := by exact rfl) (hx : evL L x = some (.pointer (some ⟨g, p, none⟩)) := by exact rfl) (hc : cs[p]? = some v := by exact rfl) (hw : wantL n L ops o = true := by exact rfl) (hd : o.dst = some d := by exact rfl) (hdn : Nat.blt d n = true := by exact rfl) : ∀ a, Fr a n L → wpList P ops.toArray Q (o :: rest) a w :=
  rdG (fun _ F => ld_cell ho (F.evL hx) hT (M.rd hb) hc) h hw hd hdn
end
section
variable {P : Program} {Q : Exit → Act → World → Prop} {n : Nat} {L : List (Nat × Value)} {w : World} {id : Nat} {l : List Oper} {y : Code} {ops : Array Oper}
theorem rlG (h : ∀ a, Fr a n L → wpList P l.toArray Q l a w) : ∀ a, Fr a n L → (Code.region id l.toArray false).wp P Q a w := fun a F => wp_region_lit (h a F)
theorem srG (h : ∀ a, Fr a n L → wpList P l.toArray (Exit.then (y.wp P Q) Q) l a w) : ∀ a, Fr a n L → (Code.seq (Code.region id l.toArray false) y).wp P Q a w := fun a F => wp_seq (wp_region_lit (h a F))
theorem nxG (h : ∀ a, Fr a n L → y.wp P Q a w) : ∀ a, Fr a n L → wpList P ops (Exit.then (y.wp P Q) Q) [] a w := fun a F => nx (h a F)
end
end Go.Proofs.YtcnmmnhlhenifaaGreat
namespace Go.Proofs.YtcnmmnhlhenifaaGreat
open Go.RowKit
set_option maxRecDepth 100000
set_option linter.unusedSimpArgs false
set_option linter.unusedVariables false
def encP : Enc Nat := ⟨1, fun g => [.pointer (some ⟨g, 0, none⟩)], 0, fun _ => rfl, fun a v h => by
  simp only [List.mem_cons, List.not_mem_nil, or_false] at h; subst h; rfl⟩
def cP (L : List Nat) : List Value := cE encP L
def atP (L : List Nat) (i : Nat) : Nat := atE encP L i
abbrev RdP (w : World) (v : Value) (L : List Nat) : Prop := RdV w 1 v L.length (cP L)
section
variable {α : Type} {fp : α → List Nat} {Φ : α → World → Prop} {L : List α} {w w' : World}
structure ObjsV (fp : α → List Nat) (Φ : α → World → Prop) (L : List α) (w : World) : Prop where
  all : ∀ a ∈ L, Φ a w
  nd : L.Pairwise fun a b => ∀ g ∈ fp a, ¬ g ∈ fp b
theorem ObjsV.loc (hl : ∀ a, Loc (fp a) (Φ a)) (L : List α) : Loc (L.flatMap fp) (ObjsV fp Φ L) := fun w w' hk h => by
  have hin : ∀ a ∈ L, ∀ g ∈ fp a, g ∈ L.flatMap fp := fun a ha g hg => List.mem_flatMap.2 ⟨a, ha, hg⟩
  refine ⟨⟨fun a ha => (hl a w w' (fun g hg => hk g (hin a ha g hg)) (h.all a ha)).1, h.nd⟩, fun g hg => ?_⟩
  obtain ⟨a, ha, hg⟩ := List.mem_flatMap.1 hg
  exact (hl a w w (fun _ _ => rfl) (h.all a ha)).2 g hg
theorem ObjsV.nil (fp : α → List Nat) (Φ : α → World → Prop) (w : World) : ObjsV fp Φ [] w := ⟨fun a ha => (by cases ha), List.Pairwise.nil⟩
theorem ObjsV.apart (h : ObjsV fp Φ L w) {i j : Nat} (hi : i < L.length) (hj : j < L.length) (hne : i ≠ j) : ∀ g ∈ fp L[i], ¬ g ∈ fp L[j] := by
  have hp := List.pairwise_iff_getElem.1 h.nd
  rcases Nat.lt_or_gt_of_ne hne with h1 | h1
  · exact hp i j hi hj h1
  · exact fun g hg hg' => hp j i hj hi h1 g hg' hg
theorem ObjsV.lt (hl : ∀ a, Loc (fp a) (Φ a)) (h : ObjsV fp Φ L w) {a : α} (ha : a ∈ L) : ∀ g ∈ fp a, g < w.heap.size := (hl a w w (fun _ _ => rfl) (h.all a ha)).2
theorem ObjsV.turn (hl : ∀ a, Loc (fp a) (Φ a)) (h : ObjsV fp Φ L w) {i : Nat} (hi : i < L.length) {Z : Value → Ent → Prop} {e : Ending} {Z' : Value → α → Prop}
    (ht : TurnsE w (.own (fp L[i]) (Φ L[i])) (fun u x' => ∃ a', Z' u a' ∧ x' = .own (fp a') (Φ a')) e w') :
    TurnsE w (.own (L.flatMap fp) (ObjsV fp Φ L)) (fun u x' => ∃ a', Z' u a' ∧ x' = .own ((L.set i a').flatMap fp) (ObjsV fp Φ (L.set i a'))) e w' := by
  obtain ⟨v, x', h1, h2, h3, h4, h5, a', h6, rfl⟩ := ht
  have hsub : ∀ g ∈ fp L[i], g ∈ L.flatMap fp := fun g hg => List.mem_flatMap.2 ⟨_, List.getElem_mem hi, hg⟩
  have hother : ∀ j (hj : j < L.length), j ≠ i → Φ L[j] w' ∧ ∀ g ∈ fp L[j], ¬ g ∈ fp a' := fun j hj hne => by
    have hlt := h.lt hl (List.getElem_mem hj)
    have hap := h.apart hj hi hne
    refine ⟨(hl _ w w' (fun g hg => h2.block g (hlt g hg) (hap g hg)) (h.all _ (List.getElem_mem hj))).1, fun g hg hg' => ?_⟩
    rcases h4 g hg' with h7 | h7
    · exact hap g hg h7
    · have := hlt g hg; omega
  refine ⟨v, .own ((L.set i a').flatMap fp) (ObjsV fp Φ (L.set i a')), h1, h2.mono hsub, ⟨⟨fun b hb => ?_, ?_⟩, ObjsV.loc hl _⟩, fun g hg => ?_, rfl, a', h6, rfl⟩
  · obtain ⟨j, hj, rfl⟩ := List.mem_iff_getElem.1 hb
    rw [List.length_set] at hj
    rw [List.getElem_set]
    split
    · exact h3.1
    · rename_i hne; exact (hother j hj (fun e => hne e.symm)).1
  · rw [List.pairwise_iff_getElem]
    intro j k hj hk hjk
    rw [List.length_set] at hj hk
    rw [List.getElem_set, List.getElem_set]
    by_cases e1 : i = j
    · rw [if_pos e1, if_neg (by omega)]
      exact fun g hg hg' => (hother k hk (by omega)).2 g hg' hg
    · rw [if_neg e1]
      by_cases e2 : i = k
      · rw [if_pos e2]; exact (hother j hj (by omega)).2
      · rw [if_neg e2]; exact h.apart hj hk (by omega)
  · obtain ⟨b, hb, hg⟩ := List.mem_flatMap.1 hg
    obtain ⟨j, hj, rfl⟩ := List.mem_iff_getElem.1 hb
    rw [List.length_set] at hj
    rw [List.getElem_set] at hg
    split at hg
    · rcases h4 g hg with h7 | h7
      · exact .inl (hsub g h7)
      · exact .inr h7
    · exact .inl (List.mem_flatMap.2 ⟨_, List.getElem_mem hj, hg⟩)
theorem ObjsV.push (h : ObjsV fp Φ L w) {a : α} (ha : Φ a w) (hd : ∀ g ∈ fp a, ¬ g ∈ L.flatMap fp) : ObjsV fp Φ (L ++ [a]) w := by
  refine ⟨fun b hb => ?_, List.pairwise_append.2 ⟨h.nd, List.pairwise_singleton _ _, fun b hb c hc g hg hg' => ?_⟩⟩
  · rcases List.mem_append.1 hb with hb | hb
    · exact h.all b hb
    · rw [List.mem_singleton.1 hb]; exact ha
  · rw [List.mem_singleton.1 hc] at hg'
    exact hd g hg' (List.mem_flatMap.2 ⟨b, hb, hg⟩)
end
end Go.Proofs.YtcnmmnhlhenifaaGreat
namespace Go.Proofs.YtcnmmnhlhenifaaGreat
open Go.RowKit Go.Sort
set_option maxRecDepth 100000
set_option linter.unusedSimpArgs false
set_option linter.unusedVariables false
section
variable {α : Type} [Inhabited α] (P : Program) (g : Nat) (lb : Array Value) (lt : α → α → Bool) (sf : Nat) (sb : Array Value) (blk t n : Nat) (W0 : World) (cA : Array α → Array Value)
def LessOK : Prop := ∀ (d : Array α) (w : World) (i j : Nat), d.size = n → i < n → j < n → Out [blk] W0 w → Blk w blk t (cA d) →
  Calls P g (#[.int .i64 i, .int .i64 j] ++ lb) w fun e w' => e = .returned (.bool (lt d[i]! d[j]!)) ∧ Below w.heap.size w w'
def SwapOK : Prop := ∀ (d : Array α) (w : World) (i j : Nat), d.size = n → i < n → j < n → Blk w blk t (cA d) →
  ∃ w', (callFunc sf (#[.int .i64 i, .int .i64 j] ++ sb)).run P w = .ok (.value (.tuple #[])) w' ∧ Out [blk] w w' ∧ Blk w' blk t (cA (swp d i j))
def Turns (w : World) (Z : Value → Array α → Prop) (e : Ending) (w' : World) : Prop := ∃ v d', e = .returned v ∧ Out [blk] w w' ∧ Blk w' blk t (cA d') ∧ Z v d'
end
section
variable {α : Type} [Inhabited α] {P : Program} {g : Nat} {lb : Array Value} {lt : α → α → Bool} {sf : Nat} {sb : Array Value} {blk t n : Nat} {W0 w : World} {cA : Array α → Array Value}
theorem LessOK.at (h : LessOK P g lb lt blk t n W0 cA) {d : Array α} {i j : Nat} {ii jj : Int} (hs : d.size = n) (hi : i < n) (hj : j < n) (ei : ii = i) (ej : jj = j) (ho : Out [blk] W0 w) (hb : Blk w blk t (cA d)) :
    Calls P g ([.int .i64 ii, .int .i64 jj].toArray ++ lb) w fun e w' => e = .returned (.bool (lt d[i]! d[j]!)) ∧ Below w.heap.size w w' := by
  subst ei; subst ej
  exact h d w i j hs hi hj ho hb
theorem SwapOK.at (h : SwapOK P sf sb blk t n cA) {d : Array α} {i j : Nat} {ii jj : Int} (hs : d.size = n) (hi : i < n) (hj : j < n) (ei : ii = i) (ej : jj = j) (hb : Blk w blk t (cA d)) :
    ∃ w', (callFunc sf ([.int .i64 ii, .int .i64 jj].toArray ++ sb)).run P w = .ok (.value (.tuple #[])) w' ∧ Out [blk] w w' ∧ Blk w' blk t (cA (swp d i j)) := by
  subst ei; subst ej
  exact h d w i j hs hi hj hb
end
def cOne (d : Array Int) : Array Value := #[.int .i64 d[0]!]
section
variable {P : Program} {o : Oper} {a : Act} {x : Operand}
theorem run_callV {xs : List Operand} {ts : Array TypeId} {args : List Value} {f : Nat} {lb : Array Value} (ho : o.op = .call { callee := .value x, args := xs.toArray, argTypes := ts }) (hx : a.eval x = .func (.func f) #[] lb) (ha : xs.map a.eval = args) (w : World) :
    (execOp a.eval o).run P w = (callFunc f (args.toArray ++ lb)).run P w := by
  simp only [execOp, ho, resolve, hx, List.map_toArray, ha]
  simp [Deferred.ofValue, invoke]
theorem callFunc_enters {f : Nat} (he : enters P f = true) (args : Array Value) (w : World) : (callFunc f args).run P w = .ok (.enter f args) w := by
  unfold enters at he
  cases hf : P.funcs[f]? with
  | none => simp [hf] at he
  | some fn =>
    simp only [hf, Option.any_some, Bool.and_eq_true, Bool.not_eq_true', beq_eq_false_iff_ne, ne_eq] at he
    obtain ⟨h1, h2⟩ := he
    have h2' : fn.body ≠ none := by intro e; rw [e] at h2; simp at h2
    simp [callFunc, program, hf, h1, h2', Sem.run, Sem.run_bind]
end
section
variable {P : Program} {ops rest : List Oper} {o : Oper} {a : Act} {n d : Nat} {L : List (Nat × Value)} {Q : Exit → Act → World → Prop} {R : List Nat} {w w0 : World} {B : List Ent} {v u : Value} {x : Operand}
theorem sq_callV (F : Fr a n L) (M : Mm R w0 w B) (hw : Region.wanted o (yielded ops.toArray a.tmps) = true) {xs : List Operand} {ts : Array TypeId} {args : List Value} {f : Nat} {lb : Array Value} (ho : o.op = .call { callee := .value x, args := xs.toArray, argTypes := ts })
    (hx : a.eval x = .func (.func f) #[] lb) (he : enters P f = true) (ha : xs.map a.eval = args) (hc : Calls P f (args.toArray ++ lb) w fun e w' => e = .returned v ∧ Below w.heap.size w w') (hd : o.dst = some d) (hdn : Nat.blt d n = true)
    (h : ∀ a' w', Fr a' n ((d, v) :: L) → Mm R w0 w' B → wpList P ops.toArray Q rest a' w') : wpList P ops.toArray Q (o :: rest) a w :=
  wpList_step fun K hK => by
    rw [if_pos hw]
    unfold Oper.wp
    rw [run_callV ho hx ha w, callFunc_enters he]
    refine hc.mono fun e w' ⟨h1, h2⟩ => ?_
    subst h1
    exact hK _ _ (by rw [hd]; exact h _ _ (F.put hdn) (M.below h2))
theorem Mm.turned (M : Mm R w0 w B) {i g : Nat} {t : TypeId} {cs cs' : Array Value} {w' : World} (hi : B[i]? = some (.blk g t cs)) (ho : Out [g] w w') (hb : Blk w' g t cs') : Mm R w0 w' (B.set i (.blk g t cs')) :=
  M.swap hi (x' := .blk g t cs') ho hb (fun g h => .inl h) (fun g h => by cases h)
theorem sq_swap (F : Fr a n L) (M : Mm R w0 w B) (hw : Region.wanted o (yielded ops.toArray a.tmps) = true) {xs : List Operand} {ts : Array TypeId} {args : List Value} {f i g : Nat} {lb : Array Value} {t : TypeId} {cs cs' : Array Value} (ho : o.op = .call { callee := .value x, args := xs.toArray, argTypes := ts })
    (hx : a.eval x = .func (.func f) #[] lb) (ha : xs.map a.eval = args) (hi : B[i]? = some (.blk g t cs)) (hc : ∃ w', (callFunc f (args.toArray ++ lb)).run P w = .ok (.value v) w' ∧ Out [g] w w' ∧ Blk w' g t cs') (hd : o.dst = some d) (hdn : Nat.blt d n = true)
    (h : ∀ a' w', Fr a' n ((d, v) :: L) → Mm R w0 w' (B.set i (.blk g t cs')) → wpList P ops.toArray Q rest a' w') : wpList P ops.toArray Q (o :: rest) a w :=
  wpList_step fun K hK => by
    obtain ⟨w', hr, h1, h2⟩ := hc
    rw [if_pos hw]
    unfold Oper.wp
    rw [run_callV ho hx ha w, hr]
    exact hK _ _ (by rw [hd]; exact h _ _ (F.put hdn) (M.turned hi h1 h2))
theorem sq_callX (F : Fr a n L) (M : Mm R w0 w B) (hw : Region.wanted o (yielded ops.toArray a.tmps) = true) {f : FuncId} {xs : List Operand} {ts : Array TypeId} {args : List Value} {i g : Nat} {t : TypeId} {α : Type} {d0 : Array α} {cA : Array α → Array Value} {Z : Value → Array α → Prop} (ho : o.op = .call { callee := .value (.func f), args := xs.toArray, argTypes := ts })
    (he : enters P f = true) (ha : xs.map a.eval = args) (hi : B[i]? = some (.blk g t (cA d0))) (hc : Calls P f args.toArray w (Turns g t cA w Z)) (hd : o.dst = some d) (hdn : Nat.blt d n = true)
    (h : ∀ a' w' v d', Z v d' → Fr a' n ((d, v) :: L) → Mm R w0 w' (B.set i (.blk g t (cA d'))) → wpList P ops.toArray Q rest a' w') : wpList P ops.toArray Q (o :: rest) a w :=
  wpList_step fun K hK => by
    rw [if_pos hw]
    unfold Oper.wp
    rw [run_enter he ho w, List.map_toArray, ha]
    refine hc.mono fun e w' ⟨v, d', h1, h2, h3, h4⟩ => ?_
    subst h1
    exact hK _ _ (by rw [hd]; exact h _ _ _ _ h4 (F.put hdn) (M.turned hi h2 h3))
end
section
variable {α : Type} [Inhabited α] {lt : α → α → Bool} {d : Array α} {a b : Nat}
theorem insOuter_go {i i' : Nat} (h : i < b) (hi : i' = i + 1) : insOuter lt a b i d = insOuter lt a b i' (insInner lt a i d) := by
  subst hi; rw [insOuter]; simp [h]
theorem insOuter_stop {i : Nat} (h : ¬ i < b) : insOuter lt a b i d = d := by
  rw [insOuter]; simp [h]
theorem insInner_stop1 {j : Nat} (h : j ≤ a) : insInner lt a j d = d := by
  cases j with
  | zero => rfl
  | succ j => rw [insInner, if_neg (by simp; omega)]
theorem insInner_stop2 {j j' : Nat} (e : j = j' + 1) (h : lt d[j]! d[j']! = false) : insInner lt a j d = d := by
  subst e; rw [insInner, if_neg (by simp [h])]
theorem insInner_go {j j' : Nat} (e : j = j' + 1) (h1 : a < j) (h2 : lt d[j]! d[j']! = true) : insInner lt a j d = insInner lt a j' (swp d j j') := by
  subst e; rw [insInner, if_pos (by simp [h2]; omega)]
theorem sift_stop {hi first r : Nat} (h : hi ≤ 2 * r + 1) : siftDown lt hi first r d = d := by
  rw [siftDown, dif_pos h]
theorem sift_R {hi first r o p q q' r' : Nat} {z : Bool} (h : 2 * r + 2 < hi) (ep : p = first + (2 * r + 1)) (eq : q = first + (2 * r + 2)) (eq' : q' = first + (2 * r + 2)) (eo : o = first + r) (er : r' = 2 * r + 2) (hl : lt d[p]! d[q]! = true) (hz : lt d[o]! d[q']! = z) :
    siftDown lt hi first r d = if z then siftDown lt hi first r' (swp d o q') else d := by
  subst ep; subst eq; subst eq'; subst eo; subst er
  rw [siftDown, dif_neg (by omega), show first + (2 * r + 1) + 1 = first + (2 * r + 2) by omega, show 2 * r + 1 + 1 = 2 * r + 2 by omega, hl, hz]
  simp only [h, decide_true, Bool.and_self, if_true]
  cases z <;> simp
theorem sift_L {hi first r o p r' : Nat} {z : Bool} (h : 2 * r + 1 < hi) (ep : p = first + (2 * r + 1)) (eo : o = first + r) (er : r' = 2 * r + 1) (hl : hi ≤ 2 * r + 2 ∨ ∃ q, q = first + (2 * r + 2) ∧ lt d[p]! d[q]! = false) (hz : lt d[o]! d[p]! = z) :
    siftDown lt hi first r d = if z then siftDown lt hi first r' (swp d o p) else d := by
  subst ep; subst eo; subst er
  have hc : (decide (2 * r + 1 + 1 < hi) && lt d[first + (2 * r + 1)]! d[first + (2 * r + 1) + 1]!) = false := by
    rcases hl with h1 | ⟨q, rfl, h1⟩
    · simp; omega
    · rw [show first + (2 * r + 1) + 1 = first + (2 * r + 2) by omega, h1]; simp
  rw [siftDown, dif_neg (by omega), hc, hz]
  cases z <;> simp
theorem hbuild_go {hi first i i' : Nat} (e : i = i' + 1) : heapBuild lt hi first i d = heapBuild lt hi first i' (siftDown lt hi first i' d) := by subst e; rfl
theorem hpop_go {first i i' o p : Nat} (e : i = i' + 1) (eo : o = first) (ep : p = first + i') : heapPop lt first i d = heapPop lt first i' (siftDown lt i' first 0 (swp d o p)) := by subst e; subst eo; subst ep; rfl
theorem scanUp_go {p : α → Bool} {j i i' : Nat} (h : i ≤ j) (hp : p d[i]! = true) (e : i' = i + 1) : scanUp p d j i = scanUp p d j i' := by
  subst e; rw [scanUp]; simp [h, hp]
theorem scanUp_stop {p : α → Bool} {j i : Nat} (h : ¬ i ≤ j ∨ p d[i]! = false) : scanUp p d j i = i := by
  rw [scanUp]; rcases h with h | h
  · simp [h]
  · simp [h]
theorem scanDown_go {p : α → Bool} {i j j' : Nat} (h : i ≤ j) (hp : p d[j]! = true) (e : j = j' + 1) : scanDown p d i j = scanDown p d i j' := by
  subst e; rw [scanDown]; simp [h, hp]
theorem scanDown_stop {p : α → Bool} {i j : Nat} (h : ¬ i ≤ j ∨ p d[j]! = false) : scanDown p d i j = j := by
  cases j with
  | zero => rfl
  | succ j =>
    rw [scanDown]; rcases h with h | h
    · simp [h]
    · simp [h]
theorem partLoop_stop {i j i2 j2 : Nat} (hi : scanUp (fun x => lt x d[a]!) d j i = i2) (hj : scanDown (fun x => !lt x d[a]!) d i2 j = j2) (h : j2 < i2) : partLoop lt a i j d = (j2, d) := by
  rw [partLoop]; simp only [hi, hj]; rw [if_pos h]
theorem partLoop_go {i j i2 j2 i3 j3 : Nat} (hi : scanUp (fun x => lt x d[a]!) d j i = i2) (hj : scanDown (fun x => !lt x d[a]!) d i2 j = j2) (h : i2 ≤ j2) (h1 : i ≤ i2) (h2 : j2 ≤ j) (h0 : 0 < j2) (e3 : i3 = i2 + 1) (e4 : j2 = j3 + 1) :
    partLoop lt a i j d = partLoop lt a i3 j3 (swp d i2 j2) := by
  subst e3; subst e4
  rw [partLoop]; simp only [hi, hj]; rw [if_neg (by omega), dif_pos (by omega)]; rfl
theorem partEqLoop_stop {i j i2 j2 : Nat} (hi : scanUp (fun x => !lt d[a]! x) d j i = i2) (hj : scanDown (fun x => lt d[a]! x) d i2 j = j2) (h : j2 < i2) : partEqLoop lt a i j d = (i2, d) := by
  rw [partEqLoop]; simp only [hi, hj]; rw [if_pos h]
theorem partEqLoop_go {i j i2 j2 i3 j3 : Nat} (hi : scanUp (fun x => !lt d[a]! x) d j i = i2) (hj : scanDown (fun x => lt d[a]! x) d i2 j = j2) (h : i2 ≤ j2) (h1 : i ≤ i2) (h2 : j2 ≤ j) (h0 : 0 < j2) (e3 : i3 = i2 + 1) (e4 : j2 = j3 + 1) :
    partEqLoop lt a i j d = partEqLoop lt a i3 j3 (swp d i2 j2) := by
  subst e3; subst e4
  rw [partEqLoop]; simp only [hi, hj]; rw [if_neg (by omega), dif_pos (by omega)]; rfl
theorem rev_go {i j i' j' : Nat} (h : i < j) (e : i' = i + 1) (e' : j' = j - 1) : reverseLoop i j d = reverseLoop i' j' (swp d i j) := by
  subst e; subst e'; rw [reverseLoop]; simp [h]
theorem rev_stop {i j : Nat} (h : ¬ i < j) : reverseLoop i j d = d := by rw [reverseLoop]; simp [h]
theorem scanSorted_go {i i' k : Nat} (h : i < b) (e : i' = i + 1) (ek : i = k + 1) (hl : lt d[i]! d[k]! = false) : scanSorted lt d b i = scanSorted lt d b i' := by
  subst e; subst ek; rw [scanSorted]; simp [h, hl]
theorem scanSorted_stop1 {i : Nat} (h : ¬ i < b) : scanSorted lt d b i = i := by rw [scanSorted]; simp [h]
theorem scanSorted_stop2 {i k : Nat} (ek : i = k + 1) (hl : lt d[i]! d[k]! = true) : scanSorted lt d b i = i := by
  subst ek; rw [scanSorted]; simp [hl]
theorem shiftDown_go {j j' : Nat} (e : j = j' + 1) (hl : lt d[j]! d[j']! = true) : shiftDown lt j d = shiftDown lt j' (swp d j j') := by
  subst e; rw [shiftDown]; simp [hl]
theorem shiftDown_stop1 {j : Nat} (h : ¬ 1 ≤ j) : shiftDown lt j d = d := by
  have : j = 0 := by omega
  subst this; rfl
theorem shiftDown_stop2 {j j' : Nat} (e : j = j' + 1) (hl : lt d[j]! d[j']! = false) : shiftDown lt j d = d := by
  subst e; rw [shiftDown]; simp [hl]
theorem shiftUp_go {j j' k : Nat} (h : j < b) (e : j' = j + 1) (ek : j = k + 1) (hl : lt d[j]! d[k]! = true) : shiftUp lt b j d = shiftUp lt b j' (swp d j k) := by
  subst e; subst ek; rw [shiftUp]; simp [h, hl]
theorem shiftUp_stop1 {j : Nat} (h : ¬ j < b) : shiftUp lt b j d = d := by rw [shiftUp]; simp [h]
theorem shiftUp_stop2 {j k : Nat} (ek : j = k + 1) (hl : lt d[j]! d[k]! = false) : shiftUp lt b j d = d := by
  subst ek; rw [shiftUp]; simp [hl]
theorem partialIns_go {s s' i i2 i1 : Nat} (es : s = s' + 1) (hi : scanSorted lt d b i = i2) (hne : ¬ i2 = b) (h50 : ¬ b - a < 50) (e1 : i2 = i1 + 1) {d2 d3 : Array α} (h2 : d2 = if i2 - a ≥ 2 then shiftDown lt i1 (swp d i2 i1) else swp d i2 i1) (h3 : d3 = if b - i2 ≥ 2 then shiftUp lt b (i2 + 1) d2 else d2) :
    partialIns lt a b s i d = partialIns lt a b s' i2 d3 := by
  subst es; subst e1; subst h3; subst h2
  rw [partialIns]; simp only [hi]; rw [if_neg hne, if_neg h50]; rfl
theorem partialIns_end {s s' i : Nat} (es : s = s' + 1) (hi : scanSorted lt d b i = b) : partialIns lt a b s i d = (d, true) := by
  subst es; rw [partialIns]; simp only [hi]; simp
theorem partialIns_short {s s' i i2 : Nat} (es : s = s' + 1) (hi : scanSorted lt d b i = i2) (hne : ¬ i2 = b) (h50 : b - a < 50) : partialIns lt a b s i d = (d, false) := by
  subst es; rw [partialIns]; simp only [hi]; rw [if_neg hne, if_pos h50]
theorem partialIns_zero {i : Nat} : partialIns lt a b 0 i d = (d, false) := rfl
end
end Go.Proofs.YtcnmmnhlhenifaaGreat
namespace Go.Proofs.YtcnmmnhlhenifaaGreat
open Go.RowKit
set_option maxRecDepth 100000
set_option linter.unusedSimpArgs false
set_option linter.unusedVariables false
def pof : Value → Nat
  | .pointer (some a) => a.block
  | _ => 0
section
variable {P : Program} {Q : Exit → Act → World → Prop} {a : Act}
theorem ow_allocB {o : Oper} {R : List Nat} {w0 w : World} {B : List Ent} {K : Act → World → Prop} {t : TypeId} {i m' n' : Nat} {u : Value} {ys : List Value} (M : Mm R w0 w B) (ho : o.op = .alloc t) {cs : Array Value} (hz : (P.info? t).map (fun i => i.zero.map (·.cells)) = some (some cs)) (hi : B[i]? = some (.arg m' u n' ys))
    (h : ∀ x w', x = .pointer (some ⟨pof x, 0, none⟩) → Mm R w0 w' (B.set i (.blk (pof x) t cs)) → K (a.put o.dst x) w') : o.wp P a w K Q := by
  have hr : (execOp a.eval o).run P w = .ok (.value (.pointer (some ⟨w.heap.size, 0, none⟩))) (w.alloc (.cells cs t)) := by
    cases hq : P.info? t with
    | none => simp [hq] at hz
    | some i =>
      simp only [hq, Option.map_some, Option.some.injEq] at hz
      obtain ⟨z, hz1, hz2⟩ := Option.map_eq_some_iff.1 hz
      simp [execOp, ho, Instr.alloc, zeroValue, typeInfo, hq, hz1, newVar, newRow, go_sem]
      rw [← hz2]
      rfl
  unfold Oper.wp
  rw [hr]
  exact h (.pointer (some ⟨w.heap.size, 0, none⟩)) _ rfl (M.swap hi (x' := .blk w.heap.size t cs) (Below.out (bel1 _ _) _) (Blk.new _ _ _) (fun g hg => by simp only [Ent.fp, List.mem_singleton] at hg; exact .inr (by omega)) (fun g hg => by cases hg))
theorem ow_stA {o : Oper} {R : List Nat} {w0 w : World} {B : List Ent} {K : Act → World → Prop} {t ty : TypeId} {g i : Nat} {cs cs' : Array Value} {x y : Operand} (M : Mm R w0 w B) (ho : o.op = .store ty x y) (hx : a.eval x = .pointer (some ⟨g, 0, none⟩)) (hy : a.eval y = .agg cs')
    (hi : B[i]? = some (.blk g t cs)) {m : Nat} (hT : AggTy P ty m) (hm : cs.size = m) (hm' : cs'.size = m) (h1 : cs'.toList.all (·.oneCell') = true) (hd : o.dst = none)
    (h : ∀ x w', Mm R w0 w' (B.set i (.blk g t cs')) → K (a.put o.dst x) w') : o.wp P a w K Q := by
  obtain ⟨_, _, _, hi'⟩ := hT
  exact wp_store_row ty x y ho g cs' hx hy t cs (M.at hi) (by rw [hi', hm']) (by rw [hm, hm']) (by simpa using h1) (h undef _ (M.setRow hi cs'))
section
variable {o : Oper} {x y : Operand}
theorem pu_eqlNN {t t' e : TypeId} (ho : o.op = .binOp .eql t x y t') (hx : a.eval x = .pointer none) (hy : a.eval y = .pointer none) (ht : P.underlying t = some (.pointer e)) : Pure P o a (.bool true) := fun w => by
  simp only [execOp, ho, hx, hy]; simp [go_sem, ht]
theorem pu_neqNN {t t' e : TypeId} (ho : o.op = .binOp .neq t x y t') (hx : a.eval x = .pointer none) (hy : a.eval y = .pointer none) (ht : P.underlying t = some (.pointer e)) : Pure P o a (.bool false) := fun w => by
  simp only [execOp, ho, hx, hy]; simp [go_sem, ht]
end
end
end Go.Proofs.YtcnmmnhlhenifaaGreat
namespace Go.Proofs.YtcnmmnhlhenifaaGreat
open Go.RowKit
set_option maxRecDepth 100000
set_option linter.unusedSimpArgs false
set_option linter.unusedVariables false
def PanE (T : TypeId) (n : Int) : List PanicEntry := [{ v := .iface T (.int .i64 n), recovered := false }]
section
variable {P : Program} {a : Act} {o : Oper} {x : Operand}
theorem run_callVp {xs : List Operand} {ts : Array TypeId} {args : List Value} {f : Nat} {lb : Array Value} (ho : o.op = .call { callee := .value x, args := xs.toArray, argTypes := ts }) (hx : a.eval x = .func (.func f) #[] lb) (ha : xs.map a.eval = args) (w : World) :
    (execOp a.eval o).run P w = (callFunc f (args.toArray ++ lb)).run P w := by
  simp only [execOp, ho, resolve, hx, List.map_toArray, ha]
  simp [Deferred.ofValue, invoke]
theorem callFunc_entersP {f : Nat} (he : enters P f = true) (args : Array Value) (w : World) : (callFunc f args).run P w = .ok (.enter f args) w := by
  unfold enters at he
  cases hf : P.funcs[f]? with
  | none => simp [hf] at he
  | some fn =>
    simp only [hf, Option.any_some, Bool.and_eq_true, Bool.not_eq_true', beq_eq_false_iff_ne, ne_eq] at he
    obtain ⟨h1, h2⟩ := he
    have h2' : fn.body ≠ none := by intro e; rw [e] at h2; simp at h2
    simp [callFunc, program, hf, h1, h2', Sem.run, Sem.run_bind]
end
section
variable {P : Program} {Q : Exit → Act → World → Prop} {K J : Act → World → Prop} {c : List PanicEntry} {a : Act} {w w0 : World} {n d : Nat} {L : List (Nat × Value)} {fn : Func} {R : Ending → World → Prop}
theorem npT (h : Q (.panic c) a w) : Exit.then K Q (.panic c) a w := h
theorem rt_panic (F : Fr a n L) (hR : R (.panicked c) w) : bodyPost P fn R (.panic c) a w := ⟨F.defers, hR⟩
variable {ops rest : List Oper} {o : Oper} {Z : List Nat} {B : List Ent} {x y : Operand} {v u : Value} {t e ty : TypeId} {i g k m : Nat} {f : FuncId} {xs : List Operand} {ts : Array TypeId} {args : List Value} {cs cs' : Array Value}
theorem sq_panic (hw : Region.wanted o (yielded ops.toArray a.tmps) = true) (ho : o.op = .panic x) (hx : a.eval x = .iface t v) (h : Q (.panic [{ v := .iface t v, recovered := false }]) a w) : wpList P ops.toArray Q (o :: rest) a w :=
  wpList_step fun K hK => by
    rw [if_pos hw]
    unfold Oper.wp
    simp only [execOp, ho, hx]
    exact h
theorem ow_callPn {K : Act → World → Prop} (ho : o.op = .call { callee := .value (.func f), args := xs.toArray, argTypes := ts }) (he : enters P f = true) (ha : xs.map a.eval = args) (hc : Calls P f args.toArray w fun e w' => e = .panicked c ∧ Out Z w w') (h : ∀ w', Out Z w w' → Q (.panic c) a w') : o.wp P a w K Q := by
  unfold Oper.wp
  rw [run_enter he ho w, List.map_toArray, ha]
  refine hc.mono fun e w' ⟨h1, h2⟩ => ?_
  subst h1
  exact h _ h2
theorem sq_callPn (M : Mm Z w0 w B) (hw : Region.wanted o (yielded ops.toArray a.tmps) = true) (ho : o.op = .call { callee := .value (.func f), args := xs.toArray, argTypes := ts }) (he : enters P f = true) (ha : xs.map a.eval = args) (hc : Calls P f args.toArray w fun e w' => e = .panicked c ∧ Out [] w w') (h : ∀ w', Out Z w0 w' → Q (.panic c) a w') : wpList P ops.toArray Q (o :: rest) a w :=
  wpList_step fun K hK => by
    rw [if_pos hw]
    exact ow_callPn ho he ha hc fun w' h1 => h w' (M.out.trans h1 (fun g hg => by cases hg))
end
def addD (a : Act) (ds : List Deferred) : Act := { a with defers := a.defers ++ ds }
section
variable {P : Program} {ops : Array Oper} {Q : Exit → Act → World → Prop} {ds : List Deferred}
theorem put_addD (a : Act) (d : Option Nat) (v : Value) : (addD a ds).put d v = addD (a.put d v) ds := by cases d <;> rfl
theorem upon_addD {o : Oper} {a : Act} {K K' : Act → World → Prop} (hK : ∀ a w, K a w → K' (addD a ds) w) {r : Result Next} (h : o.upon P a K (fun e a' w' => Q e (addD a' ds) w') r) : o.upon P (addD a ds) K' Q r := by
  unfold Oper.upon at h ⊢
  split at h
  · rw [put_addD]; exact hK _ _ h
  · rw [put_addD]; exact hK _ _ h
  · rename_i d w'
    have := hK _ _ h
    rw [← put_addD] at this
    exact this
  · refine Calls.mono h fun e w'' hR => ?_
    cases e with
    | returned v => simp only at hR ⊢; rw [put_addD]; exact hK _ _ hR
    | panicked c => exact hR
    | outgrown => obtain ⟨a1, w1, h1⟩ := hR; exact ⟨_, w1, h1⟩
  · rename_i row args w'
    rw [show (fun v w'' => K' ((addD a ds).put o.dst v) w'') = fun v w'' => K' (addD (a.put o.dst v) ds) w'' from by funext v w''; rw [put_addD]]
    intro b cs
    obtain ⟨v, w'', h1, h2⟩ := h b cs
    exact ⟨v, w'', hK _ _ h1, h2⟩
  · exact h
  · exact h.elim
theorem wpList_addD : ∀ (l : List Oper) (a : Act) (w : World), wpList P ops (fun e a' w' => Q e (addD a' ds) w') l a w → wpList P ops Q l (addD a ds) w
  | [], _, _, h => h
  | o :: rest, a, w, h => by
    unfold wpList at h ⊢
    show if Region.wanted o (yielded ops a.tmps) = true then _ else _
    split
    · rename_i hw
      rw [if_pos hw] at h
      rcases h with h | ⟨h1, a1, w1, h2⟩
      · exact .inl (upon_addD (fun a w hk => wpList_addD rest a w hk) h)
      · exact .inr ⟨h1, _, w1, h2⟩
    · rename_i hw
      rw [if_neg hw] at h
      rw [put_addD]
      exact wpList_addD rest _ _ h
end
section
variable {P : Program} {Q : Exit → Act → World → Prop} {a : Act} {w w0 : World} {n d : Nat} {L : List (Nat × Value)} {ops rest : List Oper} {o : Oper} {Z : List Nat} {B : List Ent} {x y : Operand} {v : Value} {f : FuncId} {lb : Array Value} {vs : List Value} {R : Ending → World → Prop} {c : Code} {fn : Func}
theorem enterD (hf : P.funcs[f]? = some fn) (hb : fn.body = some c) (n : Nat) (hn : fn.ntmps = n) (vs : List Value) (hlen : Nat.ble vs.length n = true) (L : List (Nat × Value)) (hL : argL 0 vs = L)
    (h : ∀ a, Fr a n L → c.wp P (bodyPostD P fn R) a w) : Calls P f vs.toArray w R := by
  subst hL
  have hlen' : vs.length ≤ n := Nat.le_of_ble_eq_true hlen
  refine calls_of_wp_defers hf hb (h _ ⟨by simp [hn]; omega, rfl, fun {k v} hk => ?_⟩)
  obtain ⟨_, h2⟩ := look_argL vs 0 k v hk
  have hk' : k < vs.length := by
    rcases Nat.lt_or_ge k vs.length with h | h
    · exact h
    · rw [Nat.sub_zero, List.getElem?_eq_none h] at h2; cases h2
  rw [Nat.sub_zero, List.getElem?_eq_getElem hk'] at h2
  injection h2 with h2
  simp only [Array.getD_eq_getD_getElem?]
  rw [Array.getElem?_append_left (by simpa using hk')]
  simp [hk', h2]
theorem sq_defer (F : Fr a n L) (hw : Region.wanted o (yielded ops.toArray a.tmps) = true) (ho : o.op = .defer { callee := .value x, args := #[], argTypes := #[] }) (hx : a.eval x = .func (.func f) #[] lb) (hd : o.dst = none)
    (h : Q .normal (addD a [⟨.fn (.func f) lb, #[]⟩]) w) : wpList P ops.toArray Q [o] a w :=
  wpList_step fun K hK => by
    rw [if_pos hw]
    unfold Oper.wp
    have hr : (execOp a.eval o).run P w = .ok (.defer ⟨.fn (.func f) lb, #[]⟩) w := by
      simp only [execOp, ho, resolve, hx]
      simp [Deferred.ofValue]
    rw [hr, Oper.upon_defer]
    refine hK _ _ (wpList_nil ?_)
    rw [hd]
    have e : ({ a with defers := ⟨.fn (.func f) lb, #[]⟩ :: a.defers }.put none undef : Act) = addD a [⟨.fn (.func f) lb, #[]⟩] := by
      unfold addD
      rw [F.defers]; rfl
    rw [e]
    exact h
theorem sq_callVR (hw : Region.wanted o (yielded ops.toArray a.tmps) = true) (ho : o.op = .call { callee := .value x, args := #[], argTypes := #[] })
    (hx : a.eval x = .func (.func f) #[] lb) (he : enters P f = true) (hd : o.dst = some d) {Y : Ending → World → Prop} (hc : Calls P f lb w Y)
    (h1 : ∀ v w', Y (.returned v) w' → wpList P ops.toArray Q rest (a.put (some d) v) w') (h2 : ∀ c w', Y (.panicked c) w' → Q (.panic c) a w') (h3 : ∀ w', ¬ Y .outgrown w') : wpList P ops.toArray Q (o :: rest) a w :=
  wpList_step fun K hK => by
    rw [if_pos hw]
    unfold Oper.wp
    rw [run_callVp (xs := []) (args := []) ho hx rfl w, callFunc_entersP he]
    rw [show (#[] : Array Value) ++ lb = lb by simp]
    refine hc.mono fun e w' hY => ?_
    cases e with
    | returned v => exact hK _ _ (by rw [hd]; exact h1 v w' hY)
    | panicked c => exact h2 c w' hY
    | outgrown => exact absurd hY (h3 w')
end
section
variable {P : Program} {a : Act} {w w0 : World} {n : Nat} {L : List (Nat × Value)} {R : Ending → World → Prop} {fn : Func} {ds : List Deferred} {c : List PanicEntry} {Z : List Nat} {B : List Ent} {i i' k j g g' m : Nat} {ty ty' t t' : TypeId} {v x : Value} {cs : Array Value}
theorem lv_ret (F : Fr a n L) (h : Leaves P fn a.tmps R ds .returning w) : bodyPostD P fn R .ret (addD a ds) w := by
  show Leaves P fn a.tmps R (a.defers ++ ds) .returning w
  rw [F.defers]; exact h
theorem lv_panic (F : Fr a n L) (h : Leaves P fn a.tmps R ds (.panicking c) w) : bodyPostD P fn R (.panic c) (addD a ds) w := by
  show Leaves P fn a.tmps R (a.defers ++ ds) (.panicking c) w
  rw [F.defers]; exact h
theorem out_setCell (hB : Blk w g t #[x]) (v : Value) : Out [g] w (w.setCell ⟨g, 0, none⟩ v) ∧ Blk (w.setCell ⟨g, 0, none⟩ v) g t #[v] :=
  ⟨⟨rfl, rfl, rfl, by simp, fun j _ hj => heap_setCell_other w ⟨g, 0, none⟩ j v (fun e => hj (by rw [e]; simp))⟩, hB.set_ _ _⟩
theorem run_one (hB : Blk w g t #[x]) (hT : OneTy P ty) : (loadVar ty ⟨g, 0, none⟩).run P w = .ok x w := by
  obtain ⟨d, hu, hd⟩ := hT
  have hagg : (isAgg ty).run P w = .ok false w := by
    unfold isAgg
    rw [Sem.run_bind, run_underlying hu w]
    cases d <;> simp_all
  have hc : w.cell? ⟨g, 0, none⟩ = some x := by rw [hB.cell]; rfl
  simp [loadVar, hagg, hc]
theorem rs_tmp_one (F : Fr a n L) (hr : fn.results = #[.tmp k, .cell j ty]) (hv : look L k = some v) (hp : look L j = some (.pointer (some ⟨g, 0, none⟩))) (hB : Blk w g t #[x]) (hT : OneTy P ty) : (results fn a.tmps).run P w = .ok (.tuple #[v, x]) w := by
  have h1 := F.get hv
  have h2 : a.tmps[k]?.getD undef = v := by simpa using h1
  have h3 := F.get hp
  have h4 : a.tmps[j]?.getD undef = .pointer (some ⟨g, 0, none⟩) := by simpa using h3
  simp [results, hr, h2, h4, asAddr, run_one hB hT]
theorem lv_end {tmps : Array Value} (h1 : (results fn tmps).run P w = .ok v w) (h2 : R (.returned v) w) : Leaves P fn tmps R [] (settle .returning) w := ⟨v, h1, h2⟩
theorem lv_endP {tmps : Array Value} {pv : Value} (h1 : (results fn tmps).run P w = .ok v w) (h2 : R (.returned v) w) : Leaves P fn tmps R [] (settle (.panicking [{ v := pv, recovered := true }])) w := ⟨v, h1, h2⟩
theorem Mm.outNew (M : Mm [] w0 w B) (hi : B[i]? = some (.blk g t cs)) {w' : World} (h : Out [g] w w') : Out [] w0 w' :=
  M.out.trans h (fun g' hg => by
    simp only [List.mem_singleton] at hg
    subst hg
    exact .inl (M.newer hi (by simp)))
end
def restV (v : Value) (n : Nat) : List Nat → Value
  | [] => v
  | j :: js => subS 1 j (n - js.sum) (restV v n js)
section
variable {w : World} {v : Value} {n j : Nat} {L : List UInt8}
end
def numB (L : List UInt8) : Int := L.foldl (fun a b => a * 256 + u8 b) 0
section
variable {P : Program} {o : Oper} {a : Act} {x y : Operand} {i j : Int} {t t' : TypeId}
end
theorem zcU (k : Nat) : Builtin.zeroCells (Value.int .u8 0).cells k = (cU (List.replicate k 0)).toArray := by
  have h : cU (List.replicate k 0) = List.replicate k (.int .u8 0) := by rw [cU_map]; simp [u8]
  rw [h]
  unfold Builtin.zeroCells
  apply Array.ext
  · simp [Value.cells]
  · intro i h1 h2
    simp [Value.cells, Nat.mod_one]
section
variable {P : Program} {ops rest : List Oper} {o : Oper} {a : Act} {n d : Nat} {L : List (Nat × Value)} {Q : Exit → Act → World → Prop} {R : List Nat} {w w0 : World} {B : List Ent} {v u : Value} {x y : Operand} {t tn e : TypeId} {i k c : Nat} {xs : List Value}
theorem appZ_run (M : Mm R w0 w B) (ho : o.op = .call { callee := .builtin .append, args := #[x, y], argTypes := #[t, tn] }) (ht : P.underlying t = some (.slice e)) (htn : P.underlying tn = some (.int .i64)) (hE : (P.info? e).map (fun i => (i.zero, i.size, i.bytes)) = some (some (.int .u8 0), 1, 1))
    (hx : a.eval x = v) (hi : B[i]? = some (.row e 1 v k xs)) (hy : a.eval y = .int .i64 (c : Int)) (hk : 0 < k) (hc : 0 < c) (hmax : k + c ≤ 1000000000) :
    ∃ v' w', (execOp a.eval o).run P w = .ok (.value v') w' ∧ Mm R w0 w' (B.set i (.row e 1 v' (k + c) (xs ++ cU (List.replicate c 0)))) := by
  have hown : w.ownsRow 0 e 1 v k xs := M.get hi
  cases hq : P.info? e with
  | none => simp [hq] at hE
  | some inf =>
    simp only [hq, Option.map_some, Option.some.injEq, Prod.mk.injEq] at hE
    obtain ⟨hz, hs, hby⟩ := hE
    have hw : IntKind.i64.wrap (c : Int) = c := by rw [IntKind.wrap_i64]; omega
    have hneg : ¬ ((c : Int) < 0) := by omega
    have h48i : ¬ (281474976710656 < (c : Int)) := by omega
    have hc0 : c ≠ 0 := by omega
    have hlen : (cU (List.replicate c 0)).length = c := by rw [cU_len, List.length_replicate]
    have hxl : xs.length = k := by have := hown.1; omega
    have hrun : ∃ v' w', (Builtin.append_ #[t, tn] o.type #[v, .int .i64 (c : Int)]).run P w = .ok v' w' ∧ w'.ownsRow 0 e 1 v' (k + c) (xs ++ cU (List.replicate c 0)) ∧ w.grownBy w' v.ownBlock ∧ (v'.ownBlock = v.ownBlock ∨ v'.ownBlock = some w.heap.size) := by
      rcases hown.2 with ⟨rfl, hn⟩ | ⟨g, cap, cur, rfl, hbg, hg, hnc, hcm, hcs, htake⟩
      · omega
      · by_cases hroom : k + c ≤ cap
        · have hst := run_storeCells_at P g k e (cU (List.replicate c 0)) 0 cur w hg (by rw [hcs, hlen]; omega) (cU_ones _)
          simp only [Nat.add_zero] at hst
          refine ⟨.slice (some ⟨g, 0, none⟩) (k + c) cap, w.setRow g (cur.toList.take k ++ cU (List.replicate c 0) ++ cur.toList.drop (k + (cU (List.replicate c 0)).length)).toArray, ?_, ?_, ⟨rfl, rfl, rfl, by simp, fun j _ hj => setRow_other w g j _ (fun e => hj (by simp [Value.ownBlock, e]))⟩, .inl rfl⟩
          · simp [Builtin.append_, run_underlying ht, run_underlying htn, sizeOf, typeInfo, zeroValue, hq, hz, hs, hby, asInt, asIntOf, hw, hneg, h48i, hc0, hroom, zcU, Addr.add_lit, hst]
          · refine ⟨by rw [List.length_append, hlen, hxl]; omega, .inr ⟨g, cap, _, rfl, hbg, setRow_heap w g cur _ e _ hg, hroom, hcm, ?_, ?_⟩⟩
            · simp only [List.size_toArray, List.length_append, List.length_take, List.length_drop, Array.length_toList, hlen]
              omega
            · rw [Nat.mul_one] at htake
              rw [htake, Nat.mul_one]
              have : (xs ++ cU (List.replicate c 0)).length = k + c := by rw [List.length_append, hlen, hxl]
              rw [← this]
              exact List.take_left
        · have holds : ∀ j u, xs[j]? = some u → w.drew.cell? ((⟨g, 0, none⟩ : Addr).add j) = some u := hown.cells (g := g) rfl
          have hfc := run_firstCells_some (P := P) w.drew inf.size k ⟨g, 0, none⟩ k cap xs (by rw [hs, hxl]; omega) holds
          have hr := Lib.run_append_grow_zeros (P := P) w t tn o.type e inf (.int .u8 0) .i64 .i64 ht htn hq hz (some ⟨g, 0, none⟩) k cap xs hfc c (by omega) (by omega) (by omega) (by omega) (by rw [hby]; omega) (growslice_fits (by omega) (by rw [hby]; omega))
          have hge := grownCap_ge w (k + c) cap e
          have hcm' : grownCap w (k + c) cap e ≤ maxLen := grownCap_le_maxLen w (k + c) cap e (by unfold maxLen; omega)
          refine ⟨_, _, hr, ?_, ⟨rfl, rfl, rfl, by simp, fun j hj _ => Below.heap_alloc w.drew _ j hj⟩, .inr rfl⟩
          rw [zcU c]
          refine ⟨by rw [List.length_append, hlen, hxl]; omega, .inr ⟨w.heap.size, _, _, rfl, Nat.zero_le _, heap_alloc_new w.drew _, hge, hcm', ?_, ?_⟩⟩
          · simp only [Array.size_append, List.size_toArray, size_zeroCells, hlen, hxl, Value.cells]
            simp
            omega
          · simp only [Array.toList_append, List.append_assoc]
            rw [← List.append_assoc, Nat.mul_one]
            have : (xs ++ cU (List.replicate c 0)).length = k + c := by rw [List.length_append, hlen, hxl]
            rw [← this]
            exact List.take_left
    obtain ⟨v', w', hr, h2, h3, h5⟩ := hrun
    have hexec : (execOp a.eval o).run P w = .ok (.value v') w' := by
      simp only [execOp, ho, resolve, invoke, builtin, Sem.run_bind, Sem.run_pure, Result.andThen_ok, List.map_toArray, List.map_cons, List.map_nil, hx, hy, hr]
    refine ⟨v', w', hexec, M.swap hi (x' := .row e 1 v' (k + c) (xs ++ cU (List.replicate c 0))) (Out.of_grown h3) h2 (fun g hg => ?_) (fun g hg => by cases hg)⟩
    simp only [Ent.fp] at hg ⊢
    rcases h5 with h6 | h6
    · exact .inl (by rw [← h6]; exact hg)
    · rw [h6] at hg; simp only [Option.toList_some, List.mem_singleton] at hg; exact .inr (by omega)
theorem sq_appZ (F : Fr a n L) (M : Mm R w0 w B) (hw : Region.wanted o (yielded ops.toArray a.tmps) = true) (ho : o.op = .call { callee := .builtin .append, args := #[x, y], argTypes := #[t, tn] }) (ht : P.underlying t = some (.slice e)) (htn : P.underlying tn = some (.int .i64)) (hE : (P.info? e).map (fun i => (i.zero, i.size, i.bytes)) = some (some (.int .u8 0), 1, 1))
    (hx : a.eval x = v) (hi : B[i]? = some (.row e 1 v k xs)) (hy : a.eval y = .int .i64 (c : Int)) (hk : 0 < k) (hc : 0 < c) (hmax : k + c ≤ 1000000000) (hd : o.dst = some d) (hdn : Nat.blt d n = true)
    (h : ∀ a' w' v', Fr a' n ((d, v') :: L) → Mm R w0 w' (B.set i (.row e 1 v' (k + c) (xs ++ cU (List.replicate c 0)))) → wpList P ops.toArray Q rest a' w') : wpList P ops.toArray Q (o :: rest) a w := by
  obtain ⟨v', w', hexec, hM⟩ := appZ_run M ho ht htn hE hx hi hy hk hc hmax
  exact sq_run F hw hexec hM hd hdn (fun a' w' F' M' => h a' w' v' F' M')
theorem sq_callA (F : Fr a n L) (M : Mm R w0 w B) (hw : Region.wanted o (yielded ops.toArray a.tmps) = true) {f : FuncId} {zs : List Operand} {ts : Array TypeId} {args : List Value} {m k' : Nat} {ys : List Value} (ho : o.op = .call { callee := .value (.func f), args := zs.toArray, argTypes := ts })
    (he : enters P f = true) (ha : zs.map a.eval = args) (hi : B[i]? = some (.row t m v k xs)) (hc : Calls P f args.toArray w fun e w' => ∃ x, e = .returned x ∧ Out v.ownBlock.toList w w' ∧ w'.ownsRow 0 t m x k' ys ∧ ∀ g ∈ x.ownBlock.toList, g ∈ v.ownBlock.toList ∨ w.heap.size ≤ g) (hd : o.dst = some d) (hdn : Nat.blt d n = true)
    (h : ∀ a' w' x, Fr a' n ((d, x) :: L) → Mm R w0 w' (B.set i (.row t m x k' ys)) → wpList P ops.toArray Q rest a' w') : wpList P ops.toArray Q (o :: rest) a w :=
  sq_callR F hw ho he ha hc hd hdn fun e w' hR => by
    obtain ⟨x, h1, h2, h3, h4⟩ := hR
    exact ⟨x, h1, fun a' F' => h a' w' x F' (M.swap hi (x' := .row t m x k' ys) h2 h3 h4 (fun g hg => by cases hg))⟩
theorem Mm.owns {m : Nat} (M : Mm v.ownBlock.toList w0 w B) (hi : B[i]? = some (.row t m u k xs)) : Out v.ownBlock.toList w0 w ∧ w.ownsRow 0 t m u k xs ∧ ∀ g ∈ u.ownBlock.toList, g ∈ v.ownBlock.toList ∨ w0.heap.size ≤ g :=
  ⟨M.out, M.ow hi, fun g hg => (M.own _ (List.mem_of_getElem? hi) g hg).symm⟩
end
end Go.Proofs.YtcnmmnhlhenifaaGreat
