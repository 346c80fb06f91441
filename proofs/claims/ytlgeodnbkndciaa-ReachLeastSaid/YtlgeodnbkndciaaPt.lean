/- Paths: their sums, and lists of them; mathematics. Any seat that has layer 5 in it. -/
import Derived.Test.YtlgeodnbkndciaaAw
import Derived.IntWalk
namespace Go.Proofs.Ytlgeodnbkndciaa
open Go.RowKit
set_option maxRecDepth 100000
set_option linter.unusedSimpArgs false
set_option linter.unusedVariables false

def rightsB (L : List St) : Bool := L.all St.rightB && decide (L.length ≤ 64)
def sumsP (A B : List St) : List St := A.flatMap fun p => (B.filter fun q => p.afterB q).map fun q => p.after q
def eachB (A B : List St) : Bool := rightsB A && rightsB B && decide ((minL (sumsP A B)).length ≤ 64)
def eachL (A B : List St) : List St := if eachB A B then minL (sumsP A B) else []
theorem rights_iff {L : List St} : rightsB L = true ↔ (∀ p ∈ L, p.rightB = true) ∧ L.length ≤ 64 := by unfold rightsB; simp
theorem rights_no {L : List St} {i : Nat} (h : i < L.length) (e : (atS L i).rightB = false) : rightsB L = false := by
  rw [← Bool.not_eq_true, rights_iff]
  intro h2
  have := h2.1 _ (atS_mem h)
  rw [e] at this; cases this
theorem rights_all {L : List St} {i : Int} (h : ∀ k, k < i.toNat → (atS L k).rightB = true) (hi : ¬ i < (L.length : Int)) : rightsB L = decide (((L.length : Nat) : Int) ≤ 64) := by
  rw [Bool.eq_iff_iff, rights_iff, decide_eq_true_eq]
  constructor
  · intro h2; omega
  · intro h2
    refine ⟨fun p hp => ?_, by omega⟩
    obtain ⟨k, hk, rfl⟩ := at_of_mem hp
    exact h k (by omega)
theorem mem_sums {A B : List St} {t : St} : t ∈ sumsP A B ↔ ∃ p ∈ A, ∃ q ∈ B, p.afterB q = true ∧ p.after q = t := by
  unfold sumsP
  simp only [List.mem_flatMap, List.mem_map, List.mem_filter]
  constructor
  · rintro ⟨p, hp, q, ⟨hq, h1⟩, h2⟩; exact ⟨p, hp, q, hq, h1, h2⟩
  · rintro ⟨p, hp, q, hq, h1, h2⟩; exact ⟨p, hp, q, ⟨hq, h1⟩, h2⟩
theorem sums_len (A B : List St) : (sumsP A B).length ≤ A.length * B.length := by
  unfold sumsP
  induction A with
  | nil => simp
  | cons p r ih =>
    simp only [List.flatMap_cons, List.length_append, List.length_map, List.length_cons, Nat.add_mul, Nat.one_mul]
    have := List.length_filter_le (fun q => p.afterB q) B
    omega
theorem then_add {p q : St} (hp : p.rightB = true) (hq : q.rightB = true) : St.mk (IntKind.i64.wrap (p.e + q.e)) (IntKind.i64.wrap (p.r + q.r)) = p.add q := by
  have h1 := right_t hp
  have h2 := right_t hq
  rw [IntWalk.i64_in _ (by omega), IntWalk.i64_in _ (by omega)]; rfl
theorem then_t {p q : St} (hp : p.rightB = true) (hq : q.rightB = true) (hs : (St.mk (IntKind.i64.wrap (p.e + q.e)) (IntKind.i64.wrap (p.r + q.r))).rightB = true) : p.afterB q = true ∧ IntKind.i64.wrap (p.e + q.e) = (p.after q).e ∧ IntKind.i64.wrap (p.r + q.r) = (p.after q).r := by
  have h := then_add hp hq
  rw [h] at hs
  have ha : p.afterB q = true := by unfold St.afterB; rw [hp, hq, hs]; rfl
  have he := St.eq_iff.1 h
  rw [after_yes ha]
  exact ⟨ha, he.1, he.2⟩
theorem then_f {p q : St} (h : p.rightB = false ∨ q.rightB = false ∨ (p.rightB = true ∧ q.rightB = true ∧ (St.mk (IntKind.i64.wrap (p.e + q.e)) (IntKind.i64.wrap (p.r + q.r))).rightB = false)) : p.afterB q = false := by
  unfold St.afterB
  rcases h with h | h | ⟨h1, h2, h3⟩
  · simp [h]
  · simp [h]
  · rw [then_add h1 h2] at h3; simp [h3]
theorem take_snocS {L : List St} {i : Int} (h0 : 0 ≤ i) (h : i < (L.length : Int)) : L.take i.toNat ++ [atS L i.toNat] = L.take (i + 1).toNat := by
  rw [show (i + 1).toNat = i.toNat + 1 by omega, List.take_succ_eq_append_getElem (by omega), atS_eq (by omega)]
/-! ### The loops -/
def partP (A B : List St) (i k : Nat) : List St := sumsP (A.take i) B ++ ((B.take k).filter fun q => (atS A i).afterB q).map fun q => (atS A i).after q
theorem part_zero (A B : List St) : [] = partP A B (0 : Int).toNat (0 : Int).toNat := by simp [partP, sumsP]
theorem part_yes {A B : List St} {i : Nat} {k : Int} (h0 : 0 ≤ k) (h : k < (B.length : Int)) (ha : (atS A i).afterB (atS B k.toNat) = true) : partP A B i k.toNat ++ [(atS A i).after (atS B k.toNat)] = partP A B i (k + 1).toNat := by
  unfold partP
  rw [show (k + 1).toNat = k.toNat + 1 by omega, List.take_succ_eq_append_getElem (show k.toNat < B.length by omega), List.filter_append, List.map_append, ← List.append_assoc, ← atS_eq]
  simp [ha]
theorem part_no {A B : List St} {i : Nat} {k : Int} (h0 : 0 ≤ k) (h : k < (B.length : Int)) (ha : (atS A i).afterB (atS B k.toNat) = false) : partP A B i k.toNat = partP A B i (k + 1).toNat := by
  unfold partP
  rw [show (k + 1).toNat = k.toNat + 1 by omega, List.take_succ_eq_append_getElem (show k.toNat < B.length by omega), List.filter_append, List.map_append, ← atS_eq]
  simp [ha]
theorem part_row {A B : List St} {i k : Int} (h0 : 0 ≤ i) (h : i < (A.length : Int)) (hk : ¬ k < (B.length : Int)) : partP A B i.toNat k.toNat = partP A B (i + 1).toNat (0 : Int).toNat := by
  unfold partP
  rw [List.take_of_length_le (l := B) (by omega), show (i + 1).toNat = i.toNat + 1 by omega, List.take_succ_eq_append_getElem (show i.toNat < A.length by omega), ← atS_eq]
  unfold sumsP
  rw [List.flatMap_append]
  simp
theorem part_end {A B : List St} {i : Int} (h : ¬ i < (A.length : Int)) : partP A B i.toNat (0 : Int).toNat = sumsP A B := by
  unfold partP
  rw [List.take_of_length_le (by omega)]; simp
theorem part_len {A B : List St} (hA : A.length ≤ 64) (hB : B.length ≤ 64) (i k : Nat) : (partP A B i k).length ≤ 5000 := by
  unfold partP
  rw [List.length_append, List.length_map]
  have h1 := sums_len (A.take i) B
  have h2 := List.length_filter_le (fun q => (atS A i).afterB q) (B.take k)
  have h3 : (A.take i).length * B.length ≤ 64 * 64 := Nat.mul_le_mul (by rw [List.length_take]; omega) hB
  rw [List.length_take] at h2
  omega
theorem each_no {A B : List St} (h : rightsB A = false ∨ rightsB B = false) : eachB A B = false ∧ eachL A B = [] := by
  have : eachB A B = false := by unfold eachB; rcases h with h | h <;> simp [h]
  exact ⟨this, by unfold eachL; rw [this]; rfl⟩
theorem each_many {A B : List St} (h : ¬ (minL (sumsP A B)).length ≤ 64) : eachB A B = false ∧ eachL A B = [] := by
  have : eachB A B = false := by unfold eachB; simp [h]
  exact ⟨this, by unfold eachL; rw [this]; rfl⟩
theorem each_yes {A B : List St} (ha : rightsB A = true) (hb : rightsB B = true) (h : (minL (sumsP A B)).length ≤ 64) : eachB A B = true ∧ eachL A B = minL (sumsP A B) := by
  have : eachB A B = true := by unfold eachB; simp [ha, hb, h]
  exact ⟨this, by unfold eachL; rw [this]; rfl⟩
theorem each_f {A B : List St} (h : eachB A B = false) : eachL A B = [] := by unfold eachL; rw [h]; rfl
theorem each_t {A B : List St} (h : eachB A B = true) : (rightsB A = true ∧ rightsB B = true ∧ (minL (sumsP A B)).length ≤ 64) ∧ eachL A B = minL (sumsP A B) := by
  refine ⟨?_, by unfold eachL; rw [h]; rfl⟩
  unfold eachB at h
  simp only [Bool.and_eq_true, decide_eq_true_eq] at h
  exact ⟨h.1.1, h.1.2, h.2⟩
theorem eachL_len (A B : List St) : (eachL A B).length ≤ 64 := by
  cases h : eachB A B with
  | true => have := each_t h; rw [this.2]; exact this.1.2.2
  | false => rw [each_f h]; simp
/-! ### Sums and least ones -/
theorem after_right {p q : St} (h : p.afterB q = true) : (p.after q).rightB = true := by
  have := after_t h
  rw [St.right_iff]; omega
theorem sums_right {A B : List St} {t : St} (h : t ∈ sumsP A B) : t.rightB = true := by
  obtain ⟨p, _, q, _, h1, rfl⟩ := mem_sums.1 h
  exact after_right h1
theorem least_of {L : List St} {t : St} (h : t ∈ L) : ∃ m ∈ minL L, m.leB t = true := by
  obtain ⟨m, hm, h1, h2⟩ := least_below _ (Nat.le_refl _) t h
  exact ⟨m, mem_minL.2 ⟨hm, h2⟩, h1⟩
theorem after_mono {p q m n : St} (hp : m.leB p = true) (hq : n.leB q = true) (hm : m.rightB = true) (hn : n.rightB = true) (h : p.afterB q = true) : m.afterB n = true ∧ (m.after n).leB (p.after q) = true := by
  have h1 := after_t h
  have h2 := le_t hp
  have h3 := le_t hq
  have h4 := right_t hm
  have h5 := right_t hn
  have h6 : m.afterB n = true := after_iff.2 (by omega)
  have h7 := after_t h6
  exact ⟨h6, St.le_iff.2 (by omega)⟩
theorem sums_min {A A' B B' : List St} (hA : ∀ p ∈ A, p.rightB = true) (hB : ∀ q ∈ B, q.rightB = true) (sA : ∀ p ∈ A', p ∈ A) (sB : ∀ q ∈ B', q ∈ B) (lA : ∀ p ∈ A, ∃ m ∈ A', m.leB p = true) (lB : ∀ q ∈ B, ∃ m ∈ B', m.leB q = true) : minL (sumsP A B) = minL (sumsP A' B') := by
  refine min_same.2 ⟨bey_iff.2 fun t ht => ?_, bey_iff.2 fun t ht => ?_⟩
  · obtain ⟨p, hp, q, hq, h1, rfl⟩ := mem_sums.1 ht
    obtain ⟨m, hm, h2⟩ := lA p hp
    obtain ⟨n, hn, h3⟩ := lB q hq
    have h4 := after_mono h2 h3 (hA m (sA m hm)) (hB n (sB n hn)) h1
    exact cov_iff.2 ⟨_, mem_sums.2 ⟨m, hm, n, hn, h4.1, rfl⟩, h4.2⟩
  · obtain ⟨p, hp, q, hq, h1, rfl⟩ := mem_sums.1 ht
    exact cov_iff.2 ⟨_, mem_sums.2 ⟨p, sA p hp, q, sB q hq, h1, rfl⟩, St.le_refl _⟩
theorem sums_minmin {A B : List St} (hA : ∀ p ∈ A, p.rightB = true) (hB : ∀ q ∈ B, q.rightB = true) : minL (sumsP A B) = minL (sumsP (minL A) (minL B)) :=
  sums_min hA hB (fun p hp => (mem_minL.1 hp).1) (fun q hq => (mem_minL.1 hq).1) (fun p hp => least_of hp) (fun q hq => least_of hq)
theorem sums_minl {A B : List St} (hA : ∀ p ∈ A, p.rightB = true) (hB : ∀ q ∈ B, q.rightB = true) : minL (sumsP A B) = minL (sumsP (minL A) B) :=
  sums_min hA hB (fun p hp => (mem_minL.1 hp).1) (fun q hq => hq) (fun p hp => least_of hp) (fun q hq => ⟨q, hq, St.le_refl q⟩)
theorem sums_minr {A B : List St} (hA : ∀ p ∈ A, p.rightB = true) (hB : ∀ q ∈ B, q.rightB = true) : minL (sumsP A B) = minL (sumsP A (minL B)) :=
  sums_min hA hB (fun p hp => hp) (fun q hq => (mem_minL.1 hq).1) (fun p hp => ⟨p, hp, St.le_refl p⟩) (fun q hq => least_of hq)
theorem rights_min {A : List St} (h : rightsB A = true) : rightsB (minL A) = true := by
  have h1 := rights_iff.1 h
  exact rights_iff.2 ⟨fun p hp => h1.1 p (mem_minL.1 hp).1, Nat.le_trans (minL_len A) h1.2⟩
theorem each_least {A B : List St} (h : eachB A B = true) : eachB (minL A) (minL B) = true ∧ eachL A B = eachL (minL A) (minL B) := by
  have h1 := each_t h
  have h2 := sums_minmin (rights_iff.1 h1.1.1).1 (rights_iff.1 h1.1.2.1).1
  have h3 := each_yes (rights_min h1.1.1) (rights_min h1.1.2.1) (by rw [← h2]; exact h1.1.2.2)
  exact ⟨h3.1, by rw [h1.2, h3.2, h2]⟩
theorem min_nil0 : minL [] = [] := rfl
theorem sums_nil (A : List St) : sumsP A [] = [] := by unfold sumsP; induction A with
  | nil => rfl
  | cons p r ih => simp
theorem sums_zero {A : List St} (h : ∀ p ∈ A, p.rightB = true) : sumsP A [St.zero] = A := by
  unfold sumsP
  induction A with
  | nil => rfl
  | cons p r ih =>
    have hp := right_t (h p (by simp))
    have h1 : p.afterB St.zero = true := after_iff.2 (by simp only [St.zero]; omega)
    have h2 : p.after St.zero = p := by
      have := after_t h1
      simp only [St.zero] at this
      rw [St.eq_iff]; simp only [St.zero]; omega
    rw [List.flatMap_cons, ih (fun q hq => h q (by simp [hq]))]
    simp [h1, h2]
theorem each_empty {A : List St} (h : A.length ≤ 64) : eachB A [] = rightsB A ∧ eachL A [] = [] ∧ eachB [] A = rightsB A ∧ eachL [] A = [] ∧ eachB A [St.zero] = rightsB A ∧ (rightsB A = true → eachL A [St.zero] = minL A) := by
  have e0 : rightsB [] = true := rfl
  have e1 : rightsB [St.zero] = true := by decide
  have e2 : sumsP [] A = [] := rfl
  cases hr : rightsB A with
  | false =>
    have a := each_no (A := A) (B := []) (.inl hr)
    have b := each_no (A := []) (B := A) (.inr hr)
    have c := each_no (A := A) (B := [St.zero]) (.inl hr)
    exact ⟨a.1, a.2, b.1, b.2, c.1, fun h => by cases h⟩
  | true =>
    have a := each_yes hr e0 (by rw [sums_nil]; simp [min_nil0])
    have b := each_yes e0 hr (by rw [e2]; simp [min_nil0])
    have hz := sums_zero (rights_iff.1 hr).1
    have c := each_yes hr e1 (by rw [hz]; exact Nat.le_trans (minL_len A) h)
    exact ⟨a.1, by rw [a.2, sums_nil]; rfl, b.1, by rw [b.2, e2]; rfl, c.1, fun _ => by rw [c.2, hz]⟩
theorem after_comm (p q : St) : q.after p = p.after q ∧ q.afterB p = p.afterB q := by
  have hb : q.afterB p = p.afterB q := by
    rw [Bool.eq_iff_iff, after_iff, after_iff]; omega
  refine ⟨?_, hb⟩
  unfold St.after
  rw [hb, show q.add p = p.add q by unfold St.add; rw [Int.add_comm, Int.add_comm q.r]]
theorem after_assoc {p q r : St} : (p.afterB q = true ∧ (p.after q).afterB r = true) ↔ (q.afterB r = true ∧ p.afterB (q.after r) = true) := by
  constructor
  · rintro ⟨h1, h2⟩
    have a := after_t h1
    have b := after_t h2
    have c : q.afterB r = true := after_iff.2 (by omega)
    have d := after_t c
    exact ⟨c, after_iff.2 (by omega)⟩
  · rintro ⟨h1, h2⟩
    have a := after_t h1
    have b := after_t h2
    have c : p.afterB q = true := after_iff.2 (by omega)
    have d := after_t c
    exact ⟨c, after_iff.2 (by omega)⟩
theorem after_assoc_eq {p q r : St} (h1 : p.afterB q = true) (h2 : (p.after q).afterB r = true) : (p.after q).after r = p.after (q.after r) := by
  have h3 := after_assoc.1 ⟨h1, h2⟩
  have a := after_t h1
  have b := after_t h2
  have c := after_t h3.1
  have d := after_t h3.2
  rw [St.eq_iff]; omega
theorem sums_assoc {A B C : List St} (t : St) : t ∈ sumsP (sumsP A B) C ↔ t ∈ sumsP A (sumsP B C) := by
  rw [mem_sums, mem_sums]
  constructor
  · rintro ⟨x, hx, r, hr, h1, rfl⟩
    obtain ⟨p, hp, q, hq, h2, rfl⟩ := mem_sums.1 hx
    have h3 := after_assoc.1 ⟨h2, h1⟩
    exact ⟨p, hp, q.after r, mem_sums.2 ⟨q, hq, r, hr, h3.1, rfl⟩, h3.2, (after_assoc_eq h2 h1).symm⟩
  · rintro ⟨p, hp, x, hx, h1, rfl⟩
    obtain ⟨q, hq, r, hr, h2, rfl⟩ := mem_sums.1 hx
    have h3 := after_assoc.2 ⟨h2, h1⟩
    exact ⟨p.after q, mem_sums.2 ⟨p, hp, q, hq, h3.1, rfl⟩, r, hr, h3.2, after_assoc_eq h3.1 h3.2⟩
theorem each_twice {A B C : List St} (h1 : eachB A B = true) (h2 : eachB B C = true) (h3 : eachB (eachL A B) C = true) (h4 : eachB A (eachL B C) = true) : eachL (eachL A B) C = eachL A (eachL B C) := by
  have a := each_t h1
  have b := each_t h2
  have c := each_t h3
  have d := each_t h4
  rw [c.2, d.2, a.2, b.2, ← sums_minl (fun p hp => sums_right hp) (rights_iff.1 b.1.2.1).1, ← sums_minr (rights_iff.1 a.1.1).1 (fun p hp => sums_right hp)]
  exact min_mem fun t => sums_assoc t
end Go.Proofs.Ytlgeodnbkndciaa
