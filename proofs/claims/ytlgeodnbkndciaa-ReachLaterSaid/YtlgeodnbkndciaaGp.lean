/- Graphs: edges, what may be, nodes in a row; mathematics. Any seat with layer 6 in it. -/
import Derived.Test.YtlgeodnbkndciaaGv
import Derived.Test.YtlgeodnbkndciaaPt
namespace Go.Proofs.Ytlgeodnbkndciaa
open Go.RowKit
set_option maxRecDepth 100000
set_option linter.unusedSimpArgs false
set_option linter.unusedVariables false

structure Ed where
  f : Int
  t : Int
  p : St
deriving DecidableEq
def Ed.zero : Ed := ⟨0, 0, St.zero⟩
def encG : Enc Ed := ⟨4, fun x => [.int .i64 x.f, .int .i64 x.t, .int .i64 x.p.e, .int .i64 x.p.r], Ed.zero, fun _ => rfl, fun a v h => by
  simp only [List.mem_cons, List.not_mem_nil, or_false] at h
  rcases h with rfl | rfl | rfl | rfl <;> rfl⟩
def cG (L : List Ed) : List Value := cE encG L
def atG (L : List Ed) (i : Nat) : Ed := atE encG L i
theorem cG_at {L : List Ed} {i : Nat} (h : i < L.length) : ((cG L).drop (i * 4)).take 4 = [.int .i64 (atG L i).f, .int .i64 (atG L i).t, .int .i64 (atG L i).p.e, .int .i64 (atG L i).p.r] := cE_at (E := encG) h
theorem cG_app (L K : List Ed) : cG (L ++ K) = cG L ++ cG K := cE_app L K
theorem cG_ones (L : List Ed) : ∀ z ∈ cG L, z.oneCell' = true := cE_ones L
theorem atG_mem {L : List Ed} {i : Nat} (h : i < L.length) : atG L i ∈ L := atE_mem (E := encG) h
theorem at_of_memG {L : List Ed} {x : Ed} (h : x ∈ L) : ∃ i, i < L.length ∧ atG L i = x := at_of_memE (E := encG) h
abbrev RdG (w : World) (v : Value) (L : List Ed) : Prop := RdV w 4 v L.length (cG L)
def fitsB (n : Int) (x : Ed) : Bool := decide (0 ≤ x.f ∧ x.f < n ∧ 0 ≤ x.t ∧ x.t < n) && x.p.rightB
theorem fits_iff {n : Int} {x : Ed} : fitsB n x = true ↔ (0 ≤ x.f ∧ x.f < n ∧ 0 ≤ x.t ∧ x.t < n) ∧ x.p.rightB = true := by unfold fitsB; simp
theorem fits_no {n : Int} {x : Ed} (h : ¬ (0 ≤ x.f ∧ x.f < n ∧ 0 ≤ x.t ∧ x.t < n)) : fitsB n x = false := by rw [← Bool.not_eq_true, fits_iff]; exact fun h2 => h h2.1
theorem fits_yes {n : Int} {x : Ed} (h : 0 ≤ x.f ∧ x.f < n ∧ 0 ≤ x.t ∧ x.t < n) : fitsB n x = x.p.rightB := by rw [Bool.eq_iff_iff, fits_iff]; exact ⟨fun h2 => h2.2, fun h2 => ⟨h, h2⟩⟩
/-! ### Nodes in a row -/
def okE (T : List Bool) (k : Nat) (x : Ed) : Bool := !(decide (x.t = (k : Int)) && decide (x.p = St.zero) && !atB T x.f.toNat)
def freeB (E : List Ed) (T : List Bool) (k : Nat) : Bool := !atB T k && E.all (okE T k)
def nextO (E : List Ed) (T : List Bool) (n : Nat) : Option Nat := (List.range n).find? (freeB E T)
def stepO (E : List Ed) (n : Nat) (s : List Bool × List Int) : List Bool × List Int :=
  match nextO E s.1 n with
  | some k => (s.1.set k true, s.2 ++ [(k : Int)])
  | none => s
def roundsO (E : List Ed) (n : Nat) : Nat → List Bool × List Int
  | 0 => (List.replicate n false, [])
  | r + 1 => stepO E n (roundsO E n r)
def orderL (E : List Ed) (n : Nat) : List Int := (roundsO E n n).2
theorem rounds_zero (E : List Ed) (n : Nat) : roundsO E n (0 : Int).toNat = (List.replicate n false, []) := rfl
theorem rounds_len (E : List Ed) (n : Nat) : ∀ r, (roundsO E n r).1.length = n
  | 0 => by simp [roundsO]
  | r + 1 => by
    have ih := rounds_len E n r
    simp only [roundsO, stepO]
    split
    · simpa using ih
    · exact ih
theorem rounds_out (E : List Ed) (n : Nat) : ∀ r, (roundsO E n r).2.length ≤ r
  | 0 => by simp [roundsO]
  | r + 1 => by
    have ih := rounds_out E n r
    simp only [roundsO, stepO]
    split
    · rw [List.length_append, List.length_singleton]; omega
    · omega
theorem find_range {n k : Nat} {p : Nat → Bool} (hk : k < n) (h : p k = true) (hb : ∀ q, q < k → p q = false) : (List.range n).find? p = some k := by
  rw [List.find?_range_eq_some]
  exact ⟨h, List.mem_range.2 hk, fun j hj => by rw [hb j hj]; rfl⟩
theorem round_some {E : List Ed} {n : Nat} {r : Int} {k : Int} (h0 : 0 ≤ r) (hk0 : 0 ≤ k) (hk : k.toNat < n) (h : freeB E (roundsO E n r.toNat).1 k.toNat = true) (hb : ∀ q, q < k.toNat → freeB E (roundsO E n r.toNat).1 q = false) :
    roundsO E n (r + 1).toNat = ((roundsO E n r.toNat).1.set k.toNat true, (roundsO E n r.toNat).2 ++ [k]) := by
  rw [show (r + 1).toNat = r.toNat + 1 by omega]
  simp only [roundsO, stepO]
  rw [show nextO E (roundsO E n r.toNat).1 n = some k.toNat from find_range hk h hb]
  simp only [show ((k.toNat : Nat) : Int) = k by omega]
theorem round_none {E : List Ed} {n : Nat} {r k : Int} (h0 : 0 ≤ r) (hb : ∀ q, q < k.toNat → freeB E (roundsO E n r.toNat).1 q = false) (hk : ¬ k.toNat < n) :
    roundsO E n (r + 1).toNat = roundsO E n r.toNat := by
  rw [show (r + 1).toNat = r.toNat + 1 by omega]
  simp only [roundsO, stepO]
  have : nextO E (roundsO E n r.toNat).1 n = none := List.find?_eq_none.2 fun q hq => by
    rw [hb q (by have := List.mem_range.1 hq; omega)]; simp
  rw [this]
/-- The flag of the loop over edges. -/
def FreeI (E : List Ed) (T : List Bool) (k i : Nat) (b : Bool) : Prop := b = true ↔ atB T k = false ∧ ∀ q, q < i → okE T k (atG E q) = true
theorem free_start {E : List Ed} {T : List Bool} {k : Nat} {b : Bool} (h : atB T k = b) : FreeI E T k (0 : Int).toNat (!b) := by
  unfold FreeI; rw [h]; cases b <;> simp
theorem free_keep {E : List Ed} {T : List Bool} {k : Nat} {i : Int} {b : Bool} (h0 : 0 ≤ i) (h : FreeI E T k i.toNat b) (hx : okE T k (atG E i.toNat) = true) : FreeI E T k (i + 1).toNat b := by
  unfold FreeI at *
  rw [h]
  refine and_congr_right fun _ => ⟨fun h2 => all_succ h2 h0 hx, fun h2 q hq => h2 q (by omega)⟩
theorem free_drop {E : List Ed} {T : List Bool} {k : Nat} {i : Int} (h0 : 0 ≤ i) (hx : okE T k (atG E i.toNat) = false) : FreeI E T k (i + 1).toNat false := by
  unfold FreeI
  refine ⟨(fun h => by cases h), fun ⟨_, h⟩ => ?_⟩
  rw [h i.toNat (by omega)] at hx; cases hx
theorem free_end {E : List Ed} {T : List Bool} {k : Nat} {i : Int} {b : Bool} (h : FreeI E T k i.toNat b) (hl : i ≤ (E.length : Int)) (hi : ¬ i < (E.length : Int)) : freeB E T k = b := by
  unfold FreeI at h
  unfold freeB
  rw [Bool.eq_iff_iff, h, Bool.and_eq_true, Bool.not_eq_true', List.all_eq_true]
  refine and_congr_right fun _ => ⟨fun h2 q hq => h2 _ (atG_mem (by omega)), fun h2 x hx => ?_⟩
  obtain ⟨q, hq, rfl⟩ := at_of_memG hx
  exact h2 q (by omega)
theorem ok_f {T : List Bool} {k : Int} {x : Ed} (hk : 0 ≤ k) (h1 : x.t = k) (h2 : x.p = St.zero) (h3 : atB T x.f.toNat = false) : okE T k.toNat x = false := by
  unfold okE; simp [h2, h3]; omega
theorem ok_t {T : List Bool} {k : Int} {x : Ed} (hk : 0 ≤ k) (h : ¬ x.t = k ∨ ¬ x.p = St.zero ∨ atB T x.f.toNat = true) : okE T k.toNat x = true := by
  unfold okE
  have e : ((k.toNat : Nat) : Int) = k := by omega
  rw [e]
  rcases h with h | h | h <;> simp [h]
/-! ### Why a graph may not be -/
def badE (n : Int) (E : List Ed) : Nat → Option Nat
  | 0 => none
  | i + 1 => match badE n E i with
    | some k => some k
    | none => if fitsB n (atG E i) then none else some i
/-- The first edge that may not be. -/
def checkG (n : Int) (E : List Ed) : Int × Int :=
  if n < 1 ∨ 8 < n ∨ 16 < E.length then (4, -1) else
  match E.findIdx? (fun x => !fitsB n x) with
  | some i => (4, (i : Int))
  | none => if ((orderL E n.toNat).length : Int) < n then (5, -1) else (0, -1)
theorem check_many {n : Int} {E : List Ed} (h : n < 1 ∨ 8 < n ∨ 16 < E.length) : checkG n E = (4, -1) := if_pos h
theorem check_bad {n : Int} {E : List Ed} {i : Int} (h : ¬ (n < 1 ∨ 8 < n ∨ 16 < E.length)) (h0 : 0 ≤ i) (hi : i < (E.length : Int)) (hb : ∀ q, q < i.toNat → fitsB n (atG E q) = true) (hx : fitsB n (atG E i.toNat) = false) : checkG n E = (4, i) := by
  unfold checkG
  rw [if_neg h]
  have : E.findIdx? (fun x => !fitsB n x) = some i.toNat := by
    rw [List.findIdx?_eq_some_iff_getElem]
    refine ⟨by omega, by rw [← show atG E i.toNat = E[i.toNat] from atE_eq (by omega), hx]; rfl, fun j hj => ?_⟩
    rw [← show atG E j = E[j] from atE_eq (by omega), hb j hj]; simp
  rw [this]
  simp only
  rw [show ((i.toNat : Nat) : Int) = i by omega]
theorem check_fit {n : Int} {E : List Ed} {i : Int} (h : ¬ (n < 1 ∨ 8 < n ∨ 16 < E.length)) (hb : ∀ q, q < i.toNat → fitsB n (atG E q) = true) (hi : ¬ i < (E.length : Int)) : (∀ x ∈ E, fitsB n x = true) ∧ checkG n E = if ((orderL E n.toNat).length : Int) < n then (5, -1) else (0, -1) := by
  have hall : ∀ x ∈ E, fitsB n x = true := fun x hx => by
    obtain ⟨q, hq, rfl⟩ := at_of_memG hx
    exact hb q (by omega)
  refine ⟨hall, ?_⟩
  unfold checkG
  rw [if_neg h]
  have : E.findIdx? (fun x => !fitsB n x) = none := by
    rw [List.findIdx?_eq_none_iff]
    intro x hx; rw [hall x hx]; rfl
  rw [this]
end Go.Proofs.Ytlgeodnbkndciaa
