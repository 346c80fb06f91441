/- Lists of stamps as cells; slices that read as lists of stamps. Any seat. -/
import Derived.Test.YtcnkakahhekobaaFx
import Derived.Test.YtcnkakahhekobaaSm
namespace Go.Proofs.Ytcnkakahhekobaa
open Go.RowKit
set_option maxRecDepth 100000
set_option linter.unusedSimpArgs false
set_option linter.unusedVariables false

def cS : List St → List Value
  | [] => []
  | s :: r => .int .i64 s.e :: .int .i64 s.r :: cS r
def atS (L : List St) (i : Nat) : St := L.getD i St.zero
theorem cS_len : ∀ L : List St, (cS L).length = L.length * 2
  | [] => rfl
  | s :: r => by simp only [cS, List.length_cons, cS_len r]; omega
theorem cS_app : ∀ L K : List St, cS (L ++ K) = cS L ++ cS K
  | [], _ => rfl
  | s :: r, K => by simp only [List.cons_append, cS, cS_app r K]
theorem cS_ones : ∀ (L : List St), ∀ z ∈ cS L, z.oneCell' = true
  | [], z, h => by cases h
  | s :: r, z, h => by
    simp only [cS, List.mem_cons] at h
    rcases h with rfl | rfl | h
    · rfl
    · rfl
    · exact cS_ones r z h
theorem cS_drop : ∀ (L : List St) (n : Nat), (cS L).drop (n * 2) = cS (L.drop n)
  | L, 0 => by simp
  | [], n + 1 => by simp [cS]
  | s :: r, n + 1 => by
    rw [show (n + 1) * 2 = n * 2 + 1 + 1 by omega]
    simp only [cS, List.drop_succ_cons, cS_drop r n]
theorem cS_take : ∀ (L : List St) (n : Nat), (cS L).take (n * 2) = cS (L.take n)
  | L, 0 => by simp [cS]
  | [], n + 1 => by simp [cS]
  | s :: r, n + 1 => by
    rw [show (n + 1) * 2 = n * 2 + 1 + 1 by omega]
    simp only [cS, List.take_succ_cons, cS_take r n]
theorem atS_eq {L : List St} {i : Nat} (h : i < L.length) : atS L i = L[i] := by
  unfold atS; rw [List.getD_eq_getElem?_getD, List.getElem?_eq_getElem h]; rfl
theorem atS_mem {L : List St} {i : Nat} (h : i < L.length) : atS L i ∈ L := by rw [atS_eq h]; exact List.getElem_mem h
theorem cS_at {L : List St} {i : Nat} (h : i < L.length) : ((cS L).drop (i * 2)).take 2 = [.int .i64 (atS L i).e, .int .i64 (atS L i).r] := by
  rw [cS_drop, List.drop_eq_getElem_cons h, atS_eq h]
  rfl
theorem mem_of_at {L : List St} {i : Nat} {t : St} (h : i < L.length) (e : atS L i = t) : t ∈ L := e ▸ atS_mem h
theorem at_of_mem {L : List St} {t : St} (h : t ∈ L) : ∃ i, i < L.length ∧ atS L i = t := by
  obtain ⟨i, hi, he⟩ := List.mem_iff_getElem.1 h
  exact ⟨i, hi, by rw [atS_eq hi, he]⟩
theorem not_mem_of {L : List St} {t : St} {i : Int} (h : ∀ k, k < i.toNat → ¬ atS L k = t) (hi : ¬ i < (L.length : Int)) : ¬ t ∈ L := fun hm => by
  obtain ⟨k, hk, he⟩ := at_of_mem hm
  exact h k (by omega) he
theorem cov_t {L : List St} {i : Nat} {t : St} (h : i < L.length) (e : (atS L i).leB t = true) : covB L t = true := List.any_eq_true.2 ⟨_, atS_mem h, e⟩
theorem cov_f {L : List St} {t : St} {i : Int} (h : ∀ k, k < i.toNat → (atS L k).leB t = false) (hi : ¬ i < (L.length : Int)) : covB L t = false := by
  unfold covB
  rw [List.any_eq_false]
  intro s hs
  obtain ⟨k, hk, he⟩ := at_of_mem hs
  rw [← he, h k (by omega)]
  simp
theorem bey_f {A B : List St} {i : Nat} (h : i < A.length) (e : covB B (atS A i) = false) : beyB A B = false := by
  unfold beyB
  rw [List.all_eq_false]
  exact ⟨_, atS_mem h, by rw [e]; simp⟩
theorem bey_t {A B : List St} {i : Int} (h : ∀ k, k < i.toNat → covB B (atS A k) = true) (hi : ¬ i < (A.length : Int)) : beyB A B = true := by
  unfold beyB
  rw [List.all_eq_true]
  intro s hs
  obtain ⟨k, hk, he⟩ := at_of_mem hs
  rw [← he, h k (by omega)]
theorem ext_at {A B : List St} {i : Int} (hl : A.length = B.length) (h : ∀ k, k < i.toNat → atS A k = atS B k) (hi : ¬ i < (A.length : Int)) : A = B := by
  apply List.ext_getElem hl
  intro k h1 h2
  have := h k (by omega)
  rwa [atS_eq h1, atS_eq h2] at this
abbrev RdS (w : World) (v : Value) (L : List St) : Prop := RdV w 2 v L.length (cS L)
theorem RdS.sub {w : World} {v : Value} {L : List St} (hr : RdS w v L) {l h : Nat} (h1 : l ≤ h) (h2 : h ≤ L.length) : RdS w (subS 2 l h v) ((L.drop l).take (h - l)) := by
  have := sub_rdv hr h1 h2
  rw [cS_drop, cS_take] at this
  have hl : ((L.drop l).take (h - l)).length = h - l := by rw [List.length_take, List.length_drop]; omega
  unfold RdS
  rw [hl]
  exact this
/-- A slice of stamps that the call made. -/
abbrev OwnS (w : World) (b : Nat) (t : TypeId) (v : Value) (L : List St) : Prop := w.ownsRow b t 2 v L.length (cS L)
end Go.Proofs.Ytcnkakahhekobaa
