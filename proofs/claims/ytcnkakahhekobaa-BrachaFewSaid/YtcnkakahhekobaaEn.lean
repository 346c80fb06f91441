/- Lists as cells, by an encoding of their elements; slices that read as such lists. Any seat. -/
import Derived.Test.YtcnkakahhekobaaSt
namespace Go.Proofs.Ytcnkakahhekobaa
open Go.RowKit
set_option maxRecDepth 100000
set_option linter.unusedSimpArgs false
set_option linter.unusedVariables false

structure Enc (α : Type) where
  m : Nat
  f : α → List Value
  z : α
  len : ∀ a, (f a).length = m
  ones : ∀ a, ∀ v ∈ f a, v.oneCell' = true
def cE {α : Type} (E : Enc α) : List α → List Value
  | [] => []
  | a :: r => E.f a ++ cE E r
def atE {α : Type} (E : Enc α) (L : List α) (i : Nat) : α := L.getD i E.z
section
variable {α : Type} {E : Enc α}
theorem cE_len : ∀ L : List α, (cE E L).length = L.length * E.m
  | [] => by simp [cE]
  | a :: r => by simp only [cE, List.length_append, E.len, cE_len r, List.length_cons]; rw [Nat.add_mul]; omega
theorem cE_app : ∀ L K : List α, cE E (L ++ K) = cE E L ++ cE E K
  | [], _ => rfl
  | a :: r, K => by simp only [List.cons_append, cE, cE_app r K, List.append_assoc]
theorem cE_ones : ∀ (L : List α), ∀ z ∈ cE E L, z.oneCell' = true
  | [], z, h => by cases h
  | a :: r, z, h => by
    simp only [cE, List.mem_append] at h
    rcases h with h | h
    · exact E.ones a z h
    · exact cE_ones r z h
theorem cE_drop : ∀ (L : List α) (n : Nat), (cE E L).drop (n * E.m) = cE E (L.drop n)
  | L, 0 => by simp
  | [], n + 1 => by simp [cE]
  | a :: r, n + 1 => by
    have h : (n + 1) * E.m = (E.f a).length + n * E.m := by rw [E.len, Nat.add_mul]; omega
    simp only [cE, List.drop_succ_cons]
    rw [h, List.drop_append, List.drop_of_length_le (by omega), Nat.add_sub_cancel_left, cE_drop r n]
    rfl
theorem cE_take : ∀ (L : List α) (n : Nat), (cE E L).take (n * E.m) = cE E (L.take n)
  | L, 0 => by simp [cE]
  | [], n + 1 => by simp [cE]
  | a :: r, n + 1 => by
    have h : (n + 1) * E.m = (E.f a).length + n * E.m := by rw [E.len, Nat.add_mul]; omega
    simp only [cE, List.take_succ_cons]
    rw [h, List.take_append, List.take_of_length_le (by omega), Nat.add_sub_cancel_left, cE_take r n]
theorem atE_eq {L : List α} {i : Nat} (h : i < L.length) : atE E L i = L[i] := by
  unfold atE; rw [List.getD_eq_getElem?_getD, List.getElem?_eq_getElem h]; rfl
theorem atE_mem {L : List α} {i : Nat} (h : i < L.length) : atE E L i ∈ L := by rw [atE_eq h]; exact List.getElem_mem h
theorem cE_at {L : List α} {i : Nat} (h : i < L.length) : ((cE E L).drop (i * E.m)).take E.m = E.f (atE E L i) := by
  rw [cE_drop, List.drop_eq_getElem_cons h, atE_eq h]
  have := E.len L[i]
  simp only [cE]
  rw [List.take_append, List.take_of_length_le (by omega), this, Nat.sub_self, List.take_zero, List.append_nil]
theorem at_of_memE {L : List α} {t : α} (h : t ∈ L) : ∃ i, i < L.length ∧ atE E L i = t := by
  obtain ⟨i, hi, he⟩ := List.mem_iff_getElem.1 h
  exact ⟨i, hi, by rw [atE_eq hi, he]⟩
theorem ext_atE {A B : List α} {i : Int} (hl : A.length = B.length) (h : ∀ k, k < i.toNat → atE E A k = atE E B k) (hi : ¬ i < (A.length : Int)) : A = B := by
  apply List.ext_getElem hl
  intro k h1 h2
  have := h k (by omega)
  rwa [atE_eq h1, atE_eq h2] at this
theorem take_snocE {L : List α} {i : Int} (h0 : 0 ≤ i) (h : i < (L.length : Int)) : L.take (i + 1).toNat = L.take i.toNat ++ [atE E L i.toNat] := by
  rw [show (i + 1).toNat = i.toNat + 1 by omega, List.take_succ_eq_append_getElem (by omega), atE_eq (by omega)]
end
/-! ### Ints -/
def encI : Enc Int := ⟨1, fun n => [.int .i64 n], 0, fun _ => rfl, fun a v h => by
  simp only [List.mem_cons, List.not_mem_nil, or_false] at h; subst h; rfl⟩
def cI (L : List Int) : List Value := cE encI L
def atI (L : List Int) (i : Nat) : Int := atE encI L i
theorem cI_at {L : List Int} {i : Nat} (h : i < L.length) : (cI L)[i * 1]? = some (.int .i64 (atI L i)) := by
  have h1 := cE_at (E := encI) h
  have h2 : ((cI L).drop (i * 1)).take 1 = [.int .i64 (atI L i)] := h1
  have h3 : (((cI L).drop (i * 1)).take 1)[0]? = some (.int .i64 (atI L i)) := by rw [h2]; rfl
  rw [List.getElem?_take] at h3
  simpa using h3
theorem cI_app (L K : List Int) : cI (L ++ K) = cI L ++ cI K := cE_app L K
theorem cI_ones (L : List Int) : ∀ z ∈ cI L, z.oneCell' = true := cE_ones L
abbrev RdI (w : World) (v : Value) (L : List Int) : Prop := RdV w 1 v L.length (cI L)
end Go.Proofs.Ytcnkakahhekobaa
