/- Ledgers of entries: slices with a bound of their own (l[:i:i]); what package entry asks of one entry. Any seat with layer 10 in it. -/
import Derived.Test.YtjelhljgeinodaaEm
namespace Go.Proofs.Ytjelhljgeinodaa
open Go.RowKit
set_option maxRecDepth 100000
set_option linter.unusedSimpArgs false
set_option linter.unusedVariables false

def subC (h : Nat) : Value → Value
  | .slice a _ _ => .slice a h h
  | v => v
section
variable {P : Program} {o : Oper} {a : Act} {x hi mx : Operand} {v : Value} {w : World} {t e : TypeId} {m n h : Nat} {xs : List Value} {k k' : IntKind} {i j : Int} {L : List En}
theorem pu_slice03 (ho : o.op = .slice t x none (some hi) (some mx)) (hx : a.eval x = v) (hhi : a.eval hi = .int k i) (hmx : a.eval mx = .int k' j) (hT : SlTy P t e m) (hv : RdV w m v n xs) (hj : j = i) (h1 : 0 ≤ i) (h2 : i ≤ n) : Pure P o a (subC i.toNat v) := fun w' => by
  obtain ⟨_, A, c, rfl, hc, _, _⟩ := hv
  obtain ⟨hu, hi'⟩ := hT
  subst hj
  cases hq : P.info? e with
  | none => simp [hq] at hi'
  | some inf =>
    have hs : inf.size = m := by simpa [hq] using hi'
    simp only [execOp, ho, hx, Option.map_some, Option.map_none, hhi, hmx]
    have e1 : (Instr.sliceBounds true n c none (some (.int k j)) (some (.int k' j))).run P w' = .ok (0, j.toNat, j.toNat) w' := by
      simp only [Instr.sliceBounds, Sem.run_bind, Sem.run_pure, Result.andThen_ok, run_sliceBound _ _ _ _ _ (show 0 ≤ j by omega) (show j ≤ (c : Int) by omega)]
      rw [run_sliceBound _ _ _ _ _ (show 0 ≤ j by omega) (show j ≤ ((j.toNat : Nat) : Int) by omega)]
      rfl
    simp [Instr.sliceAt, Instr.slice, run_underlying hu, e1, sizeOf, typeInfo, hq, hs, subC]
    intro _
    cases A with
    | none => rfl
    | some b => simp [Addr.add]
theorem take_rvC (hr : RdV w 40 v n (cN L)) (_hz : L.length = n) (hk : h ≤ n) : RdV w 40 (subC h v) h (cN (L.take h)) := by
  have h' := take_rvN hr _hz hk
  obtain ⟨h0, A, c, rfl, h1, h2, h3⟩ := hr
  obtain ⟨g0, A', c', e', g1, g2, g3⟩ := h'
  refine ⟨g0, A, h, rfl, Nat.le_refl _, by omega, fun hp => ?_⟩
  obtain ⟨g, o, ha, hl, hc⟩ := h3 (by omega)
  refine ⟨g, o, ha, hl, fun j u hj => ?_⟩
  refine hc j u ?_
  have e1 : cN (L.take h) = (cN L).take (h * 40) := by
    have := cE_take (E := encN) L h
    exact this.symm
  rw [e1, List.getElem?_take] at hj
  split at hj
  · exact hj
  · cases hj
end
/-- Why an entry does not follow. -/
def folE (L : List En) (en : En) : Int := if rightN en = false then 2 else if ¬ en.seq = ((L.length : Nat) : Int) then 6 else if ¬ en.prev = headB L then 7 else 0
theorem right_entryE (en : En) : decide (entryE en = 0) = rightN en := by
  unfold entryE
  cases rightN en <;> rfl
theorem fol_form {L : List En} {en : En} (h : rightN en = false) : folE L en = 2 := if_pos h
theorem fol_seq {L : List En} {en : En} (h : rightN en = true) (hs : ¬ en.seq = ((L.length : Nat) : Int)) : folE L en = 6 := by unfold folE; rw [if_neg (by rw [h]; simp), if_pos hs]
theorem fol_prev {L : List En} {en : En} (h : rightN en = true) (hs : en.seq = ((L.length : Nat) : Int)) (hp : ¬ en.prev = headB L) : folE L en = 7 := by unfold folE; rw [if_neg (by rw [h]; simp), if_neg (by simp [hs]), if_pos hp]
theorem fol_ok {L : List En} {en : En} (h : rightN en = true) (hs : en.seq = ((L.length : Nat) : Int)) (hp : en.prev = headB L) : folE L en = 0 := by unfold folE; rw [if_neg (by rw [h]; simp), if_neg (by simp [hs]), if_neg (by simp [hp])]
section
variable {L : List En} {i : Int}
theorem take_lenI (h0 : 0 ≤ i) (hi : i < (L.length : Int)) : (((L.take i.toNat).length : Nat) : Int) = i := by rw [List.length_take]; omega
theorem chk_fault (h : ChkTo L i.toNat) (h0 : 0 ≤ i) (hi : i < (L.length : Int)) (hf : ¬ folE (L.take i.toNat) (atN L i.toNat) = 0) : chkE L = folE (L.take i.toNat) (atN L i.toNat) ∧ chkI L = i := by
  have hl := take_lenI h0 hi
  cases hr : rightN (atN L i.toNat) with
  | false => rw [fol_form hr]; exact chk_wrong h h0 hi hr
  | true =>
    by_cases hs : (atN L i.toNat).seq = i
    · by_cases hp : (atN L i.toNat).prev = headB (L.take i.toNat)
      · exact absurd (fol_ok hr (by rw [hl]; exact hs) hp) hf
      · rw [fol_prev hr (by rw [hl]; exact hs) hp]; exact chk_prev h h0 hi hr hs hp
    · rw [fol_seq hr (by rw [hl]; exact hs)]; exact chk_seq h h0 hi hr hs
theorem chk_on (h : ChkTo L i.toNat) (h0 : 0 ≤ i) (hi : i < (L.length : Int)) (hf : folE (L.take i.toNat) (atN L i.toNat) = 0) : ChkTo L (i + 1).toNat := by
  have hl := take_lenI h0 hi
  cases hr : rightN (atN L i.toNat) with
  | false => rw [fol_form hr] at hf; cases hf
  | true =>
    by_cases hs : (atN L i.toNat).seq = i
    · by_cases hp : (atN L i.toNat).prev = headB (L.take i.toNat)
      · exact chk_step h h0 hi hr hs hp
      · rw [fol_prev hr (by rw [hl]; exact hs) hp] at hf; cases hf
    · rw [fol_seq hr (by rw [hl]; exact hs)] at hf; cases hf
end
end Go.Proofs.Ytjelhljgeinodaa
