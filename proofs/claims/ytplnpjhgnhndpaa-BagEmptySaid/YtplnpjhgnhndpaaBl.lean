/- Laws of counts: mathematics. Any seat that has package bag. -/
import Derived.Test.YtplnpjhgnhndpaaBh
namespace Go.Proofs.Ytplnpjhgnhndpaa
open Go.RowKit

def foldC (C l : List Ct) : List Ct := l.foldl (fun C p => addC C p.1 p.2) C
def sumC (l : List Ct) : List Ct := foldC [] l
theorem fold_ok : ∀ (l C : List Ct), BagOK C → BagOK (foldC C l)
  | [], _, h => h
  | p :: r, _, h => fold_ok r _ (h.add p.1 p.2)
theorem sum_ok (l : List Ct) : BagOK (sumC l) := fold_ok l [] bag_nil
theorem sum_snoc (l : List Ct) (p : Ct) : sumC (l ++ [p]) = addC (sumC l) p.1 p.2 := by
  unfold sumC foldC; rw [List.foldl_append]; rfl
theorem sum_step {L : List Ct} {i : Int} (h0 : 0 ≤ i) (h : i < (L.length : Int)) : addC (sumC (L.take i.toNat)) (atC L i.toNat).1 (atC L i.toNat).2 = sumC (L.take (i + 1).toNat) := by
  rw [take_snocC h0 h, sum_snoc]
theorem sum_len : ∀ (l C : List Ct), (foldC C l).length ≤ C.length + l.length
  | [], _ => by simp [foldC]
  | p :: r, C => by
    have h1 := sum_len r (addC C p.1 p.2)
    have h2 := addC_len C p.1 p.2
    simp only [foldC, List.foldl_cons, List.length_cons] at *
    omega
def tot : List Ct → St → Int
  | [], _ => 0
  | p :: r, t => (if p.1 = t then p.2 else 0) + tot r t
theorem tot_app : ∀ (l k : List Ct) (t : St), tot (l ++ k) t = tot l t + tot k t
  | [], k, t => by simp [tot]
  | p :: r, k, t => by simp only [List.cons_append, tot, tot_app r k t]; omega
theorem tot_perm {l k : List Ct} (h : l.Perm k) (t : St) : tot l t = tot k t := by
  induction h with
  | nil => rfl
  | cons p _ ih => simp only [tot, ih]
  | swap p q r => simp only [tot]; omega
  | trans _ _ h1 h2 => rw [h1, h2]
def small (l : List Ct) : Prop := ∀ p ∈ l, -1000000 ≤ p.2 ∧ p.2 ≤ 1000000
theorem of_fold {t : St} : ∀ (l C : List Ct) (m : Int), BagOK C → (∀ u, -m ≤ ofC C u ∧ ofC C u ≤ m) → m + 1000000 * (l.length : Int) ≤ 1000000000 → small l → ofC (foldC C l) t = ofC C t + (if t.rightB then tot l t else 0)
  | [], C, m, _, _, _, _ => by simp [foldC, tot]
  | p :: r, C, m, hC, hm, hl, hs => by
    have hp := hs p (by simp)
    simp only [List.length_cons] at hl
    have hof := of_add hC.asc p.1 p.2
    have hb := hm p.1
    have key := of_fold (t := t) r (addC C p.1 p.2) (m + 1000000) (hC.add p.1 p.2) (fun u => by
      have := hm u
      rw [hof]; split <;> omega) (by omega) (fun q hq => hs q (by simp [hq]))
    show ofC (foldC (addC C p.1 p.2) r) t = _
    rw [key, hof]
    simp only [tot]
    by_cases hpt : p.1 = t
    · subst hpt
      cases hr : p.1.rightB with
      | false =>
        have : ¬ addE C p.1 p.2 = 0 := by rw [addE_wrong hr]; decide
        simp [this]
      | true =>
        have : addE C p.1 p.2 = 0 := addE_ok hr (by omega)
        simp [this]; omega
    · have : ¬ (t = p.1 ∧ addE C p.1 p.2 = 0) := fun h => hpt h.1.symm
      rw [if_neg this, if_neg hpt, Int.zero_add]
theorem of_sum {l : List Ct} (hs : small l) (hn : l.length ≤ 1000) (t : St) : ofC (sumC l) t = if t.rightB then tot l t else 0 := by
  have := of_fold (t := t) l [] 0 bag_nil (fun u => by rw [of_nil]; omega) (by omega) hs
  rw [of_nil, Int.zero_add] at this
  exact this
theorem sum_perm {l k : List Ct} (h : l.Perm k) (hs : small l) (hn : l.length ≤ 1000) : sumC l = sumC k :=
  (sum_ok l).ext (sum_ok k) fun t => by
    rw [of_sum hs hn, of_sum (fun p hp => hs p (h.mem_iff.2 hp)) (by rw [← h.length_eq]; exact hn), tot_perm h]
/-! ### In another order -/
def rotC (L : List Ct) (k : Nat) : List Ct := L.drop k ++ L.take k
theorem rot_perm (L : List Ct) (k : Nat) : (rotC L k).Perm L := by
  unfold rotC
  exact List.perm_append_comm.trans (by rw [List.take_append_drop])
theorem rot_len (L : List Ct) (k : Nat) : (rotC L k).length = L.length := (rot_perm L k).length_eq
theorem rot_at {L : List Ct} {i k j : Int} (h0 : 0 ≤ i) (h : i < (L.length : Int)) (hk0 : 0 ≤ k) (hk : k < (L.length : Int)) (hj : j = (i + k) % (L.length : Int)) : atC (rotC L k.toNat) i.toNat = atC L j.toNat := by
  unfold atC atE rotC
  rw [List.getD_eq_getElem?_getD, List.getD_eq_getElem?_getD]
  by_cases hc : i + k < (L.length : Int)
  · have e : j = i + k := by rw [hj]; exact Int.emod_eq_of_lt (by omega) hc
    rw [List.getElem?_append_left (by rw [List.length_drop]; omega), List.getElem?_drop, e, show k.toNat + i.toNat = (i + k).toNat by omega]
  · have e : j = i + k - L.length := by rw [hj, ← Int.sub_emod_right]; exact Int.emod_eq_of_lt (by omega) (by omega)
    rw [List.getElem?_append_right (by rw [List.length_drop]; omega), List.getElem?_take, List.length_drop, if_pos (by omega), e, show i.toNat - (L.length - k.toNat) = (i + k - L.length).toNat by omega]
theorem rot_step {L : List Ct} {i k j : Int} (h0 : 0 ≤ i) (h : i < (L.length : Int)) (hk0 : 0 ≤ k) (hk : k < (L.length : Int)) (hj : j = (i + k) % (L.length : Int)) : addC (sumC ((rotC L k.toNat).take i.toNat)) (atC L j.toNat).1 (atC L j.toNat).2 = sumC ((rotC L k.toNat).take (i + 1).toNat) := by
  rw [← sum_step h0 (by rw [rot_len]; exact h), rot_at h0 h hk0 hk hj]
theorem small_of {L : List Ct} {i : Int} (h : ∀ k, k < i.toNat → -1000000 ≤ (atC L k).2 ∧ (atC L k).2 ≤ 1000000) (hi : ¬ i < (L.length : Int)) : small L := fun p hp => by
  obtain ⟨k, hk, rfl⟩ := at_of_memE (E := encC) hp
  exact h k (by omega)
theorem order_eq {L : List Ct} {i k : Int} (hn : L.length ≤ 100) (h : ∀ q, q < i.toNat → -1000000 ≤ (atC L q).2 ∧ (atC L q).2 ≤ 1000000) (hi : ¬ i < (L.length : Int)) : sumC ((rotC L k.toNat).take i.toNat) = sumC (L.take i.toNat) := by
  rw [List.take_of_length_le (l := rotC L k.toNat) (by rw [rot_len]; omega), List.take_of_length_le (l := L) (by omega)]
  exact sum_perm (rot_perm L _) (fun p hp => small_of h hi p ((rot_perm L _).mem_iff.1 hp)) (by rw [rot_len]; omega)
/-! ### And back -/
def negC (l : List Ct) : List Ct := l.map fun p => (p.1, -p.2)
theorem tot_neg : ∀ (l : List Ct) (t : St), tot (negC l) t = - tot l t
  | [], t => rfl
  | p :: r, t => by
    have := tot_neg r t
    simp only [negC, List.map_cons, tot] at this ⊢
    rw [this]; split <;> omega
def backL (L : List Ct) (i : Int) : List Ct := L ++ negC ((L.drop (i + 1).toNat).reverse)
theorem back_start {L : List Ct} {i : Int} (hi : ¬ i < (L.length : Int)) : sumC (L.take i.toNat) = sumC (backL L ((L.length : Int) - 1)) := by
  unfold backL
  rw [List.take_of_length_le (by omega), List.drop_of_length_le (by omega)]; simp [negC]
theorem back_step {L : List Ct} {i : Int} (h0 : 0 ≤ i) (h : i < (L.length : Int)) : addC (sumC (backL L i)) (atC L i.toNat).1 (-(atC L i.toNat).2) = sumC (backL L (i - 1)) := by
  have e : backL L (i - 1) = backL L i ++ [((atC L i.toNat).1, -(atC L i.toNat).2)] := by
    unfold backL negC
    rw [show (i - 1 + 1).toNat = i.toNat by omega, show (i + 1).toNat = i.toNat + 1 by omega, List.drop_eq_getElem_cons (show i.toNat < L.length by omega), List.reverse_cons, List.map_append, ← List.append_assoc, show L[i.toNat] = atC L i.toNat from (atE_eq (by omega)).symm]
    rfl
  rw [e, sum_snoc]
theorem back_len (L : List Ct) (i : Int) : (backL L i).length ≤ 2 * L.length := by
  unfold backL negC; rw [List.length_append, List.length_map, List.length_reverse, List.length_drop]; omega
theorem back_end {L : List Ct} {i : Int} (hn : L.length ≤ 100) (hs : small L) (hi : ¬ 0 ≤ i) : sumC (backL L i) = [] := by
  refine (sum_ok _).ext bag_nil fun t => ?_
  have e : backL L i = L ++ negC L.reverse := by unfold backL; rw [show (i + 1).toNat = 0 by omega]; rfl
  have hl := back_len L i
  rw [of_sum (fun p hp => ?_) (by omega), of_nil, e, tot_app, tot_neg, tot_perm (List.reverse_perm L)]
  · split <;> omega
  · rw [e] at hp
    rcases List.mem_append.1 hp with h1 | h1
    · exact hs p h1
    · obtain ⟨q, hq, rfl⟩ := List.mem_map.1 h1
      have := hs q (List.mem_reverse.1 hq)
      simp only; omega
/-! ### Covers -/
theorem front_pos {C : List Ct} {i : Nat} (h : BagOK C) (hi : i < (minL (posL C)).length) : 0 < ofC C (atS (minL (posL C)) i) := by
  obtain ⟨p, hp, h1, h2⟩ := mem_posL.1 (mem_minL.1 (atS_mem hi)).1
  rw [← h2, of_mem h.asc.nodup hp]; exact h1
theorem cov_pos {C : List Ct} {i : Nat} (hi : i < C.length) (h : 0 < (atC C i).2) : covB (minL (posL C)) (atC C i).1 = true := by
  rw [min_cov]
  exact cov_iff.2 ⟨_, mem_posL.2 ⟨_, atC_mem hi, h, rfl⟩, St.le_refl _⟩
theorem of_at {C : List Ct} {i : Nat} (h : BagOK C) (hi : i < C.length) : ofC C (atC C i).1 = (atC C i).2 ∧ (atC C i).2 ≠ 0 := ⟨of_mem h.asc.nodup (atC_mem hi), (h.ok _ (atC_mem hi)).1⟩
theorem asc_at {C : List Ct} {i j : Nat} (h : BagOK C) (hij : i < j) (hj : j < C.length) : (atC C i).1.aheadB (atC C j).1 = true := by
  have := List.pairwise_iff_getElem.1 h.asc i j (by omega) hj hij
  unfold atC
  rwa [atE_eq (by omega), atE_eq hj]
/-! ### One stamp alone -/
def oneC (t : St) (s : Int) : List Ct := if s = 0 then [] else [(t, s)]
theorem of_one (t : St) (s : Int) : ofC (oneC t s) t = s := by
  unfold oneC
  split
  · rename_i h; rw [h]; rfl
  · simp [ofC, getM]
theorem add_one {t : St} {s x : Int} (hr : t.rightB = true) (h1 : -1000000000 ≤ s + x) (h2 : s + x ≤ 1000000000) : addC (oneC t s) t x = oneC t (s + x) := by
  have h0 : addE (oneC t s) t x = 0 := add_iff.2 ⟨hr, by rw [of_one]; exact h1, by rw [of_one]; exact h2⟩
  rw [addC_yes h0, of_one]
  unfold oneC
  by_cases hs : s = 0
  · rw [if_pos hs]; simp [setC]
  · rw [if_neg hs]
    by_cases hx : s + x = 0
    · simp [setC, ahead_irr, hx]
    · simp [setC, ahead_irr, hx]
theorem one_len (t : St) (s : Int) : ((oneC t s).length : Int) = if s = 0 then 0 else 1 := by unfold oneC; split <;> rfl
theorem one_lack (t : St) (s : Int) : lackB (oneC t s) = decide (s < 0) := by
  unfold oneC lackB
  split
  · rename_i h; simp [h]
  · simp
theorem one_front (t : St) (s : Int) : ((minL (posL (oneC t s))).length : Int) = if 0 < s then 1 else 0 := by
  unfold oneC posL
  by_cases h : s = 0
  · rw [if_pos h]; simp [h, minL, rowL]
  · rw [if_neg h]
    by_cases hp : 0 < s
    · simp [hp, minL, rowL, leastB, putL]
    · simp [hp, minL, rowL]
/-! ### Ints -/
def encI : Enc Int := ⟨1, fun n => [.int .i64 n], 0, fun _ => rfl, fun a v h => by
  simp only [List.mem_cons, List.not_mem_nil, or_false] at h; subst h; rfl⟩
def cI (L : List Int) : List Value := cE encI L
def atI (L : List Int) (i : Nat) : Int := atE encI L i
theorem cI_at {L : List Int} {i : Nat} (h : i < L.length) : (cI L)[i * 1]? = some (.int .i64 (atI L i)) := by
  have h1 := cE_at (E := encI) h
  have h2 : ((cI L).drop (i * 1)).take 1 = [.int .i64 (atI L i)] := h1
  have h3 : (((cI L).drop (i * 1)).take 1)[0]? = some (.int .i64 (atI L i)) := by rw [h2]; rfl
  rw [List.getElem?_take] at h3
  simpa using h3
theorem cI_app (L K : List Int) : cI (L ++ K) = cI L ++ cI K := cE_app L K
theorem cI_ones (L : List Int) : ∀ z ∈ cI L, z.oneCell' = true := cE_ones L
abbrev RdI (w : World) (v : Value) (L : List Int) : Prop := RdV w 1 v L.length (cI L)
/-! ### Entries told otherwise -/
section
variable {R : List Nat} {w0 w : World} {B : List Ent} {i rb p g : Nat} {v : Value} {C C' : List Ct}
theorem Mm.toRef (M : Mm R w0 w B) (h : B[i]? = some (.blk rb 28 #[.slice none 0 0])) : Mm R w0 w (B.set i (.own (rb :: (Value.slice none 0 0).ownBlock.toList) (RefV rb (.slice none 0 0) []))) :=
  M.swap h (x' := .own (rb :: (Value.slice none 0 0).ownBlock.toList) (RefV rb (.slice none 0 0) [])) (Out.refl _ _) ⟨⟨M.at h, World.ownsRow_nil _ _ _ _, bag_nil⟩, RefV.loc _ _ _⟩ (fun g hg => .inl (by simpa [Ent.fp, Value.ownBlock] using hg)) (fun g hg => by cases hg)
theorem Mm.refBlk (M : Mm R w0 w B) (h : B[i]? = some (.own (rb :: v.ownBlock.toList) (RefV rb v C))) : Mm R w0 w (B.set i (.blk rb 28 #[v])) :=
  M.swap h (x' := .blk rb 28 #[v]) (Out.refl _ _) (M.pv h).1 (fun g hg => .inl (by simp only [Ent.fp, List.mem_singleton] at hg; simp [Ent.fp, hg])) (fun g hg => by cases hg)
end
end Go.Proofs.Ytplnpjhgnhndpaa
