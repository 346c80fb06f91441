/- Put together: Kt, Kp, Kr. -/
import Derived.Test.YtboinbmgndomhaaGreatJ5
import Derived.Test.YtboinbmgndomhaaGreatJ4
namespace Go.Proofs.YtboinbmgndomhaaGreat
open Go.RowKit
set_option maxRecDepth 100000
set_option linter.unusedSimpArgs false
set_option linter.unusedVariables false
theorem nd_len {α : Type} [DecidableEq α] : ∀ {l m : List α}, l.Nodup → (∀ a ∈ l, a ∈ m) → l.length ≤ m.length
  | [], _, _, _ => Nat.zero_le _
  | a :: r, m, hn, hs => by
    obtain ⟨h1, h2⟩ := List.nodup_cons.1 hn
    have ha := hs a (by simp)
    have h3 := nd_len (m := m.erase a) h2 fun b hb => (List.mem_erase_of_ne (show b ≠ a from fun e => h1 (by rw [← e]; exact hb))).2 (hs b (by simp [hb]))
    rw [List.length_erase_of_mem ha] at h3
    have := List.length_pos_of_mem ha
    simp only [List.length_cons]; omega
section
variable {L : List (List (List St))} {B R : Bags} {p q : Po} {x k : Int} {s t u : St} {C D : List Ct}
theorem pos_nodup (h : BagOK C) : (posL C).Nodup := by
  unfold posL
  have hpw : (C.map (·.1)).Nodup := by
    show List.Pairwise _ _
    rw [List.pairwise_map]; exact h.asc.nodup
  exact hpw.sublist (List.Sublist.map _ List.filter_sublist)
theorem places_nodup : (placesC L p k).Nodup := by
  unfold placesC
  split
  · exact (minL_asc _).nodup
  · exact List.nodup_nil
theorem places_rightB (h : s ∈ placesC L p k) : s.rightB = true := by
  unfold placesC at h
  split at h
  · obtain ⟨q, _, h2, rfl⟩ := mem_sums1.1 (mem_minL.1 h).1
    rw [after_yes h2]
    unfold St.afterB at h2
    rw [Bool.and_eq_true] at h2
    exact h2.2
  · cases h
def hitC (L : List (List (List St))) (k : Int) (s : St) (i : Int) (C : List Ct) : Nat := (posL C).countP fun t => decide (s ∈ placesC L ⟨i, t⟩ k)
def sumF (f : Nat → Nat) : Nat → Nat
  | 0 => 0
  | n + 1 => sumF f n + f n
def cntH (L : List (List (List St))) (B : Bags) (k : Int) (s : St) : Nat := sumF (fun i => hitC L k s (i : Int) (atK B i)) B.length
theorem sumF_one {f g : Nat → Nat} {j : Nat} (h : ∀ i, i ≠ j → f i = g i) : ∀ n, sumF f n + (if j < n then g j else 0) = sumF g n + (if j < n then f j else 0)
  | 0 => rfl
  | n + 1 => by
    have ih := sumF_one h n
    simp only [sumF]
    by_cases e : n = j
    · subst e
      rw [if_neg (by omega), if_neg (by omega)] at ih
      rw [if_pos (by omega), if_pos (by omega)]; omega
    · rw [h n e]
      by_cases e2 : j < n
      · rw [if_pos e2, if_pos e2] at ih
        rw [if_pos (by omega), if_pos (by omega)]; omega
      · rw [if_neg e2, if_neg e2] at ih
        rw [if_neg (by omega), if_neg (by omega)]; omega
theorem sumF_le {f : Nat → Nat} {c : Nat} (h : ∀ i, f i ≤ c) : ∀ n, sumF f n ≤ n * c
  | 0 => by simp [sumF]
  | n + 1 => by
    have := sumF_le h n
    have := h n
    simp only [sumF, Nat.add_mul]; omega
theorem sumF_pos {f : Nat → Nat} : ∀ n, 0 < sumF f n ↔ ∃ i, i < n ∧ 0 < f i
  | 0 => ⟨fun h => by simp [sumF] at h, fun ⟨i, h, _⟩ => by omega⟩
  | n + 1 => by
    simp only [sumF]
    constructor
    · intro h
      by_cases h0 : 0 < f n
      · exact ⟨n, by omega, h0⟩
      · obtain ⟨i, hi, h1⟩ := (sumF_pos (f := f) n).1 (by omega)
        exact ⟨i, by omega, h1⟩
    · rintro ⟨i, hi, h1⟩
      by_cases e : i = n
      · subst e; omega
      · have := (sumF_pos (f := f) n).2 ⟨i, by omega, h1⟩; omega
theorem hit_le {m : Nat} (h : C.length ≤ m) (i : Int) : hitC L k s i C ≤ m := Nat.le_trans List.countP_le_length (Nat.le_trans (posL_len _) h)
theorem cntH_le {m : Nat} (hs : SmB B m) : cntH L B k s ≤ B.length * m := sumF_le (fun i => hit_le (hs i) _) _
theorem mem_all : s ∈ allPl L B k ↔ 0 < cntH L B k s := by
  unfold allPl nodePl cntH hitC
  rw [sumF_pos]
  simp only [List.mem_flatMap, List.mem_range, List.countP_pos_iff, decide_eq_true_iff]
theorem hit_perm (h : ∀ u, u ∈ posL D ↔ u ∈ posL C) (hC : BagOK C) (hD : BagOK D) (i : Int) : hitC L k s i D = hitC L k s i C := by
  unfold hitC
  exact ((List.perm_ext_iff_of_nodup (pos_nodup hD) (pos_nodup hC)).2 h).countP_eq _
theorem hit_more (h : ∀ u, u ∈ posL D ↔ u = t ∨ u ∈ posL C) (ht : ¬ t ∈ posL C) (hC : BagOK C) (hD : BagOK D) (i : Int) : hitC L k s i D = hitC L k s i C + (if s ∈ placesC L ⟨i, t⟩ k then 1 else 0) := by
  unfold hitC
  rw [((List.perm_ext_iff_of_nodup (pos_nodup hD) (List.nodup_cons.2 ⟨ht, pos_nodup hC⟩)).2 (fun u => by rw [h, List.mem_cons])).countP_eq, List.countP_cons]
  simp
def leadN (C : List Ct) (t : St) (n : Int) : Int := if 0 < ofC C t then (if 0 < ofC (addC C t n) t then 0 else -1) else (if 0 < ofC (addC C t n) t then 1 else 0)
theorem hit_add (hC : BagOK C) (t : St) (n : Int) (i : Int) : (hitC L k s i (addC C t n) : Int) = hitC L k s i C + (if s ∈ placesC L ⟨i, t⟩ k then leadN C t n else 0) := by
  have hD := hC.add t n
  have hne : ∀ u, u ≠ t → (u ∈ posL (addC C t n) ↔ u ∈ posL C) := fun u hu => by
    rw [mem_pos hD, mem_pos hC, of_add hC.asc, if_neg (fun z => hu z.1)]
  unfold leadN
  by_cases h1 : 0 < ofC C t <;> by_cases h2 : 0 < ofC (addC C t n) t
  · rw [if_pos h1, if_pos h2, hit_perm (fun u => ?_) hC hD]
    · simp
    · by_cases hu : u = t
      · subst hu; rw [mem_pos hD, mem_pos hC]; exact ⟨fun _ => h1, fun _ => h2⟩
      · exact hne u hu
  · rw [if_pos h1, if_neg h2, hit_more (C := addC C t n) (D := C) (t := t) (fun u => ?_) (fun z => h2 ((mem_pos hD).1 z)) hD hC]
    · split <;> simp <;> omega
    · by_cases hu : u = t
      · subst hu; rw [mem_pos hC]; exact ⟨fun _ => .inl rfl, fun _ => h1⟩
      · rw [← hne u hu]; exact ⟨.inr, fun z => z.resolve_left hu⟩
  · rw [if_neg h1, if_pos h2, hit_more (C := C) (D := addC C t n) (t := t) (fun u => ?_) (fun z => h1 ((mem_pos hC).1 z)) hC hD]
    · split <;> simp
    · by_cases hu : u = t
      · subst hu; rw [mem_pos hD]; exact ⟨fun _ => .inl rfl, fun _ => h2⟩
      · rw [hne u hu]; exact ⟨.inr, fun z => z.resolve_left hu⟩
  · rw [if_neg h1, if_neg h2, hit_perm (fun u => ?_) hC hD]
    · simp
    · by_cases hu : u = t
      · subst hu; rw [mem_pos hD, mem_pos hC]; exact ⟨fun z => absurd z h2, fun z => absurd z h1⟩
      · exact hne u hu
theorem cnt_add (hr : rightC L p = true) (hl : L.length = B.length) (hB : OKs B) : (cntH L (addTB L B p x) k s : Int) = cntH L B k s + (if s ∈ placesC L p k then leadN (atK B p.n.toNat) p.t x else 0) := by
  have hp := (rightC_at hr).2.1
  have hj : p.n.toNat < B.length := by omega
  unfold cntH
  rw [addT_len]
  have h1 := sumF_one (f := fun i => hitC L k s (i : Int) (atK (addTB L B p x) i)) (g := fun i => hitC L k s (i : Int) (atK B i)) (j := p.n.toNat) (fun i hi => by
    show hitC L k s (i : Int) (atK (addTB L B p x) i) = hitC L k s (i : Int) (atK B i)
    rw [(addT_yes hr).2, atK_set hj, if_neg (fun z => hi z.symm)]) B.length
  rw [if_pos hj, if_pos hj] at h1
  have h2 := hit_add (L := L) (k := k) (s := s) (hB _ hj) p.t x (p.n.toNat : Int)
  have h3 : atK (addTB L B p x) p.n.toNat = addC (atK B p.n.toNat) p.t x := by rw [(addT_yes hr).2, atK_set hj, if_pos rfl]
  have h4 : (⟨(p.n.toNat : Int), p.t⟩ : Po) = p := by cases p; simp at hp ⊢; omega
  simp only [h3] at h1
  rw [h4] at h2
  omega
structure InvR (L : List (List (List St))) (B R : Bags) : Prop where
  len : R.length = B.length
  ok : OKs R
  of : ∀ i, i < B.length → ∀ s, ofC (atK R i) s = (cntH L B (i : Int) s : Int)
theorem InvR.new (n : Nat) : InvR L (List.replicate n []) (List.replicate n []) := ⟨rfl, ok_new n, fun i hi s => by
  rw [List.length_replicate] at hi
  have h0 : cntH L (List.replicate n []) (i : Int) s = 0 := by
    by_cases h : 0 < cntH L (List.replicate n []) (i : Int) s
    · obtain ⟨j, _, h1⟩ := (sumF_pos _).1 h
      simp only [hitC, List.countP_pos_iff] at h1
      obtain ⟨u, hu, _⟩ := h1
      rw [show atK (List.replicate n []) j = [] by unfold atK; rw [List.getD_eq_getElem?_getD, List.getElem?_replicate]; split <;> rfl] at hu
      cases hu
    · omega
  rw [h0, atK_eq (by simpa using hi), List.getElem_replicate]; rfl⟩
theorem InvR.front (h : InvR L B R) (h0 : 0 ≤ k) (hk : k < (B.length : Int)) : minL (posL (atK R k.toNat)) = frontT L B k := by
  unfold frontT
  refine min_mem fun t => ?_
  rw [mem_pos (h.ok _ (by rw [h.len]; omega)), h.of _ (by omega), mem_all, show ((k.toNat : Nat) : Int) = k by omega]
  omega
theorem InvR.small (h : InvR L B R) (hs : Sm64 L) (hl : B.length ≤ 8) (hb : SmB B 1000) {i : Nat} (hi : i < B.length) : (atK R i).length ≤ 600000 := by
  have h1 : ∀ t ∈ (atK R i).map (·.1), t ∈ allPl L B (i : Int) := fun t ht => by
    obtain ⟨c, hc, rfl⟩ := List.mem_map.1 ht
    have h2 := (h.ok i (by rw [h.len]; exact hi)).mem.1 hc
    rw [mem_all]
    have h3 := h.of i hi c.1
    rw [h2.1] at h3
    have := h2.2
    omega
  have hnd : ((atK R i).map (·.1)).Nodup := by
    show List.Pairwise _ _
    rw [List.pairwise_map]; exact (h.ok i (by rw [h.len]; exact hi)).asc.nodup
  have h2 := nd_len hnd h1
  rw [List.length_map] at h2
  refine Nat.le_trans h2 ?_
  exact all_len3 hs hl hb
def leadC (C : List Ct) (l : List St) (n : Int) : List Ct := l.foldl (fun C s => addC C s n) C
theorem leadC_ok (h : BagOK C) (n : Int) : ∀ l, BagOK (leadC C l n) := by
  intro l
  unfold leadC
  induction l generalizing C with
  | nil => exact h
  | cons a r ih => exact ih (h.add a n)
theorem leadC_snoc (C : List Ct) (l : List St) (n : Int) (s : St) : leadC C (l ++ [s]) n = addC (leadC C l n) s n := by unfold leadC; rw [List.foldl_append]; rfl
theorem leadC_of {l : List St} {n : Int} (hC : BagOK C) (hn : l.Nodup) (hr : ∀ s ∈ l, s.rightB = true ∧ -1000000000 ≤ ofC C s + n ∧ ofC C s + n ≤ 1000000000) : ofC (leadC C l n) s = ofC C s + if s ∈ l then n else 0 := by
  unfold leadC
  induction l generalizing C with
  | nil => simp
  | cons a r ih =>
    obtain ⟨h1, h2⟩ := List.nodup_cons.1 hn
    have ha := hr a (by simp)
    have h0 : addE C a n = 0 := add_iff.2 ha
    have hof : ∀ u, ofC (addC C a n) u = if u = a then ofC C a + n else ofC C u := fun u => by
      rw [of_add hC.asc]; simp [h0]
    rw [List.foldl_cons, ih (hC.add a n) h2 (fun u hu => by
      rw [hof, if_neg (show ¬ u = a from fun e => h1 (by rw [← e]; exact hu))]
      exact hr u (by simp [hu])), hof]
    by_cases e : s = a
    · subst e; simp [h1]
    · simp [e]
def leadR (L : List (List (List St))) (R : Bags) (p : Po) (n : Int) : Nat → Bags
  | 0 => R
  | j + 1 => (leadR L R p n j).set j (leadC (atK (leadR L R p n j) j) (placesC L p (j : Int)) n)
theorem leadR_len (n : Int) : ∀ j, (leadR L R p n j).length = R.length
  | 0 => rfl
  | j + 1 => by rw [leadR, List.length_set, leadR_len n j]
theorem leadR_at (n : Int) : ∀ j i, i < R.length → j ≤ R.length → atK (leadR L R p n j) i = if i < j then leadC (atK R i) (placesC L p (i : Int)) n else atK R i
  | 0, _, _, _ => rfl
  | j + 1, i, hi, hj => by
    have ih := leadR_at n j i hi (by omega)
    have ihj := leadR_at n j j (by omega) (by omega)
    rw [if_neg (by omega)] at ihj
    rw [leadR, atK_set (by rw [leadR_len]; omega)]
    by_cases e : j = i
    · subst e
      rw [if_pos rfl, if_pos (by omega), ihj]
    · rw [if_neg e, ih]
      by_cases h1 : i < j
      · rw [if_pos h1, if_pos (by omega)]
      · rw [if_neg h1, if_neg (by omega)]
theorem InvR.lead {n : Int} (h : InvR L B R) (hr : rightC L p = true) (hl : L.length = B.length) (hB : OKs B) (hb : SmB B 1000) (hn : leadN (atK B p.n.toNat) p.t x = n) : InvR L (addTB L B p x) (leadR L R p n L.length) := by
  have h8 : B.length ≤ 8 := by have := (rightC_at hr).1.2; omega
  have hn1 : n = -1 ∨ n = 0 ∨ n = 1 := by
    rw [← hn]; unfold leadN
    split <;> split <;> simp
  have hat : ∀ i, i < B.length → atK (leadR L R p n L.length) i = leadC (atK R i) (placesC L p (i : Int)) n := fun i hi => by
    rw [leadR_at n _ i (by rw [h.len]; exact hi) (by rw [h.len]; omega), if_pos (by omega)]
  refine ⟨by rw [leadR_len, addT_len, h.len], fun i hi => ?_, fun i hi s => ?_⟩
  · rw [leadR_len, h.len] at hi
    rw [hat i hi]
    exact leadC_ok (h.ok i (by rw [h.len]; exact hi)) n _
  · rw [addT_len] at hi
    rw [hat i hi, leadC_of (h.ok i (by rw [h.len]; exact hi)) places_nodup (fun u hu => ⟨places_rightB hu, ?_⟩), h.of i hi, cnt_add hr hl hB, hn]
    have h1 := h.of i hi u
    have h2 := cntH_le (L := L) (k := (i : Int)) (s := u) hb
    have h3 : B.length * 1000 ≤ 8 * 1000 := Nat.mul_le_mul_right _ h8
    omega
theorem InvR.same (h : InvR L B R) (hr : rightC L p = true) (hl : L.length = B.length) (hB : OKs B) (hn : leadN (atK B p.n.toNat) p.t x = 0) : InvR L (addTB L B p x) R :=
  ⟨by rw [addT_len, h.len], h.ok, fun i hi s => by
    rw [addT_len] at hi
    rw [h.of i hi, cnt_add hr hl hB, hn]; simp⟩
end
end Go.Proofs.YtboinbmgndomhaaGreat
namespace Go.Proofs.YtboinbmgndomhaaGreat
open Go.RowKit
set_option maxRecDepth 100000
set_option linter.unusedSimpArgs false
set_option linter.unusedVariables false
def bkP (K : List (Nat × Nat)) (i : Nat) : Nat := (K.getD i (0, 0)).1
def bkM (K : List (Nat × Nat)) (i : Nat) : Nat := (K.getD i (0, 0)).2
def pad (K : List (Nat × Nat)) (i : Nat) : Option Addr := K[i]?.map fun k => ⟨k.1, 0, none⟩
def arr8 (K : List (Nat × Nat)) : List Value := [.pointer (pad K 0), .pointer (pad K 1), .pointer (pad K 2), .pointer (pad K 3), .pointer (pad K 4), .pointer (pad K 5), .pointer (pad K 6), .pointer (pad K 7)]
def fpK (K : List (Nat × Nat)) : List Nat := K.flatMap fun k => [k.1, k.2]
section
variable {K : List (Nat × Nat)} {B : Bags} {i j p g : Nat} {w w' : World}
theorem bk_eq (h : i < K.length) : (bkP K i, bkM K i) = K[i] := by unfold bkP bkM; rw [List.getD_eq_getElem?_getD, List.getElem?_eq_getElem h]; rfl
theorem bkP_eq (h : i < K.length) : bkP K i = K[i].1 := by rw [← bk_eq h]
theorem pad_eq (h : i < K.length) : pad K i = some ⟨bkP K i, 0, none⟩ := by unfold pad; rw [List.getElem?_eq_getElem h, bkP_eq h]; rfl
theorem arr8_len : (arr8 K).length = 8 := rfl
theorem arr8_get (h8 : i < 8) : (arr8 K)[i]? = some (.pointer (pad K i)) := by
  match i, h8 with
  | 0, _ => rfl
  | 1, _ => rfl
  | 2, _ => rfl
  | 3, _ => rfl
  | 4, _ => rfl
  | 5, _ => rfl
  | 6, _ => rfl
  | 7, _ => rfl
theorem pad_get (pre post : List Value) {o : Nat} (h : i < K.length) (h8 : K.length ≤ 8) (ho : o = pre.length) : (List.toArray (pre ++ (arr8 K ++ post)))[o + i * 1]? = some (.pointer (some ⟨bkP K i, 0, none⟩)) := by
  subst ho
  rw [List.getElem?_toArray, List.getElem?_append_right (by omega), show pre.length + i * 1 - pre.length = i by omega, List.getElem?_append_left (by rw [arr8_len]; omega), arr8_get (by omega), pad_eq h]
theorem arr8_push (hl : K.length = i) (h8 : i < 8) : (arr8 K).set i (.pointer (some ⟨p, 0, none⟩)) = arr8 (K ++ [(p, g)]) := by
  apply List.ext_getElem?
  intro q
  rw [List.getElem?_set]
  by_cases e : i = q
  · subst e
    rw [if_pos rfl, if_pos (by rw [arr8_len]; exact h8), arr8_get h8, pad_eq (by simp; omega)]
    unfold bkP
    rw [List.getD_eq_getElem?_getD, List.getElem?_append_right (by omega), hl]; simp
  · rw [if_neg e]
    by_cases h : q < 8
    · rw [arr8_get h, arr8_get h]
      congr 2
      unfold pad
      congr 1
      by_cases h1 : q < K.length
      · rw [List.getElem?_append_left h1]
      · rw [List.getElem?_eq_none (by omega), List.getElem?_eq_none (by simp; omega)]
    · rw [List.getElem?_eq_none (by rw [arr8_len]; omega), List.getElem?_eq_none (by rw [arr8_len]; omega)]
theorem arr8_store (hl : K.length = i) (h8 : i < 8) : (List.toArray (arr8 K)).setIfInBounds (0 + i * 1) (.pointer (some ⟨p, 0, none⟩)) = List.toArray (arr8 (K ++ [(p, g)])) := by
  rw [List.setIfInBounds_toArray, show 0 + i * 1 = i by omega, arr8_push hl h8]
theorem mem_fpK : g ∈ fpK K ↔ ∃ i, i < K.length ∧ (g = bkP K i ∨ g = bkM K i) := by
  unfold fpK
  rw [List.mem_flatMap]
  constructor
  · rintro ⟨k, hk, hg⟩
    obtain ⟨i, hi, rfl⟩ := List.mem_iff_getElem.1 hk
    rw [← bk_eq hi] at hg
    exact ⟨i, hi, by simpa using hg⟩
  · rintro ⟨i, hi, hg⟩
    exact ⟨K[i], List.getElem_mem hi, by rw [← bk_eq hi]; simpa using hg⟩
structure BgsV (K : List (Nat × Nat)) (B : Bags) (w : World) : Prop where
  len : B.length = K.length
  all : ∀ i, i < K.length → BagV (bkP K i) (bkM K i) (atK B i) w
  nd : ∀ i j, i < K.length → j < K.length → i ≠ j → ∀ g ∈ [bkP K i, bkM K i], ¬ g ∈ [bkP K j, bkM K j]
theorem BgsV.loc (K : List (Nat × Nat)) (B : Bags) : Loc (fpK K) (BgsV K B) := fun w w' hk h => by
  refine ⟨⟨h.len, fun i hi => (BagV.loc _ _ _ w w' (fun g hg => hk g (mem_fpK.2 ⟨i, hi, by simpa using hg⟩)) (h.all i hi)).1, h.nd⟩, fun g hg => ?_⟩
  obtain ⟨i, hi, hg⟩ := mem_fpK.1 hg
  exact (BagV.loc _ _ _ w w (fun _ _ => rfl) (h.all i hi)).2 g (by simpa using hg)
theorem BgsV.ok (h : BgsV K B w) : OKs B := fun i hi => by
  have hi' : i < K.length := by rw [← h.len]; exact hi
  exact (h.all i hi').2.2
theorem BgsV.nil (w : World) : BgsV [] [] w := ⟨rfl, fun i hi => absurd hi (Nat.not_lt_zero i), fun i j hi => absurd hi (Nat.not_lt_zero i)⟩
theorem BgsV.turn (h : BgsV K B w) (hi : i < K.length) {e : Ending} {Zv : Value → Prop} {C : List Ct}
    (ht : TurnsE w (.own [bkP K i, bkM K i] (BagV (bkP K i) (bkM K i) (atK B i))) (fun u x' => Zv u ∧ x' = .own [bkP K i, bkM K i] (BagV (bkP K i) (bkM K i) C)) e w') :
    TurnsE w (.own (fpK K) (BgsV K B)) (fun u x' => Zv u ∧ x' = .own (fpK K) (BgsV K (B.set i C))) e w' := by
  obtain ⟨v, x', h1, h2, h3, h4, h5, h6, rfl⟩ := ht
  refine ⟨v, .own (fpK K) (BgsV K (B.set i C)), h1, h2.mono (fun g hg => mem_fpK.2 ⟨i, hi, by simpa [Ent.fp] using hg⟩), ⟨⟨by rw [List.length_set, h.len], fun j hj => ?_, h.nd⟩, BgsV.loc _ _⟩, fun g hg => .inl hg, rfl, h6, rfl⟩
  rw [atK_set (by rw [h.len]; exact hi)]
  split
  · rename_i e; subst e; exact h3.1
  · rename_i e
    have hb := h.all j hj
    have hlt := (BagV.loc _ _ _ w w (fun _ _ => rfl) hb).2
    exact (BagV.loc _ _ _ w w' (fun g hg => h2.block g (hlt g hg) (h.nd j i hj hi (fun z => e z.symm) g hg)) hb).1
theorem BgsV.push (h : BgsV K B w) (ha : BagV p g [] w) (hd : ∀ q ∈ [p, g], ¬ q ∈ fpK K) : BgsV (K ++ [(p, g)]) (B ++ [[]]) w := by
  have e1 : ∀ j, j < K.length → bkP (K ++ [(p, g)]) j = bkP K j ∧ bkM (K ++ [(p, g)]) j = bkM K j := fun j hj => by
    unfold bkP bkM
    simp only [List.getD_eq_getElem?_getD, List.getElem?_append_left hj]
    exact ⟨trivial, trivial⟩
  have e2 : bkP (K ++ [(p, g)]) K.length = p ∧ bkM (K ++ [(p, g)]) K.length = g := by
    unfold bkP bkM
    simp [List.getD_eq_getElem?_getD]
  have hl := h.len
  refine ⟨by simp [hl], fun j hj => ?_, fun a b ha hb hab q hq hq' => ?_⟩
  · rw [List.length_append, List.length_singleton] at hj
    by_cases hj' : j < K.length
    · rw [(e1 j hj').1, (e1 j hj').2, show atK (B ++ [[]]) j = atK B j by unfold atK; rw [List.getD_eq_getElem?_getD, List.getD_eq_getElem?_getD, List.getElem?_append_left (by omega)]]
      exact h.all j hj'
    · have : j = K.length := by omega
      subst this
      rw [e2.1, e2.2, show atK (B ++ [[]]) K.length = [] by unfold atK; rw [List.getD_eq_getElem?_getD, ← hl]; simp]
      exact ha
  · rw [List.length_append, List.length_singleton] at ha hb
    by_cases ha' : a < K.length
    · rw [(e1 a ha').1, (e1 a ha').2] at hq
      by_cases hb' : b < K.length
      · rw [(e1 b hb').1, (e1 b hb').2] at hq'
        exact h.nd a b ha' hb' hab q hq hq'
      · have : b = K.length := by omega
        subst this
        rw [e2.1, e2.2] at hq'
        exact hd q hq' (mem_fpK.2 ⟨a, ha', by simpa using hq⟩)
    · have : a = K.length := by omega
      subst this
      rw [e2.1, e2.2] at hq
      by_cases hb' : b < K.length
      · rw [(e1 b hb').1, (e1 b hb').2] at hq'
        exact hd q hq (mem_fpK.2 ⟨b, hb', by simpa using hq'⟩)
      · omega
end
theorem fpK_push {K : List (Nat × Nat)} {p g q : Nat} : q ∈ fpK (K ++ [(p, g)]) ↔ q ∈ fpK K ∨ q ∈ [p, g] := by unfold fpK; rw [List.flatMap_append, List.mem_append]; simp
theorem Mm.pushK {K : List (Nat × Nat)} {n p g : Nat} {R : List Nat} {w w0 : World} {C : List Ent} (M : Mm R w0 w (.own [p, g] (BagV p g []) :: .own (fpK K) (BgsV K (List.replicate n [])) :: C)) :
    Mm R w0 w (.own (fpK (K ++ [(p, g)])) (BgsV (K ++ [(p, g)]) (List.replicate (n + 1) [])) :: C) := by
  have hap := M.apart (i := 0) (j := 1) rfl rfl (by decide)
  refine Mm.recast (X := [.own [p, g] (BagV p g []), .own (fpK K) (BgsV K (List.replicate n []))]) (Y := [_]) M (fun y hy => ?_) (fun y hy q hq => ?_) (List.pairwise_singleton _ _) (fun y hy q hq => ?_)
  · rw [List.mem_singleton.1 hy]
    rw [List.replicate_succ']
    exact ⟨(M.pv (i := 1) rfl).push (M.pv (i := 0) rfl) hap, BgsV.loc _ _⟩
  · rw [List.mem_singleton.1 hy] at hq
    rcases fpK_push.1 (show q ∈ fpK (K ++ [(p, g)]) from hq) with h | h
    · exact ⟨.own (fpK K) (BgsV K (List.replicate n [])), by simp, h⟩
    · exact ⟨.own [p, g] (BagV p g []), by simp, h⟩
  · rw [List.mem_singleton.1 hy] at hq; cases hq
theorem Mm.sel {R : List Nat} {w0 w : World} {B : List Ent} (M : Mm R w0 w B) (is : List Nat) (hn : is.Nodup) {X : List Ent} (h : is.map (fun i => B[i]?) = X.map some) : Mm R w0 w X := by
  have hl : is.length = X.length := by have := congrArg List.length h; simpa using this
  have hat : ∀ k (hk : k < X.length), B[is[k]'(by omega)]? = some X[k] := fun k hk => by
    have := congrArg (fun l => l[k]?) h
    simpa [List.getElem?_eq_getElem hk, List.getElem?_eq_getElem (show k < is.length by omega)] using this
  have hm : ∀ x ∈ X, x ∈ B := fun x hx => by
    obtain ⟨k, hk, rfl⟩ := List.mem_iff_getElem.1 hx
    exact List.mem_of_getElem? (hat k hk)
  refine ⟨M.out, fun x hx => M.has x (hm x hx), fun x hx => M.own x (hm x hx), fun x hx => M.far x (hm x hx), ?_⟩
  rw [List.pairwise_iff_getElem]
  intro a b ha hb hab
  refine M.apart (hat a ha) (hat b hb) fun e => ?_
  exact (List.pairwise_iff_getElem.1 hn) a b (by omega) (by omega) hab e
def LdV (bc br : Nat) (u : Value) (K : List (Nat × Nat)) (w : World) : Prop := Blk w bc 50 #[u] ∧ Blk w br 64 (arr8 K).toArray ∧ bc ≠ br
theorem LdV.loc (bc br : Nat) (u : Value) (K : List (Nat × Nat)) : Loc [bc, br] (LdV bc br u K) := fun w w' hk ⟨h1, h2, h3⟩ => by
  have e1 := blk_loc w w' (fun k hk' => hk k (by simp only [List.mem_singleton] at hk'; simp [hk'])) h1
  have e2 := blk_loc w w' (fun k hk' => hk k (by simp only [List.mem_singleton] at hk'; simp [hk'])) h2
  refine ⟨⟨e1.1, e2.1, h3⟩, fun k hk' => ?_⟩
  simp only [List.mem_cons, List.not_mem_nil, or_false] at hk'
  rcases hk' with rfl | rfl
  · exact e1.2 k (by simp)
  · exact e2.2 k (by simp)
theorem Mm.toLd {R : List Nat} {w0 w : World} {C : List Ent} {bc br : Nat} {u : Value} {K : List (Nat × Nat)} (M : Mm R w0 w (.blk br 64 (arr8 K).toArray :: .blk bc 50 #[u] :: C)) : Mm R w0 w (.own [bc, br] (LdV bc br u K) :: C) := by
  have hap := M.apart (i := 0) (j := 1) rfl rfl (by decide)
  refine Mm.recast (X := [.blk br 64 (arr8 K).toArray, .blk bc 50 #[u]]) (Y := [_]) M (fun y hy => ?_) (fun y hy q hq => ?_) (List.pairwise_singleton _ _) (fun y hy q hq => ?_)
  · rw [List.mem_singleton.1 hy]
    exact ⟨⟨M.at (i := 1) rfl, M.at (i := 0) rfl, fun e => hap br (by simp [Ent.fp]) (by simp [Ent.fp, e])⟩, LdV.loc _ _ _ _⟩
  · rw [List.mem_singleton.1 hy] at hq
    simp only [Ent.fp, List.mem_cons, List.not_mem_nil, or_false] at hq
    rcases hq with rfl | rfl
    · exact ⟨.blk q 50 #[u], by simp, by simp [Ent.fp]⟩
    · exact ⟨.blk q 64 (arr8 K).toArray, by simp, by simp [Ent.fp]⟩
  · rw [List.mem_singleton.1 hy] at hq; cases hq
def tkCells (u : Value) (Kc Kr : List (Nat × Nat)) (bc br : Nat) : Array Value := #[u, .pointer (pad Kc 0), .pointer (pad Kc 1), .pointer (pad Kc 2), .pointer (pad Kc 3), .pointer (pad Kc 4), .pointer (pad Kc 5), .pointer (pad Kc 6), .pointer (pad Kc 7), .pointer (pad Kr 0), .pointer (pad Kr 1), .pointer (pad Kr 2), .pointer (pad Kr 3), .pointer (pad Kr 4), .pointer (pad Kr 5), .pointer (pad Kr 6), .pointer (pad Kr 7), .func (.func 48) #[] #[.pointer (some ⟨bc, 0, none⟩), .pointer (some ⟨br, 0, none⟩)]]
def tkEnts (r : Nat) (u : Value) (ru : List Value) (su : List (List Value)) (L : List (List (List St))) (Kc : List (Nat × Nat)) (B : Bags) (Kr : List (Nat × Nat)) (Rb : Bags) (bc br : Nat) : List Ent :=
  [.blk r 68 (tkCells u Kc Kr bc br), .own (fp3 u ru su L) (Rd3 u ru su L), .own (fpK Kc) (BgsV Kc B), .own (fpK Kr) (BgsV Kr Rb), .own [bc, br] (LdV bc br u Kr)]
theorem tkEnts_base (r : Nat) (u : Value) (ru : List Value) (su : List (List Value)) (L : List (List (List St))) (Kc : List (Nat × Nat)) (B : Bags) (Kr : List (Nat × Nat)) (Rb : Bags) (bc br : Nat) : ∀ x ∈ tkEnts r u ru su L Kc B Kr Rb bc br, x.base = [] := fun x hx => by
  simp only [tkEnts, List.mem_cons, List.not_mem_nil, or_false] at hx
  rcases hx with rfl | rfl | rfl | rfl | rfl <;> rfl
def TrkV (r : Nat) (fp : List Nat) (L : List (List (List St))) (B : Bags) (w : World) : Prop :=
  ∃ u ru su Kc Kr Rb bc br, fp = fpE (tkEnts r u ru su L Kc B Kr Rb bc br) ∧ PkV (tkEnts r u ru su L Kc B Kr Rb bc br) w ∧ L.length = B.length ∧ Sm3 L ∧ Sm64 L ∧ InvR L B Rb
theorem TrkV.loc (r : Nat) (fp : List Nat) (L : List (List (List St))) (B : Bags) : Loc fp (TrkV r fp L B) := fun w w' hk ⟨u, ru, su, Kc, Kr, Rb, bc, br, e, h, h1, h2, h3, h4⟩ => by
  subst e
  have z := PkV.loc _ w w' hk h
  exact ⟨⟨u, ru, su, Kc, Kr, Rb, bc, br, rfl, z.1, h1, h2, h3, h4⟩, z.2⟩
theorem Mm.trkTurns {w0 w : World} {r : Nat} {u : Value} {ru : List Value} {su : List (List Value)} {L : List (List (List St))} {Kc Kr : List (Nat × Nat)} {B B' Rb Rb' : Bags} {bc br : Nat} {fp : List Nat} {v : Value} {Z : Value → Ent → Prop} (M : Mm fp w0 w (tkEnts r u ru su L Kc B' Kr Rb' bc br)) (e : fp = fpE (tkEnts r u ru su L Kc B Kr Rb bc br)) (hl : L.length = B'.length) (hs : Sm3 L) (h64 : Sm64 L) (hI : InvR L B' Rb') (hz : Z v (.own fp (TrkV r fp L B'))) :
    TurnsE w0 (.own fp (TrkV r fp L B)) Z (.returned v) w := by
  have e' : fp = fpE (tkEnts r u ru su L Kc B' Kr Rb' bc br) := e
  have hb := tkEnts_base r u ru su L Kc B' Kr Rb' bc br
  have hv : TrkV r fp L B' w := ⟨u, ru, su, Kc, Kr, Rb', bc, br, e', M.pkv hb, hl, hs, h64, hI⟩
  exact M.pkTurns rfl hb (Ψ := TrkV r fp L B') hv (e' ▸ TrkV.loc r fp L B') (e' ▸ hz)
theorem Mm.trkMakes {w0 w : World} {r : Nat} {u : Value} {ru : List Value} {su : List (List Value)} {L : List (List (List St))} {Kc Kr : List (Nat × Nat)} {B Rb : Bags} {bc br : Nat} {v : Value} {Z : Value → Ent → Prop} (M : Mm [] w0 w (tkEnts r u ru su L Kc B Kr Rb bc br)) (hl : L.length = B.length) (hs : Sm3 L) (h64 : Sm64 L) (hI : InvR L B Rb) (hz : ∀ fp, Z v (.own fp (TrkV r fp L B))) : MakesE w0 Z (.returned v) w :=
  M.pkMakes (Ψ := TrkV r (fpE (tkEnts r u ru su L Kc B Kr Rb bc br)) L B) ⟨u, ru, su, Kc, Kr, Rb, bc, br, rfl, M.pkv (tkEnts_base _ _ _ _ _ _ _ _ _ _ _), hl, hs, h64, hI⟩ (TrkV.loc _ _ _ _) (hz _)
section
variable {L : List (List (List St))} {R : Bags} {p : Po} {x i j : Int}
def leadP (L : List (List (List St))) (R : Bags) (p : Po) (x i j : Int) : Bags := (leadR L R p x i.toNat).set i.toNat (leadC (atK (leadR L R p x i.toNat) i.toNat) ((placesC L p i).take j.toNat) x)
theorem set_self {B : Bags} {k : Nat} : B.set k (atK B k) = B := by
  apply List.ext_getElem (by simp)
  intro a h1 h2
  rw [List.getElem_set]
  split
  · rename_i e; subst e; rw [atK_eq h2]
  · rfl
theorem leadP_zero : leadR L R p x i.toNat = leadP L R p x i 0 := by unfold leadP; simp [leadC, set_self]
theorem leadP_step (h0 : 0 ≤ j) (h : j < ((placesC L p i).length : Int)) (hi : i.toNat < R.length) : (leadP L R p x i j).set i.toNat (addC (atK (leadP L R p x i j) i.toNat) (atS (placesC L p i) j.toNat) x) = leadP L R p x i (j + 1) := by
  unfold leadP
  rw [atK_set (by rw [leadR_len]; exact hi), if_pos rfl, List.set_set, show (j + 1).toNat = j.toNat + 1 by omega, List.take_succ_eq_append_getElem (by omega), leadC_snoc, atS_eq (by omega)]
theorem leadP_end (h0 : 0 ≤ i) (hj : ¬ j < ((placesC L p i).length : Int)) : leadP L R p x i j = leadR L R p x (i + 1).toNat := by
  unfold leadP
  rw [List.take_of_length_le (by omega), show (i + 1).toNat = i.toNat + 1 by omega, leadR, show ((i.toNat : Nat) : Int) = i by omega]
end
end Go.Proofs.YtboinbmgndomhaaGreat
namespace Go.Proofs.YtboinbmgndomhaaGreat
open Go.RowKit
set_option maxRecDepth 100000
set_option linter.unusedSimpArgs false
set_option linter.unusedVariables false
structure RTrkV (r : Nat) (u bv : Value) (ru : List Value) (su : List (List Value)) (L : List (List (List St))) (Q : List RB) (w : World) : Prop where
  top : Blk w r 72 #[u, bv]
  clo : Rd3 u ru su L w
  row : RdP w bv (Q.map (·.1))
  bags : ObjsV fpRB RBV Q w
  a1 : ¬ r ∈ Q.flatMap fpRB
  a2 : ∀ g ∈ fp3 u ru su L, ¬ g ∈ Q.flatMap fpRB
  a3 : 0 < (Q.map (·.1)).length → ¬ gof bv ∈ Q.flatMap fpRB
  len : Q.length = L.length
  sm : Sm3 L
  s64 : Sm64 L
def fpR8 (r : Nat) (u bv : Value) (ru : List Value) (su : List (List Value)) (L : List (List (List St))) (Q : List RB) : List Nat := r :: (fp3 u ru su L ++ (fpN bv (Q.map (·.1)).length ++ Q.flatMap fpRB))
section
variable {r : Nat} {u bv : Value} {ru : List Value} {su : List (List Value)} {L : List (List (List St))} {Q : List RB} {w w' : World}
theorem RTrkV.loc (r : Nat) (u bv : Value) (ru : List Value) (su : List (List Value)) (L : List (List (List St))) (Q : List RB) : Loc (fpR8 r u bv ru su L Q) (RTrkV r u bv ru su L Q) := fun w w' hk h => by
  have h1 := blk_loc w w' (fun g hg => hk g (by simp only [List.mem_singleton] at hg; simp [fpR8, hg])) h.top
  have h2 := Rd3.loc u ru su L w w' (fun g hg => hk g (by simp [fpR8, hg])) h.clo
  have h3 := h.row.keep (w' := w') (fun g hg => hk g (by simp only [fpR8, List.mem_cons, List.mem_append]; exact .inr (.inr (.inl hg))))
  have h4 := ObjsV.loc RBV.loc Q w w' (fun g hg => hk g (by simp only [fpR8, List.mem_cons, List.mem_append]; exact .inr (.inr (.inr hg)))) h.bags
  refine ⟨⟨h1.1, h2.1, h3.1, h4.1, h.a1, h.a2, h.a3, h.len, h.sm, h.s64⟩, fun g hg => ?_⟩
  simp only [fpR8, List.mem_cons, List.mem_append] at hg
  rcases hg with rfl | hg | hg | hg
  · exact h1.2 _ (by simp)
  · exact h2.2 g hg
  · exact h3.2 g hg
  · exact h4.2 g hg
theorem RTrkV.turn (h : RTrkV r u bv ru su L Q w) {Z : Value → List RB → Prop} {e : Ending} (hz : ∀ v Q', Z v Q' → Q'.map (·.1) = Q.map (·.1))
    (ht : TurnsE w (.own (Q.flatMap fpRB) (ObjsV fpRB RBV Q)) (fun v x' => ∃ Q', Z v Q' ∧ x' = .own (Q'.flatMap fpRB) (ObjsV fpRB RBV Q')) e w') :
    TurnsE w (.own (fpR8 r u bv ru su L Q) (RTrkV r u bv ru su L Q)) (fun v x' => ∃ Q', Z v Q' ∧ x' = .own (fpR8 r u bv ru su L Q') (RTrkV r u bv ru su L Q')) e w' := by
  obtain ⟨v, x', h1, h2, h3, h4, h5, Q', h6, rfl⟩ := ht
  have hp := hz v Q' h6
  have hl : Q'.length = Q.length := by have := congrArg List.length hp; simpa using this
  have hr := (blk_loc w w (fun _ _ => rfl) h.top).2 r (by simp)
  have hc := (Rd3.loc u ru su L w w (fun _ _ => rfl) h.clo).2
  have hb := (h.row.keep (w' := w) (fun _ _ => rfl)).2
  have h4' : ∀ g ∈ Q'.flatMap fpRB, g ∈ Q.flatMap fpRB ∨ w.heap.size ≤ g := h4
  have keep : ∀ g, g < w.heap.size → ¬ g ∈ Q.flatMap fpRB → w'.heap[g]? = w.heap[g]? := fun g h7 h8 => h2.block g h7 h8
  have gb : ∀ g ∈ fpN bv (Q.map (·.1)).length, ¬ g ∈ Q.flatMap fpRB := fun g hg => by
    obtain ⟨h7, rfl⟩ := mem_fpN.1 hg; exact h.a3 h7
  refine ⟨v, .own (fpR8 r u bv ru su L Q') (RTrkV r u bv ru su L Q'), h1, h2.mono (fun g hg => by simp only [Ent.fp, fpR8, List.mem_cons, List.mem_append]; exact .inr (.inr (.inr hg))), ⟨⟨?_, ?_, ?_, h3.1, ?_, ?_, ?_, by rw [hl]; exact h.len, h.sm, h.s64⟩, RTrkV.loc _ _ _ _ _ _ _⟩, fun g hg => ?_, rfl, Q', h6, rfl⟩
  · exact (blk_loc w w' (fun g hg => by simp only [List.mem_singleton] at hg; subst hg; exact keep _ hr h.a1) h.top).1
  · exact (Rd3.loc u ru su L w w' (fun g hg => keep g (hc g hg) (h.a2 g hg)) h.clo).1
  · rw [hp]; exact (h.row.keep (w' := w') fun g hg => keep g (hb g hg) (gb g hg)).1
  · intro h7
    rcases h4' r h7 with h8 | h8
    · exact h.a1 h8
    · omega
  · intro g hg h7
    rcases h4' g h7 with h8 | h8
    · exact h.a2 g hg h8
    · have := hc g hg; omega
  · intro h9 h7
    rw [hp] at h9
    rcases h4' _ h7 with h8 | h8
    · exact h.a3 h9 h8
    · have := hb (gof bv) (mem_fpN.2 ⟨h9, rfl⟩); omega
  · simp only [Ent.fp, fpR8, List.mem_cons, List.mem_append] at hg ⊢
    rcases hg with hg | hg | hg | hg
    · exact .inl (.inl hg)
    · exact .inl (.inr (.inl hg))
    · rw [hp] at hg; exact .inl (.inr (.inr (.inl hg)))
    · rcases h4' g hg with h8 | h8
      · exact .inl (.inr (.inr (.inr h8)))
      · exact .inr h8
def atRV (Q : List RB) (k : Int) : Value := if 0 ≤ k ∧ k < (Q.length : Int) then (atO Q k.toNat).2.1 else .slice none 0 0
theorem RTrkV.rdAt (h : RTrkV r u bv ru su L Q w) (k : Int) : RdC w (atRV Q k) (atT (bagsR Q) k) := by
  unfold atRV atT
  rw [bagsR_len]
  split
  · rename_i hk
    rw [atK_bagsR]; exact objs_rd h.bags (by omega)
  · exact nil_rd w
theorem RTrkV.ok (h : RTrkV r u bv ru su L Q w) : OKs (bagsR Q) := fun i hi => by
  rw [bagsR_len] at hi
  rw [atK_bagsR]; exact (objs_ref h.bags hi).2.2
theorem RTrkV.mk_new {R : List Nat} {w0 : World} {B : List Ent} (M : Mm R w0 w B) {i j k l : Nat} {ty : TypeId} (hi : B[i]? = some (.blk r 72 #[u, bv])) (hj : B[j]? = some (.own (fp3 u ru su L) (Rd3 u ru su L))) (hk : B[k]? = some (.row ty 1 bv (Q.map (·.1)).length (cP (Q.map (·.1))))) (hl : B[l]? = some (.own (Q.flatMap fpRB) (ObjsV fpRB RBV Q)))
    (h1 : i ≠ l) (h2 : j ≠ l) (h3 : k ≠ l) (hlen : Q.length = L.length) (hs : Sm3 L) (h64 : Sm64 L) : RTrkV r u bv ru su L Q w :=
  ⟨M.at hi, M.pv hj, M.rv hk, M.pv hl, M.apart hi hl h1 r (by simp [Ent.fp]), M.apart hj hl h2, fun hn => M.apart hk hl h3 (gof bv) (by
    have := own_spot (M.ow hk) hn
    simp [Ent.fp, this.1]), hlen, hs, h64⟩
theorem row_fpN {R : List Nat} {w0 : World} {B : List Ent} (M : Mm R w0 w B) {k n : Nat} {ty : TypeId} {xs : List Value} (hk : B[k]? = some (.row ty 1 bv n xs)) {g : Nat} (hg : g ∈ fpN bv n) : g ∈ (Ent.row ty 1 bv n xs).fp := by
  have := own_fpN (M.ow hk) hg
  simp [Ent.fp, this]
end
theorem RTrkV.made {w0 w : World} {B : List Ent} {r : Nat} {u bv : Value} {ru : List Value} {su : List (List Value)} {L : List (List (List St))} {Q : List RB} {Bs : Bags} {i j k l : Nat} {ty : TypeId} (M : Mm [] w0 w B) (hi : B[i]? = some (.blk r 72 #[u, bv])) (hj : B[j]? = some (.own (fp3 u ru su L) (Rd3 u ru su L))) (hk : B[k]? = some (.row ty 1 bv (Q.map (·.1)).length (cP (Q.map (·.1))))) (hl : B[l]? = some (.own (Q.flatMap fpRB) (ObjsV fpRB RBV Q)))
    (h1 : i ≠ l) (h2 : j ≠ l) (h3 : k ≠ l) (hlen : Q.length = L.length) (hs : Sm3 L) (h64 : Sm64 L) (hb : bagsR Q = Bs) :
    MakesE w0 (fun v x => ∃ r u bv ru su Q, v = .tuple #[.pointer (some ⟨r, 0, none⟩), .int .i64 0] ∧ x = .own (fpR8 r u bv ru su L Q) (RTrkV r u bv ru su L Q) ∧ bagsR Q = Bs) (.returned (.tuple #[.pointer (some ⟨r, 0, none⟩), .int .i64 0])) w := by
  have new : ∀ (q : Nat) (x : Ent) (n : Nat), B[n]? = some x → q ∈ x.fp → w0.heap.size ≤ q := fun q x n hn hq => (M.own x (List.mem_of_getElem? hn) q hq).elim id (fun z => by cases z)
  refine ⟨_, .own (fpR8 r u bv ru su L Q) (RTrkV r u bv ru su L Q), rfl, M.bel, ⟨RTrkV.mk_new M hi hj hk hl h1 h2 h3 hlen hs h64, RTrkV.loc _ _ _ _ _ _ _⟩, fun q hq => ?_, rfl, r, u, bv, ru, su, Q, rfl, rfl, hb⟩
  simp only [Ent.fp, fpR8, List.mem_cons, List.mem_append] at hq
  rcases hq with rfl | hq | hq | hq
  · exact new _ _ i hi (by simp [Ent.fp])
  · exact new _ _ j hj hq
  · exact new _ _ k hk (row_fpN M hk hq)
  · exact new _ _ l hl hq
def RTk (r : Nat) (fp : List Nat) (L : List (List (List St))) (B : Bags) (w : World) : Prop := ∃ u bv ru su Q, fp = fpR8 r u bv ru su L Q ∧ RTrkV r u bv ru su L Q w ∧ bagsR Q = B
theorem RTk.loc (r : Nat) (fp : List Nat) (L : List (List (List St))) (B : Bags) : Loc fp (RTk r fp L B) := fun w w' hk ⟨u, bv, ru, su, Q, e, h, hb⟩ => by
  subst e
  have z := RTrkV.loc r u bv ru su L Q w w' hk h
  exact ⟨⟨u, bv, ru, su, Q, rfl, z.1, hb⟩, z.2⟩
def RTkA (k : Int) (v : Value) (r : Nat) (fp : List Nat) (L : List (List (List St))) (B : Bags) (w : World) : Prop := RTk r fp L B w ∧ RdC w v (atT B k) ∧ ∀ g ∈ fpN v (atT B k).length, g ∈ fp
theorem RTkA.loc (k : Int) (v : Value) (r : Nat) (fp : List Nat) (L : List (List (List St))) (B : Bags) : Loc fp (RTkA k v r fp L B) := fun w w' hk ⟨h1, h2, h3⟩ => by
  have z := RTk.loc r fp L B w w' hk h1
  exact ⟨⟨z.1, (h2.keep fun g hg => hk g (h3 g hg)).1, h3⟩, z.2⟩
theorem RTrkV.inAt {r : Nat} {u bv : Value} {ru : List Value} {su : List (List Value)} {L : List (List (List St))} {Q : List RB} {w : World} (h : RTrkV r u bv ru su L Q w) (k : Int) : ∀ g ∈ fpN (atRV Q k) (atT (bagsR Q) k).length, g ∈ fpR8 r u bv ru su L Q := fun g hg => by
  unfold atRV atT at hg
  rw [bagsR_len] at hg
  split at hg
  · rename_i hk
    rw [atK_bagsR] at hg
    have h1 := (objs_ref h.bags (i := k.toNat) (by omega)).2.1
    have h2 := own_fpN h1 hg
    simp only [fpR8, List.mem_cons, List.mem_append]
    refine .inr (.inr (.inr (List.mem_flatMap.2 ⟨atO Q k.toNat, by rw [atO_eq (by omega)]; exact List.getElem_mem _, ?_⟩)))
    simp [fpRB, h2]
  · obtain ⟨h0, _⟩ := mem_fpN.1 hg; simp at h0
section
variable {L : List (List (List St))} {B : Bags} {k : Int}
def gath (L : List (List (List St))) (B : Bags) (k : Int) (i j : Nat) : List St := (List.range i).flatMap (fun m => nodePl L B k m) ++ (posL ((atK B i).take j)).flatMap fun t => placesC L ⟨(i : Int), t⟩ k
theorem gath_zero : [] = gath L B k (0 : Int).toNat (0 : Int).toNat := by simp [gath, posL]
theorem gath_yes {i j : Int} (h0 : 0 ≤ j) (h : j < ((atK B i.toNat).length : Int)) (hi : 0 ≤ i) (hp : 0 < (atC (atK B i.toNat) j.toNat).2) : gath L B k i.toNat j.toNat ++ placesC L ⟨i, (atC (atK B i.toNat) j.toNat).1⟩ k = gath L B k i.toNat (j + 1).toNat := by
  unfold gath
  rw [pos_yes h0 h hp, List.flatMap_append, List.append_assoc]
  simp only [List.flatMap_cons, List.flatMap_nil, List.append_nil]
  rw [show ((i.toNat : Nat) : Int) = i by omega]
theorem gath_no {i j : Int} (h0 : 0 ≤ j) (h : j < ((atK B i.toNat).length : Int)) (hp : ¬ 0 < (atC (atK B i.toNat) j.toNat).2) : gath L B k i.toNat j.toNat = gath L B k i.toNat (j + 1).toNat := by
  unfold gath; rw [pos_no h0 h hp]
theorem gath_next {i j : Int} (h0 : 0 ≤ i) (h : ¬ j < ((atK B i.toNat).length : Int)) : gath L B k i.toNat j.toNat = gath L B k (i + 1).toNat (0 : Int).toNat := by
  unfold gath
  rw [List.take_of_length_le (by omega), show (i + 1).toNat = i.toNat + 1 by omega, List.range_succ, List.flatMap_append]
  simp [posL, nodePl]
theorem gath_end {i : Int} (h0 : i = (B.length : Int)) : gath L B k i.toNat (0 : Int).toNat = allPl L B k := by
  unfold gath allPl
  rw [show i.toNat = B.length by omega]; simp [posL]
theorem node_le {i : Nat} {m : Nat} (hs : Sm64 L) (hb : SmB B m) : (nodePl L B k i).length ≤ m * 64 := by
  unfold nodePl
  refine Nat.le_trans (flat_le fun t _ => places_64 hs) (Nat.mul_le_mul_right _ (Nat.le_trans (posL_len _) (hb i)))
theorem gath_len {i j : Nat} (hs : Sm64 L) (hb : SmB B 1000) (hi : i ≤ 8) : (gath L B k i j).length ≤ 600000 := by
  unfold gath
  rw [List.length_append]
  have h1 : ((List.range i).flatMap fun m => nodePl L B k m).length ≤ (List.range i).length * (1000 * 64) := flat_le fun a _ => node_le hs hb
  have h2 : ((posL ((atK B i).take j)).flatMap fun t => placesC L ⟨(i : Int), t⟩ k).length ≤ (posL ((atK B i).take j)).length * 64 := flat_le fun t _ => places_64 hs
  have h3 := posL_len ((atK B i).take j)
  have h4 := hb i
  rw [List.length_take] at h3
  rw [List.length_range] at h1
  have h5 : i * (1000 * 64) ≤ 8 * (1000 * 64) := Nat.mul_le_mul_right _ hi
  omega
end
end Go.Proofs.YtboinbmgndomhaaGreat
