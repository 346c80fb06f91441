/- One reliable broadcast, as one worker sees it; mathematics of layer 14. Any seat with layer 14 in it. -/
import Derived.Test.YtcobpabmmbcjcaaJ2
namespace Go.Proofs.Ytcobpabmmbcjcaa
open Go.RowKit
set_option maxRecDepth 100000
set_option linter.unusedSimpArgs false
set_option linter.unusedVariables false
abbrev Tx := List UInt8
def ltT : Tx → Tx → Bool
  | [], [] => false
  | [], _ :: _ => true
  | _ :: _, [] => false
  | a :: r, b :: s => decide (a < b) || (decide (a = b) && ltT r s)
def cntT (n : Int) (g : Int → Option Tx) (t : Tx) : Nat := ((rngI n).filter fun k => decide (g k = some t)).length
structure Cs where
  n : Int
  f : Int
  ec : Int → Option Tx
  rd : Int → Option Tx
  i1 : Option Tx
  two : Bool
  rt : Option Tx
  dn : Option Tx
def manyI (S : Cs) : Int := (S.n + S.f) / 2 + 1
def okT (S : Cs) (t : Tx) : Bool := decide (manyI S ≤ (cntT S.n S.ec t : Int) ∨ S.f + 1 ≤ (cntT S.n S.rd t : Int))
def dlT (S : Cs) (t : Tx) : Bool := decide (2 * S.f + 1 ≤ (cntT S.n S.rd t : Int))
def txsT (S : Cs) : List Tx := (rngI S.n).filterMap S.ec ++ (rngI S.n).filterMap S.rd
def leastT (p : Tx → Bool) : List Tx → Option Tx
  | [] => none
  | t :: r => if p t = true then (match leastT p r with | none => some t | some u => some (if ltT u t then u else t)) else leastT p r
def putT (g : Int → Option Tx) (k : Int) (t : Tx) : Int → Option Tx := fun x => if x = k ∧ g k = none then some t else g x
def rcvS (S : Cs) (kind frm : Int) (t : Tx) : Cs :=
  if kind = 1 then { S with i1 := some (S.i1.getD t), two := S.two || decide (S.i1.getD t ≠ t) }
  else if kind = 2 then { S with ec := putT S.ec frm t } else { S with rd := putT S.rd frm t }
def rdyT (S : Cs) : Option Tx := if S.rt.isSome then none else leastT (okT S) (txsT S)
def finS (S : Cs) : Cs := { S with rt := if S.rt.isSome then S.rt else leastT (okT S) (txsT S), dn := if S.dn.isSome then S.dn else leastT (dlT S) (txsT S) }
def badT (S : Cs) (kind frm : Int) : Bool := !decide ((0 ≤ frm ∧ frm < S.n) ∧ (1 ≤ kind ∧ kind ≤ 3))
def takeS (S : Cs) (kind frm : Int) (t : Tx) : Cs := if badT S kind frm then S else finS (rcvS S kind frm t)
def echoF (S : Cs) (kind : Int) (t : Tx) : List (Int × Tx) := if kind = 1 ∧ S.i1 = none then [(2, t)] else []
def readyF (S : Cs) : List (Int × Tx) := match rdyT S with | some t => [(3, t)] | none => []
def tellF (S : Cs) (kind frm : Int) (t : Tx) : List (Int × Tx) := if badT S kind frm then [] else echoF S kind t ++ readyF (rcvS S kind frm t)
def cnewS (n f : Int) : Cs := ⟨n, f, fun _ => none, fun _ => none, none, false, none, none⟩
section
variable {S : Cs} {kind frm n f k x : Int} {t u : Tx} {p : Tx → Bool} {l : List Tx} {g : Int → Option Tx}
theorem least_some (h : leastT p l = some t) : p t = true ∧ t ∈ l := by
  induction l generalizing t with
  | nil => cases h
  | cons a r ih =>
    unfold leastT at h
    split at h
    · rename_i hp
      split at h
      · injection h with h; subst h; exact ⟨hp, by simp⟩
      · rename_i u hu
        injection h with h
        have := ih hu
        split at h
        · subst h; exact ⟨this.1, by simp [this.2]⟩
        · subst h; exact ⟨hp, by simp⟩
    · have := ih h; exact ⟨this.1, by simp [this.2]⟩
theorem least_none (h : leastT p l = none) : ∀ t ∈ l, p t = false := by
  induction l with
  | nil => intro t ht; cases ht
  | cons a r ih =>
    unfold leastT at h
    split at h
    · split at h <;> cases h
    · rename_i hp
      intro t ht
      rcases List.mem_cons.1 ht with rfl | ht
      · simpa using hp
      · exact ih h t ht
theorem put_at : putT g k t k = some ((g k).getD t) := by
  unfold putT
  cases h : g k with
  | none => rw [if_pos ⟨rfl, rfl⟩]; rfl
  | some u => exact if_neg (by simp)
theorem put_ne (h : x ≠ k) : putT g k t x = g x := by unfold putT; rw [if_neg (fun z => h z.1)]
theorem put_keep (h : g x = some u) : putT g k t x = some u := by
  unfold putT
  split
  · rename_i z; rw [z.1, z.2] at h; cases h
  · exact h
theorem put_some (h : putT g k t x = some u) : g x = some u ∨ (x = k ∧ u = t ∧ g k = none) := by
  unfold putT at h
  split at h
  · rename_i z; injection h with h; exact .inr ⟨z.1, h.symm, z.2⟩
  · exact .inl h
theorem cnt_mono {g' : Int → Option Tx} (h : ∀ k u, g k = some u → g' k = some u) (t : Tx) : cntT n g t ≤ cntT n g' t := by
  unfold cntT
  have : ∀ l : List Int, (l.filter fun k => decide (g k = some t)).length ≤ (l.filter fun k => decide (g' k = some t)).length := by
    intro l
    induction l with
    | nil => simp
    | cons a r ih =>
      rw [List.filter_cons, List.filter_cons]
      by_cases e : g a = some t
      · rw [if_pos (by simpa using e), if_pos (by simpa using h a t e)]; simp only [List.length_cons]; omega
      · rw [if_neg (by simpa using e)]; split
        · simp only [List.length_cons]; omega
        · exact ih
  exact this _
theorem cnt_pos (h : 0 < cntT n g t) : ∃ k, (0 ≤ k ∧ k < n) ∧ g k = some t := by
  unfold cntT at h
  obtain ⟨k, hk⟩ := List.exists_mem_of_length_pos h
  obtain ⟨h1, h2⟩ := List.mem_filter.1 hk
  exact ⟨k, mem_rng.1 h1, by simpa using h2⟩
theorem cnt_txs (h : 0 < cntT S.n S.ec t ∨ 0 < cntT S.n S.rd t) : t ∈ txsT S := by
  unfold txsT
  rw [List.mem_append, List.mem_filterMap, List.mem_filterMap]
  rcases h with h | h
  · obtain ⟨k, hk, e⟩ := cnt_pos h; exact .inl ⟨k, mem_rng.2 hk, e⟩
  · obtain ⟨k, hk, e⟩ := cnt_pos h; exact .inr ⟨k, mem_rng.2 hk, e⟩
theorem filter_le (p q : Int → Bool) (l : List Int) (h : ∀ k ∈ l, p k = true → q k = true) : (l.filter p).length ≤ (l.filter q).length := by
  induction l with
  | nil => simp
  | cons a r ih =>
    have hi := ih fun k hk => h k (by simp [hk])
    rw [List.filter_cons, List.filter_cons]
    cases hp : p a with
    | true => rw [if_pos rfl, if_pos (h a (by simp) hp)]; simp only [List.length_cons]; omega
    | false => rw [if_neg (by simp)]; split
               · simp only [List.length_cons]; omega
               · exact hi
theorem filter_and (p q : Int → Bool) (l : List Int) : (l.filter p).length + (l.filter q).length ≤ l.length + (l.filter fun k => p k && q k).length := by
  induction l with
  | nil => simp
  | cons a r ih =>
    simp only [List.filter_cons]
    cases p a <;> cases q a <;> simp <;> omega
theorem filter_split (p q : Int → Bool) (l : List Int) : (l.filter p).length ≤ (l.filter fun k => p k && q k).length + (l.filter fun k => p k && !q k).length := by
  induction l with
  | nil => simp
  | cons a r ih =>
    simp only [List.filter_cons]
    cases p a <;> cases q a <;> simp <;> omega
theorem low_count (n f : Int) (hf : 0 ≤ f) : ((rngI n).filter fun k => decide (k < f)).length ≤ f.toNat := by
  have hs : ((rngI n).filter fun k => decide (k < f)).length ≤ (rngI f).length := by
    have h1 : ((rngI n).filter fun k => decide (k < f)).Nodup := (rng_nodup n).filter _
    have h2 : ∀ a ∈ (rngI n).filter fun k => decide (k < f), 0 ≤ a ∧ a < ((f.toNat : Nat) : Int) := fun a ha => by
      obtain ⟨h3, h4⟩ := List.mem_filter.1 ha
      have := mem_rng.1 h3
      simp only [decide_eq_true_eq] at h4
      omega
    have := int_leC f.toNat _ h1 h2
    rw [rng_len]; exact this
  rwa [rng_len] at hs
theorem honest_one (hf : 0 ≤ f) {p : Int → Bool} (h : f < (((rngI n).filter p).length : Int)) : ∃ k, (f ≤ k ∧ k < n) ∧ 0 ≤ k ∧ p k = true := by
  have h1 := filter_split p (fun k => decide (k < f)) (rngI n)
  have h2 : ((rngI n).filter fun k => p k && decide (k < f)).length ≤ f.toNat := Nat.le_trans (filter_le _ _ _ fun k _ hk => (by simp only [Bool.and_eq_true] at hk; exact hk.2)) (low_count n f hf)
  have h3 : 0 < ((rngI n).filter fun k => p k && !decide (k < f)).length := by omega
  obtain ⟨k, hk⟩ := List.exists_mem_of_length_pos h3
  obtain ⟨h4, h5⟩ := List.mem_filter.1 hk
  have := mem_rng.1 h4
  simp only [Bool.and_eq_true, Bool.not_eq_true', decide_eq_false_iff_not] at h5
  exact ⟨k, by omega, by omega, h5.1⟩
theorem quorums_meet (hf : 0 ≤ f) (hn : 0 ≤ n) {g g' : Int → Option Tx} (h1 : (n + f) / 2 + 1 ≤ (cntT n g t : Int)) (h2 : (n + f) / 2 + 1 ≤ (cntT n g' u : Int)) : ∃ k, (f ≤ k ∧ k < n) ∧ g k = some t ∧ g' k = some u := by
  have h3 := filter_and (fun k => decide (g k = some t)) (fun k => decide (g' k = some u)) (rngI n)
  rw [rng_len] at h3
  unfold cntT at h1 h2
  obtain ⟨k, hk, _, h4⟩ := honest_one (n := n) hf (p := fun k => decide (g k = some t) && decide (g' k = some u)) (by omega)
  simp only [Bool.and_eq_true, decide_eq_true_eq] at h4
  exact ⟨k, hk, h4.1, h4.2⟩
theorem high_count (hf : 0 ≤ f) (hfn : f ≤ n) {p : Int → Bool} (h : ∀ k, f ≤ k → k < n → p k = true) : n - f ≤ (((rngI n).filter p).length : Int) := by
  have h1 := filter_split (fun _ => true) (fun k => decide (k < f)) (rngI n)
  rw [List.filter_eq_self.2 (fun _ _ => rfl), rng_len] at h1
  have h2 : ((rngI n).filter fun k => true && decide (k < f)).length ≤ f.toNat := Nat.le_trans (filter_le _ _ _ fun k _ hk => (by simpa using hk)) (low_count n f hf)
  have h3 : ((rngI n).filter fun k => true && !decide (k < f)).length ≤ ((rngI n).filter p).length := filter_le _ _ _ fun k hk hk2 => (by
    have := mem_rng.1 hk
    simp only [Bool.true_and, Bool.not_eq_true', decide_eq_false_iff_not] at hk2
    exact h k (by omega) this.2)
  omega
end
theorem lt_irr : ∀ a : Tx, ltT a a = false
  | [] => rfl
  | a :: r => by unfold ltT; rw [lt_irr r]; simp
theorem lt_tri : ∀ a b : Tx, ltT a b = true ∨ a = b ∨ ltT b a = true
  | [], [] => .inr (.inl rfl)
  | [], _ :: _ => .inl rfl
  | _ :: _, [] => .inr (.inr rfl)
  | a :: r, b :: s => by
    unfold ltT
    rcases (show a < b ∨ a = b ∨ b < a by
      rcases Nat.lt_trichotomy a.toNat b.toNat with h | h | h
      · exact .inl (UInt8.lt_iff_toNat_lt.2 h)
      · exact .inr (.inl (UInt8.toNat_inj.1 h))
      · exact .inr (.inr (UInt8.lt_iff_toNat_lt.2 h))) with h | h | h
    · left; simp [h]
    · subst h
      rcases lt_tri r s with q | q | q
      · left; simp [q]
      · right; left; rw [q]
      · right; right; simp [q]
    · right; right; simp [h]
theorem lt_trans : ∀ {a b c : Tx}, ltT a b = true → ltT b c = true → ltT a c = true
  | [], [], _, h, _ => by simp [ltT] at h
  | [], _ :: _, [], _, h => by simp [ltT] at h
  | [], _ :: _, _ :: _, _, _ => rfl
  | _ :: _, [], _, h, _ => by simp [ltT] at h
  | _ :: _, _ :: _, [], _, h => by simp [ltT] at h
  | a :: r, b :: s, c :: t, h1, h2 => by
    unfold ltT at h1 h2 ⊢
    simp only [Bool.or_eq_true, Bool.and_eq_true, decide_eq_true_eq] at h1 h2 ⊢
    rcases h1 with h1 | ⟨rfl, h1⟩
    · rcases h2 with h2 | ⟨rfl, h2⟩
      · left; exact UInt8.lt_trans h1 h2
      · left; exact h1
    · rcases h2 with h2 | ⟨rfl, h2⟩
      · left; exact h2
      · right; exact ⟨rfl, lt_trans h1 h2⟩
theorem lt_asym {a b : Tx} (h : ltT a b = true) : ltT b a = false := by
  cases hb : ltT b a with
  | false => rfl
  | true => have := lt_trans h hb; rw [lt_irr] at this; cases this
section
variable {p : Tx → Bool} {l : List Tx} {t : Tx}
theorem least_min (h : leastT p l = some t) : ∀ u ∈ l, p u = true → ltT u t = false := by
  induction l generalizing t with
  | nil => intro u hu; cases hu
  | cons a r ih =>
    intro u hu hp
    unfold leastT at h
    split at h
    · split at h
      · rename_i hn
        injection h with h; subst h
        rcases List.mem_cons.1 hu with rfl | hu
        · exact lt_irr _
        · rw [least_none hn u hu] at hp; cases hp
      · rename_i v hv
        injection h with h
        have hm := ih hv
        split at h
        · rename_i hlt
          subst h
          rcases List.mem_cons.1 hu with rfl | hu
          · exact lt_asym hlt
          · exact hm u hu hp
        · rename_i hlt
          subst h
          rcases List.mem_cons.1 hu with hu2 | hu2
          · rw [hu2]; exact lt_irr _
          · have hm2 := hm u hu2 hp
            cases hua : ltT u a with
            | false => rfl
            | true =>
              rcases lt_tri v a with q | q | q
              · exact absurd q hlt
              · rw [q, hua] at hm2; cases hm2
              · rw [lt_trans hua q] at hm2; cases hm2
    · rename_i hpa
      rcases List.mem_cons.1 hu with rfl | hu
      · exact absurd hp hpa
      · exact ih h u hu hp
end
end Go.Proofs.Ytcobpabmmbcjcaa
