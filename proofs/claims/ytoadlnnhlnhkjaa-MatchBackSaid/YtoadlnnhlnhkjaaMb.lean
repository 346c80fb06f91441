/- What is written off, and what is taken back; mathematics of layer 12's laws. Any seat with layer 12 in it. -/
import Derived.Test.YtoadlnnhlnhkjaaMa
import Derived.Laws.Entries
namespace Go.Proofs.Ytoadlnnhlnhkjaa
open Go.RowKit
set_option maxRecDepth 100000
set_option linter.unusedSimpArgs false
set_option linter.unusedVariables false

def totM (L : List Ct) : Int := (L.map (·.2)).sum
section
variable {C : Lanes} {k j : Ln} {v w : Int} {x : En} {p q : Po}
theorem okl_off (h : OKL C) (w : Int) : OKL (offC C w) := ⟨h.nd.filter _, fun q hq => h.ge q (List.mem_filter.1 hq).1, fun q hq => h.le q (List.mem_filter.1 hq).1⟩
theorem off_len : (offC C w).length ≤ C.length := List.length_filter_le _ _
theorem opn_off (h : OKL C) : opn (offC C w) k = if touchB w k = true then 0 else opn C k := by
  by_cases e : touchB w k = true
  · rw [if_pos e]
    unfold opn
    rw [getM_none (fun q hq z => by
      have := (List.mem_filter.1 hq).2
      rw [z, e] at this; cases this)]; rfl
  · rw [if_neg e]
    unfold opn
    cases hg : getM C k with
    | some v => rw [getM_some (okl_off h w).nd (List.mem_filter.2 ⟨getM_mem hg, by simp [e]⟩)]
    | none =>
      rw [getM_none]
      intro q hq z
      have hm := (List.mem_filter.1 hq).1
      have : getM C k = some q.2 := getM_some h.nd (by rw [← z]; exact hm)
      rw [hg] at this; cases this
/-! ### The points of what is written off -/
theorem aheadP_iff : aheadP p q = true ↔ p.n < q.n ∨ (p.n = q.n ∧ p.t.aheadB q.t = true) := by
  unfold aheadP; simp
theorem mem_insP {l : List Po} : q ∈ insP p l ↔ q = p ∨ q ∈ l := by
  induction l with
  | nil => simp [insP]
  | cons a r ih =>
    unfold insP
    split
    · rw [List.mem_cons, ih, List.mem_cons]
      constructor
      · rintro (h | h | h)
        · exact .inr (.inl h)
        · exact .inl h
        · exact .inr (.inr h)
      · rintro (h | h | h)
        · exact .inr (.inl h)
        · exact .inl h
        · exact .inr (.inr h)
    · split
      · rename_i e; subst e; simp
      · simp
def AscP (l : List Po) : Prop := l.Pairwise fun a b => aheadP a b = true
theorem aheadP_trans {a b c : Po} (h1 : aheadP a b = true) (h2 : aheadP b c = true) : aheadP a c = true := by
  rw [aheadP_iff] at *
  rcases h1 with h1 | ⟨h1, h3⟩ <;> rcases h2 with h2 | ⟨h2, h4⟩
  · left; omega
  · left; omega
  · left; omega
  · right; exact ⟨by omega, ahead_trans h3 h4⟩
theorem aheadP_tri {a b : Po} (h1 : aheadP a b = false) (h2 : ¬ a = b) : aheadP b a = true := by
  have n1 : ¬ (a.n < b.n ∨ (a.n = b.n ∧ a.t.aheadB b.t = true)) := fun z => by rw [aheadP_iff.2 z] at h1; cases h1
  rw [aheadP_iff]
  by_cases e : a.n = b.n
  · right
    refine ⟨e.symm, ?_⟩
    cases hb : b.t.aheadB a.t with
    | true => rfl
    | false =>
      have ha : a.t.aheadB b.t = false := by cases h : a.t.aheadB b.t with | false => rfl | true => exact absurd (.inr ⟨e, h⟩) n1
      have := ahead_tri ha hb
      exact absurd (by cases a; cases b; simp_all) h2
  · left; omega
theorem ins_asc {l : List Po} (h : AscP l) (p : Po) : AscP (insP p l) := by
  induction l with
  | nil => exact List.pairwise_singleton _ _
  | cons a r ih =>
    obtain ⟨h1, h2⟩ := List.pairwise_cons.1 h
    unfold insP
    split
    · rename_i hp
      refine List.pairwise_cons.2 ⟨fun b hb => ?_, ih h2⟩
      rcases mem_insP.1 hb with rfl | hb
      · exact hp
      · exact h1 b hb
    · rename_i hp
      split
      · exact h
      · rename_i hne
        have hpa : aheadP p a = true := aheadP_tri (by simpa using hp) hne
        refine List.pairwise_cons.2 ⟨fun b hb => ?_, h⟩
        rcases List.mem_cons.1 hb with rfl | hb
        · exact hpa
        · exact aheadP_trans hpa (h1 b hb)
theorem offP_asc (C : Lanes) (w : Int) : AscP (offP C w) := by
  unfold offP
  induction (C.filter fun q => touchB w q.1 && decide (q.2 ≠ 0)).map (·.1.p) with
  | nil => exact List.Pairwise.nil
  | cons a r ih => exact ins_asc ih a
theorem mem_offP : p ∈ offP C w ↔ ∃ q ∈ C, touchB w q.1 = true ∧ q.2 ≠ 0 ∧ q.1.p = p := by
  have : ∀ l : List Po, p ∈ l.foldr insP [] ↔ p ∈ l := by
    intro l
    induction l with
    | nil => simp
    | cons a r ih => rw [List.foldr_cons, mem_insP, ih, List.mem_cons]
  unfold offP
  rw [this, List.mem_map]
  constructor
  · rintro ⟨q, hq, rfl⟩
    obtain ⟨h1, h2⟩ := List.mem_filter.1 hq
    simp only [Bool.and_eq_true, decide_eq_true_eq] at h2
    exact ⟨q, h1, h2.1, h2.2, rfl⟩
  · rintro ⟨q, hq, h1, h2, rfl⟩
    exact ⟨q, List.mem_filter.2 ⟨hq, by simp [h1, h2]⟩, rfl⟩
theorem offP_nodup (C : Lanes) (w : Int) : (offP C w).Pairwise (· ≠ ·) := (offP_asc C w).imp fun {a b} h e => by
  subst e
  rw [aheadP_iff] at h
  rcases h with h | ⟨_, h⟩
  · omega
  · rw [ahead_irr] at h; cases h
theorem sumAt_nonneg (h : OKL C) (w : Int) (p : Po) : 0 ≤ sumAtL C w p := by
  unfold sumAtL
  have : ∀ l : Lanes, (∀ q ∈ l, 0 ≤ q.2) → 0 ≤ (l.map (·.2)).sum := by
    intro l
    induction l with
    | nil => intro _; simp
    | cons a r ih => intro hq; have h1 := hq a (by simp); have h2 := ih fun q h => hq q (by simp [h]); simp only [List.map_cons, List.sum_cons]; omega
  exact this _ fun q hq => h.ge q (List.mem_filter.1 hq).1
theorem sumAt_cons {a : Ln × Int} {r : Lanes} : sumAtL (a :: r) w p = (if touchB w a.1 = true ∧ a.1.p = p then a.2 else 0) + sumAtL r w p := by
  unfold sumAtL
  rw [List.filter_cons]
  by_cases e : touchB w a.1 = true ∧ a.1.p = p
  · rw [if_pos (by simp [e.1, e.2]), if_pos e]; simp
  · rw [if_neg (by simpa using e), if_neg e]; simp
theorem okl_tail {a : Ln × Int} {r : Lanes} (h : OKL (a :: r)) : OKL r := ⟨(List.pairwise_cons.1 h.nd).2, fun q hq => h.ge q (by simp [hq]), fun q hq => h.le q (by simp [hq])⟩
theorem sumAt_ge (h : OKL C) {q : Ln × Int} (hq : q ∈ C) (ht : touchB w q.1 = true) : q.2 ≤ sumAtL C w q.1.p := by
  induction C with
  | nil => cases hq
  | cons a r ih =>
    rw [sumAt_cons]
    have hn := sumAt_nonneg (okl_tail h) w q.1.p
    rcases List.mem_cons.1 hq with rfl | hr
    · rw [if_pos ⟨ht, rfl⟩]; omega
    · have := ih (okl_tail h) hr
      have h0 := h.ge a (by simp)
      split <;> omega
theorem off_pos (h : OKL C) : ∀ c ∈ offL C w, 0 < c.2 := fun c hc => by
  obtain ⟨p, hp, rfl⟩ := List.mem_map.1 hc
  obtain ⟨q, hq, ht, h0, rfl⟩ := mem_offP.1 hp
  have h1 := sumAt_ge h hq ht
  have h2 := h.ge q hq
  show 0 < sumAtL C w q.1.p
  omega
/-- The sum over points, each once, that hold all that touches. -/
theorem sum_points (P : List Po) (hn : P.Pairwise (· ≠ ·)) (C : Lanes) : (P.map fun p => sumAtL C w p).sum = ((C.filter fun q => touchB w q.1 && decide (q.1.p ∈ P)).map (·.2)).sum := by
  induction C with
  | nil => simp [sumAtL]; induction P with
    | nil => rfl
    | cons a r ih => simpa using ih (List.pairwise_cons.1 hn).2
  | cons a r ih =>
    have h1 : (P.map fun p => sumAtL (a :: r) w p).sum = (P.map fun p => if touchB w a.1 = true ∧ a.1.p = p then a.2 else 0).sum + (P.map fun p => sumAtL r w p).sum := by
      simp only [sumAt_cons]
      clear ih hn
      induction P with
      | nil => rfl
      | cons b s ih => simp only [List.map_cons, List.sum_cons, ih]; omega
    have h2 : (P.map fun p => if touchB w a.1 = true ∧ a.1.p = p then a.2 else 0).sum = if touchB w a.1 = true ∧ a.1.p ∈ P then a.2 else 0 := by
      clear ih h1
      induction P with
      | nil => simp
      | cons b s ih =>
        obtain ⟨n1, n2⟩ := List.pairwise_cons.1 hn
        rw [List.map_cons, List.sum_cons, ih n2]
        by_cases ht : touchB w a.1 = true
        · by_cases hb : a.1.p = b
          · have : ¬ a.1.p ∈ s := fun z => n1 _ (hb ▸ z) rfl
            rw [if_pos ⟨ht, hb⟩, if_neg (fun z => this z.2), if_pos ⟨ht, by rw [hb]; simp⟩]; omega
          · rw [if_neg (fun z => hb z.2)]
            by_cases hs : a.1.p ∈ s
            · rw [if_pos ⟨ht, hs⟩, if_pos ⟨ht, by simp [hs]⟩]; omega
            · rw [if_neg (fun z => hs z.2), if_neg (fun z => by simp [hb, hs] at z)]; omega
        · rw [if_neg (fun z => ht z.1), if_neg (fun z => ht z.1), if_neg (fun z => ht z.1)]; omega
    rw [h1, h2, ih, List.filter_cons]
    by_cases e : touchB w a.1 = true ∧ a.1.p ∈ P
    · rw [if_pos e, if_pos (by simp [e.1, e.2])]; simp
    · rw [if_neg e, if_neg (by simpa using e)]; omega
theorem tot_off (h : OKL C) : totM (offL C w) = allL C - allL (offC C w) := by
  have h1 : totM (offL C w) = ((offP C w).map fun p => sumAtL C w p).sum := by
    unfold totM offL; rw [List.map_map]; rfl
  rw [h1, sum_points _ (offP_nodup C w)]
  have : ∀ (l : Lanes) (P : List Po), (∀ q ∈ l, touchB w q.1 = true → q.2 ≠ 0 → q.1.p ∈ P) → ((l.filter fun q => touchB w q.1 && decide (q.1.p ∈ P)).map (·.2)).sum + allL (offC l w) = allL l := by
    intro l P
    induction l with
    | nil => intro _; rfl
    | cons a r ih =>
      intro hq
      have hi := ih fun q h => hq q (by simp [h])
      have ha := hq a (by simp)
      simp only [allL, offC, List.filter_cons, List.map_cons, List.sum_cons] at hi ⊢
      by_cases ht : touchB w a.1 = true
      · by_cases hp : a.1.p ∈ P
        · rw [if_pos (by simp [ht, hp]), if_neg (by simp [ht])]; simp only [List.map_cons, List.sum_cons]; omega
        · have h0 : a.2 = 0 := Decidable.byContradiction fun z => hp (ha ht z)
          rw [if_neg (by simp [hp]), if_neg (by simp [ht])]; omega
      · rw [if_neg (by simp [ht]), if_pos (by simp [ht])]; simp only [List.map_cons, List.sum_cons]; omega
  have := this C (offP C w) fun q hq ht h0 => mem_offP.2 ⟨q, hq, ht, h0, rfl⟩
  omega
theorem off_again : offL (offC C w) w = [] := by
  have : offP (offC C w) w = [] := by
    rw [List.eq_nil_iff_forall_not_mem]
    intro p hp
    obtain ⟨q, hq, ht, _⟩ := mem_offP.1 hp
    have := (List.mem_filter.1 hq).2
    rw [ht] at this; cases this
  unfold offL; rw [this]; rfl
theorem offP_len : (offP C w).length ≤ C.length := by
  have : ∀ l : List Po, (l.foldr insP []).length ≤ l.length := by
    have h1 : ∀ (p : Po) (l : List Po), (insP p l).length ≤ l.length + 1 := by
      intro p l
      induction l with
      | nil => simp [insP]
      | cons a r ih => unfold insP; split <;> (try split) <;> simp <;> omega
    intro l
    induction l with
    | nil => simp
    | cons a r ih => have := h1 a (r.foldr insP []); simp only [List.foldr_cons, List.length_cons]; omega
  unfold offP
  have h2 := this ((C.filter fun q => touchB w q.1 && decide (q.2 ≠ 0)).map (·.1.p))
  rw [List.length_map] at h2
  exact Nat.le_trans h2 (List.length_filter_le _ _)
theorem offL_len : (offL C w).length ≤ C.length := by unfold offL; rw [List.length_map]; exact offP_len
/-- The sum of the first i of what was written off. -/
theorem tot_zero {L : List Ct} : totM (L.take (0 : Int).toNat) = 0 := by simp [totM]
theorem tot_step {L : List Ct} {i : Int} (h0 : 0 ≤ i) (h : i < (L.length : Int)) : totM (L.take (i + 1).toNat) = totM (L.take i.toNat) + (atC L i.toNat).2 := by
  rw [show (i + 1).toNat = i.toNat + 1 by omega, List.take_succ_eq_append_getElem (by omega), show L[i.toNat] = atC L i.toNat from (atE_eq (E := encC) (by omega)).symm]
  simp [totM]
theorem tot_end {L : List Ct} {i : Int} (h : ¬ i < (L.length : Int)) : totM (L.take i.toNat) = totM L := by rw [List.take_of_length_le (by omega)]
theorem tot_part {L : List Ct} (h : ∀ c ∈ L, 0 < c.2) (i : Nat) : 0 ≤ totM (L.take i) ∧ totM (L.take i) ≤ totM L := by
  have hz : ∀ l : List Ct, (∀ c ∈ l, 0 < c.2) → 0 ≤ totM l := by
    intro l
    induction l with
    | nil => intro _; simp [totM]
    | cons a r ih => intro hq; have h1 := hq a (by simp); have h2 := ih fun q h => hq q (by simp [h]); simp only [totM, List.map_cons, List.sum_cons] at h2 ⊢; omega
  have h1 := hz (L.take i) fun c hc => h c (List.mem_of_mem_take hc)
  have h2 := hz (L.drop i) fun c hc => h c (List.mem_of_mem_drop hc)
  have h3 : totM L = totM (L.take i) + totM (L.drop i) := by
    unfold totM; rw [← List.sum_append, ← List.map_append, List.take_append_drop]
  omega
theorem touch_iff : touchB w k = true ↔ k.f = w ∨ k.t = w := by unfold touchB; simp
theorem opn_touch (h : OKL C) (ht : k.f = w ∨ k.t = w) : opn (offC C w) k = 0 := by rw [opn_off h, if_pos (touch_iff.2 ht)]
end
/-! ### All that was sent is taken -/
def laneO (o : Om) : Ln := laneS o.k o.e
def sumS (S : List Om) (k : Ln) : Int := (S.map fun o => if laneO o = k then o.e.n else 0).sum
/-- What was sent is what is open. -/
structure SentOK (C : Lanes) (S : List Om) : Prop where
  ok : OKL C
  of : ∀ k, opn C k = sumS S k
  in_ : ∀ o ∈ S, (0 ≤ o.k ∧ o.k ≤ 6) ∧ (0 ≤ o.e.peer ∧ o.e.peer ≤ 6) ∧ (1 ≤ o.e.n ∧ o.e.n ≤ 1000000)
section
variable {C : Lanes} {S : List Om} {o : Om} {k : Ln}
theorem sum_cons : sumS (o :: S) k = (if laneO o = k then o.e.n else 0) + sumS S k := by simp [sumS]
theorem sum_app1 : sumS (S ++ [o]) k = sumS S k + (if laneO o = k then o.e.n else 0) := by simp [sumS]
theorem sum_nonneg (h : ∀ o ∈ S, 1 ≤ o.e.n) : 0 ≤ sumS S k := by
  induction S with
  | nil => simp [sumS]
  | cons a r ih => rw [sum_cons]; have := ih fun o ho => h o (by simp [ho]); have := h a (by simp); split <;> omega
theorem SentOK.nil : SentOK [] [] := ⟨okl_nil, fun k => by simp [opn_nil, sumS], fun o h => by cases h⟩
theorem SentOK.put (h : SentOK C S) (hk : o.e.kind = 3) (h0 : matE C o.k o.e = 0) : SentOK (matC C o.k o.e) (S ++ [o]) := by
  have hm := mat_ok h0
  refine ⟨okl_mat h.ok _ _, fun k => ?_, fun u hu => ?_⟩
  · rw [mat_send h0 hk, opn_set, sum_app1, h.of, h.of]
    by_cases e : k = laneS o.k o.e
    · rw [if_pos e, if_pos (show laneO o = k from e.symm), e]
    · rw [if_neg e, if_neg (fun z : laneO o = k => e z.symm)]; omega
  · rcases List.mem_append.1 hu with hu | hu
    · exact h.in_ u hu
    · rw [List.mem_singleton] at hu; subst hu; exact ⟨hm.1, hm.2.1, hm.2.2.1⟩
/-- The take that takes what was sent. -/
def backO (o : Om) (n : Int) : En := En.mk 0 B32.zero 4 o.e.po o.e.edge o.k n
theorem back_lane (o : Om) (n : Int) : laneT o.e.peer (backO o n) = laneO o := rfl
theorem SentOK.take (h : SentOK C (o :: S)) : matE C o.e.peer (backO o o.e.n) = 0 ∧ SentOK (matC C o.e.peer (backO o o.e.n)) S := by
  have hi := h.in_ o (by simp)
  have hge : 0 ≤ sumS S (laneO o) := sum_nonneg fun u hu => (h.in_ u (by simp [hu])).2.2.1
  have hop : opn C (laneO o) = o.e.n + sumS S (laneO o) := by rw [h.of, sum_cons, if_pos rfl]
  have h0 : matE C o.e.peer (backO o o.e.n) = 0 := by
    unfold matE
    rw [if_neg (Decidable.not_not.2 ⟨hi.2.1, hi.1, hi.2.2⟩), if_neg (fun z => absurd z.1 (show ¬ (4 : Int) = 3 by decide)), if_neg]
    rintro ⟨_, z⟩
    rw [back_lane] at z
    have : (backO o o.e.n).n = o.e.n := rfl
    omega
  refine ⟨h0, okl_mat h.ok _ _, fun k => ?_, fun u hu => h.in_ u (by simp [hu])⟩
  rw [mat_take h0 rfl, back_lane, opn_set]
  by_cases e : k = laneO o
  · rw [if_pos e, hop, e]; show o.e.n + _ - o.e.n = _; omega
  · rw [if_neg e, h.of, sum_cons, if_neg (fun z => e z.symm)]; omega
theorem SentOK.over (h : SentOK C []) (hi : (0 ≤ o.k ∧ o.k ≤ 6) ∧ (0 ≤ o.e.peer ∧ o.e.peer ≤ 6)) : matE C o.e.peer (backO o 1) = 9 := by
  have hop : opn C (laneO o) = 0 := by rw [h.of]; rfl
  unfold matE
  rw [if_neg (Decidable.not_not.2 ⟨hi.2, hi.1, by show 1 ≤ (1 : Int) ∧ (1 : Int) ≤ 1000000; omega⟩), if_neg (fun z => absurd z.1 (show ¬ (4 : Int) = 3 by decide)), if_pos]
  refine ⟨rfl, ?_⟩
  rw [back_lane, hop]; show (0 : Int) < 1; omega
theorem SentOK.all (h : SentOK C []) : allL C = 0 := all_zero h.ok fun k => by rw [h.of]; rfl
/-- Step by step. -/
theorem SentOK.dropT {i : Int} (h : SentOK C (S.drop i.toNat)) (h0 : 0 ≤ i) (hi : i < (S.length : Int)) : matE C (atM S i.toNat).e.peer (backO (atM S i.toNat) (atM S i.toNat).e.n) = 0 ∧ SentOK (matC C (atM S i.toNat).e.peer (backO (atM S i.toNat) (atM S i.toNat).e.n)) (S.drop (i + 1).toNat) := by
  rw [List.drop_eq_getElem_cons (by omega), show S[i.toNat] = atM S i.toNat from (atE_eq (E := encO) (by omega)).symm] at h
  rw [show (i + 1).toNat = i.toNat + 1 by omega]
  exact h.take
theorem SentOK.done {i : Int} (h : SentOK C (S.drop i.toNat)) (hi : ¬ i < (S.length : Int)) : SentOK C [] := by
  rw [List.drop_of_length_le (by omega)] at h; exact h
theorem atM_mem {i : Nat} (h : i < S.length) : atM S i ∈ S := atE_mem (E := encO) h
end
/-! ### One lane alone -/
section
variable {k j : Ln} {n : Int}
theorem one_opn : opn (setL [] k n) j = if j = k then n else 0 := by rw [opn_set]; rfl
theorem one_all : allL (setL [] k n) = n := by rw [all_set okl_nil]; show (0 : Int) - 0 + n = n; omega
end
/-! ### One bit turned -/
def xorI (x y : Int) : Int := bits .xor .i64 x y
theorem pu_xor {P : Program} {o : Oper} {a : Act} {x y : Operand} {t t' : TypeId} {m n : Int} (ho : o.op = .binOp .xor t x y t') (hx : a.eval x = .int .i64 m) (hy : a.eval y = .int .i64 n) : Pure P o a (.int .i64 (xorI m n)) := fun w => by
  simp only [execOp, ho, hx, hy]; simp [go_sem, xorI]
theorem wrap_toInt (b : BitVec 64) : IntKind.i64.wrap (b.toNat : Int) = b.toInt := by
  have := b.isLt
  rw [BitVec.toInt_eq_toNat_cond]
  simp only [IntKind.wrap, IntKind.signed, IntKind.bits]
  simp
  split <;> omega
theorem xor_ne (x : Int) : ¬ xorI x 1 = x := fun h => by
  have e : xorI x 1 = (BitVec.ofInt 64 x ^^^ BitVec.ofInt 64 1).toInt := wrap_toInt _
  have h1 : BitVec.ofInt 64 x = BitVec.ofInt 64 x ^^^ BitVec.ofInt 64 1 := by
    have := congrArg (BitVec.ofInt 64) (e.symm.trans h)
    rw [BitVec.ofInt_toInt] at this
    exact this.symm
  have h2 := congrArg (fun z => BitVec.ofInt 64 x ^^^ z) h1
  simp only [BitVec.xor_self, ← BitVec.xor_assoc, BitVec.zero_xor] at h2
  exact absurd h2 (by decide)
theorem lane_put {w : Int} {x : En} (hk : x.kind = 3) (h0 : matE [] w x = 0) : matC [] w x = setL [] (laneS w x) x.n := by rw [mat_send h0 hk, opn_nil, Int.zero_add]
theorem lane_ok {w : Int} {x : En} (hk : x.kind = 3) (hw : 0 ≤ w ∧ w ≤ 6) (hn : 1 ≤ x.n ∧ x.n ≤ 1000) : matE [] w x = if 0 ≤ x.peer ∧ x.peer ≤ 6 then 0 else 1 := by
  unfold matE
  by_cases h : 0 ≤ x.peer ∧ x.peer ≤ 6
  · rw [if_neg (Decidable.not_not.2 ⟨hw, h, by omega⟩), if_neg (fun z => by have := z.2; rw [opn_nil] at this; omega), if_neg (fun z => by omega), if_pos h]
  · rw [if_pos (fun z => h z.2.1), if_neg h]
/-- A row of the call's own lies apart from what else is its own. -/
theorem Mm.farRow {R : List Nat} {w0 w : World} {B : List Ent} (M : Mm R w0 w B) {i j m n : Nat} {ty : TypeId} {v : Value} {xs : List Value} {fp : List Nat} {Φ : World → Prop} (hi : B[i]? = some (.row ty m v n xs)) (hj : B[j]? = some (.own fp Φ)) (hne : i ≠ j) : 0 < n → ¬ gof v ∈ fp := fun hn => M.apart hi hj hne (gof v) (by
  have := own_spot (M.ow hi) hn
  simp [Ent.fp, this.1])
end Go.Proofs.Ytoadlnnhlnhkjaa
