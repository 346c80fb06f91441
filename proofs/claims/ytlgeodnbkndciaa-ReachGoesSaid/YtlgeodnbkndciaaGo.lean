/- Nodes in a row: when all get in, and how they stand; mathematics. Any seat with layer 6 in it. -/
import Derived.Test.YtlgeodnbkndciaaGm
namespace Go.Proofs.Ytlgeodnbkndciaa
open Go.RowKit
set_option maxRecDepth 100000
set_option linter.unusedSimpArgs false
set_option linter.unusedVariables false

theorem nodup_sub {l m : List Int} (h : l.Nodup) (hs : ∀ x ∈ l, x ∈ m) : l.length ≤ m.length := by
  induction l generalizing m with
  | nil => simp
  | cons x r ih =>
    have hn := List.nodup_cons.1 h
    have hx := hs x (by simp)
    have h1 := ih (m := m.erase x) hn.2 (fun y hy => (List.mem_erase_of_ne (fun (e : y = x) => hn.1 (by rw [← e]; exact hy))).2 (hs y (by simp [hy])))
    rw [List.length_erase_of_mem hx] at h1
    have h2 : 0 < m.length := List.length_pos_of_mem hx
    simp only [List.length_cons]; omega
theorem next_some {E : List Ed} {T : List Bool} {n k : Nat} (h : nextO E T n = some k) : k < n ∧ freeB E T k = true := by
  have h1 := List.find?_some h
  have h2 := List.mem_of_find?_eq_some h
  exact ⟨List.mem_range.1 h2, h1⟩
theorem next_none {E : List Ed} {T : List Bool} {n k : Nat} (h : nextO E T n = none) (hk : k < n) : freeB E T k = false := by
  have := List.find?_eq_none.1 h k (List.mem_range.2 hk)
  simpa using this
theorem free_iff {E : List Ed} {T : List Bool} {k : Nat} : freeB E T k = true ↔ atB T k = false ∧ ∀ x ∈ E, x.t = (k : Int) → x.p = St.zero → atB T x.f.toNat = true := by
  unfold freeB
  rw [Bool.and_eq_true, Bool.not_eq_true', List.all_eq_true]
  refine and_congr_right fun _ => forall_congr' fun x => forall_congr' fun _ => ?_
  unfold okE
  simp only [Bool.not_eq_true', Bool.and_eq_false_iff, decide_eq_false_iff_not, Bool.not_eq_false]
  constructor
  · intro h ht hp
    rcases h with (h | h) | h
    · exact absurd ht h
    · exact absurd hp h
    · simpa using h
  · intro h
    by_cases ht : x.t = (k : Int)
    · by_cases hp : x.p = St.zero
      · exact .inr (by simpa using h ht hp)
      · exact .inl (.inr hp)
    · exact .inl (.inl ht)
structure RowI (E : List Ed) (n : Nat) (s : List Bool × List Int) : Prop where
  told : ∀ k, k < n → (atB s.1 k = true ↔ (k : Int) ∈ s.2)
  nd : s.2.Nodup
  rng : ∀ q ∈ s.2, 0 ≤ q ∧ q < (n : Int)
  bef : ∀ x ∈ E, x.p = St.zero → ∀ a b, s.2 = a ++ x.t :: b → x.f ∈ a
theorem row_inv {n : Nat} {E : List Ed} (hF : Fits (n : Int) E) : ∀ r, RowI E n (roundsO E n r)
  | 0 => by
    refine ⟨fun k hk => ?_, List.nodup_nil, fun q hq => (by cases hq), fun x _ _ a b h => ?_⟩
    · show atB (List.replicate n false) k = true ↔ (k : Int) ∈ ([] : List Int)
      unfold atB atE
      rw [List.getD_eq_getElem?_getD, List.getElem?_replicate, if_pos hk]; simp
    · have h' : ([] : List Int) = a ++ x.t :: b := h
      simp at h'
  | r + 1 => by
    have ih := row_inv hF r
    have hl := rounds_len E n r
    simp only [roundsO, stepO]
    cases hq : nextO E (roundsO E n r).1 n with
    | none => exact ih
    | some k =>
      have h1 := next_some hq
      have h2 := free_iff.1 h1.2
      have hk : ¬ (k : Int) ∈ (roundsO E n r).2 := fun hm => by
        rw [← ih.told k h1.1, h2.1] at hm; cases hm
      refine ⟨fun j hj => ?_, ?_, fun q hq => ?_, fun x hx hp a b hab => ?_⟩
      · show atB ((roundsO E n r).1.set k true) j = true ↔ (j : Int) ∈ (roundsO E n r).2 ++ [(k : Int)]
        rw [atB_set (by omega), List.mem_append, List.mem_singleton]
        split
        · rename_i e; subst e; simp
        · rename_i e
          rw [ih.told j hj]
          constructor
          · exact .inl
          · rintro (h | h)
            · exact h
            · omega
      · show ((roundsO E n r).2 ++ [(k : Int)]).Nodup
        refine List.nodup_append.2 ⟨ih.nd, by simp, fun p hp q hq e => ?_⟩
        rw [List.mem_singleton.1 hq] at e
        exact hk (e ▸ hp)
      · rcases List.mem_append.1 hq with h | h
        · exact ih.rng q h
        · rw [List.mem_singleton.1 h]; omega
      · have hab' : (roundsO E n r).2 ++ [(k : Int)] = a ++ x.t :: b := hab
        rcases List.eq_nil_or_concat b with hb | ⟨b', y, hb⟩
        · subst hb
          have h3 := List.append_inj' hab' (by simp)
          have h4 : (k : Int) = x.t := by simpa using h3.2
          have hx' := fit_t hF hx
          have h5 := h2.2 x hx h4.symm hp
          have h6 := (ih.told x.f.toNat (by omega)).1 h5
          rw [show ((x.f.toNat : Nat) : Int) = x.f by omega] at h6
          rw [← h3.1]; exact h6
        · rw [List.concat_eq_append] at hb
          subst hb
          have h3 : (roundsO E n r).2 ++ [(k : Int)] = (a ++ x.t :: b') ++ [y] := by simpa using hab'
          have h4 := List.append_inj' h3 (by simp)
          exact ih.bef x hx hp a b' h4.1
theorem row_stuck (E : List Ed) (n : Nat) : ∀ r, (roundsO E n r).2.length = r ∨ nextO E (roundsO E n r).1 n = none
  | 0 => .inl rfl
  | r + 1 => by
    simp only [roundsO, stepO]
    cases hq : nextO E (roundsO E n r).1 n with
    | none => exact .inr hq
    | some k =>
      rcases row_stuck E n r with h | h
      · exact .inl (by simp [h])
      · rw [h] at hq; cases hq
/-- All nodes get in, where the edges of noughts go up. -/
theorem order_of_rank {n : Nat} {E : List Ed} (hF : Fits (n : Int) E) (rk : Nat → Nat) (h : ∀ x ∈ E, x.p = St.zero → rk x.f.toNat < rk x.t.toNat) : (orderL E n).length = n := by
  have hi := row_inv hF n
  rcases row_stuck E n n with h1 | h1
  · exact h1
  · have hall : ∀ m k, k < n → rk k = m → atB (roundsO E n n).1 k = true := by
      intro m
      induction m using Nat.strongRecOn with
      | ind m ih =>
        intro k hk hm
        cases hb : atB (roundsO E n n).1 k with
        | true => rfl
        | false =>
          have h2 := next_none h1 hk
          have h3 : freeB E (roundsO E n n).1 k = true := free_iff.2 ⟨hb, fun x hx ht hp => by
            have hx' := fit_t hF hx
            have h4 := h x hx hp
            rw [ht, show ((k : Nat) : Int).toNat = k by omega] at h4
            exact ih (rk x.f.toNat) (by omega) x.f.toNat (by omega) rfl⟩
          rw [h3] at h2; cases h2
    have h2 : ((List.range n).map fun (k : Nat) => (k : Int)).length ≤ (roundsO E n n).2.length := nodup_sub (by
      refine List.Pairwise.map (R := fun a b => a ≠ b) _ (fun a b h => by omega) List.nodup_range) (fun q hq => by
      obtain ⟨k, hk, rfl⟩ := List.mem_map.1 hq
      have hk := List.mem_range.1 hk
      exact (hi.told k hk).1 (hall _ k hk rfl))
    have h3 := rounds_out E n n
    simp only [List.length_map, List.length_range] at h2
    show (roundsO E n n).2.length = n
    omega
theorem order_all {n : Nat} {E : List Ed} (hF : Fits (n : Int) E) (h : (orderL E n).length = n) {k : Int} (h0 : 0 ≤ k) (hk : k < (n : Int)) : k ∈ orderL E n := by
  apply Classical.byContradiction
  intro hm
  have hi := row_inv hF n
  have h1 := nodup_small n (k :: orderL E n) (List.nodup_cons.2 ⟨hm, hi.nd⟩) (fun q hq => by
    rcases List.mem_cons.1 hq with rfl | hq
    · exact ⟨h0, hk⟩
    · exact hi.rng q hq)
  simp only [List.length_cons] at h1
  omega
/-- In a whole row, an edge of noughts goes forward. -/
theorem rank_of_order {n : Nat} {E : List Ed} (hF : Fits (n : Int) E) (h : (orderL E n).length = n) {x : Ed} (hx : x ∈ E) (hp : x.p = St.zero) : (orderL E n).idxOf x.f < (orderL E n).idxOf x.t := by
  have hi := row_inv hF n
  have hx' := fit_t hF hx
  have ht := order_all hF h (k := x.t) (by omega) (by omega)
  obtain ⟨a, b, hab⟩ := List.append_of_mem ht
  have hf := hi.bef x hx hp a b hab
  have hnd : (a ++ x.t :: b).Nodup := hab ▸ hi.nd
  have hna : ¬ x.t ∈ a := fun hm => (List.nodup_append.1 hnd).2.2 x.t hm x.t (by simp) rfl
  rw [hab, List.idxOf_append, List.idxOf_append, if_pos hf, if_neg hna]
  have := List.idxOf_lt_length_of_mem hf
  simp only [List.idxOf_cons_self]
  omega
/-- Fewer edges: all nodes get in all the same. -/
theorem order_less {n : Nat} {E F : List Ed} (hF : Fits (n : Int) F) (hs : ∀ x ∈ E, x ∈ F) (h : (orderL F n).length = n) : (orderL E n).length = n :=
  order_of_rank (fun x hx => hF x (hs x hx)) (fun k => (orderL F n).idxOf (k : Int)) (fun x hx hp => by
    have h1 := rank_of_order hF h (hs x hx) hp
    have hx' := fit_t hF (hs x hx)
    rw [show ((x.f.toNat : Nat) : Int) = x.f by omega, show ((x.t.toNat : Nat) : Int) = x.t by omega]
    exact h1)
theorem check_of {n : Int} {E : List Ed} (h1 : 1 ≤ n) (h2 : n ≤ 8) (h3 : E.length ≤ 16) (hF : Fits n E) (ho : n ≤ ((orderL E n.toNat).length : Int)) : checkG n E = (0, -1) := by
  unfold checkG
  rw [if_neg (by omega)]
  have : E.findIdx? (fun x => !fitsB n x) = none := by
    rw [List.findIdx?_eq_none_iff]
    intro x hx; rw [hF x hx]; rfl
  rw [this]
  exact if_neg (by omega)
theorem clo_two {n : Int} {E : List Ed} (h : (checkG n E).1 = 0) : (cloG n E).2 = 0 ∨ (cloG n E).2 = 10 := by
  unfold cloG
  rw [if_neg (fun h2 => h2 h)]
  split
  · exact .inr rfl
  · exact .inl rfl
theorem moreg_err {n : Int} {E : List Ed} {x : Ed} (hf : (cloG n (E ++ [x])).2 = 0) : (cloG n E).2 = 0 ∨ (cloG n E).2 = 10 := by
  rcases clo_cases n (E ++ [x]) with h | ⟨⟨h1, h2, h3, h4, h5, h6⟩, _⟩
  · exact absurd hf h.2
  · have hF : Fits ((n.toNat : Nat) : Int) (E ++ [x]) := by rw [show ((n.toNat : Nat) : Int) = n by omega]; exact h4
    have ho := order_len (n := n) (E := E ++ [x]) (by rw [h6])
    have hl := order_less hF (E := E) (fun y hy => by simp [hy]) ho
    refine clo_two ?_
    rw [check_of h1 h2 (by simp only [List.length_append, List.length_singleton] at h3; omega) (fun y hy => h4 y (by simp [hy])) (by omega)]
theorem moreg_cov {n : Nat} {E : List Ed} {x : Ed} (hE : Fits (n : Int) E) (hF : Fits (n : Int) (E ++ [x])) {i j : Nat} (hi : i < n) (hj : j < n) {t : St} (ht : t ∈ atR (at3 (cloT E n n) i) j) : covB (atR (at3 (cloT (E ++ [x]) n n) i) j) t = true := by
  rw [cloT_at hi] at ht ⊢
  have := clo_covers hF hi (way_more (clo_sound hE hi hj ht) (fun y hy => by simp [hy]))
  rwa [show ((j : Int)).toNat = j by omega] at this
theorem clo_ahead {n : Nat} {E : List Ed} {i j : Nat} (hi : i < n) (hj : j < n) {m : Int} (h0 : 0 < m) (hm : m < ((atR (at3 (cloT E n n) i) j).length : Int)) : (atS (atR (at3 (cloT E n n) i) j) (m - 1).toNat).aheadB (atS (atR (at3 (cloT E n n) i) j) m.toNat) = true := by
  rw [cloT_at hi] at hm ⊢
  have := clo_asc (E := E) (i := i) hj (m - 1).toNat (by omega)
  rwa [show (m - 1).toNat + 1 = m.toNat by omega] at this
end Go.Proofs.Ytlgeodnbkndciaa
