/- Counts of stamps: what the loops over them do. Any seat that has package bag. -/
import Derived.Test.YtplnpjhgnhndpaaBg
namespace Go.Proofs.Ytplnpjhgnhndpaa
open Go.RowKit

theorem eqCt (a b : Ct) (w : World) : (Op.equalIn 10000 32 (.agg #[.int .i64 a.1.e, .int .i64 a.1.r, .int .i64 a.2]) (.agg #[.int .i64 b.1.e, .int .i64 b.1.r, .int .i64 b.2])).run Try.prog w = .ok (decide (a = b)) w := by
  have h : decide (a = b) = ((decide (a.1.e = b.1.e) && decide (a.1.r = b.1.r)) && decide (a.2 = b.2)) := by
    rw [Bool.eq_iff_iff]; simp [Prod.ext_iff, St.eq_iff]
  rw [h]
  simp [go_sem]
  repeat' split
  all_goals simp_all
theorem atC_mem {L : List Ct} {i : Nat} (h : i < L.length) : atC L i ∈ L := atE_mem (E := encC) h
theorem take_snocC {L : List Ct} {i : Int} (h0 : 0 ≤ i) (h : i < (L.length : Int)) : L.take (i + 1).toNat = L.take i.toNat ++ [atC L i.toNat] := take_snocE (E := encC) h0 h
theorem ext_atC {A B : List Ct} {i : Int} (hl : A.length = B.length) (h : ∀ k, k < i.toNat → atC A k = atC B k) (hi : ¬ i < (A.length : Int)) : A = B := ext_atE (E := encC) hl h hi
/-! ### Of -/
theorem of_hit {C : List Ct} {t : St} {i : Int} (h0 : 0 ≤ i) (h : i < (C.length : Int)) (hb : ∀ k, k < i.toNat → ¬ (atC C k).1 = t) (ht : (atC C i.toNat).1 = t) : (atC C i.toNat).2 = ofC C t := by
  unfold ofC getM
  have e : C = C.take i.toNat ++ atC C i.toNat :: C.drop (i.toNat + 1) := by
    rw [show atC C i.toNat = C[i.toNat] from atE_eq (by omega), List.getElem_cons_drop, List.take_append_drop]
  have hn : (C.take i.toNat).find? (fun p => decide (p.1 = t)) = none := List.find?_eq_none.2 fun p hp => by
    obtain ⟨k, hk, rfl⟩ := List.mem_iff_getElem.1 hp
    rw [List.length_take] at hk
    rw [List.getElem_take, ← atE_eq (E := encC) (by omega)]
    have h9 : ¬ (atE encC C k).1 = t := hb k (by omega)
    simpa using h9
  generalize hq : atC C i.toNat = q at *
  rw [e, List.find?_append, hn]
  simp [ht]
theorem of_miss {C : List Ct} {t : St} {i : Int} (hb : ∀ k, k < i.toNat → ¬ (atC C k).1 = t) (hi : ¬ i < (C.length : Int)) : (0 : Int) = ofC C t := by
  refine (of_not fun p hp e => ?_).symm
  obtain ⟨k, hk, rfl⟩ := at_of_memE (E := encC) hp
  exact hb k (by omega) e
/-! ### Frontier, Lacks -/
theorem pos_yes {C : List Ct} {i : Int} (h0 : 0 ≤ i) (h : i < (C.length : Int)) (hp : 0 < (atC C i.toNat).2) : posL (C.take (i + 1).toNat) = posL (C.take i.toNat) ++ [(atC C i.toNat).1] := by
  rw [take_snocC h0 h]; unfold posL; rw [List.filter_append, List.map_append]; simp [hp]
theorem pos_no {C : List Ct} {i : Int} (h0 : 0 ≤ i) (h : i < (C.length : Int)) (hp : ¬ 0 < (atC C i.toNat).2) : posL (C.take (i + 1).toNat) = posL (C.take i.toNat) := by
  rw [take_snocC h0 h]; unfold posL; rw [List.filter_append, List.map_append]; simp [hp]
theorem pos_take (C : List Ct) (i : Nat) : (posL (C.take i)).length ≤ C.length := Nat.le_trans (posL_len _) (by rw [List.length_take]; omega)
theorem lack_hit {C : List Ct} {i : Int} (h0 : 0 ≤ i) (h : i < (C.length : Int)) (hp : (atC C i.toNat).2 < 0) : lackB C = true := lack_iff.2 ⟨_, atC_mem (by omega), hp⟩
theorem lack_miss {C : List Ct} {i : Int} (hb : ∀ k, k < i.toNat → ¬ (atC C k).2 < 0) (hi : ¬ i < (C.length : Int)) : lackB C = false := by
  rw [← Bool.not_eq_true, lack_iff]
  rintro ⟨p, hp, hn⟩
  obtain ⟨k, hk, rfl⟩ := at_of_memE (E := encC) hp
  exact hb k (by omega) hn
/-! ### The reference's Add -/
def stepC (t : St) (n : Int) (s : List Ct × Bool) (p : Ct) : List Ct × Bool :=
  if s.2 = false ∧ p.1.aheadB t = false then (if p.1 = t then (s.1 ++ [(t, n)], true) else (s.1 ++ [(t, n)] ++ [p], true)) else (if p.1 = t then s else (s.1 ++ [p], s.2))
def runC (t : St) (n : Int) (C : List Ct) : List Ct × Bool := C.foldl (stepC t n) ([], decide (n = 0))
theorem run_zero (t : St) (n : Int) (C : List Ct) : ([], decide (n = 0)) = runC t n (C.take (0 : Int).toNat) := rfl
theorem run_step {t : St} {n : Int} {C : List Ct} {i : Int} {Q Q' : List Ct} {b b' : Bool} (h0 : 0 ≤ i) (h : i < (C.length : Int)) (hr : (Q, b) = runC t n (C.take i.toNat)) (hs : stepC t n (Q, b) (atC C i.toNat) = (Q', b')) : (Q', b') = runC t n (C.take (i + 1).toNat) := by
  rw [take_snocC h0 h]; unfold runC; rw [List.foldl_append, ← hs, hr]; rfl
theorem st_put_ne {t : St} {n : Int} {Q : List Ct} {p : Ct} {b : Bool} (hb : b = false) (ha : p.1.aheadB t = false) (he : ¬ p.1 = t) : stepC t n (Q, b) p = (Q ++ [(t, n)] ++ [p], true) := by unfold stepC; rw [if_pos ⟨hb, ha⟩, if_neg he]
theorem st_put_eq {t : St} {n : Int} {Q : List Ct} {p : Ct} {b : Bool} (hb : b = false) (ha : p.1.aheadB t = false) (he : p.1 = t) : stepC t n (Q, b) p = (Q ++ [(t, n)], true) := by unfold stepC; rw [if_pos ⟨hb, ha⟩, if_pos he]
theorem st_no_ne {t : St} {n : Int} {Q : List Ct} {p : Ct} {b : Bool} (h : b = true ∨ p.1.aheadB t = true) (he : ¬ p.1 = t) : stepC t n (Q, b) p = (Q ++ [p], b) := by
  unfold stepC; rw [if_neg (fun hn => by rcases h with h | h; rw [show b = false from hn.1] at h; cases h; rw [hn.2] at h; cases h), if_neg he]
theorem st_no_eq {t : St} {n : Int} {Q : List Ct} {p : Ct} {b : Bool} (h : b = true ∨ p.1.aheadB t = true) (he : p.1 = t) : stepC t n (Q, b) p = (Q, b) := by
  unfold stepC; rw [if_neg (fun hn => by rcases h with h | h; rw [show b = false from hn.1] at h; cases h; rw [hn.2] at h; cases h), if_pos he]
theorem fold_true (t : St) (n : Int) : ∀ (C o : List Ct), C.foldl (stepC t n) (o, true) = (o ++ delM C t, true)
  | [], o => by simp [delM]
  | p :: r, o => by
    rw [List.foldl_cons]
    by_cases h : p.1 = t
    · rw [st_no_eq (.inl rfl) h, fold_true t n r]; simp [delM, h]
    · rw [st_no_ne (.inl rfl) h, fold_true t n r]; simp [delM, h]
theorem del_same {C : List Ct} {t : St} (h : ∀ p ∈ C, p.1 ≠ t) : delM C t = C := List.filter_eq_self.2 fun p hp => by simp [h p hp]
theorem fold_false {t : St} {n : Int} (hn : n ≠ 0) : ∀ (C o : List Ct), AscC C → (if (C.foldl (stepC t n) (o, false)).2 then (C.foldl (stepC t n) (o, false)).1 else (C.foldl (stepC t n) (o, false)).1 ++ [(t, n)]) = o ++ setC C t n
  | [], o, _ => by simp [setC, hn]
  | p :: r, o, h => by
    obtain ⟨h1, h2⟩ := List.pairwise_cons.1 h
    rw [List.foldl_cons]
    cases ha : p.1.aheadB t with
    | true =>
      have hne : ¬ p.1 = t := fun e => by rw [e, ahead_irr] at ha; cases ha
      rw [st_no_ne (.inr ha) hne, fold_false hn r _ h2]
      simp [setC, ha]
    | false =>
      have hr : ∀ u ∈ r, u.1 ≠ t := fun u hu e => by
        have := h1 u hu; rw [e, ha] at this; cases this
      by_cases he : p.1 = t
      · rw [st_put_eq rfl ha he, fold_true, del_same hr]
        simp [setC, ha, he, hn, ahead_irr]
      · rw [st_put_ne rfl ha he, fold_true, del_same hr]
        simp [setC, ha, he, hn]
theorem run_put {t : St} {n : Int} {C Q : List Ct} {b : Bool} {i : Int} (h : AscC C) (hr : (Q, b) = runC t n (C.take i.toNat)) (hi : ¬ i < (C.length : Int)) (hb : b = false) : Q ++ [(t, n)] = setC C t n := by
  rw [List.take_of_length_le (by omega)] at hr
  have hn : n ≠ 0 := fun h0 => by
    unfold runC at hr
    rw [decide_eq_true h0, fold_true] at hr
    injection hr with _ h2; rw [hb] at h2; cases h2
  have := fold_false (t := t) hn C [] h
  unfold runC at hr
  rw [decide_eq_false hn] at hr
  rw [← hr, hb] at this
  simpa using this
theorem run_done {t : St} {n : Int} {C Q : List Ct} {b : Bool} {i : Int} (h : AscC C) (hr : (Q, b) = runC t n (C.take i.toNat)) (hi : ¬ i < (C.length : Int)) (hb : b = true) : Q = setC C t n := by
  rw [List.take_of_length_le (by omega)] at hr
  unfold runC at hr
  by_cases hn : n = 0
  · rw [decide_eq_true hn, fold_true] at hr
    injection hr with h1 _
    rw [h1, hn, ← del_setC h]; simp
  · have := fold_false (t := t) hn C [] h
    rw [decide_eq_false hn] at hr
    rw [← hr, hb] at this
    simpa using this
theorem run_len (t : St) (n : Int) (C : List Ct) : (runC t n C).1.length ≤ 2 * C.length := by
  suffices h : ∀ (C o : List Ct) (b : Bool), (C.foldl (stepC t n) (o, b)).1.length ≤ o.length + 2 * C.length by
    have := h C [] (decide (n = 0)); simpa [runC] using this
  intro C
  induction C with
  | nil => intro o b; simp
  | cons p r ih =>
    intro o b
    rw [List.foldl_cons]
    have h1 : ∃ o' b', stepC t n (o, b) p = (o', b') ∧ o'.length ≤ o.length + 2 := by
      unfold stepC
      repeat' split
      all_goals exact ⟨_, _, rfl, by simp⟩
    obtain ⟨o', b', h1, h2⟩ := h1
    rw [h1]
    have := ih o' b'
    simp only [List.length_cons]; omega
/-! ### Over the map, in whatever order -/
structure KInv (C Rs : List Ct) (K : List St) : Prop where
  mem : ∀ t, (∃ p ∈ C, p.1 = t) ↔ t ∈ K ∨ ∃ p ∈ Rs, p.1 = t
  len : K.length + Rs.length = C.length
theorem KInv.start (C : List Ct) : KInv C C [] := ⟨fun t => by simp, by simp⟩
theorem KInv.next {C Rs Rs' : List Ct} {K : List St} {q : Ct} (h : KInv C Rs K) (hp : Rs.Perm (q :: Rs')) : KInv C Rs' (K ++ [q.1]) := by
  refine ⟨fun t => ?_, ?_⟩
  · rw [h.mem, List.mem_append, List.mem_singleton]
    constructor
    · rintro (h1 | ⟨p, h1, h2⟩)
      · exact .inl (.inl h1)
      · rcases List.mem_cons.1 (hp.mem_iff.1 h1) with h3 | h3
        · exact .inl (.inr (by rw [← h2, h3]))
        · exact .inr ⟨p, h3, h2⟩
    · rintro ((h1 | h1) | ⟨p, h1, h2⟩)
      · exact .inl h1
      · exact .inr ⟨q, hp.mem_iff.2 (by simp), h1.symm⟩
      · exact .inr ⟨p, hp.mem_iff.2 (by simp [h1]), h2⟩
  · have := h.len; have h2 := hp.length_eq; simp at h2 ⊢; omega
theorem KInv.fin {C Rs : List Ct} {K : List St} (h : KInv C Rs K) (hb : BagOK C) (hz : Rs = []) : rowL K = C.map (·.1) := by
  refine (rowL_of hb.asc.keys fun t => ?_).symm
  have := h.mem t
  rw [hz] at this
  simp only [List.not_mem_nil, false_and, exists_false, or_false] at this
  rw [← this, List.mem_map]
theorem map_of {C : List Ct} (hb : BagOK C) : (C.map (·.1)).map (fun t => (t, ofC C t)) = C := by
  rw [List.map_map]
  conv => rhs; rw [← List.map_id C]
  exact List.map_congr_left fun p hp => by simp [of_mem hb.asc.nodup hp]
def allC (C : List Ct) (i : Nat) : List Ct := ((C.map (·.1)).take i).map fun t => (t, ofC C t)
theorem all_next {C : List Ct} {i : Int} (h0 : 0 ≤ i) (h : i < ((C.map (·.1)).length : Int)) : allC C (i + 1).toNat = allC C i.toNat ++ [(atS (C.map (·.1)) i.toNat, ofC C (atS (C.map (·.1)) i.toNat))] := by
  unfold allC
  rw [show (i + 1).toNat = i.toNat + 1 by omega, List.take_succ_eq_append_getElem (by omega), List.map_append, atS_eq (by omega)]
  rfl
theorem all_end {C : List Ct} {i : Int} (hb : BagOK C) (hi : ¬ i < ((C.map (·.1)).length : Int)) : allC C i.toNat = C := by
  unfold allC
  rw [List.take_of_length_le (by omega), map_of hb]
theorem all_len (C : List Ct) (i : Nat) : (allC C i).length ≤ C.length := by unfold allC; rw [List.length_map, List.length_take, List.length_map]; omega
structure PInv (C Rs : List Ct) (K : List St) : Prop where
  mem : ∀ t, t ∈ posL C ↔ t ∈ K ∨ t ∈ posL Rs
  len : K.length + Rs.length ≤ C.length
theorem PInv.start (C : List Ct) : PInv C C [] := ⟨fun t => by simp, by simp⟩
theorem pos_perm {Rs Rs' : List Ct} {q : Ct} (hp : Rs.Perm (q :: Rs')) (t : St) : t ∈ posL Rs ↔ (0 < q.2 ∧ q.1 = t) ∨ t ∈ posL Rs' := by
  rw [mem_posL, mem_posL]
  constructor
  · rintro ⟨p, h1, h2⟩
    rcases List.mem_cons.1 (hp.mem_iff.1 h1) with h3 | h3
    · rw [h3] at h2; exact .inl h2
    · exact .inr ⟨p, h3, h2⟩
  · rintro (h1 | ⟨p, h1, h2⟩)
    · exact ⟨q, hp.mem_iff.2 (by simp), h1⟩
    · exact ⟨p, hp.mem_iff.2 (by simp [h1]), h2⟩
theorem PInv.yes {C Rs Rs' : List Ct} {K : List St} {q : Ct} (h : PInv C Rs K) (hp : Rs.Perm (q :: Rs')) (hq : 0 < q.2) : PInv C Rs' (K ++ [q.1]) := by
  refine ⟨fun t => ?_, by have := h.len; have h2 := hp.length_eq; simp at h2 ⊢; omega⟩
  rw [h.mem, pos_perm hp, List.mem_append, List.mem_singleton]
  constructor
  · rintro (h1 | h1 | h1)
    · exact .inl (.inl h1)
    · exact .inl (.inr h1.2.symm)
    · exact .inr h1
  · rintro ((h1 | h1) | h1)
    · exact .inl h1
    · exact .inr (.inl ⟨hq, h1.symm⟩)
    · exact .inr (.inr h1)
theorem PInv.no {C Rs Rs' : List Ct} {K : List St} {q : Ct} (h : PInv C Rs K) (hp : Rs.Perm (q :: Rs')) (hq : ¬ 0 < q.2) : PInv C Rs' K := by
  refine ⟨fun t => ?_, by have := h.len; have h2 := hp.length_eq; simp at h2; omega⟩
  rw [h.mem, pos_perm hp]
  constructor
  · rintro (h1 | h1 | h1)
    · exact .inl h1
    · exact absurd h1.1 hq
    · exact .inr h1
  · rintro (h1 | h1)
    · exact .inl h1
    · exact .inr (.inr h1)
theorem PInv.fin {C Rs : List Ct} {K : List St} (h : PInv C Rs K) (hz : Rs = []) : minL K = minL (posL C) := min_mem fun t => by
  rw [h.mem, hz]; simp [posL]
theorem lack_next {C Rs Rs' : List Ct} {q : Ct} (h : lackB C = lackB Rs) (hp : Rs.Perm (q :: Rs')) (hq : ¬ q.2 < 0) : lackB C = lackB Rs' := by
  rw [h, lack_perm hp, lack_cons]; simp [hq]
theorem lack_now {C Rs Rs' : List Ct} {q : Ct} (h : lackB C = lackB Rs) (hp : Rs.Perm (q :: Rs')) (hq : q.2 < 0) : lackB C = true := by
  rw [h, lack_perm hp, lack_cons]; simp [hq]
theorem lack_end {C Rs : List Ct} (h : lackB C = lackB Rs) (hz : Rs = []) : lackB C = false := by rw [h, hz]; rfl
/-! ### How the calls end -/
section
variable {R : List Nat} {w0 w w' : World} {B : List Ent} {i p g rb : Nat} {x : Ent} {C C' : List Ct} {t : St} {n z : Int} {v v' : Value}
theorem Mm.new1 (M : Mm [] w0 w B) (h : B[i]? = some x) : ∀ g ∈ x.fp, w0.heap.size ≤ g := fun g hg => by
  rcases M.own x (List.mem_of_getElem? h) g hg with h1 | h1
  · exact h1
  · cases h1
theorem bag_post (hO : Out [p, g] w w') (hb : Blk w' p 52 #[.map (some g)]) (hm : MpV g (encM stV iV C') w') (hk : BagOK C) (ez : addE C t n = z) (eC : C' = addC C t n) :
    TurnsE w (.own [p, g] (BagV p g C)) (fun v x' => v = .int .i64 (addE C t n) ∧ x' = .own [p, g] (BagV p g (addC C t n))) (.returned (.int .i64 z)) w' :=
  ⟨_, .own [p, g] (BagV p g (addC C t n)), rfl, hO, ⟨⟨hb, eC ▸ hm, hk.add t n⟩, BagV.loc _ _ _⟩, fun k hk' => .inl hk', rfl, by rw [ez], rfl⟩
theorem empty_post (hO : Out [p, g] w w') (hb : Blk w' p 52 #[.map (some g)]) (hm : MpV g [] w') :
    TurnsE w (.own [p, g] (BagV p g C)) (fun v x' => v = .tuple #[] ∧ x' = .own [p, g] (BagV p g [])) (.returned (.tuple #[])) w' :=
  ⟨_, .own [p, g] (BagV p g []), rfl, hO, ⟨⟨hb, hm, bag_nil⟩, BagV.loc _ _ _⟩, fun k hk' => .inl hk', rfl, rfl, rfl⟩
theorem new_post (hO : Below w.heap.size w w') (hb : Blk w' p 52 #[.map (some g)]) (hm : MpV g [] w') (h1 : w.heap.size ≤ p) (h2 : w.heap.size ≤ g) :
    MakesE w (fun v x => ∃ p g, v = .pointer (some ⟨p, 0, none⟩) ∧ x = .own [p, g] (BagV p g [])) (.returned (.pointer (some ⟨p, 0, none⟩))) w' :=
  ⟨_, .own [p, g] (BagV p g []), rfl, hO, ⟨⟨hb, hm, bag_nil⟩, BagV.loc _ _ _⟩, fun k hk => by
    simp only [Ent.fp, List.mem_cons, List.not_mem_nil, or_false] at hk
    rcases hk with rfl | rfl
    · exact h1
    · exact h2, rfl, p, g, rfl, rfl⟩
/-- The reference's bag: a struct with a slice in it. -/
def RefV (rb : Nat) (v : Value) (C : List Ct) (w : World) : Prop := Blk w rb 28 #[v] ∧ w.ownsRow 0 32 3 v C.length (cC C) ∧ BagOK C
theorem RefV.loc (rb : Nat) (v : Value) (C : List Ct) : Loc (rb :: v.ownBlock.toList) (RefV rb v C) := fun w w' hk ⟨h1, h2, h3⟩ => by
  have e1 := blk_loc w w' (fun k hk' => hk k (by simp only [List.mem_singleton] at hk'; simp [hk'])) h1
  have hlt : ∀ k, v.ownBlock = some k → k < w.heap.size := fun k hk' => (World.ownsRow.lt h2 k hk').2
  refine ⟨⟨e1.1, ?_, h3⟩, fun k hk' => ?_⟩
  · refine ⟨h2.1, ?_⟩
    rcases h2.2 with h4 | ⟨g, cap, cur, h4, h5, h6, h7⟩
    · exact .inl h4
    · exact .inr ⟨g, cap, cur, h4, h5, (hk g (by simp [h4, Value.ownBlock])).trans h6, h7⟩
  · rcases List.mem_cons.1 hk' with rfl | h4
    · exact e1.2 k (by simp)
    · exact hlt k (by simpa using h4)
theorem RefV.apart (hB : Blk w rb 28 #[v]) (h : w.ownsRow 0 32 3 v C.length (cC C)) : ∀ k, v.ownBlock = some k → k ≠ rb := by
  intro k hk e
  rcases h.2 with h4 | ⟨g, cap, cur, h4, h5, h6, h7⟩
  · rw [h4.1] at hk; cases hk
  · rw [h4] at hk
    simp only [Value.ownBlock, Option.some.injEq] at hk
    have h8 : w.heap[rb]? = some (.cells #[v] 28) := hB
    rw [← e, ← hk, h6] at h8
    injection h8 with h8
    injection h8 with _ h9
    cases h9
theorem ref_gof (h : w.ownsRow 0 32 3 v C.length (cC C)) (hne : ∀ k, v.ownBlock = some k → k ≠ rb) : 0 < C.length → ¬ gof v ∈ [rb] := fun hn hm => by
  simp only [List.mem_singleton] at hm
  exact hne _ (own_spot h hn).1 hm
def RefPost (w : World) (rb : Nat) (v : Value) (C C' : List Ct) (z : Int) : Ending → World → Prop :=
  TurnsE w (.own (rb :: v.ownBlock.toList) (RefV rb v C)) (fun u x' => ∃ v', u = .int .i64 z ∧ x' = .own (rb :: v'.ownBlock.toList) (RefV rb v' C'))
theorem ref_same (hO : Out [rb] w w') (hB : Blk w' rb 28 #[v]) (h : w.ownsRow 0 32 3 v C.length (cC C)) (hne : ∀ k, v.ownBlock = some k → k ≠ rb) (hk : BagOK C) (ez : addE C t n = z) (eC : C = addC C t n) :
    RefPost w rb v C (addC C t n) (addE C t n) (.returned (.int .i64 z)) w' :=
  ⟨_, .own (rb :: v.ownBlock.toList) (RefV rb v (addC C t n)), rfl, hO.mono (fun g hg => by simp only [List.mem_singleton] at hg; simp [Ent.fp, hg]), ⟨⟨hB, by
      rw [← eC]
      exact row_out h hO (fun g hg hm => by simp only [List.mem_singleton] at hm; exact hne g hg hm), hk.add t n⟩, RefV.loc _ _ _⟩, fun k hk' => .inl hk', rfl, v, by rw [ez], rfl⟩
theorem ref_new (hO : Out [rb] w w') (hB : Blk w' rb 28 #[v']) (h : w'.ownsRow 0 32 3 v' C'.length (cC C')) (hnew : ∀ k, v'.ownBlock = some k → w.heap.size ≤ k ∨ k ∈ [rb]) (hk : BagOK C) (ez : addE C t n = z) (eC : C' = addC C t n) :
    RefPost w rb v C (addC C t n) (addE C t n) (.returned (.int .i64 z)) w' :=
  ⟨_, .own (rb :: v'.ownBlock.toList) (RefV rb v' (addC C t n)), rfl, hO.mono (fun g hg => by simp only [List.mem_singleton] at hg; simp [Ent.fp, hg]), ⟨⟨hB, eC ▸ h, hk.add t n⟩, RefV.loc _ _ _⟩, fun k hk' => by
    simp only [Ent.fp, List.mem_cons] at hk' ⊢
    rcases hk' with h1 | h1
    · exact .inl (.inl h1)
    · rcases hnew k (by simpa using h1) with h2 | h2
      · exact .inr h2
      · simp only [List.mem_singleton] at h2; exact .inl (.inl h2), rfl, v', by rw [ez], rfl⟩
theorem Mm.rowNew (M : Mm R w0 w B) {ty : TypeId} {m k : Nat} {xs : List Value} (h : B[i]? = some (.row ty m v k xs)) : ∀ g, v.ownBlock = some g → w0.heap.size ≤ g ∨ g ∈ R := fun g hg => M.own _ (List.mem_of_getElem? h) g (by simp [Ent.fp, hg])
end
end Go.Proofs.Ytplnpjhgnhndpaa
