/- Counts of stamps: rows in order, and what one more count does to them; what a bag is. Any seat that has package bag. -/
import Derived.Test.YtplnpjhgnhndpaaAw
import Derived.Test.YtplnpjhgnhndpaaMq
import Derived.Test.YtplnpjhgnhndpaaEn
import Derived.Test.YtplnpjhgnhndpaaSc
namespace Go.Proofs.Ytplnpjhgnhndpaa
open Go.RowKit

abbrev Ct := St × Int
def stV (s : St) : Value := .agg #[.int .i64 s.e, .int .i64 s.r]
def iV (n : Int) : Value := .int .i64 n
theorem stV_inj (a b : St) (h : stV a = stV b) : a = b := by
  simp only [stV, Value.agg.injEq, Array.mk.injEq, List.cons.injEq, Value.int.injEq] at h
  exact St.eq_iff.2 ⟨h.1.2, h.2.1.2⟩
def encC : Enc Ct := ⟨3, fun p => [.int .i64 p.1.e, .int .i64 p.1.r, .int .i64 p.2], (St.zero, 0), fun _ => rfl, fun a v h => by
  simp only [List.mem_cons, List.not_mem_nil, or_false] at h
  rcases h with rfl | rfl | rfl <;> rfl⟩
def cC (L : List Ct) : List Value := cE encC L
def atC (L : List Ct) (i : Nat) : Ct := atE encC L i
theorem cC_at {L : List Ct} {i : Nat} (h : i < L.length) : ((cC L).drop (i * 3)).take 3 = [.int .i64 (atC L i).1.e, .int .i64 (atC L i).1.r, .int .i64 (atC L i).2] := cE_at (E := encC) h
theorem cC_app (L K : List Ct) : cC (L ++ K) = cC L ++ cC K := cE_app L K
theorem cC_ones (L : List Ct) : ∀ z ∈ cC L, z.oneCell' = true := cE_ones L
theorem cC_len (L : List Ct) : (cC L).length = L.length * 3 := cE_len L
abbrev RdC (w : World) (v : Value) (L : List Ct) : Prop := RdV w 3 v L.length (cC L)
/-! ### Counts by their stamps -/
def ofC (C : List Ct) (t : St) : Int := (getM C t).getD 0
theorem of_elim (C : List Ct) (t : St) : (getM C t).elim (.int .i64 0) iV = .int .i64 (ofC C t) := by
  unfold ofC; cases getM C t <;> rfl
def AscC (C : List Ct) : Prop := C.Pairwise fun p q => p.1.aheadB q.1 = true
structure BagOK (C : List Ct) : Prop where
  asc : AscC C
  ok : ∀ p ∈ C, p.2 ≠ 0 ∧ -1000000000 ≤ p.2 ∧ p.2 ≤ 1000000000 ∧ p.1.rightB = true
theorem AscC.nodup {C : List Ct} (h : AscC C) : C.Pairwise (fun p q => p.1 ≠ q.1) := h.imp fun h e => by rw [e, ahead_irr] at h; cases h
theorem pw_nodup {C : List Ct} (h : C.Pairwise (fun p q => p.1 ≠ q.1)) : C.Nodup := h.imp fun h e => h (by rw [e])
theorem AscC.keys {C : List Ct} (h : AscC C) : Asc (C.map (·.1)) := fun i hi => by
  have hp : (C.map (·.1)).Pairwise (fun a b => St.aheadB a b = true) := by rw [List.pairwise_map]; exact h
  rw [List.length_map] at hi
  have := List.pairwise_iff_getElem.1 hp i (i + 1) (by simpa using (show i < C.length by omega)) (by simpa using hi) (by omega)
  rwa [atS_eq (by simpa using (show i < C.length by omega)), atS_eq (by simpa using hi)]
theorem AscC.uniq : ∀ {L K : List Ct}, AscC L → AscC K → (∀ p, p ∈ L ↔ p ∈ K) → L = K
  | [], [], _, _, _ => rfl
  | [], k :: K, _, _, h => by have := (h k).2 (by simp); simp at this
  | l :: L, [], _, _, h => by have := (h l).1 (by simp); simp at this
  | l :: L, k :: K, hl, hk, h => by
    obtain ⟨l1, l2⟩ := List.pairwise_cons.1 hl
    obtain ⟨k1, k2⟩ := List.pairwise_cons.1 hk
    have e : l = k := by
      rcases List.mem_cons.1 ((h l).1 (by simp)) with h1 | h1
      · exact h1
      · rcases List.mem_cons.1 ((h k).2 (by simp)) with h2 | h2
        · exact h2.symm
        · have := ahead_trans (k1 l h1) (l1 k h2)
          rw [ahead_irr] at this; cases this
    subst e
    congr 1
    refine AscC.uniq l2 k2 fun p => ⟨fun hp => ?_, fun hp => ?_⟩
    · rcases List.mem_cons.1 ((h p).1 (by simp [hp])) with h1 | h1
      · subst h1; have := l1 _ hp; rw [ahead_irr] at this; cases this
      · exact h1
    · rcases List.mem_cons.1 ((h p).2 (by simp [hp])) with h1 | h1
      · subst h1; have := k1 _ hp; rw [ahead_irr] at this; cases this
      · exact h1
theorem of_mem {C : List Ct} (h : C.Pairwise (fun p q => p.1 ≠ q.1)) {p : Ct} (hp : p ∈ C) : ofC C p.1 = p.2 := by
  unfold ofC; rw [getM_some h (show (p.1, p.2) ∈ C from hp)]; rfl
theorem of_not {C : List Ct} {t : St} (h : ∀ p ∈ C, p.1 ≠ t) : ofC C t = 0 := by unfold ofC; rw [getM_none h]; rfl
theorem of_pos {C : List Ct} {t : St} (h : ofC C t ≠ 0) : (t, ofC C t) ∈ C := by
  unfold ofC at h ⊢
  cases hg : getM C t with
  | none => rw [hg] at h; exact absurd rfl h
  | some v => exact getM_mem hg
theorem BagOK.mem {C : List Ct} (h : BagOK C) {p : Ct} : p ∈ C ↔ ofC C p.1 = p.2 ∧ p.2 ≠ 0 := by
  constructor
  · intro hp; exact ⟨of_mem h.asc.nodup hp, (h.ok p hp).1⟩
  · rintro ⟨h1, h2⟩
    have := of_pos (C := C) (t := p.1) (by rw [h1]; exact h2)
    rw [h1] at this; exact this
theorem BagOK.ext {C K : List Ct} (h : BagOK C) (hk : BagOK K) (he : ∀ t, ofC C t = ofC K t) : C = K := h.asc.uniq hk.asc fun p => by rw [h.mem, hk.mem, he]
theorem BagOK.bound {C : List Ct} (h : BagOK C) (t : St) : -1000000000 ≤ ofC C t ∧ ofC C t ≤ 1000000000 := by
  by_cases h0 : ofC C t = 0
  · omega
  · have := (h.ok _ (of_pos h0)).2
    exact ⟨this.1, this.2.1⟩
theorem bag_nil : BagOK [] := ⟨List.Pairwise.nil, fun p hp => by cases hp⟩
theorem of_nil (t : St) : ofC [] t = 0 := rfl
/-! ### One count set -/
def setC : List Ct → St → Int → List Ct
  | [], t, n => if n = 0 then [] else [(t, n)]
  | p :: r, t, n => if p.1.aheadB t then p :: setC r t n else if p.1 = t then (if n = 0 then r else (t, n) :: r) else if n = 0 then p :: r else (t, n) :: p :: r
theorem mem_setC {C : List Ct} (h : AscC C) {t : St} {n : Int} {q : Ct} : q ∈ setC C t n ↔ (q ∈ C ∧ q.1 ≠ t) ∨ (q = (t, n) ∧ n ≠ 0) := by
  induction C with
  | nil =>
    unfold setC
    split <;> rename_i h0 <;> simp [h0]
  | cons p r ih =>
    obtain ⟨h1, h2⟩ := List.pairwise_cons.1 h
    unfold setC
    split
    · rename_i hp
      rw [List.mem_cons, List.mem_cons, ih h2]
      constructor
      · rintro (h3 | h3 | h3)
        · exact .inl ⟨.inl h3, fun e => by rw [← h3, e, ahead_irr] at hp; cases hp⟩
        · exact .inl ⟨.inr h3.1, h3.2⟩
        · exact .inr h3
      · rintro (⟨h3 | h3, h4⟩ | h3)
        · exact .inl h3
        · exact .inr (.inl ⟨h3, h4⟩)
        · exact .inr (.inr h3)
    · rename_i hp
      have hr : ∀ u ∈ r, u.1 ≠ t := fun u hu e => by
        have := h1 u hu; rw [e] at this; exact hp this
      split
      · rename_i hpt
        split
        · rename_i h0
          constructor
          · intro h3; exact .inl ⟨List.mem_cons_of_mem _ h3, hr q h3⟩
          · rintro (⟨h3, h4⟩ | h3)
            · rcases List.mem_cons.1 h3 with h5 | h5
              · rw [h5] at h4; exact absurd hpt h4
              · exact h5
            · exact absurd h0 h3.2
        · rename_i h0
          rw [List.mem_cons]
          constructor
          · rintro (h3 | h3)
            · exact .inr ⟨h3, h0⟩
            · exact .inl ⟨List.mem_cons_of_mem _ h3, hr q h3⟩
          · rintro (⟨h3, h4⟩ | h3)
            · rcases List.mem_cons.1 h3 with h5 | h5
              · rw [h5] at h4; exact absurd hpt h4
              · exact .inr h5
            · exact .inl h3.1
      · rename_i hpt
        have hall : ∀ u ∈ p :: r, u.1 ≠ t := fun u hu => by
          rcases List.mem_cons.1 hu with h5 | h5
          · rw [h5]; exact hpt
          · exact hr u h5
        split
        · rename_i h0
          constructor
          · intro h3; exact .inl ⟨h3, hall q h3⟩
          · rintro (h3 | h3)
            · exact h3.1
            · exact absurd h0 h3.2
        · rename_i h0
          rw [List.mem_cons]
          constructor
          · rintro (h3 | h3)
            · exact .inr ⟨h3, h0⟩
            · exact .inl ⟨h3, hall q h3⟩
          · rintro (h3 | h3)
            · exact .inr h3.1
            · exact .inl h3.1
theorem setC_asc {C : List Ct} (h : AscC C) (t : St) (n : Int) : AscC (setC C t n) := by
  induction C with
  | nil => unfold setC; split <;> simp [AscC]
  | cons p r ih =>
    obtain ⟨h1, h2⟩ := List.pairwise_cons.1 h
    unfold setC
    split
    · rename_i hp
      refine List.pairwise_cons.2 ⟨fun q hq => ?_, ih h2⟩
      rcases (mem_setC h2).1 hq with h3 | h3
      · exact h1 q h3.1
      · rw [h3.1]; exact hp
    · rename_i hp
      split
      · rename_i hpt
        split
        · exact h2
        · exact List.pairwise_cons.2 ⟨fun q hq => by rw [← hpt]; exact h1 q hq, h2⟩
      · rename_i hpt
        split
        · exact h
        · refine List.pairwise_cons.2 ⟨fun q hq => ?_, h⟩
          have htp : t.aheadB p.1 = true := by
            cases hq' : t.aheadB p.1 with
            | true => rfl
            | false => exact absurd (ahead_tri (by simpa using hp) hq') hpt
          rcases List.mem_cons.1 hq with h3 | h3
          · rw [h3]; exact htp
          · exact ahead_trans htp (h1 q h3)
theorem setC_len (C : List Ct) (t : St) (n : Int) : (setC C t n).length ≤ C.length + 1 := by
  induction C with
  | nil => unfold setC; split <;> simp
  | cons p r ih =>
    unfold setC
    repeat' split
    all_goals simp only [List.length_cons] at *
    all_goals omega
theorem of_setC {C : List Ct} (h : AscC C) (t : St) (n : Int) (u : St) : ofC (setC C t n) u = if u = t then n else ofC C u := by
  have ha := setC_asc h t n
  split
  · rename_i hu
    subst hu
    by_cases h0 : n = 0
    · refine (of_not fun p hp e => ?_).trans h0.symm
      rcases (mem_setC h).1 hp with h1 | h1
      · exact h1.2 e
      · exact h1.2 h0
    · exact of_mem ha.nodup (p := (u, n)) ((mem_setC h).2 (.inr ⟨rfl, h0⟩))
  · rename_i hu
    by_cases hx : ∃ p, p ∈ C ∧ p.1 = u
    · obtain ⟨p, hp, rfl⟩ := hx
      rw [of_mem h.nodup hp]
      exact of_mem ha.nodup ((mem_setC h).2 (.inl ⟨hp, hu⟩))
    · have hn : ∀ p ∈ C, p.1 ≠ u := fun p hp e => hx ⟨p, hp, e⟩
      rw [of_not hn]
      refine of_not fun p hp e => ?_
      rcases (mem_setC h).1 hp with h1 | h1
      · exact hn p h1.1 e
      · rw [h1.1] at e; exact hu e.symm
theorem mem_delM {C : List Ct} {t : St} {q : Ct} : q ∈ delM C t ↔ q ∈ C ∧ q.1 ≠ t := by simp [delM]
theorem delM_asc {C : List Ct} (h : AscC C) (t : St) : AscC (delM C t) := List.Pairwise.filter _ h
theorem del_setC {C : List Ct} (h : AscC C) (t : St) : delM C t = setC C t 0 := (delM_asc h t).uniq (setC_asc h t 0) fun q => by
  rw [mem_delM, mem_setC h]
  simp
theorem put_setC {C : List Ct} (h : AscC C) {t : St} {n : Int} (hn : n ≠ 0) : ((t, n) :: delM C t).Perm (setC C t n) := by
  refine (List.perm_ext_iff_of_nodup ?_ (pw_nodup (setC_asc h t n).nodup)).2 fun q => ?_
  · refine List.nodup_cons.2 ⟨fun hm => (mem_delM.1 hm).2 rfl, pw_nodup (delM_asc h t).nodup⟩
  · rw [List.mem_cons, mem_delM, mem_setC h]
    constructor
    · rintro (h1 | h1)
      · exact .inr ⟨h1, hn⟩
      · exact .inl h1
    · rintro (h1 | h1)
      · exact .inr h1
      · exact .inl h1.1
/-! ### One more count: what Add answers, and what is there then -/
def addE (C : List Ct) (t : St) (n : Int) : Int := if t.rightB = false then 1 else if 1000000000 < ofC C t + n ∨ ofC C t + n < -1000000000 then 9 else 0
def addC (C : List Ct) (t : St) (n : Int) : List Ct := if addE C t n = 0 then setC C t (ofC C t + n) else C
theorem addE_wrong {C : List Ct} {t : St} {n : Int} (h : t.rightB = false) : addE C t n = 1 := by unfold addE; rw [if_pos h]
theorem addE_over {C : List Ct} {t : St} {n : Int} (h : t.rightB = true) (ho : 1000000000 < ofC C t + n ∨ ofC C t + n < -1000000000) : addE C t n = 9 := by unfold addE; rw [if_neg (by rw [h]; simp), if_pos ho]
theorem addE_ok {C : List Ct} {t : St} {n : Int} (h : t.rightB = true) (ho : ¬ (1000000000 < ofC C t + n ∨ ofC C t + n < -1000000000)) : addE C t n = 0 := by unfold addE; rw [if_neg (by rw [h]; simp), if_neg ho]
theorem addC_no {C : List Ct} {t : St} {n : Int} (h : ¬ addE C t n = 0) : addC C t n = C := if_neg h
theorem addC_yes {C : List Ct} {t : St} {n : Int} (h : addE C t n = 0) : addC C t n = setC C t (ofC C t + n) := if_pos h
theorem add_iff {C : List Ct} {t : St} {n : Int} : addE C t n = 0 ↔ t.rightB = true ∧ -1000000000 ≤ ofC C t + n ∧ ofC C t + n ≤ 1000000000 := by
  unfold addE
  split
  · rename_i h; constructor
    · intro h1; cases h1
    · intro h1; rw [h] at h1; cases h1.1
  · rename_i h
    have : t.rightB = true := by simpa using h
    split
    · rename_i h1; constructor
      · intro h2; cases h2
      · intro h2; omega
    · rename_i h1; exact ⟨fun _ => ⟨this, by omega, by omega⟩, fun _ => rfl⟩
theorem BagOK.add {C : List Ct} (h : BagOK C) (t : St) (n : Int) : BagOK (addC C t n) := by
  by_cases h0 : addE C t n = 0
  · rw [addC_yes h0]
    have h1 := add_iff.1 h0
    refine ⟨setC_asc h.asc _ _, fun p hp => ?_⟩
    rcases (mem_setC h.asc).1 hp with h2 | h2
    · exact h.ok p h2.1
    · rw [h2.1]; exact ⟨h2.2, h1.2.1, h1.2.2, h1.1⟩
  · rw [addC_no h0]; exact h
theorem addC_len (C : List Ct) (t : St) (n : Int) : (addC C t n).length ≤ C.length + 1 := by
  unfold addC; split
  · exact setC_len _ _ _
  · omega
theorem of_add {C : List Ct} (h : AscC C) (t : St) (n : Int) (u : St) : ofC (addC C t n) u = if u = t ∧ addE C t n = 0 then ofC C t + n else ofC C u := by
  by_cases h0 : addE C t n = 0
  · rw [addC_yes h0, of_setC h]
    simp [h0]
  · rw [addC_no h0, if_neg (fun h => h0 h.2)]
/-! ### What is read off -/
def posL (C : List Ct) : List St := (C.filter fun p => decide (0 < p.2)).map (·.1)
def lackB (C : List Ct) : Bool := C.any fun p => decide (p.2 < 0)
theorem mem_posL {C : List Ct} {t : St} : t ∈ posL C ↔ ∃ p ∈ C, 0 < p.2 ∧ p.1 = t := by
  unfold posL
  rw [List.mem_map]
  constructor
  · rintro ⟨p, hp, rfl⟩
    have := List.mem_filter.1 hp
    exact ⟨p, this.1, by simpa using this.2, rfl⟩
  · rintro ⟨p, hp, h1, rfl⟩
    exact ⟨p, List.mem_filter.2 ⟨hp, by simpa using h1⟩, rfl⟩
theorem posL_len (C : List Ct) : (posL C).length ≤ C.length := by unfold posL; rw [List.length_map]; exact List.length_filter_le _ _
theorem lack_iff {C : List Ct} : lackB C = true ↔ ∃ p ∈ C, p.2 < 0 := by unfold lackB; rw [List.any_eq_true]; simp
theorem lack_cons (p : Ct) (C : List Ct) : lackB (p :: C) = (decide (p.2 < 0) || lackB C) := rfl
theorem lack_perm {C C' : List Ct} (h : C.Perm C') : lackB C = lackB C' := by
  rw [Bool.eq_iff_iff, lack_iff, lack_iff]
  constructor
  · rintro ⟨p, h1, h2⟩; exact ⟨p, h.mem_iff.1 h1, h2⟩
  · rintro ⟨p, h1, h2⟩; exact ⟨p, h.mem_iff.2 h1, h2⟩
/-- A bag: a struct with a map in it. -/
def BagV (p g : Nat) (C : List Ct) (w : World) : Prop := Blk w p 52 #[.map (some g)] ∧ MpV g (encM stV iV C) w ∧ BagOK C
theorem blk_loc {p : Nat} {t : TypeId} {cs : Array Value} : Loc [p] (fun w => Blk w p t cs) := fun _ _ hk h =>
  ⟨(hk p (by simp)).trans h, fun g hg => by simp only [List.mem_singleton] at hg; subst hg; exact Blk.lt h⟩
theorem BagV.loc (p g : Nat) (C : List Ct) : Loc [p, g] (BagV p g C) := fun w w' hk ⟨h1, h2, h3⟩ => by
  have e1 := blk_loc w w' (fun k hk' => hk k (by simp only [List.mem_singleton] at hk'; simp [hk'])) h1
  have e2 := MpV.loc g _ w w' (fun k hk' => hk k (by simp only [List.mem_singleton] at hk'; simp [hk'])) h2
  refine ⟨⟨e1.1, e2.1, h3⟩, fun k hk' => ?_⟩
  simp only [List.mem_cons, List.not_mem_nil, or_false] at hk'
  rcases hk' with rfl | rfl
  · exact e1.2 k (by simp)
  · exact e2.2 k (by simp)
theorem BagV.ne {p g : Nat} {C : List Ct} {w : World} (h : BagV p g C w) : p ≠ g := by
  rintro rfl
  obtain ⟨h1, ⟨es, clock, h2, _⟩, _⟩ := h
  have : w.heap[p]? = some (.cells #[.map (some p)] 52) := h1
  rw [this] at h2
  cases h2
theorem stKeys : KeyOK Try.prog 30 (fun v => ∃ a, v = stV a) :=
  keyOK_of Try.underlying30 (fun _ _ => rfl) (fun w em a => by
    have hi : ∀ v : Int, (Instr.checkKey em 9999 3 (.int .i64 v)).run Try.prog w = .ok () w := fun v => MapKept.run_checkKey Try.underlying3 (by simp [MapKept.IsKey]) em 9998
    show (Instr.checkKey em (9999 + 1) _ _).run _ _ = _
    rw [Instr.checkKey]
    unfold stV
    simp [go_sem, hi]) (fun w a b => eqS30 a b w) (fun a => by
    unfold stV; simp [Instr.sameBits]) stV_inj
theorem mtBag : MapEn Try.prog 50 30 3 stV iV (.int .i64 0) :=
  ⟨Try.underlying50, ⟨_, stKeys, fun a => ⟨a, rfl⟩⟩, stV_inj, fun w => by kernel_rfl⟩
end Go.Proofs.Ytplnpjhgnhndpaa
