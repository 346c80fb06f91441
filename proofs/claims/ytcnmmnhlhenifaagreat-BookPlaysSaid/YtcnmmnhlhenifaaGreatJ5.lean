/- Put together: Bg, Km, Bh, Bl, Kb, Ko, Bm, Bv, Rr, Rp, Sp, El, Am, Mk, Ue. -/
import Derived.Test.YtcnmmnhlhenifaaGreatJ2
import Derived.Test.YtcnmmnhlhenifaaGreatSc
import Derived.Test.YtcnmmnhlhenifaaGreatCt
import Derived.Test.YtcnmmnhlhenifaaGreatJ3
import Derived.Test.YtcnmmnhlhenifaaGreatJ4
import Derived.Test.YtcnmmnhlhenifaaGreatWn
import Derived.Test.YtcnmmnhlhenifaaGreatSw
import Derived.Test.YtcnmmnhlhenifaaGreatJ1
import Derived.Shelf.GgSortFunc.SmallK
import Derived.Shelf.GgSortFunc.Tiny
import Derived.Laws.MakeOwn
import Derived.Laws.CopyRow
namespace Go.Proofs.YtcnmmnhlhenifaaGreat
open Go.RowKit
set_option maxRecDepth 100000
set_option linter.unusedSimpArgs false
set_option linter.unusedVariables false
def stV (s : St) : Value := .agg #[.int .i64 s.e, .int .i64 s.r]
def iV (n : Int) : Value := .int .i64 n
theorem stV_inj (a b : St) (h : stV a = stV b) : a = b := by
  simp only [stV, Value.agg.injEq, Array.mk.injEq, List.cons.injEq, Value.int.injEq] at h
  exact St.eq_iff.2 ⟨h.1.2, h.2.1.2⟩
def ofC (C : List Ct) (t : St) : Int := (getM C t).getD 0
theorem of_elim (C : List Ct) (t : St) : (getM C t).elim (.int .i64 0) iV = .int .i64 (ofC C t) := by
  unfold ofC; cases getM C t <;> rfl
def AscC (C : List Ct) : Prop := C.Pairwise fun p q => p.1.aheadB q.1 = true
structure BagOK (C : List Ct) : Prop where
  asc : AscC C
  ok : ∀ p ∈ C, p.2 ≠ 0 ∧ -1000000000 ≤ p.2 ∧ p.2 ≤ 1000000000 ∧ p.1.rightB = true
theorem AscC.nodup {C : List Ct} (h : AscC C) : C.Pairwise (fun p q => p.1 ≠ q.1) := h.imp fun h e => by rw [e, ahead_irr] at h; cases h
theorem pw_nodup {C : List Ct} (h : C.Pairwise (fun p q => p.1 ≠ q.1)) : C.Nodup := h.imp fun h e => h (by rw [e])
theorem AscC.keys {C : List Ct} (h : AscC C) : Asc (C.map (·.1)) := fun i hi => by
  have hp : (C.map (·.1)).Pairwise (fun a b => St.aheadB a b = true) := by rw [List.pairwise_map]; exact h
  rw [List.length_map] at hi
  have := List.pairwise_iff_getElem.1 hp i (i + 1) (by simpa using (show i < C.length by omega)) (by simpa using hi) (by omega)
  rwa [atS_eq (by simpa using (show i < C.length by omega)), atS_eq (by simpa using hi)]
theorem AscC.uniq : ∀ {L K : List Ct}, AscC L → AscC K → (∀ p, p ∈ L ↔ p ∈ K) → L = K
  | [], [], _, _, _ => rfl
  | [], k :: K, _, _, h => by have := (h k).2 (by simp); simp at this
  | l :: L, [], _, _, h => by have := (h l).1 (by simp); simp at this
  | l :: L, k :: K, hl, hk, h => by
    obtain ⟨l1, l2⟩ := List.pairwise_cons.1 hl
    obtain ⟨k1, k2⟩ := List.pairwise_cons.1 hk
    have e : l = k := by
      rcases List.mem_cons.1 ((h l).1 (by simp)) with h1 | h1
      · exact h1
      · rcases List.mem_cons.1 ((h k).2 (by simp)) with h2 | h2
        · exact h2.symm
        · have := ahead_trans (k1 l h1) (l1 k h2)
          rw [ahead_irr] at this; cases this
    subst e
    congr 1
    refine AscC.uniq l2 k2 fun p => ⟨fun hp => ?_, fun hp => ?_⟩
    · rcases List.mem_cons.1 ((h p).1 (by simp [hp])) with h1 | h1
      · subst h1; have := l1 _ hp; rw [ahead_irr] at this; cases this
      · exact h1
    · rcases List.mem_cons.1 ((h p).2 (by simp [hp])) with h1 | h1
      · subst h1; have := k1 _ hp; rw [ahead_irr] at this; cases this
      · exact h1
theorem of_mem {C : List Ct} (h : C.Pairwise (fun p q => p.1 ≠ q.1)) {p : Ct} (hp : p ∈ C) : ofC C p.1 = p.2 := by
  unfold ofC; rw [getM_some h (show (p.1, p.2) ∈ C from hp)]; rfl
theorem of_not {C : List Ct} {t : St} (h : ∀ p ∈ C, p.1 ≠ t) : ofC C t = 0 := by unfold ofC; rw [getM_none h]; rfl
theorem of_pos {C : List Ct} {t : St} (h : ofC C t ≠ 0) : (t, ofC C t) ∈ C := by
  unfold ofC at h ⊢
  cases hg : getM C t with
  | none => rw [hg] at h; exact absurd rfl h
  | some v => exact getM_mem hg
theorem BagOK.mem {C : List Ct} (h : BagOK C) {p : Ct} : p ∈ C ↔ ofC C p.1 = p.2 ∧ p.2 ≠ 0 := by
  constructor
  · intro hp; exact ⟨of_mem h.asc.nodup hp, (h.ok p hp).1⟩
  · rintro ⟨h1, h2⟩
    have := of_pos (C := C) (t := p.1) (by rw [h1]; exact h2)
    rw [h1] at this; exact this
theorem BagOK.ext {C K : List Ct} (h : BagOK C) (hk : BagOK K) (he : ∀ t, ofC C t = ofC K t) : C = K := h.asc.uniq hk.asc fun p => by rw [h.mem, hk.mem, he]
theorem BagOK.bound {C : List Ct} (h : BagOK C) (t : St) : -1000000000 ≤ ofC C t ∧ ofC C t ≤ 1000000000 := by
  by_cases h0 : ofC C t = 0
  · omega
  · have := (h.ok _ (of_pos h0)).2
    exact ⟨this.1, this.2.1⟩
theorem bag_nil : BagOK [] := ⟨List.Pairwise.nil, fun p hp => by cases hp⟩
def setC : List Ct → St → Int → List Ct
  | [], t, n => if n = 0 then [] else [(t, n)]
  | p :: r, t, n => if p.1.aheadB t then p :: setC r t n else if p.1 = t then (if n = 0 then r else (t, n) :: r) else if n = 0 then p :: r else (t, n) :: p :: r
theorem mem_setC {C : List Ct} (h : AscC C) {t : St} {n : Int} {q : Ct} : q ∈ setC C t n ↔ (q ∈ C ∧ q.1 ≠ t) ∨ (q = (t, n) ∧ n ≠ 0) := by
  induction C with
  | nil =>
    unfold setC
    split <;> rename_i h0 <;> simp [h0]
  | cons p r ih =>
    obtain ⟨h1, h2⟩ := List.pairwise_cons.1 h
    unfold setC
    split
    · rename_i hp
      rw [List.mem_cons, List.mem_cons, ih h2]
      constructor
      · rintro (h3 | h3 | h3)
        · exact .inl ⟨.inl h3, fun e => by rw [← h3, e, ahead_irr] at hp; cases hp⟩
        · exact .inl ⟨.inr h3.1, h3.2⟩
        · exact .inr h3
      · rintro (⟨h3 | h3, h4⟩ | h3)
        · exact .inl h3
        · exact .inr (.inl ⟨h3, h4⟩)
        · exact .inr (.inr h3)
    · rename_i hp
      have hr : ∀ u ∈ r, u.1 ≠ t := fun u hu e => by
        have := h1 u hu; rw [e] at this; exact hp this
      split
      · rename_i hpt
        split
        · rename_i h0
          constructor
          · intro h3; exact .inl ⟨List.mem_cons_of_mem _ h3, hr q h3⟩
          · rintro (⟨h3, h4⟩ | h3)
            · rcases List.mem_cons.1 h3 with h5 | h5
              · rw [h5] at h4; exact absurd hpt h4
              · exact h5
            · exact absurd h0 h3.2
        · rename_i h0
          rw [List.mem_cons]
          constructor
          · rintro (h3 | h3)
            · exact .inr ⟨h3, h0⟩
            · exact .inl ⟨List.mem_cons_of_mem _ h3, hr q h3⟩
          · rintro (⟨h3, h4⟩ | h3)
            · rcases List.mem_cons.1 h3 with h5 | h5
              · rw [h5] at h4; exact absurd hpt h4
              · exact .inr h5
            · exact .inl h3.1
      · rename_i hpt
        have hall : ∀ u ∈ p :: r, u.1 ≠ t := fun u hu => by
          rcases List.mem_cons.1 hu with h5 | h5
          · rw [h5]; exact hpt
          · exact hr u h5
        split
        · rename_i h0
          constructor
          · intro h3; exact .inl ⟨h3, hall q h3⟩
          · rintro (h3 | h3)
            · exact h3.1
            · exact absurd h0 h3.2
        · rename_i h0
          rw [List.mem_cons]
          constructor
          · rintro (h3 | h3)
            · exact .inr ⟨h3, h0⟩
            · exact .inl ⟨h3, hall q h3⟩
          · rintro (h3 | h3)
            · exact .inr h3.1
            · exact .inl h3.1
theorem setC_asc {C : List Ct} (h : AscC C) (t : St) (n : Int) : AscC (setC C t n) := by
  induction C with
  | nil => unfold setC; split <;> simp [AscC]
  | cons p r ih =>
    obtain ⟨h1, h2⟩ := List.pairwise_cons.1 h
    unfold setC
    split
    · rename_i hp
      refine List.pairwise_cons.2 ⟨fun q hq => ?_, ih h2⟩
      rcases (mem_setC h2).1 hq with h3 | h3
      · exact h1 q h3.1
      · rw [h3.1]; exact hp
    · rename_i hp
      split
      · rename_i hpt
        split
        · exact h2
        · exact List.pairwise_cons.2 ⟨fun q hq => by rw [← hpt]; exact h1 q hq, h2⟩
      · rename_i hpt
        split
        · exact h
        · refine List.pairwise_cons.2 ⟨fun q hq => ?_, h⟩
          have htp : t.aheadB p.1 = true := by
            cases hq' : t.aheadB p.1 with
            | true => rfl
            | false => exact absurd (ahead_tri (by simpa using hp) hq') hpt
          rcases List.mem_cons.1 hq with h3 | h3
          · rw [h3]; exact htp
          · exact ahead_trans htp (h1 q h3)
theorem setC_len (C : List Ct) (t : St) (n : Int) : (setC C t n).length ≤ C.length + 1 := by
  induction C with
  | nil => unfold setC; split <;> simp
  | cons p r ih =>
    unfold setC
    repeat' split
    all_goals simp only [List.length_cons] at *
    all_goals omega
theorem of_setC {C : List Ct} (h : AscC C) (t : St) (n : Int) (u : St) : ofC (setC C t n) u = if u = t then n else ofC C u := by
  have ha := setC_asc h t n
  split
  · rename_i hu
    subst hu
    by_cases h0 : n = 0
    · refine (of_not fun p hp e => ?_).trans h0.symm
      rcases (mem_setC h).1 hp with h1 | h1
      · exact h1.2 e
      · exact h1.2 h0
    · exact of_mem ha.nodup (p := (u, n)) ((mem_setC h).2 (.inr ⟨rfl, h0⟩))
  · rename_i hu
    by_cases hx : ∃ p, p ∈ C ∧ p.1 = u
    · obtain ⟨p, hp, rfl⟩ := hx
      rw [of_mem h.nodup hp]
      exact of_mem ha.nodup ((mem_setC h).2 (.inl ⟨hp, hu⟩))
    · have hn : ∀ p ∈ C, p.1 ≠ u := fun p hp e => hx ⟨p, hp, e⟩
      rw [of_not hn]
      refine of_not fun p hp e => ?_
      rcases (mem_setC h).1 hp with h1 | h1
      · exact hn p h1.1 e
      · rw [h1.1] at e; exact hu e.symm
theorem mem_delM {C : List Ct} {t : St} {q : Ct} : q ∈ delM C t ↔ q ∈ C ∧ q.1 ≠ t := by simp [delM]
theorem delM_asc {C : List Ct} (h : AscC C) (t : St) : AscC (delM C t) := List.Pairwise.filter _ h
theorem del_setC {C : List Ct} (h : AscC C) (t : St) : delM C t = setC C t 0 := (delM_asc h t).uniq (setC_asc h t 0) fun q => by
  rw [mem_delM, mem_setC h]
  simp
theorem put_setC {C : List Ct} (h : AscC C) {t : St} {n : Int} (hn : n ≠ 0) : ((t, n) :: delM C t).Perm (setC C t n) := by
  refine (List.perm_ext_iff_of_nodup ?_ (pw_nodup (setC_asc h t n).nodup)).2 fun q => ?_
  · refine List.nodup_cons.2 ⟨fun hm => (mem_delM.1 hm).2 rfl, pw_nodup (delM_asc h t).nodup⟩
  · rw [List.mem_cons, mem_delM, mem_setC h]
    constructor
    · rintro (h1 | h1)
      · exact .inr ⟨h1, hn⟩
      · exact .inl h1
    · rintro (h1 | h1)
      · exact .inr h1
      · exact .inl h1.1
def addE (C : List Ct) (t : St) (n : Int) : Int := if t.rightB = false then 1 else if 1000000000 < ofC C t + n ∨ ofC C t + n < -1000000000 then 9 else 0
def addC (C : List Ct) (t : St) (n : Int) : List Ct := if addE C t n = 0 then setC C t (ofC C t + n) else C
theorem addE_wrong {C : List Ct} {t : St} {n : Int} (h : t.rightB = false) : addE C t n = 1 := by unfold addE; rw [if_pos h]
theorem addE_over {C : List Ct} {t : St} {n : Int} (h : t.rightB = true) (ho : 1000000000 < ofC C t + n ∨ ofC C t + n < -1000000000) : addE C t n = 9 := by unfold addE; rw [if_neg (by rw [h]; simp), if_pos ho]
theorem addE_ok {C : List Ct} {t : St} {n : Int} (h : t.rightB = true) (ho : ¬ (1000000000 < ofC C t + n ∨ ofC C t + n < -1000000000)) : addE C t n = 0 := by unfold addE; rw [if_neg (by rw [h]; simp), if_neg ho]
theorem addC_no {C : List Ct} {t : St} {n : Int} (h : ¬ addE C t n = 0) : addC C t n = C := if_neg h
theorem addC_yes {C : List Ct} {t : St} {n : Int} (h : addE C t n = 0) : addC C t n = setC C t (ofC C t + n) := if_pos h
theorem add_iff {C : List Ct} {t : St} {n : Int} : addE C t n = 0 ↔ t.rightB = true ∧ -1000000000 ≤ ofC C t + n ∧ ofC C t + n ≤ 1000000000 := by
  unfold addE
  split
  · rename_i h; constructor
    · intro h1; cases h1
    · intro h1; rw [h] at h1; cases h1.1
  · rename_i h
    have : t.rightB = true := by simpa using h
    split
    · rename_i h1; constructor
      · intro h2; cases h2
      · intro h2; omega
    · rename_i h1; exact ⟨fun _ => ⟨this, by omega, by omega⟩, fun _ => rfl⟩
theorem BagOK.add {C : List Ct} (h : BagOK C) (t : St) (n : Int) : BagOK (addC C t n) := by
  by_cases h0 : addE C t n = 0
  · rw [addC_yes h0]
    have h1 := add_iff.1 h0
    refine ⟨setC_asc h.asc _ _, fun p hp => ?_⟩
    rcases (mem_setC h.asc).1 hp with h2 | h2
    · exact h.ok p h2.1
    · rw [h2.1]; exact ⟨h2.2, h1.2.1, h1.2.2, h1.1⟩
  · rw [addC_no h0]; exact h
theorem addC_len (C : List Ct) (t : St) (n : Int) : (addC C t n).length ≤ C.length + 1 := by
  unfold addC; split
  · exact setC_len _ _ _
  · omega
theorem of_add {C : List Ct} (h : AscC C) (t : St) (n : Int) (u : St) : ofC (addC C t n) u = if u = t ∧ addE C t n = 0 then ofC C t + n else ofC C u := by
  by_cases h0 : addE C t n = 0
  · rw [addC_yes h0, of_setC h]
    simp [h0]
  · rw [addC_no h0, if_neg (fun h => h0 h.2)]
def posL (C : List Ct) : List St := (C.filter fun p => decide (0 < p.2)).map (·.1)
def lackB (C : List Ct) : Bool := C.any fun p => decide (p.2 < 0)
theorem mem_posL {C : List Ct} {t : St} : t ∈ posL C ↔ ∃ p ∈ C, 0 < p.2 ∧ p.1 = t := by
  unfold posL
  rw [List.mem_map]
  constructor
  · rintro ⟨p, hp, rfl⟩
    have := List.mem_filter.1 hp
    exact ⟨p, this.1, by simpa using this.2, rfl⟩
  · rintro ⟨p, hp, h1, rfl⟩
    exact ⟨p, List.mem_filter.2 ⟨hp, by simpa using h1⟩, rfl⟩
theorem posL_len (C : List Ct) : (posL C).length ≤ C.length := by unfold posL; rw [List.length_map]; exact List.length_filter_le _ _
def BagV (p g : Nat) (C : List Ct) (w : World) : Prop := Blk w p 130 #[.map (some g)] ∧ MpV g (encM stV iV C) w ∧ BagOK C
theorem BagV.loc (p g : Nat) (C : List Ct) : Loc [p, g] (BagV p g C) := fun w w' hk ⟨h1, h2, h3⟩ => by
  have e1 := blk_loc w w' (fun k hk' => hk k (by simp only [List.mem_singleton] at hk'; simp [hk'])) h1
  have e2 := MpV.loc g _ w w' (fun k hk' => hk k (by simp only [List.mem_singleton] at hk'; simp [hk'])) h2
  refine ⟨⟨e1.1, e2.1, h3⟩, fun k hk' => ?_⟩
  simp only [List.mem_cons, List.not_mem_nil, or_false] at hk'
  rcases hk' with rfl | rfl
  · exact e1.2 k (by simp)
  · exact e2.2 k (by simp)
theorem BagV.ne {p g : Nat} {C : List Ct} {w : World} (h : BagV p g C w) : p ≠ g := by
  rintro rfl
  obtain ⟨h1, ⟨es, clock, h2, _⟩, _⟩ := h
  have : w.heap[p]? = some (.cells #[.map (some p)] 130) := h1
  rw [this] at h2
  cases h2
theorem stKeys : KeyOK Tryz.prog 37 (fun v => ∃ a, v = stV a) :=
  keyOK_of Tryz.underlying37 (fun _ _ => rfl) (fun w em a => by
    have hi : ∀ v : Int, (Instr.checkKey em 9999 3 (.int .i64 v)).run Tryz.prog w = .ok () w := fun v => MapKept.run_checkKey Tryz.underlying3 (by simp [MapKept.IsKey]) em 9998
    show (Instr.checkKey em (9999 + 1) _ _).run _ _ = _
    rw [Instr.checkKey]
    unfold stV
    simp [go_sem, hi]) (fun w a b => eqS37 a b w) (fun a => by
    unfold stV; simp [Instr.sameBits]) stV_inj
theorem mtBag : MapEn Tryz.prog 128 37 3 stV iV (.int .i64 0) :=
  ⟨Tryz.underlying128, ⟨_, stKeys, fun a => ⟨a, rfl⟩⟩, stV_inj, fun w => by kernel_rfl⟩
end Go.Proofs.YtcnmmnhlhenifaaGreat
namespace Go.Proofs.YtcnmmnhlhenifaaGreat
open Go.RowKit
set_option maxRecDepth 100000
set_option linter.unusedSimpArgs false
set_option linter.unusedVariables false
abbrev Bags := List (List Ct)
def atK (B : Bags) (i : Nat) : List Ct := B.getD i []
theorem atK_eq {B : Bags} {i : Nat} (h : i < B.length) : atK B i = B[i] := by unfold atK; rw [List.getD_eq_getElem?_getD, List.getElem?_eq_getElem h]; rfl
theorem atK_out {B : Bags} {i : Nat} (h : B.length ≤ i) : atK B i = [] := by unfold atK; rw [List.getD_eq_getElem?_getD, List.getElem?_eq_none h]; rfl
theorem atK_set {B : Bags} {i j : Nat} {C : List Ct} (h : i < B.length) : atK (B.set i C) j = if i = j then C else atK B j := by
  unfold atK
  rw [List.getD_eq_getElem?_getD, List.getD_eq_getElem?_getD, List.getElem?_set]
  split
  · rename_i e; subst e; simp [h]
  · rfl
def addTE (L : List (List (List St))) (B : Bags) (p : Po) (x : Int) : Int := if rightC L p = true then addE (atK B p.n.toNat) p.t x else 1
def addTB (L : List (List (List St))) (B : Bags) (p : Po) (x : Int) : Bags := if rightC L p = true then B.set p.n.toNat (addC (atK B p.n.toNat) p.t x) else B
def atT (B : Bags) (k : Int) : List Ct := if 0 ≤ k ∧ k < (B.length : Int) then atK B k.toNat else []
def nodePl (L : List (List (List St))) (B : Bags) (k : Int) (i : Nat) : List St := (posL (atK B i)).flatMap fun t => placesC L ⟨(i : Int), t⟩ k
def allPl (L : List (List (List St))) (B : Bags) (k : Int) : List St := (List.range B.length).flatMap fun i => nodePl L B k i
def frontT (L : List (List (List St))) (B : Bags) (k : Int) : List St := minL (allPl L B k)
def passedT (L : List (List (List St))) (B : Bags) (p : Po) : Bool := rightC L p && !covB (frontT L B p.n) p.t
section
variable {L : List (List (List St))} {B : Bags} {p q : Po} {x k : Int}
theorem addT_no (h : rightC L p = false) : addTE L B p x = 1 ∧ addTB L B p x = B := by unfold addTE addTB; rw [h]; exact ⟨rfl, rfl⟩
theorem addT_yes (h : rightC L p = true) : addTE L B p x = addE (atK B p.n.toNat) p.t x ∧ addTB L B p x = B.set p.n.toNat (addC (atK B p.n.toNat) p.t x) := by unfold addTE addTB; rw [h]; exact ⟨rfl, rfl⟩
theorem addT_len : (addTB L B p x).length = B.length := by unfold addTB; split <;> simp
theorem at_no (h : ¬ (0 ≤ k ∧ k < (B.length : Int))) : atT B k = [] := if_neg h
theorem at_yes (h : 0 ≤ k ∧ k < (B.length : Int)) : atT B k = atK B k.toNat := if_pos h
def OKs (B : Bags) : Prop := ∀ i, i < B.length → BagOK (atK B i)
theorem ok_new (n : Nat) : OKs (List.replicate n []) := fun i hi => by
  rw [atK_eq hi, List.getElem_replicate]; exact bag_nil
theorem ok_add (h : OKs B) (p : Po) (x : Int) : OKs (addTB L B p x) := fun i hi => by
  rw [addT_len] at hi
  cases hr : rightC L p with
  | false => rw [(addT_no hr).2]; exact h i hi
  | true =>
    rw [(addT_yes hr).2]
    by_cases hb : p.n.toNat < B.length
    · rw [atK_set hb]
      split
      · rename_i e; subst e; exact (h _ hb).add _ _
      · exact h i hi
    · rw [List.set_eq_of_length_le (by omega)]; exact h i hi
def ofT (B : Bags) (p : Po) : Int := ofC (atK B p.n.toNat) p.t
theorem of_addT (hL : L.length = B.length) (h : OKs B) (hq : 0 ≤ q.n ∧ q.n < (B.length : Int)) : ofT (addTB L B p x) q = if q = p ∧ addTE L B p x = 0 then ofT B p + x else ofT B q := by
  cases hr : rightC L p with
  | false =>
    rw [(addT_no hr).2, if_neg]
    rintro ⟨_, h2⟩; rw [(addT_no hr).1] at h2; cases h2
  | true =>
    have hp := (rightC_at hr).2.1
    unfold ofT
    rw [(addT_yes hr).2, (addT_yes hr).1, atK_set (by omega)]
    by_cases hn : p.n.toNat = q.n.toNat
    · rw [if_pos hn, of_add (h _ (by omega)).asc]
      have en : p.n = q.n := by omega
      by_cases ht : q.t = p.t ∧ addE (atK B p.n.toNat) p.t x = 0
      · rw [if_pos ht, if_pos ⟨by cases p; cases q; simp_all, ht.2⟩]
      · rw [if_neg ht, if_neg (fun z => ht ⟨by rw [z.1], z.2⟩), hn]
    · rw [if_neg hn, if_neg]
      rintro ⟨rfl, _⟩; exact hn rfl
theorem mem_pos {C : List Ct} (h : BagOK C) {t : St} : t ∈ posL C ↔ 0 < ofC C t := by
  rw [mem_posL]
  constructor
  · rintro ⟨c, hc, h1, rfl⟩; rw [of_mem h.asc.nodup hc]; exact h1
  · intro h1; exact ⟨(t, ofC C t), of_pos (by omega), h1, rfl⟩
theorem addT_iff : addTE L B p x = 0 ↔ rightC L p = true ∧ -1000000000 ≤ ofT B p + x ∧ ofT B p + x ≤ 1000000000 := by
  cases hr : rightC L p with
  | false => rw [(addT_no hr).1]; simp
  | true =>
    rw [(addT_yes hr).1, add_iff]
    have := (rightC_at hr).2.2.1
    unfold ofT
    exact ⟨fun h => ⟨rfl, h.2⟩, fun h => ⟨this, h.2⟩⟩
end
section
variable {n : Nat} {E : List Ed} {B : Bags} {p q r : Po} {x : Int}
end
def cntP (T : List Po) (q : Po) : Nat := T.countP (fun u => decide (u = q))
structure RepT (L : List (List (List St))) (B : Bags) (T : List Po) : Prop where
  ok : OKs B
  len : B.length = L.length
  of : ∀ q : Po, 0 ≤ q.n ∧ q.n < (B.length : Int) → ofT B q = (cntP T q : Int)
  right : ∀ q ∈ T, rightC L q = true
section
variable {L : List (List (List St))} {B : Bags} {T : List Po} {p q : Po} {x : Int}
theorem cnt_app (T : List Po) (q u : Po) : cntP (T ++ [q]) u = cntP T u + if q = u then 1 else 0 := by
  unfold cntP; rw [List.countP_append, List.countP_singleton]; simp
theorem cnt_off {k : Nat} (hk : k < T.length) (u : Po) : cntP T u = cntP (T.take k ++ T.drop (k + 1)) u + if T[k] = u then 1 else 0 := by
  unfold cntP
  conv => lhs; rw [← List.take_append_drop k T, List.drop_eq_getElem_cons hk]
  rw [List.countP_append, List.countP_append, List.countP_cons]
  simp only [decide_eq_true_eq]
  omega
theorem cnt_mem (h : q ∈ T) : 0 < cntP T q := by unfold cntP; rw [List.countP_pos_iff]; exact ⟨q, h, by simp⟩
theorem cnt_len (T : List Po) (q : Po) : cntP T q ≤ T.length := List.countP_le_length
theorem RepT.start (hL : L.length = B.length) (hB : OKs B) (h : ∀ q : Po, 0 ≤ q.n ∧ q.n < (B.length : Int) → ofT B q = 0) : RepT L B [] := ⟨hB, hL.symm, fun q hq => by rw [h q hq]; rfl, fun q hq => by cases hq⟩
theorem RepT.inn (h : RepT L B T) (hq : q ∈ T) : (0 ≤ q.n ∧ q.n < (B.length : Int)) ∧ 0 < ofT B q := by
  have h1 := (rightC_at (h.right q hq)).2.1
  rw [← h.len] at h1
  have := cnt_mem hq
  exact ⟨h1, by rw [h.of q h1]; omega⟩
theorem RepT.addOK (h : RepT L B T) (hr : rightC L q = true) (hl : T.length < 1000) : addTE L B q 1 = 0 := by
  have h1 := (rightC_at hr).2.1
  rw [← h.len] at h1
  have h2 := cnt_len T q
  rw [addT_iff, h.of q h1]
  exact ⟨hr, by omega⟩
theorem RepT.offOK (h : RepT L B T) (hq : q ∈ T) (hl : T.length < 1000) : addTE L B q (-1) = 0 := by
  have hr := h.right q hq
  have h1 := (rightC_at hr).2.1
  rw [← h.len] at h1
  have h2 := cnt_len T q
  rw [addT_iff, h.of q h1]
  exact ⟨hr, by omega⟩
theorem RepT.add (h : RepT L B T) (hr : rightC L q = true) (hl : T.length < 1000) : RepT L (addTB L B q 1) (T ++ [q]) := by
  refine ⟨ok_add h.ok q 1, by rw [addT_len]; exact h.len, fun u hu => ?_, fun u hu => ?_⟩
  · rw [addT_len] at hu
    rw [of_addT h.len.symm h.ok hu, cnt_app]
    have h1 := (rightC_at hr).2.1
    rw [← h.len] at h1
    by_cases e : u = q
    · subst e
      rw [if_pos ⟨rfl, h.addOK hr hl⟩, if_pos rfl, h.of u hu]; omega
    · rw [if_neg (fun z => e z.1), if_neg (fun z => e z.symm), h.of u hu]; omega
  · rcases List.mem_append.1 hu with hu | hu
    · exact h.right u hu
    · rw [List.mem_singleton.1 hu]; exact hr
theorem RepT.off (h : RepT L B T) {k : Nat} (hk : k < T.length) (hl : T.length < 1000) : RepT L (addTB L B T[k] (-1)) (T.take k ++ T.drop (k + 1)) := by
  have hm : T[k] ∈ T := List.getElem_mem hk
  refine ⟨ok_add h.ok _ _, by rw [addT_len]; exact h.len, fun u hu => ?_, fun u hu => ?_⟩
  · rw [addT_len] at hu
    rw [of_addT h.len.symm h.ok hu]
    have hc := cnt_off hk u
    by_cases e : u = T[k]
    · rw [if_pos ⟨e, h.offOK hm hl⟩, ← e, h.of u hu]
      rw [if_pos e.symm] at hc; omega
    · rw [if_neg (fun z => e z.1), h.of u hu]
      rw [if_neg (fun z => e z.symm)] at hc; omega
  · rcases List.mem_append.1 hu with hu | hu
    · exact h.right u (List.mem_of_mem_take hu)
    · exact h.right u (List.mem_of_mem_drop hu)
theorem RepT.none (h : RepT L B []) : ∀ i, i < B.length → posL (atK B i) = [] := fun i hi => by
  rw [List.eq_nil_iff_forall_not_mem]
  intro t ht
  have h1 := (mem_pos (h.ok i hi)).1 ht
  have h2 := h.of ⟨(i : Int), t⟩ ⟨by simp, by simp; omega⟩
  simp [ofT, cntP] at h2
  omega
end
def foldT (L : List (List (List St))) (B : Bags) (l : List (Po × Int)) : Bags := l.foldl (fun b c => addTB L b c.1 c.2) B
def sumP (L : List (List (List St))) (l : List (Po × Int)) (q : Po) : Int := (l.map fun c => if q = c.1 ∧ rightC L c.1 = true then c.2 else 0).sum
section
variable {L : List (List (List St))} {B : Bags} {l : List (Po × Int)} {q : Po}
end
end Go.Proofs.YtcnmmnhlhenifaaGreat
namespace Go.Proofs.YtcnmmnhlhenifaaGreat
open Go.RowKit
set_option maxRecDepth 100000
set_option linter.unusedSimpArgs false
set_option linter.unusedVariables false
theorem eqCt (a b : Ct) (w : World) : (Op.equalIn 10000 57 (.agg #[.int .i64 a.1.e, .int .i64 a.1.r, .int .i64 a.2]) (.agg #[.int .i64 b.1.e, .int .i64 b.1.r, .int .i64 b.2])).run Tryz.prog w = .ok (decide (a = b)) w := by
  have h : decide (a = b) = ((decide (a.1.e = b.1.e) && decide (a.1.r = b.1.r)) && decide (a.2 = b.2)) := by
    rw [Bool.eq_iff_iff]; simp [Prod.ext_iff, St.eq_iff]
  rw [h]
  simp [go_sem]
  repeat' split
  all_goals simp_all
theorem take_snocC {L : List Ct} {i : Int} (h0 : 0 ≤ i) (h : i < (L.length : Int)) : L.take (i + 1).toNat = L.take i.toNat ++ [atC L i.toNat] := take_snocE (E := encC) h0 h
theorem ext_atC {A B : List Ct} {i : Int} (hl : A.length = B.length) (h : ∀ k, k < i.toNat → atC A k = atC B k) (hi : ¬ i < (A.length : Int)) : A = B := ext_atE (E := encC) hl h hi
theorem of_hit {C : List Ct} {t : St} {i : Int} (h0 : 0 ≤ i) (h : i < (C.length : Int)) (hb : ∀ k, k < i.toNat → ¬ (atC C k).1 = t) (ht : (atC C i.toNat).1 = t) : (atC C i.toNat).2 = ofC C t := by
  unfold ofC getM
  have e : C = C.take i.toNat ++ atC C i.toNat :: C.drop (i.toNat + 1) := by
    rw [show atC C i.toNat = C[i.toNat] from atE_eq (by omega), List.getElem_cons_drop, List.take_append_drop]
  have hn : (C.take i.toNat).find? (fun p => decide (p.1 = t)) = none := List.find?_eq_none.2 fun p hp => by
    obtain ⟨k, hk, rfl⟩ := List.mem_iff_getElem.1 hp
    rw [List.length_take] at hk
    rw [List.getElem_take, ← atE_eq (E := encC) (by omega)]
    have h9 : ¬ (atE encC C k).1 = t := hb k (by omega)
    simpa using h9
  generalize hq : atC C i.toNat = q at *
  rw [e, List.find?_append, hn]
  simp [ht]
theorem of_miss {C : List Ct} {t : St} {i : Int} (hb : ∀ k, k < i.toNat → ¬ (atC C k).1 = t) (hi : ¬ i < (C.length : Int)) : (0 : Int) = ofC C t := by
  refine (of_not fun p hp e => ?_).symm
  obtain ⟨k, hk, rfl⟩ := at_of_memE (E := encC) hp
  exact hb k (by omega) e
def stepC (t : St) (n : Int) (s : List Ct × Bool) (p : Ct) : List Ct × Bool :=
  if s.2 = false ∧ p.1.aheadB t = false then (if p.1 = t then (s.1 ++ [(t, n)], true) else (s.1 ++ [(t, n)] ++ [p], true)) else (if p.1 = t then s else (s.1 ++ [p], s.2))
def runC (t : St) (n : Int) (C : List Ct) : List Ct × Bool := C.foldl (stepC t n) ([], decide (n = 0))
theorem run_zero (t : St) (n : Int) (C : List Ct) : ([], decide (n = 0)) = runC t n (C.take (0 : Int).toNat) := rfl
theorem run_step {t : St} {n : Int} {C : List Ct} {i : Int} {Q Q' : List Ct} {b b' : Bool} (h0 : 0 ≤ i) (h : i < (C.length : Int)) (hr : (Q, b) = runC t n (C.take i.toNat)) (hs : stepC t n (Q, b) (atC C i.toNat) = (Q', b')) : (Q', b') = runC t n (C.take (i + 1).toNat) := by
  rw [take_snocC h0 h]; unfold runC; rw [List.foldl_append, ← hs, hr]; rfl
theorem st_put_ne {t : St} {n : Int} {Q : List Ct} {p : Ct} {b : Bool} (hb : b = false) (ha : p.1.aheadB t = false) (he : ¬ p.1 = t) : stepC t n (Q, b) p = (Q ++ [(t, n)] ++ [p], true) := by unfold stepC; rw [if_pos ⟨hb, ha⟩, if_neg he]
theorem st_put_eq {t : St} {n : Int} {Q : List Ct} {p : Ct} {b : Bool} (hb : b = false) (ha : p.1.aheadB t = false) (he : p.1 = t) : stepC t n (Q, b) p = (Q ++ [(t, n)], true) := by unfold stepC; rw [if_pos ⟨hb, ha⟩, if_pos he]
theorem st_no_ne {t : St} {n : Int} {Q : List Ct} {p : Ct} {b : Bool} (h : b = true ∨ p.1.aheadB t = true) (he : ¬ p.1 = t) : stepC t n (Q, b) p = (Q ++ [p], b) := by
  unfold stepC; rw [if_neg (fun hn => by rcases h with h | h; rw [show b = false from hn.1] at h; cases h; rw [hn.2] at h; cases h), if_neg he]
theorem st_no_eq {t : St} {n : Int} {Q : List Ct} {p : Ct} {b : Bool} (h : b = true ∨ p.1.aheadB t = true) (he : p.1 = t) : stepC t n (Q, b) p = (Q, b) := by
  unfold stepC; rw [if_neg (fun hn => by rcases h with h | h; rw [show b = false from hn.1] at h; cases h; rw [hn.2] at h; cases h), if_pos he]
theorem fold_true (t : St) (n : Int) : ∀ (C o : List Ct), C.foldl (stepC t n) (o, true) = (o ++ delM C t, true)
  | [], o => by simp [delM]
  | p :: r, o => by
    rw [List.foldl_cons]
    by_cases h : p.1 = t
    · rw [st_no_eq (.inl rfl) h, fold_true t n r]; simp [delM, h]
    · rw [st_no_ne (.inl rfl) h, fold_true t n r]; simp [delM, h]
theorem del_same {C : List Ct} {t : St} (h : ∀ p ∈ C, p.1 ≠ t) : delM C t = C := List.filter_eq_self.2 fun p hp => by simp [h p hp]
theorem fold_false {t : St} {n : Int} (hn : n ≠ 0) : ∀ (C o : List Ct), AscC C → (if (C.foldl (stepC t n) (o, false)).2 then (C.foldl (stepC t n) (o, false)).1 else (C.foldl (stepC t n) (o, false)).1 ++ [(t, n)]) = o ++ setC C t n
  | [], o, _ => by simp [setC, hn]
  | p :: r, o, h => by
    obtain ⟨h1, h2⟩ := List.pairwise_cons.1 h
    rw [List.foldl_cons]
    cases ha : p.1.aheadB t with
    | true =>
      have hne : ¬ p.1 = t := fun e => by rw [e, ahead_irr] at ha; cases ha
      rw [st_no_ne (.inr ha) hne, fold_false hn r _ h2]
      simp [setC, ha]
    | false =>
      have hr : ∀ u ∈ r, u.1 ≠ t := fun u hu e => by
        have := h1 u hu; rw [e, ha] at this; cases this
      by_cases he : p.1 = t
      · rw [st_put_eq rfl ha he, fold_true, del_same hr]
        simp [setC, ha, he, hn, ahead_irr]
      · rw [st_put_ne rfl ha he, fold_true, del_same hr]
        simp [setC, ha, he, hn]
theorem run_put {t : St} {n : Int} {C Q : List Ct} {b : Bool} {i : Int} (h : AscC C) (hr : (Q, b) = runC t n (C.take i.toNat)) (hi : ¬ i < (C.length : Int)) (hb : b = false) : Q ++ [(t, n)] = setC C t n := by
  rw [List.take_of_length_le (by omega)] at hr
  have hn : n ≠ 0 := fun h0 => by
    unfold runC at hr
    rw [decide_eq_true h0, fold_true] at hr
    injection hr with _ h2; rw [hb] at h2; cases h2
  have := fold_false (t := t) hn C [] h
  unfold runC at hr
  rw [decide_eq_false hn] at hr
  rw [← hr, hb] at this
  simpa using this
theorem run_done {t : St} {n : Int} {C Q : List Ct} {b : Bool} {i : Int} (h : AscC C) (hr : (Q, b) = runC t n (C.take i.toNat)) (hi : ¬ i < (C.length : Int)) (hb : b = true) : Q = setC C t n := by
  rw [List.take_of_length_le (by omega)] at hr
  unfold runC at hr
  by_cases hn : n = 0
  · rw [decide_eq_true hn, fold_true] at hr
    injection hr with h1 _
    rw [h1, hn, ← del_setC h]; simp
  · have := fold_false (t := t) hn C [] h
    rw [decide_eq_false hn] at hr
    rw [← hr, hb] at this
    simpa using this
theorem run_len (t : St) (n : Int) (C : List Ct) : (runC t n C).1.length ≤ 2 * C.length := by
  suffices h : ∀ (C o : List Ct) (b : Bool), (C.foldl (stepC t n) (o, b)).1.length ≤ o.length + 2 * C.length by
    have := h C [] (decide (n = 0)); simpa [runC] using this
  intro C
  induction C with
  | nil => intro o b; simp
  | cons p r ih =>
    intro o b
    rw [List.foldl_cons]
    have h1 : ∃ o' b', stepC t n (o, b) p = (o', b') ∧ o'.length ≤ o.length + 2 := by
      unfold stepC
      repeat' split
      all_goals exact ⟨_, _, rfl, by simp⟩
    obtain ⟨o', b', h1, h2⟩ := h1
    rw [h1]
    have := ih o' b'
    simp only [List.length_cons]; omega
structure KInv (C Rs : List Ct) (K : List St) : Prop where
  mem : ∀ t, (∃ p ∈ C, p.1 = t) ↔ t ∈ K ∨ ∃ p ∈ Rs, p.1 = t
  len : K.length + Rs.length = C.length
theorem KInv.start (C : List Ct) : KInv C C [] := ⟨fun t => by simp, by simp⟩
theorem KInv.next {C Rs Rs' : List Ct} {K : List St} {q : Ct} (h : KInv C Rs K) (hp : Rs.Perm (q :: Rs')) : KInv C Rs' (K ++ [q.1]) := by
  refine ⟨fun t => ?_, ?_⟩
  · rw [h.mem, List.mem_append, List.mem_singleton]
    constructor
    · rintro (h1 | ⟨p, h1, h2⟩)
      · exact .inl (.inl h1)
      · rcases List.mem_cons.1 (hp.mem_iff.1 h1) with h3 | h3
        · exact .inl (.inr (by rw [← h2, h3]))
        · exact .inr ⟨p, h3, h2⟩
    · rintro ((h1 | h1) | ⟨p, h1, h2⟩)
      · exact .inl h1
      · exact .inr ⟨q, hp.mem_iff.2 (by simp), h1.symm⟩
      · exact .inr ⟨p, hp.mem_iff.2 (by simp [h1]), h2⟩
  · have := h.len; have h2 := hp.length_eq; simp at h2 ⊢; omega
theorem KInv.fin {C Rs : List Ct} {K : List St} (h : KInv C Rs K) (hb : BagOK C) (hz : Rs = []) : rowL K = C.map (·.1) := by
  refine (rowL_of hb.asc.keys fun t => ?_).symm
  have := h.mem t
  rw [hz] at this
  simp only [List.not_mem_nil, false_and, exists_false, or_false] at this
  rw [← this, List.mem_map]
theorem map_of {C : List Ct} (hb : BagOK C) : (C.map (·.1)).map (fun t => (t, ofC C t)) = C := by
  rw [List.map_map]
  conv => rhs; rw [← List.map_id C]
  exact List.map_congr_left fun p hp => by simp [of_mem hb.asc.nodup hp]
def allC (C : List Ct) (i : Nat) : List Ct := ((C.map (·.1)).take i).map fun t => (t, ofC C t)
theorem all_next {C : List Ct} {i : Int} (h0 : 0 ≤ i) (h : i < ((C.map (·.1)).length : Int)) : allC C (i + 1).toNat = allC C i.toNat ++ [(atS (C.map (·.1)) i.toNat, ofC C (atS (C.map (·.1)) i.toNat))] := by
  unfold allC
  rw [show (i + 1).toNat = i.toNat + 1 by omega, List.take_succ_eq_append_getElem (by omega), List.map_append, atS_eq (by omega)]
  rfl
theorem all_end {C : List Ct} {i : Int} (hb : BagOK C) (hi : ¬ i < ((C.map (·.1)).length : Int)) : allC C i.toNat = C := by
  unfold allC
  rw [List.take_of_length_le (by omega), map_of hb]
theorem all_len (C : List Ct) (i : Nat) : (allC C i).length ≤ C.length := by unfold allC; rw [List.length_map, List.length_take, List.length_map]; omega
structure PInv (C Rs : List Ct) (K : List St) : Prop where
  mem : ∀ t, t ∈ posL C ↔ t ∈ K ∨ t ∈ posL Rs
  len : K.length + Rs.length ≤ C.length
theorem PInv.start (C : List Ct) : PInv C C [] := ⟨fun t => by simp, by simp⟩
theorem pos_perm {Rs Rs' : List Ct} {q : Ct} (hp : Rs.Perm (q :: Rs')) (t : St) : t ∈ posL Rs ↔ (0 < q.2 ∧ q.1 = t) ∨ t ∈ posL Rs' := by
  rw [mem_posL, mem_posL]
  constructor
  · rintro ⟨p, h1, h2⟩
    rcases List.mem_cons.1 (hp.mem_iff.1 h1) with h3 | h3
    · rw [h3] at h2; exact .inl h2
    · exact .inr ⟨p, h3, h2⟩
  · rintro (h1 | ⟨p, h1, h2⟩)
    · exact ⟨q, hp.mem_iff.2 (by simp), h1⟩
    · exact ⟨p, hp.mem_iff.2 (by simp [h1]), h2⟩
theorem PInv.yes {C Rs Rs' : List Ct} {K : List St} {q : Ct} (h : PInv C Rs K) (hp : Rs.Perm (q :: Rs')) (hq : 0 < q.2) : PInv C Rs' (K ++ [q.1]) := by
  refine ⟨fun t => ?_, by have := h.len; have h2 := hp.length_eq; simp at h2 ⊢; omega⟩
  rw [h.mem, pos_perm hp, List.mem_append, List.mem_singleton]
  constructor
  · rintro (h1 | h1 | h1)
    · exact .inl (.inl h1)
    · exact .inl (.inr h1.2.symm)
    · exact .inr h1
  · rintro ((h1 | h1) | h1)
    · exact .inl h1
    · exact .inr (.inl ⟨hq, h1.symm⟩)
    · exact .inr (.inr h1)
theorem PInv.no {C Rs Rs' : List Ct} {K : List St} {q : Ct} (h : PInv C Rs K) (hp : Rs.Perm (q :: Rs')) (hq : ¬ 0 < q.2) : PInv C Rs' K := by
  refine ⟨fun t => ?_, by have := h.len; have h2 := hp.length_eq; simp at h2; omega⟩
  rw [h.mem, pos_perm hp]
  constructor
  · rintro (h1 | h1 | h1)
    · exact .inl h1
    · exact absurd h1.1 hq
    · exact .inr h1
  · rintro (h1 | h1)
    · exact .inl h1
    · exact .inr (.inr h1)
theorem PInv.fin {C Rs : List Ct} {K : List St} (h : PInv C Rs K) (hz : Rs = []) : minL K = minL (posL C) := min_mem fun t => by
  rw [h.mem, hz]; simp [posL]
section
variable {R : List Nat} {w0 w w' : World} {B : List Ent} {i p g rb : Nat} {x : Ent} {C C' : List Ct} {t : St} {n z : Int} {v v' : Value}
theorem Mm.new1 (M : Mm [] w0 w B) (h : B[i]? = some x) : ∀ g ∈ x.fp, w0.heap.size ≤ g := fun g hg => by
  rcases M.own x (List.mem_of_getElem? h) g hg with h1 | h1
  · exact h1
  · cases h1
theorem bag_post (hO : Out [p, g] w w') (hb : Blk w' p 130 #[.map (some g)]) (hm : MpV g (encM stV iV C') w') (hk : BagOK C) (ez : addE C t n = z) (eC : C' = addC C t n) :
    TurnsE w (.own [p, g] (BagV p g C)) (fun v x' => v = .int .i64 (addE C t n) ∧ x' = .own [p, g] (BagV p g (addC C t n))) (.returned (.int .i64 z)) w' :=
  ⟨_, .own [p, g] (BagV p g (addC C t n)), rfl, hO, ⟨⟨hb, eC ▸ hm, hk.add t n⟩, BagV.loc _ _ _⟩, fun k hk' => .inl hk', rfl, by rw [ez], rfl⟩
theorem new_post (hO : Below w.heap.size w w') (hb : Blk w' p 130 #[.map (some g)]) (hm : MpV g [] w') (h1 : w.heap.size ≤ p) (h2 : w.heap.size ≤ g) :
    MakesE w (fun v x => ∃ p g, v = .pointer (some ⟨p, 0, none⟩) ∧ x = .own [p, g] (BagV p g [])) (.returned (.pointer (some ⟨p, 0, none⟩))) w' :=
  ⟨_, .own [p, g] (BagV p g []), rfl, hO, ⟨⟨hb, hm, bag_nil⟩, BagV.loc _ _ _⟩, fun k hk => by
    simp only [Ent.fp, List.mem_cons, List.not_mem_nil, or_false] at hk
    rcases hk with rfl | rfl
    · exact h1
    · exact h2, rfl, p, g, rfl, rfl⟩
def RefV (rb : Nat) (v : Value) (C : List Ct) (w : World) : Prop := Blk w rb 46 #[v] ∧ w.ownsRow 0 57 3 v C.length (cC C) ∧ BagOK C
theorem RefV.loc (rb : Nat) (v : Value) (C : List Ct) : Loc (rb :: v.ownBlock.toList) (RefV rb v C) := fun w w' hk ⟨h1, h2, h3⟩ => by
  have e1 := blk_loc w w' (fun k hk' => hk k (by simp only [List.mem_singleton] at hk'; simp [hk'])) h1
  have hlt : ∀ k, v.ownBlock = some k → k < w.heap.size := fun k hk' => (World.ownsRow.lt h2 k hk').2
  refine ⟨⟨e1.1, ?_, h3⟩, fun k hk' => ?_⟩
  · refine ⟨h2.1, ?_⟩
    rcases h2.2 with h4 | ⟨g, cap, cur, h4, h5, h6, h7⟩
    · exact .inl h4
    · exact .inr ⟨g, cap, cur, h4, h5, (hk g (by simp [h4, Value.ownBlock])).trans h6, h7⟩
  · rcases List.mem_cons.1 hk' with rfl | h4
    · exact e1.2 k (by simp)
    · exact hlt k (by simpa using h4)
theorem RefV.apart (hB : Blk w rb 46 #[v]) (h : w.ownsRow 0 57 3 v C.length (cC C)) : ∀ k, v.ownBlock = some k → k ≠ rb := by
  intro k hk e
  rcases h.2 with h4 | ⟨g, cap, cur, h4, h5, h6, h7⟩
  · rw [h4.1] at hk; cases hk
  · rw [h4] at hk
    simp only [Value.ownBlock, Option.some.injEq] at hk
    have h8 : w.heap[rb]? = some (.cells #[v] 46) := hB
    rw [← e, ← hk, h6] at h8
    injection h8 with h8
    injection h8 with _ h9
    cases h9
theorem ref_gof (h : w.ownsRow 0 57 3 v C.length (cC C)) (hne : ∀ k, v.ownBlock = some k → k ≠ rb) : 0 < C.length → ¬ gof v ∈ [rb] := fun hn hm => by
  simp only [List.mem_singleton] at hm
  exact hne _ (own_spot h hn).1 hm
def RefPost (w : World) (rb : Nat) (v : Value) (C C' : List Ct) (z : Int) : Ending → World → Prop :=
  TurnsE w (.own (rb :: v.ownBlock.toList) (RefV rb v C)) (fun u x' => ∃ v', u = .int .i64 z ∧ x' = .own (rb :: v'.ownBlock.toList) (RefV rb v' C'))
theorem ref_same (hO : Out [rb] w w') (hB : Blk w' rb 46 #[v]) (h : w.ownsRow 0 57 3 v C.length (cC C)) (hne : ∀ k, v.ownBlock = some k → k ≠ rb) (hk : BagOK C) (ez : addE C t n = z) (eC : C = addC C t n) :
    RefPost w rb v C (addC C t n) (addE C t n) (.returned (.int .i64 z)) w' :=
  ⟨_, .own (rb :: v.ownBlock.toList) (RefV rb v (addC C t n)), rfl, hO.mono (fun g hg => by simp only [List.mem_singleton] at hg; simp [Ent.fp, hg]), ⟨⟨hB, by
      rw [← eC]
      exact row_out h hO (fun g hg hm => by simp only [List.mem_singleton] at hm; exact hne g hg hm), hk.add t n⟩, RefV.loc _ _ _⟩, fun k hk' => .inl hk', rfl, v, by rw [ez], rfl⟩
theorem ref_new (hO : Out [rb] w w') (hB : Blk w' rb 46 #[v']) (h : w'.ownsRow 0 57 3 v' C'.length (cC C')) (hnew : ∀ k, v'.ownBlock = some k → w.heap.size ≤ k ∨ k ∈ [rb]) (hk : BagOK C) (ez : addE C t n = z) (eC : C' = addC C t n) :
    RefPost w rb v C (addC C t n) (addE C t n) (.returned (.int .i64 z)) w' :=
  ⟨_, .own (rb :: v'.ownBlock.toList) (RefV rb v' (addC C t n)), rfl, hO.mono (fun g hg => by simp only [List.mem_singleton] at hg; simp [Ent.fp, hg]), ⟨⟨hB, eC ▸ h, hk.add t n⟩, RefV.loc _ _ _⟩, fun k hk' => by
    simp only [Ent.fp, List.mem_cons] at hk' ⊢
    rcases hk' with h1 | h1
    · exact .inl (.inl h1)
    · rcases hnew k (by simpa using h1) with h2 | h2
      · exact .inr h2
      · simp only [List.mem_singleton] at h2; exact .inl (.inl h2), rfl, v', by rw [ez], rfl⟩
theorem Mm.rowNew (M : Mm R w0 w B) {ty : TypeId} {m k : Nat} {xs : List Value} (h : B[i]? = some (.row ty m v k xs)) : ∀ g, v.ownBlock = some g → w0.heap.size ≤ g ∨ g ∈ R := fun g hg => M.own _ (List.mem_of_getElem? h) g (by simp [Ent.fp, hg])
end
end Go.Proofs.YtcnmmnhlhenifaaGreat
namespace Go.Proofs.YtcnmmnhlhenifaaGreat
open Go.RowKit
set_option maxRecDepth 100000
set_option linter.unusedSimpArgs false
set_option linter.unusedVariables false
def foldC (C l : List Ct) : List Ct := l.foldl (fun C p => addC C p.1 p.2) C
def sumC (l : List Ct) : List Ct := foldC [] l
def tot : List Ct → St → Int
  | [], _ => 0
  | p :: r, t => (if p.1 = t then p.2 else 0) + tot r t
def small (l : List Ct) : Prop := ∀ p ∈ l, -1000000 ≤ p.2 ∧ p.2 ≤ 1000000
def rotC (L : List Ct) (k : Nat) : List Ct := L.drop k ++ L.take k
def negC (l : List Ct) : List Ct := l.map fun p => (p.1, -p.2)
def backL (L : List Ct) (i : Int) : List Ct := L ++ negC ((L.drop (i + 1).toNat).reverse)
def oneC (t : St) (s : Int) : List Ct := if s = 0 then [] else [(t, s)]
section
variable {R : List Nat} {w0 w : World} {B : List Ent} {i rb p g : Nat} {v : Value} {C C' : List Ct}
theorem Mm.toRef (M : Mm R w0 w B) (h : B[i]? = some (.blk rb 46 #[.slice none 0 0])) : Mm R w0 w (B.set i (.own (rb :: (Value.slice none 0 0).ownBlock.toList) (RefV rb (.slice none 0 0) []))) :=
  M.swap h (x' := .own (rb :: (Value.slice none 0 0).ownBlock.toList) (RefV rb (.slice none 0 0) [])) (Out.refl _ _) ⟨⟨M.at h, World.ownsRow_nil _ _ _ _, bag_nil⟩, RefV.loc _ _ _⟩ (fun g hg => .inl (by simpa [Ent.fp, Value.ownBlock] using hg)) (fun g hg => by cases hg)
end
end Go.Proofs.YtcnmmnhlhenifaaGreat
namespace Go.Proofs.YtcnmmnhlhenifaaGreat
open Go.RowKit
set_option maxRecDepth 100000
set_option linter.unusedSimpArgs false
set_option linter.unusedVariables false
abbrev RB := Nat × Value × List Ct
def fpRB (o : RB) : List Nat := o.1 :: o.2.1.ownBlock.toList
def RBV (o : RB) (w : World) : Prop := RefV o.1 o.2.1 o.2.2 w
theorem RBV.loc (o : RB) : Loc (fpRB o) (RBV o) := RefV.loc _ _ _
def newRB (g : Nat) : RB := (g, .slice none 0 0, [])
def atO (Q : List RB) (i : Nat) : RB := Q.getD i (0, .slice none 0 0, [])
theorem atO_eq {Q : List RB} {i : Nat} (h : i < Q.length) : atO Q i = Q[i] := by unfold atO; rw [List.getD_eq_getElem?_getD, List.getElem?_eq_getElem h]; rfl
def bagsR (Q : List RB) : Bags := Q.map (·.2.2)
theorem bagsR_len (Q : List RB) : (bagsR Q).length = Q.length := by simp [bagsR]
theorem atK_bagsR (Q : List RB) (i : Nat) : atK (bagsR Q) i = (atO Q i).2.2 := by
  unfold atK bagsR atO
  simp only [List.getD_eq_getElem?_getD, List.getElem?_map]
  cases Q[i]? <;> rfl
theorem atP_map (Q : List RB) (i : Nat) : atP (Q.map (·.1)) i = (atO Q i).1 := by
  unfold atP atE atO
  simp only [List.getD_eq_getElem?_getD, List.getElem?_map]
  cases Q[i]? <;> rfl
theorem bagsR_set {Q : List RB} {i : Nat} {o : RB} : bagsR (Q.set i o) = (bagsR Q).set i o.2.2 := by unfold bagsR; rw [List.map_set]
theorem ptrs_set {Q : List RB} {i : Nat} {o : RB} (h : o.1 = (atO Q i).1) : (Q.set i o).map (·.1) = Q.map (·.1) := by
  rw [List.map_set, h]
  apply List.ext_getElem (by simp)
  intro j h1 h2
  rw [List.getElem_set]
  split
  · rename_i e; subst e
    rw [List.length_map] at h2
    rw [atO_eq h2]; simp
  · rfl
def SmB (B : Bags) (m : Nat) : Prop := ∀ i, (atK B i).length ≤ m
theorem smB_new (n m : Nat) : SmB (List.replicate n []) m := fun i => by
  unfold atK; rw [List.getD_eq_getElem?_getD, List.getElem?_replicate]; split <;> simp
theorem SmB.mono {B : Bags} {m k : Nat} (h : SmB B m) (hk : m ≤ k) : SmB B k := fun i => Nat.le_trans (h i) hk
section
variable {Q : List RB} {w : World}
theorem objs_ref (h : ObjsV fpRB RBV Q w) {i : Nat} (hi : i < Q.length) : RefV (atO Q i).1 (atO Q i).2.1 (atO Q i).2.2 w := by
  rw [atO_eq hi]; exact h.all _ (List.getElem_mem hi)
theorem objs_blk (h : ObjsV fpRB RBV Q w) {i : Nat} (hi : i < Q.length) : Blk w (atP (Q.map (·.1)) i) 46 #[(atO Q i).2.1] := by
  rw [atP_map]; exact (objs_ref h hi).1
theorem objs_rd (h : ObjsV fpRB RBV Q w) {i : Nat} (hi : i < Q.length) : RdC w (atO Q i).2.1 (atO Q i).2.2 := own_rdv (objs_ref h hi).2.1
end
def Sm64 (L : List (List (List St))) : Prop := L.length ≤ 8 ∧ ∀ i j, (atR (at3 L i) j).length ≤ 64
section
variable {L : List (List (List St))} {B : Bags} {k : Int}
end
end Go.Proofs.YtcnmmnhlhenifaaGreat
namespace Go.Proofs.YtcnmmnhlhenifaaGreat
open Go.RowKit
set_option maxRecDepth 100000
set_option linter.unusedSimpArgs false
set_option linter.unusedVariables false
def bkP (K : List (Nat × Nat)) (i : Nat) : Nat := (K.getD i (0, 0)).1
def bkM (K : List (Nat × Nat)) (i : Nat) : Nat := (K.getD i (0, 0)).2
def pad (K : List (Nat × Nat)) (i : Nat) : Option Addr := K[i]?.map fun k => ⟨k.1, 0, none⟩
def arr8 (K : List (Nat × Nat)) : List Value := [.pointer (pad K 0), .pointer (pad K 1), .pointer (pad K 2), .pointer (pad K 3), .pointer (pad K 4), .pointer (pad K 5), .pointer (pad K 6), .pointer (pad K 7)]
def fpK (K : List (Nat × Nat)) : List Nat := K.flatMap fun k => [k.1, k.2]
section
variable {K : List (Nat × Nat)} {B : Bags} {i j p g : Nat} {w w' : World}
theorem bk_eq (h : i < K.length) : (bkP K i, bkM K i) = K[i] := by unfold bkP bkM; rw [List.getD_eq_getElem?_getD, List.getElem?_eq_getElem h]; rfl
theorem bkP_eq (h : i < K.length) : bkP K i = K[i].1 := by rw [← bk_eq h]
theorem pad_eq (h : i < K.length) : pad K i = some ⟨bkP K i, 0, none⟩ := by unfold pad; rw [List.getElem?_eq_getElem h, bkP_eq h]; rfl
theorem arr8_len : (arr8 K).length = 8 := rfl
theorem arr8_get (h8 : i < 8) : (arr8 K)[i]? = some (.pointer (pad K i)) := by
  match i, h8 with
  | 0, _ => rfl
  | 1, _ => rfl
  | 2, _ => rfl
  | 3, _ => rfl
  | 4, _ => rfl
  | 5, _ => rfl
  | 6, _ => rfl
  | 7, _ => rfl
theorem pad_get (pre post : List Value) {o : Nat} (h : i < K.length) (h8 : K.length ≤ 8) (ho : o = pre.length) : (List.toArray (pre ++ (arr8 K ++ post)))[o + i * 1]? = some (.pointer (some ⟨bkP K i, 0, none⟩)) := by
  subst ho
  rw [List.getElem?_toArray, List.getElem?_append_right (by omega), show pre.length + i * 1 - pre.length = i by omega, List.getElem?_append_left (by rw [arr8_len]; omega), arr8_get (by omega), pad_eq h]
theorem arr8_push (hl : K.length = i) (h8 : i < 8) : (arr8 K).set i (.pointer (some ⟨p, 0, none⟩)) = arr8 (K ++ [(p, g)]) := by
  apply List.ext_getElem?
  intro q
  rw [List.getElem?_set]
  by_cases e : i = q
  · subst e
    rw [if_pos rfl, if_pos (by rw [arr8_len]; exact h8), arr8_get h8, pad_eq (by simp; omega)]
    unfold bkP
    rw [List.getD_eq_getElem?_getD, List.getElem?_append_right (by omega), hl]; simp
  · rw [if_neg e]
    by_cases h : q < 8
    · rw [arr8_get h, arr8_get h]
      congr 2
      unfold pad
      congr 1
      by_cases h1 : q < K.length
      · rw [List.getElem?_append_left h1]
      · rw [List.getElem?_eq_none (by omega), List.getElem?_eq_none (by simp; omega)]
    · rw [List.getElem?_eq_none (by rw [arr8_len]; omega), List.getElem?_eq_none (by rw [arr8_len]; omega)]
theorem arr8_store (hl : K.length = i) (h8 : i < 8) : (List.toArray (arr8 K)).setIfInBounds (0 + i * 1) (.pointer (some ⟨p, 0, none⟩)) = List.toArray (arr8 (K ++ [(p, g)])) := by
  rw [List.setIfInBounds_toArray, show 0 + i * 1 = i by omega, arr8_push hl h8]
theorem mem_fpK : g ∈ fpK K ↔ ∃ i, i < K.length ∧ (g = bkP K i ∨ g = bkM K i) := by
  unfold fpK
  rw [List.mem_flatMap]
  constructor
  · rintro ⟨k, hk, hg⟩
    obtain ⟨i, hi, rfl⟩ := List.mem_iff_getElem.1 hk
    rw [← bk_eq hi] at hg
    exact ⟨i, hi, by simpa using hg⟩
  · rintro ⟨i, hi, hg⟩
    exact ⟨K[i], List.getElem_mem hi, by rw [← bk_eq hi]; simpa using hg⟩
structure BgsV (K : List (Nat × Nat)) (B : Bags) (w : World) : Prop where
  len : B.length = K.length
  all : ∀ i, i < K.length → BagV (bkP K i) (bkM K i) (atK B i) w
  nd : ∀ i j, i < K.length → j < K.length → i ≠ j → ∀ g ∈ [bkP K i, bkM K i], ¬ g ∈ [bkP K j, bkM K j]
theorem BgsV.loc (K : List (Nat × Nat)) (B : Bags) : Loc (fpK K) (BgsV K B) := fun w w' hk h => by
  refine ⟨⟨h.len, fun i hi => (BagV.loc _ _ _ w w' (fun g hg => hk g (mem_fpK.2 ⟨i, hi, by simpa using hg⟩)) (h.all i hi)).1, h.nd⟩, fun g hg => ?_⟩
  obtain ⟨i, hi, hg⟩ := mem_fpK.1 hg
  exact (BagV.loc _ _ _ w w (fun _ _ => rfl) (h.all i hi)).2 g (by simpa using hg)
theorem BgsV.ok (h : BgsV K B w) : OKs B := fun i hi => by
  have hi' : i < K.length := by rw [← h.len]; exact hi
  exact (h.all i hi').2.2
theorem BgsV.nil (w : World) : BgsV [] [] w := ⟨rfl, fun i hi => absurd hi (Nat.not_lt_zero i), fun i j hi => absurd hi (Nat.not_lt_zero i)⟩
theorem BgsV.turn (h : BgsV K B w) (hi : i < K.length) {e : Ending} {Zv : Value → Prop} {C : List Ct}
    (ht : TurnsE w (.own [bkP K i, bkM K i] (BagV (bkP K i) (bkM K i) (atK B i))) (fun u x' => Zv u ∧ x' = .own [bkP K i, bkM K i] (BagV (bkP K i) (bkM K i) C)) e w') :
    TurnsE w (.own (fpK K) (BgsV K B)) (fun u x' => Zv u ∧ x' = .own (fpK K) (BgsV K (B.set i C))) e w' := by
  obtain ⟨v, x', h1, h2, h3, h4, h5, h6, rfl⟩ := ht
  refine ⟨v, .own (fpK K) (BgsV K (B.set i C)), h1, h2.mono (fun g hg => mem_fpK.2 ⟨i, hi, by simpa [Ent.fp] using hg⟩), ⟨⟨by rw [List.length_set, h.len], fun j hj => ?_, h.nd⟩, BgsV.loc _ _⟩, fun g hg => .inl hg, rfl, h6, rfl⟩
  rw [atK_set (by rw [h.len]; exact hi)]
  split
  · rename_i e; subst e; exact h3.1
  · rename_i e
    have hb := h.all j hj
    have hlt := (BagV.loc _ _ _ w w (fun _ _ => rfl) hb).2
    exact (BagV.loc _ _ _ w w' (fun g hg => h2.block g (hlt g hg) (h.nd j i hj hi (fun z => e z.symm) g hg)) hb).1
theorem BgsV.push (h : BgsV K B w) (ha : BagV p g [] w) (hd : ∀ q ∈ [p, g], ¬ q ∈ fpK K) : BgsV (K ++ [(p, g)]) (B ++ [[]]) w := by
  have e1 : ∀ j, j < K.length → bkP (K ++ [(p, g)]) j = bkP K j ∧ bkM (K ++ [(p, g)]) j = bkM K j := fun j hj => by
    unfold bkP bkM
    simp only [List.getD_eq_getElem?_getD, List.getElem?_append_left hj]
    exact ⟨trivial, trivial⟩
  have e2 : bkP (K ++ [(p, g)]) K.length = p ∧ bkM (K ++ [(p, g)]) K.length = g := by
    unfold bkP bkM
    simp [List.getD_eq_getElem?_getD]
  have hl := h.len
  refine ⟨by simp [hl], fun j hj => ?_, fun a b ha hb hab q hq hq' => ?_⟩
  · rw [List.length_append, List.length_singleton] at hj
    by_cases hj' : j < K.length
    · rw [(e1 j hj').1, (e1 j hj').2, show atK (B ++ [[]]) j = atK B j by unfold atK; rw [List.getD_eq_getElem?_getD, List.getD_eq_getElem?_getD, List.getElem?_append_left (by omega)]]
      exact h.all j hj'
    · have : j = K.length := by omega
      subst this
      rw [e2.1, e2.2, show atK (B ++ [[]]) K.length = [] by unfold atK; rw [List.getD_eq_getElem?_getD, ← hl]; simp]
      exact ha
  · rw [List.length_append, List.length_singleton] at ha hb
    by_cases ha' : a < K.length
    · rw [(e1 a ha').1, (e1 a ha').2] at hq
      by_cases hb' : b < K.length
      · rw [(e1 b hb').1, (e1 b hb').2] at hq'
        exact h.nd a b ha' hb' hab q hq hq'
      · have : b = K.length := by omega
        subst this
        rw [e2.1, e2.2] at hq'
        exact hd q hq' (mem_fpK.2 ⟨a, ha', by simpa using hq⟩)
    · have : a = K.length := by omega
      subst this
      rw [e2.1, e2.2] at hq
      by_cases hb' : b < K.length
      · rw [(e1 b hb').1, (e1 b hb').2] at hq'
        exact hd q hq (mem_fpK.2 ⟨b, hb', by simpa using hq'⟩)
      · omega
end
theorem fpK_push {K : List (Nat × Nat)} {p g q : Nat} : q ∈ fpK (K ++ [(p, g)]) ↔ q ∈ fpK K ∨ q ∈ [p, g] := by unfold fpK; rw [List.flatMap_append, List.mem_append]; simp
theorem Mm.pushK {K : List (Nat × Nat)} {n p g : Nat} {R : List Nat} {w w0 : World} {C : List Ent} (M : Mm R w0 w (.own [p, g] (BagV p g []) :: .own (fpK K) (BgsV K (List.replicate n [])) :: C)) :
    Mm R w0 w (.own (fpK (K ++ [(p, g)])) (BgsV (K ++ [(p, g)]) (List.replicate (n + 1) [])) :: C) := by
  have hap := M.apart (i := 0) (j := 1) rfl rfl (by decide)
  refine Mm.recast (X := [.own [p, g] (BagV p g []), .own (fpK K) (BgsV K (List.replicate n []))]) (Y := [_]) M (fun y hy => ?_) (fun y hy q hq => ?_) (List.pairwise_singleton _ _) (fun y hy q hq => ?_)
  · rw [List.mem_singleton.1 hy]
    rw [List.replicate_succ']
    exact ⟨(M.pv (i := 1) rfl).push (M.pv (i := 0) rfl) hap, BgsV.loc _ _⟩
  · rw [List.mem_singleton.1 hy] at hq
    rcases fpK_push.1 (show q ∈ fpK (K ++ [(p, g)]) from hq) with h | h
    · exact ⟨.own (fpK K) (BgsV K (List.replicate n [])), by simp, h⟩
    · exact ⟨.own [p, g] (BagV p g []), by simp, h⟩
  · rw [List.mem_singleton.1 hy] at hq; cases hq
theorem Mm.sel {R : List Nat} {w0 w : World} {B : List Ent} (M : Mm R w0 w B) (is : List Nat) (hn : is.Nodup) {X : List Ent} (h : is.map (fun i => B[i]?) = X.map some) : Mm R w0 w X := by
  have hl : is.length = X.length := by have := congrArg List.length h; simpa using this
  have hat : ∀ k (hk : k < X.length), B[is[k]'(by omega)]? = some X[k] := fun k hk => by
    have := congrArg (fun l => l[k]?) h
    simpa [List.getElem?_eq_getElem hk, List.getElem?_eq_getElem (show k < is.length by omega)] using this
  have hm : ∀ x ∈ X, x ∈ B := fun x hx => by
    obtain ⟨k, hk, rfl⟩ := List.mem_iff_getElem.1 hx
    exact List.mem_of_getElem? (hat k hk)
  refine ⟨M.out, fun x hx => M.has x (hm x hx), fun x hx => M.own x (hm x hx), fun x hx => M.far x (hm x hx), ?_⟩
  rw [List.pairwise_iff_getElem]
  intro a b ha hb hab
  refine M.apart (hat a ha) (hat b hb) fun e => ?_
  exact (List.pairwise_iff_getElem.1 hn) a b (by omega) (by omega) hab e
end Go.Proofs.YtcnmmnhlhenifaaGreat
namespace Go.Proofs.YtcnmmnhlhenifaaGreat
open Go.RowKit
set_option maxRecDepth 100000
set_option linter.unusedSimpArgs false
set_option linter.unusedVariables false
def heldB (C : List Ct) (p t : St) : Bool := C.any fun c => decide (0 < c.2) && (c.1.afterB p && (c.1.after p).leB t)
def overI (m k : Int) : Int := if 1000000000 < m + k then 9 else 0
def mayI (n : Int) (E : List Ed) (B : Bags) (x : En) : Int :=
  if rightN x = false ∨ n ≤ x.po.n then 2
  else if (x.kind = 3 ∨ x.kind = 4) ∧ ((E.length : Int) ≤ x.edge ∨ (atG E x.edge.toNat).t ≠ x.po.n) then 2
  else if x.kind = 5 then (if x.seq ≠ 0 ∨ x.po.n ≠ 0 then 8 else overI (ofC (atK B x.po.n.toNat) x.po.t) x.n)
  else if x.kind = 1 then (if heldB (atK B x.po.n.toNat) St.zero x.po.t = false then 8 else overI (ofC (atK B x.po.n.toNat) x.po.t) x.n)
  else if x.kind = 3 then (if heldB (atK B (atG E x.edge.toNat).f.toNat) (atG E x.edge.toNat).p x.po.t = false then 8 else 0)
  else if x.kind = 2 then (if ofC (atK B x.po.n.toNat) x.po.t < x.n then 9 else 0)
  else overI (ofC (atK B x.po.n.toNat) x.po.t) x.n
def signN (x : En) : Int := if x.kind = 2 then -x.n else x.n
def entB (n : Int) (E : List Ed) (B : Bags) (x : En) : Bags :=
  if mayI n E B x ≠ 0 ∨ x.kind = 3 then B else B.set x.po.n.toNat (addC (atK B x.po.n.toNat) x.po.t (signN x))
def moveI (x : En) : Int := if x.kind = 1 ∨ x.kind = 3 ∨ x.kind = 5 then x.n else if x.kind = 2 then IntKind.i64.wrap (-x.n) else 0
section
variable {n : Int} {E : List Ed} {B : Bags} {x : En}
theorem held_at {C : List Ct} {p t : St} {i : Nat} (hi : i < C.length) (h0 : 0 < (atC C i).2) (h1 : (atC C i).1.afterB p = true) (h2 : ((atC C i).1.after p).leB t = true) : heldB C p t = true :=
  List.any_eq_true.2 ⟨atC C i, atE_mem (E := encC) hi, by rw [h1, h2]; simpa using h0⟩
theorem held_step {C : List Ct} {p t : St} {i : Int} (h0 : 0 ≤ i) (hall : ∀ k, k < i.toNat → ¬ (0 < (atC C k).2 ∧ (atC C k).1.afterB p = true ∧ ((atC C k).1.after p).leB t = true)) (h : ¬ (0 < (atC C i.toNat).2 ∧ (atC C i.toNat).1.afterB p = true ∧ ((atC C i.toNat).1.after p).leB t = true)) : ∀ k, k < (i + 1).toNat → ¬ (0 < (atC C k).2 ∧ (atC C k).1.afterB p = true ∧ ((atC C k).1.after p).leB t = true) := fun k hk => by
  rcases Nat.lt_or_ge k i.toNat with h1 | h1
  · exact hall k h1
  · obtain rfl : k = i.toNat := by omega
    exact h
theorem held_none {C : List Ct} {p t : St} {i : Int} (hall : ∀ k, k < i.toNat → ¬ (0 < (atC C k).2 ∧ (atC C k).1.afterB p = true ∧ ((atC C k).1.after p).leB t = true)) (hi : ¬ i < (C.length : Int)) : heldB C p t = false := by
  cases h : heldB C p t with
  | false => rfl
  | true =>
    obtain ⟨c, hc, h1⟩ := List.any_eq_true.1 h
    obtain ⟨k, hk, rfl⟩ := at_of_memE (E := encC) hc
    simp only [Bool.and_eq_true, decide_eq_true_eq] at h1
    exact absurd h1 (hall k (by omega))
theorem may_right (h : mayI n E B x = 0) : rightN x = true ∧ x.po.n < n := by
  unfold mayI at h
  split at h
  · omega
  · rename_i z
    refine ⟨by cases hr : rightN x with | true => rfl | false => exact absurd (.inl hr) z, ?_⟩
    exact Int.not_le.1 fun h1 => z (.inr h1)
theorem ent_no (h : ¬ mayI n E B x = 0) : entB n E B x = B := if_pos (.inl h)
theorem ent_send (h : x.kind = 3) : entB n E B x = B := if_pos (.inr h)
theorem ent_yes (h : mayI n E B x = 0) (hk : ¬ x.kind = 3) : entB n E B x = B.set x.po.n.toNat (addC (atK B x.po.n.toNat) x.po.t (signN x)) := if_neg (fun z => z.elim (fun z => z h) hk)
theorem ent_len : (entB n E B x).length = B.length := by unfold entB; split <;> simp
end
def GoodE (n : Int) (E : List Ed) (x : En) : Prop := rightN x = true ∧ x.po.n < n ∧ ((x.kind = 3 ∨ x.kind = 4) → x.edge < (E.length : Int) ∧ (atG E x.edge.toNat).t = x.po.n)
section
variable {n : Int} {E : List Ed} {B : Bags} {x : En}
theorem may_bad1 (h : rightN x = false ∨ n ≤ x.po.n) : mayI n E B x = 2 := if_pos h
theorem may_bad2 (h : rightN x = true) (hk : x.kind = 3 ∨ x.kind = 4) (he : (E.length : Int) ≤ x.edge ∨ (atG E x.edge.toNat).t ≠ x.po.n) : mayI n E B x = 2 := by
  unfold mayI
  split
  · rfl
  · rw [if_pos ⟨hk, he⟩]
theorem may_good (h : GoodE n E x) : mayI n E B x = if x.kind = 5 then (if x.seq ≠ 0 ∨ x.po.n ≠ 0 then 8 else overI (ofC (atK B x.po.n.toNat) x.po.t) x.n)
    else if x.kind = 1 then (if heldB (atK B x.po.n.toNat) St.zero x.po.t = false then 8 else overI (ofC (atK B x.po.n.toNat) x.po.t) x.n)
    else if x.kind = 3 then (if heldB (atK B (atG E x.edge.toNat).f.toNat) (atG E x.edge.toNat).p x.po.t = false then 8 else 0)
    else if x.kind = 2 then (if ofC (atK B x.po.n.toNat) x.po.t < x.n then 9 else 0)
    else overI (ofC (atK B x.po.n.toNat) x.po.t) x.n := by
  obtain ⟨h1, h2, h3⟩ := h
  unfold mayI
  rw [if_neg (by rw [h1]; simp; omega), if_neg]
  rintro ⟨hk, he⟩
  have := h3 hk
  rcases he with he | he
  · omega
  · exact he this.2
theorem may_feed8 (h : GoodE n E x) (hk : x.kind = 5) (hx : x.seq ≠ 0 ∨ x.po.n ≠ 0) : mayI n E B x = 8 := by rw [may_good h, if_pos hk, if_pos hx]
theorem may_feed (h : GoodE n E x) (hk : x.kind = 5) (h1 : x.seq = 0) (h2 : x.po.n = 0) : mayI n E B x = overI (ofC (atK B x.po.n.toNat) x.po.t) x.n := by rw [may_good h, if_pos hk, if_neg (by omega)]
theorem may_hold (h : GoodE n E x) (hk : x.kind = 1) : mayI n E B x = if heldB (atK B x.po.n.toNat) St.zero x.po.t = false then 8 else overI (ofC (atK B x.po.n.toNat) x.po.t) x.n := by rw [may_good h, if_neg (by omega), if_pos hk]
theorem may_send (h : GoodE n E x) (hk : x.kind = 3) : mayI n E B x = if heldB (atK B (atG E x.edge.toNat).f.toNat) (atG E x.edge.toNat).p x.po.t = false then 8 else 0 := by rw [may_good h, if_neg (by omega), if_neg (by omega), if_pos hk]
theorem may_drop (h : GoodE n E x) (hk : x.kind = 2) : mayI n E B x = if ofC (atK B x.po.n.toNat) x.po.t < x.n then 9 else 0 := by rw [may_good h, if_neg (by omega), if_neg (by omega), if_neg (by omega), if_pos hk]
theorem may_take (h : GoodE n E x) (h1 : x.kind ≠ 1) (h2 : x.kind ≠ 2) (h3 : x.kind ≠ 3) (h5 : x.kind ≠ 5) : mayI n E B x = overI (ofC (atK B x.po.n.toNat) x.po.t) x.n := by rw [may_good h, if_neg h5, if_neg h1, if_neg h3, if_neg h2]
theorem over_t {m k : Int} (h : 1000000000 < m + k) : overI m k = 9 := if_pos h
theorem over_f {m k : Int} (h : ¬ 1000000000 < m + k) : overI m k = 0 := if_neg h
theorem over_zero {m k : Int} (h : overI m k = 0) : m + k ≤ 1000000000 := by unfold overI at h; split at h <;> omega
theorem may_ok (h : mayI n E B x = 0) : GoodE n E x ∧ (x.kind = 5 → x.seq = 0 ∧ x.po.n = 0) ∧ (x.kind = 1 → heldB (atK B x.po.n.toNat) St.zero x.po.t = true) ∧ (x.kind = 3 → heldB (atK B (atG E x.edge.toNat).f.toNat) (atG E x.edge.toNat).p x.po.t = true) ∧ (x.kind = 2 → x.n ≤ ofC (atK B x.po.n.toNat) x.po.t) ∧ (x.kind ≠ 2 → x.kind ≠ 3 → ofC (atK B x.po.n.toNat) x.po.t + x.n ≤ 1000000000) := by
  have hG : GoodE n E x := by
    unfold mayI at h
    split at h
    · omega
    · rename_i h1
      split at h
      · omega
      · rename_i h2
        refine ⟨by cases hr : rightN x with | true => rfl | false => exact absurd (.inl hr) h1, by omega, fun hk => ?_⟩
        by_cases he : (E.length : Int) ≤ x.edge
        · exact absurd ⟨hk, .inl he⟩ h2
        · refine ⟨by omega, ?_⟩
          by_cases ht : (atG E x.edge.toNat).t = x.po.n
          · exact ht
          · exact absurd ⟨hk, .inr ht⟩ h2
  rw [may_good hG] at h
  refine ⟨hG, fun hk => ?_, fun hk => ?_, fun hk => ?_, fun hk => ?_, fun h2 h3 => ?_⟩
  · rw [if_pos hk] at h; split at h <;> omega
  · rw [if_neg (by omega), if_pos hk] at h
    split at h
    · omega
    · rename_i z; exact (Bool.not_eq_false _).mp z
  · rw [if_neg (by omega), if_neg (by omega), if_pos hk] at h
    split at h
    · omega
    · rename_i z; exact (Bool.not_eq_false _).mp z
  · rw [if_neg (by omega), if_neg (by omega), if_neg (by omega), if_pos hk] at h
    split at h <;> omega
  · rw [if_neg h3, if_neg h2] at h
    split at h
    · split at h
      · omega
      · exact over_zero h
    · split at h
      · split at h
        · omega
        · exact over_zero h
      · exact over_zero h
theorem sign_ok (hk : ∀ i, i < B.length → BagOK (atK B i)) (hl : (B.length : Int) = n) (h : mayI n E B x = 0) (h3 : x.kind ≠ 3) : x.po.n.toNat < B.length ∧ addE (atK B x.po.n.toNat) x.po.t (signN x) = 0 ∧ ofC (atK B x.po.n.toNat) x.po.t + signN x = ofC (atK B x.po.n.toNat) x.po.t + (if x.kind = 2 then -x.n else x.n) := by
  obtain ⟨hG, _, _, _, hd, ho⟩ := may_ok h
  have hr := rightN_iff.1 hG.1
  have hi : x.po.n.toNat < B.length := by have := hG.2.1; omega
  have hb := (hk _ hi).bound x.po.t
  refine ⟨hi, ?_, rfl⟩
  unfold signN
  split
  · rename_i h2
    have := hd h2
    exact addE_ok hr.2.2.2.1 (by omega)
  · rename_i h2
    have := ho h2 h3
    exact addE_ok hr.2.2.2.1 (by omega)
end
end Go.Proofs.YtcnmmnhlhenifaaGreat
namespace Go.Proofs.YtcnmmnhlhenifaaGreat
open Go.RowKit Go.MapKept
set_option maxRecDepth 100000
set_option linter.unusedSimpArgs false
set_option linter.unusedVariables false
theorem keyOK_plain {P : Program} {k : TypeId} {d : TypeDesc} (hk : P.underlying k = some d) : KeyOK P k (fun v => IsKey d v) :=
  ⟨fun w em _ h => run_checkKey hk h em 9999, fun w x hx es hes => by
    rcases findNow_spec hx es 0 hes with ⟨h1, h2⟩ | ⟨j, e0, h1, h2, h3⟩
    · exact .inl ⟨run_findKey hk h1, h2⟩
    · exact .inr ⟨j, e0, by simpa using run_findKey hk h1, h2, h3⟩, fun w _ h => run_keyThatStays h⟩
def idV (v : Value) : Value := v
theorem mtCond : MapEn Tryz.prog 80 3 87 iV idV .nilFunc :=
  ⟨Tryz.underlying80, ⟨_, keyOK_plain Tryz.underlying3, fun a => (rfl : IntKind.i64 = IntKind.i64)⟩, fun a b h => by unfold iV at h; injection h, fun w => by kernel_rfl⟩
section
variable {P : Program} {ops rest : List Oper} {o : Oper} {a : Act} {n d : Nat} {L : List (Nat × Value)} {Q : Exit → Act → World → Prop} {R : List Nat} {w w0 : World} {B : List Ent} {zv v : Value} {x y z : Operand} {t k e : TypeId} {i g : Nat} {κ ν : Type} [DecidableEq κ] {ek : κ → Value} {ev : ν → Value} {D D' : List (κ × ν)} {kx : κ} {vx : ν} {C : World → Prop}
theorem sq_insert (E : MapEn P t k e ek ev zv) (F : Fr a n L) (M : Mm R w0 w B) (hw : Region.wanted o (yielded ops.toArray a.tmps) = true) (ho : o.op = .insert t x y z) (hx : a.eval x = .map (some g)) (hy : a.eval y = ek kx) (hz : a.eval z = ev vx)
    (hi : B[i]? = some (.own [g] (MpV g (encM ek ev D)))) (hC : ((kx, vx) :: delM D kx).Perm D') (hd : o.dst = none)
    (h : ∀ w', Mm R w0 w' (B.set i (.own [g] (MpV g (encM ek ev D')))) → wpList P ops.toArray Q rest a w') : wpList P ops.toArray Q (o :: rest) a w := by
  obtain ⟨K, hK, hk⟩ := E.keys
  obtain ⟨w', hr, h1, h2⟩ := update_run hK hk E.inj E.ty (M.pv hi) hC
  exact sq_run0 F hw (v := undef) (.inr (by simp only [execOp, ho, hx, hy, hz]; simp [hr])) (M.swap hi (x' := .own [g] (MpV g (encM ek ev D'))) h1 ⟨h2, MpV.loc _ _⟩ (fun g hg => .inl hg) (fun g hg => by cases hg)) hd h
end
section
variable {P : Program} {ops rest : List Oper} {o : Oper} {a : Act} {n d : Nat} {L : List (Nat × Value)} {Q : Act → Prop} {C : World → Prop} {v : Value} {x : Operand}
theorem qt_callV (F : Fr a n L) (hw : Region.wanted o (yielded ops.toArray a.tmps) = true) {xs : List Operand} {ts : Array TypeId} {args : List Value} {f : Nat} {lb : Array Value} (ho : o.op = .call { callee := .value x, args := xs.toArray, argTypes := ts })
    (hx : a.eval x = .func (.func f) #[] lb) (he : enters P f = true) (ha : xs.map a.eval = args) (hc : ∀ w, C w → Calls P f (args.toArray ++ lb) w fun e w' => e = .returned v ∧ C w') (hd : o.dst = some d) (hdn : Nat.blt d n = true)
    (h : ∀ a', Fr a' n ((d, v) :: L) → wpQuiet P ops.toArray C Q rest a') : wpQuiet P ops.toArray C Q (o :: rest) a :=
  wpQuiet_step fun K hK => by
    rw [if_pos hw]
    refine ⟨v, fun w hC => ?_, hK _ (by rw [hd]; exact h _ (F.put hdn))⟩
    unfold Oper.quietAt
    rw [run_callV ho hx ha w, callFunc_enters he]
    exact ⟨rfl, hc w hC⟩
def nilS : Value → Bool
  | .slice none _ _ => true
  | _ => false
theorem eqlSN_in (w : World) (d : Nat) {t e : TypeId} (A : Option Addr) (n c : Nat) (h : P.underlying t = some (.slice e)) : (Op.equalIn (d + 1) t (.slice A n c) (.slice none 0 0)).run P w = .ok A.isNone w := by
  cases A <;> simp [Op.equalIn, run_underlying h]
theorem eqlSN_run (w : World) {t e : TypeId} (A : Option Addr) (n c : Nat) (h : P.underlying t = some (.slice e)) : (binOp .eql t (.slice A n c) (.slice none 0 0)).run P w = .ok (.bool A.isNone) w := by
  simp only [binOp]
  simp [Op.equal, Op.maxDepth, eqlSN_in w 9999 A n c h]
theorem pu_eqlSN {w : World} {m n : Nat} {xs : List Value} {u : Value} {y : Operand} {t t' e : TypeId} (ho : o.op = .binOp .eql t x y t') (hx : a.eval x = u) (hv : RdV w m u n xs) (hy : a.eval y = .slice none 0 0) (ht : P.underlying t = some (.slice e)) : Pure P o a (.bool (nilS u)) := fun w' => by
  obtain ⟨_, A, c, rfl, _, _, _⟩ := hv
  simp only [execOp, ho, hx, hy]
  cases A <;> simp [go_sem, ht, eqlSN_run w' _ _ _ ht, nilS]
theorem nil_len {w : World} {m n : Nat} {xs : List Value} {u : Value} (hv : RdV w m u n xs) (h : nilS u = true) : n = 0 := by
  obtain ⟨_, A, c, rfl, _, _, h3⟩ := hv
  rcases Nat.eq_zero_or_pos n with h0 | h0
  · exact h0
  · obtain ⟨g, off, rfl, _, _⟩ := h3 h0
    cases h
end
structure Cd where
  gm : Nat
  be : Nat
  bh : Nat
  ba : Nat
  br : Nat
def cdL (c : Cd) : List (Int × Value) :=
  [(2, .func (.func 69) #[] #[.pointer (some ⟨c.bh, 0, none⟩)]), (4, .func (.func 68) #[] #[.pointer (some ⟨c.ba, 0, none⟩), .pointer (some ⟨c.br, 0, none⟩)]),
   (3, .func (.func 67) #[] #[.pointer (some ⟨c.ba, 0, none⟩), .pointer (some ⟨c.be, 0, none⟩), .pointer (some ⟨c.bh, 0, none⟩)]), (1, .func (.func 65) #[] #[.pointer (some ⟨c.bh, 0, none⟩), .pointer (some ⟨c.br, 0, none⟩)]),
   (5, .func (.func 64) #[] #[.pointer (some ⟨c.br, 0, none⟩)])]
def cdEnts (c : Cd) (v : Value) (K : List (Nat × Nat)) : List Ent :=
  [.own [c.gm] (MpV c.gm (encM iV idV (cdL c))), .blk c.be 22 #[v], .blk c.bh 74 (arr8 K).toArray, .blk c.ba 88 #[.func (.func 62) #[] #[.pointer (some ⟨c.be, 0, none⟩)]], .blk c.br 34 #[.func (.func 63) #[] #[.pointer (some ⟨c.bh, 0, none⟩)]]]
theorem cdEnts_base (c : Cd) (v : Value) (K : List (Nat × Nat)) : ∀ x ∈ cdEnts c v K, x.base = [] := fun x hx => by
  simp only [cdEnts, List.mem_cons, List.not_mem_nil, or_false] at hx
  rcases hx with rfl | rfl | rfl | rfl | rfl <;> rfl
def bkCells (n : Int) (K : List (Nat × Nat)) (c : Cd) : Array Value := #[.int .i64 n, .pointer (pad K 0), .pointer (pad K 1), .pointer (pad K 2), .pointer (pad K 3), .pointer (pad K 4), .pointer (pad K 5), .pointer (pad K 6), .pointer (pad K 7), .map (some c.gm)]
def bkEnts (r : Nat) (n : Int) (E : List Ed) (K : List (Nat × Nat)) (B : Bags) (c : Cd) (v : Value) : List Ent :=
  [.blk r 83 (bkCells n K c), .own (fpK K) (BgsV K B), .own (fpE (cdEnts c v K)) (PkV (cdEnts c v K)), .row 79 4 v E.length (cG E)]
theorem bkEnts_base (r : Nat) (n : Int) (E : List Ed) (K : List (Nat × Nat)) (B : Bags) (c : Cd) (v : Value) : ∀ x ∈ bkEnts r n E K B c v, x.base = [] := fun x hx => by
  simp only [bkEnts, List.mem_cons, List.not_mem_nil, or_false] at hx
  rcases hx with rfl | rfl | rfl | rfl <;> rfl
structure BkS (n : Int) (E : List Ed) (B : Bags) : Prop where
  len : (B.length : Int) = n
  n1 : 1 ≤ n
  n8 : n ≤ 8
  fits : ∀ i : Nat, i < E.length → 0 ≤ (atG E i).f ∧ (atG E i).f < n
  edges : E.length ≤ 20000000
def BokV (r : Nat) (fp : List Nat) (n : Int) (E : List Ed) (B : Bags) (w : World) : Prop :=
  ∃ K c v, fp = fpE (bkEnts r n E K B c v) ∧ PkV (bkEnts r n E K B c v) w ∧ BkS n E B
theorem BokV.loc (r : Nat) (fp : List Nat) (n : Int) (E : List Ed) (B : Bags) : Loc fp (BokV r fp n E B) := fun w w' hk ⟨K, c, v, e, h, hs⟩ => by
  subst e
  have z := PkV.loc _ w w' hk h
  exact ⟨⟨K, c, v, rfl, z.1, hs⟩, z.2⟩
theorem Mm.bokTurns {w0 w : World} {r : Nat} {n : Int} {E : List Ed} {K : List (Nat × Nat)} {B B' : Bags} {c : Cd} {v : Value} {fp : List Nat} {u : Value} {Z : Value → Ent → Prop} (M : Mm fp w0 w (bkEnts r n E K B' c v)) (e : fp = fpE (bkEnts r n E K B c v)) (hs : BkS n E B') (hz : Z u (.own fp (BokV r fp n E B'))) :
    TurnsE w0 (.own fp (BokV r fp n E B)) Z (.returned u) w := by
  have e' : fp = fpE (bkEnts r n E K B' c v) := e
  have hb := bkEnts_base r n E K B' c v
  have hv : BokV r fp n E B' w := ⟨K, c, v, e', M.pkv hb, hs⟩
  exact M.pkTurns rfl hb (Ψ := BokV r fp n E B') hv (e' ▸ BokV.loc r fp n E B') (e' ▸ hz)
theorem Mm.bokMakes {w0 w : World} {r : Nat} {n : Int} {E : List Ed} {K : List (Nat × Nat)} {B : Bags} {c : Cd} {v : Value} {u : Value} {Z : Value → Ent → Prop} (M : Mm [] w0 w (bkEnts r n E K B c v)) (hs : BkS n E B) (hz : ∀ fp, Z u (.own fp (BokV r fp n E B))) : MakesE w0 Z (.returned u) w :=
  M.pkMakes (Ψ := BokV r (fpE (bkEnts r n E K B c v)) n E B) ⟨K, c, v, rfl, M.pkv (bkEnts_base _ _ _ _ _ _ _), hs⟩ (BokV.loc _ _ _ _ _) (hz _)
theorem le_after {s c p t : St} (hs : s.rightB = true) (hl : s.leB c = true) (ha : c.afterB p = true) (h : (c.after p).leB t = true) : s.afterB p = true ∧ (s.after p).leB t = true := by
  have h1 := after_t ha
  have h2 := right_t hs
  have h3 := le_t hl
  have h4 := le_t h
  have h5 : s.afterB p = true := by
    unfold St.afterB
    rw [Bool.and_eq_true, Bool.and_eq_true]
    have hp : p.rightB = true := St.right_iff.2 (by omega)
    refine ⟨⟨hs, hp⟩, St.right_iff.2 ?_⟩
    have e := after_yes ha
    rw [e] at h1 h4
    simp only [St.add] at h1 ⊢
    omega
  refine ⟨h5, St.le_iff.2 ?_⟩
  rw [after_yes h5]
  rw [after_yes ha] at h4
  simp only [St.add] at h4 ⊢
  omega
section
variable {C : List Ct} {p t : St}
theorem lead_at {i : Nat} (hi : i < (minL (posL C)).length) (h1 : (atS (minL (posL C)) i).afterB p = true) (h2 : ((atS (minL (posL C)) i).after p).leB t = true) : heldB C p t = true := by
  obtain ⟨c, hc, h0, e⟩ := mem_posL.1 (mem_minL.1 (atS_mem hi)).1
  refine List.any_eq_true.2 ⟨c, hc, ?_⟩
  rw [e, h1, h2]
  simpa using h0
theorem lead_none {i : Int} (hk : BagOK C) (hall : ∀ k, k < i.toNat → ¬ ((atS (minL (posL C)) k).afterB p = true ∧ ((atS (minL (posL C)) k).after p).leB t = true)) (hi : ¬ i < ((minL (posL C)).length : Int)) : heldB C p t = false := by
  cases h : heldB C p t with
  | false => rfl
  | true =>
    obtain ⟨c, hc, h1⟩ := List.any_eq_true.1 h
    simp only [Bool.and_eq_true, decide_eq_true_eq] at h1
    have hcov : covB (minL (posL C)) c.1 = true := by
      rw [min_cov]
      exact List.any_eq_true.2 ⟨c.1, mem_posL.2 ⟨c, hc, h1.1, rfl⟩, St.le_refl _⟩
    obtain ⟨s, hs, hsl⟩ := List.any_eq_true.1 hcov
    obtain ⟨d, hd, _, e⟩ := mem_posL.1 (mem_minL.1 hs).1
    have hsr : s.rightB = true := by rw [← e]; exact (hk.ok d hd).2.2.2
    obtain ⟨j, hj, rfl⟩ := at_of_mem hs
    exact absurd (le_after hsr hsl h1.2.1 h1.2.2) (hall j (by omega))
end
def arrB (E : List Ed) (x : En) : Bool := decide (x.edge < (E.length : Int)) && decide ((atG E x.edge.toNat).t = x.po.n)
theorem arr_yes {E : List Ed} {x : En} (h : arrB E x = true) : x.edge < (E.length : Int) ∧ (atG E x.edge.toNat).t = x.po.n := by
  unfold arrB at h
  rw [Bool.and_eq_true, decide_eq_true_iff, decide_eq_true_iff] at h; exact h
theorem arr_no {E : List Ed} {x : En} (h : arrB E x = false) : (E.length : Int) ≤ x.edge ∨ (atG E x.edge.toNat).t ≠ x.po.n := by
  unfold arrB at h
  by_cases h1 : x.edge < (E.length : Int)
  · right; intro e; rw [decide_eq_true h1, decide_eq_true e] at h; cases h
  · left; omega
theorem bk_right (x : En) : decide (entryE x = 0) = rightN x := by
  unfold entryE
  cases rightN x <;> rfl
end Go.Proofs.YtcnmmnhlhenifaaGreat
namespace Go.Proofs.YtcnmmnhlhenifaaGreat
open Go.RowKit
set_option maxRecDepth 100000
set_option linter.unusedSimpArgs false
set_option linter.unusedVariables false
end Go.Proofs.YtcnmmnhlhenifaaGreat
namespace Go.Proofs.YtcnmmnhlhenifaaGreat
open Go.RowKit
set_option maxRecDepth 100000
set_option linter.unusedSimpArgs false
set_option linter.unusedVariables false
set_option maxHeartbeats 1000000 in
theorem pright_any (p : St) (w : World) :
    Calls Tryz.prog 82 #[.agg #[.int .i64 p.e, .int .i64 p.r]] w (fun e w' => e = .returned ((.bool p.rightB)) ∧ Below w.heap.size w w') := by
  refine enterF Tryz.func82 rfl 9 Tryz.ntmps82 [.agg #[.int .i64 p.e, .int .i64 p.r]] rfl [(0, .agg #[.int .i64 p.e, .int .i64 p.r])] rfl ?_; intro φ F; have M := Mm.start [] w; refine wp_seq ?_; refine wp_region_lit ?_; refine sq_box F M (wt0 rfl) rfl (F.ev rfl) (cs := #[.int .i64 p.e, .int .i64 p.r]) rfl rfl rfl ?_; clear F M; intro φ ω g1 F M; revert φ; refine asG ?_; refine nxG ?_; refine srG ?_; refine faG fo77_0 ?_; refine lcG M one3 (r := 0) rfl ?_; refine faG fo77_1 ?_; refine lcG M one3 (r := 0) rfl ?_; refine puG (fun _ F => bu37_0_1 rfl (F.ev rfl) (F.ev rfl)) ?_; intro φ F; refine sq_call F M (wt0 rfl) rfl en76 (evc (F.ev rfl) evn) (rright_any p _) rfl rfl ?_; clear F M; intro φ ω F M; revert φ; refine asG ?_; intro φ F; refine nx ?_; refine wp_ret ?_; refine rt_tmp F rfl rfl ?_; exact ⟨rfl, M.bel⟩
end Go.Proofs.YtcnmmnhlhenifaaGreat
namespace Go.Proofs.YtcnmmnhlhenifaaGreat
open Go.RowKit Go.Sort
set_option maxRecDepth 100000
set_option linter.unusedSimpArgs false
set_option linter.unusedVariables false
section
variable {α : Type} [Inhabited α] {lt : α → α → Bool} {g : Nat} {lb : Array Value} {sf : Nat} {sb : Array Value} {blk t n : Nat} {W0 : World} {cA : Array α → Array Value}
theorem pdq_all (eg : enters Tryz.prog g = true) (hL : LessOK Tryz.prog g lb lt blk t n W0 cA) (hS : SwapOK Tryz.prog sf sb blk t n cA) (hn : n ≤ 1000000000) (hO : SWO lt)
    (hBP : ∀ (a b : Nat) (d : Array α) (w : World), d.size = n → a ≤ b → b ≤ n → Blk w blk t (cA d) → Calls Tryz.prog 144 #[.agg #[.func (.func g) #[] lb, .func (.func sf) #[] sb], .int .i64 a, .int .i64 b] w (Turns blk t cA w fun v d' => v = .tuple #[] ∧ d'.size = n ∧ PermIn a b d d')) :
    ∀ m, PdqIH m lt n W0 blk t cA (.agg #[.func (.func g) #[] lb, .func (.func sf) #[] sb]) := by
  intro m
  induction m with
  | zero => intro a b l d w h; omega
  | succ m ih =>
    intro a b l d w hm hs hab hb hl hBl hW hB
    exact pdq_step eg hL hS hn hO hBP a b l (fun a' b' l' d' w' h' => ih a' b' l' d' w' (by omega)) d hs hab hb hl hBl _ _ _ rfl rfl rfl w hW hB
end
section
variable {P : Program} {w w' : World} {g t : Nat}
theorem out_setCells : ∀ (vs : List Value) (s : Nat) (w : World), Out [g] w (w.setCells g s vs)
  | [], _, _ => Out.refl _ _
  | v :: r, s, w => by
    have h1 : Out [g] w (w.setCell ⟨g, s, none⟩ v) := ⟨rfl, rfl, rfl, by simp, fun k _ hk => heap_setCell_other w ⟨g, s, none⟩ k v (fun e => hk (by simpa using e))⟩
    exact h1.trans (out_setCells r (s + 1) _) (fun _ h => .inr h)
theorem blk_setCells : ∀ (vs : List Value) (s : Nat) (w : World) (F : Array Value), Blk w g t F → Blk (w.setCells g s vs) g t (setMany F s vs)
  | [], _, _, _, h => h
  | v :: r, s, _, _, h => blk_setCells r (s + 1) _ _ (h.set_ s v)
end
instance : Inhabited St := ⟨St.zero⟩
def encS (s : St) : List Value := [.int .i64 s.e, .int .i64 s.r]
abbrev fA (d : Array St) : Array Value := flatK encS 2 d
theorem encS_one : ∀ x, ∀ v ∈ encS x, v.oneCell' = true := fun x v hv => by
  simp only [encS, List.mem_cons, List.not_mem_nil, or_false] at hv
  rcases hv with rfl | rfl <;> rfl
theorem fA_eq (L : List St) : fA L.toArray = (cS L).toArray := by
  refine ext_get! (by simp [cS_len]) fun i hi => ?_
  have hi' : i < L.length * 2 := by simpa using hi
  rw [get_flatK _ _ _ _ (by simpa using hi')]
  have hc := cS_at (L := L) (i := i / 2) (by omega)
  have hg : ∀ j, j < 2 → (cS L)[i / 2 * 2 + j]? = [Value.int .i64 (atS L (i / 2)).e, .int .i64 (atS L (i / 2)).r][j]? := fun j hj => by
    rw [← hc]; simp [hj]
  have h2 := hg (i % 2) (Nat.mod_lt _ (by omega))
  rw [show i / 2 * 2 + i % 2 = i by omega] at h2
  have h3 : L.toArray[i / 2]! = atS L (i / 2) := by
    rw [atS_eq (by omega)]; simp [show i / 2 < L.length by omega]
  have hlt : i < (cS L).toArray.size := by simpa [cS_len] using hi'
  rw [getElem!_pos (cS L).toArray i hlt, h3]
  have h4 : (cS L).toArray[i] = (cS L)[i]'(by simpa using hlt) := by simp
  rw [h4]
  rw [List.getElem?_eq_getElem (by simpa using hlt)] at h2
  have hm : i % 2 < 2 := Nat.mod_lt _ (by omega)
  unfold encS
  rcases (show i % 2 = 0 ∨ i % 2 = 1 by omega) with h5 | h5
  · rw [h5] at h2 ⊢; simpa using h2.symm
  · rw [h5] at h2 ⊢; simpa using h2.symm
theorem holds_blk {w : World} {g t : Nat} {d : Array St} (h : Blk w g t (fA d)) : HoldsK encS 2 w g 0 d := fun j hj => by
  rw [Nat.zero_add]
  exact ⟨by rw [h.cell, getElem!_pos (flatK encS 2 d) j hj, Array.getElem?_eq_getElem hj]; rfl, h.frozen _⟩
noncomputable def eInf : TypeInfo := (Tryz.prog.info? 37).get (by kernel_rfl)
noncomputable def sInf : TypeInfo := (Tryz.prog.info? 101).get (by kernel_rfl)
theorem eInf_is : Tryz.prog.info? 37 = some eInf := by kernel_rfl
theorem sInf_is : Tryz.prog.info? 101 = some sInf := by kernel_rfl
theorem swK (n : Nat) (h2 : 2 ≤ n) : Lib.swapperK n eInf 25 = 9 := by
  have a : eInf.hasPointers = false := by kernel_rfl
  have b : eInf.bytes = 16 := by kernel_rfl
  have c : (n == 0) = false := by simp; omega
  have d : (n == 1) = false := by simp; omega
  simp [Lib.swapperK, a, b, c, d]
theorem swap_ok (blk n c : Nat) : SwapOK Tryz.prog 139 #[.slice (some ⟨blk, 0, none⟩) n c, typeHandle Tryz.prog 37] blk 37 n fA := by
  intro d w i j hs hi hj hB
  have h := swapSwapsK_of_literal (P := Tryz.prog) false 139 (fun args W => run_callFunc_extern Tryz.func139 (by kernel_rfl) (by kernel_rfl) (by kernel_rfl) (e := Extern.ReflectliteSwapper.swap false) (by kernel_rfl) args W)
    37 eInf eInf_is encS 2 (fun _ => rfl) (by kernel_rfl) (fun _ => by kernel_rfl) encS_one blk 0 n c w d (holds_blk hB) hs i j hi hj
  refine ⟨_, h, ?_, ?_⟩
  · exact (out_setCells _ _ _).trans (out_setCells _ _ _) (fun _ h => .inr h)
  · have := blk_setCells (encS d[i]!) (0 + j * 2) _ _ (blk_setCells (encS d[j]!) (0 + i * 2) w _ hB)
    rw [Nat.zero_add, Nat.zero_add, setMany_swp encS 2 (fun _ => rfl) d i j (by omega) (by omega)] at this
    rw [Nat.zero_add, Nat.zero_add]
    exact this
theorem blk_putRow {w : World} {g t : Nat} {F F' : Array Value} (h : Blk w g t F) (hs : F'.size = F.size) : Blk (putRow id w g 0 F') g t F' := by
  unfold putRow mapBlock Blk
  unfold Blk at h
  simp only [Array.getElem?_modify, if_true, h, Option.map_some, onCells]
  congr 2
  apply Array.ext
  · simp [putCells, hs]
  · intro i h1 h2
    simp only [putCells, Array.getElem_mapIdx, Nat.zero_le, true_and, Nat.zero_add, h2, if_true, Nat.sub_zero, id_eq]
    exact getElem!_pos F' i h2
theorem out_putRow {w : World} {g : Nat} {F' : Array Value} : Out [g] w (putRow id w g 0 F') := ⟨rfl, rfl, rfl, by simp, fun k _ hk => by
  unfold putRow mapBlock
  simp only [Array.getElem?_modify]
  rw [if_neg (fun e => hk (by simp [e]))]⟩
theorem out_grow (R : List Nat) (w : World) (os : Array Obj) : Out R w (grow w os) := ⟨rfl, rfl, rfl, by simp [grow], fun k hk _ => by
  simp only [grow]
  rw [Array.getElem?_append_left hk]⟩
theorem out_sort {w : World} {g t n : Nat} {d d' : Array St} {os : Array Obj} (hB : Blk w g t (fA d)) (hs : d'.size = d.size) : Out [g] w (sortWorldK encS 2 w g 0 n d' os) ∧ Blk (sortWorldK encS 2 w g 0 n d' os) g t (fA d') := by
  have h0 : Out [g] w (Sort.ahead w n) := ⟨rfl, rfl, rfl, Nat.le_refl _, fun _ _ _ => rfl⟩
  have h1 : Out [g] w (putRow id (Sort.ahead w n) g 0 (fA d')) := h0.trans out_putRow (fun _ h => .inr h)
  have hb : Blk (putRow id (Sort.ahead w n) g 0 (fA d')) g t (fA d') := blk_putRow (show Blk (Sort.ahead w n) g t (fA d) from hB) (by simp [hs])
  refine ⟨h1.trans (out_grow [] _ os) (fun _ h => by cases h), ?_⟩
  exact (out_grow [] _ os).blk hb (by simp)
theorem break_ok (blk c n : Nat) (lf : Fn) (lb : Array Value) (hn : n ≤ 1000000000) (a b : Nat) (d : Array St) (w : World) (hs : d.size = n) (hab : a ≤ b) (hb : b ≤ n) (hB : Blk w blk 37 (fA d)) :
    Calls Tryz.prog 144 #[.agg #[.func lf #[] lb, .func (.func 139) #[] #[.slice (some ⟨blk, 0, none⟩) n c, typeHandle Tryz.prog 37]], .int .i64 a, .int .i64 b] w (Turns blk 37 fA w fun v d' => v = .tuple #[] ∧ d'.size = n ∧ PermIn a b d d') := by
  subst hs
  have hsw := swapSwapsK_of_literal (P := Tryz.prog) false 139 (fun args W => run_callFunc_extern Tryz.func139 (by kernel_rfl) (by kernel_rfl) (by kernel_rfl) (e := Extern.ReflectliteSwapper.swap false) (by kernel_rfl) args W)
    37 eInf eInf_is encS 2 (fun _ => rfl) (by kernel_rfl) (fun _ => by kernel_rfl) encS_one blk 0 d.size c
  have h := Any.breakPatterns_func_cells_w (P := Tryz.prog) { Tryz.sl6 with } encS 2 (fun _ => rfl) lf #[] lb 139 #[.slice (some ⟨blk, 0, none⟩) d.size c, typeHandle Tryz.prog 37] blk 0 a b d w hsw (holds_blk hB) hB.lt hab (by omega) (by omega)
  refine Calls.mono h ?_
  rintro e w' ⟨rfl, m, os, rfl⟩
  have hp := breakPatterns_holds d a b hab (by omega)
  have h2 := out_sort (n := m) (d' := breakPatterns d a b) (os := os) hB hp.1
  exact ⟨_, _, rfl, h2.1, h2.2, rfl, hp.1, hp⟩
theorem sortS (g : Nat) (lb : Array Value) (lt : St → St → Bool) (hO : SWO lt) (eg : enters Tryz.prog g = true) (blk c : Nat) (d : Array St) (w : World) (hn : d.size ≤ 20000000) (hB : Blk w blk 37 (fA d)) (hL : LessOK Tryz.prog g lb lt blk 37 d.size w fA) :
    Calls Tryz.prog 104 #[.iface 101 (.slice (some ⟨blk, 0, none⟩) d.size c), .func (.func g) #[] lb] w (Turns blk 37 fA w fun v d' => v = .tuple #[] ∧ d'.size = d.size ∧ PermIn 0 d.size d d' ∧ SortedIn lt 0 d.size d') := by
  rcases Nat.lt_or_ge d.size 2 with h1 | h2
  · have ht : ∃ f, Tryz.prog.funcs.findIdx? (·.name == "internal/reflectlite" ++ ".Swapper$" ++ toString (Lib.swapperK d.size eInf 25)) = some f := by
      rcases (show d.size = 0 ∨ d.size = 1 by omega) with e | e
      · rw [e]; exact ⟨131, by kernel_rfl⟩
      · rw [e]; exact ⟨132, by kernel_rfl⟩
    obtain ⟨f, hf⟩ := ht
    refine Calls.mono (Any.sort_Slice_tiny (P := Tryz.prog) Tryz.sl6 101 37 sInf eInf sInf_is (by kernel_rfl) (by kernel_rfl) eInf_is 25 (fun _ => by kernel_rfl) (some ⟨blk, 0, none⟩) d.size c (by omega) f hf (.func g) #[] lb w) ?_
    rintro e w' ⟨rfl, os, rfl⟩
    exact ⟨_, d, rfl, out_grow _ _ _, (out_grow [] _ os).blk hB (by simp), rfl, rfl, permIn_refl _ _ _, fun i j h3 h4 h5 => by omega⟩
  · have hK : Tryz.prog.funcs.findIdx? (·.name == "internal/reflectlite" ++ ".Swapper$" ++ toString (Lib.swapperK d.size eInf 25)) = some 139 := by rw [swK _ h2]; kernel_rfl
    refine Calls.mono (Any.sort_Slice_of_pdq (P := Tryz.prog) Tryz.sl6 101 37 sInf eInf sInf_is (by kernel_rfl) (by kernel_rfl) eInf_is 25 (fun _ => by kernel_rfl) (some ⟨blk, 0, none⟩) d.size c (by omega) 139 hK (.func g) #[] lb w
      (fun w' => ∃ d', Out [blk] w w' ∧ Blk w' blk 37 (fA d') ∧ d'.size = d.size ∧ PermIn 0 d.size d d' ∧ SortedIn lt 0 d.size d') ?_) ?_
    · have hb2 : Below w.heap.size w (sliceWorld Tryz.prog Tryz.sl6_ren 101 (some ⟨blk, 0, none⟩) d.size c w) := bel2 _ _ _
      have ho := Below.out hb2 [blk]
      have hlim : Lib.bitLen d.size ≤ 1000 := Nat.le_trans (Lib.bitLen_le d.size 62 (by omega) (by omega)) (by omega)
      have hsb : sliceBound Tryz.prog 37 eInf 25 (some ⟨blk, 0, none⟩) d.size c = #[.slice (some ⟨blk, 0, none⟩) d.size c, typeHandle Tryz.prog 37] := by
        unfold sliceBound; rw [if_neg (swapperK_gt _ _ _ h2)]
      rw [hsb]
      have hp := pdq_all eg hL (swap_ok blk d.size c) (by omega) hO (fun a b d' w' h3 h4 h5 h6 => break_ok blk c d.size (.func g) lb (by omega) a b d' w' h3 h4 h5 h6) (d.size + 1)
        0 d.size (Lib.bitLen d.size) d _ (by omega) rfl (Nat.zero_le _) (Nat.le_refl _) hlim (Or.inl rfl) ho (hB.below hb2 hB.lt)
      refine Calls.mono hp ?_
      rintro e w' ⟨v, d', rfl, h3, h4, rfl, h5, h6, h7⟩
      exact ⟨rfl, d', ho.trans h3 (fun _ h => .inr h), h4, h5, h6, h7⟩
    · rintro e w' ⟨rfl, d', h3, h4, h5, h6, h7⟩
      exact ⟨_, d', rfl, h3, h4, rfl, h5, h6, h7⟩
end Go.Proofs.YtcnmmnhlhenifaaGreat
namespace Go.Proofs.YtcnmmnhlhenifaaGreat
open Go.RowKit Go.Sort
set_option maxRecDepth 100000
set_option linter.unusedSimpArgs false
set_option linter.unusedVariables false
theorem setMany_cS : ∀ (L : List St) (i : Nat) (x : St), i < L.length → setMany (cL L) (i * 2) (encS x) = cL (L.set i x) := by
  intro L i x hi
  refine ext_get! (by simp [cL_size]) fun j hj => ?_
  have hj' : j < L.length * 2 := by simpa [cL_size] using hj
  rw [get_setMany _ _ _ j (by rw [cL_size]; exact hj')]
  have hl : ∀ (K : List St), K.length = L.length → (cL K)[j]! = [Value.int .i64 (atS K (j / 2)).e, .int .i64 (atS K (j / 2)).r][j % 2]! := fun K hK => by
    have h0 : cL K = fA K.toArray := (fA_eq K).symm
    rw [h0, get_flatK _ _ _ _ (by simp [hK]; omega)]
    have h3 : K.toArray[j / 2]! = atS K (j / 2) := by rw [atS_eq (by omega)]; simp [show j / 2 < K.length by omega]
    rw [h3]; rfl
  rw [hl (L.set i x) (by simp), hl L rfl]
  have hm : j % 2 < 2 := Nat.mod_lt _ (by omega)
  by_cases hc : i * 2 ≤ j ∧ j < i * 2 + (encS x).length
  · rw [if_pos hc]
    have h2 : (encS x).length = 2 := rfl
    have : j / 2 = i := by omega
    rw [show atS (L.set i x) (j / 2) = x by rw [this, atS_eq (by simpa using hi)]; simp]
    rw [show j - i * 2 = j % 2 by omega]; rfl
  · rw [if_neg hc]
    have h2 : (encS x).length = 2 := rfl
    have : ¬ i = j / 2 := by omega
    rw [show atS (L.set i x) (j / 2) = atS L (j / 2) by rw [atS_eq (by simp; omega), atS_eq (by omega)]; simp [this]]
section
variable {P : Program} {ops rest : List Oper} {o : Oper} {a : Act} {n d : Nat} {L : List (Nat × Value)} {Q : Exit → Act → World → Prop} {R : List Nat} {w w0 : World} {B : List Ent} {v u : Value} {x y : Operand} {t e ty : TypeId} {i g k m : Nat} {K K' : List St}
theorem copy_run {c1 : Nat} (hu : P.underlying t = some (.slice e)) (hs : (P.info? e).map (·.size) = some 2) {cs : Array Value} (hb : Blk w g ty cs) (hz : cs.size = k * 2) (hr : RdV w 2 u k (cS K)) :
    (Builtin.copy_ #[t, t] o.type #[.slice (some ⟨g, 0, none⟩) k c1, u]).run P w = .ok (goInt k) (w.setRow g (cL K)) := by
  obtain ⟨hl, A, c, rfl, h1, h2, h3⟩ := hr
  have hKl : K.length = k := by rw [cS_len] at hl; omega
  have hself : w.setRow g cs = w := setRow_self w g cs ty (0, 0) hb
  cases hq : P.info? e with
  | none => simp [hq] at hs
  | some inf =>
    have hi : inf.size = 2 := by simpa [hq] using hs
    rcases Nat.eq_zero_or_pos k with h0 | h0
    · subst h0
      have hK0 : K = [] := List.eq_nil_of_length_eq_zero hKl
      subst hK0
      have hcs : cs = cL [] := by
        have : cs.size = 0 := by simpa using hz
        rw [Array.eq_empty_of_size_eq_zero this]; rfl
      rw [← hcs, hself]
      cases A with
      | none => simp [Builtin.copy_, run_underlying hu, Builtin.lenOf, Builtin.firstCells, sizeOf, typeInfo, hq, storeCells, goInt]
      | some ad => simp [Builtin.copy_, run_underlying hu, Builtin.lenOf, Builtin.firstCells, sizeOf, typeInfo, hq, loadCells, loadCellsFrom, storeCells, goInt]
    · obtain ⟨g', off, rfl, h4, h5⟩ := h3 h0
      have hl2 := run_loadCells_list (P := P) w ⟨g', off, none⟩ (cS K) (fun j v hj => by rw [addr_add]; exact h5 j v hj)
      have hst := run_storeCells_at P g 0 ty (cS K) 0 cs w hb (by rw [hz, hl]; omega) (cS_ones K)
      have hcl : (cs.toList.take (0 + 0) ++ cS K ++ cs.toList.drop (0 + 0 + (cS K).length)).toArray = cL K := by
        rw [List.drop_eq_nil_of_le (by simp [hz, hl])]
        simp [cL]
      rw [hcl] at hst
      simp [Builtin.copy_, run_underlying hu, Builtin.lenOf, Builtin.firstCells, sizeOf, typeInfo, hq, hi, ← hl, hl2, hst, goInt]
theorem sq_copy (F : Fr a n L) (M : Mm R w0 w B) (hw : Region.wanted o (yielded ops.toArray a.tmps) = true) {c1 : Nat} {cs : Array Value} (ho : o.op = .call { callee := .builtin .copy, args := #[x, y], argTypes := #[t, t] }) (hx : a.eval x = .slice (some ⟨g, 0, none⟩) k c1) (hy : a.eval y = u)
    (hi : B[i]? = some (.blk g ty cs)) (hz : cs.size = k * 2) (hr : RdV w 2 u k (cS K)) (hT : SlTy P t e 2) (hd : o.dst = some d) (hdn : Nat.blt d n = true)
    (h : ∀ a' w', Fr a' n ((d, .int .i64 k) :: L) → Mm R w0 w' (B.set i (.blk g ty (cL K))) → wpList P ops.toArray Q rest a' w') : wpList P ops.toArray Q (o :: rest) a w :=
  wpList_step fun K' hK => by
    rw [if_pos hw]
    have hrun := copy_run (P := P) (o := o) (c1 := c1) hT.1 hT.2 (M.at hi) hz hr
    have hexec : (execOp a.eval o).run P w = .ok (.value (goInt k)) (w.setRow g (cL K)) := by
      simp only [execOp, ho, resolve, invoke, builtin, Sem.run_bind, Sem.run_pure, Result.andThen_ok, List.map_toArray, List.map_cons, List.map_nil, hx, hy, hrun]
    unfold Oper.wp
    rw [hexec]
    refine hK _ _ ?_
    rw [hd]
    exact h _ _ (F.put hdn) (M.setRow hi _)
theorem sq_stL (F : Fr a n L) (M : Mm R w0 w B) (hw : Region.wanted o (yielded ops.toArray a.tmps) = true) {s : St} {j : Nat} (ho : o.op = .store ty x y) (hx : a.eval x = .pointer (some ⟨g, 0 + j * 2, none⟩)) (hy : a.eval y = .agg #[.int .i64 s.e, .int .i64 s.r])
    (hi : B[i]? = some (.blk g t (cL K))) (hj : j < K.length) (hT : AggTy P ty 2) (hd : o.dst = none)
    (h : ∀ w', Mm R w0 w' (B.set i (.blk g t (cL (K.set j s)))) → wpList P ops.toArray Q rest a w') : wpList P ops.toArray Q (o :: rest) a w :=
  wpList_step fun K' hK => by
    rw [if_pos hw]
    have _ := F.size
    obtain ⟨dd, hu, hdd, hsz⟩ := hT
    have hb := M.at hi
    have hth : w.there g (0 + j * 2) (#[Value.int .i64 s.e, .int .i64 s.r] : Array Value).size := fun q hq => by
      have hq2 : q < 2 := hq
      refine ⟨?_, hb.frozen _⟩
      rw [hb.cell, Array.getElem?_eq_getElem (by rw [cL_size]; omega)]; rfl
    have hrun := run_storeAt_mid (P := P) w g (0 + j * 2) ty #[.int .i64 s.e, .int .i64 s.r] hth (by rw [hsz]; rfl) (by simp [Value.oneCell'])
    have hexec : (execOp a.eval o).run P w = .ok .skip (w.setCells g (0 + j * 2) (encS s)) := by
      simp only [execOp, ho, hx, hy]
      simp only [Sem.run_bind, hrun, Result.andThen_ok, Sem.run_pure]
      rfl
    unfold Oper.wp
    rw [hexec]
    refine hK _ _ ?_
    rw [hd]
    have hb2 := blk_setCells (encS s) (0 + j * 2) w _ hb
    rw [Nat.zero_add, setMany_cS K j s hj] at hb2
    rw [Nat.zero_add]
    exact h _ (M.turned hi (out_setCells _ _ _) hb2)
theorem sq_clear (F : Fr a n L) (M : Mm R w0 w B) (hw : Region.wanted o (yielded ops.toArray a.tmps) = true) {c1 : Nat} (ho : o.op = .call { callee := .builtin .clear, args := #[x], argTypes := #[t] }) (hx : a.eval x = subS 2 k m (.slice (some ⟨g, 0, none⟩) m c1))
    (hi : B[i]? = some (.blk g ty (cL K))) (hk : k ≤ m) (hc1 : m ≤ c1) (hz : K.length = m) (hT : SlTy P t e 2) {bytes : Nat} (hE : (P.info? e).map (fun i => (i.zero, i.size, i.bytes)) = some (some (.agg #[.int .i64 0, .int .i64 0]), 2, bytes)) (hd : o.dst = none)
    (h : ∀ w', Mm R w0 w' (B.set i (.blk g ty (cL (K.take k ++ List.replicate (m - k) St.zero)))) → wpList P ops.toArray Q rest a w') : wpList P ops.toArray Q (o :: rest) a w :=
  wpList_step fun K' hK => by
    rw [if_pos hw]
    have _ := F.size
    have hb := M.at hi
    have hrun : (Builtin.clear_ #[t] o.type #[subS 2 k m (.slice (some ⟨g, 0, none⟩) m c1)]).run P w = .ok (.tuple #[]) (w.setRow g (cL (K.take k ++ List.replicate (m - k) St.zero))) := by
      have hzc : ∀ q, (Builtin.zeroCells #[Value.int .i64 0, .int .i64 0] q).toList = cS (List.replicate q St.zero) := fun q => by
        apply List.ext_getElem
        · simp [Builtin.zeroCells, cS_len]
        · intro j h1 h2
          have hj : j < q * 2 := by simpa [cS_len] using h2
          have hc := cS_at (L := List.replicate q St.zero) (i := j / 2) (by simp; omega)
          have hg : (cS (List.replicate q St.zero))[j / 2 * 2 + j % 2]? = [Value.int .i64 (atS (List.replicate q St.zero) (j / 2)).e, .int .i64 (atS (List.replicate q St.zero) (j / 2)).r][j % 2]? := by
            rw [← hc]; simp [Nat.mod_lt j (show 0 < 2 by omega)]
          rw [show j / 2 * 2 + j % 2 = j by omega, List.getElem?_eq_getElem h2] at hg
          have ha : atS (List.replicate q St.zero) (j / 2) = St.zero := by rw [atS_eq (by simp; omega)]; simp
          rw [ha] at hg
          simp only [Builtin.zeroCells]
          rcases (show j % 2 = 0 ∨ j % 2 = 1 by omega) with h5 | h5
          · rw [h5] at hg
            have hg' := Option.some.inj hg
            rw [hg']
            simp [St.zero, h5]
          · rw [h5] at hg
            have hg' := Option.some.inj hg
            rw [hg']
            simp [St.zero, h5]
      have hke : cL (K.take k ++ List.replicate (m - k) St.zero) = ((cL K).toList.take (k * 2 + 0) ++ cS (List.replicate (m - k) St.zero) ++ (cL K).toList.drop (k * 2 + 0 + (cS (List.replicate (m - k) St.zero)).length)).toArray := by
        rw [List.drop_eq_nil_of_le (by simp [cL_size, cS_len]; omega)]
        simp [cL, cS_app, ← cS_take]
      cases hq : P.info? e with
      | none => simp [hq] at hE
      | some inf =>
        simp only [hq, Option.map_some, Option.some.injEq, Prod.mk.injEq] at hE
        rcases Nat.eq_zero_or_pos (m - k) with h0 | h0
        · have hkm : k = m := by omega
          rw [h0, show K.take k = K by rw [hkm, ← hz, List.take_length]]
          simp only [List.replicate_zero, List.append_nil]
          rw [setRow_self w g (cL K) ty (0, 0) hb]
          simp only [subS, h0]
          split <;> simp [Builtin.clear_, run_underlying hT.1]
        · have hst := run_storeCells_at P g (k * 2) ty (cS (List.replicate (m - k) St.zero)) 0 (cL K) w hb (by rw [cL_size, cS_len, List.length_replicate]; omega) (cS_ones _)
          rw [← hke] at hst
          have hne : m - k ≠ 0 := by omega
          obtain ⟨q, hq2⟩ : ∃ q, m - k = q + 1 := ⟨m - k - 1, by omega⟩
          have e0 : subS 2 k m (.slice (some ⟨g, 0, none⟩) m c1) = .slice (if c1 = k then some ⟨g, 0, none⟩ else some ⟨g, k * 2, none⟩) (m - k) (c1 - k) := by
            simp only [subS, Option.map_some, addr_add, Nat.zero_add]
          rw [e0]
          split
          · rename_i hck
            omega
          · rw [hq2] at hst ⊢
            simp [Builtin.clear_, run_underlying hT.1, zeroValue, typeInfo, hq, hE.1, Value.cells, hzc, hst]
    have hexec : (execOp a.eval o).run P w = .ok (.value (.tuple #[])) (w.setRow g (cL (K.take k ++ List.replicate (m - k) St.zero))) := by
      simp only [execOp, ho, resolve, invoke, builtin, Sem.run_bind, Sem.run_pure, Result.andThen_ok, List.map_toArray, List.map_cons, List.map_nil, hx, hrun]
    unfold Oper.wp
    rw [hexec]
    refine hK _ _ ?_
    rw [hd]
    exact h _ (M.setRow hi _)
end
end Go.Proofs.YtcnmmnhlhenifaaGreat
namespace Go.Proofs.YtcnmmnhlhenifaaGreat
open Go.RowKit Go.Sort
set_option maxRecDepth 100000
set_option linter.unusedSimpArgs false
set_option linter.unusedVariables false
structure CInv (L K : List St) (k0 k2 k : Nat) : Prop where
  len : K.length = L.length
  h1 : 1 ≤ k2
  h2 : k0 + k2 ≤ L.length
  h3 : 1 ≤ k
  h4 : k + 1 ≤ k0 + k2
  same : ∀ p, k0 + k2 - 1 ≤ p → atS K p = atS L p
  asc : ∀ j, j + 1 < k → (atS K j).aheadB (atS K (j + 1)) = true
  last : atS K (k - 1) = atS L (k0 + k2 - 1)
  mem : ∀ t, (∃ j, j < k ∧ atS K j = t) ↔ (∃ j, j < k0 + k2 ∧ atS L j = t)
def Ord (L : List St) : Prop := ∀ i, i + 1 < L.length → atS L i = atS L (i + 1) ∨ (atS L i).aheadB (atS L (i + 1)) = true
theorem CInv.start {L : List St} {k : Nat} (hk : 1 ≤ k) (hl : k < L.length) (ha : ∀ j, j + 1 < k → (atS L j).aheadB (atS L (j + 1)) = true) (he : atS L k = atS L (k - 1)) : CInv L L k 1 k :=
  ⟨rfl, Nat.le_refl _, by omega, hk, Nat.le_refl _, fun _ _ => rfl, ha, by rw [Nat.add_sub_cancel, he], fun t => ⟨fun ⟨j, h1, h2⟩ => ⟨j, by omega, h2⟩, fun ⟨j, h1, h2⟩ => by
    rcases (show j < k ∨ j = k by omega) with h3 | h3
    · exact ⟨j, h3, h2⟩
    · exact ⟨k - 1, by omega, by rw [← he, ← h3, h2]⟩⟩⟩
theorem CInv.skip {L K : List St} {k0 k2 k : Nat} (h : CInv L K k0 k2 k) (hl : k0 + k2 < L.length) (he : atS K (k0 + k2) = atS K (k0 + (k2 - 1))) : CInv L K k0 (k2 + 1) k := by
  have := h.h1
  have e1 := h.same (k0 + k2) (by omega)
  have e2 := h.same (k0 + k2 - 1) (by omega)
  rw [show k0 + (k2 - 1) = k0 + k2 - 1 by omega] at he
  refine ⟨h.len, by omega, by omega, h.h3, by have := h.h4; omega, fun p hp => h.same p (by omega), h.asc, ?_, fun t => ?_⟩
  · rw [h.last, show k0 + (k2 + 1) - 1 = k0 + k2 by omega, ← e1, he, e2]
  · rw [h.mem]
    constructor
    · rintro ⟨j, h1, h2⟩; exact ⟨j, by omega, h2⟩
    · rintro ⟨j, h1, h2⟩
      rcases (show j < k0 + k2 ∨ j = k0 + k2 by omega) with h3 | h3
      · exact ⟨j, h3, h2⟩
      · exact ⟨k0 + k2 - 1, by omega, by rw [← e2, ← he, e1, ← h3, h2]⟩
theorem CInv.put {L K : List St} {k0 k2 k : Nat} (h : CInv L K k0 k2 k) (hs : Ord L) (hl : k0 + k2 < L.length) (he : ¬ atS K (k0 + k2) = atS K (k0 + (k2 - 1))) : CInv L (K.set k (atS K (k0 + k2))) k0 (k2 + 1) (k + 1) := by
  have g1 := h.h1
  have g4 := h.h4
  have g3 := h.h3
  have g2 := h.h2
  have e1 := h.same (k0 + k2) (by omega)
  have e2 := h.same (k0 + k2 - 1) (by omega)
  rw [show k0 + (k2 - 1) = k0 + k2 - 1 by omega] at he
  have hk : k < K.length := by rw [h.len]; omega
  refine ⟨by simp [h.len], by omega, by omega, by omega, by omega, fun p hp => ?_, fun j hj => ?_, ?_, fun t => ?_⟩
  · rw [atS_set hk, if_neg (by omega)]; exact h.same p (by omega)
  · rw [atS_set hk, atS_set hk, if_neg (by omega)]
    rcases (show j + 1 < k ∨ j + 1 = k by omega) with h5 | h5
    · rw [if_neg (by omega)]; exact h.asc j h5
    · rw [if_pos h5.symm, show j = k - 1 by omega, h.last]
      have := hs (k0 + k2 - 1) (by omega)
      rw [show k0 + k2 - 1 + 1 = k0 + k2 by omega] at this
      rcases this with h6 | h6
      · exact absurd (by rw [e1, e2, h6]) he
      · rw [e1]; exact h6
  · rw [atS_set hk, if_pos (by omega), show k0 + (k2 + 1) - 1 = k0 + k2 by omega, e1]
  · constructor
    · rintro ⟨j, h5, h6⟩
      rw [atS_set hk] at h6
      split at h6
      · exact ⟨k0 + k2, by omega, by rw [← e1]; exact h6⟩
      · obtain ⟨j', h7, h8⟩ := (h.mem t).1 ⟨j, by omega, h6⟩
        exact ⟨j', by omega, h8⟩
    · rintro ⟨j, h5, h6⟩
      rcases (show j < k0 + k2 ∨ j = k0 + k2 by omega) with h7 | h7
      · obtain ⟨j', h8, h9⟩ := (h.mem t).2 ⟨j, h7, h6⟩
        exact ⟨j', by omega, by rw [atS_set hk, if_neg (by omega)]; exact h9⟩
      · exact ⟨k, by omega, by rw [atS_set hk, if_pos rfl, e1, ← h7, h6]⟩
theorem CInv.fin {L K : List St} {k0 k2 k : Nat} (h : CInv L K k0 k2 k) (he : L.length ≤ k0 + k2) : Asc (K.take k) ∧ ∀ t, t ∈ K.take k ↔ t ∈ L := by
  have g2 := h.h2
  have g4 := h.h4
  have hl : (K.take k).length = k := by rw [List.length_take, h.len]; omega
  refine ⟨fun i hi => ?_, fun t => ?_⟩
  · rw [hl] at hi
    rw [atS_take (by omega), atS_take (by omega)]; exact h.asc i hi
  · rw [mem_at, mem_at, hl, show L.length = k0 + k2 by omega]
    rw [← h.mem]
    constructor
    · rintro ⟨j, h5, h6⟩; exact ⟨j, h5, by rw [← atS_take h5]; exact h6⟩
    · rintro ⟨j, h5, h6⟩; exact ⟨j, h5, by rw [atS_take h5]; exact h6⟩
theorem asc_of {L : List St} (h : ∀ j, j + 1 < L.length → (atS L j).aheadB (atS L (j + 1)) = true) : Asc L := h
theorem asc_short {L : List St} (h : L.length < 2) : Asc L := fun i hi => by omega
theorem ord_go {L : List St} {k : Int} (hs : Ord L) (h0 : 1 ≤ k) (hl : k < L.length) (ha : ∀ j, j + 1 < k.toNat → (atS L j).aheadB (atS L (j + 1)) = true) (he : ¬ atS L k.toNat = atS L (k - 1).toNat) : ∀ j, j + 1 < (k + 1).toNat → (atS L j).aheadB (atS L (j + 1)) = true := fun j hj => by
  rcases (show j + 1 < k.toNat ∨ j + 1 = k.toNat by omega) with h | h
  · exact ha j h
  · rcases hs j (by omega) with h1 | h1
    · exact absurd (by rw [← h, show (k - 1).toNat = j by omega, h1]) he
    · exact h1
theorem ord_of_sorted {d : Array St} (h : SortedIn St.aheadB 0 d.size d) : Ord d.toList := fun i hi => by
  have hi' : i + 1 < d.size := by simpa using hi
  have h1 := h i (i + 1) (by omega) (by omega) hi'
  have e : ∀ k, k < d.size → atS d.toList k = d[k]! := fun k hk => by rw [atS_eq (by simpa using hk)]; simp [hk]
  rw [e i (by omega), e (i + 1) hi']
  cases hq : (d[i]!).aheadB (d[i + 1]!) with
  | true => exact .inr rfl
  | false => exact .inl (ahead_tri hq h1)
theorem gof_sub {m l h n c g o : Nat} {v : Value} (e : v = .slice (some ⟨g, o, none⟩) n c) : gof (subS m l h v) = g := by
  subst e
  simp only [subS, Option.map_some, addr_add]
  split <;> rfl
section
variable {R : List Nat} {w0 w : World} {B : List Ent} {i n p j : Nat} {t m : Nat} {v : Value} {xs : List Value} {K : List St}
theorem Mm.toGot (M : Mm R w0 w B) (h : B[i]? = some (.row t m v n xs)) : Mm R w0 w (B.set i (.got m v n xs)) := by
  refine M.swap h (x' := .got m v n xs) (Out.refl _ _) (M.rv h) (fun g hg => ?_) (fun g hg => by cases hg)
  simp only [Ent.fp] at hg ⊢
  split at hg
  · cases hg
  · rw [(own_spot (M.ow h) (by omega)).1]
    exact .inl (by simpa using hg)
theorem Mm.subGot (M : Mm R w0 w B) (h : B[i]? = some (.got 2 v (n - p) (cS (K.drop p)))) (hK : K.length = n) (hj : p + j ≤ n) : Mm R w0 w (B.set i (.got 2 (subS 2 j (n - p) v) (n - (p + j)) (cS (K.drop (p + j))))) := by
  have hr := M.gv h
  have hs := sub_rv (k := j) hr (by rw [List.length_drop, hK]) (by omega)
  rw [List.drop_drop, show n - p - j = n - (p + j) by omega] at hs
  refine M.swap h (x' := .got 2 (subS 2 j (n - p) v) (n - (p + j)) (cS (K.drop (p + j)))) (Out.refl _ _) hs (fun g hg => ?_) (fun g hg => by cases hg)
  simp only [Ent.fp] at hg ⊢
  split at hg
  · cases hg
  · obtain ⟨c, hv, _⟩ := hr.form (by omega)
    rw [if_neg (by omega)]
    rw [gof_sub hv] at hg
    exact .inl hg
end
theorem own_whole {w : World} {g t n : Nat} {L : List St} (h : Blk w g t (cL L)) (hz : L.length = n) (hn : n ≤ 1000000000) : w.ownsRow 0 t 2 (.slice (some ⟨g, 0, none⟩) n n) n (cS L) :=
  ⟨by rw [cS_len, hz], .inr ⟨g, n, _, rfl, Nat.zero_le _, h, Nat.le_refl _, by unfold maxLen; omega, by rw [cL_size, hz], by simp only [cL]; rw [List.take_of_length_le (by rw [cS_len, hz]; omega)]⟩⟩
theorem own_first {w : World} {g t n k : Nat} {K Z : List St} (h : Blk w g t (cL (K ++ Z))) (hz : (K ++ Z).length = n) (hk : K.length = k) (hn : n ≤ 1000000000) : w.ownsRow 0 t 2 (subS 2 0 k (.slice (some ⟨g, 0, none⟩) n n)) k (cS K) := by
  have e : subS 2 0 k (.slice (some ⟨g, 0, none⟩) n n) = .slice (some ⟨g, 0, none⟩) k n := by
    simp only [subS, Option.map_some, addr_add, Nat.zero_mul, Nat.add_zero, Nat.sub_zero, ite_self]
  have hkn : k ≤ n := by rw [← hz, ← hk, List.length_append]; omega
  rw [e]
  exact ⟨by rw [cS_len, hk], .inr ⟨g, n, _, rfl, Nat.zero_le _, h, hkn, by unfold maxLen; omega, by rw [cL_size, hz], by simp only [cL, cS_app]; rw [List.take_left' (by rw [cS_len, hk])]⟩⟩
theorem fA_cL (d : Array St) : fA d = cL d.toList := by have := fA_eq d.toList; simpa [cL] using this
theorem swo_ahead : SWO St.aheadB where
  irrefl := fun x => ahead_irr
  trans := fun x y z h1 h2 => ahead_trans h1 h2
  ntrans := fun x y z h1 h2 => by
    rw [← Bool.not_eq_true, St.ahead_iff] at *; omega
theorem cmp_lt (a b : St) : decide (a.cmp b < 0) = a.aheadB b := by
  rw [Bool.eq_iff_iff, decide_eq_true_eq, St.ahead_iff]
  have := cmp_spec a b
  omega
theorem mem_perm {d d' : Array St} (h : PermIn 0 d.size d d') (t : St) : t ∈ d'.toList ↔ t ∈ d.toList := by
  have h3 := h.2.2
  have e1 : d'.extract 0 d.size = d' := by rw [← h.1]; simp
  rw [e1] at h3
  have e2 : d.extract 0 d.size = d := by simp
  rw [e2] at h3
  exact h3.mem_iff
theorem first_spot (g k n : Nat) : (subS 2 0 k (.slice (some ⟨g, 0, none⟩) n n)).ownBlock = some g := by
  simp only [subS, Option.map_some, addr_add, Nat.zero_mul, Nat.add_zero, ite_self]
  rfl
end Go.Proofs.YtcnmmnhlhenifaaGreat
namespace Go.Proofs.YtcnmmnhlhenifaaGreat
open Go.RowKit
set_option maxRecDepth 100000
set_option linter.unusedSimpArgs false
set_option linter.unusedVariables false
section
variable {P : Program} {ops rest : List Oper} {o : Oper} {a : Act} {n d : Nat} {L : List (Nat × Value)} {Q : Exit → Act → World → Prop} {R : List Nat} {w w0 : World} {B : List Ent} {x y : Operand} {t e : TypeId} {i g k : Nat} {K : List St}
end
end Go.Proofs.YtcnmmnhlhenifaaGreat
namespace Go.Proofs.YtcnmmnhlhenifaaGreat
open Go.RowKit
set_option maxRecDepth 100000
set_option linter.unusedSimpArgs false
set_option linter.unusedVariables false
end Go.Proofs.YtcnmmnhlhenifaaGreat
