/- The reference's cast: mathematics, and in memory. Any seat with garboardref14 in it. -/
import Derived.Test.YtcobpabmmbcjcaaCs
import Derived.Test.YtcobpabmmbcjcaaJ4
import Derived.Test.YtcobpabmmbcjcaaJ2
namespace Go.Proofs.Ytcobpabmmbcjcaa
open Go.RowKit
set_option maxRecDepth 100000
set_option linter.unusedSimpArgs false
set_option linter.unusedVariables false
def SortedT (K : List Tx) : Prop := K.Pairwise fun a b => ltT a b = true
section
variable {p : Tx → Bool} {l K : List Tx} {t u : Tx} {i : Nat}
theorem find_least (hs : SortedT K) (hm : ∀ t, t ∈ K ↔ t ∈ l) : K.find? p = leastT p l := by
  cases hl : leastT p l with
  | none =>
    rw [List.find?_eq_none]
    intro x hx hp
    rw [least_none hl x ((hm x).1 hx)] at hp; cases hp
  | some t =>
    obtain ⟨h1, h2⟩ := least_some hl
    have h3 := least_min hl
    have h4 := (hm t).2 h2
    cases hf : K.find? p with
    | none => have := List.find?_eq_none.1 hf t h4; exact absurd h1 this
    | some v =>
      obtain ⟨hv, la, lb, hab, has⟩ := List.find?_eq_some_iff_append.1 hf
      have hvK : v ∈ K := by rw [hab]; simp
      rcases lt_tri v t with q | q | q
      · have := h3 v ((hm v).1 hvK) hv; rw [q] at this; cases this
      · rw [q]
      · rw [hab] at h4
        rcases List.mem_append.1 h4 with z | z
        · have := has t z; rw [h1] at this; cases this
        · rcases List.mem_cons.1 z with z | z
          · rw [z]
          · unfold SortedT at hs
            rw [hab] at hs
            have := (List.pairwise_cons.1 (List.pairwise_append.1 hs).2.1).1 t z
            rw [lt_asym this] at q; cases q
theorem find_step (hi : i < K.length) : (K.take (i + 1)).find? p = ((K.take i).find? p).or (if p K[i] = true then some K[i] else none) := by
  rw [List.take_succ_eq_append_getElem hi, List.find?_append]
  congr 1
  simp only [List.find?_cons, List.find?_nil]
  cases p K[i] <;> rfl
theorem sorted_ins (hs : SortedT K) {a : Nat} (ha : a ≤ K.length) (hlo : ∀ j, j < a → ltT (atTx K j) t = true) (hhi : a < K.length → ltT (atTx K a) t = false) (hne : a < K.length → atTx K a ≠ t) : SortedT (K.take a ++ [t] ++ K.drop a) := by
  have hpw := List.pairwise_iff_getElem.1 hs
  have hup : ∀ x ∈ K.drop a, ltT t x = true := fun x hx => by
    obtain ⟨j, hj, rfl⟩ := List.mem_iff_getElem.1 hx
    rw [List.length_drop] at hj
    rw [List.getElem_drop]
    have h0 : ltT t (atTx K a) = true := by
      rcases lt_tri t (atTx K a) with q | q | q
      · exact q
      · exact absurd q.symm (hne (by omega))
      · rw [hhi (by omega)] at q; cases q
    rw [atTx_eq (show a < K.length by omega)] at h0
    rcases Nat.eq_zero_or_pos j with z | z
    · subst z; exact h0
    · exact lt_trans h0 (hpw a (a + j) (by omega) (by omega) (by omega))
  have hdn : ∀ x ∈ K.take a, ltT x t = true := fun x hx => by
    obtain ⟨j, hj, rfl⟩ := List.mem_iff_getElem.1 hx
    rw [List.length_take] at hj
    rw [List.getElem_take]
    have := hlo j (by omega)
    rwa [atTx_eq (by omega)] at this
  unfold SortedT
  rw [List.append_assoc, List.pairwise_append]
  refine ⟨List.Pairwise.sublist (List.take_sublist _ _) hs, ?_, fun x hx y hy => ?_⟩
  · rw [List.singleton_append, List.pairwise_cons]
    exact ⟨hup, List.Pairwise.sublist (List.drop_sublist _ _) hs⟩
  · rw [List.singleton_append] at hy
    rcases List.mem_cons.1 hy with rfl | hy
    · exact hdn x hx
    · exact lt_trans (hdn x hx) (hup y hy)
theorem mem_ins {a : Nat} {x : Tx} : x ∈ K.take a ++ [t] ++ K.drop a ↔ x = t ∨ x ∈ K := by
  conv => rhs; rw [← List.take_append_drop a K]
  simp only [List.mem_append, List.mem_singleton]
  constructor
  · rintro ((h | h) | h)
    · exact .inr (.inl h)
    · exact .inl h
    · exact .inr (.inr h)
  · rintro (h | h | h)
    · exact .inl (.inr h)
    · exact .inl (.inl h)
    · exact .inr h
end
structure RcOK (S : Cs) (I : List Tx) (Q : List Qs) : Prop where
  n1 : 1 ≤ S.n
  n7 : S.n ≤ 7
  f0 : 0 ≤ S.f
  f3 : 3 * S.f < S.n
  i1 : S.i1 = I.head?
  tw : S.two = true ↔ ∃ x ∈ I, x ≠ I.headD []
  ec : ∀ k t, S.ec k = some t ↔ (⟨2, k, t⟩ : Qs) ∈ Q
  rd : ∀ k t, S.rd k = some t ↔ (⟨3, k, t⟩ : Qs) ∈ Q
  kd : ∀ q ∈ Q, (q.kind = 2 ∨ q.kind = 3) ∧ 0 ≤ q.frm ∧ q.frm < S.n
  nd : Q.Pairwise fun a b => ¬ (a.kind = b.kind ∧ a.frm = b.frm)
def cntQ (kind : Int) (t : Tx) (Q : List Qs) : Int := ((Q.filter fun q => decide (q.kind = kind ∧ q.text = t)).length : Nat)
def putQ (Q : List Qs) (s : Qs) : List Qs := if ∃ q ∈ Q, q.kind = s.kind ∧ q.frm = s.frm then Q else Q ++ [s]
theorem nd_lenQ : ∀ {l m : List Int}, l.Nodup → (∀ a ∈ l, a ∈ m) → l.length ≤ m.length
  | [], _, _, _ => Nat.zero_le _
  | a :: l, m, hn, hs => by
    obtain ⟨h1, h2⟩ := List.nodup_cons.1 hn
    have ham := hs a (by simp)
    have := nd_lenQ (m := m.erase a) h2 fun x hx => (List.mem_erase_of_ne (fun e => h1 (by rw [← e]; exact hx))).2 (hs x (by simp [hx]))
    rw [List.length_erase_of_mem ham] at this
    have := List.length_pos_of_mem ham
    simp only [List.length_cons]; omega
section
variable {S : Cs} {I : List Tx} {Q : List Qs} {t u : Tx} {kind frm k n f : Int}
theorem rc_new (hz : bnewE n f = 0) : RcOK (cnewS n f) [] [] := by
  have h := bnew_ok hz
  exact ⟨h.1, h.2.1, h.2.2.1, h.2.2.2, rfl, (by simp [cnewS]), fun k t => (by simp [cnewS]), fun k t => (by simp [cnewS]), fun q hq => (by cases hq), List.Pairwise.nil⟩
theorem RcOK.len (h : RcOK S I Q) : Q.length ≤ 14 := by
  have h1 := int_leC 14 (Q.map fun q => (q.kind - 2) * 7 + q.frm) (by
    show List.Pairwise _ _
    rw [List.pairwise_map]
    refine h.nd.imp_of_mem fun {a b} ha hb hne e => hne ?_
    have h2 := h.kd a ha; have h3 := h.kd b hb; have h7 := h.n7
    omega) fun a ha => by
    obtain ⟨q, hq, rfl⟩ := List.mem_map.1 ha
    have h2 := h.kd q hq; have h7 := h.n7
    omega
  simpa using h1
theorem cnt_gen {g : Int → Option Tx} {c : Int} (hg : ∀ k t, g k = some t ↔ (⟨c, k, t⟩ : Qs) ∈ Q) (hkd : ∀ q ∈ Q, 0 ≤ q.frm ∧ q.frm < n) (hnd : Q.Pairwise fun a b => ¬ (a.kind = b.kind ∧ a.frm = b.frm)) (t : Tx) : cntQ c t Q = cntT n g t := by
  unfold cntQ cntT
  have hA : ((Q.filter fun q => decide (q.kind = c ∧ q.text = t)).map Qs.frm).Nodup := by
    show List.Pairwise _ _
    rw [List.pairwise_map]
    refine (hnd.sublist List.filter_sublist).imp_of_mem fun {a b} ha hb hne e => hne ⟨?_, e⟩
    have h1 := (List.mem_filter.1 ha).2; have h2 := (List.mem_filter.1 hb).2
    simp only [decide_eq_true_eq] at h1 h2
    rw [h1.1, h2.1]
  have h1 := nd_lenQ (m := (rngI n).filter fun k => decide (g k = some t)) hA fun x hx => by
    obtain ⟨q, hq, rfl⟩ := List.mem_map.1 hx
    obtain ⟨h2, h3⟩ := List.mem_filter.1 hq
    simp only [decide_eq_true_eq] at h3
    refine List.mem_filter.2 ⟨mem_rng.2 (hkd q h2), ?_⟩
    rw [decide_eq_true_eq, hg, ← h3.1, ← h3.2]
    exact h2
  have h2 := nd_lenQ (m := (Q.filter fun q => decide (q.kind = c ∧ q.text = t)).map Qs.frm) (l := (rngI n).filter fun k => decide (g k = some t)) ((rng_nodup n).filter _) fun x hx => by
    obtain ⟨h3, h4⟩ := List.mem_filter.1 hx
    rw [decide_eq_true_eq, hg] at h4
    exact List.mem_map.2 ⟨_, List.mem_filter.2 ⟨h4, by simp⟩, rfl⟩
  rw [List.length_map] at h1 h2
  omega
theorem RcOK.ce (h : RcOK S I Q) (t : Tx) : cntQ 2 t Q = cntT S.n S.ec t := cnt_gen h.ec (fun q hq => (h.kd q hq).2) h.nd t
theorem RcOK.cr (h : RcOK S I Q) (t : Tx) : cntQ 3 t Q = cntT S.n S.rd t := cnt_gen h.rd (fun q hq => (h.kd q hq).2) h.nd t
theorem RcOK.txs (h : RcOK S I Q) {K : List Tx} (hm : ∀ t, t ∈ K ↔ ∃ q ∈ Q, q.text = t) : ∀ t, t ∈ K ↔ t ∈ txsT S := fun t => by
  rw [hm]
  unfold txsT
  rw [List.mem_append, List.mem_filterMap, List.mem_filterMap]
  constructor
  · rintro ⟨q, hq, rfl⟩
    obtain ⟨hk, hr⟩ := h.kd q hq
    rcases hk with hk | hk
    · exact .inl ⟨q.frm, mem_rng.2 hr, (h.ec _ _).2 (by rw [← hk]; exact hq)⟩
    · exact .inr ⟨q.frm, mem_rng.2 hr, (h.rd _ _).2 (by rw [← hk]; exact hq)⟩
  · rintro (⟨k, _, hk⟩ | ⟨k, _, hk⟩)
    · exact ⟨_, (h.ec k t).1 hk, rfl⟩
    · exact ⟨_, (h.rd k t).1 hk, rfl⟩
theorem cnt_zeroQ (kind : Int) (t : Tx) : cntQ kind t (Q.take (0 : Int).toNat) = 0 := by simp [cntQ]
theorem cnt_stepQ {i : Int} (h0 : 0 ≤ i) (hi : i < (Q.length : Int)) (kind : Int) (t : Tx) : cntQ kind t (Q.take (i + 1).toNat) = cntQ kind t (Q.take i.toNat) + (if (atX Q i.toNat).kind = kind ∧ (atX Q i.toNat).text = t then 1 else 0) := by
  unfold cntQ
  have hl : i.toNat < Q.length := by omega
  rw [show (i + 1).toNat = i.toNat + 1 by omega, List.take_succ_eq_append_getElem hl, atX_eq hl, List.filter_append, List.length_append, List.filter_cons]
  by_cases e : Q[i.toNat].kind = kind ∧ Q[i.toNat].text = t
  · simp [e]
  · rw [if_neg (by simpa using e), if_neg e]; simp
theorem cnt_leQ (kind : Int) (t : Tx) (L : List Qs) : 0 ≤ cntQ kind t L ∧ cntQ kind t L ≤ L.length := by
  unfold cntQ
  have := List.length_filter_le (fun q : Qs => decide (q.kind = kind ∧ q.text = t)) L
  omega
theorem RcOK.put (h : RcOK S I Q) (hk : kind = 2 ∨ kind = 3) (hf : 0 ≤ frm ∧ frm < S.n) (t : Tx) : RcOK (rcvS S kind frm t) I (putQ Q ⟨kind, frm, t⟩) := by
  have hs := rcv_same (S := S) (kind := kind) (frm := frm) (tx := t)
  have e1 : (rcvS S kind frm t).i1 = S.i1 := by rw [rcv_i1, if_neg (by omega)]
  have e2 : (rcvS S kind frm t).two = S.two := by rw [rcv_two, if_neg (by omega)]
  have e3 : (rcvS S kind frm t).ec = if kind = 2 then putT S.ec frm t else S.ec := rcv_ec
  have e4 : (rcvS S kind frm t).rd = if kind = 2 then S.rd else putT S.rd frm t := by
    rw [rcv_rd]; rcases hk with hk | hk
    · rw [if_pos (.inr hk), if_pos hk]
    · rw [if_neg (by omega), if_neg (by omega)]
  by_cases hex : ∃ q ∈ Q, q.kind = kind ∧ q.frm = frm
  · obtain ⟨q, hq, q1, q2⟩ := hex
    have hp : putQ Q ⟨kind, frm, t⟩ = Q := if_pos ⟨q, hq, q1, q2⟩
    rw [hp]
    have hq' : (⟨kind, frm, q.text⟩ : Qs) ∈ Q := by rw [← q1, ← q2]; exact hq
    have c1 : (rcvS S kind frm t).ec = S.ec := by
      rw [e3]
      split
      · rename_i z
        funext x
        rw [z] at hq'
        by_cases hx : x = frm
        · subst hx; rw [put_keep ((h.ec _ _).2 hq')]; exact ((h.ec _ _).2 hq').symm
        · exact put_ne hx
      · rfl
    have c2 : (rcvS S kind frm t).rd = S.rd := by
      rw [e4]
      split
      · rfl
      · rename_i z
        have hk3 : kind = 3 := by omega
        funext x
        rw [hk3] at hq'
        by_cases hx : x = frm
        · subst hx; rw [put_keep ((h.rd _ _).2 hq')]; exact ((h.rd _ _).2 hq').symm
        · exact put_ne hx
    exact ⟨by rw [hs.1]; exact h.n1, by rw [hs.1]; exact h.n7, by rw [hs.2.1]; exact h.f0, by rw [hs.1, hs.2.1]; exact h.f3, e1.trans h.i1, by rw [e2]; exact h.tw, by rw [c1]; exact h.ec, by rw [c2]; exact h.rd, by rw [hs.1]; exact h.kd, h.nd⟩
  · have hp : putQ Q ⟨kind, frm, t⟩ = Q ++ [⟨kind, frm, t⟩] := if_neg hex
    rw [hp]
    have hno : ∀ v, ¬ (⟨kind, frm, v⟩ : Qs) ∈ Q := fun v hv => hex ⟨_, hv, rfl, rfl⟩
    have gen : ∀ (g : Int → Option Tx) (c : Int), (∀ k v, g k = some v ↔ (⟨c, k, v⟩ : Qs) ∈ Q) → c = kind → ∀ x v, putT g frm t x = some v ↔ (⟨c, x, v⟩ : Qs) ∈ Q ++ [⟨kind, frm, t⟩] := fun g c hg hc x v => by
      have hgn : g frm = none := by
        cases hq : g frm with
        | none => rfl
        | some y => exact absurd ((hg _ _).1 hq) (by rw [hc]; exact hno y)
      rw [List.mem_append, List.mem_singleton]
      by_cases hx : x = frm
      · subst hx
        rw [put_at, hgn]
        constructor
        · intro z; injection z with z; right; rw [← z, hc]; rfl
        · rintro (z | z)
          · exact absurd z (by rw [hc]; exact hno v)
          · injection z with _ _ z; rw [z]; rfl
      · rw [put_ne hx, hg]
        constructor
        · exact .inl
        · rintro (z | z)
          · exact z
          · injection z with _ z; exact absurd z hx
    have other : ∀ (g : Int → Option Tx) (c : Int), (∀ k v, g k = some v ↔ (⟨c, k, v⟩ : Qs) ∈ Q) → c ≠ kind → ∀ x v, g x = some v ↔ (⟨c, x, v⟩ : Qs) ∈ Q ++ [⟨kind, frm, t⟩] := fun g c hg hc x v => by
      rw [List.mem_append, List.mem_singleton, hg]
      constructor
      · exact .inl
      · rintro (z | z)
        · exact z
        · injection z with z; exact absurd z hc
    refine ⟨by rw [hs.1]; exact h.n1, by rw [hs.1]; exact h.n7, by rw [hs.2.1]; exact h.f0, by rw [hs.1, hs.2.1]; exact h.f3, e1.trans h.i1, by rw [e2]; exact h.tw, ?_, ?_, fun q hq => ?_, ?_⟩
    · rw [e3]
      split
      · rename_i z; exact gen S.ec 2 h.ec z.symm
      · rename_i z; exact other S.ec 2 h.ec (fun e => z e.symm)
    · rw [e4]
      split
      · rename_i z; exact other S.rd 3 h.rd (by omega)
      · rename_i z; exact gen S.rd 3 h.rd (by omega)
    · rw [hs.1]
      rcases List.mem_append.1 hq with z | z
      · exact h.kd q z
      · rw [List.mem_singleton.1 z]; exact ⟨hk, hf⟩
    · rw [List.pairwise_append]
      refine ⟨h.nd, List.pairwise_singleton _ _, fun a ha b hb hab => ?_⟩
      rw [List.mem_singleton.1 hb] at hab
      exact hex ⟨a, ha, hab.1, hab.2⟩
theorem RcOK.init (h : RcOK S I Q) (frm : Int) (t : Tx) : RcOK (rcvS S 1 frm t) (I ++ [t]) Q := by
  have hs := rcv_same (S := S) (kind := 1) (frm := frm) (tx := t)
  have e1 : (rcvS S 1 frm t).i1 = some (S.i1.getD t) := by rw [rcv_i1, if_pos rfl]
  have e2 : (rcvS S 1 frm t).two = (S.two || decide (S.i1.getD t ≠ t)) := by rw [rcv_two, if_pos rfl]
  have e3 : (rcvS S 1 frm t).ec = S.ec := by rw [rcv_ec, if_neg (by omega)]
  have e4 : (rcvS S 1 frm t).rd = S.rd := by rw [rcv_rd, if_pos (.inl rfl)]
  refine ⟨by rw [hs.1]; exact h.n1, by rw [hs.1]; exact h.n7, by rw [hs.2.1]; exact h.f0, by rw [hs.1, hs.2.1]; exact h.f3, ?_, ?_, by rw [e3]; exact h.ec, by rw [e4]; exact h.rd, by rw [hs.1]; exact h.kd, h.nd⟩
  · rw [e1, h.i1]
    cases I <;> rfl
  · rw [e2, Bool.or_eq_true, h.tw, decide_eq_true_eq, h.i1]
    cases I with
    | nil => simp
    | cons a r =>
      show (∃ x ∈ a :: r, x ≠ a) ∨ a ≠ t ↔ ∃ x ∈ (a :: r) ++ [t], x ≠ a
      constructor
      · rintro (⟨x, hx, hn⟩ | hn)
        · exact ⟨x, List.mem_append.2 (.inl hx), hn⟩
        · exact ⟨t, by simp, fun e => hn e.symm⟩
      · rintro ⟨x, hx, hn⟩
        rcases List.mem_append.1 hx with z | z
        · exact .inl ⟨x, z, hn⟩
        · rw [List.mem_singleton.1 z] at hn; exact .inr (fun e => hn e.symm)
def rtK (S : Cs) (K : List Tx) (i : Nat) : Option Tx := if S.rt.isSome = true then S.rt else (K.take i).find? (okT S)
def dnK (S : Cs) (K : List Tx) (i : Nat) : Option Tx := if S.dn.isSome = true then S.dn else (K.take i).find? (dlT S)
def rdK (S : Cs) (K : List Tx) (i : Nat) : List (Int × Tx) := if S.rt.isSome = true then [] else ((K.take i).find? (okT S)).toList.map fun u => (3, u)
theorem rtK_zero (K : List Tx) : rtK S K 0 = S.rt ∧ rdK S K 0 = [] ∧ dnK S K 0 = S.dn := by
  unfold rtK rdK dnK
  refine ⟨?_, ?_, ?_⟩
  · cases h : S.rt <;> simp
  · split <;> simp
  · cases h : S.dn <;> simp
theorem rtK_skip {K : List Tx} {i : Nat} (hi : i < K.length) (h : (rtK S K i).isSome = true ∨ okT S (atTx K i) = false) : rtK S K (i + 1) = rtK S K i ∧ rdK S K (i + 1) = rdK S K i := by
  unfold rtK rdK at *
  cases hr : S.rt.isSome with
  | true => simp
  | false =>
    rw [hr] at h
    simp only [Bool.false_eq_true, if_false] at h ⊢
    rw [find_step hi]
    rw [atTx_eq hi] at h
    have e : ((K.take i).find? (okT S)).or (if okT S K[i] = true then some K[i] else none) = (K.take i).find? (okT S) := by
      rcases h with h | h
      · obtain ⟨v, hv⟩ := Option.isSome_iff_exists.1 h; rw [hv]; rfl
      · rw [h]; simp
    rw [e]; exact ⟨rfl, rfl⟩
theorem rtK_hit {K : List Tx} {i : Nat} (hi : i < K.length) (hn : (rtK S K i).isSome = false) (h : okT S (atTx K i) = true) : rtK S K (i + 1) = some (atTx K i) ∧ rdK S K (i + 1) = rdK S K i ++ [(3, atTx K i)] := by
  unfold rtK rdK at *
  cases hr : S.rt.isSome with
  | true => rw [hr] at hn; simp only [if_true] at hn; rw [hr] at hn; cases hn
  | false =>
    rw [hr] at hn
    simp only [Bool.false_eq_true, if_false] at hn ⊢
    rw [find_step hi]
    rw [atTx_eq hi] at h ⊢
    have e : (K.take i).find? (okT S) = none := by
      cases hq : (K.take i).find? (okT S) with
      | none => rfl
      | some v => rw [hq] at hn; cases hn
    rw [e, h]; exact ⟨rfl, rfl⟩
theorem dnK_skip {K : List Tx} {i : Nat} (hi : i < K.length) (h : (dnK S K i).isSome = true ∨ dlT S (atTx K i) = false) : dnK S K (i + 1) = dnK S K i := by
  unfold dnK at *
  cases hr : S.dn.isSome with
  | true => simp
  | false =>
    rw [hr] at h
    simp only [Bool.false_eq_true, if_false] at h ⊢
    rw [find_step hi]
    rw [atTx_eq hi] at h
    rcases h with h | h
    · obtain ⟨v, hv⟩ := Option.isSome_iff_exists.1 h; rw [hv]; rfl
    · rw [h]; simp
theorem dnK_hit {K : List Tx} {i : Nat} (hi : i < K.length) (hn : (dnK S K i).isSome = false) (h : dlT S (atTx K i) = true) : dnK S K (i + 1) = some (atTx K i) := by
  unfold dnK at *
  cases hr : S.dn.isSome with
  | true => rw [hr] at hn; simp only [if_true] at hn; rw [hr] at hn; cases hn
  | false =>
    rw [hr] at hn
    simp only [Bool.false_eq_true, if_false] at hn ⊢
    rw [find_step hi]
    rw [atTx_eq hi] at h ⊢
    have e : (K.take i).find? (dlT S) = none := by
      cases hq : (K.take i).find? (dlT S) with
      | none => rfl
      | some v => rw [hq] at hn; cases hn
    rw [e, h]; rfl
theorem fin_K {K : List Tx} (hs : SortedT K) (hm : ∀ t, t ∈ K ↔ t ∈ txsT S) : (finS S).rt = rtK S K K.length ∧ (finS S).dn = dnK S K K.length ∧ readyF S = rdK S K K.length := by
  have h1 := find_least (p := okT S) hs hm
  have h2 := find_least (p := dlT S) hs hm
  unfold rtK dnK rdK
  rw [List.take_length, h1, h2]
  refine ⟨rfl, rfl, ?_⟩
  unfold readyF rdyT
  cases S.rt.isSome <;> simp
  cases leastT (okT S) (txsT S) <;> rfl
theorem okT_dec (h : RcOK S I Q) (t : Tx) : okT S t = decide (manyI S ≤ cntQ 2 t Q ∨ S.f + 1 ≤ cntQ 3 t Q) := by
  unfold okT; rw [h.ce, h.cr]
theorem dlT_dec (h : RcOK S I Q) (t : Tx) : dlT S t = decide (2 * S.f + 1 ≤ cntQ 3 t Q) := by
  unfold dlT; rw [h.cr]
theorem fin_ok (h : RcOK S I Q) : RcOK (finS S) I Q := ⟨h.n1, h.n7, h.f0, h.f3, h.i1, h.tw, h.ec, h.rd, h.kd, h.nd⟩
end
def casB (r : Nat) (n f : Int) (iv lv : Value) (e rd d : Bool) (tx : Tx) : Ent := .blk r 91 #[.int .i64 n, .int .i64 f, iv, lv, .bool e, .bool rd, .bool d, strV tx]
def casL (r : Nat) (iv lv : Value) (I : List Tx) (Q : List Qs) (S : Cs) : List Ent := [.blk r 91 #[.int .i64 S.n, .int .i64 S.f, iv, lv, .bool S.i1.isSome, .bool S.rt.isSome, .bool S.dn.isSome, strV (S.dn.getD [])], .row 9 1 iv I.length (cT I), .row 100 3 lv Q.length (cX Q)]
def RCaV (r : Nat) (fp : List Nat) (S : Cs) (c : Nat) (w : World) : Prop := ∃ iv lv I Q, fp = fpE (casL r iv lv I Q S) ∧ PkV (casL r iv lv I Q S) w ∧ RcOK S I Q ∧ I.length ≤ c
theorem RCaV.loc (r : Nat) (fp : List Nat) (S : Cs) (c : Nat) : Loc fp (RCaV r fp S c) := fun w w' hk ⟨iv, lv, I, Q, e, h, h1, h2⟩ => by
  subst e
  have := PkV.loc _ w w' hk h
  exact ⟨⟨iv, lv, I, Q, rfl, this.1, h1, h2⟩, this.2⟩
section
variable {P : Program} {ops rest : List Oper} {o : Oper} {a : Act} {n d : Nat} {L : List (Nat × Value)} {Q : Exit → Act → World → Prop} {R : List Nat} {w w0 : World} {B : List Ent}
theorem sq_callNX {α : Type} (F : Fr a n L) (M : Mm R w0 w B) (hw : Region.wanted o (yielded ops.toArray a.tmps) = true) {f : FuncId} {xs : List Operand} {ts : Array TypeId} {args : List Value} {t : TypeId} {m : Nat} {k : α → Nat} {cs : α → List Value} {Z : α → Prop} (ho : o.op = .call { callee := .value (.func f), args := xs.toArray, argTypes := ts })
    (he : enters P f = true) (ha : xs.map a.eval = args) (hc : Calls P f args.toArray w fun e w' => ∃ v x, e = .returned v ∧ Below w.heap.size w w' ∧ w'.ownsRow w.heap.size t m v (k x) (cs x) ∧ Z x) (hd : o.dst = some d) (hdn : Nat.blt d n = true)
    (h : ∀ a' w' v x, Z x → Fr a' n ((d, v) :: L) → Mm R w0 w' (.row t m v (k x) (cs x) :: B) → wpList P ops.toArray Q rest a' w') : wpList P ops.toArray Q (o :: rest) a w :=
  sq_callR F hw ho he ha hc hd hdn fun e w' hR => by
    obtain ⟨v, x, h1, h2, h3, h4⟩ := hR
    exact ⟨v, h1, fun a' F' => h a' w' v x h4 F' (M.addRow h2 h3)⟩
end
section
variable {R : List Nat} {w0 w : World} {B : List Ent} {S S' : Cs} {I I' : List Tx} {Q Q' : List Qs} {K : List Tx} {t T : Tx} {kind frm : Int} {i : Nat}
theorem take_rvT {w : World} {v : Value} {n k : Nat} {L : List Tx} (h : RdV w 1 v n (cT L)) (hz : L.length = n) (hk : k ≤ n) : RdV w 1 (subS 1 0 k v) k (cT (L.take k)) := by
  have := sub_rdv h (Nat.zero_le k) hk
  rw [Nat.zero_mul, List.drop_zero, Nat.sub_zero, show (cT L).take (k * 1) = cT (L.take k) from cE_take (E := encT) ..] at this
  exact this
theorem drop_rvT {w : World} {v : Value} {n k : Nat} {L : List Tx} (h : RdV w 1 v n (cT L)) (hz : L.length = n) (hk : k ≤ n) : RdV w 1 (subS 1 k n v) (n - k) (cT (L.drop k)) := by
  have := sub_rdv h hk (Nat.le_refl n)
  rw [show (cT L).drop (k * 1) = cT (L.drop k) from cE_drop (E := encT) .., show (n - k) * 1 = (L.drop k).length * 1 by rw [List.length_drop, hz], show (cT (L.drop k)).take ((L.drop k).length * 1) = cT ((L.drop k).take (L.drop k).length) from cE_take (E := encT) .., List.take_length] at this
  exact this
theorem txs_none {Q : List Qs} (t : Tx) : t ∈ ([] : List Tx) ↔ ∃ q ∈ Q.take (0 : Int).toNat, q.text = t := by simp
theorem txs_step {j : Int} (h0 : 0 ≤ j) (hj : j < (Q.length : Int)) {K' : List Tx} (h : ∀ t, t ∈ K ↔ ∃ q ∈ Q.take j.toNat, q.text = t) (hK : ∀ t, t ∈ K' ↔ t = (atX Q j.toNat).text ∨ t ∈ K) : ∀ t, t ∈ K' ↔ ∃ q ∈ Q.take (j + 1).toNat, q.text = t := fun t => by
  have hl : j.toNat < Q.length := by omega
  rw [hK, h, show (j + 1).toNat = j.toNat + 1 by omega, List.take_succ_eq_append_getElem hl, atX_eq hl]
  constructor
  · rintro (z | ⟨q, hq, z⟩)
    · exact ⟨_, List.mem_append.2 (.inr (List.mem_singleton.2 rfl)), z.symm⟩
    · exact ⟨q, List.mem_append.2 (.inl hq), z⟩
  · rintro ⟨q, hq, z⟩
    rcases List.mem_append.1 hq with y | y
    · exact .inr ⟨q, y, z⟩
    · rw [List.mem_singleton.1 y] at z; exact .inl z.symm
theorem echo_yes (hk : kind = 1) (h : S.i1.isSome = false) : frmL (echoF S kind t) = [⟨2, 0, 0, 0, 0, t, B32.zero⟩] := by
  have e : S.i1 = none := by
    cases hq : S.i1 with
    | none => rfl
    | some v => rw [hq] at h; cases h
  unfold echoF; rw [if_pos ⟨hk, e⟩]; rfl
theorem echo_no (h : ¬ kind = 1 ∨ S.i1.isSome = true) : frmL (echoF S kind t) = [] := by
  unfold echoF
  rw [if_neg]
  · rfl
  · rintro ⟨z, y⟩
    rcases h with h | h
    · exact h z
    · rw [y] at h; cases h
theorem i1_yes (hk : kind = 1) : (rcvS S kind frm t).i1.isSome = true := by rw [rcv_i1, if_pos hk]; rfl
theorem i1_same (hk : ¬ kind = 1) : (rcvS S kind frm t).i1 = S.i1 := by rw [rcv_i1, if_neg hk]
theorem two_yes (h : RcOK S I Q) (hi : i < I.length) (hne : ¬ atTx I i = atTx I 0) : S.two = true := by
  refine h.tw.2 ⟨atTx I i, by rw [atTx_eq hi]; exact List.getElem_mem _, fun e => hne ?_⟩
  rw [e]
  cases I with
  | nil => simp at hi
  | cons a r => rfl
theorem two_no (h : RcOK S I Q) {j : Int} (hj : ¬ j < (I.length : Int)) (ha : ∀ k, k < j.toNat → atTx I k = atTx I 0) : S.two = false := by
  cases hq : S.two with
  | false => rfl
  | true =>
    obtain ⟨x, hx, hne⟩ := h.tw.1 hq
    obtain ⟨k, hk, rfl⟩ := List.mem_iff_getElem.1 hx
    have := ha k (by omega)
    rw [atTx_eq hk] at this
    exfalso
    apply hne
    rw [this]
    cases I with
    | nil => simp at hk
    | cons a r => rfl
theorem many_eq (S : Cs) (kind frm : Int) (t : Tx) : manyI (rcvS S kind frm t) = (S.n + S.f) / 2 + 1 := by
  unfold manyI; rw [(rcv_same (S := S) (kind := kind) (frm := frm) (tx := t)).1, (rcv_same (S := S) (kind := kind) (frm := frm) (tx := t)).2.1]
theorem take_fin (h : badT S kind frm = false) : takeS S kind frm t = finS (rcvS S kind frm t) ∧ tellF S kind frm t = echoF S kind t ++ readyF (rcvS S kind frm t) := ⟨by unfold takeS; rw [h]; rfl, by unfold tellF; rw [h]; rfl⟩
theorem rca_done {r : Nat} {iv lv iv' lv' ov : Value} {c c' : Nat} {X : List Fm} (M : Mm R w0 w (casL r iv' lv' I' Q' S' ++ [.row 34 38 ov X.length (cF X)])) (hR' : R = fpE (casL r iv lv I Q S)) (h : RcOK S' I' Q') (hI : I'.length ≤ c') :
    TurnsN w0 (.own R (RCaV r R S c)) (fun x' => ∃ fp', x' = .own fp' (RCaV r fp' S' c')) 34 38 (cF X) X.length (.returned ov) w := by
  have M1 : Mm R w0 w (casL r iv' lv' I' Q' S') := M.sub (List.sublist_append_left _ _)
  have P1 : PkV (casL r iv' lv' I' Q' S') w := M1.pkv (by simp [casL, Ent.base])
  have hrow : (Ent.row 34 38 ov X.length (cF X)) ∈ casL r iv' lv' I' Q' S' ++ [.row 34 38 ov X.length (cF X)] := by simp
  refine ⟨ov, .own (fpE (casL r iv' lv' I' Q' S')) (RCaV r (fpE (casL r iv' lv' I' Q' S')) S' c'), rfl, M.out, ⟨⟨iv', lv', I', Q', rfl, P1, h, hI⟩, RCaV.loc _ _ _ _⟩, fun g hg => ?_, rfl, ⟨_, rfl⟩, M.has _ hrow, fun g hg => ⟨(M.own _ hrow g (by simpa [Ent.fp] using hg)).symm, fun hg' => ?_⟩⟩
  · obtain ⟨x, hx, hgx⟩ := mem_fpE.1 (show g ∈ fpE (casL r iv' lv' I' Q' S') from hg)
    exact (M1.own x hx g hgx).symm
  · obtain ⟨x, hx, hgx⟩ := mem_fpE.1 (show g ∈ fpE (casL r iv' lv' I' Q' S') from hg')
    exact (List.pairwise_append.1 M.nd).2.2 x hx _ (List.mem_singleton.2 rfl) g hgx (by simpa [Ent.fp] using hg)
end
end Go.Proofs.Ytcobpabmmbcjcaa
