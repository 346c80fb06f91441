/- Rows of frames: slices of frames that are the call's own, apart from one another; arrays of slices (layer 15). Any seat with layer 14 in it. -/
import Derived.Test.YtcobpabmmbcjcaaJ3
import Derived.Test.YtcobpabmmbcjcaaCr
namespace Go.Proofs.Ytcobpabmmbcjcaa
open Go.RowKit
set_option maxRecDepth 100000
set_option linter.unusedSimpArgs false
set_option linter.unusedVariables false
theorem aV_at {T : List Value} {j : Nat} (h : j < T.length) : (List.toArray (cV T))[0 + j * 1]? = some (atV T j) := by
  rw [Nat.zero_add, List.getElem?_toArray]; exact cV_at h
theorem aV_set (T : List Value) (j : Nat) (x : Value) : (List.toArray (cV T)).setIfInBounds (0 + j * 1) x = List.toArray (cV (T.set j x)) := by simp [cV]
theorem aV_size (T : List Value) : (List.toArray (cV T)).size = T.length := by rw [List.size_toArray]; rfl
def atRF (L : List (List Fm)) (i : Nat) : List Fm := L.getD i []
theorem atRF_set {L : List (List Fm)} {i j : Nat} {b : List Fm} (h : i < L.length) : atRF (L.set i b) j = if i = j then b else atRF L j := by
  unfold atRF
  rw [List.getD_eq_getElem?_getD, List.getD_eq_getElem?_getD, List.getElem?_set]
  split
  · rename_i e; subst e; simp [h]
  · rfl
structure RowsF (ty : TypeId) (vs : List Value) (L : List (List Fm)) (w : World) : Prop where
  len : vs.length = L.length
  row : ∀ j, j < vs.length → w.ownsRow 0 ty 38 (atV vs j) (atRF L j).length (cF (atRF L j))
  nd : (fpR vs).Nodup
theorem RowsF.loc (ty : TypeId) (vs : List Value) (L : List (List Fm)) : Loc (fpR vs) (RowsF ty vs L) := fun w w' hk h => by
  refine ⟨⟨h.len, fun j hj => ?_, h.nd⟩, fun g hg => ?_⟩
  · have hr := h.row j hj
    refine ⟨hr.1, ?_⟩
    rcases hr.2 with h4 | ⟨g, cap, cur, h4, h5, h6, h7⟩
    · exact .inl h4
    · exact .inr ⟨g, cap, cur, h4, h5, (hk g (mem_fpR.2 ⟨j, hj, by rw [h4]; rfl⟩)).trans h6, h7⟩
  · obtain ⟨j, hj, hg⟩ := mem_fpR.1 hg
    exact (World.ownsRow.lt (h.row j hj) g hg).2
theorem RowsF.rd {ty : TypeId} {vs : List Value} {L : List (List Fm)} {w : World} (h : RowsF ty vs L w) {j : Nat} (hj : j < vs.length) : RdV w 38 (atV vs j) (atRF L j).length (cF (atRF L j)) := own_rdv (h.row j hj)
theorem rowsF_set {ty : TypeId} {vs : List Value} {L : List (List Fm)} {w : World} (h : RowsF ty vs L w) {j : Nat} (hj : j < vs.length) {v : Value} {l : List Fm} (hv : w.ownsRow 0 ty 38 v l.length (cF l)) (hn : ∀ g, v.ownBlock = some g → ∀ k, k < vs.length → k ≠ j → (atV vs k).ownBlock ≠ some g) : RowsF ty (vs.set j v) (L.set j l) w := by
  refine ⟨by rw [List.length_set, List.length_set, h.len], fun k hk => ?_, nodup_set h.nd hn⟩
  rw [List.length_set] at hk
  rw [atV_set hj, atRF_set (by rw [← h.len]; exact hj)]
  split
  · exact hv
  · exact h.row k hk
theorem rowsF_rep (ty : TypeId) (n : Nat) (w : World) : RowsF ty (List.replicate n nilV) (List.replicate n []) w := by
  have ha : ∀ j, atV (List.replicate n nilV) j = nilV := fun j => by
    unfold atV; rw [List.getD_eq_getElem?_getD, List.getElem?_replicate]; split <;> rfl
  refine ⟨by simp, fun j hj => ?_, ?_⟩
  · rw [ha]
    have : atRF (List.replicate n []) j = [] := by
      unfold atRF; rw [List.getD_eq_getElem?_getD, List.getElem?_replicate]; split <;> rfl
    rw [this]; exact World.ownsRow_nil _ _ _ _
  · have : fpR (List.replicate n nilV) = [] := by
      unfold fpR
      rw [List.flatMap_eq_nil_iff]
      intro v hv
      rw [(List.mem_replicate.1 hv).2]; rfl
    rw [this]; exact List.nodup_nil
section
variable {R : List Nat} {w0 w : World} {B : List Ent} {i j k n : Nat} {ty : TypeId} {vs : List Value} {L : List (List Fm)} {v : Value} {l : List Fm}
theorem Mm.rowsNewF (M : Mm R w0 w B) (ty : TypeId) (n : Nat) : Mm R w0 w (.own (fpR (List.replicate n nilV)) (RowsF ty (List.replicate n nilV) (List.replicate n [])) :: B) :=
  M.addOwn (Below.refl _ _) (rowsF_rep ty n w) (RowsF.loc _ _ _) (fun g hg => by
    obtain ⟨j, hj, hg⟩ := mem_fpR.1 hg
    have : atV (List.replicate n nilV) j = nilV := by unfold atV; rw [List.getD_eq_getElem?_getD, List.getElem?_replicate]; split <;> rfl
    rw [this] at hg; cases hg)
theorem Mm.dropRowF (M : Mm R w0 w B) (h : B[i]? = some (.own (fpR vs) (RowsF ty vs L))) (hj : j < vs.length) : Mm R w0 w (B.set i (.own (fpR (vs.set j nilV)) (RowsF ty (vs.set j nilV) (L.set j [])))) :=
  M.swap h (x' := .own (fpR (vs.set j nilV)) (RowsF ty (vs.set j nilV) (L.set j []))) (Out.refl _ _) ⟨rowsF_set (M.pv h) hj (World.ownsRow_nil _ _ _ _) (fun g hg => by cases hg), RowsF.loc _ _ _⟩ (fun g hg => .inl (fp_set_nil hg).1) (fun g hg => by cases hg)
theorem Mm.takeRowF (M : Mm R w0 w B) (h : B[i]? = some (.own (fpR vs) (RowsF ty vs L))) (hj : j < vs.length) : Mm R w0 w (.row ty 38 (atV vs j) (atRF L j).length (cF (atRF L j)) :: B.set i (.own (fpR (vs.set j nilV)) (RowsF ty (vs.set j nilV) (L.set j [])))) := by
  have hp := M.pv h
  have hil : i < B.length := (List.getElem?_eq_some_iff.1 h).1
  have hx : B[i] = .own (fpR vs) (RowsF ty vs L) := (List.getElem?_eq_some_iff.1 h).2
  have M1 := M.dropRowF h hj
  refine ⟨M1.out, fun y hy => ?_, fun y hy g hg => ?_, fun y hy g hg => ?_, List.pairwise_cons.2 ⟨fun y hy g hg hgy => ?_, M1.nd⟩⟩
  · rcases List.mem_cons.1 hy with rfl | h1
    · exact hp.row j hj
    · exact M1.has y h1
  · rcases List.mem_cons.1 hy with rfl | h1
    · have hg' : (atV vs j).ownBlock = some g := by simpa [Ent.fp] using hg
      exact M.own _ (List.mem_of_getElem? h) g (mem_fpR.2 ⟨j, hj, hg'⟩)
    · exact M1.own y h1 g hg
  · rcases List.mem_cons.1 hy with rfl | h1
    · cases hg
    · exact M1.far y h1 g hg
  · have hg' : (atV vs j).ownBlock = some g := by simpa [Ent.fp] using hg
    obtain ⟨q, hq, rfl⟩ := List.mem_iff_getElem.1 hy
    rw [List.getElem_set] at hgy
    split at hgy
    · obtain ⟨_, k, hk, hkj, hkg⟩ := fp_set_nil hgy
      exact hkj (nodup_one hp.nd hk hj hkg hg')
    · rename_i hne
      rw [List.length_set] at hq
      have := M.apart (i := i) (j := q) h (List.getElem?_eq_getElem hq) hne g (mem_fpR.2 ⟨j, hj, hg'⟩)
      exact this hgy
theorem Mm.putRowF (M : Mm R w0 w B) (h : B[i]? = some (.own (fpR vs) (RowsF ty vs L))) (hr : B[k]? = some (.row ty 38 v l.length (cF l))) (hj : j < vs.length) : Mm R w0 w ((B.set i (.own (fpR (vs.set j v)) (RowsF ty (vs.set j v) (L.set j l)))).set k (.arg 1 (.slice none 0 0) 0 [])) := by
  have hp := M.pv h
  have hil : i < B.length := (List.getElem?_eq_some_iff.1 h).1
  have hkl : k < B.length := (List.getElem?_eq_some_iff.1 hr).1
  have hik : i ≠ k := fun e => by subst e; rw [h] at hr; injection hr with hr; cases hr
  have hap := M.apart (i := k) (j := i) hr h (fun e => hik e.symm)
  have hv : ∀ g, v.ownBlock = some g → ¬ g ∈ fpR vs := fun g hg => hap g (by simp [Ent.fp, hg])
  have hset : RowsF ty (vs.set j v) (L.set j l) w := rowsF_set hp hj (M.ow hr) (fun g hg q hq _ hqg => hv g hg (mem_fpR.2 ⟨q, hq, hqg⟩))
  have hfp : ∀ g ∈ fpR (vs.set j v), g ∈ fpR vs ∨ v.ownBlock = some g := fun g hg => by
    obtain ⟨q, hq, hqg⟩ := mem_fpR.1 hg
    rw [List.length_set] at hq
    rw [atV_set hj] at hqg
    split at hqg
    · exact .inr hqg
    · exact .inl (mem_fpR.2 ⟨q, hq, hqg⟩)
  let B' := (B.set i (.own (fpR (vs.set j v)) (RowsF ty (vs.set j v) (L.set j l)))).set k (.arg 1 (.slice none 0 0) 0 [])
  have hget : ∀ q (hq : q < B'.length), (q = k ∧ B'[q] = .arg 1 (.slice none 0 0) 0 []) ∨ (q = i ∧ B'[q] = .own (fpR (vs.set j v)) (RowsF ty (vs.set j v) (L.set j l))) ∨ (q ≠ k ∧ q ≠ i ∧ ∃ hq' : q < B.length, B'[q] = B[q]) := fun q hq => by
    have hq' : q < B.length := by simpa [B'] using hq
    by_cases e1 : q = k
    · exact .inl ⟨e1, by simp [B', e1]⟩
    · by_cases e2 : q = i
      · refine .inr (.inl ⟨e2, ?_⟩)
        simp only [B', List.getElem_set]
        rw [if_neg (fun e => e1 e.symm), if_pos e2.symm]
      · refine .inr (.inr ⟨e1, e2, hq', ?_⟩)
        simp only [B', List.getElem_set]
        rw [if_neg (fun e => e1 e.symm), if_neg (fun e => e2 e.symm)]
  have hxi : B[i] = .own (fpR vs) (RowsF ty vs L) := (List.getElem?_eq_some_iff.1 h).2
  have hxk : B[k] = .row ty 38 v l.length (cF l) := (List.getElem?_eq_some_iff.1 hr).2
  have hpw := List.pairwise_iff_getElem.1 M.nd
  have far2 : ∀ p q (hp' : p < B.length) (hq' : q < B.length), p ≠ q → ∀ g ∈ B[p].fp, ¬ g ∈ B[q].fp := fun p q hp' hq' hne => M.apart (List.getElem?_eq_getElem hp') (List.getElem?_eq_getElem hq') hne
  have vfp : ∀ g, v.ownBlock = some g → g ∈ B[k].fp := fun g hg => by rw [hxk]; simp [Ent.fp, hg]
  refine ⟨M.out, fun y hy => ?_, fun y hy g hg => ?_, fun y hy g hg => ?_, ?_⟩
  · obtain ⟨q, hq, rfl⟩ := List.mem_iff_getElem.1 hy
    rcases hget q hq with ⟨_, e⟩ | ⟨_, e⟩ | ⟨_, _, hq', e⟩
    · rw [e]; exact ⟨rfl, none, 0, rfl, Nat.le_refl _, Nat.zero_le _, fun h => absurd h (by omega)⟩
    · rw [e]; exact ⟨hset, RowsF.loc _ _ _⟩
    · rw [e]; exact M.has _ (List.getElem_mem hq')
  · obtain ⟨q, hq, rfl⟩ := List.mem_iff_getElem.1 hy
    rcases hget q hq with ⟨_, e⟩ | ⟨_, e⟩ | ⟨_, _, hq', e⟩
    · rw [e] at hg; cases hg
    · rw [e] at hg
      rcases hfp g hg with h1 | h1
      · exact M.own _ (List.getElem_mem hil) g (by rw [hxi]; exact h1)
      · exact M.own _ (List.getElem_mem hkl) g (vfp g h1)
    · rw [e] at hg; exact M.own _ (List.getElem_mem hq') g hg
  · obtain ⟨q, hq, rfl⟩ := List.mem_iff_getElem.1 hy
    rcases hget q hq with ⟨_, e⟩ | ⟨_, e⟩ | ⟨_, _, hq', e⟩
    · rw [e] at hg; cases hg
    · rw [e] at hg; cases hg
    · rw [e] at hg; exact M.far _ (List.getElem_mem hq') g hg
  · rw [List.pairwise_iff_getElem]
    intro p q hp' hq' hlt g hg hgq
    have hpl : p < B.length := by simpa [B'] using hp'
    have hql : q < B.length := by simpa [B'] using hq'
    rcases hget p hp' with ⟨_, e⟩ | ⟨ep, e⟩ | ⟨hpk, hpi, _, e⟩
    · rw [e] at hg; cases hg
    · rw [e] at hg
      rcases hget q hq' with ⟨_, e'⟩ | ⟨eq, e'⟩ | ⟨hqk, hqi, _, e'⟩
      · rw [e'] at hgq; cases hgq
      · omega
      · rw [e'] at hgq
        rcases hfp g hg with h1 | h1
        · exact far2 i q hil hql (fun e => hqi e.symm) g (by rw [hxi]; exact h1) hgq
        · exact far2 k q hkl hql (fun e => hqk e.symm) g (vfp g h1) hgq
    · rw [e] at hg
      rcases hget q hq' with ⟨_, e'⟩ | ⟨eq, e'⟩ | ⟨hqk, hqi, _, e'⟩
      · rw [e'] at hgq; cases hgq
      · rw [e'] at hgq
        rcases hfp g hgq with h1 | h1
        · exact far2 i p hil hpl (fun e => hpi e.symm) g (by rw [hxi]; exact h1) hg
        · exact far2 k p hkl hpl (fun e => hpk e.symm) g (vfp g h1) hg
      · rw [e'] at hgq; exact far2 p q hpl hql (by omega) g hg hgq
end
theorem RowsF.ones {ty : TypeId} {vs : List Value} {L : List (List Fm)} {w : World} (h : RowsF ty vs L w) : (List.toArray (cV vs)).toList.all (·.oneCell') = true := by
  rw [List.all_eq_true]
  intro z hz
  have hz2 : z ∈ vs := by simpa [cV] using hz
  obtain ⟨j, hj, rfl⟩ := List.mem_iff_getElem.1 hz2
  have := h.row j hj
  rw [atV_eq hj] at this
  exact (slc_one (own_rdv this)).1
end Go.Proofs.Ytcobpabmmbcjcaa
