/- Put together: Gv, Ao, Aw, Pt, Gp, Gw, Fc. -/
import Derived.Test.YtboinbmgndomhaaJ2
import Derived.IntWalk
import Derived.Test.YtboinbmgndomhaaFx
namespace Go.Proofs.Ytboinbmgndomhaa
open Go.RowKit
set_option maxRecDepth 100000
set_option linter.unusedSimpArgs false
set_option linter.unusedVariables false

/-! ### Bools; slices as elements -/
def encB : Enc Bool := ⟨1, fun b => [.bool b], false, fun _ => rfl, fun a v h => by
  simp only [List.mem_cons, List.not_mem_nil, or_false] at h; subst h; rfl⟩
def cB (L : List Bool) : List Value := cE encB L
def atB (L : List Bool) (i : Nat) : Bool := atE encB L i
theorem cB_len (L : List Bool) : (cB L).length = L.length := by unfold cB; rw [cE_len]; show L.length * 1 = _; omega
theorem cB_get {L : List Bool} {i : Nat} (h : i < L.length) : (cB L)[i]? = some (.bool (atB L i)) := by
  have h1 := cE_at (E := encB) h
  have h2 : ((cB L).drop (i * 1)).take 1 = [.bool (atB L i)] := h1
  have h3 : (((cB L).drop (i * 1)).take 1)[0]? = some (.bool (atB L i)) := by rw [h2]; rfl
  rw [List.getElem?_take] at h3
  simpa using h3
theorem cB_at {L : List Bool} {i : Nat} (h : i < L.length) : (cB L)[i * 1]? = some (.bool (atB L i)) := by rw [Nat.mul_one]; exact cB_get h
theorem cB_app (L K : List Bool) : cB (L ++ K) = cB L ++ cB K := cE_app L K
theorem cB_ones (L : List Bool) : ∀ z ∈ cB L, z.oneCell' = true := cE_ones L
theorem atB_set {L : List Bool} {i j : Nat} {b : Bool} (h : i < L.length) : atB (L.set i b) j = if i = j then b else atB L j := by
  unfold atB atE
  rw [List.getD_eq_getElem?_getD, List.getD_eq_getElem?_getD, List.getElem?_set]
  split
  · rename_i e; subst e; simp [h]
  · rfl
theorem cB_set {L : List Bool} {i : Nat} {b : Bool} (h : i < L.length) : (cB L).set i (.bool b) = cB (L.set i b) := by
  apply List.ext_getElem?
  intro j
  rcases Nat.lt_or_ge j L.length with hj | hj
  · rw [cB_get (by simpa using hj), atB_set h, List.getElem?_set]
    split
    · rename_i e; subst e; rw [if_pos (by rw [cB_len]; exact h)]
    · exact cB_get hj
  · rw [List.getElem?_eq_none (by rw [List.length_set, cB_len]; exact hj), List.getElem?_eq_none (by rw [cB_len, List.length_set]; exact hj)]
theorem cB_rep (n : Nat) : cB (List.replicate n false) = List.replicate n (.bool false) := by
  induction n with
  | zero => rfl
  | succ n ih => rw [List.replicate_succ, List.replicate_succ, ← ih]; rfl
abbrev nilV : Value := .slice none 0 0
def cV (L : List Value) : List Value := L
def atV (L : List Value) (i : Nat) : Value := L.getD i nilV
theorem atV_eq {L : List Value} {i : Nat} (h : i < L.length) : atV L i = L[i] := by unfold atV; rw [List.getD_eq_getElem?_getD, List.getElem?_eq_getElem h]; rfl
theorem cV_at {L : List Value} {i : Nat} (h : i < L.length) : (cV L)[i * 1]? = some (atV L i) := by rw [Nat.mul_one, atV_eq h]; exact List.getElem?_eq_getElem h
theorem cV_app (L K : List Value) : cV (L ++ K) = cV L ++ cV K := rfl
theorem atV_set {L : List Value} {i j : Nat} {b : Value} (h : i < L.length) : atV (L.set i b) j = if i = j then b else atV L j := by
  unfold atV
  rw [List.getD_eq_getElem?_getD, List.getD_eq_getElem?_getD, List.getElem?_set]
  split
  · rename_i e; subst e; simp [h]
  · rfl
def atR (L : List (List St)) (i : Nat) : List St := L.getD i []
theorem atR_set {L : List (List St)} {i j : Nat} {b : List St} (h : i < L.length) : atR (L.set i b) j = if i = j then b else atR L j := by
  unfold atR
  rw [List.getD_eq_getElem?_getD, List.getD_eq_getElem?_getD, List.getElem?_set]
  split
  · rename_i e; subst e; simp [h]
  · rfl
/-- The first of a tuple. -/
def tfst : Value → Value
  | .tuple a => a.getD 0 nilV
  | _ => nilV
/-! ### Made, stored into -/
theorem made_one (z : Value) (n : Nat) (h : z.cells = #[z]) : madeCells z.cells (n * 1) = (List.replicate n z).toArray := by
  unfold madeCells
  rw [h, Nat.mul_one]
  apply Array.ext
  · simp
  · intro i h1 h2
    simp [Nat.mod_one]
section
variable {P : Program} {ops rest : List Oper} {o : Oper} {a : Act} {n d : Nat} {L : List (Nat × Value)} {Q : Exit → Act → World → Prop} {R : List Nat} {w w0 : World} {B : List Ent} {v u z : Value} {x y : Operand} {t e ty : TypeId} {i j g k m : Nat} {N : Int} {cs : List Value}
/-- make([]T, n) of one-cell elements. -/
theorem sq_make1 (F : Fr a n L) (M : Mm R w0 w B) (hw : Region.wanted o (yielded ops.toArray a.tmps) = true) {kc kl : IntKind} (ho : o.op = .makeSlice t x y) (hx : a.eval x = .int kl N) (hy : a.eval y = .int kc N) (ht : P.underlying t = some (.slice e)) (z : Value) (hz : z.cells = #[z]) {bytes : Nat} (hE : (P.info? e).map (fun i => (i.zero, i.size, i.bytes)) = some (some z, 1, bytes))
    (h0 : 0 ≤ N) (hk : N ≤ 1000000) (hby : bytes ≤ 1000) (hd : o.dst = some d) (hdn : Nat.blt d n = true)
    (h : ∀ a' w' g, Fr a' n ((d, .slice (some ⟨g, 0, none⟩) N.toNat N.toNat) :: L) → Mm R w0 w' (.blk g e (List.toArray (List.replicate N.toNat z)) :: B) → wpList P ops.toArray Q rest a' w') : wpList P ops.toArray Q (o :: rest) a w := by
  cases hq : P.info? e with
  | none => simp [hq] at hE
  | some inf =>
    simp only [hq, Option.map_some, Option.some.injEq, Prod.mk.injEq] at hE
    have hb' : (inf.bytes : Int) * N ≤ 281474976710656 := by
      have h1 : (inf.bytes : Int) ≤ 1000 := by rw [hE.2.2]; omega
      have h2 : (inf.bytes : Int) * N ≤ 1000 * 1000000 := Int.mul_le_mul h1 hk h0 (by omega)
      omega
    have hr := run_make (P := P) w t e inf z ht hq hE.1 kl kc N N h0 (Int.le_refl _) hb' (by omega)
    rw [hE.2.1, made_one z _ hz] at hr
    exact sq_run F hw (v := .slice (some ⟨w.heap.size, 0, none⟩) N.toNat N.toNat) (by simp only [execOp, ho, hx, hy, Sem.run_bind, hr, Result.andThen_ok, Sem.run_pure]) (M.alloc e _) hd hdn (fun a' w' F' M' => h a' w' _ F' M')
/-- s[j] = v, of one-cell elements. -/
theorem sq_st1 (F : Fr a n L) (M : Mm R w0 w B) (hw : Region.wanted o (yielded ops.toArray a.tmps) = true) (ho : o.op = .store ty x y) (hx : a.eval x = .pointer (some ⟨g, 0 + j * 1, none⟩)) (hy : a.eval y = v)
    (hi : B[i]? = some (.blk g t (List.toArray cs))) (hj : j < cs.length) (hT : (P.info? ty).map (·.size) = some 1) (h1 : v.oneCell' = true) (hv : v.cells = #[v]) (hd : o.dst = none)
    (h : ∀ w', Mm R w0 w' (B.set i (.blk g t (List.toArray (cs.set j v)))) → wpList P ops.toArray Q rest a w') : wpList P ops.toArray Q (o :: rest) a w :=
  sq_stC F M hw ho hx hy hi (by simp; omega) hT h1 hv hd (fun w' M' => h w' (by
    have e1 : (List.toArray cs).setIfInBounds (0 + j * 1) v = List.toArray (cs.set j v) := by simp
    rwa [e1] at M'))
end
/-! ### Rows of rows: slices of stamps that are the call's own, apart from one another -/
def fpR (vs : List Value) : List Nat := vs.flatMap fun v => v.ownBlock.toList
structure RowsV (ty : TypeId) (vs : List Value) (L : List (List St)) (w : World) : Prop where
  len : vs.length = L.length
  row : ∀ j, j < vs.length → w.ownsRow 0 ty 2 (atV vs j) (atR L j).length (cS (atR L j))
  nd : (fpR vs).Nodup
theorem mem_fpR {vs : List Value} {g : Nat} : g ∈ fpR vs ↔ ∃ j, j < vs.length ∧ (atV vs j).ownBlock = some g := by
  unfold fpR
  rw [List.mem_flatMap]
  constructor
  · rintro ⟨v, hv, hg⟩
    obtain ⟨j, hj, rfl⟩ := List.mem_iff_getElem.1 hv
    exact ⟨j, hj, by rw [atV_eq hj]; simpa using hg⟩
  · rintro ⟨j, hj, hg⟩
    exact ⟨vs[j], List.getElem_mem hj, by rw [← atV_eq hj, hg]; simp⟩
theorem RowsV.loc (ty : TypeId) (vs : List Value) (L : List (List St)) : Loc (fpR vs) (RowsV ty vs L) := fun w w' hk h => by
  refine ⟨⟨h.len, fun j hj => ?_, h.nd⟩, fun g hg => ?_⟩
  · have hr := h.row j hj
    refine ⟨hr.1, ?_⟩
    rcases hr.2 with h4 | ⟨g, cap, cur, h4, h5, h6, h7⟩
    · exact .inl h4
    · exact .inr ⟨g, cap, cur, h4, h5, (hk g (mem_fpR.2 ⟨j, hj, by rw [h4]; rfl⟩)).trans h6, h7⟩
  · obtain ⟨j, hj, hg⟩ := mem_fpR.1 hg
    exact (World.ownsRow.lt (h.row j hj) g hg).2
theorem RowsV.rd {ty : TypeId} {vs : List Value} {L : List (List St)} {w : World} (h : RowsV ty vs L w) {j : Nat} (hj : j < vs.length) : RdS w (atV vs j) (atR L j) := own_rdv (h.row j hj)
theorem nodup_one {vs : List Value} (h : (fpR vs).Nodup) {i j g : Nat} (hi : i < vs.length) (hj : j < vs.length) (gi : (atV vs i).ownBlock = some g) (gj : (atV vs j).ownBlock = some g) : i = j := by
  induction vs generalizing i j with
  | nil => simp at hi
  | cons v r ih =>
    have h' : (v.ownBlock.toList ++ fpR r).Nodup := h
    obtain ⟨_, h2, h3⟩ := List.nodup_append.1 h'
    cases i with
    | zero =>
      cases j with
      | zero => rfl
      | succ j =>
        exfalso
        have a1 : v.ownBlock = some g := gi
        have a2 : g ∈ fpR r := mem_fpR.2 ⟨j, by simpa using hj, gj⟩
        exact h3 g (by rw [a1]; simp) g a2 rfl
    | succ i =>
      cases j with
      | zero =>
        exfalso
        have a1 : v.ownBlock = some g := gj
        have a2 : g ∈ fpR r := mem_fpR.2 ⟨i, by simpa using hi, gi⟩
        exact h3 g (by rw [a1]; simp) g a2 rfl
      | succ j => rw [ih h2 (by simpa using hi) (by simpa using hj) gi gj]
theorem nodup_set {vs : List Value} {v : Value} {j : Nat} (h : (fpR vs).Nodup) (hn : ∀ g, v.ownBlock = some g → ∀ k, k < vs.length → k ≠ j → (atV vs k).ownBlock ≠ some g) : (fpR (vs.set j v)).Nodup := by
  induction vs generalizing j with
  | nil => exact h
  | cons u r ih =>
    have h' : (u.ownBlock.toList ++ fpR r).Nodup := h
    obtain ⟨h1, h2, h3⟩ := List.nodup_append.1 h'
    cases j with
    | zero =>
      show (v.ownBlock.toList ++ fpR r).Nodup
      refine List.nodup_append.2 ⟨by cases v.ownBlock <;> simp, h2, fun g hg g' hg' e => ?_⟩
      subst e
      obtain ⟨k, hk, hkg⟩ := mem_fpR.1 hg'
      exact hn g (by simpa using hg) (k + 1) (by simpa using hk) (by omega) hkg
    | succ j =>
      show (u.ownBlock.toList ++ fpR (r.set j v)).Nodup
      have ih' := ih (j := j) h2 (fun g hg k hk hne => hn g hg (k + 1) (by simpa using hk) (by omega))
      refine List.nodup_append.2 ⟨h1, ih', fun g hg g' hg' e => ?_⟩
      subst e
      obtain ⟨k, hk, hkg⟩ := mem_fpR.1 hg'
      rw [List.length_set] at hk
      by_cases hkj : j = k
      · subst hkj
        rw [atV_set hk, if_pos rfl] at hkg
        exact hn g hkg 0 (by simp) (by omega) (by show u.ownBlock = some g; simpa using hg)
      · have : (atV r k).ownBlock = some g := by
          unfold atV at hkg ⊢
          rw [List.getD_eq_getElem?_getD, List.getElem?_set, if_neg hkj, ← List.getD_eq_getElem?_getD] at hkg
          exact hkg
        exact h3 g hg g (mem_fpR.2 ⟨k, hk, this⟩) rfl
theorem nil_own : nilV.ownBlock = none := rfl
theorem rows_set {ty : TypeId} {vs : List Value} {L : List (List St)} {w : World} (h : RowsV ty vs L w) {j : Nat} (hj : j < vs.length) {v : Value} {l : List St} (hv : w.ownsRow 0 ty 2 v l.length (cS l)) (hn : ∀ g, v.ownBlock = some g → ∀ k, k < vs.length → k ≠ j → (atV vs k).ownBlock ≠ some g) : RowsV ty (vs.set j v) (L.set j l) w := by
  refine ⟨by rw [List.length_set, List.length_set, h.len], fun k hk => ?_, nodup_set h.nd hn⟩
  rw [List.length_set] at hk
  rw [atV_set hj, atR_set (by rw [← h.len]; exact hj)]
  split
  · exact hv
  · exact h.row k hk
theorem rows_rep (ty : TypeId) (n : Nat) (w : World) : RowsV ty (List.replicate n nilV) (List.replicate n []) w := by
  have ha : ∀ j, atV (List.replicate n nilV) j = nilV := fun j => by
    unfold atV; rw [List.getD_eq_getElem?_getD, List.getElem?_replicate]; split <;> rfl
  refine ⟨by simp, fun j hj => ?_, ?_⟩
  · rw [ha]
    have : atR (List.replicate n []) j = [] := by
      unfold atR; rw [List.getD_eq_getElem?_getD, List.getElem?_replicate]; split <;> rfl
    rw [this]; exact World.ownsRow_nil _ _ _ _
  · have : fpR (List.replicate n nilV) = [] := by
      unfold fpR
      rw [List.flatMap_eq_nil_iff]
      intro v hv
      rw [(List.mem_replicate.1 hv).2]; rfl
    rw [this]; exact List.nodup_nil
section
variable {R : List Nat} {w0 w : World} {B : List Ent} {i j k n : Nat} {ty : TypeId} {vs : List Value} {L : List (List St)} {v : Value} {l : List St}
theorem Mm.rowsNew (M : Mm R w0 w B) (ty : TypeId) (n : Nat) : Mm R w0 w (.own (fpR (List.replicate n nilV)) (RowsV ty (List.replicate n nilV) (List.replicate n [])) :: B) :=
  M.addOwn (Below.refl _ _) (rows_rep ty n w) (RowsV.loc _ _ _) (fun g hg => by
    obtain ⟨j, hj, hg⟩ := mem_fpR.1 hg
    have : atV (List.replicate n nilV) j = nilV := by unfold atV; rw [List.getD_eq_getElem?_getD, List.getElem?_replicate]; split <;> rfl
    rw [this] at hg; cases hg)
theorem fp_set_nil {g : Nat} (hg : g ∈ fpR (vs.set j nilV)) : g ∈ fpR vs ∧ ∃ k, k < vs.length ∧ k ≠ j ∧ (atV vs k).ownBlock = some g := by
  obtain ⟨k, hk, hkg⟩ := mem_fpR.1 hg
  rw [List.length_set] at hk
  by_cases e : j = k
  · subst e; rw [atV_set hk, if_pos rfl] at hkg; cases hkg
  · have : (atV vs k).ownBlock = some g := by
      unfold atV at hkg ⊢
      rw [List.getD_eq_getElem?_getD, List.getElem?_set, if_neg e, ← List.getD_eq_getElem?_getD] at hkg
      exact hkg
    exact ⟨mem_fpR.2 ⟨k, hk, this⟩, k, hk, fun h => e h.symm, this⟩
/-- The row j is let go. -/
theorem Mm.dropRow (M : Mm R w0 w B) (h : B[i]? = some (.own (fpR vs) (RowsV ty vs L))) (hj : j < vs.length) : Mm R w0 w (B.set i (.own (fpR (vs.set j nilV)) (RowsV ty (vs.set j nilV) (L.set j [])))) :=
  M.swap h (x' := .own (fpR (vs.set j nilV)) (RowsV ty (vs.set j nilV) (L.set j []))) (Out.refl _ _) ⟨rows_set (M.pv h) hj (World.ownsRow_nil _ _ _ _) (fun g hg => by cases hg), RowsV.loc _ _ _⟩ (fun g hg => .inl (fp_set_nil hg).1) (fun g hg => by cases hg)
/-- The row j by itself. -/
theorem Mm.takeRow (M : Mm R w0 w B) (h : B[i]? = some (.own (fpR vs) (RowsV ty vs L))) (hj : j < vs.length) : Mm R w0 w (.row ty 2 (atV vs j) (atR L j).length (cS (atR L j)) :: B.set i (.own (fpR (vs.set j nilV)) (RowsV ty (vs.set j nilV) (L.set j [])))) := by
  have hp := M.pv h
  have hil : i < B.length := (List.getElem?_eq_some_iff.1 h).1
  have hx : B[i] = .own (fpR vs) (RowsV ty vs L) := (List.getElem?_eq_some_iff.1 h).2
  have M1 := M.dropRow h hj
  refine ⟨M1.out, fun y hy => ?_, fun y hy g hg => ?_, fun y hy g hg => ?_, List.pairwise_cons.2 ⟨fun y hy g hg hgy => ?_, M1.nd⟩⟩
  · rcases List.mem_cons.1 hy with rfl | h1
    · exact hp.row j hj
    · exact M1.has y h1
  · rcases List.mem_cons.1 hy with rfl | h1
    · have hg' : (atV vs j).ownBlock = some g := by simpa [Ent.fp] using hg
      exact M.own _ (List.mem_of_getElem? h) g (mem_fpR.2 ⟨j, hj, hg'⟩)
    · exact M1.own y h1 g hg
  · rcases List.mem_cons.1 hy with rfl | h1
    · cases hg
    · exact M1.far y h1 g hg
  · have hg' : (atV vs j).ownBlock = some g := by simpa [Ent.fp] using hg
    obtain ⟨q, hq, rfl⟩ := List.mem_iff_getElem.1 hy
    rw [List.getElem_set] at hgy
    split at hgy
    · obtain ⟨_, k, hk, hkj, hkg⟩ := fp_set_nil hgy
      exact hkj (nodup_one hp.nd hk hj hkg hg')
    · rename_i hne
      rw [List.length_set] at hq
      have := M.apart (i := i) (j := q) h (List.getElem?_eq_getElem hq) hne g (mem_fpR.2 ⟨j, hj, hg'⟩)
      exact this hgy
/-- A row of the call's own goes to the place j; what was there is let go. -/
theorem Mm.putRow (M : Mm R w0 w B) (h : B[i]? = some (.own (fpR vs) (RowsV ty vs L))) (hr : B[k]? = some (.row ty 2 v l.length (cS l))) (hj : j < vs.length) : Mm R w0 w ((B.set i (.own (fpR (vs.set j v)) (RowsV ty (vs.set j v) (L.set j l)))).set k (.arg 1 (.slice none 0 0) 0 [])) := by
  have hp := M.pv h
  have hil : i < B.length := (List.getElem?_eq_some_iff.1 h).1
  have hkl : k < B.length := (List.getElem?_eq_some_iff.1 hr).1
  have hik : i ≠ k := fun e => by subst e; rw [h] at hr; injection hr with hr; cases hr
  have hap := M.apart (i := k) (j := i) hr h (fun e => hik e.symm)
  have hv : ∀ g, v.ownBlock = some g → ¬ g ∈ fpR vs := fun g hg => hap g (by simp [Ent.fp, hg])
  have hset : RowsV ty (vs.set j v) (L.set j l) w := rows_set hp hj (M.ow hr) (fun g hg q hq _ hqg => hv g hg (mem_fpR.2 ⟨q, hq, hqg⟩))
  have hfp : ∀ g ∈ fpR (vs.set j v), g ∈ fpR vs ∨ v.ownBlock = some g := fun g hg => by
    obtain ⟨q, hq, hqg⟩ := mem_fpR.1 hg
    rw [List.length_set] at hq
    rw [atV_set hj] at hqg
    split at hqg
    · exact .inr hqg
    · exact .inl (mem_fpR.2 ⟨q, hq, hqg⟩)
  -- the two entries, and what stands between
  let B' := (B.set i (.own (fpR (vs.set j v)) (RowsV ty (vs.set j v) (L.set j l)))).set k (.arg 1 (.slice none 0 0) 0 [])
  have hget : ∀ q (hq : q < B'.length), (q = k ∧ B'[q] = .arg 1 (.slice none 0 0) 0 []) ∨ (q = i ∧ B'[q] = .own (fpR (vs.set j v)) (RowsV ty (vs.set j v) (L.set j l))) ∨ (q ≠ k ∧ q ≠ i ∧ ∃ hq' : q < B.length, B'[q] = B[q]) := fun q hq => by
    have hq' : q < B.length := by simpa [B'] using hq
    by_cases e1 : q = k
    · exact .inl ⟨e1, by simp [B', e1]⟩
    · by_cases e2 : q = i
      · refine .inr (.inl ⟨e2, ?_⟩)
        simp only [B', List.getElem_set]
        rw [if_neg (fun e => e1 e.symm), if_pos e2.symm]
      · refine .inr (.inr ⟨e1, e2, hq', ?_⟩)
        simp only [B', List.getElem_set]
        rw [if_neg (fun e => e1 e.symm), if_neg (fun e => e2 e.symm)]
  have hxi : B[i] = .own (fpR vs) (RowsV ty vs L) := (List.getElem?_eq_some_iff.1 h).2
  have hxk : B[k] = .row ty 2 v l.length (cS l) := (List.getElem?_eq_some_iff.1 hr).2
  have hpw := List.pairwise_iff_getElem.1 M.nd
  have far2 : ∀ p q (hp' : p < B.length) (hq' : q < B.length), p ≠ q → ∀ g ∈ B[p].fp, ¬ g ∈ B[q].fp := fun p q hp' hq' hne => M.apart (List.getElem?_eq_getElem hp') (List.getElem?_eq_getElem hq') hne
  have vfp : ∀ g, v.ownBlock = some g → g ∈ B[k].fp := fun g hg => by rw [hxk]; simp [Ent.fp, hg]
  refine ⟨M.out, fun y hy => ?_, fun y hy g hg => ?_, fun y hy g hg => ?_, ?_⟩
  · obtain ⟨q, hq, rfl⟩ := List.mem_iff_getElem.1 hy
    rcases hget q hq with ⟨_, e⟩ | ⟨_, e⟩ | ⟨_, _, hq', e⟩
    · rw [e]; exact ⟨rfl, none, 0, rfl, Nat.le_refl _, Nat.zero_le _, fun h => absurd h (by omega)⟩
    · rw [e]; exact ⟨hset, RowsV.loc _ _ _⟩
    · rw [e]; exact M.has _ (List.getElem_mem hq')
  · obtain ⟨q, hq, rfl⟩ := List.mem_iff_getElem.1 hy
    rcases hget q hq with ⟨_, e⟩ | ⟨_, e⟩ | ⟨_, _, hq', e⟩
    · rw [e] at hg; cases hg
    · rw [e] at hg
      rcases hfp g hg with h1 | h1
      · exact M.own _ (List.getElem_mem hil) g (by rw [hxi]; exact h1)
      · exact M.own _ (List.getElem_mem hkl) g (vfp g h1)
    · rw [e] at hg; exact M.own _ (List.getElem_mem hq') g hg
  · obtain ⟨q, hq, rfl⟩ := List.mem_iff_getElem.1 hy
    rcases hget q hq with ⟨_, e⟩ | ⟨_, e⟩ | ⟨_, _, hq', e⟩
    · rw [e] at hg; cases hg
    · rw [e] at hg; cases hg
    · rw [e] at hg; exact M.far _ (List.getElem_mem hq') g hg
  · rw [List.pairwise_iff_getElem]
    intro p q hp' hq' hlt g hg hgq
    have hpl : p < B.length := by simpa [B'] using hp'
    have hql : q < B.length := by simpa [B'] using hq'
    rcases hget p hp' with ⟨_, e⟩ | ⟨ep, e⟩ | ⟨hpk, hpi, _, e⟩
    · rw [e] at hg; cases hg
    · rw [e] at hg
      rcases hget q hq' with ⟨_, e'⟩ | ⟨eq, e'⟩ | ⟨hqk, hqi, _, e'⟩
      · rw [e'] at hgq; cases hgq
      · omega
      · rw [e'] at hgq
        rcases hfp g hg with h1 | h1
        · exact far2 i q hil hql (fun e => hqi e.symm) g (by rw [hxi]; exact h1) hgq
        · exact far2 k q hkl hql (fun e => hqk e.symm) g (vfp g h1) hgq
    · rw [e] at hg
      rcases hget q hq' with ⟨_, e'⟩ | ⟨eq, e'⟩ | ⟨hqk, hqi, _, e'⟩
      · rw [e'] at hgq; cases hgq
      · rw [e'] at hgq
        rcases hfp g hgq with h1 | h1
        · exact far2 i p hil hpl (fun e => hpi e.symm) g (by rw [hxi]; exact h1) hg
        · exact far2 k p hkl hpl (fun e => hpk e.symm) g (vfp g h1) hg
      · rw [e'] at hgq; exact far2 p q hpl hql (by omega) g hg hgq
end
end Go.Proofs.Ytboinbmgndomhaa
namespace Go.Proofs.Ytboinbmgndomhaa
open Go.RowKit
set_option maxRecDepth 100000
set_option linter.unusedSimpArgs false
set_option linter.unusedVariables false

/-- In a row, each once. -/
def Asc (L : List St) : Prop := ∀ i, i + 1 < L.length → (atS L i).aheadB (atS L (i + 1)) = true
theorem mem_at {L : List St} {t : St} : t ∈ L ↔ ∃ j, j < L.length ∧ atS L j = t := ⟨at_of_mem, fun ⟨_, h1, h2⟩ => mem_of_at h1 h2⟩
theorem atS_set {L : List St} {i j : Nat} {x : St} (h : i < L.length) : atS (L.set i x) j = if i = j then x else atS L j := by
  unfold atS
  rw [List.getD_eq_getElem?_getD, List.getD_eq_getElem?_getD, List.getElem?_set]
  split
  · rename_i e; subst e; simp [h]
  · rfl
theorem atS_take {L : List St} {k j : Nat} (h : j < k) : atS (L.take k) j = atS L j := by
  unfold atS; simp [List.getD_eq_getElem?_getD, List.getElem?_take, h]
theorem atS_app {L K : List St} {j : Nat} (h : j < L.length) : atS (L ++ K) j = atS L j := by
  unfold atS; simp [List.getD_eq_getElem?_getD, List.getElem?_append_left h]
theorem ahead_trans {a b c : St} (h1 : a.aheadB b = true) (h2 : b.aheadB c = true) : a.aheadB c = true := by
  rw [St.ahead_iff] at *; omega
theorem ahead_irr {a : St} : a.aheadB a = false := by
  rw [← Bool.not_eq_true, St.ahead_iff]; omega
theorem ahead_tri {a b : St} (h1 : a.aheadB b = false) (h2 : b.aheadB a = false) : a = b := by
  rw [← Bool.not_eq_true, St.ahead_iff] at *
  rw [St.eq_iff]; omega
theorem Asc.lt {L : List St} (h : Asc L) : ∀ (d i : Nat), i + d + 1 < L.length → (atS L i).aheadB (atS L (i + d + 1)) = true := by
  intro d
  induction d with
  | zero => intro i hi; exact h i hi
  | succ d ih => intro i hi; exact ahead_trans (ih i (by omega)) (h (i + d + 1) hi)
theorem Asc.lt' {L : List St} (h : Asc L) {i j : Nat} (hij : i < j) (hj : j < L.length) : (atS L i).aheadB (atS L j) = true := by
  have := h.lt (j - i - 1) i (by omega)
  rwa [show i + (j - i - 1) + 1 = j by omega] at this
theorem Asc.tail {s : St} {L : List St} (h : Asc (s :: L)) : Asc L := fun i hi => by
  have := h (i + 1) (by simp; omega)
  simpa [atS] using this
theorem Asc.head {s : St} {L : List St} (h : Asc (s :: L)) {t : St} (ht : t ∈ L) : s.aheadB t = true := by
  obtain ⟨j, hj, rfl⟩ := mem_at.1 ht
  have := h.lt' (i := 0) (j := j + 1) (by omega) (by simpa using hj)
  simpa [atS] using this
/-- Two rows of the same stamps are the same. -/
theorem Asc.uniq : ∀ {L K : List St}, Asc L → Asc K → (∀ t, t ∈ L ↔ t ∈ K) → L = K
  | [], [], _, _, _ => rfl
  | [], k :: K, _, _, h => by have := (h k).2 (by simp); simp at this
  | l :: L, [], _, _, h => by have := (h l).1 (by simp); simp at this
  | l :: L, k :: K, hl, hk, h => by
    have e : l = k := by
      have h1 := (h l).1 (by simp)
      have h2 := (h k).2 (by simp)
      rcases List.mem_cons.1 h1 with h1 | h1
      · exact h1
      · rcases List.mem_cons.1 h2 with h2 | h2
        · exact h2.symm
        · have := ahead_trans (hk.head h1) (hl.head h2)
          rw [ahead_irr] at this; cases this
    subst e
    congr 1
    refine Asc.uniq hl.tail hk.tail fun t => ⟨fun ht => ?_, fun ht => ?_⟩
    · rcases List.mem_cons.1 ((h t).1 (by simp [ht])) with h1 | h1
      · subst h1; have := hl.head ht; rw [ahead_irr] at this; cases this
      · exact h1
    · rcases List.mem_cons.1 ((h t).2 (by simp [ht])) with h1 | h1
      · subst h1; have := hk.head ht; rw [ahead_irr] at this; cases this
      · exact h1
/-! ### The reference's row: a stamp put in its place -/
def putL : List St → St → List St
  | [], t => [t]
  | s :: r, t => if s.aheadB t then s :: putL r t else if s = t then s :: r else t :: s :: r
def rowL (L : List St) : List St := L.foldl putL []
theorem mem_putL {L : List St} {t u : St} : u ∈ putL L t ↔ u ∈ L ∨ u = t := by
  induction L with
  | nil => simp [putL]
  | cons s r ih =>
    simp only [putL]
    split
    · simp only [List.mem_cons, ih]
      constructor
      · rintro (h | h | h) <;> simp [h]
      · rintro ((h | h) | h) <;> simp [h]
    · split
      · rename_i e; subst e; simp only [List.mem_cons]
        constructor
        · rintro (h | h) <;> simp [h]
        · rintro ((h | h) | h) <;> simp [h]
      · simp only [List.mem_cons]
        constructor
        · rintro (h | h | h) <;> simp [h]
        · rintro ((h | h) | h) <;> simp [h]
theorem Asc.cons {s : St} {L : List St} (h : Asc L) (hs : ∀ t ∈ L, s.aheadB t = true) : Asc (s :: L) := fun i hi => by
  cases i with
  | zero =>
    have : 0 < L.length := by simpa using hi
    have h1 := hs (atS L 0) (atS_mem this)
    simpa [atS] using h1
  | succ i =>
    have := h i (by simpa using hi)
    simpa [atS] using this
theorem putL_asc {L : List St} {t : St} (h : Asc L) : Asc (putL L t) := by
  induction L with
  | nil => intro i hi; simp [putL] at hi
  | cons s r ih =>
    simp only [putL]
    split
    · rename_i hst
      refine (ih h.tail).cons fun u hu => ?_
      rcases mem_putL.1 hu with h1 | h1
      · exact h.head h1
      · rw [h1]; exact hst
    · split
      · exact h
      · rename_i h1 h2
        refine h.cons fun u hu => ?_
        have hts : t.aheadB s = true := by
          cases hq : t.aheadB s with
          | true => rfl
          | false => exact absurd (ahead_tri (by simpa using h1) hq) h2
        rcases List.mem_cons.1 hu with h3 | h3
        · rw [h3]; exact hts
        · exact ahead_trans hts (h.head h3)
theorem foldl_put : ∀ (L K : List St), Asc K → Asc (L.foldl putL K) ∧ ∀ t, t ∈ L.foldl putL K ↔ t ∈ K ∨ t ∈ L
  | [], K, h => ⟨h, fun t => by simp⟩
  | s :: r, K, h => by
    have ih := foldl_put r (putL K s) (putL_asc h)
    refine ⟨ih.1, fun t => ?_⟩
    rw [List.foldl_cons, ih.2, mem_putL]
    simp only [List.mem_cons]
    constructor
    · rintro ((h | h) | h) <;> simp [h]
    · rintro (h | h | h) <;> simp [h]
theorem asc_nil : Asc [] := fun i hi => by simp at hi
theorem rowL_asc (L : List St) : Asc (rowL L) := (foldl_put L [] asc_nil).1
theorem mem_rowL {L : List St} {t : St} : t ∈ rowL L ↔ t ∈ L := by
  unfold rowL; rw [(foldl_put L [] asc_nil).2]; simp
theorem rowL_of {L K : List St} (h : Asc K) (hm : ∀ t, t ∈ K ↔ t ∈ L) : K = rowL L := h.uniq (rowL_asc L) (fun t => by rw [hm, mem_rowL])
theorem putL_spec {L : List St} {t : St} {i : Nat} (hL : Asc L) (hi : i ≤ L.length) (h1 : ∀ k, k < i → (atS L k).aheadB t = true) (h2 : i < L.length → (atS L i).aheadB t = false) :
    putL L t = if t ∈ L then L else L.take i ++ [t] ++ L.drop i := by
  refine (putL_asc hL).uniq ?_ ?_
  · split
    · exact hL
    · rename_i hn
      intro j hj
      rw [List.length_append, List.length_append, List.length_singleton, List.length_take, List.length_drop] at hj
      have at1 : ∀ k, k < i → atS (L.take i ++ [t] ++ L.drop i) k = atS L k := fun k hk => by
        rw [atS_app (by simp; omega), atS_app (by simp; omega), atS_take hk]
      have at2 : atS (L.take i ++ [t] ++ L.drop i) i = t := by
        unfold atS; simp [List.getD_eq_getElem?_getD, List.getElem?_append, Nat.min_eq_left hi]
      have at3 : ∀ k, i < k → atS (L.take i ++ [t] ++ L.drop i) k = atS L (k - 1) := fun k hk => by
        unfold atS
        rw [List.getD_eq_getElem?_getD, List.getD_eq_getElem?_getD, List.getElem?_append_right (by simp; omega), List.getElem?_drop]
        simp only [List.length_append, List.length_take, List.length_singleton, Nat.min_eq_left hi]
        rw [show i + (k - (i + 1)) = k - 1 by omega]
      rcases Nat.lt_trichotomy (j + 1) i with h3 | h3 | h3
      · rw [at1 j (by omega), at1 (j + 1) h3]; exact hL j (by omega)
      · rw [at1 j (by omega), h3, at2]; exact h1 j (by omega)
      · rw [at3 (j + 1) h3, Nat.add_sub_cancel]
        rcases (show i < j ∨ j = i by omega) with h4 | h4
        · rw [at3 j h4]
          have := hL (j - 1) (by omega)
          rwa [show j - 1 + 1 = j by omega] at this
        · rw [h4, at2]
          cases hq : t.aheadB (atS L i) with
          | true => rfl
          | false => exact absurd (ahead_tri hq (h2 (by omega)) ▸ atS_mem (by omega)) hn
  · intro u
    rw [mem_putL]
    split
    · rename_i h; constructor
      · rintro (h3 | h3)
        · exact h3
        · rw [h3]; exact h
      · exact .inl
    · have e : L.take i ++ L.drop i = L := List.take_append_drop i L
      constructor
      · rintro (h3 | h3)
        · rw [← e] at h3; simp only [List.mem_append] at h3 ⊢; rcases h3 with h4 | h4 <;> simp [h4]
        · simp [h3]
      · intro h3
        simp only [List.mem_append, List.mem_singleton] at h3
        rcases h3 with (h4 | h4) | h4
        · exact .inl (List.mem_of_mem_take h4)
        · right; exact h4
        · exact .inl (List.mem_of_mem_drop h4)
/-! ### The least ones -/
def leastB (L : List St) (t : St) : Bool := L.all fun s => !(!decide (s = t) && s.leB t)
def minL (L : List St) : List St := rowL (L.filter (leastB L))
theorem least_iff {L : List St} {t : St} : leastB L t = true ↔ ∀ s ∈ L, s.leB t = true → s = t := by
  simp only [leastB, List.all_eq_true, Bool.not_eq_true', Bool.and_eq_false_iff, Bool.not_eq_false', decide_eq_true_eq]
  constructor
  · intro h s hs hl
    rcases h s hs with h1 | h1
    · exact h1
    · rw [hl] at h1; cases h1
  · intro h s hs
    cases hl : s.leB t with
    | false => exact .inr rfl
    | true => exact .inl (h s hs hl)
theorem mem_minL {L : List St} {t : St} : t ∈ minL L ↔ t ∈ L ∧ ∀ s ∈ L, s.leB t = true → s = t := by
  unfold minL; rw [mem_rowL, List.mem_filter, least_iff]
theorem minL_asc (L : List St) : Asc (minL L) := rowL_asc _
theorem minL_of {L K : List St} (h : Asc K) (hm : ∀ t, t ∈ K ↔ t ∈ L ∧ ∀ s ∈ L, s.leB t = true → s = t) : K = minL L := h.uniq (minL_asc L) (fun t => by rw [hm, mem_minL])
/-! ### The least ones, one after another -/
structure MInv (K : List St) (p : Nat) (Q : List St) : Prop where
  pos : p ≤ K.length
  asc : Asc Q
  sub : ∀ t ∈ Q, t ∈ K ∧ ∀ s ∈ K, s.leB t = true → s = t
  cov : ∀ j, j < p → ∃ q ∈ Q, q.leB (atS K j) = true
  low : p < K.length → ∀ q ∈ Q, (atS K p).r < q.r ∧ q.aheadB (atS K p) = true
  len : Q.length ≤ p
theorem MInv.start (K : List St) : MInv K 0 [] := ⟨Nat.zero_le _, asc_nil, by simp, fun j h => by omega, by simp, by simp⟩
theorem asc_snoc {Q : List St} {t : St} (h : Asc Q) (hq : ∀ q ∈ Q, q.aheadB t = true) : Asc (Q ++ [t]) := fun i hi => by
  rw [List.length_append, List.length_singleton] at hi
  rw [atS_app (by omega)]
  rcases (show i + 1 < Q.length ∨ i + 1 = Q.length by omega) with h1 | h1
  · rw [atS_app h1]; exact h i h1
  · have : atS (Q ++ [t]) (i + 1) = t := by
      unfold atS; rw [List.getD_eq_getElem?_getD, List.getElem?_append_right (by omega)]; simp [h1]
    rw [this]; exact hq _ (atS_mem (by omega))
theorem MInv.least {K Q : List St} {p : Nat} (hK : Asc K) (h : MInv K p Q) (hp : p < K.length) : ∀ s ∈ K, s.leB (atS K p) = true → s = atS K p := by
  intro s hs hle
  obtain ⟨j, hj, rfl⟩ := at_of_mem hs
  rcases Nat.lt_trichotomy j p with h1 | h1 | h1
  · obtain ⟨q, hq, hqs⟩ := h.cov j h1
    have h2 := h.low hp q hq
    rw [St.le_iff] at hle hqs
    omega
  · rw [h1]
  · have h2 := hK.lt' h1 hj
    rw [St.le_iff] at hle
    rw [St.ahead_iff] at h2
    omega
theorem MInv.next {K Q : List St} {p p' : Nat} (hK : Asc K) (h : MInv K p Q) (hp : p < K.length) (hpp : p < p') (hl : p' ≤ K.length) (hc : ∀ j, p ≤ j → j < p' → (atS K p).leB (atS K j) = true) (hn : p' < K.length → (atS K p).leB (atS K p') = false) : MInv K p' (Q ++ [atS K p]) := by
  refine ⟨hl, asc_snoc h.asc (fun q hq => (h.low hp q hq).2), fun t ht => ?_, fun j hj => ?_, fun hp' q hq => ?_, ?_⟩
  · rcases List.mem_append.1 ht with h1 | h1
    · exact h.sub t h1
    · rw [List.mem_singleton.1 h1]; exact ⟨atS_mem hp, h.least hK hp⟩
  · rcases Nat.lt_or_ge j p with h1 | h1
    · obtain ⟨q, hq, h2⟩ := h.cov j h1
      exact ⟨q, by simp [hq], h2⟩
    · exact ⟨atS K p, by simp, hc j h1 hj⟩
  · have h1 := hn hp'
    have h2 := hK.lt' hpp hp'
    have h3 : (atS K p').r < (atS K p).r := by
      rw [← Bool.not_eq_true, St.le_iff] at h1
      rw [St.ahead_iff] at h2
      omega
    rcases List.mem_append.1 hq with h4 | h4
    · have h5 := h.low hp q h4
      exact ⟨by omega, ahead_trans h5.2 h2⟩
    · rw [List.mem_singleton.1 h4]; exact ⟨h3, h2⟩
  · have := h.len
    rw [List.length_append, List.length_singleton]; omega
theorem MInv.fin {L Q : List St} {p : Nat} (h : MInv (rowL L) p Q) (hp : ¬ p < (rowL L).length) : Q = minL L := by
  refine minL_of h.asc fun t => ⟨fun ht => ?_, fun ⟨h1, h2⟩ => ?_⟩
  · have h1 := h.sub t ht
    exact ⟨mem_rowL.1 h1.1, fun s hs => h1.2 s (mem_rowL.2 hs)⟩
  · obtain ⟨j, hj, rfl⟩ := at_of_mem (mem_rowL.2 h1)
    obtain ⟨q, hq, hle⟩ := h.cov j (by omega)
    rw [← h2 q (mem_rowL.1 (h.sub q hq).1) hle]
    exact hq
theorem rowL_len (L : List St) : (rowL L).length ≤ L.length := by
  have : ∀ (L K : List St), (L.foldl putL K).length ≤ K.length + L.length := by
    intro L
    induction L with
    | nil => intro K; simp
    | cons s r ih =>
      intro K
      have h1 := ih (putL K s)
      have h2 : ∀ (K : List St), (putL K s).length ≤ K.length + 1 := by
        intro K
        induction K with
        | nil => simp [putL]
        | cons k K ih2 => simp only [putL]; split; simp; omega; split <;> simp
      have := h2 K
      rw [List.foldl_cons, List.length_cons]; omega
  have := this L []
  simpa [rowL] using this
theorem minL_len (L : List St) : (minL L).length ≤ L.length := Nat.le_trans (rowL_len _) (List.length_filter_le _ _)
/-! ### The reference's loops -/
theorem foldl_snoc {L : List St} {i : Nat} (h : i < L.length) : (L.take (i + 1)).foldl putL [] = putL ((L.take i).foldl putL []) (atS L i) := by
  rw [List.take_succ_eq_append_getElem h, List.foldl_append, atS_eq h]; rfl
theorem rowL_step {L : List St} {i : Int} (h0 : 0 ≤ i) (h : i < (L.length : Int)) : rowL (L.take (i + 1).toNat) = putL (rowL (L.take i.toNat)) (atS L i.toNat) := by
  rw [show (i + 1).toNat = i.toNat + 1 by omega]; exact foldl_snoc (by omega)
def filt (L : List St) (i : Nat) : List St := rowL ((L.take i).filter (leastB L))
theorem filt_yes {L : List St} {i : Int} (h0 : 0 ≤ i) (h : i < (L.length : Int)) (hl : leastB L (atS L i.toNat) = true) : filt L (i + 1).toNat = putL (filt L i.toNat) (atS L i.toNat) := by
  rw [show (i + 1).toNat = i.toNat + 1 by omega]
  unfold filt rowL
  rw [List.take_succ_eq_append_getElem (by omega), List.filter_append, List.foldl_append, ← atS_eq]
  simp [hl]
theorem filt_no {L : List St} {i : Int} (h0 : 0 ≤ i) (h : i < (L.length : Int)) (hl : leastB L (atS L i.toNat) = false) : filt L (i + 1).toNat = filt L i.toNat := by
  rw [show (i + 1).toNat = i.toNat + 1 by omega]
  unfold filt rowL
  rw [List.take_succ_eq_append_getElem (by omega), List.filter_append, ← atS_eq]
  simp [hl]
theorem filt_end {L : List St} {i : Int} (h : ¬ i < (L.length : Int)) : filt L i.toNat = minL L := by
  unfold filt minL; rw [List.take_of_length_le (by omega)]
theorem filt_len (L : List St) (i : Nat) : (filt L i).length ≤ L.length := by
  unfold filt
  refine Nat.le_trans (rowL_len _) (Nat.le_trans (List.length_filter_le _ _) ?_)
  rw [List.length_take]; omega
theorem filt_asc (L : List St) (i : Nat) : Asc (filt L i) := rowL_asc _
theorem least_t {L : List St} {t : St} {b : Bool} (h : b = true ↔ ∀ k, k < L.length → atS L k = t ∨ (atS L k).leB t = false) : leastB L t = b := by
  rw [Bool.eq_iff_iff, h, least_iff]
  constructor
  · intro h2 k hk
    cases hq : (atS L k).leB t with
    | true => exact .inl (h2 _ (atS_mem hk) hq)
    | false => exact .inr rfl
  · intro h2 s hs hq
    obtain ⟨k, hk, rfl⟩ := at_of_mem hs
    rcases h2 k hk with h3 | h3
    · exact h3
    · rw [hq] at h3; cases h3
theorem flag_step {L : List St} {t : St} {b b' : Bool} {i : Int} (h0 : 0 ≤ i) (h : b = true ↔ ∀ k, k < i.toNat → atS L k = t ∨ (atS L k).leB t = false) (hb : b' = true ↔ (b = true ∧ (atS L i.toNat = t ∨ (atS L i.toNat).leB t = false))) : b' = true ↔ ∀ k, k < (i + 1).toNat → atS L k = t ∨ (atS L k).leB t = false := by
  rw [hb, h, show (i + 1).toNat = i.toNat + 1 by omega]
  constructor
  · rintro ⟨h1, h2⟩ k hk
    rcases (show k < i.toNat ∨ k = i.toNat by omega) with h3 | h3
    · exact h1 k h3
    · rw [h3]; exact h2
  · intro h1
    exact ⟨fun k hk => h1 k (by omega), h1 _ (by omega)⟩
end Go.Proofs.Ytboinbmgndomhaa
namespace Go.Proofs.Ytboinbmgndomhaa
open Go.RowKit
set_option maxRecDepth 100000
set_option linter.unusedSimpArgs false
set_option linter.unusedVariables false

theorem cov_iff {L : List St} {t : St} : covB L t = true ↔ ∃ s ∈ L, s.leB t = true := by unfold covB; rw [List.any_eq_true]
theorem bey_iff {A B : List St} : beyB A B = true ↔ ∀ t ∈ A, covB B t = true := by unfold beyB; rw [List.all_eq_true]
theorem bey_refl (A : List St) : beyB A A = true := bey_iff.2 fun t ht => cov_iff.2 ⟨t, ht, St.le_refl t⟩
theorem cov_trans {A B : List St} {t : St} (h : beyB A B = true) (hc : covB A t = true) : covB B t = true := by
  obtain ⟨s, hs, hl⟩ := cov_iff.1 hc
  obtain ⟨q, hq, hl2⟩ := cov_iff.1 (bey_iff.1 h s hs)
  exact cov_iff.2 ⟨q, hq, St.le_trans hl2 hl⟩
theorem bey_trans {A B C : List St} (h1 : beyB A B = true) (h2 : beyB B C = true) : beyB A C = true := bey_iff.2 fun t ht => cov_trans h2 (bey_iff.1 h1 t ht)
/-- Below each stamp of a list there is a least one. -/
theorem least_below : ∀ (n : Nat) {L : List St} (_ : L.length ≤ n) (t : St), t ∈ L → ∃ m ∈ L, m.leB t = true ∧ ∀ s ∈ L, s.leB m = true → s = m := by
  intro n
  induction n with
  | zero => intro L hn t ht; cases L with
    | nil => cases ht
    | cons a r => simp at hn
  | succ n ih =>
    intro L hn t ht
    by_cases h : ∀ s ∈ L, s.leB t = true → s = t
    · exact ⟨t, ht, St.le_refl t, h⟩
    · obtain ⟨s, hs, hl, hne⟩ : ∃ s, s ∈ L ∧ s.leB t = true ∧ ¬ s = t := by
        simp only [Classical.not_forall] at h
        obtain ⟨s, hs, hl, hne⟩ := h
        exact ⟨s, hs, hl, hne⟩
      have hs' : s ∈ L.filter (fun x => !decide (x = t)) := by simp [hs, hne]
      have hlen : (L.filter (fun x => !decide (x = t))).length ≤ n := by
        have : (L.filter (fun x => !decide (x = t))).length < L.length := by
          rw [List.length_filter_lt_length_iff_exists]
          exact ⟨t, ht, by simp⟩
        omega
      obtain ⟨m, hm, hms, hmin⟩ := ih hlen s hs'
      have hmL := (List.mem_filter.1 hm).1
      refine ⟨m, hmL, St.le_trans hms hl, fun u hu hum => ?_⟩
      by_cases e : u = t
      · exfalso
        subst e
        have := St.le_antisymm (St.le_trans hum hms) hl
        exact hne this.symm
      · exact hmin u (by simp [hu, e]) hum
theorem min_cov (L : List St) (t : St) : covB (minL L) t = covB L t := by
  rw [Bool.eq_iff_iff, cov_iff, cov_iff]
  constructor
  · rintro ⟨s, hs, hl⟩; exact ⟨s, (mem_minL.1 hs).1, hl⟩
  · rintro ⟨s, hs, hl⟩
    obtain ⟨m, hm, hms, hmin⟩ := least_below _ (Nat.le_refl _) s hs
    exact ⟨m, mem_minL.2 ⟨hm, hmin⟩, St.le_trans hms hl⟩
theorem min_same {A B : List St} : minL A = minL B ↔ beyB A B = true ∧ beyB B A = true := by
  constructor
  · intro h
    have : ∀ X Y : List St, minL X = minL Y → beyB X Y = true := fun X Y h => bey_iff.2 fun t ht => by
      rw [← min_cov, ← h, min_cov]; exact cov_iff.2 ⟨t, ht, St.le_refl t⟩
    exact ⟨this A B h, this B A h.symm⟩
  · rintro ⟨h1, h2⟩
    have key : ∀ X Y : List St, beyB X Y = true → beyB Y X = true → ∀ t, t ∈ minL X → t ∈ minL Y := by
      intro X Y h1 h2 t ht
      obtain ⟨ht, hmin⟩ := mem_minL.1 ht
      obtain ⟨q, hq, hqt⟩ := cov_iff.1 (bey_iff.1 h1 t ht)
      obtain ⟨p, hp, hpq⟩ := cov_iff.1 (bey_iff.1 h2 q hq)
      have e : p = t := hmin p hp (St.le_trans hpq hqt)
      subst e
      have e2 : q = p := St.le_antisymm hqt hpq
      subst e2
      refine mem_minL.2 ⟨hq, fun s hs hl => ?_⟩
      obtain ⟨r, hr, hrs⟩ := cov_iff.1 (bey_iff.1 h2 s hs)
      have e3 : r = q := hmin r hr (St.le_trans hrs hl)
      subst e3
      exact St.le_antisymm hl hrs
    exact (minL_asc A).uniq (minL_asc B) fun t => ⟨key A B h1 h2 t, key B A h2 h1 t⟩
theorem min_sameB (A B : List St) : decide (minL A = minL B) = (beyB A B && beyB B A) := by
  rw [Bool.eq_iff_iff, decide_eq_true_eq, min_same, Bool.and_eq_true]
theorem cov_app (A B : List St) (t : St) : covB (A ++ B) t = (covB A t || covB B t) := by unfold covB; rw [List.any_append]
theorem joined (A B : List St) : minL (A ++ B) = minL (minL A ++ minL B) := min_same.2 (by
  constructor
  · refine bey_iff.2 fun t ht => ?_
    rw [cov_app, min_cov, min_cov]
    rcases List.mem_append.1 ht with h | h
    · rw [cov_iff.2 ⟨t, h, St.le_refl t⟩]; rfl
    · rw [cov_iff.2 ⟨t, h, St.le_refl t⟩, Bool.or_true]
  · refine bey_iff.2 fun t ht => ?_
    rw [cov_app]
    rcases List.mem_append.1 ht with h | h
    · rw [cov_iff.2 ⟨t, (mem_minL.1 h).1, St.le_refl t⟩]; rfl
    · rw [cov_iff.2 ⟨t, (mem_minL.1 h).1, St.le_refl t⟩, Bool.or_true])
theorem row_mem {A B : List St} (h : ∀ t, t ∈ A ↔ t ∈ B) : rowL A = rowL B := (rowL_asc A).uniq (rowL_asc B) fun t => by rw [mem_rowL, mem_rowL, h]
theorem min_mem {A B : List St} (h : ∀ t, t ∈ A ↔ t ∈ B) : minL A = minL B := (minL_asc A).uniq (minL_asc B) fun t => by
  rw [mem_minL, mem_minL, h]
  exact and_congr_right fun _ => forall_congr' fun s => by rw [h]
theorem turned_mem {L : List St} {k : Nat} (hk : k < L.length) (t : St) : t ∈ [atS L k] ++ L.drop k ++ L.take k ↔ t ∈ L := by
  have e : ∀ t, t ∈ L ↔ t ∈ L.take k ∨ t ∈ L.drop k := fun t => by rw [← List.mem_append, List.take_append_drop]
  rw [List.mem_append, List.mem_append, List.mem_singleton, e]
  constructor
  · rintro ((h | h) | h)
    · rw [← e, h]; exact atS_mem hk
    · exact .inr h
    · exact .inl h
  · rintro (h | h)
    · exact .inr h
    · exact .inl (.inr h)
theorem min_min (L : List St) : minL (minL L) = minL L := min_same.2 ⟨bey_iff.2 fun t ht => cov_iff.2 ⟨t, (mem_minL.1 ht).1, St.le_refl t⟩, bey_iff.2 fun t ht => by rw [min_cov]; exact cov_iff.2 ⟨t, ht, St.le_refl t⟩⟩
theorem min_nil (L : List St) : decide (((minL L).length : Int) = 0) = decide ((L.length : Int) = 0) := by
  rw [Bool.eq_iff_iff, decide_eq_true_eq, decide_eq_true_eq]
  constructor
  · intro h
    cases L with
    | nil => rfl
    | cons a r =>
      obtain ⟨m, hm, _, hmin⟩ := least_below _ (Nat.le_refl _) a (show a ∈ a :: r by simp)
      have : m ∈ minL (a :: r) := mem_minL.2 ⟨hm, hmin⟩
      have := List.length_pos_of_mem this
      omega
  · intro h
    have := minL_len L
    omega
theorem in_none {L : List St} {x : St} : false = true ↔ ∃ j, j < (0 : Int).toNat ∧ atS L j = x := ⟨(fun h => by cases h), (fun ⟨j, h, _⟩ => by simp at h)⟩
theorem in_step {L : List St} {x : St} {b b' : Bool} {i : Int} (h0 : 0 ≤ i) (h : b = true ↔ ∃ j, j < i.toNat ∧ atS L j = x) (hb : b' = true ↔ (b = true ∨ atS L i.toNat = x)) : b' = true ↔ ∃ j, j < (i + 1).toNat ∧ atS L j = x := by
  rw [hb, h, show (i + 1).toNat = i.toNat + 1 by omega]
  constructor
  · rintro (⟨j, h1, h2⟩ | h1)
    · exact ⟨j, by omega, h2⟩
    · exact ⟨_, by omega, h1⟩
  · rintro ⟨j, h1, h2⟩
    rcases (show j < i.toNat ∨ j = i.toNat by omega) with h3 | h3
    · exact .inl ⟨j, h3, h2⟩
    · subst h3; exact .inr h2
theorem in_end {L : List St} {x : St} {b : Bool} {i : Int} {n : Nat} (h : b = true ↔ ∃ j, j < i.toNat ∧ atS L j = x) (hi : i.toNat = n) : b = true ↔ ∃ j, j < n ∧ atS L j = x := by subst hi; exact h
theorem in_false {L : List St} {b : Bool} {i : Nat} (h : b = true ↔ ∃ j, j < L.length ∧ atS L j = atS (minL L) i) (hb : b = false) (hi : i < (minL L).length) : False := by
  have h1 := (mem_minL.1 (atS_mem hi)).1
  have := h.2 (at_of_mem h1)
  rw [hb] at this; cases this
theorem asc_false {L : List St} {i j : Nat} (h : (atS (minL L) i).aheadB (atS (minL L) j) = false) (hij : i < j) (hj : j < (minL L).length) : False := by
  have := (minL_asc L).lt' hij hj
  rw [h] at this; cases this
theorem min_false {L : List St} {i j : Nat} (h : (atS (minL L) i).leB (atS (minL L) j) = true) (hij : i ≠ j) (hi : i < (minL L).length) (hj : j < (minL L).length) : False := by
  have h1 := mem_minL.1 (atS_mem hi)
  have h2 := mem_minL.1 (atS_mem hj)
  have e := h2.2 _ h1.1 h
  rcases Nat.lt_or_gt_of_ne hij with h3 | h3
  · have := (minL_asc L).lt' h3 hj; rw [e, ahead_irr] at this; cases this
  · have := (minL_asc L).lt' h3 hi; rw [e, ahead_irr] at this; cases this
theorem Asc.nodup {L : List St} (h : Asc L) : L.Nodup := by
  rw [List.Nodup, List.pairwise_iff_getElem]
  intro i j hi hj hij e
  have := h.lt' hij hj
  rw [atS_eq hi, atS_eq hj, e, ahead_irr] at this
  cases this
theorem more_cov {L : List St} {t : St} (h : covB (minL L) t = true) : minL L = minL (minL L ++ [t]) := by
  rw [← min_min L]
  conv => rhs; rw [min_min L]
  refine min_same.2 ⟨bey_iff.2 fun s hs => ?_, bey_iff.2 fun s hs => ?_⟩
  · rw [cov_app]; rw [cov_iff.2 ⟨s, hs, St.le_refl s⟩]; rfl
  · rcases List.mem_append.1 hs with h1 | h1
    · exact cov_iff.2 ⟨s, h1, St.le_refl s⟩
    · rw [List.mem_singleton.1 h1]; exact h
theorem more_mem {L : List St} {t : St} (h : covB (minL L) t = false) (s : St) : s ∈ minL (minL L ++ [t]) ↔ s = t ∨ s ∈ minL L ∧ t.leB s = false := by
  have hn : ∀ q ∈ minL L, q.leB t = false := fun q hq => by
    cases hb : q.leB t with
    | false => rfl
    | true => have := cov_iff.2 ⟨q, hq, hb⟩; rw [h] at this; cases this
  rw [mem_minL, List.mem_append, List.mem_singleton]
  constructor
  · rintro ⟨h1 | h1, h2⟩
    · by_cases e : s = t
      · exact .inl e
      · refine .inr ⟨h1, ?_⟩
        cases hb : t.leB s with
        | false => rfl
        | true => exact absurd (h2 t (by simp) hb).symm e
    · exact .inl h1
  · rintro (h1 | ⟨h1, h2⟩)
    · subst h1
      refine ⟨.inr rfl, fun q hq hl => ?_⟩
      rcases List.mem_append.1 hq with h3 | h3
      · rw [hn q h3] at hl; cases hl
      · exact List.mem_singleton.1 h3
    · refine ⟨.inl h1, fun q hq hl => ?_⟩
      rcases List.mem_append.1 hq with h3 | h3
      · have e := mem_minL.1 (by rw [min_min]; exact h1 : s ∈ minL (minL L))
        exact e.2 q h3 hl
      · rw [List.mem_singleton.1 h3, h2] at hl; cases hl
def cntS (L : List St) (t : St) (i : Nat) : Nat := (L.take i).countP fun s => !t.leB s
theorem more_len {L : List St} {t : St} (h : covB (minL L) t = false) : (minL (minL L ++ [t])).length = 1 + cntS (minL L) t (minL L).length := by
  have hp : (minL (minL L ++ [t])).Perm (t :: (minL L).filter fun s => !t.leB s) := by
    refine (List.perm_ext_iff_of_nodup (minL_asc _).nodup ?_).2 fun s => ?_
    · refine List.nodup_cons.2 ⟨fun h1 => ?_, (minL_asc L).nodup.filter _⟩
      have := (List.mem_filter.1 h1).2
      rw [St.le_refl] at this; cases this
    · rw [more_mem h, List.mem_cons, List.mem_filter]
      simp
  rw [hp.length_eq, List.length_cons, ← List.countP_eq_length_filter]
  unfold cntS; rw [List.take_length]; omega
theorem cnt_step {L : List St} {t : St} {i : Int} {k k' : Int} (h0 : 0 ≤ i) (hi : i < (L.length : Int)) (hk : k = 1 + (cntS L t i.toNat : Int)) {b : Bool} (hb : t.leB (atS L i.toNat) = b) (hk' : k' = if b then k else k + 1) : k' = 1 + (cntS L t (i + 1).toNat : Int) := by
  rw [hk', hk, show (i + 1).toNat = i.toNat + 1 by omega]
  unfold cntS
  rw [List.take_succ_eq_append_getElem (by omega), List.countP_append, ← atS_eq]
  cases b <;> simp [List.countP_cons, hb] <;> omega
theorem cnt_le (L : List St) (t : St) (i : Nat) : cntS L t i ≤ L.length := by
  unfold cntS
  refine Nat.le_trans List.countP_le_length ?_
  rw [List.length_take]; omega
theorem more_in {L : List St} {t : St} {b : Bool} (h : covB (minL L) t = false) (hb : b = true ↔ ∃ j, j < (minL (minL L ++ [t])).length ∧ atS (minL (minL L ++ [t])) j = t) (hf : b = false) : False := by
  have := hb.2 (at_of_mem ((more_mem h t).2 (.inl rfl)))
  rw [hf] at this; cases this
structure Chn (t : St) (Q : List St) : Prop where
  pos : 0 < Q.length
  first : atS Q 0 = t
  low : ∀ s ∈ Q, t.leB s = true
  high : ∀ s ∈ Q, s.leB (atS Q (Q.length - 1)) = true
theorem Chn.start (t : St) : Chn t [t] := ⟨by simp, rfl, fun s hs => by rw [List.mem_singleton.1 hs]; exact St.le_refl t, fun s hs => by rw [List.mem_singleton.1 hs]; exact St.le_refl t⟩
theorem after_le {t p : St} (h : t.afterB p = true) : t.leB (t.after p) = true := by
  have h2 := after_t h
  rw [after_yes h, St.le_iff]
  show t.e ≤ t.e + p.e ∧ t.r ≤ t.r + p.r
  omega
theorem Chn.next {t u : St} {Q : List St} {k : Nat} (h : Chn t Q) (hk : k = Q.length - 1) (hu : (atS Q k).leB u = true) : Chn t (Q ++ [u]) := by
  subst hk
  have hp := h.pos
  have hl : atS (Q ++ [u]) ((Q ++ [u]).length - 1) = u := by
    unfold atS; rw [List.length_append, List.length_singleton, Nat.add_sub_cancel, List.getD_eq_getElem?_getD, List.getElem?_append_right (Nat.le_refl _)]; simp
  have hm : atS Q (Q.length - 1) ∈ Q := atS_mem (by omega)
  refine ⟨by rw [List.length_append, List.length_singleton]; omega, by rw [atS_app hp]; exact h.first, fun s hs => ?_, fun s hs => ?_⟩
  · rcases List.mem_append.1 hs with h1 | h1
    · exact h.low s h1
    · rw [List.mem_singleton.1 h1]; exact St.le_trans (h.low _ hm) hu
  · rw [hl]
    rcases List.mem_append.1 hs with h1 | h1
    · exact St.le_trans (h.high s h1) hu
    · rw [List.mem_singleton.1 h1]; exact St.le_refl u
theorem Chn.min {t : St} {Q : List St} (h : Chn t Q) : minL Q = [t] := by
  have ht : t ∈ Q := h.first ▸ atS_mem h.pos
  refine ((show Asc [t] from fun i hi => by simp at hi).uniq (minL_asc Q) fun s => ?_).symm
  rw [mem_minL, List.mem_singleton]
  constructor
  · intro e; subst e
    exact ⟨ht, fun q hq hl => St.le_antisymm hl (h.low q hq)⟩
  · rintro ⟨h1, h2⟩; exact (h2 t ht (h.low s h1)).symm
theorem le_ahead {a b : St} (h : a.leB b = true) (hb : b.aheadB a = true) : False := by
  rw [St.le_iff] at h; rw [St.ahead_iff] at hb; omega
theorem Chn.row0 {t : St} {Q : List St} (h : Chn t Q) : 0 < (rowL Q).length ∧ atS (rowL Q) 0 = t := by
  have ht : t ∈ rowL Q := mem_rowL.2 (h.first ▸ atS_mem h.pos)
  have hp := List.length_pos_of_mem ht
  refine ⟨hp, ?_⟩
  obtain ⟨j, hj, hjt⟩ := at_of_mem ht
  rcases Nat.eq_zero_or_pos j with h0 | h0
  · rw [← hjt, h0]
  · exfalso
    have h1 := (rowL_asc Q).lt' h0 hj
    rw [hjt] at h1
    exact le_ahead (h.low _ (mem_rowL.1 (atS_mem hp))) h1
theorem Chn.rowl {t : St} {Q : List St} (h : Chn t Q) : atS (rowL Q) ((((rowL Q).length : Nat) : Int) - 1).toNat = atS Q (((Q.length : Nat) : Int) - 1).toNat := by
  have hp := h.row0.1
  have hq := h.pos
  rw [show ((((rowL Q).length : Nat) : Int) - 1).toNat = (rowL Q).length - 1 by omega, show (((Q.length : Nat) : Int) - 1).toNat = Q.length - 1 by omega]
  have hm : atS Q (Q.length - 1) ∈ rowL Q := mem_rowL.2 (atS_mem (by omega))
  obtain ⟨j, hj, hjt⟩ := at_of_mem hm
  rcases (show j = (rowL Q).length - 1 ∨ j < (rowL Q).length - 1 by omega) with h0 | h0
  · rw [← h0, hjt]
  · exfalso
    have h1 := (rowL_asc Q).lt' h0 (by omega)
    rw [hjt] at h1
    exact le_ahead (h.high _ (mem_rowL.1 (atS_mem (L := rowL Q) (i := (rowL Q).length - 1) (by omega)))) h1
theorem awake_min : minL [St.mk 1 2, St.mk 0 3, St.mk 2 2] = [St.mk 0 3, St.mk 1 2] := by decide +kernel
end Go.Proofs.Ytboinbmgndomhaa
namespace Go.Proofs.Ytboinbmgndomhaa
open Go.RowKit
set_option maxRecDepth 100000
set_option linter.unusedSimpArgs false
set_option linter.unusedVariables false

def rightsB (L : List St) : Bool := L.all St.rightB && decide (L.length ≤ 64)
def sumsP (A B : List St) : List St := A.flatMap fun p => (B.filter fun q => p.afterB q).map fun q => p.after q
def eachB (A B : List St) : Bool := rightsB A && rightsB B && decide ((minL (sumsP A B)).length ≤ 64)
def eachL (A B : List St) : List St := if eachB A B then minL (sumsP A B) else []
theorem rights_iff {L : List St} : rightsB L = true ↔ (∀ p ∈ L, p.rightB = true) ∧ L.length ≤ 64 := by unfold rightsB; simp
theorem rights_no {L : List St} {i : Nat} (h : i < L.length) (e : (atS L i).rightB = false) : rightsB L = false := by
  rw [← Bool.not_eq_true, rights_iff]
  intro h2
  have := h2.1 _ (atS_mem h)
  rw [e] at this; cases this
theorem rights_all {L : List St} {i : Int} (h : ∀ k, k < i.toNat → (atS L k).rightB = true) (hi : ¬ i < (L.length : Int)) : rightsB L = decide (((L.length : Nat) : Int) ≤ 64) := by
  rw [Bool.eq_iff_iff, rights_iff, decide_eq_true_eq]
  constructor
  · intro h2; omega
  · intro h2
    refine ⟨fun p hp => ?_, by omega⟩
    obtain ⟨k, hk, rfl⟩ := at_of_mem hp
    exact h k (by omega)
theorem mem_sums {A B : List St} {t : St} : t ∈ sumsP A B ↔ ∃ p ∈ A, ∃ q ∈ B, p.afterB q = true ∧ p.after q = t := by
  unfold sumsP
  simp only [List.mem_flatMap, List.mem_map, List.mem_filter]
  constructor
  · rintro ⟨p, hp, q, ⟨hq, h1⟩, h2⟩; exact ⟨p, hp, q, hq, h1, h2⟩
  · rintro ⟨p, hp, q, hq, h1, h2⟩; exact ⟨p, hp, q, ⟨hq, h1⟩, h2⟩
theorem sums_len (A B : List St) : (sumsP A B).length ≤ A.length * B.length := by
  unfold sumsP
  induction A with
  | nil => simp
  | cons p r ih =>
    simp only [List.flatMap_cons, List.length_append, List.length_map, List.length_cons, Nat.add_mul, Nat.one_mul]
    have := List.length_filter_le (fun q => p.afterB q) B
    omega
theorem then_add {p q : St} (hp : p.rightB = true) (hq : q.rightB = true) : St.mk (IntKind.i64.wrap (p.e + q.e)) (IntKind.i64.wrap (p.r + q.r)) = p.add q := by
  have h1 := right_t hp
  have h2 := right_t hq
  rw [IntWalk.i64_in _ (by omega), IntWalk.i64_in _ (by omega)]; rfl
theorem then_t {p q : St} (hp : p.rightB = true) (hq : q.rightB = true) (hs : (St.mk (IntKind.i64.wrap (p.e + q.e)) (IntKind.i64.wrap (p.r + q.r))).rightB = true) : p.afterB q = true ∧ IntKind.i64.wrap (p.e + q.e) = (p.after q).e ∧ IntKind.i64.wrap (p.r + q.r) = (p.after q).r := by
  have h := then_add hp hq
  rw [h] at hs
  have ha : p.afterB q = true := by unfold St.afterB; rw [hp, hq, hs]; rfl
  have he := St.eq_iff.1 h
  rw [after_yes ha]
  exact ⟨ha, he.1, he.2⟩
theorem then_f {p q : St} (h : p.rightB = false ∨ q.rightB = false ∨ (p.rightB = true ∧ q.rightB = true ∧ (St.mk (IntKind.i64.wrap (p.e + q.e)) (IntKind.i64.wrap (p.r + q.r))).rightB = false)) : p.afterB q = false := by
  unfold St.afterB
  rcases h with h | h | ⟨h1, h2, h3⟩
  · simp [h]
  · simp [h]
  · rw [then_add h1 h2] at h3; simp [h3]
theorem take_snocS {L : List St} {i : Int} (h0 : 0 ≤ i) (h : i < (L.length : Int)) : L.take i.toNat ++ [atS L i.toNat] = L.take (i + 1).toNat := by
  rw [show (i + 1).toNat = i.toNat + 1 by omega, List.take_succ_eq_append_getElem (by omega), atS_eq (by omega)]
/-! ### The loops -/
def partP (A B : List St) (i k : Nat) : List St := sumsP (A.take i) B ++ ((B.take k).filter fun q => (atS A i).afterB q).map fun q => (atS A i).after q
theorem part_zero (A B : List St) : [] = partP A B (0 : Int).toNat (0 : Int).toNat := by simp [partP, sumsP]
theorem part_yes {A B : List St} {i : Nat} {k : Int} (h0 : 0 ≤ k) (h : k < (B.length : Int)) (ha : (atS A i).afterB (atS B k.toNat) = true) : partP A B i k.toNat ++ [(atS A i).after (atS B k.toNat)] = partP A B i (k + 1).toNat := by
  unfold partP
  rw [show (k + 1).toNat = k.toNat + 1 by omega, List.take_succ_eq_append_getElem (show k.toNat < B.length by omega), List.filter_append, List.map_append, ← List.append_assoc, ← atS_eq]
  simp [ha]
theorem part_no {A B : List St} {i : Nat} {k : Int} (h0 : 0 ≤ k) (h : k < (B.length : Int)) (ha : (atS A i).afterB (atS B k.toNat) = false) : partP A B i k.toNat = partP A B i (k + 1).toNat := by
  unfold partP
  rw [show (k + 1).toNat = k.toNat + 1 by omega, List.take_succ_eq_append_getElem (show k.toNat < B.length by omega), List.filter_append, List.map_append, ← atS_eq]
  simp [ha]
theorem part_row {A B : List St} {i k : Int} (h0 : 0 ≤ i) (h : i < (A.length : Int)) (hk : ¬ k < (B.length : Int)) : partP A B i.toNat k.toNat = partP A B (i + 1).toNat (0 : Int).toNat := by
  unfold partP
  rw [List.take_of_length_le (l := B) (by omega), show (i + 1).toNat = i.toNat + 1 by omega, List.take_succ_eq_append_getElem (show i.toNat < A.length by omega), ← atS_eq]
  unfold sumsP
  rw [List.flatMap_append]
  simp
theorem part_end {A B : List St} {i : Int} (h : ¬ i < (A.length : Int)) : partP A B i.toNat (0 : Int).toNat = sumsP A B := by
  unfold partP
  rw [List.take_of_length_le (by omega)]; simp
theorem part_len {A B : List St} (hA : A.length ≤ 64) (hB : B.length ≤ 64) (i k : Nat) : (partP A B i k).length ≤ 5000 := by
  unfold partP
  rw [List.length_append, List.length_map]
  have h1 := sums_len (A.take i) B
  have h2 := List.length_filter_le (fun q => (atS A i).afterB q) (B.take k)
  have h3 : (A.take i).length * B.length ≤ 64 * 64 := Nat.mul_le_mul (by rw [List.length_take]; omega) hB
  rw [List.length_take] at h2
  omega
theorem each_no {A B : List St} (h : rightsB A = false ∨ rightsB B = false) : eachB A B = false ∧ eachL A B = [] := by
  have : eachB A B = false := by unfold eachB; rcases h with h | h <;> simp [h]
  exact ⟨this, by unfold eachL; rw [this]; rfl⟩
theorem each_many {A B : List St} (h : ¬ (minL (sumsP A B)).length ≤ 64) : eachB A B = false ∧ eachL A B = [] := by
  have : eachB A B = false := by unfold eachB; simp [h]
  exact ⟨this, by unfold eachL; rw [this]; rfl⟩
theorem each_yes {A B : List St} (ha : rightsB A = true) (hb : rightsB B = true) (h : (minL (sumsP A B)).length ≤ 64) : eachB A B = true ∧ eachL A B = minL (sumsP A B) := by
  have : eachB A B = true := by unfold eachB; simp [ha, hb, h]
  exact ⟨this, by unfold eachL; rw [this]; rfl⟩
theorem each_f {A B : List St} (h : eachB A B = false) : eachL A B = [] := by unfold eachL; rw [h]; rfl
theorem each_t {A B : List St} (h : eachB A B = true) : (rightsB A = true ∧ rightsB B = true ∧ (minL (sumsP A B)).length ≤ 64) ∧ eachL A B = minL (sumsP A B) := by
  refine ⟨?_, by unfold eachL; rw [h]; rfl⟩
  unfold eachB at h
  simp only [Bool.and_eq_true, decide_eq_true_eq] at h
  exact ⟨h.1.1, h.1.2, h.2⟩
theorem eachL_len (A B : List St) : (eachL A B).length ≤ 64 := by
  cases h : eachB A B with
  | true => have := each_t h; rw [this.2]; exact this.1.2.2
  | false => rw [each_f h]; simp
/-! ### Sums and least ones -/
theorem after_right {p q : St} (h : p.afterB q = true) : (p.after q).rightB = true := by
  have := after_t h
  rw [St.right_iff]; omega
theorem sums_right {A B : List St} {t : St} (h : t ∈ sumsP A B) : t.rightB = true := by
  obtain ⟨p, _, q, _, h1, rfl⟩ := mem_sums.1 h
  exact after_right h1
theorem least_of {L : List St} {t : St} (h : t ∈ L) : ∃ m ∈ minL L, m.leB t = true := by
  obtain ⟨m, hm, h1, h2⟩ := least_below _ (Nat.le_refl _) t h
  exact ⟨m, mem_minL.2 ⟨hm, h2⟩, h1⟩
theorem after_mono {p q m n : St} (hp : m.leB p = true) (hq : n.leB q = true) (hm : m.rightB = true) (hn : n.rightB = true) (h : p.afterB q = true) : m.afterB n = true ∧ (m.after n).leB (p.after q) = true := by
  have h1 := after_t h
  have h2 := le_t hp
  have h3 := le_t hq
  have h4 := right_t hm
  have h5 := right_t hn
  have h6 : m.afterB n = true := after_iff.2 (by omega)
  have h7 := after_t h6
  exact ⟨h6, St.le_iff.2 (by omega)⟩
theorem sums_min {A A' B B' : List St} (hA : ∀ p ∈ A, p.rightB = true) (hB : ∀ q ∈ B, q.rightB = true) (sA : ∀ p ∈ A', p ∈ A) (sB : ∀ q ∈ B', q ∈ B) (lA : ∀ p ∈ A, ∃ m ∈ A', m.leB p = true) (lB : ∀ q ∈ B, ∃ m ∈ B', m.leB q = true) : minL (sumsP A B) = minL (sumsP A' B') := by
  refine min_same.2 ⟨bey_iff.2 fun t ht => ?_, bey_iff.2 fun t ht => ?_⟩
  · obtain ⟨p, hp, q, hq, h1, rfl⟩ := mem_sums.1 ht
    obtain ⟨m, hm, h2⟩ := lA p hp
    obtain ⟨n, hn, h3⟩ := lB q hq
    have h4 := after_mono h2 h3 (hA m (sA m hm)) (hB n (sB n hn)) h1
    exact cov_iff.2 ⟨_, mem_sums.2 ⟨m, hm, n, hn, h4.1, rfl⟩, h4.2⟩
  · obtain ⟨p, hp, q, hq, h1, rfl⟩ := mem_sums.1 ht
    exact cov_iff.2 ⟨_, mem_sums.2 ⟨p, sA p hp, q, sB q hq, h1, rfl⟩, St.le_refl _⟩
theorem sums_minmin {A B : List St} (hA : ∀ p ∈ A, p.rightB = true) (hB : ∀ q ∈ B, q.rightB = true) : minL (sumsP A B) = minL (sumsP (minL A) (minL B)) :=
  sums_min hA hB (fun p hp => (mem_minL.1 hp).1) (fun q hq => (mem_minL.1 hq).1) (fun p hp => least_of hp) (fun q hq => least_of hq)
theorem sums_minl {A B : List St} (hA : ∀ p ∈ A, p.rightB = true) (hB : ∀ q ∈ B, q.rightB = true) : minL (sumsP A B) = minL (sumsP (minL A) B) :=
  sums_min hA hB (fun p hp => (mem_minL.1 hp).1) (fun q hq => hq) (fun p hp => least_of hp) (fun q hq => ⟨q, hq, St.le_refl q⟩)
theorem sums_minr {A B : List St} (hA : ∀ p ∈ A, p.rightB = true) (hB : ∀ q ∈ B, q.rightB = true) : minL (sumsP A B) = minL (sumsP A (minL B)) :=
  sums_min hA hB (fun p hp => hp) (fun q hq => (mem_minL.1 hq).1) (fun p hp => ⟨p, hp, St.le_refl p⟩) (fun q hq => least_of hq)
theorem rights_min {A : List St} (h : rightsB A = true) : rightsB (minL A) = true := by
  have h1 := rights_iff.1 h
  exact rights_iff.2 ⟨fun p hp => h1.1 p (mem_minL.1 hp).1, Nat.le_trans (minL_len A) h1.2⟩
theorem each_least {A B : List St} (h : eachB A B = true) : eachB (minL A) (minL B) = true ∧ eachL A B = eachL (minL A) (minL B) := by
  have h1 := each_t h
  have h2 := sums_minmin (rights_iff.1 h1.1.1).1 (rights_iff.1 h1.1.2.1).1
  have h3 := each_yes (rights_min h1.1.1) (rights_min h1.1.2.1) (by rw [← h2]; exact h1.1.2.2)
  exact ⟨h3.1, by rw [h1.2, h3.2, h2]⟩
theorem min_nil0 : minL [] = [] := rfl
theorem sums_nil (A : List St) : sumsP A [] = [] := by unfold sumsP; induction A with
  | nil => rfl
  | cons p r ih => simp
theorem sums_zero {A : List St} (h : ∀ p ∈ A, p.rightB = true) : sumsP A [St.zero] = A := by
  unfold sumsP
  induction A with
  | nil => rfl
  | cons p r ih =>
    have hp := right_t (h p (by simp))
    have h1 : p.afterB St.zero = true := after_iff.2 (by simp only [St.zero]; omega)
    have h2 : p.after St.zero = p := by
      have := after_t h1
      simp only [St.zero] at this
      rw [St.eq_iff]; simp only [St.zero]; omega
    rw [List.flatMap_cons, ih (fun q hq => h q (by simp [hq]))]
    simp [h1, h2]
theorem each_empty {A : List St} (h : A.length ≤ 64) : eachB A [] = rightsB A ∧ eachL A [] = [] ∧ eachB [] A = rightsB A ∧ eachL [] A = [] ∧ eachB A [St.zero] = rightsB A ∧ (rightsB A = true → eachL A [St.zero] = minL A) := by
  have e0 : rightsB [] = true := rfl
  have e1 : rightsB [St.zero] = true := by decide
  have e2 : sumsP [] A = [] := rfl
  cases hr : rightsB A with
  | false =>
    have a := each_no (A := A) (B := []) (.inl hr)
    have b := each_no (A := []) (B := A) (.inr hr)
    have c := each_no (A := A) (B := [St.zero]) (.inl hr)
    exact ⟨a.1, a.2, b.1, b.2, c.1, fun h => by cases h⟩
  | true =>
    have a := each_yes hr e0 (by rw [sums_nil]; simp [min_nil0])
    have b := each_yes e0 hr (by rw [e2]; simp [min_nil0])
    have hz := sums_zero (rights_iff.1 hr).1
    have c := each_yes hr e1 (by rw [hz]; exact Nat.le_trans (minL_len A) h)
    exact ⟨a.1, by rw [a.2, sums_nil]; rfl, b.1, by rw [b.2, e2]; rfl, c.1, fun _ => by rw [c.2, hz]⟩
theorem after_comm (p q : St) : q.after p = p.after q ∧ q.afterB p = p.afterB q := by
  have hb : q.afterB p = p.afterB q := by
    rw [Bool.eq_iff_iff, after_iff, after_iff]; omega
  refine ⟨?_, hb⟩
  unfold St.after
  rw [hb, show q.add p = p.add q by unfold St.add; rw [Int.add_comm, Int.add_comm q.r]]
theorem after_assoc {p q r : St} : (p.afterB q = true ∧ (p.after q).afterB r = true) ↔ (q.afterB r = true ∧ p.afterB (q.after r) = true) := by
  constructor
  · rintro ⟨h1, h2⟩
    have a := after_t h1
    have b := after_t h2
    have c : q.afterB r = true := after_iff.2 (by omega)
    have d := after_t c
    exact ⟨c, after_iff.2 (by omega)⟩
  · rintro ⟨h1, h2⟩
    have a := after_t h1
    have b := after_t h2
    have c : p.afterB q = true := after_iff.2 (by omega)
    have d := after_t c
    exact ⟨c, after_iff.2 (by omega)⟩
theorem after_assoc_eq {p q r : St} (h1 : p.afterB q = true) (h2 : (p.after q).afterB r = true) : (p.after q).after r = p.after (q.after r) := by
  have h3 := after_assoc.1 ⟨h1, h2⟩
  have a := after_t h1
  have b := after_t h2
  have c := after_t h3.1
  have d := after_t h3.2
  rw [St.eq_iff]; omega
theorem sums_assoc {A B C : List St} (t : St) : t ∈ sumsP (sumsP A B) C ↔ t ∈ sumsP A (sumsP B C) := by
  rw [mem_sums, mem_sums]
  constructor
  · rintro ⟨x, hx, r, hr, h1, rfl⟩
    obtain ⟨p, hp, q, hq, h2, rfl⟩ := mem_sums.1 hx
    have h3 := after_assoc.1 ⟨h2, h1⟩
    exact ⟨p, hp, q.after r, mem_sums.2 ⟨q, hq, r, hr, h3.1, rfl⟩, h3.2, (after_assoc_eq h2 h1).symm⟩
  · rintro ⟨p, hp, x, hx, h1, rfl⟩
    obtain ⟨q, hq, r, hr, h2, rfl⟩ := mem_sums.1 hx
    have h3 := after_assoc.2 ⟨h2, h1⟩
    exact ⟨p.after q, mem_sums.2 ⟨p, hp, q, hq, h3.1, rfl⟩, r, hr, h3.2, after_assoc_eq h3.1 h3.2⟩
theorem each_twice {A B C : List St} (h1 : eachB A B = true) (h2 : eachB B C = true) (h3 : eachB (eachL A B) C = true) (h4 : eachB A (eachL B C) = true) : eachL (eachL A B) C = eachL A (eachL B C) := by
  have a := each_t h1
  have b := each_t h2
  have c := each_t h3
  have d := each_t h4
  rw [c.2, d.2, a.2, b.2, ← sums_minl (fun p hp => sums_right hp) (rights_iff.1 b.1.2.1).1, ← sums_minr (rights_iff.1 a.1.1).1 (fun p hp => sums_right hp)]
  exact min_mem fun t => sums_assoc t
end Go.Proofs.Ytboinbmgndomhaa
namespace Go.Proofs.Ytboinbmgndomhaa
open Go.RowKit
set_option maxRecDepth 100000
set_option linter.unusedSimpArgs false
set_option linter.unusedVariables false

structure Ed where
  f : Int
  t : Int
  p : St
deriving DecidableEq
def Ed.zero : Ed := ⟨0, 0, St.zero⟩
def encG : Enc Ed := ⟨4, fun x => [.int .i64 x.f, .int .i64 x.t, .int .i64 x.p.e, .int .i64 x.p.r], Ed.zero, fun _ => rfl, fun a v h => by
  simp only [List.mem_cons, List.not_mem_nil, or_false] at h
  rcases h with rfl | rfl | rfl | rfl <;> rfl⟩
def cG (L : List Ed) : List Value := cE encG L
def atG (L : List Ed) (i : Nat) : Ed := atE encG L i
theorem cG_at {L : List Ed} {i : Nat} (h : i < L.length) : ((cG L).drop (i * 4)).take 4 = [.int .i64 (atG L i).f, .int .i64 (atG L i).t, .int .i64 (atG L i).p.e, .int .i64 (atG L i).p.r] := cE_at (E := encG) h
theorem cG_app (L K : List Ed) : cG (L ++ K) = cG L ++ cG K := cE_app L K
theorem cG_ones (L : List Ed) : ∀ z ∈ cG L, z.oneCell' = true := cE_ones L
theorem atG_mem {L : List Ed} {i : Nat} (h : i < L.length) : atG L i ∈ L := atE_mem (E := encG) h
theorem at_of_memG {L : List Ed} {x : Ed} (h : x ∈ L) : ∃ i, i < L.length ∧ atG L i = x := at_of_memE (E := encG) h
abbrev RdG (w : World) (v : Value) (L : List Ed) : Prop := RdV w 4 v L.length (cG L)
def fitsB (n : Int) (x : Ed) : Bool := decide (0 ≤ x.f ∧ x.f < n ∧ 0 ≤ x.t ∧ x.t < n) && x.p.rightB
theorem fits_iff {n : Int} {x : Ed} : fitsB n x = true ↔ (0 ≤ x.f ∧ x.f < n ∧ 0 ≤ x.t ∧ x.t < n) ∧ x.p.rightB = true := by unfold fitsB; simp
theorem fits_no {n : Int} {x : Ed} (h : ¬ (0 ≤ x.f ∧ x.f < n ∧ 0 ≤ x.t ∧ x.t < n)) : fitsB n x = false := by rw [← Bool.not_eq_true, fits_iff]; exact fun h2 => h h2.1
theorem fits_yes {n : Int} {x : Ed} (h : 0 ≤ x.f ∧ x.f < n ∧ 0 ≤ x.t ∧ x.t < n) : fitsB n x = x.p.rightB := by rw [Bool.eq_iff_iff, fits_iff]; exact ⟨fun h2 => h2.2, fun h2 => ⟨h, h2⟩⟩
/-! ### Nodes in a row -/
def okE (T : List Bool) (k : Nat) (x : Ed) : Bool := !(decide (x.t = (k : Int)) && decide (x.p = St.zero) && !atB T x.f.toNat)
def freeB (E : List Ed) (T : List Bool) (k : Nat) : Bool := !atB T k && E.all (okE T k)
def nextO (E : List Ed) (T : List Bool) (n : Nat) : Option Nat := (List.range n).find? (freeB E T)
def stepO (E : List Ed) (n : Nat) (s : List Bool × List Int) : List Bool × List Int :=
  match nextO E s.1 n with
  | some k => (s.1.set k true, s.2 ++ [(k : Int)])
  | none => s
def roundsO (E : List Ed) (n : Nat) : Nat → List Bool × List Int
  | 0 => (List.replicate n false, [])
  | r + 1 => stepO E n (roundsO E n r)
def orderL (E : List Ed) (n : Nat) : List Int := (roundsO E n n).2
theorem rounds_zero (E : List Ed) (n : Nat) : roundsO E n (0 : Int).toNat = (List.replicate n false, []) := rfl
theorem rounds_len (E : List Ed) (n : Nat) : ∀ r, (roundsO E n r).1.length = n
  | 0 => by simp [roundsO]
  | r + 1 => by
    have ih := rounds_len E n r
    simp only [roundsO, stepO]
    split
    · simpa using ih
    · exact ih
theorem rounds_out (E : List Ed) (n : Nat) : ∀ r, (roundsO E n r).2.length ≤ r
  | 0 => by simp [roundsO]
  | r + 1 => by
    have ih := rounds_out E n r
    simp only [roundsO, stepO]
    split
    · rw [List.length_append, List.length_singleton]; omega
    · omega
theorem find_range {n k : Nat} {p : Nat → Bool} (hk : k < n) (h : p k = true) (hb : ∀ q, q < k → p q = false) : (List.range n).find? p = some k := by
  rw [List.find?_range_eq_some]
  exact ⟨h, List.mem_range.2 hk, fun j hj => by rw [hb j hj]; rfl⟩
theorem round_some {E : List Ed} {n : Nat} {r : Int} {k : Int} (h0 : 0 ≤ r) (hk0 : 0 ≤ k) (hk : k.toNat < n) (h : freeB E (roundsO E n r.toNat).1 k.toNat = true) (hb : ∀ q, q < k.toNat → freeB E (roundsO E n r.toNat).1 q = false) :
    roundsO E n (r + 1).toNat = ((roundsO E n r.toNat).1.set k.toNat true, (roundsO E n r.toNat).2 ++ [k]) := by
  rw [show (r + 1).toNat = r.toNat + 1 by omega]
  simp only [roundsO, stepO]
  rw [show nextO E (roundsO E n r.toNat).1 n = some k.toNat from find_range hk h hb]
  simp only [show ((k.toNat : Nat) : Int) = k by omega]
theorem round_none {E : List Ed} {n : Nat} {r k : Int} (h0 : 0 ≤ r) (hb : ∀ q, q < k.toNat → freeB E (roundsO E n r.toNat).1 q = false) (hk : ¬ k.toNat < n) :
    roundsO E n (r + 1).toNat = roundsO E n r.toNat := by
  rw [show (r + 1).toNat = r.toNat + 1 by omega]
  simp only [roundsO, stepO]
  have : nextO E (roundsO E n r.toNat).1 n = none := List.find?_eq_none.2 fun q hq => by
    rw [hb q (by have := List.mem_range.1 hq; omega)]; simp
  rw [this]
/-- The flag of the loop over edges. -/
def FreeI (E : List Ed) (T : List Bool) (k i : Nat) (b : Bool) : Prop := b = true ↔ atB T k = false ∧ ∀ q, q < i → okE T k (atG E q) = true
theorem free_start {E : List Ed} {T : List Bool} {k : Nat} {b : Bool} (h : atB T k = b) : FreeI E T k (0 : Int).toNat (!b) := by
  unfold FreeI; rw [h]; cases b <;> simp
theorem free_keep {E : List Ed} {T : List Bool} {k : Nat} {i : Int} {b : Bool} (h0 : 0 ≤ i) (h : FreeI E T k i.toNat b) (hx : okE T k (atG E i.toNat) = true) : FreeI E T k (i + 1).toNat b := by
  unfold FreeI at *
  rw [h]
  refine and_congr_right fun _ => ⟨fun h2 => all_succ h2 h0 hx, fun h2 q hq => h2 q (by omega)⟩
theorem free_drop {E : List Ed} {T : List Bool} {k : Nat} {i : Int} (h0 : 0 ≤ i) (hx : okE T k (atG E i.toNat) = false) : FreeI E T k (i + 1).toNat false := by
  unfold FreeI
  refine ⟨(fun h => by cases h), fun ⟨_, h⟩ => ?_⟩
  rw [h i.toNat (by omega)] at hx; cases hx
theorem free_end {E : List Ed} {T : List Bool} {k : Nat} {i : Int} {b : Bool} (h : FreeI E T k i.toNat b) (hl : i ≤ (E.length : Int)) (hi : ¬ i < (E.length : Int)) : freeB E T k = b := by
  unfold FreeI at h
  unfold freeB
  rw [Bool.eq_iff_iff, h, Bool.and_eq_true, Bool.not_eq_true', List.all_eq_true]
  refine and_congr_right fun _ => ⟨fun h2 q hq => h2 _ (atG_mem (by omega)), fun h2 x hx => ?_⟩
  obtain ⟨q, hq, rfl⟩ := at_of_memG hx
  exact h2 q (by omega)
theorem ok_f {T : List Bool} {k : Int} {x : Ed} (hk : 0 ≤ k) (h1 : x.t = k) (h2 : x.p = St.zero) (h3 : atB T x.f.toNat = false) : okE T k.toNat x = false := by
  unfold okE; simp [h2, h3]; omega
theorem ok_t {T : List Bool} {k : Int} {x : Ed} (hk : 0 ≤ k) (h : ¬ x.t = k ∨ ¬ x.p = St.zero ∨ atB T x.f.toNat = true) : okE T k.toNat x = true := by
  unfold okE
  have e : ((k.toNat : Nat) : Int) = k := by omega
  rw [e]
  rcases h with h | h | h <;> simp [h]
/-! ### Why a graph may not be -/
def badE (n : Int) (E : List Ed) : Nat → Option Nat
  | 0 => none
  | i + 1 => match badE n E i with
    | some k => some k
    | none => if fitsB n (atG E i) then none else some i
/-- The first edge that may not be. -/
def checkG (n : Int) (E : List Ed) : Int × Int :=
  if n < 1 ∨ 8 < n ∨ 16 < E.length then (4, -1) else
  match E.findIdx? (fun x => !fitsB n x) with
  | some i => (4, (i : Int))
  | none => if ((orderL E n.toNat).length : Int) < n then (5, -1) else (0, -1)
theorem check_many {n : Int} {E : List Ed} (h : n < 1 ∨ 8 < n ∨ 16 < E.length) : checkG n E = (4, -1) := if_pos h
theorem check_bad {n : Int} {E : List Ed} {i : Int} (h : ¬ (n < 1 ∨ 8 < n ∨ 16 < E.length)) (h0 : 0 ≤ i) (hi : i < (E.length : Int)) (hb : ∀ q, q < i.toNat → fitsB n (atG E q) = true) (hx : fitsB n (atG E i.toNat) = false) : checkG n E = (4, i) := by
  unfold checkG
  rw [if_neg h]
  have : E.findIdx? (fun x => !fitsB n x) = some i.toNat := by
    rw [List.findIdx?_eq_some_iff_getElem]
    refine ⟨by omega, by rw [← show atG E i.toNat = E[i.toNat] from atE_eq (by omega), hx]; rfl, fun j hj => ?_⟩
    rw [← show atG E j = E[j] from atE_eq (by omega), hb j hj]; simp
  rw [this]
  simp only
  rw [show ((i.toNat : Nat) : Int) = i by omega]
theorem check_fit {n : Int} {E : List Ed} {i : Int} (h : ¬ (n < 1 ∨ 8 < n ∨ 16 < E.length)) (hb : ∀ q, q < i.toNat → fitsB n (atG E q) = true) (hi : ¬ i < (E.length : Int)) : (∀ x ∈ E, fitsB n x = true) ∧ checkG n E = if ((orderL E n.toNat).length : Int) < n then (5, -1) else (0, -1) := by
  have hall : ∀ x ∈ E, fitsB n x = true := fun x hx => by
    obtain ⟨q, hq, rfl⟩ := at_of_memG hx
    exact hb q (by omega)
  refine ⟨hall, ?_⟩
  unfold checkG
  rw [if_neg h]
  have : E.findIdx? (fun x => !fitsB n x) = none := by
    rw [List.findIdx?_eq_none_iff]
    intro x hx; rw [hall x hx]; rfl
  rw [this]
end Go.Proofs.Ytboinbmgndomhaa
namespace Go.Proofs.Ytboinbmgndomhaa
open Go.RowKit
set_option maxRecDepth 100000
set_option linter.unusedSimpArgs false
set_option linter.unusedVariables false

def fpN (v : Value) (n : Nat) : List Nat := if n = 0 then [] else [gof v]
theorem mem_fpN {v : Value} {n g : Nat} : g ∈ fpN v n ↔ 0 < n ∧ g = gof v := by
  unfold fpN
  split
  · constructor
    · intro h; cases h
    · intro h; omega
  · rw [List.mem_singleton]
    exact ⟨fun h => ⟨by omega, h⟩, fun h => h.2⟩
theorem RdV.keep {w w' : World} {m n : Nat} {v : Value} {xs : List Value} (h : RdV w m v n xs) (hk : ∀ g ∈ fpN v n, w'.heap[g]? = w.heap[g]?) : RdV w' m v n xs ∧ ∀ g ∈ fpN v n, g < w.heap.size := by
  obtain ⟨h1, A, c, h2, h3, h4, h5⟩ := h
  refine ⟨⟨h1, A, c, h2, h3, h4, fun hn => ?_⟩, fun g hg => ?_⟩
  · obtain ⟨g, off, e, h6, h7⟩ := h5 hn
    have hg : gof v = g := by rw [h2, e]; rfl
    have hb := hk g (mem_fpN.2 ⟨hn, hg.symm⟩)
    refine ⟨g, off, e, ?_, fun j u hu => ?_⟩
    · rcases Nat.lt_or_ge g w'.heap.size with hl | hl
      · exact hl
      · rw [Array.getElem?_eq_none hl, Array.getElem?_eq_getElem h6] at hb; cases hb
    · have := h7 j u hu
      unfold World.cell? at this ⊢
      simp only at this ⊢
      rw [hb]; exact this
  · obtain ⟨hn, rfl⟩ := mem_fpN.1 hg
    obtain ⟨g, off, e, h6, h7⟩ := h5 hn
    rw [h2, e]; exact h6
def atW (L : List (List Value)) (i : Nat) : List Value := L.getD i []
def at3 (L : List (List (List St))) (i : Nat) : List (List St) := L.getD i []
theorem at3_eq {L : List (List (List St))} {i : Nat} (h : i < L.length) : at3 L i = L[i] := by unfold at3; rw [List.getD_eq_getElem?_getD, List.getElem?_eq_getElem h]; rfl
theorem atR_ext {A B : List (List St)} (hl : A.length = B.length) (h : ∀ j, j < A.length → atR A j = atR B j) : A = B := by
  apply List.ext_getElem hl
  intro j h1 h2
  have := h j h1
  unfold atR at this
  rwa [List.getD_eq_getElem?_getD, List.getD_eq_getElem?_getD, List.getElem?_eq_getElem h1, List.getElem?_eq_getElem h2] at this
theorem at3_ext {A B : List (List (List St))} (hl : A.length = B.length) (h : ∀ j, j < A.length → at3 A j = at3 B j) : A = B := by
  apply List.ext_getElem hl
  intro j h1 h2
  have := h j h1
  rwa [at3_eq h1, at3_eq h2] at this
/-- How large rows of rows of rows may be. -/
def Sm3 (L : List (List (List St))) : Prop := L.length ≤ 1000 ∧ (∀ i, (at3 L i).length ≤ 1000) ∧ ∀ i j, (atR (at3 L i) j).length ≤ 20000000
structure In3 (rs : List Value) (vss : List (List Value)) (L : List (List (List St))) (w : World) : Prop where
  lr : rs.length = L.length
  ls : vss.length = L.length
  lv : ∀ i, i < L.length → (atW vss i).length = (at3 L i).length
  row : ∀ i, i < L.length → RdV w 1 (atV rs i) (at3 L i).length (cV (atW vss i))
  one : ∀ i j, i < L.length → j < (at3 L i).length → RdS w (atV (atW vss i) j) (atR (at3 L i) j)
def fpI (rs : List Value) (vss : List (List Value)) (L : List (List (List St))) : List Nat :=
  (List.range L.length).flatMap fun i => fpN (atV rs i) (at3 L i).length ++ (List.range (at3 L i).length).flatMap fun j => fpN (atV (atW vss i) j) (atR (at3 L i) j).length
theorem mem_fpI {rs : List Value} {vss : List (List Value)} {L : List (List (List St))} {g : Nat} : g ∈ fpI rs vss L ↔ ∃ i, i < L.length ∧ (g ∈ fpN (atV rs i) (at3 L i).length ∨ ∃ j, j < (at3 L i).length ∧ g ∈ fpN (atV (atW vss i) j) (atR (at3 L i) j).length) := by
  unfold fpI
  simp only [List.mem_flatMap, List.mem_range, List.mem_append]
theorem In3.loc (rs : List Value) (vss : List (List Value)) (L : List (List (List St))) : Loc (fpI rs vss L) (In3 rs vss L) := fun w w' hk h => by
  refine ⟨⟨h.lr, h.ls, h.lv, fun i hi => ?_, fun i j hi hj => ?_⟩, fun g hg => ?_⟩
  · exact ((h.row i hi).keep fun g hg => hk g (mem_fpI.2 ⟨i, hi, .inl hg⟩)).1
  · exact (RdV.keep (h.one i j hi hj) fun g hg => hk g (mem_fpI.2 ⟨i, hi, .inr ⟨j, hj, hg⟩⟩)).1
  · obtain ⟨i, hi, h1 | ⟨j, hj, h1⟩⟩ := mem_fpI.1 hg
    · exact ((h.row i hi).keep (w' := w) fun _ _ => rfl).2 g h1
    · exact (RdV.keep (w' := w) (h.one i j hi hj) fun _ _ => rfl).2 g h1
structure Rd3 (v : Value) (rs : List Value) (vss : List (List Value)) (L : List (List (List St))) (w : World) : Prop where
  top : RdV w 1 v L.length (cV rs)
  inn : In3 rs vss L w
def fp3 (v : Value) (rs : List Value) (vss : List (List Value)) (L : List (List (List St))) : List Nat := fpN v L.length ++ fpI rs vss L
theorem Rd3.loc (v : Value) (rs : List Value) (vss : List (List Value)) (L : List (List (List St))) : Loc (fp3 v rs vss L) (Rd3 v rs vss L) := fun w w' hk h => by
  have h1 := h.top.keep (w' := w') fun g hg => hk g (List.mem_append.2 (.inl hg))
  have h2 := In3.loc rs vss L w w' (fun g hg => hk g (List.mem_append.2 (.inr hg))) h.inn
  refine ⟨⟨h1.1, h2.1⟩, fun g hg => ?_⟩
  rcases List.mem_append.1 hg with h3 | h3
  · exact h1.2 g h3
  · exact h2.2 g h3
theorem in3_nil (w : World) : In3 [] [] [] w := ⟨rfl, rfl, fun i h => absurd h (Nat.not_lt_zero i), fun i h => absurd h (Nat.not_lt_zero i), fun i _ h => absurd h (Nat.not_lt_zero i)⟩
theorem rd3_nil (w : World) : Rd3 nilV [] [] [] w := ⟨nil_rd w, in3_nil w⟩
theorem atV_app {L K : List Value} {i : Nat} (h : i < L.length) : atV (L ++ K) i = atV L i := by
  unfold atV; rw [List.getD_eq_getElem?_getD, List.getD_eq_getElem?_getD, List.getElem?_append_left h]
theorem atW_app {L K : List (List Value)} {i : Nat} (h : i < L.length) : atW (L ++ K) i = atW L i := by
  unfold atW; rw [List.getD_eq_getElem?_getD, List.getD_eq_getElem?_getD, List.getElem?_append_left h]
theorem at3_app {L K : List (List (List St))} {i : Nat} (h : i < L.length) : at3 (L ++ K) i = at3 L i := by
  unfold at3; rw [List.getD_eq_getElem?_getD, List.getD_eq_getElem?_getD, List.getElem?_append_left h]
theorem atV_last {L : List Value} {x : Value} {i : Nat} (h : i = L.length) : atV (L ++ [x]) i = x := by
  subst h; unfold atV; rw [List.getD_eq_getElem?_getD, List.getElem?_append_right (Nat.le_refl _)]; simp
theorem atW_last {L : List (List Value)} {x : List Value} {i : Nat} (h : i = L.length) : atW (L ++ [x]) i = x := by
  subst h; unfold atW; rw [List.getD_eq_getElem?_getD, List.getElem?_append_right (Nat.le_refl _)]; simp
theorem at3_last {L : List (List (List St))} {x : List (List St)} {i : Nat} (h : i = L.length) : at3 (L ++ [x]) i = x := by
  subst h; unfold at3; rw [List.getD_eq_getElem?_getD, List.getElem?_append_right (Nat.le_refl _)]; simp
section
variable {w : World} {rs vs : List Value} {vss : List (List Value)} {L : List (List (List St))} {K : List (List St)} {v : Value}
theorem in3_push (h : In3 rs vss L w) (hv : RdV w 1 v K.length (cV vs)) (hl : vs.length = K.length) (ho : ∀ j, j < K.length → RdS w (atV vs j) (atR K j)) : In3 (rs ++ [v]) (vss ++ [vs]) (L ++ [K]) w := by
  have hr := h.lr
  have hs := h.ls
  refine ⟨by simp [hr], by simp [hs], fun i hi => ?_, fun i hi => ?_, fun i j hi hj => ?_⟩
  · simp only [List.length_append, List.length_singleton] at hi
    rcases Nat.lt_or_ge i L.length with h1 | h1
    · rw [atW_app (by omega), at3_app h1]; exact h.lv i h1
    · rw [atW_last (by omega), at3_last (by omega)]; exact hl
  · simp only [List.length_append, List.length_singleton] at hi
    rcases Nat.lt_or_ge i L.length with h1 | h1
    · rw [atV_app (by omega), atW_app (by omega), at3_app h1]; exact h.row i h1
    · rw [atV_last (by omega), atW_last (by omega), at3_last (by omega)]; exact hv
  · simp only [List.length_append, List.length_singleton] at hi
    rcases Nat.lt_or_ge i L.length with h1 | h1
    · rw [at3_app h1] at hj ⊢
      rw [atW_app (by omega)]; exact h.one i j h1 hj
    · rw [at3_last (by omega)] at hj ⊢
      rw [atW_last (by omega)]; exact ho j hj
theorem fp_push (hr : rs.length = L.length) (hs : vss.length = L.length) {g : Nat} (hg : g ∈ fpI (rs ++ [v]) (vss ++ [vs]) (L ++ [K])) : g ∈ fpI rs vss L ∨ g ∈ fpN v K.length ∨ ∃ j, j < K.length ∧ g ∈ fpN (atV vs j) (atR K j).length := by
  obtain ⟨i, hi, h⟩ := mem_fpI.1 hg
  simp only [List.length_append, List.length_singleton] at hi
  rcases Nat.lt_or_ge i L.length with h1 | h1
  · rw [atV_app (by omega), atW_app (by omega), at3_app h1] at h
    exact .inl (mem_fpI.2 ⟨i, h1, h⟩)
  · rw [atV_last (by omega), atW_last (by omega), at3_last (by omega)] at h
    exact .inr h
theorem own_fpN {t : TypeId} {b m n : Nat} {xs : List Value} (h : w.ownsRow b t m v n xs) {g : Nat} (hg : g ∈ fpN v n) : v.ownBlock = some g := by
  obtain ⟨hn, rfl⟩ := mem_fpN.1 hg
  rcases h.2 with h4 | ⟨g', cap, cur, h4, _⟩
  · omega
  · rw [h4]; rfl
/-- A block of rows of the call's own goes into the rows of rows. -/
theorem Mm.push3 {R : List Nat} {w0 : World} {B : List Ent} {g t : Nat} {ty : TypeId} {n : Nat} (M : Mm R w0 w (.own (fpI rs vss L) (In3 rs vss L) :: .blk g t (List.toArray (cV vs)) :: .own (fpR vs) (RowsV ty vs K) :: B)) (hn : vs.length = n) (hb : n ≤ 1000000000) :
    Mm R w0 w (.own (fpI (rs ++ [.slice (some ⟨g, 0, none⟩) n n]) (vss ++ [vs]) (L ++ [K])) (In3 (rs ++ [.slice (some ⟨g, 0, none⟩) n n]) (vss ++ [vs]) (L ++ [K])) :: B) := by
  have h1 : In3 rs vss L w := M.pv (i := 0) rfl
  have h2 : Blk w g t (List.toArray (cV vs)) := M.at (i := 1) rfl
  have h3 : RowsV ty vs K w := M.pv (i := 2) rfl
  have hl := h3.len
  have hv : RdV w 1 (.slice (some ⟨g, 0, none⟩) n n) n (cV vs) := by
    have := blk_rdv (m := 1) h2 (by simp [cV, hn]) hb
    simpa using this
  have hp : In3 (rs ++ [.slice (some ⟨g, 0, none⟩) n n]) (vss ++ [vs]) (L ++ [K]) w := in3_push h1 (by rw [← hl, hn]; exact hv) hl (fun j hj => h3.rd (by omega))
  have hfp : ∀ q ∈ fpI (rs ++ [.slice (some ⟨g, 0, none⟩) n n]) (vss ++ [vs]) (L ++ [K]), q ∈ fpI rs vss L ∨ q = g ∨ q ∈ fpR vs := fun q hq => by
    rcases fp_push h1.lr h1.ls hq with h | h | ⟨j, hj, h⟩
    · exact .inl h
    · exact .inr (.inl (mem_fpN.1 h).2)
    · exact .inr (.inr (mem_fpR.2 ⟨j, by omega, own_fpN (h3.row j (by omega)) h⟩))
  have hnd := List.pairwise_cons.1 M.nd
  have hnd2 := List.pairwise_cons.1 hnd.2
  have hnd3 := List.pairwise_cons.1 hnd2.2
  refine ⟨M.out, fun y hy => ?_, fun y hy q hq => ?_, fun y hy q hq => ?_, List.pairwise_cons.2 ⟨fun y hy q hq hqy => ?_, hnd3.2⟩⟩
  · rcases List.mem_cons.1 hy with rfl | h
    · exact ⟨hp, In3.loc _ _ _⟩
    · exact M.has y (by simp [h])
  · rcases List.mem_cons.1 hy with rfl | h
    · rcases hfp q hq with h | h | h
      · exact M.own _ (by simp) q (show q ∈ (Ent.own (fpI rs vss L) (In3 rs vss L)).fp from h)
      · exact M.own (.blk g t (List.toArray (cV vs))) (by simp) q (by simp [Ent.fp, h])
      · exact M.own (.own (fpR vs) (RowsV ty vs K)) (by simp) q h
    · exact M.own y (by simp [h]) q hq
  · rcases List.mem_cons.1 hy with rfl | h
    · cases hq
    · exact M.far y (by simp [h]) q hq
  · rcases hfp q hq with h | h | h
    · exact hnd.1 y (by simp [hy]) q h hqy
    · exact hnd2.1 y (by simp [hy]) q (by simp [Ent.fp, h]) hqy
    · exact hnd3.1 y hy q h hqy
theorem Mm.push3o {R : List Nat} {w0 : World} {B : List Ent} {c : Ent} {g t : Nat} {ty : TypeId} {n : Nat} (M : Mm R w0 w (.own (fpR vs) (RowsV ty vs K) :: .blk g t (List.toArray (cV vs)) :: c :: .own (fpI rs vss L) (In3 rs vss L) :: B)) (hn : vs.length = n) (hb : n ≤ 1000000000) :
    Mm R w0 w (c :: .own (fpI (rs ++ [.slice (some ⟨g, 0, none⟩) n n]) (vss ++ [vs]) (L ++ [K])) (In3 (rs ++ [.slice (some ⟨g, 0, none⟩) n n]) (vss ++ [vs]) (L ++ [K])) :: B) := by
  have h1 := M.perm ((List.Perm.cons _ (List.Perm.cons _ (List.Perm.swap _ _ _))).trans ((List.Perm.cons _ (List.Perm.swap _ _ _)).trans ((List.Perm.swap _ _ _).trans (List.Perm.cons _ (List.Perm.swap _ _ _)))))
  exact (h1.push3 hn hb).perm (List.Perm.swap _ _ _)
theorem Mm.nil3 {R : List Nat} {w0 : World} {B : List Ent} (M : Mm R w0 w B) : Mm R w0 w (.own (fpI [] [] []) (In3 [] [] []) :: B) :=
  M.addOwn (Below.refl _ _) (in3_nil w) (In3.loc _ _ _) (fun g hg => by cases hg)
/-- The whole: its top and what lies in it. -/
theorem rd3_of {R : List Nat} {w0 : World} {B : List Ent} {t : TypeId} (M : Mm R w0 w B) {i k : Nat} (hi : B[i]? = some (.row t 1 v rs.length (cV rs))) (hk : B[k]? = some (.own (fpI rs vss L) (In3 rs vss L))) : Rd3 v rs vss L w ∧ ∀ g ∈ fp3 v rs vss L, w0.heap.size ≤ g ∨ g ∈ R := by
  have h1 : In3 rs vss L w := M.pv hk
  have h2 := M.ow hi
  refine ⟨⟨by rw [← h1.lr]; exact own_rdv h2, h1⟩, fun g hg => ?_⟩
  rcases List.mem_append.1 hg with h | h
  · rw [← h1.lr] at h
    exact M.own _ (List.mem_of_getElem? hi) g (by simp [Ent.fp, own_fpN h2 h])
  · exact M.own _ (List.mem_of_getElem? hk) g h
end
end Go.Proofs.Ytboinbmgndomhaa
namespace Go.Proofs.Ytboinbmgndomhaa
open Go.RowKit
set_option maxRecDepth 100000
set_option linter.unusedSimpArgs false
set_option linter.unusedVariables false

theorem mixedOK : Try.prog.follows .mixedOrders = true := by kernel_rfl
theorem agg24 : AggTy Try.prog 24 2 := ⟨_, Try.underlying24, rfl, by kernel_rfl⟩
theorem agg32 : AggTy Try.prog 32 2 := ⟨_, Try.underlying32, rfl, by kernel_rfl⟩
theorem agg34 : AggTy Try.prog 34 3 := ⟨_, Try.underlying34, rfl, by kernel_rfl⟩
theorem agg49 : AggTy Try.prog 49 2 := ⟨_, Try.underlying49, rfl, by kernel_rfl⟩
theorem agg51 : AggTy Try.prog 51 4 := ⟨_, Try.underlying51, rfl, by kernel_rfl⟩
theorem agg61 : AggTy Try.prog 61 8 := ⟨_, Try.underlying61, rfl, by kernel_rfl⟩
theorem agg73 : AggTy Try.prog 73 3 := ⟨_, Try.underlying73, rfl, by kernel_rfl⟩
theorem agg100 : AggTy Try.prog 100 8 := ⟨_, Try.underlying100, rfl, by kernel_rfl⟩
theorem agg124 : AggTy Try.prog 124 2 := ⟨_, Try.underlying124, rfl, by kernel_rfl⟩
theorem one3 : OneTy Try.prog 3 := ⟨_, Try.underlying3, rfl⟩
theorem one22 : OneTy Try.prog 22 := ⟨_, Try.underlying22, rfl⟩
theorem one39 : OneTy Try.prog 39 := ⟨_, Try.underlying39, rfl⟩
theorem one56 : OneTy Try.prog 56 := ⟨_, Try.underlying56, rfl⟩
theorem one59 : OneTy Try.prog 59 := ⟨_, Try.underlying59, rfl⟩
theorem one63 : OneTy Try.prog 63 := ⟨_, Try.underlying63, rfl⟩
theorem one78 : OneTy Try.prog 78 := ⟨_, Try.underlying78, rfl⟩
theorem one85 : OneTy Try.prog 85 := ⟨_, Try.underlying85, rfl⟩
theorem one93 : OneTy Try.prog 93 := ⟨_, Try.underlying93, rfl⟩
theorem one103 : OneTy Try.prog 103 := ⟨_, Try.underlying103, rfl⟩
theorem one117 : OneTy Try.prog 117 := ⟨_, Try.underlying117, rfl⟩
theorem one144 : OneTy Try.prog 144 := ⟨_, Try.underlying144, rfl⟩
theorem si3 : (Try.prog.info? 3).map (·.size) = some 1 := by kernel_rfl
theorem si39 : (Try.prog.info? 39).map (·.size) = some 1 := by kernel_rfl
theorem si59 : (Try.prog.info? 59).map (·.size) = some 1 := by kernel_rfl
theorem si63 : (Try.prog.info? 63).map (·.size) = some 1 := by kernel_rfl
theorem si78 : (Try.prog.info? 78).map (·.size) = some 1 := by kernel_rfl
theorem si93 : (Try.prog.info? 93).map (·.size) = some 1 := by kernel_rfl
theorem si144 : (Try.prog.info? 144).map (·.size) = some 1 := by kernel_rfl
theorem fo24_0 : fieldOff Try.prog 24 0 = some 0 := by kernel_rfl
theorem fo24_1 : fieldOff Try.prog 24 1 = some 1 := by kernel_rfl
theorem fo32_0 : fieldOff Try.prog 32 0 = some 0 := by kernel_rfl
theorem fo32_1 : fieldOff Try.prog 32 1 = some 1 := by kernel_rfl
theorem fo34_0 : fieldOff Try.prog 34 0 = some 0 := by kernel_rfl
theorem fo34_1 : fieldOff Try.prog 34 1 = some 1 := by kernel_rfl
theorem fo36_0 : fieldOff Try.prog 36 0 = some 0 := by kernel_rfl
theorem fo36_1 : fieldOff Try.prog 36 1 = some 3 := by kernel_rfl
theorem fo49_0 : fieldOff Try.prog 49 0 = some 0 := by kernel_rfl
theorem fo49_1 : fieldOff Try.prog 49 1 = some 1 := by kernel_rfl
theorem fo51_0 : fieldOff Try.prog 51 0 = some 0 := by kernel_rfl
theorem fo51_1 : fieldOff Try.prog 51 1 = some 1 := by kernel_rfl
theorem fo51_2 : fieldOff Try.prog 51 2 = some 2 := by kernel_rfl
theorem fo65_0 : fieldOff Try.prog 65 0 = some 0 := by kernel_rfl
theorem fo65_1 : fieldOff Try.prog 65 1 = some 1 := by kernel_rfl
theorem fo65_2 : fieldOff Try.prog 65 2 = some 9 := by kernel_rfl
theorem fo65_3 : fieldOff Try.prog 65 3 = some 17 := by kernel_rfl
theorem fo87_0 : fieldOff Try.prog 87 0 = some 0 := by kernel_rfl
theorem fo124_0 : fieldOff Try.prog 124 0 = some 0 := by kernel_rfl
theorem fo124_1 : fieldOff Try.prog 124 1 = some 1 := by kernel_rfl
theorem z3 : (Try.prog.info? 3).map (fun i => i.zero.map (·.cells)) = some (some #[.int .i64 0]) := by kernel_rfl
theorem z24 : (Try.prog.info? 24).map (fun i => i.zero.map (·.cells)) = some (some #[.int .i64 0, (.slice none 0 0)]) := by kernel_rfl
theorem z32 : (Try.prog.info? 32).map (fun i => i.zero.map (·.cells)) = some (some #[.int .i64 0, .int .i64 0]) := by kernel_rfl
theorem z34 : (Try.prog.info? 34).map (fun i => i.zero.map (·.cells)) = some (some #[.int .i64 0, .int .i64 0, .int .i64 0]) := by kernel_rfl
theorem z39 : (Try.prog.info? 39).map (fun i => i.zero.map (·.cells)) = some (some #[(.slice none 0 0)]) := by kernel_rfl
theorem z49 : (Try.prog.info? 49).map (fun i => i.zero.map (·.cells)) = some (some #[.int .i64 0, .int .i64 0]) := by kernel_rfl
theorem z51 : (Try.prog.info? 51).map (fun i => i.zero.map (·.cells)) = some (some #[.int .i64 0, .int .i64 0, .int .i64 0, .int .i64 0]) := by kernel_rfl
theorem z61 : (Try.prog.info? 61).map (fun i => i.zero.map (·.cells)) = some (some #[.pointer none, .pointer none, .pointer none, .pointer none, .pointer none, .pointer none, .pointer none, .pointer none]) := by kernel_rfl
theorem z100 : (Try.prog.info? 100).map (fun i => i.zero.map (·.cells)) = some (some #[.int .i64 0, .int .i64 0, .int .i64 0, .int .i64 0, .int .i64 0, .int .i64 0, .int .i64 0, .int .i64 0]) := by kernel_rfl
theorem z144 : (Try.prog.info? 144).map (fun i => i.zero.map (·.cells)) = some (some #[.int .u64 0]) := by kernel_rfl
theorem mk78 : (Try.prog.info? 78).map (fun i => (i.zero, i.size, i.bytes)) = some (some ((.slice none 0 0)), 1, 24) := by kernel_rfl
theorem mk93 : (Try.prog.info? 93).map (fun i => (i.zero, i.size, i.bytes)) = some (some ((.slice none 0 0)), 1, 24) := by kernel_rfl
theorem eqg32 : Try.prog.eqGuardType Try.prog.depth 32 = false := by kernel_rfl
theorem eqg49 : Try.prog.eqGuardType Try.prog.depth 49 = false := by kernel_rfl
theorem eqg73 : Try.prog.eqGuardType Try.prog.depth 73 = false := by kernel_rfl
theorem eqg100 : Try.prog.eqGuardType Try.prog.depth 100 = false := by kernel_rfl
theorem en6 : enters Try.prog 6 = true := by kernel_rfl
theorem en7 : enters Try.prog 7 = true := by kernel_rfl
theorem en8 : enters Try.prog 8 = true := by kernel_rfl
theorem en9 : enters Try.prog 9 = true := by kernel_rfl
theorem en10 : enters Try.prog 10 = true := by kernel_rfl
theorem en11 : enters Try.prog 11 = true := by kernel_rfl
theorem en12 : enters Try.prog 12 = true := by kernel_rfl
theorem en13 : enters Try.prog 13 = true := by kernel_rfl
theorem en14 : enters Try.prog 14 = true := by kernel_rfl
theorem en15 : enters Try.prog 15 = true := by kernel_rfl
theorem en16 : enters Try.prog 16 = true := by kernel_rfl
theorem en17 : enters Try.prog 17 = true := by kernel_rfl
theorem en18 : enters Try.prog 18 = true := by kernel_rfl
theorem en19 : enters Try.prog 19 = true := by kernel_rfl
theorem en20 : enters Try.prog 20 = true := by kernel_rfl
theorem en21 : enters Try.prog 21 = true := by kernel_rfl
theorem en22 : enters Try.prog 22 = true := by kernel_rfl
theorem en23 : enters Try.prog 23 = true := by kernel_rfl
theorem en24 : enters Try.prog 24 = true := by kernel_rfl
theorem en25 : enters Try.prog 25 = true := by kernel_rfl
theorem en26 : enters Try.prog 26 = true := by kernel_rfl
theorem en27 : enters Try.prog 27 = true := by kernel_rfl
theorem en28 : enters Try.prog 28 = true := by kernel_rfl
theorem en29 : enters Try.prog 29 = true := by kernel_rfl
theorem en30 : enters Try.prog 30 = true := by kernel_rfl
theorem en31 : enters Try.prog 31 = true := by kernel_rfl
theorem en32 : enters Try.prog 32 = true := by kernel_rfl
theorem en33 : enters Try.prog 33 = true := by kernel_rfl
theorem en34 : enters Try.prog 34 = true := by kernel_rfl
theorem en35 : enters Try.prog 35 = true := by kernel_rfl
theorem en36 : enters Try.prog 36 = true := by kernel_rfl
theorem en37 : enters Try.prog 37 = true := by kernel_rfl
theorem en38 : enters Try.prog 38 = true := by kernel_rfl
theorem en39 : enters Try.prog 39 = true := by kernel_rfl
theorem en40 : enters Try.prog 40 = true := by kernel_rfl
theorem en41 : enters Try.prog 41 = true := by kernel_rfl
theorem en42 : enters Try.prog 42 = true := by kernel_rfl
theorem en43 : enters Try.prog 43 = true := by kernel_rfl
theorem en44 : enters Try.prog 44 = true := by kernel_rfl
theorem en45 : enters Try.prog 45 = true := by kernel_rfl
theorem en46 : enters Try.prog 46 = true := by kernel_rfl
theorem en47 : enters Try.prog 47 = true := by kernel_rfl
theorem en49 : enters Try.prog 49 = true := by kernel_rfl
theorem en50 : enters Try.prog 50 = true := by kernel_rfl
theorem en51 : enters Try.prog 51 = true := by kernel_rfl
theorem en52 : enters Try.prog 52 = true := by kernel_rfl
theorem en53 : enters Try.prog 53 = true := by kernel_rfl
theorem en54 : enters Try.prog 54 = true := by kernel_rfl
theorem en55 : enters Try.prog 55 = true := by kernel_rfl
theorem en56 : enters Try.prog 56 = true := by kernel_rfl
theorem en57 : enters Try.prog 57 = true := by kernel_rfl
theorem en58 : enters Try.prog 58 = true := by kernel_rfl
theorem en59 : enters Try.prog 59 = true := by kernel_rfl
theorem en60 : enters Try.prog 60 = true := by kernel_rfl
theorem en61 : enters Try.prog 61 = true := by kernel_rfl
theorem en62 : enters Try.prog 62 = true := by kernel_rfl
theorem en66 : enters Try.prog 66 = true := by kernel_rfl
theorem en67 : enters Try.prog 67 = true := by kernel_rfl
theorem en68 : enters Try.prog 68 = true := by kernel_rfl
theorem en69 : enters Try.prog 69 = true := by kernel_rfl
theorem en70 : enters Try.prog 70 = true := by kernel_rfl
theorem en82 : enters Try.prog 82 = true := by kernel_rfl
theorem en83 : enters Try.prog 83 = true := by kernel_rfl
theorem en84 : enters Try.prog 84 = true := by kernel_rfl
theorem en85 : enters Try.prog 85 = true := by kernel_rfl
theorem en86 : enters Try.prog 86 = true := by kernel_rfl
theorem en87 : enters Try.prog 87 = true := by kernel_rfl
theorem en88 : enters Try.prog 88 = true := by kernel_rfl
theorem en89 : enters Try.prog 89 = true := by kernel_rfl
theorem en90 : enters Try.prog 90 = true := by kernel_rfl
theorem en91 : enters Try.prog 91 = true := by kernel_rfl
theorem en92 : enters Try.prog 92 = true := by kernel_rfl
theorem en93 : enters Try.prog 93 = true := by kernel_rfl
theorem en94 : enters Try.prog 94 = true := by kernel_rfl
theorem en95 : enters Try.prog 95 = true := by kernel_rfl
theorem sl22 : SlTy Try.prog 22 51 4 := ⟨Try.underlying22, by kernel_rfl⟩
theorem el51 : ElTy Try.prog 51 4 32 := ⟨by omega, .agg #[.int .i64 0, .int .i64 0, .int .i64 0, .int .i64 0], rfl, by kernel_rfl⟩
theorem sl25 : SlTy Try.prog 25 36 4 := ⟨Try.underlying25, by kernel_rfl⟩
theorem el36 : ElTy Try.prog 36 4 32 := ⟨by omega, .agg #[.int .i64 0, .int .i64 0, .int .i64 0, .int .i64 0], rfl, by kernel_rfl⟩
theorem sl39 : SlTy Try.prog 39 32 2 := ⟨Try.underlying39, by kernel_rfl⟩
theorem el32 : ElTy Try.prog 32 2 16 := ⟨by omega, .agg #[.int .i64 0, .int .i64 0], rfl, by kernel_rfl⟩
theorem sl42 : SlTy Try.prog 42 73 3 := ⟨Try.underlying42, by kernel_rfl⟩
theorem el73 : ElTy Try.prog 73 3 24 := ⟨by omega, .agg #[.int .i64 0, .int .i64 0, .int .i64 0], rfl, by kernel_rfl⟩
theorem sl47 : SlTy Try.prog 47 3 1 := ⟨Try.underlying47, by kernel_rfl⟩
theorem el3 : ElTy Try.prog 3 1 8 := ⟨by omega, .int .i64 0, rfl, by kernel_rfl⟩
theorem sl56 : SlTy Try.prog 56 78 1 := ⟨Try.underlying56, by kernel_rfl⟩
theorem el78 : ElTy Try.prog 78 1 24 := ⟨by omega, (.slice none 0 0), rfl, by kernel_rfl⟩
theorem sl78 : SlTy Try.prog 78 93 1 := ⟨Try.underlying78, by kernel_rfl⟩
theorem el93 : ElTy Try.prog 93 1 24 := ⟨by omega, (.slice none 0 0), rfl, by kernel_rfl⟩
theorem sl93 : SlTy Try.prog 93 49 2 := ⟨Try.underlying93, by kernel_rfl⟩
theorem el49 : ElTy Try.prog 49 2 16 := ⟨by omega, .agg #[.int .i64 0, .int .i64 0], rfl, by kernel_rfl⟩
theorem sl107 : SlTy Try.prog 107 49 2 := ⟨Try.underlying107, by kernel_rfl⟩
theorem sl127 : SlTy Try.prog 127 32 2 := ⟨Try.underlying127, by kernel_rfl⟩
section
variable {o : Oper} {a : Act}
theorem bu24_0_1 {x0 : Operand} {i0 : Int} {x1 : Operand} {i1 : Value} (ho : o.op = .build 24 #[(0, x0), (1, x1)]) (h0 : a.eval x0 = .int .i64 i0) (h1 : a.eval x1 = i1) (c1 : i1.cells = #[i1]) : Pure Try.prog o a (.agg #[.int .i64 i0, i1]) := fun w => by
  simp only [Value.cells] at c1
  simp only [execOp, ho, List.map_toArray, List.map, h0, h1]
  simp [go_sem, c1]
theorem bu32_ (ho : o.op = .build 32 #[]) : Pure Try.prog o a (.agg #[.int .i64 0, .int .i64 0]) := fun w => by
  simp only [execOp, ho, List.map_toArray, List.map]
  simp [go_sem]
theorem bu32_0 {x0 : Operand} {i0 : Int} (ho : o.op = .build 32 #[(0, x0)]) (h0 : a.eval x0 = .int .i64 i0) : Pure Try.prog o a (.agg #[.int .i64 i0, .int .i64 0]) := fun w => by
  simp only [execOp, ho, List.map_toArray, List.map, h0]
  simp [go_sem]
theorem bu32_0_1 {x0 : Operand} {i0 : Int} {x1 : Operand} {i1 : Int} (ho : o.op = .build 32 #[(0, x0), (1, x1)]) (h0 : a.eval x0 = .int .i64 i0) (h1 : a.eval x1 = .int .i64 i1) : Pure Try.prog o a (.agg #[.int .i64 i0, .int .i64 i1]) := fun w => by
  simp only [execOp, ho, List.map_toArray, List.map, h0, h1]
  simp [go_sem]
theorem bu32_1 {x0 : Operand} {i0 : Int} (ho : o.op = .build 32 #[(1, x0)]) (h0 : a.eval x0 = .int .i64 i0) : Pure Try.prog o a (.agg #[.int .i64 0, .int .i64 i0]) := fun w => by
  simp only [execOp, ho, List.map_toArray, List.map, h0]
  simp [go_sem]
theorem bu34_ (ho : o.op = .build 34 #[]) : Pure Try.prog o a (.agg #[.int .i64 0, .int .i64 0, .int .i64 0]) := fun w => by
  simp only [execOp, ho, List.map_toArray, List.map]
  simp [go_sem]
theorem bu34_0 {x0 : Operand} {i0 : Int} (ho : o.op = .build 34 #[(0, x0)]) (h0 : a.eval x0 = .int .i64 i0) : Pure Try.prog o a (.agg #[.int .i64 i0, .int .i64 0, .int .i64 0]) := fun w => by
  simp only [execOp, ho, List.map_toArray, List.map, h0]
  simp [go_sem]
theorem bu34_0_1 {x0 : Operand} {i0 : Int} {x1 : Operand} {i1_0 : Int} {i1_1 : Int} (ho : o.op = .build 34 #[(0, x0), (1, x1)]) (h0 : a.eval x0 = .int .i64 i0) (h1 : a.eval x1 = .agg #[.int .i64 i1_0, .int .i64 i1_1]) : Pure Try.prog o a (.agg #[.int .i64 i0, .int .i64 i1_0, .int .i64 i1_1]) := fun w => by
  simp only [execOp, ho, List.map_toArray, List.map, h0, h1]
  simp [go_sem]
theorem bu34_1 {x0 : Operand} {i0_0 : Int} {i0_1 : Int} (ho : o.op = .build 34 #[(1, x0)]) (h0 : a.eval x0 = .agg #[.int .i64 i0_0, .int .i64 i0_1]) : Pure Try.prog o a (.agg #[.int .i64 0, .int .i64 i0_0, .int .i64 i0_1]) := fun w => by
  simp only [execOp, ho, List.map_toArray, List.map, h0]
  simp [go_sem]
theorem bu49_ (ho : o.op = .build 49 #[]) : Pure Try.prog o a (.agg #[.int .i64 0, .int .i64 0]) := fun w => by
  simp only [execOp, ho, List.map_toArray, List.map]
  simp [go_sem]
theorem bu49_1 {x0 : Operand} {i0 : Int} (ho : o.op = .build 49 #[(1, x0)]) (h0 : a.eval x0 = .int .i64 i0) : Pure Try.prog o a (.agg #[.int .i64 0, .int .i64 i0]) := fun w => by
  simp only [execOp, ho, List.map_toArray, List.map, h0]
  simp [go_sem]
theorem bu51_0_1_2 {x0 : Operand} {i0 : Int} {x1 : Operand} {i1 : Int} {x2 : Operand} {i2_0 : Int} {i2_1 : Int} (ho : o.op = .build 51 #[(0, x0), (1, x1), (2, x2)]) (h0 : a.eval x0 = .int .i64 i0) (h1 : a.eval x1 = .int .i64 i1) (h2 : a.eval x2 = .agg #[.int .i64 i2_0, .int .i64 i2_1]) : Pure Try.prog o a (.agg #[.int .i64 i0, .int .i64 i1, .int .i64 i2_0, .int .i64 i2_1]) := fun w => by
  simp only [execOp, ho, List.map_toArray, List.map, h0, h1, h2]
  simp [go_sem]
theorem bu65_0_1_2 {x0 : Operand} {i0 : Value} {x1 : Operand} {i1_0 : Value} {i1_1 : Value} {i1_2 : Value} {i1_3 : Value} {i1_4 : Value} {i1_5 : Value} {i1_6 : Value} {i1_7 : Value} {x2 : Operand} {i2_0 : Value} {i2_1 : Value} {i2_2 : Value} {i2_3 : Value} {i2_4 : Value} {i2_5 : Value} {i2_6 : Value} {i2_7 : Value} (ho : o.op = .build 65 #[(0, x0), (1, x1), (2, x2)]) (h0 : a.eval x0 = i0) (c0 : i0.cells = #[i0]) (h1 : a.eval x1 = .agg #[i1_0, i1_1, i1_2, i1_3, i1_4, i1_5, i1_6, i1_7]) (h2 : a.eval x2 = .agg #[i2_0, i2_1, i2_2, i2_3, i2_4, i2_5, i2_6, i2_7]) : Pure Try.prog o a (.agg #[i0, i1_0, i1_1, i1_2, i1_3, i1_4, i1_5, i1_6, i1_7, i2_0, i2_1, i2_2, i2_3, i2_4, i2_5, i2_6, i2_7, .nilFunc]) := fun w => by
  simp only [Value.cells] at c0
  simp only [execOp, ho, List.map_toArray, List.map, h0, h1, h2]
  simp [go_sem, c0]
theorem bu73_0_1 {x0 : Operand} {i0_0 : Int} {i0_1 : Int} {x1 : Operand} {i1 : Int} (ho : o.op = .build 73 #[(0, x0), (1, x1)]) (h0 : a.eval x0 = .agg #[.int .i64 i0_0, .int .i64 i0_1]) (h1 : a.eval x1 = .int .i64 i1) : Pure Try.prog o a (.agg #[.int .i64 i0_0, .int .i64 i0_1, .int .i64 i1]) := fun w => by
  simp only [execOp, ho, List.map_toArray, List.map, h0, h1]
  simp [go_sem]
theorem bu87_0 {x0 : Operand} {i0 : Value} (ho : o.op = .build 87 #[(0, x0)]) (h0 : a.eval x0 = i0) (c0 : i0.cells = #[i0]) : Pure Try.prog o a (.agg #[i0]) := fun w => by
  simp only [Value.cells] at c0
  simp only [execOp, ho, List.map_toArray, List.map, h0]
  simp [go_sem, c0]
theorem bs22_1 {x0 : Operand} {i0_0 : Int} {i0_1 : Int} {i0_2 : Int} {i0_3 : Int} (ho : o.op = .buildSlice 22 1 #[(0, x0)]) (h0 : a.eval x0 = .agg #[.int .i64 i0_0, .int .i64 i0_1, .int .i64 i0_2, .int .i64 i0_3]) (w : World) : (execOp a.eval o).run Try.prog w = .ok (.value (.slice (some ⟨w.heap.size, 0, none⟩) 1 1)) (w.alloc (.cells #[.int .i64 i0_0, .int .i64 i0_1, .int .i64 i0_2, .int .i64 i0_3] 51)) := by
  simp only [execOp, ho, List.map_toArray, List.map, h0]
  simp [go_sem]
theorem bs39_1 {x0 : Operand} {i0_0 : Int} {i0_1 : Int} (ho : o.op = .buildSlice 39 1 #[(0, x0)]) (h0 : a.eval x0 = .agg #[.int .i64 i0_0, .int .i64 i0_1]) (w : World) : (execOp a.eval o).run Try.prog w = .ok (.value (.slice (some ⟨w.heap.size, 0, none⟩) 1 1)) (w.alloc (.cells #[.int .i64 i0_0, .int .i64 i0_1] 32)) := by
  simp only [execOp, ho, List.map_toArray, List.map, h0]
  simp [go_sem]
theorem bs42_1 {x0 : Operand} {i0_0 : Int} {i0_1 : Int} {i0_2 : Int} (ho : o.op = .buildSlice 42 1 #[(0, x0)]) (h0 : a.eval x0 = .agg #[.int .i64 i0_0, .int .i64 i0_1, .int .i64 i0_2]) (w : World) : (execOp a.eval o).run Try.prog w = .ok (.value (.slice (some ⟨w.heap.size, 0, none⟩) 1 1)) (w.alloc (.cells #[.int .i64 i0_0, .int .i64 i0_1, .int .i64 i0_2] 73)) := by
  simp only [execOp, ho, List.map_toArray, List.map, h0]
  simp [go_sem]
theorem bs47_1 {x0 : Operand} {i0 : Int} (ho : o.op = .buildSlice 47 1 #[(0, x0)]) (h0 : a.eval x0 = .int .i64 i0) (w : World) : (execOp a.eval o).run Try.prog w = .ok (.value (.slice (some ⟨w.heap.size, 0, none⟩) 1 1)) (w.alloc (.cells #[.int .i64 i0] 3)) := by
  simp only [execOp, ho, List.map_toArray, List.map, h0]
  simp [go_sem]
theorem bs93_1 {x0 : Operand} {i0_0 : Int} {i0_1 : Int} (ho : o.op = .buildSlice 93 1 #[(0, x0)]) (h0 : a.eval x0 = .agg #[.int .i64 i0_0, .int .i64 i0_1]) (w : World) : (execOp a.eval o).run Try.prog w = .ok (.value (.slice (some ⟨w.heap.size, 0, none⟩) 1 1)) (w.alloc (.cells #[.int .i64 i0_0, .int .i64 i0_1] 49)) := by
  simp only [execOp, ho, List.map_toArray, List.map, h0]
  simp [go_sem]
theorem ixv61 {x y : Operand} {g : Nat} {i : Int} (ho : o.op = .indexAddr 61 x y) (hx : a.eval x = .pointer (some ⟨g, 0, none⟩)) (hy : a.eval y = .int .i64 i) (h0 : 0 ≤ i) (h1 : i < 8) : Pure Try.prog o a (.pointer (some ⟨g, 0 + i.toNat * 1, none⟩)) := fun w => by
  simp only [execOp, ho, hx, hy]
  obtain ⟨k, rfl⟩ := Int.eq_ofNat_of_zero_le h0
  simp [go_sem]
  omega
theorem ixv100 {x y : Operand} {g : Nat} {i : Int} (ho : o.op = .indexAddr 100 x y) (hx : a.eval x = .pointer (some ⟨g, 0, none⟩)) (hy : a.eval y = .int .i64 i) (h0 : 0 ≤ i) (h1 : i < 8) : Pure Try.prog o a (.pointer (some ⟨g, 0 + i.toNat * 1, none⟩)) := fun w => by
  simp only [execOp, ho, hx, hy]
  obtain ⟨k, rfl⟩ := Int.eq_ofNat_of_zero_le h0
  simp [go_sem]
  omega
theorem ixo61 {x y : Operand} {g og : Nat} {i : Int} (ho : o.op = .indexAddr 61 x y) (hx : a.eval x = .pointer (some ⟨g, og, none⟩)) (hy : a.eval y = .int .i64 i) (h0 : 0 ≤ i) (h1 : i < 8) : Pure Try.prog o a (.pointer (some ⟨g, og + i.toNat * 1, none⟩)) := fun w => by
  simp only [execOp, ho, hx, hy]
  obtain ⟨k, rfl⟩ := Int.eq_ofNat_of_zero_le h0
  simp [go_sem]
  omega
theorem ixo100 {x y : Operand} {g og : Nat} {i : Int} (ho : o.op = .indexAddr 100 x y) (hx : a.eval x = .pointer (some ⟨g, og, none⟩)) (hy : a.eval y = .int .i64 i) (h0 : 0 ≤ i) (h1 : i < 8) : Pure Try.prog o a (.pointer (some ⟨g, og + i.toNat * 1, none⟩)) := fun w => by
  simp only [execOp, ho, hx, hy]
  obtain ⟨k, rfl⟩ := Int.eq_ofNat_of_zero_le h0
  simp [go_sem]
  omega
end
section
variable {o : Oper} {a : Act} {x y : Operand} {i j : Int}
theorem pu_max (ho : o.op = .call { callee := .builtin .max, args := #[x, y], argTypes := #[3, 3] }) (hx : a.eval x = .int .i64 i) (hy : a.eval y = .int .i64 j) : Pure Try.prog o a (.int .i64 (max i j)) := fun w => by
  simp only [execOp, ho, resolve, List.map_toArray, List.map, hx, hy]
  first | (simp [go_sem]; done) | (simp [go_sem]; omega)
theorem pu_min (ho : o.op = .call { callee := .builtin .min, args := #[x, y], argTypes := #[3, 3] }) (hx : a.eval x = .int .i64 i) (hy : a.eval y = .int .i64 j) : Pure Try.prog o a (.int .i64 (min i j)) := fun w => by
  simp only [execOp, ho, resolve, List.map_toArray, List.map, hx, hy]
  first | (simp [go_sem]; done) | (simp [go_sem]; omega)
end
end Go.Proofs.Ytboinbmgndomhaa
