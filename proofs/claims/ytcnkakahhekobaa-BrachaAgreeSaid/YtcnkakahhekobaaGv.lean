/- Slices of one-cell elements as blocks (bools, slices); rows of rows. Any seat. -/
import Derived.Test.YtcnkakahhekobaaEn
import Derived.Test.YtcnkakahhekobaaEk
import Derived.Test.YtcnkakahhekobaaMq
namespace Go.Proofs.Ytcnkakahhekobaa
open Go.RowKit
set_option maxRecDepth 100000
set_option linter.unusedSimpArgs false
set_option linter.unusedVariables false

/-! ### Bools; slices as elements -/
def encB : Enc Bool := ⟨1, fun b => [.bool b], false, fun _ => rfl, fun a v h => by
  simp only [List.mem_cons, List.not_mem_nil, or_false] at h; subst h; rfl⟩
def cB (L : List Bool) : List Value := cE encB L
def atB (L : List Bool) (i : Nat) : Bool := atE encB L i
theorem cB_len (L : List Bool) : (cB L).length = L.length := by unfold cB; rw [cE_len]; show L.length * 1 = _; omega
theorem cB_get {L : List Bool} {i : Nat} (h : i < L.length) : (cB L)[i]? = some (.bool (atB L i)) := by
  have h1 := cE_at (E := encB) h
  have h2 : ((cB L).drop (i * 1)).take 1 = [.bool (atB L i)] := h1
  have h3 : (((cB L).drop (i * 1)).take 1)[0]? = some (.bool (atB L i)) := by rw [h2]; rfl
  rw [List.getElem?_take] at h3
  simpa using h3
theorem cB_at {L : List Bool} {i : Nat} (h : i < L.length) : (cB L)[i * 1]? = some (.bool (atB L i)) := by rw [Nat.mul_one]; exact cB_get h
theorem cB_app (L K : List Bool) : cB (L ++ K) = cB L ++ cB K := cE_app L K
theorem cB_ones (L : List Bool) : ∀ z ∈ cB L, z.oneCell' = true := cE_ones L
theorem atB_set {L : List Bool} {i j : Nat} {b : Bool} (h : i < L.length) : atB (L.set i b) j = if i = j then b else atB L j := by
  unfold atB atE
  rw [List.getD_eq_getElem?_getD, List.getD_eq_getElem?_getD, List.getElem?_set]
  split
  · rename_i e; subst e; simp [h]
  · rfl
theorem cB_set {L : List Bool} {i : Nat} {b : Bool} (h : i < L.length) : (cB L).set i (.bool b) = cB (L.set i b) := by
  apply List.ext_getElem?
  intro j
  rcases Nat.lt_or_ge j L.length with hj | hj
  · rw [cB_get (by simpa using hj), atB_set h, List.getElem?_set]
    split
    · rename_i e; subst e; rw [if_pos (by rw [cB_len]; exact h)]
    · exact cB_get hj
  · rw [List.getElem?_eq_none (by rw [List.length_set, cB_len]; exact hj), List.getElem?_eq_none (by rw [cB_len, List.length_set]; exact hj)]
theorem cB_rep (n : Nat) : cB (List.replicate n false) = List.replicate n (.bool false) := by
  induction n with
  | zero => rfl
  | succ n ih => rw [List.replicate_succ, List.replicate_succ, ← ih]; rfl
abbrev nilV : Value := .slice none 0 0
def cV (L : List Value) : List Value := L
def atV (L : List Value) (i : Nat) : Value := L.getD i nilV
theorem atV_eq {L : List Value} {i : Nat} (h : i < L.length) : atV L i = L[i] := by unfold atV; rw [List.getD_eq_getElem?_getD, List.getElem?_eq_getElem h]; rfl
theorem cV_at {L : List Value} {i : Nat} (h : i < L.length) : (cV L)[i * 1]? = some (atV L i) := by rw [Nat.mul_one, atV_eq h]; exact List.getElem?_eq_getElem h
theorem cV_app (L K : List Value) : cV (L ++ K) = cV L ++ cV K := rfl
theorem atV_set {L : List Value} {i j : Nat} {b : Value} (h : i < L.length) : atV (L.set i b) j = if i = j then b else atV L j := by
  unfold atV
  rw [List.getD_eq_getElem?_getD, List.getD_eq_getElem?_getD, List.getElem?_set]
  split
  · rename_i e; subst e; simp [h]
  · rfl
def atR (L : List (List St)) (i : Nat) : List St := L.getD i []
theorem atR_set {L : List (List St)} {i j : Nat} {b : List St} (h : i < L.length) : atR (L.set i b) j = if i = j then b else atR L j := by
  unfold atR
  rw [List.getD_eq_getElem?_getD, List.getD_eq_getElem?_getD, List.getElem?_set]
  split
  · rename_i e; subst e; simp [h]
  · rfl
/-- The first of a tuple. -/
def tfst : Value → Value
  | .tuple a => a.getD 0 nilV
  | _ => nilV
/-- The second part of a struct. -/
def asnd : Value → Value
  | .agg a => a.getD 1 nilV
  | _ => nilV
/-! ### Made, stored into -/
theorem made_one (z : Value) (n : Nat) (h : z.cells = #[z]) : madeCells z.cells (n * 1) = (List.replicate n z).toArray := by
  unfold madeCells
  rw [h, Nat.mul_one]
  apply Array.ext
  · simp
  · intro i h1 h2
    simp [Nat.mod_one]
section
variable {P : Program} {ops rest : List Oper} {o : Oper} {a : Act} {n d : Nat} {L : List (Nat × Value)} {Q : Exit → Act → World → Prop} {R : List Nat} {w w0 : World} {B : List Ent} {v u z : Value} {x y : Operand} {t e ty : TypeId} {i j g k m : Nat} {N : Int} {cs : List Value}
/-- make([]T, n) of one-cell elements. -/
theorem sq_make1 (F : Fr a n L) (M : Mm R w0 w B) (hw : Region.wanted o (yielded ops.toArray a.tmps) = true) {kc kl : IntKind} (ho : o.op = .makeSlice t x y) (hx : a.eval x = .int kl N) (hy : a.eval y = .int kc N) (ht : P.underlying t = some (.slice e)) (z : Value) (hz : z.cells = #[z]) {bytes : Nat} (hE : (P.info? e).map (fun i => (i.zero, i.size, i.bytes)) = some (some z, 1, bytes))
    (h0 : 0 ≤ N) (hk : N ≤ 1000000) (hby : bytes ≤ 1000) (hd : o.dst = some d) (hdn : Nat.blt d n = true)
    (h : ∀ a' w' g, Fr a' n ((d, .slice (some ⟨g, 0, none⟩) N.toNat N.toNat) :: L) → Mm R w0 w' (.blk g e (List.toArray (List.replicate N.toNat z)) :: B) → wpList P ops.toArray Q rest a' w') : wpList P ops.toArray Q (o :: rest) a w := by
  cases hq : P.info? e with
  | none => simp [hq] at hE
  | some inf =>
    simp only [hq, Option.map_some, Option.some.injEq, Prod.mk.injEq] at hE
    have hb' : (inf.bytes : Int) * N ≤ 281474976710656 := by
      have h1 : (inf.bytes : Int) ≤ 1000 := by rw [hE.2.2]; omega
      have h2 : (inf.bytes : Int) * N ≤ 1000 * 1000000 := Int.mul_le_mul h1 hk h0 (by omega)
      omega
    have hr := run_make (P := P) w t e inf z ht hq hE.1 kl kc N N h0 (Int.le_refl _) hb' (by omega)
    rw [hE.2.1, made_one z _ hz] at hr
    exact sq_run F hw (v := .slice (some ⟨w.heap.size, 0, none⟩) N.toNat N.toNat) (by simp only [execOp, ho, hx, hy, Sem.run_bind, hr, Result.andThen_ok, Sem.run_pure]) (M.alloc e _) hd hdn (fun a' w' F' M' => h a' w' _ F' M')
/-- s[j] = v, of one-cell elements. -/
theorem sq_st1 (F : Fr a n L) (M : Mm R w0 w B) (hw : Region.wanted o (yielded ops.toArray a.tmps) = true) (ho : o.op = .store ty x y) (hx : a.eval x = .pointer (some ⟨g, 0 + j * 1, none⟩)) (hy : a.eval y = v)
    (hi : B[i]? = some (.blk g t (List.toArray cs))) (hj : j < cs.length) (hT : (P.info? ty).map (·.size) = some 1) (h1 : v.oneCell' = true) (hv : v.cells = #[v]) (hd : o.dst = none)
    (h : ∀ w', Mm R w0 w' (B.set i (.blk g t (List.toArray (cs.set j v)))) → wpList P ops.toArray Q rest a w') : wpList P ops.toArray Q (o :: rest) a w :=
  sq_stC F M hw ho hx hy hi (by simp; omega) hT h1 hv hd (fun w' M' => h w' (by
    have e1 : (List.toArray cs).setIfInBounds (0 + j * 1) v = List.toArray (cs.set j v) := by simp
    rwa [e1] at M'))
end
/-! ### Rows of rows: slices of stamps that are the call's own, apart from one another -/
def fpR (vs : List Value) : List Nat := vs.flatMap fun v => v.ownBlock.toList
structure RowsV (ty : TypeId) (vs : List Value) (L : List (List St)) (w : World) : Prop where
  len : vs.length = L.length
  row : ∀ j, j < vs.length → w.ownsRow 0 ty 2 (atV vs j) (atR L j).length (cS (atR L j))
  nd : (fpR vs).Nodup
theorem mem_fpR {vs : List Value} {g : Nat} : g ∈ fpR vs ↔ ∃ j, j < vs.length ∧ (atV vs j).ownBlock = some g := by
  unfold fpR
  rw [List.mem_flatMap]
  constructor
  · rintro ⟨v, hv, hg⟩
    obtain ⟨j, hj, rfl⟩ := List.mem_iff_getElem.1 hv
    exact ⟨j, hj, by rw [atV_eq hj]; simpa using hg⟩
  · rintro ⟨j, hj, hg⟩
    exact ⟨vs[j], List.getElem_mem hj, by rw [← atV_eq hj, hg]; simp⟩
theorem RowsV.loc (ty : TypeId) (vs : List Value) (L : List (List St)) : Loc (fpR vs) (RowsV ty vs L) := fun w w' hk h => by
  refine ⟨⟨h.len, fun j hj => ?_, h.nd⟩, fun g hg => ?_⟩
  · have hr := h.row j hj
    refine ⟨hr.1, ?_⟩
    rcases hr.2 with h4 | ⟨g, cap, cur, h4, h5, h6, h7⟩
    · exact .inl h4
    · exact .inr ⟨g, cap, cur, h4, h5, (hk g (mem_fpR.2 ⟨j, hj, by rw [h4]; rfl⟩)).trans h6, h7⟩
  · obtain ⟨j, hj, hg⟩ := mem_fpR.1 hg
    exact (World.ownsRow.lt (h.row j hj) g hg).2
theorem RowsV.rd {ty : TypeId} {vs : List Value} {L : List (List St)} {w : World} (h : RowsV ty vs L w) {j : Nat} (hj : j < vs.length) : RdS w (atV vs j) (atR L j) := own_rdv (h.row j hj)
theorem nodup_one {vs : List Value} (h : (fpR vs).Nodup) {i j g : Nat} (hi : i < vs.length) (hj : j < vs.length) (gi : (atV vs i).ownBlock = some g) (gj : (atV vs j).ownBlock = some g) : i = j := by
  induction vs generalizing i j with
  | nil => simp at hi
  | cons v r ih =>
    have h' : (v.ownBlock.toList ++ fpR r).Nodup := h
    obtain ⟨_, h2, h3⟩ := List.nodup_append.1 h'
    cases i with
    | zero =>
      cases j with
      | zero => rfl
      | succ j =>
        exfalso
        have a1 : v.ownBlock = some g := gi
        have a2 : g ∈ fpR r := mem_fpR.2 ⟨j, by simpa using hj, gj⟩
        exact h3 g (by rw [a1]; simp) g a2 rfl
    | succ i =>
      cases j with
      | zero =>
        exfalso
        have a1 : v.ownBlock = some g := gj
        have a2 : g ∈ fpR r := mem_fpR.2 ⟨i, by simpa using hi, gi⟩
        exact h3 g (by rw [a1]; simp) g a2 rfl
      | succ j => rw [ih h2 (by simpa using hi) (by simpa using hj) gi gj]
theorem nodup_set {vs : List Value} {v : Value} {j : Nat} (h : (fpR vs).Nodup) (hn : ∀ g, v.ownBlock = some g → ∀ k, k < vs.length → k ≠ j → (atV vs k).ownBlock ≠ some g) : (fpR (vs.set j v)).Nodup := by
  induction vs generalizing j with
  | nil => exact h
  | cons u r ih =>
    have h' : (u.ownBlock.toList ++ fpR r).Nodup := h
    obtain ⟨h1, h2, h3⟩ := List.nodup_append.1 h'
    cases j with
    | zero =>
      show (v.ownBlock.toList ++ fpR r).Nodup
      refine List.nodup_append.2 ⟨by cases v.ownBlock <;> simp, h2, fun g hg g' hg' e => ?_⟩
      subst e
      obtain ⟨k, hk, hkg⟩ := mem_fpR.1 hg'
      exact hn g (by simpa using hg) (k + 1) (by simpa using hk) (by omega) hkg
    | succ j =>
      show (u.ownBlock.toList ++ fpR (r.set j v)).Nodup
      have ih' := ih (j := j) h2 (fun g hg k hk hne => hn g hg (k + 1) (by simpa using hk) (by omega))
      refine List.nodup_append.2 ⟨h1, ih', fun g hg g' hg' e => ?_⟩
      subst e
      obtain ⟨k, hk, hkg⟩ := mem_fpR.1 hg'
      rw [List.length_set] at hk
      by_cases hkj : j = k
      · subst hkj
        rw [atV_set hk, if_pos rfl] at hkg
        exact hn g hkg 0 (by simp) (by omega) (by show u.ownBlock = some g; simpa using hg)
      · have : (atV r k).ownBlock = some g := by
          unfold atV at hkg ⊢
          rw [List.getD_eq_getElem?_getD, List.getElem?_set, if_neg hkj, ← List.getD_eq_getElem?_getD] at hkg
          exact hkg
        exact h3 g hg g (mem_fpR.2 ⟨k, hk, this⟩) rfl
theorem nil_own : nilV.ownBlock = none := rfl
theorem rows_set {ty : TypeId} {vs : List Value} {L : List (List St)} {w : World} (h : RowsV ty vs L w) {j : Nat} (hj : j < vs.length) {v : Value} {l : List St} (hv : w.ownsRow 0 ty 2 v l.length (cS l)) (hn : ∀ g, v.ownBlock = some g → ∀ k, k < vs.length → k ≠ j → (atV vs k).ownBlock ≠ some g) : RowsV ty (vs.set j v) (L.set j l) w := by
  refine ⟨by rw [List.length_set, List.length_set, h.len], fun k hk => ?_, nodup_set h.nd hn⟩
  rw [List.length_set] at hk
  rw [atV_set hj, atR_set (by rw [← h.len]; exact hj)]
  split
  · exact hv
  · exact h.row k hk
theorem rows_rep (ty : TypeId) (n : Nat) (w : World) : RowsV ty (List.replicate n nilV) (List.replicate n []) w := by
  have ha : ∀ j, atV (List.replicate n nilV) j = nilV := fun j => by
    unfold atV; rw [List.getD_eq_getElem?_getD, List.getElem?_replicate]; split <;> rfl
  refine ⟨by simp, fun j hj => ?_, ?_⟩
  · rw [ha]
    have : atR (List.replicate n []) j = [] := by
      unfold atR; rw [List.getD_eq_getElem?_getD, List.getElem?_replicate]; split <;> rfl
    rw [this]; exact World.ownsRow_nil _ _ _ _
  · have : fpR (List.replicate n nilV) = [] := by
      unfold fpR
      rw [List.flatMap_eq_nil_iff]
      intro v hv
      rw [(List.mem_replicate.1 hv).2]; rfl
    rw [this]; exact List.nodup_nil
section
variable {R : List Nat} {w0 w : World} {B : List Ent} {i j k n : Nat} {ty : TypeId} {vs : List Value} {L : List (List St)} {v : Value} {l : List St}
theorem Mm.rowsNew (M : Mm R w0 w B) (ty : TypeId) (n : Nat) : Mm R w0 w (.own (fpR (List.replicate n nilV)) (RowsV ty (List.replicate n nilV) (List.replicate n [])) :: B) :=
  M.addOwn (Below.refl _ _) (rows_rep ty n w) (RowsV.loc _ _ _) (fun g hg => by
    obtain ⟨j, hj, hg⟩ := mem_fpR.1 hg
    have : atV (List.replicate n nilV) j = nilV := by unfold atV; rw [List.getD_eq_getElem?_getD, List.getElem?_replicate]; split <;> rfl
    rw [this] at hg; cases hg)
theorem fp_set_nil {g : Nat} (hg : g ∈ fpR (vs.set j nilV)) : g ∈ fpR vs ∧ ∃ k, k < vs.length ∧ k ≠ j ∧ (atV vs k).ownBlock = some g := by
  obtain ⟨k, hk, hkg⟩ := mem_fpR.1 hg
  rw [List.length_set] at hk
  by_cases e : j = k
  · subst e; rw [atV_set hk, if_pos rfl] at hkg; cases hkg
  · have : (atV vs k).ownBlock = some g := by
      unfold atV at hkg ⊢
      rw [List.getD_eq_getElem?_getD, List.getElem?_set, if_neg e, ← List.getD_eq_getElem?_getD] at hkg
      exact hkg
    exact ⟨mem_fpR.2 ⟨k, hk, this⟩, k, hk, fun h => e h.symm, this⟩
/-- The row j is let go. -/
theorem Mm.dropRow (M : Mm R w0 w B) (h : B[i]? = some (.own (fpR vs) (RowsV ty vs L))) (hj : j < vs.length) : Mm R w0 w (B.set i (.own (fpR (vs.set j nilV)) (RowsV ty (vs.set j nilV) (L.set j [])))) :=
  M.swap h (x' := .own (fpR (vs.set j nilV)) (RowsV ty (vs.set j nilV) (L.set j []))) (Out.refl _ _) ⟨rows_set (M.pv h) hj (World.ownsRow_nil _ _ _ _) (fun g hg => by cases hg), RowsV.loc _ _ _⟩ (fun g hg => .inl (fp_set_nil hg).1) (fun g hg => by cases hg)
/-- The row j by itself. -/
theorem Mm.takeRow (M : Mm R w0 w B) (h : B[i]? = some (.own (fpR vs) (RowsV ty vs L))) (hj : j < vs.length) : Mm R w0 w (.row ty 2 (atV vs j) (atR L j).length (cS (atR L j)) :: B.set i (.own (fpR (vs.set j nilV)) (RowsV ty (vs.set j nilV) (L.set j [])))) := by
  have hp := M.pv h
  have hil : i < B.length := (List.getElem?_eq_some_iff.1 h).1
  have hx : B[i] = .own (fpR vs) (RowsV ty vs L) := (List.getElem?_eq_some_iff.1 h).2
  have M1 := M.dropRow h hj
  refine ⟨M1.out, fun y hy => ?_, fun y hy g hg => ?_, fun y hy g hg => ?_, List.pairwise_cons.2 ⟨fun y hy g hg hgy => ?_, M1.nd⟩⟩
  · rcases List.mem_cons.1 hy with rfl | h1
    · exact hp.row j hj
    · exact M1.has y h1
  · rcases List.mem_cons.1 hy with rfl | h1
    · have hg' : (atV vs j).ownBlock = some g := by simpa [Ent.fp] using hg
      exact M.own _ (List.mem_of_getElem? h) g (mem_fpR.2 ⟨j, hj, hg'⟩)
    · exact M1.own y h1 g hg
  · rcases List.mem_cons.1 hy with rfl | h1
    · cases hg
    · exact M1.far y h1 g hg
  · have hg' : (atV vs j).ownBlock = some g := by simpa [Ent.fp] using hg
    obtain ⟨q, hq, rfl⟩ := List.mem_iff_getElem.1 hy
    rw [List.getElem_set] at hgy
    split at hgy
    · obtain ⟨_, k, hk, hkj, hkg⟩ := fp_set_nil hgy
      exact hkj (nodup_one hp.nd hk hj hkg hg')
    · rename_i hne
      rw [List.length_set] at hq
      have := M.apart (i := i) (j := q) h (List.getElem?_eq_getElem hq) hne g (mem_fpR.2 ⟨j, hj, hg'⟩)
      exact this hgy
/-- A row of the call's own goes to the place j; what was there is let go. -/
theorem Mm.putRow (M : Mm R w0 w B) (h : B[i]? = some (.own (fpR vs) (RowsV ty vs L))) (hr : B[k]? = some (.row ty 2 v l.length (cS l))) (hj : j < vs.length) : Mm R w0 w ((B.set i (.own (fpR (vs.set j v)) (RowsV ty (vs.set j v) (L.set j l)))).set k (.arg 1 (.slice none 0 0) 0 [])) := by
  have hp := M.pv h
  have hil : i < B.length := (List.getElem?_eq_some_iff.1 h).1
  have hkl : k < B.length := (List.getElem?_eq_some_iff.1 hr).1
  have hik : i ≠ k := fun e => by subst e; rw [h] at hr; injection hr with hr; cases hr
  have hap := M.apart (i := k) (j := i) hr h (fun e => hik e.symm)
  have hv : ∀ g, v.ownBlock = some g → ¬ g ∈ fpR vs := fun g hg => hap g (by simp [Ent.fp, hg])
  have hset : RowsV ty (vs.set j v) (L.set j l) w := rows_set hp hj (M.ow hr) (fun g hg q hq _ hqg => hv g hg (mem_fpR.2 ⟨q, hq, hqg⟩))
  have hfp : ∀ g ∈ fpR (vs.set j v), g ∈ fpR vs ∨ v.ownBlock = some g := fun g hg => by
    obtain ⟨q, hq, hqg⟩ := mem_fpR.1 hg
    rw [List.length_set] at hq
    rw [atV_set hj] at hqg
    split at hqg
    · exact .inr hqg
    · exact .inl (mem_fpR.2 ⟨q, hq, hqg⟩)
  -- the two entries, and what stands between
  let B' := (B.set i (.own (fpR (vs.set j v)) (RowsV ty (vs.set j v) (L.set j l)))).set k (.arg 1 (.slice none 0 0) 0 [])
  have hget : ∀ q (hq : q < B'.length), (q = k ∧ B'[q] = .arg 1 (.slice none 0 0) 0 []) ∨ (q = i ∧ B'[q] = .own (fpR (vs.set j v)) (RowsV ty (vs.set j v) (L.set j l))) ∨ (q ≠ k ∧ q ≠ i ∧ ∃ hq' : q < B.length, B'[q] = B[q]) := fun q hq => by
    have hq' : q < B.length := by simpa [B'] using hq
    by_cases e1 : q = k
    · exact .inl ⟨e1, by simp [B', e1]⟩
    · by_cases e2 : q = i
      · refine .inr (.inl ⟨e2, ?_⟩)
        simp only [B', List.getElem_set]
        rw [if_neg (fun e => e1 e.symm), if_pos e2.symm]
      · refine .inr (.inr ⟨e1, e2, hq', ?_⟩)
        simp only [B', List.getElem_set]
        rw [if_neg (fun e => e1 e.symm), if_neg (fun e => e2 e.symm)]
  have hxi : B[i] = .own (fpR vs) (RowsV ty vs L) := (List.getElem?_eq_some_iff.1 h).2
  have hxk : B[k] = .row ty 2 v l.length (cS l) := (List.getElem?_eq_some_iff.1 hr).2
  have hpw := List.pairwise_iff_getElem.1 M.nd
  have far2 : ∀ p q (hp' : p < B.length) (hq' : q < B.length), p ≠ q → ∀ g ∈ B[p].fp, ¬ g ∈ B[q].fp := fun p q hp' hq' hne => M.apart (List.getElem?_eq_getElem hp') (List.getElem?_eq_getElem hq') hne
  have vfp : ∀ g, v.ownBlock = some g → g ∈ B[k].fp := fun g hg => by rw [hxk]; simp [Ent.fp, hg]
  refine ⟨M.out, fun y hy => ?_, fun y hy g hg => ?_, fun y hy g hg => ?_, ?_⟩
  · obtain ⟨q, hq, rfl⟩ := List.mem_iff_getElem.1 hy
    rcases hget q hq with ⟨_, e⟩ | ⟨_, e⟩ | ⟨_, _, hq', e⟩
    · rw [e]; exact ⟨rfl, none, 0, rfl, Nat.le_refl _, Nat.zero_le _, fun h => absurd h (by omega)⟩
    · rw [e]; exact ⟨hset, RowsV.loc _ _ _⟩
    · rw [e]; exact M.has _ (List.getElem_mem hq')
  · obtain ⟨q, hq, rfl⟩ := List.mem_iff_getElem.1 hy
    rcases hget q hq with ⟨_, e⟩ | ⟨_, e⟩ | ⟨_, _, hq', e⟩
    · rw [e] at hg; cases hg
    · rw [e] at hg
      rcases hfp g hg with h1 | h1
      · exact M.own _ (List.getElem_mem hil) g (by rw [hxi]; exact h1)
      · exact M.own _ (List.getElem_mem hkl) g (vfp g h1)
    · rw [e] at hg; exact M.own _ (List.getElem_mem hq') g hg
  · obtain ⟨q, hq, rfl⟩ := List.mem_iff_getElem.1 hy
    rcases hget q hq with ⟨_, e⟩ | ⟨_, e⟩ | ⟨_, _, hq', e⟩
    · rw [e] at hg; cases hg
    · rw [e] at hg; cases hg
    · rw [e] at hg; exact M.far _ (List.getElem_mem hq') g hg
  · rw [List.pairwise_iff_getElem]
    intro p q hp' hq' hlt g hg hgq
    have hpl : p < B.length := by simpa [B'] using hp'
    have hql : q < B.length := by simpa [B'] using hq'
    rcases hget p hp' with ⟨_, e⟩ | ⟨ep, e⟩ | ⟨hpk, hpi, _, e⟩
    · rw [e] at hg; cases hg
    · rw [e] at hg
      rcases hget q hq' with ⟨_, e'⟩ | ⟨eq, e'⟩ | ⟨hqk, hqi, _, e'⟩
      · rw [e'] at hgq; cases hgq
      · omega
      · rw [e'] at hgq
        rcases hfp g hg with h1 | h1
        · exact far2 i q hil hql (fun e => hqi e.symm) g (by rw [hxi]; exact h1) hgq
        · exact far2 k q hkl hql (fun e => hqk e.symm) g (vfp g h1) hgq
    · rw [e] at hg
      rcases hget q hq' with ⟨_, e'⟩ | ⟨eq, e'⟩ | ⟨hqk, hqi, _, e'⟩
      · rw [e'] at hgq; cases hgq
      · rw [e'] at hgq
        rcases hfp g hgq with h1 | h1
        · exact far2 i p hil hpl (fun e => hpi e.symm) g (by rw [hxi]; exact h1) hg
        · exact far2 k p hkl hpl (fun e => hpk e.symm) g (vfp g h1) hg
      · rw [e'] at hgq; exact far2 p q hpl hql (by omega) g hg hgq
end
end Go.Proofs.Ytcnkakahhekobaa
