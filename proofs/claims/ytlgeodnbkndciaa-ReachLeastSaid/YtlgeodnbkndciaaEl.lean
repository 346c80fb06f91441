/- Rows of stamps as blocks: copied into, stored into, cleared. Any seat with the sort in it. -/
import Derived.Test.YtlgeodnbkndciaaSp
import Derived.Test.YtlgeodnbkndciaaEk
namespace Go.Proofs.Ytlgeodnbkndciaa
open Go.RowKit Go.Sort
set_option maxRecDepth 100000
set_option linter.unusedSimpArgs false
set_option linter.unusedVariables false

theorem setMany_cS : ∀ (L : List St) (i : Nat) (x : St), i < L.length → setMany (cL L) (i * 2) (encS x) = cL (L.set i x) := by
  intro L i x hi
  refine ext_get! (by simp [cL_size]) fun j hj => ?_
  have hj' : j < L.length * 2 := by simpa [cL_size] using hj
  rw [get_setMany _ _ _ j (by rw [cL_size]; exact hj')]
  have hl : ∀ (K : List St), K.length = L.length → (cL K)[j]! = [Value.int .i64 (atS K (j / 2)).e, .int .i64 (atS K (j / 2)).r][j % 2]! := fun K hK => by
    have h0 : cL K = fA K.toArray := (fA_eq K).symm
    rw [h0, get_flatK _ _ _ _ (by simp [hK]; omega)]
    have h3 : K.toArray[j / 2]! = atS K (j / 2) := by rw [atS_eq (by omega)]; simp [show j / 2 < K.length by omega]
    rw [h3]; rfl
  rw [hl (L.set i x) (by simp), hl L rfl]
  have hm : j % 2 < 2 := Nat.mod_lt _ (by omega)
  by_cases hc : i * 2 ≤ j ∧ j < i * 2 + (encS x).length
  · rw [if_pos hc]
    have h2 : (encS x).length = 2 := rfl
    have : j / 2 = i := by omega
    rw [show atS (L.set i x) (j / 2) = x by rw [this, atS_eq (by simpa using hi)]; simp]
    rw [show j - i * 2 = j % 2 by omega]; rfl
  · rw [if_neg hc]
    have h2 : (encS x).length = 2 := rfl
    have : ¬ i = j / 2 := by omega
    rw [show atS (L.set i x) (j / 2) = atS L (j / 2) by rw [atS_eq (by simp; omega), atS_eq (by omega)]; simp [this]]
section
variable {P : Program} {ops rest : List Oper} {o : Oper} {a : Act} {n d : Nat} {L : List (Nat × Value)} {Q : Exit → Act → World → Prop} {R : List Nat} {w w0 : World} {B : List Ent} {v u : Value} {x y : Operand} {t e ty : TypeId} {i g k m : Nat} {K K' : List St}
theorem copy_run {c1 : Nat} (hu : P.underlying t = some (.slice e)) (hs : (P.info? e).map (·.size) = some 2) {cs : Array Value} (hb : Blk w g ty cs) (hz : cs.size = k * 2) (hr : RdV w 2 u k (cS K)) :
    (Builtin.copy_ #[t, t] o.type #[.slice (some ⟨g, 0, none⟩) k c1, u]).run P w = .ok (goInt k) (w.setRow g (cL K)) := by
  obtain ⟨hl, A, c, rfl, h1, h2, h3⟩ := hr
  have hKl : K.length = k := by rw [cS_len] at hl; omega
  have hself : w.setRow g cs = w := setRow_self w g cs ty (0, 0) hb
  cases hq : P.info? e with
  | none => simp [hq] at hs
  | some inf =>
    have hi : inf.size = 2 := by simpa [hq] using hs
    rcases Nat.eq_zero_or_pos k with h0 | h0
    · subst h0
      have hK0 : K = [] := List.eq_nil_of_length_eq_zero hKl
      subst hK0
      have hcs : cs = cL [] := by
        have : cs.size = 0 := by simpa using hz
        rw [Array.eq_empty_of_size_eq_zero this]; rfl
      rw [← hcs, hself]
      cases A with
      | none => simp [Builtin.copy_, run_underlying hu, Builtin.lenOf, Builtin.firstCells, sizeOf, typeInfo, hq, storeCells, goInt]
      | some ad => simp [Builtin.copy_, run_underlying hu, Builtin.lenOf, Builtin.firstCells, sizeOf, typeInfo, hq, loadCells, loadCellsFrom, storeCells, goInt]
    · obtain ⟨g', off, rfl, h4, h5⟩ := h3 h0
      have hl2 := run_loadCells_list (P := P) w ⟨g', off, none⟩ (cS K) (fun j v hj => by rw [addr_add]; exact h5 j v hj)
      have hst := run_storeCells_at P g 0 ty (cS K) 0 cs w hb (by rw [hz, hl]; omega) (cS_ones K)
      have hcl : (cs.toList.take (0 + 0) ++ cS K ++ cs.toList.drop (0 + 0 + (cS K).length)).toArray = cL K := by
        rw [List.drop_eq_nil_of_le (by simp [hz, hl])]
        simp [cL]
      rw [hcl] at hst
      simp [Builtin.copy_, run_underlying hu, Builtin.lenOf, Builtin.firstCells, sizeOf, typeInfo, hq, hi, ← hl, hl2, hst, goInt]
/-- copy(row, u): all of it. -/
theorem sq_copy (F : Fr a n L) (M : Mm R w0 w B) (hw : Region.wanted o (yielded ops.toArray a.tmps) = true) {c1 : Nat} {cs : Array Value} (ho : o.op = .call { callee := .builtin .copy, args := #[x, y], argTypes := #[t, t] }) (hx : a.eval x = .slice (some ⟨g, 0, none⟩) k c1) (hy : a.eval y = u)
    (hi : B[i]? = some (.blk g ty cs)) (hz : cs.size = k * 2) (hr : RdV w 2 u k (cS K)) (hT : SlTy P t e 2) (hd : o.dst = some d) (hdn : Nat.blt d n = true)
    (h : ∀ a' w', Fr a' n ((d, .int .i64 k) :: L) → Mm R w0 w' (B.set i (.blk g ty (cL K))) → wpList P ops.toArray Q rest a' w') : wpList P ops.toArray Q (o :: rest) a w :=
  wpList_step fun K' hK => by
    rw [if_pos hw]
    have hrun := copy_run (P := P) (o := o) (c1 := c1) hT.1 hT.2 (M.at hi) hz hr
    have hexec : (execOp a.eval o).run P w = .ok (.value (goInt k)) (w.setRow g (cL K)) := by
      simp only [execOp, ho, resolve, invoke, builtin, Sem.run_bind, Sem.run_pure, Result.andThen_ok, List.map_toArray, List.map_cons, List.map_nil, hx, hy, hrun]
    unfold Oper.wp
    rw [hexec]
    refine hK _ _ ?_
    rw [hd]
    exact h _ _ (F.put hdn) (M.setRow hi _)
/-- row[j] = x -/
theorem sq_stL (F : Fr a n L) (M : Mm R w0 w B) (hw : Region.wanted o (yielded ops.toArray a.tmps) = true) {s : St} {j : Nat} (ho : o.op = .store ty x y) (hx : a.eval x = .pointer (some ⟨g, 0 + j * 2, none⟩)) (hy : a.eval y = .agg #[.int .i64 s.e, .int .i64 s.r])
    (hi : B[i]? = some (.blk g t (cL K))) (hj : j < K.length) (hT : AggTy P ty 2) (hd : o.dst = none)
    (h : ∀ w', Mm R w0 w' (B.set i (.blk g t (cL (K.set j s)))) → wpList P ops.toArray Q rest a w') : wpList P ops.toArray Q (o :: rest) a w :=
  wpList_step fun K' hK => by
    rw [if_pos hw]
    have _ := F.size
    obtain ⟨dd, hu, hdd, hsz⟩ := hT
    have hb := M.at hi
    have hth : w.there g (0 + j * 2) (#[Value.int .i64 s.e, .int .i64 s.r] : Array Value).size := fun q hq => by
      have hq2 : q < 2 := hq
      refine ⟨?_, hb.frozen _⟩
      rw [hb.cell, Array.getElem?_eq_getElem (by rw [cL_size]; omega)]; rfl
    have hrun := run_storeAt_mid (P := P) w g (0 + j * 2) ty #[.int .i64 s.e, .int .i64 s.r] hth (by rw [hsz]; rfl) (by simp [Value.oneCell'])
    have hexec : (execOp a.eval o).run P w = .ok .skip (w.setCells g (0 + j * 2) (encS s)) := by
      simp only [execOp, ho, hx, hy]
      simp only [Sem.run_bind, hrun, Result.andThen_ok, Sem.run_pure]
      rfl
    unfold Oper.wp
    rw [hexec]
    refine hK _ _ ?_
    rw [hd]
    have hb2 := blk_setCells (encS s) (0 + j * 2) w _ hb
    rw [Nat.zero_add, setMany_cS K j s hj] at hb2
    rw [Nat.zero_add]
    exact h _ (M.turned hi (out_setCells _ _ _) hb2)
/-- clear(row[k:]) -/
theorem sq_clear (F : Fr a n L) (M : Mm R w0 w B) (hw : Region.wanted o (yielded ops.toArray a.tmps) = true) {c1 : Nat} (ho : o.op = .call { callee := .builtin .clear, args := #[x], argTypes := #[t] }) (hx : a.eval x = subS 2 k m (.slice (some ⟨g, 0, none⟩) m c1))
    (hi : B[i]? = some (.blk g ty (cL K))) (hk : k ≤ m) (hc1 : m ≤ c1) (hz : K.length = m) (hT : SlTy P t e 2) {bytes : Nat} (hE : (P.info? e).map (fun i => (i.zero, i.size, i.bytes)) = some (some (.agg #[.int .i64 0, .int .i64 0]), 2, bytes)) (hd : o.dst = none)
    (h : ∀ w', Mm R w0 w' (B.set i (.blk g ty (cL (K.take k ++ List.replicate (m - k) St.zero)))) → wpList P ops.toArray Q rest a w') : wpList P ops.toArray Q (o :: rest) a w :=
  wpList_step fun K' hK => by
    rw [if_pos hw]
    have _ := F.size
    have hb := M.at hi
    have hrun : (Builtin.clear_ #[t] o.type #[subS 2 k m (.slice (some ⟨g, 0, none⟩) m c1)]).run P w = .ok (.tuple #[]) (w.setRow g (cL (K.take k ++ List.replicate (m - k) St.zero))) := by
      have hzc : ∀ q, (Builtin.zeroCells #[Value.int .i64 0, .int .i64 0] q).toList = cS (List.replicate q St.zero) := fun q => by
        apply List.ext_getElem
        · simp [Builtin.zeroCells, cS_len]
        · intro j h1 h2
          have hj : j < q * 2 := by simpa [cS_len] using h2
          have hc := cS_at (L := List.replicate q St.zero) (i := j / 2) (by simp; omega)
          have hg : (cS (List.replicate q St.zero))[j / 2 * 2 + j % 2]? = [Value.int .i64 (atS (List.replicate q St.zero) (j / 2)).e, .int .i64 (atS (List.replicate q St.zero) (j / 2)).r][j % 2]? := by
            rw [← hc]; simp [Nat.mod_lt j (show 0 < 2 by omega)]
          rw [show j / 2 * 2 + j % 2 = j by omega, List.getElem?_eq_getElem h2] at hg
          have ha : atS (List.replicate q St.zero) (j / 2) = St.zero := by rw [atS_eq (by simp; omega)]; simp
          rw [ha] at hg
          simp only [Builtin.zeroCells]
          rcases (show j % 2 = 0 ∨ j % 2 = 1 by omega) with h5 | h5
          · rw [h5] at hg
            have hg' := Option.some.inj hg
            rw [hg']
            simp [St.zero, h5]
          · rw [h5] at hg
            have hg' := Option.some.inj hg
            rw [hg']
            simp [St.zero, h5]
      have hke : cL (K.take k ++ List.replicate (m - k) St.zero) = ((cL K).toList.take (k * 2 + 0) ++ cS (List.replicate (m - k) St.zero) ++ (cL K).toList.drop (k * 2 + 0 + (cS (List.replicate (m - k) St.zero)).length)).toArray := by
        rw [List.drop_eq_nil_of_le (by simp [cL_size, cS_len]; omega)]
        simp [cL, cS_app, ← cS_take]
      cases hq : P.info? e with
      | none => simp [hq] at hE
      | some inf =>
        simp only [hq, Option.map_some, Option.some.injEq, Prod.mk.injEq] at hE
        rcases Nat.eq_zero_or_pos (m - k) with h0 | h0
        · have hkm : k = m := by omega
          rw [h0, show K.take k = K by rw [hkm, ← hz, List.take_length]]
          simp only [List.replicate_zero, List.append_nil]
          rw [setRow_self w g (cL K) ty (0, 0) hb]
          simp only [subS, h0]
          split <;> simp [Builtin.clear_, run_underlying hT.1]
        · have hst := run_storeCells_at P g (k * 2) ty (cS (List.replicate (m - k) St.zero)) 0 (cL K) w hb (by rw [cL_size, cS_len, List.length_replicate]; omega) (cS_ones _)
          rw [← hke] at hst
          have hne : m - k ≠ 0 := by omega
          obtain ⟨q, hq2⟩ : ∃ q, m - k = q + 1 := ⟨m - k - 1, by omega⟩
          have e0 : subS 2 k m (.slice (some ⟨g, 0, none⟩) m c1) = .slice (if c1 = k then some ⟨g, 0, none⟩ else some ⟨g, k * 2, none⟩) (m - k) (c1 - k) := by
            simp only [subS, Option.map_some, addr_add, Nat.zero_add]
          rw [e0]
          split
          · rename_i hck
            omega
          · rw [hq2] at hst ⊢
            simp [Builtin.clear_, run_underlying hT.1, zeroValue, typeInfo, hq, hE.1, Value.cells, hzc, hst]
    have hexec : (execOp a.eval o).run P w = .ok (.value (.tuple #[])) (w.setRow g (cL (K.take k ++ List.replicate (m - k) St.zero))) := by
      simp only [execOp, ho, resolve, invoke, builtin, Sem.run_bind, Sem.run_pure, Result.andThen_ok, List.map_toArray, List.map_cons, List.map_nil, hx, hrun]
    unfold Oper.wp
    rw [hexec]
    refine hK _ _ ?_
    rw [hd]
    exact h _ (M.setRow hi _)
end
end Go.Proofs.Ytlgeodnbkndciaa
