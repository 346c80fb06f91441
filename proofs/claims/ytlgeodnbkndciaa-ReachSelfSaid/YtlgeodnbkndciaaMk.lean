/- make([]T, k) of stamps: noughts; a block that is a slice of stamps as a slice of the call's own. Any seat with sort (needs Am). -/
import Derived.Test.YtlgeodnbkndciaaAm
import Derived.Test.YtlgeodnbkndciaaMq
namespace Go.Proofs.Ytlgeodnbkndciaa
open Go.RowKit
set_option maxRecDepth 100000
set_option linter.unusedSimpArgs false
set_option linter.unusedVariables false

theorem made_two (n : Nat) : madeCells #[.int .i64 0, .int .i64 0] (n * 2) = cL (List.replicate n St.zero) := by
  apply Array.ext
  · rw [cL_size, List.length_replicate]; simp [madeCells]
  · intro j h1 h2
    have hj : j < n * 2 := by simpa [madeCells] using h1
    have hc := cS_at (L := List.replicate n St.zero) (i := j / 2) (by simp; omega)
    have hg : (cS (List.replicate n St.zero))[j / 2 * 2 + j % 2]? = [Value.int .i64 (atS (List.replicate n St.zero) (j / 2)).e, .int .i64 (atS (List.replicate n St.zero) (j / 2)).r][j % 2]? := by
      rw [← hc]; simp [Nat.mod_lt j (show 0 < 2 by omega)]
    have hl : j < (cS (List.replicate n St.zero)).length := by rw [cS_len, List.length_replicate]; exact hj
    rw [show j / 2 * 2 + j % 2 = j by omega, List.getElem?_eq_getElem hl] at hg
    have ha : atS (List.replicate n St.zero) (j / 2) = St.zero := by rw [atS_eq (by simp; omega)]; simp
    rw [ha] at hg
    simp only [madeCells, cL, List.getElem_toArray]
    rcases (show j % 2 = 0 ∨ j % 2 = 1 by omega) with h5 | h5
    · rw [h5] at hg
      rw [Option.some.inj hg]
      simp [St.zero, h5]
    · rw [h5] at hg
      rw [Option.some.inj hg]
      simp [St.zero, h5]
section
variable {P : Program} {ops rest : List Oper} {o : Oper} {a : Act} {n d : Nat} {L : List (Nat × Value)} {Q : Exit → Act → World → Prop} {R : List Nat} {w w0 : World} {B : List Ent} {x y : Operand} {t e : TypeId} {i g k : Nat} {K : List St}
theorem sq_makeS (F : Fr a n L) (M : Mm R w0 w B) (hw : Region.wanted o (yielded ops.toArray a.tmps) = true) {kc kl : IntKind} (ho : o.op = .makeSlice t x y) (hx : a.eval x = .int kl ((k : Nat) : Int)) (hy : a.eval y = .int kc ((k : Nat) : Int)) (ht : P.underlying t = some (.slice e))
    (hE : (P.info? e).map (fun i => (i.zero, i.size, i.bytes)) = some (some (.agg #[.int .i64 0, .int .i64 0]), 2, 16))
    (hk : k ≤ 20000000) (hd : o.dst = some d) (hdn : Nat.blt d n = true)
    (h : ∀ a' w' g, Fr a' n ((d, .slice (some ⟨g, 0, none⟩) k k) :: L) → Mm R w0 w' (.blk g e (cL (List.replicate k St.zero)) :: B) → wpList P ops.toArray Q rest a' w') : wpList P ops.toArray Q (o :: rest) a w := by
  cases hq : P.info? e with
  | none => simp [hq] at hE
  | some inf =>
    simp only [hq, Option.map_some, Option.some.injEq, Prod.mk.injEq] at hE
    have hb' : (inf.bytes : Int) * ((k : Nat) : Int) ≤ 281474976710656 := by
      rw [hE.2.2]; omega
    have hr := run_make (P := P) w t e inf (.agg #[.int .i64 0, .int .i64 0]) ht hq hE.1 kl kc ((k : Nat) : Int) ((k : Nat) : Int) (by omega) (Int.le_refl _) hb' (by omega)
    rw [hE.2.1] at hr
    simp only [Int.toNat_natCast] at hr
    rw [show (Value.agg #[.int .i64 0, .int .i64 0]).cells = #[Value.int .i64 0, .int .i64 0] from rfl, made_two] at hr
    exact sq_run F hw (v := .slice (some ⟨w.heap.size, 0, none⟩) k k) (by simp only [execOp, ho, hx, hy, Sem.run_bind, hr, Result.andThen_ok, Sem.run_pure]) (M.alloc e _) hd hdn (fun a' w' F' M' => h a' w' _ F' M')
/-- A block of stamps, whole, as a slice of the call's own. -/
theorem Mm.blkRow (M : Mm R w0 w B) (h : B[i]? = some (.blk g t (cL K))) (hz : K.length = k) (hn : k ≤ 1000000000) : Mm R w0 w (B.set i (.row t 2 (.slice (some ⟨g, 0, none⟩) k k) K.length (cS K))) :=
  M.swap h (x' := .row t 2 (.slice (some ⟨g, 0, none⟩) k k) K.length (cS K)) (Out.refl _ _) (by rw [hz]; exact own_whole (M.at h) hz hn) (fun g' hg => .inl (by simpa [Ent.fp, Value.ownBlock] using hg)) (fun g hg => by cases hg)
end
theorem set_same {K L : List St} {i : Nat} (hz : K.length = L.length) (hi : i < L.length) (h : ∀ k, k < i → atS K k = atS L k) : ∀ k, k < i + 1 → atS (K.set i (atS L i)) k = atS L k := fun k hk => by
  rcases Nat.lt_or_ge k i with h1 | h1
  · rw [← h k h1]; unfold atS; simp only [List.getD_eq_getElem?_getD]; rw [List.getElem?_set_ne (by omega)]
  · have e : k = i := by omega
    subst e
    unfold atS; rw [List.getD_eq_getElem?_getD, List.getElem?_set_self (by omega), List.getD_eq_getElem?_getD, List.getElem?_eq_getElem hi]; rfl
theorem eq_of_at {K L : List St} {i : Nat} (hz : K.length = L.length) (hi : ¬ i < L.length) (h : ∀ k, k < i → atS K k = atS L k) : K = L := by
  apply List.ext_getElem hz
  intro k h1 h2
  have e := h k (by omega)
  rwa [atS_eq h1, atS_eq h2] at e
end Go.Proofs.Ytlgeodnbkndciaa
