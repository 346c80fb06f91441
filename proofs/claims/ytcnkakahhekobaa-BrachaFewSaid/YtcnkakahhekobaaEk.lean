/- Slices of stamps and makers of slices, without the sort. Any seat. -/
import Derived.Test.YtcnkakahhekobaaSt
import Derived.Test.YtcnkakahhekobaaRh
import Derived.Deep.MidRow
namespace Go.Proofs.Ytcnkakahhekobaa
open Go.RowKit
set_option maxRecDepth 100000
set_option linter.unusedSimpArgs false
set_option linter.unusedVariables false

def cL (L : List St) : Array Value := (cS L).toArray
theorem cL_size (L : List St) : (cL L).size = L.length * 2 := by simp [cL, cS_len]
theorem blk_rdS {w : World} {g t n : Nat} {L : List St} (h : Blk w g t (cL L)) (hz : L.length = n) (hn : n ≤ 1000000000) : RdV w 2 (.slice (some ⟨g, 0, none⟩) n n) n (cS L) := blk_rdv h (show (cL L).size = n * 2 by rw [cL_size, hz]) hn
theorem sub_rv {w : World} {v : Value} {n k : Nat} {L : List St} (h : RdV w 2 v n (cS L)) (hz : L.length = n) (hk : k ≤ n) : RdV w 2 (subS 2 k n v) (n - k) (cS (L.drop k)) := by
  have := sub_rdv h hk (Nat.le_refl n)
  rw [cS_drop, show (n - k) * 2 = (L.drop k).length * 2 by rw [List.length_drop, hz], cS_take, List.take_length] at this
  exact this
theorem take_rv {w : World} {v : Value} {n k : Nat} {L : List St} (h : RdV w 2 v n (cS L)) (_hz : L.length = n) (hk : k ≤ n) : RdV w 2 (subS 2 0 k v) k (cS (L.take k)) := by
  have := sub_rdv h (Nat.zero_le k) hk
  rw [Nat.zero_mul, List.drop_zero, Nat.sub_zero, cS_take] at this
  exact this
theorem atS_drop {L : List St} {k i : Nat} : atS (L.drop k) i = atS L (k + i) := by
  unfold atS; simp [List.getD_eq_getElem?_getD]
section
variable {P : Program} {o : Oper} {a : Act} {x y : Operand} {v : Value} {t : TypeId}
theorem pu_iface (ho : o.op = .makeInterface t x) (hx : a.eval x = v) (hT : ∃ d, P.underlying t = some d ∧ (match d with | .interface _ => true | _ => false) = false) : Pure P o a (.iface t v) := fun w => by
  obtain ⟨d, hu, hd⟩ := hT
  simp only [execOp, ho, hx]
  cases d <;> simp_all [Instr.makeInterface, run_underlying hu]
theorem pu_func {f : Nat} {cs : List Operand} {vs : List Value} (ho : o.op = .makeFunc (.func f) #[] cs.toArray) (hc : cs.map a.eval = vs) : Pure P o a (.func (.func f) #[] vs.toArray) := fun w => by
  simp only [execOp, ho, List.map_toArray, hc]
  simp [Instr.makeFunc]
end
section
variable {P : Program} {ops rest : List Oper} {o : Oper} {a : Act} {n d : Nat} {L : List (Nat × Value)} {Q : Exit → Act → World → Prop} {R : List Nat} {w w0 : World} {B : List Ent} {v u : Value} {x y : Operand} {t e ty : TypeId} {i g k m : Nat} {K K' : List St}
/-- A call that hands its slice back as it is, or a new one. -/
theorem sq_callK (F : Fr a n L) (M : Mm R w0 w B) (hw : Region.wanted o (yielded ops.toArray a.tmps) = true) {f : FuncId} {xs : List Operand} {ts : Array TypeId} {args : List Value} {k' : Nat} {cs ys : List Value} (ho : o.op = .call { callee := .value (.func f), args := xs.toArray, argTypes := ts })
    (he : enters P f = true) (ha : xs.map a.eval = args) (hi : B[i]? = some (.row t m v k cs)) (hc : Calls P f args.toArray w fun e w' => ∃ x, e = .returned x ∧ Below w.heap.size w w' ∧ ((x = v ∧ k' = k ∧ ys = cs) ∨ w'.ownsRow w.heap.size t m x k' ys)) (hd : o.dst = some d) (hdn : Nat.blt d n = true)
    (h : ∀ a' w' x, Fr a' n ((d, x) :: L) → Mm R w0 w' (B.set i (.row t m x k' ys)) → wpList P ops.toArray Q rest a' w') : wpList P ops.toArray Q (o :: rest) a w :=
  sq_callR F hw ho he ha hc hd hdn fun e w' hR => by
    obtain ⟨x, h1, h2, h3⟩ := hR
    refine ⟨x, h1, fun a' F' => h a' w' x F' ?_⟩
    rcases h3 with ⟨rfl, rfl, rfl⟩ | h3
    · have e1 : B.set i (.row t m x k' ys) = B := by
        have hlt : i < B.length := by
          rcases Nat.lt_or_ge i B.length with h4 | h4
          · exact h4
          · rw [List.getElem?_eq_none h4] at hi; cases hi
        apply List.ext_getElem (by simp)
        intro j h4 h5
        rw [List.getElem_set]
        split
        · rename_i e; subst e; rw [List.getElem?_eq_getElem hlt] at hi; injection hi with hi; exact hi.symm
        · rfl
      rw [e1]; exact M.below h2
    · exact M.swap hi (x' := .row t m x k' ys) (Below.out h2 _) (own_zero h3) (fun g hg => .inr (World.ownsRow.lt h3 g (by simpa [Ent.fp] using hg)).1) (fun g hg => by cases hg)
/-- make([]T, k): new cells, all of them zero. -/
theorem sq_make (F : Fr a n L) (M : Mm R w0 w B) (hw : Region.wanted o (yielded ops.toArray a.tmps) = true) {kc kl : IntKind} (ho : o.op = .makeSlice t x y) (hx : a.eval x = .int kl ((k : Nat) : Int)) (hy : a.eval y = .int kc ((k : Nat) : Int)) (ht : P.underlying t = some (.slice e)) {bytes : Nat} (hE : ElTy P e m bytes)
    (hk : k ≤ 20000000) (hby : bytes ≤ 1000) (hd : o.dst = some d) (hdn : Nat.blt d n = true)
    (h : ∀ a' w' g cs, cs.size = k * m → Fr a' n ((d, .slice (some ⟨g, 0, none⟩) k k) :: L) → Mm R w0 w' (.blk g e cs :: B) → wpList P ops.toArray Q rest a' w') : wpList P ops.toArray Q (o :: rest) a w :=
  wpList_step fun K hK => by
    rw [if_pos hw]
    obtain ⟨hm, z, hz, hinf⟩ := hE
    cases hq : P.info? e with
    | none => simp [hq] at hinf
    | some inf =>
      simp only [hq, Option.map_some, Option.some.injEq, Prod.mk.injEq] at hinf
      have hb' : (inf.bytes : Int) * (k : Int) ≤ 281474976710656 := by
        have h1 := Nat.mul_le_mul (hinf.2.2 ▸ hby : inf.bytes ≤ 1000) hk
        have : ((inf.bytes * k : Nat) : Int) ≤ 281474976710656 := by omega
        rwa [Int.natCast_mul] at this
      have hcell : k * inf.size ≤ k * inf.size := Nat.le_refl _
      have hr := run_make (P := P) w t e inf z ht hq hinf.1 kl kc (k : Int) (k : Int) (by omega) (Int.le_refl _) hb' (by omega)
      simp only [Int.toNat_natCast] at hr
      have hexec : (execOp a.eval o).run P w = .ok (.value (.slice (some ⟨w.heap.size, 0, none⟩) k k)) (w.alloc (.cells (madeCells z.cells (k * inf.size)) e)) := by
        simp only [execOp, ho, hx, hy]
        simp only [Sem.run_bind, hr, Result.andThen_ok, Sem.run_pure]
      unfold Oper.wp
      rw [hexec]
      refine hK _ _ ?_
      rw [hd]
      exact h _ _ _ _ (by simp [madeCells, hinf.2.1]) (F.put hdn) (M.alloc e _)
end
end Go.Proofs.Ytcnkakahhekobaa
