/- A variable that holds a slice of the call's own, turned by others; arrays of ints that are compared; a closure's form. Any seat with layer 7 in it. -/
import Derived.Test.YtlgeodnbkndciaaMq
import Derived.Test.YtlgeodnbkndciaaGr
import Derived.Test.YtlgeodnbkndciaaHm
import Derived.Test.YtlgeodnbkndciaaSo
import Derived.ChangeKeysEq
namespace Go.Proofs.Ytlgeodnbkndciaa
open Go.RowKit
set_option maxRecDepth 100000
set_option linter.unusedSimpArgs false
set_option linter.unusedVariables false

theorem blk_locS {p : Nat} {t : TypeId} {cs : Array Value} : Loc [p] (fun w => Blk w p t cs) := fun _ _ hk h =>
  ⟨(hk p (by simp)).trans h, fun g hg => by simp only [List.mem_singleton] at hg; subst hg; exact Blk.lt h⟩
def fpSv (B : Nat) (v : Value) : List Nat := B :: v.ownBlock.toList
/-- The variable B of type t holds the slice v of its own: n elements of type ts, m cells each, as cells xs. -/
structure SvV (B : Nat) (t ts : TypeId) (m n : Nat) (xs : List Value) (v : Value) (w : World) : Prop where
  blk : Blk w B t #[v]
  row : w.ownsRow 0 ts m v n xs
  ne : ¬ B ∈ v.ownBlock.toList
section
variable {R : List Nat} {w0 w w' : World} {C : List Ent} {B : Nat} {t ts : TypeId} {m n : Nat} {xs : List Value} {v : Value}
theorem SvV.loc (B : Nat) (t ts : TypeId) (m n : Nat) (xs : List Value) (v : Value) : Loc (fpSv B v) (SvV B t ts m n xs v) := fun w w' hk h => by
  have e1 := blk_locS w w' (fun k hk' => hk k (by simp only [List.mem_singleton] at hk'; simp [fpSv, hk'])) h.blk
  have hlt : ∀ k, v.ownBlock = some k → k < w.heap.size := fun k hk' => (World.ownsRow.lt h.row k hk').2
  refine ⟨⟨e1.1, ⟨h.row.1, ?_⟩, h.ne⟩, fun k hk' => ?_⟩
  · rcases h.row.2 with h4 | ⟨g, cap, cur, h4, h5, h6, h7⟩
    · exact .inl h4
    · exact .inr ⟨g, cap, cur, h4, h5, (hk g (by simp [fpSv, h4, Value.ownBlock])).trans h6, h7⟩
  · rcases List.mem_cons.1 hk' with rfl | h4
    · exact e1.2 k (by simp)
    · exact hlt k (by simpa using h4)
theorem Mm.packSv (M : Mm R w0 w (.row ts m v n xs :: .blk B t #[v] :: C)) : Mm R w0 w (.own (fpSv B v) (SvV B t ts m n xs v) :: C) := by
  have hap := M.apart (i := 1) (j := 0) rfl rfl (by decide)
  refine Mm.recast (X := [.row ts m v n xs, .blk B t #[v]]) (Y := [_]) M (fun y hy => ?_) (fun y hy g hg => ?_) (List.pairwise_singleton _ _) (fun y hy g hg => ?_)
  · rw [List.mem_singleton.1 hy]
    exact ⟨⟨M.at (i := 1) rfl, M.ow (i := 0) rfl, fun h => hap B (by simp [Ent.fp]) (by simpa [Ent.fp] using h)⟩, SvV.loc _ _ _ _ _ _ _⟩
  · rw [List.mem_singleton.1 hy] at hg
    rcases List.mem_cons.1 (show g ∈ B :: v.ownBlock.toList from hg) with rfl | h
    · exact ⟨.blk g t #[v], by simp, by simp [Ent.fp]⟩
    · exact ⟨.row ts m v n xs, by simp, h⟩
  · rw [List.mem_singleton.1 hy] at hg; cases hg
theorem Mm.unpackSv (M : Mm R w0 w (.own (fpSv B v) (SvV B t ts m n xs v) :: C)) : Mm R w0 w (.row ts m v n xs :: .blk B t #[v] :: C) := by
  have h := M.pv (i := 0) rfl
  refine Mm.recast (X := [.own (fpSv B v) (SvV B t ts m n xs v)]) (Y := [.row ts m v n xs, .blk B t #[v]]) M (fun y hy => ?_) (fun y hy g hg => ?_) ?_ (fun y hy g hg => ?_)
  · rcases List.mem_cons.1 hy with rfl | hy
    · exact h.row
    · rw [List.mem_singleton.1 hy]; exact h.blk
  · refine ⟨_, List.mem_singleton.2 rfl, ?_⟩
    show g ∈ B :: v.ownBlock.toList
    rcases List.mem_cons.1 hy with rfl | hy
    · exact List.mem_cons_of_mem _ hg
    · rw [List.mem_singleton.1 hy] at hg; simp only [Ent.fp, List.mem_singleton] at hg; simp [hg]
  · refine List.pairwise_cons.2 ⟨fun y hy g hg hg' => ?_, List.pairwise_singleton _ _⟩
    rw [List.mem_singleton.1 hy] at hg'
    simp only [Ent.fp, List.mem_singleton] at hg'
    subst hg'
    exact h.ne hg
  · rcases List.mem_cons.1 hy with rfl | hy
    · cases hg
    · rw [List.mem_singleton.1 hy] at hg; cases hg
theorem Mm.new1S (M : Mm [] w0 w C) {i : Nat} {x : Ent} (h : C[i]? = some x) : ∀ g ∈ x.fp, w0.heap.size ≤ g := fun g hg => (M.own x (List.mem_of_getElem? h) g hg).resolve_right (by simp)
/-- How a call ends that has turned the variable. -/
def SvZ (B : Nat) (t ts : TypeId) (m : Nat) (xs : List Value) (n : Nat) : Value → Ent → Prop := fun u x' => u = .tuple #[] ∧ ∃ v, x' = .own (fpSv B v) (SvV B t ts m n xs v)
theorem Mm.endSv {v0 : Value} {n0 : Nat} {xs0 : List Value} (M : Mm (fpSv B v0) w0 w C) {i : Nat} (hi : C[i]? = some (.own (fpSv B v) (SvV B t ts m n xs v))) :
    TurnsE w0 (.own (fpSv B v0) (SvV B t ts m n0 xs0 v0)) (SvZ B t ts m xs n) (.returned (.tuple #[])) w :=
  ⟨_, .own (fpSv B v) (SvV B t ts m n xs v), rfl, M.out, ⟨M.pv hi, SvV.loc _ _ _ _ _ _ _⟩, fun g hg => (M.own _ (List.mem_of_getElem? hi) g hg).elim .inr .inl, rfl, rfl, v, rfl⟩
end
/-! ### Calls of function values that turn something -/
section
variable {P : Program} {ops rest : List Oper} {o : Oper} {a : Act} {n d : Nat} {L : List (Nat × Value)} {Q : Exit → Act → World → Prop} {R : List Nat} {w w0 : World} {B : List Ent} {x : Operand}
theorem sq_callVT (F : Fr a n L) (M : Mm R w0 w B) (hw : Region.wanted o (yielded ops.toArray a.tmps) = true) {xs : List Operand} {ts : Array TypeId} {args : List Value} {f i : Nat} {lb : Array Value} {y : Ent} {Z : Value → Ent → Prop} (ho : o.op = .call { callee := .value x, args := xs.toArray, argTypes := ts })
    (hx : a.eval x = .func (.func f) #[] lb) (he : enters P f = true) (ha : xs.map a.eval = args) (hi : B[i]? = some y) (hc : Calls P f (args.toArray ++ lb) w (TurnsE w y Z)) (hd : o.dst = some d) (hdn : Nat.blt d n = true)
    (h : ∀ a' w' v x', Z v x' → Fr a' n ((d, v) :: L) → Mm R w0 w' (B.set i x') → wpList P ops.toArray Q rest a' w') : wpList P ops.toArray Q (o :: rest) a w :=
  wpList_step fun K hK => by
    rw [if_pos hw]
    unfold Oper.wp
    rw [run_callV ho hx ha w, callFunc_enters he]
    refine hc.mono fun e w' ⟨v, x', h1, h2, h3, h4, h5, h6⟩ => ?_
    subst h1
    exact hK _ _ (by rw [hd]; exact h _ _ v x' h6 (F.put hdn) (M.swap hi h2 h3 h4 (fun g hg => by rw [h5] at hg; cases hg)))
end
/-! ### Arrays of ints that are compared -/
section
variable {P : Program} {w : World} {t e : TypeId} {dd N : Nat}
theorem eqIs (he : P.underlying e = some (.int .i64)) {A B : List Int} (hl : A.length = B.length) : ∀ is : List Nat, (∀ i ∈ is, i < A.length) → (Op.eqItems (dd + 1) e 1 (List.toArray (cI A)) (List.toArray (cI B)) is).run P w = .ok (is.all fun i => decide (atI A i = atI B i)) w
  | [], _ => by simp [Op.eqItems]
  | i :: is, h => by
    have hi := h i (by simp)
    have c1 : (List.toArray (cI A))[i]? = some (.int .i64 (atI A i)) := by have := aI_at (T := A) hi; simpa using this
    have c2 : (List.toArray (cI B))[i]? = some (.int .i64 (atI B i)) := by have := aI_at (T := B) (hl ▸ hi); simpa using this
    have p1 : (part e (List.toArray (cI A)) i).run P w = .ok (.int .i64 (atI A i)) w := by
      have hq : (isAgg e).run P w = .ok false w := by simp [isAgg, run_underlying he, TypeDesc.isRow]
      simp [part, hq, c1]
    have p2 : (part e (List.toArray (cI B)) i).run P w = .ok (.int .i64 (atI B i)) w := by
      have hq : (isAgg e).run P w = .ok false w := by simp [isAgg, run_underlying he, TypeDesc.isRow]
      simp [part, hq, c2]
    have p3 : (Op.equalIn (dd + 1) e (.int .i64 (atI A i)) (.int .i64 (atI B i))).run P w = .ok (decide (atI A i = atI B i)) w := by
      rw [run_equalIn_int w dd e _ _ _ _ he]; congr 1
    have ih := eqIs he hl is (fun j hj => h j (by simp [hj]))
    simp only [Op.eqItems, Nat.mul_one, Sem.run_bind, p1, p2, p3, Result.andThen_ok, List.all_cons]
    cases hc : decide (atI A i = atI B i)
    · simp
    · simp [ih]
theorem eqIa (ht : P.underlying t = some (.array N e)) (he : P.underlying e = some (.int .i64)) (hi : (P.info? e).map (·.size) = some 1) (hc : P.cellsOf e = 1) {A B : List Int} (hA : A.length = N) (hB : B.length = N) : (Op.equalIn (dd + 2) t (.agg (List.toArray (cI A))) (.agg (List.toArray (cI B)))).run P w = .ok (decide (A = B)) w := by
  cases hq : P.info? e with
  | none => simp [hq] at hi
  | some i =>
    rw [run_equalIn_array w (dd + 1) _ _ ht hq, hc, eqIs he (hA.trans hB.symm) _ (fun i hi => by rw [hA]; exact List.mem_range.1 hi)]
    congr 1
    rw [Bool.eq_iff_iff, List.all_eq_true, decide_eq_true_iff]
    refine ⟨fun h => ext_atI (hA.trans hB.symm) fun k hk => ?_, fun h i _ => by rw [h]; simp⟩
    have := h k (List.mem_range.2 (hA ▸ hk))
    simpa using this
end
/-! ### A closure's form -/
/-- The first i of eight numbers, then noughts. -/
def upI (f : Nat → Int) (i : Nat) : List Int := (List.range 8).map fun q => if q < i then f q else 0
theorem upI_len (f : Nat → Int) (i : Nat) : (upI f i).length = 8 := by simp [upI]
theorem upI_at {f : Nat → Int} {i q : Nat} (h : q < 8) : atI (upI f i) q = if q < i then f q else 0 := by
  rw [atI_eq (by rw [upI_len]; exact h)]; simp [upI]
theorem upI_zero (f : Nat → Int) : List.replicate 8 0 = upI f (0 : Int).toNat := by
  apply ext_atI
  · rw [upI_len]; simp
  · intro k hk
    have hk8 : k < 8 := by simpa using hk
    rw [upI_at hk8, atI_eq hk, List.getElem_replicate]; simp
theorem upI_step {f : Nat → Int} {i : Int} (h0 : 0 ≤ i) (h8 : i < 8) : (upI f i.toNat).set i.toNat (f i.toNat) = upI f (i + 1).toNat := by
  apply ext_atI
  · rw [List.length_set, upI_len, upI_len]
  · intro k hk
    have hk8 : k < 8 := by rw [List.length_set, upI_len] at hk; exact hk
    rw [atI_set (by rw [upI_len]; omega), upI_at hk8, upI_at hk8, show (i + 1).toNat = i.toNat + 1 by omega]
    split
    · rename_i e; subst e; rw [if_pos (by omega)]
    · rename_i e
      by_cases hlt : k < i.toNat
      · rw [if_pos hlt, if_pos (by omega)]
      · rw [if_neg hlt, if_neg (by omega)]
theorem upI_eq {f g : Nat → Int} {i : Nat} (h8 : i ≤ 8) : upI f i = upI g i ↔ ∀ q, q < i → f q = g q := by
  constructor
  · intro h q hq
    have := congrArg (fun l => atI l q) h
    simp only [upI_at (show q < 8 by omega), if_pos hq] at this
    exact this
  · intro h
    unfold upI
    apply List.map_congr_left
    intro q hq
    split
    · exact h q (by assumption)
    · rfl
/-- Rows as many as c has, all of them as long. -/
def squareB (L : List (List (List St))) : Bool := decide (L.length ≤ 8) && L.all (fun r => decide (r.length = L.length))
theorem sq_big {L : List (List (List St))} (h : 8 < L.length) : squareB L = false := by
  unfold squareB; rw [decide_eq_false (by omega)]; rfl
theorem sq_all {L : List (List (List St))} {i : Int} (h8 : L.length ≤ 8) (h : ¬ i < (L.length : Int)) (h1 : i ≤ (L.length : Int)) :
    decide (upI (fun q => ((at3 L q).length : Int)) i.toNat = upI (fun _ => (L.length : Int)) i.toNat) = squareB L := by
  unfold squareB
  rw [decide_eq_true h8, Bool.true_and, Bool.eq_iff_iff, decide_eq_true_iff, upI_eq (by omega), List.all_eq_true]
  constructor
  · intro z r hr
    obtain ⟨q, hq, e⟩ := List.mem_iff_getElem.1 hr
    have := z q (by omega)
    rw [at3_eq hq, e] at this
    exact decide_eq_true (by omega)
  · intro z q hq
    have := of_decide_eq_true (z (at3 L q) (by rw [at3_eq (show q < L.length by omega)]; exact List.getElem_mem _))
    rw [this]
/-- c has the node. -/
def nodeB (L : List (List (List St))) (k : Int) : Bool := decide (0 ≤ k ∧ k < (L.length : Int))
theorem node_no {L : List (List (List St))} {k : Int} (h : ¬ (0 ≤ k ∧ k < (L.length : Int))) : nodeB L k = false := decide_eq_false h
theorem node_yes {L : List (List (List St))} {k : Int} (h : 0 ≤ k) : nodeB L k = decide (k < (L.length : Int)) := by unfold nodeB; rw [decide_eq_decide]; omega
theorem right_split (L : List (List (List St))) (p : Po) : rightC L p = (squareB L && (nodeB L p.n && p.t.rightB)) := by
  rw [Bool.eq_iff_iff, rightC_iff]
  unfold squareB nodeB
  simp only [Bool.and_eq_true, decide_eq_true_iff, List.all_eq_true]
  constructor
  · rintro ⟨⟨_, h8⟩, h2, h3, h4⟩; exact ⟨⟨h8, h2⟩, h3, h4⟩
  · rintro ⟨⟨h8, h2⟩, h3, h4⟩; exact ⟨⟨by omega, h8⟩, h2, h3, h4⟩
end Go.Proofs.Ytlgeodnbkndciaa
