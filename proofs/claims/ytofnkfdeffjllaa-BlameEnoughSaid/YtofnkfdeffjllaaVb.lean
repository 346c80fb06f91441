/- Package blame in memory: its cells; who is evicted, found one after another. Any seat with package blame in it. -/
import Derived.Test.YtofnkfdeffjllaaVm
import Derived.Test.YtofnkfdeffjllaaMq
import Derived.Test.YtofnkfdeffjllaaCt
import Derived.Test.YtofnkfdeffjllaaRk
namespace Go.Proofs.Ytofnkfdeffjllaa
open Go.RowKit
set_option maxRecDepth 100000
set_option linter.unusedSimpArgs false
set_option linter.unusedVariables false

/-- Seven bools. -/
def c7 (p : Int → Bool) : Array Value := #[.bool (p 0), .bool (p 1), .bool (p 2), .bool (p 3), .bool (p 4), .bool (p 5), .bool (p 6)]
theorem seven {i : Int} (h0 : 0 ≤ i) (h7 : i < 7) : i = 0 ∨ i = 1 ∨ i = 2 ∨ i = 3 ∨ i = 4 ∨ i = 5 ∨ i = 6 := by omega
theorem c7_at {p : Int → Bool} {i : Int} (h0 : 0 ≤ i) (h7 : i < 7) : (c7 p)[i.toNat]? = some (.bool (p i)) := by
  rcases seven h0 h7 with rfl | rfl | rfl | rfl | rfl | rfl | rfl <;> rfl
theorem c7_ext {p q : Int → Bool} (h : ∀ k, 0 ≤ k → k < 7 → p k = q k) : c7 p = c7 q := by
  unfold c7; rw [h 0 (by omega) (by omega), h 1 (by omega) (by omega), h 2 (by omega) (by omega), h 3 (by omega) (by omega), h 4 (by omega) (by omega), h 5 (by omega) (by omega), h 6 (by omega) (by omega)]
theorem c7_set {p q : Int → Bool} {i : Int} (h0 : 0 ≤ i) (h7 : i < 7) (hi : q i = true) (h : ∀ k, 0 ≤ k → k < 7 → k ≠ i → p k = q k) : (c7 p).setIfInBounds (0 + i.toNat * 1) (.bool true) = c7 q := by
  have e : ∀ k, 0 ≤ k → k < 7 → ¬ k = i → q k = p k := fun k a b c => (h k a b c).symm
  rcases seven h0 h7 with rfl | rfl | rfl | rfl | rfl | rfl | rfl <;> (unfold c7; simp [hi, e])
theorem run_index7 {p : Int → Bool} {i : Int} (h0 : 0 ≤ i) (h7 : i < 7) (W : World) : (Instr.index 43 (.agg (c7 p)) (.int .i64 i)).run Try.prog W = .ok (.bool (p i)) W := by
  have hi : (Try.prog.info? 4).map (·.size) = some 1 := by kernel_rfl
  cases hq : Try.prog.info? 4 with
  | none => simp [hq] at hi
  | some f =>
    have hi' : f.size = 1 := by simpa [hq] using hi
    have hv := c7_at (p := p) h0 h7
    simp [Instr.index, run_underlying Try.underlying43, asIntOf, h0, h7, sizeOf, typeInfo, hq, hi', part, hv]
theorem pu_idx7 {o : Oper} {a : Act} {x y : Operand} {p : Int → Bool} {i : Int} (ho : o.op = .index 43 x y) (hx : a.eval x = .agg (c7 p)) (hy : a.eval y = .int .i64 i) (h0 : 0 ≤ i) (h7 : i < 7) : Pure Try.prog o a (.bool (p i)) := fun w => by
  simp only [execOp, ho, hx, hy]; simp [run_index7 h0 h7]
/-- The cells of a blame. -/
structure BlC (c : Array Value) (S : Bs) : Prop where
  sz : c.size = 58
  cn : c[0]? = some (.int .i64 S.n)
  cf : c[1]? = some (.int .i64 S.f)
  ca : ∀ x y : Int, 0 ≤ x → x < 7 → 0 ≤ y → y < 7 → c[2 + y.toNat * 7 + x.toNat * 1]? = some (.bool (S.a x y))
  cg : ∀ y : Int, 0 ≤ y → y < 7 → c[51 + y.toNat * 1]? = some (.bool (S.g y))
  ok : OKB S
def BlaV (r : Nat) (fp : List Nat) (S : Bs) (w : World) : Prop := fp = [r] ∧ ∃ c, Blk w r 46 c ∧ BlC c S
theorem BlaV.loc (r : Nat) (fp : List Nat) (S : Bs) : Loc fp (BlaV r fp S) := fun w w' hk ⟨e, c, h, hc⟩ => by
  subst e
  have h1 := blk_loc w w' hk h
  exact ⟨⟨rfl, c, h1.1, hc⟩, h1.2⟩
theorem sub7 {c : Array Value} {p : Int → Bool} {o : Nat} (h : ∀ k : Int, 0 ≤ k → k < 7 → c[o + k.toNat * 1]? = some (.bool (p k))) : (c.toList.drop o).take 7 = (c7 p).toList := by
  apply List.ext_getElem?
  intro j
  rw [List.getElem?_take]
  by_cases hj : j < 7
  · rw [if_pos hj, List.getElem?_drop]
    have h1 := h (j : Int) (by omega) (by omega)
    have h2 := c7_at (p := p) (i := (j : Int)) (by omega) (by omega)
    rw [show ((j : Int)).toNat = j from by omega] at h1 h2
    rw [Nat.mul_one] at h1
    simp only [Array.getElem?_toList]
    rw [h1, h2]
  · rw [if_neg hj, List.getElem?_eq_none (by show 7 ≤ j; omega)]
section
variable {c : Array Value} {S : Bs} {r : Nat} {x y n f : Int} {w w' : World}
theorem BlC.acc (h : BlC c S) (e : accE S x y = 0) : BlC (c.setIfInBounds (2 + y.toNat * 7 + x.toNat * 1) (.bool true)) (accS S x y) := by
  have hx := acc_ok e
  have h7 := h.ok.n7
  have hs := h.sz
  refine ⟨by rw [Array.size_setIfInBounds]; exact h.sz, ?_, ?_, fun p q p0 p7 q0 q7 => ?_, fun q q0 q7 => ?_, okb_acc h.ok _ _⟩
  · rw [accS_n, Array.getElem?_setIfInBounds_ne (by omega)]; exact h.cn
  · rw [accS_f, Array.getElem?_setIfInBounds_ne (by omega)]; exact h.cf
  · rw [accS_a e]
    by_cases he : p = x ∧ q = y
    · obtain ⟨rfl, rfl⟩ := he
      rw [Array.getElem?_setIfInBounds_self_of_lt (by omega)]; simp
    · rw [Array.getElem?_setIfInBounds_ne (by omega), h.ca p q p0 p7 q0 q7]; simp [he]
  · rw [accS_g, Array.getElem?_setIfInBounds_ne (by omega)]; exact h.cg q q0 q7
theorem BlC.flt (h : BlC c S) (e : fltE S y = 0) : BlC (c.setIfInBounds (51 + y.toNat * 1) (.bool true)) (fltS S y) := by
  have hx := flt_ok e
  have h7 := h.ok.n7
  have hs := h.sz
  refine ⟨by rw [Array.size_setIfInBounds]; exact h.sz, ?_, ?_, fun p q p0 p7 q0 q7 => ?_, fun q q0 q7 => ?_, okb_flt h.ok _⟩
  · rw [fltS_n, Array.getElem?_setIfInBounds_ne (by omega)]; exact h.cn
  · rw [fltS_f, Array.getElem?_setIfInBounds_ne (by omega)]; exact h.cf
  · rw [fltS_a, Array.getElem?_setIfInBounds_ne (by omega)]; exact h.ca p q p0 p7 q0 q7
  · rw [fltS_g e]
    by_cases he : q = y
    · subst he
      rw [Array.getElem?_setIfInBounds_self_of_lt (by omega)]; simp
    · rw [Array.getElem?_setIfInBounds_ne (by omega), h.cg q q0 q7]; simp [he]
theorem blc_new (e : bnewE n f = 0) : BlC (.int .i64 n :: .int .i64 f :: List.replicate 56 (.bool false)).toArray (bnewS n f) := by
  have hz : ∀ j : Nat, 2 ≤ j → j < 58 → (Value.int .i64 n :: Value.int .i64 f :: List.replicate 56 (Value.bool false)).toArray[j]? = some (.bool false) := fun j h2 h8 => by
    obtain ⟨k, rfl⟩ := Nat.exists_eq_add_of_le h2
    rw [List.getElem?_toArray, show 2 + k = k + 1 + 1 by omega, List.getElem?_cons_succ, List.getElem?_cons_succ, List.getElem?_replicate, if_pos (by omega)]
  exact ⟨rfl, rfl, rfl, fun x y h1 h2 h3 h4 => hz _ (by omega) (by omega), fun y h1 h2 => hz _ (by omega) (by omega), okb_new e⟩
theorem bla_turned {S' : Bs} {z c0 : Int} {c' : Array Value} (ho : Out [r] w w') (hb : Blk w' r 46 c') (hc : BlC c' S') (hz : c0 = z) :
    TurnsE w (.own [r] (BlaV r [r] S)) (fun v x' => ∃ fp', v = .int .i64 c0 ∧ x' = .own fp' (BlaV r fp' S')) (.returned (.int .i64 z)) w' :=
  ⟨_, .own [r] (BlaV r [r] S'), rfl, ho, ⟨⟨rfl, c', hb, hc⟩, BlaV.loc _ _ _⟩, fun g hg => .inl hg, rfl, [r], by rw [hz], rfl⟩
theorem bla_accD (ho : Out [r] w w') (hc : BlC c S) (hx : wkB S x = true) (hy : wkB S y = true) (hn : ¬ x = y) (hb : Blk w' r 46 (if S.a x y then c else c.setIfInBounds (2 + y.toNat * 7 + x.toNat * 1) (.bool true))) :
    TurnsE w (.own [r] (BlaV r [r] S)) (fun v x' => ∃ fp', v = .int .i64 (accE S x y) ∧ x' = .own fp' (BlaV r fp' (accS S x y))) (.returned (.int .i64 (if S.a x y then 12 else 0))) w' := by
  cases ha : S.a x y with
  | true =>
    have e : accE S x y = 12 := by unfold accE; rw [if_neg (by rw [hx, hy]; simp [hn]), if_pos ha]
    rw [ha, if_pos rfl] at hb
    rw [if_pos rfl]
    exact bla_turned ho hb (by rw [accS_no (by rw [e]; decide)]; exact hc) e
  | false =>
    have e : accE S x y = 0 := acc_yes (wk_iff.1 hx) (wk_iff.1 hy) hn ha
    rw [ha, if_neg (by decide)] at hb
    rw [if_neg (by decide)]
    exact bla_turned ho hb (hc.acc e) e
theorem bla_fltD (ho : Out [r] w w') (hc : BlC c S) (hy : wkB S y = true) (hb : Blk w' r 46 (if S.g y then c else c.setIfInBounds (51 + y.toNat * 1) (.bool true))) :
    TurnsE w (.own [r] (BlaV r [r] S)) (fun v x' => ∃ fp', v = .int .i64 (fltE S y) ∧ x' = .own fp' (BlaV r fp' (fltS S y))) (.returned (.int .i64 (if S.g y then 12 else 0))) w' := by
  cases ha : S.g y with
  | true =>
    have e : fltE S y = 12 := by unfold fltE; rw [if_neg (by rw [hy]; simp), if_pos ha]
    rw [ha, if_pos rfl] at hb
    rw [if_pos rfl]
    exact bla_turned ho hb (by rw [fltS_no (by rw [e]; decide)]; exact hc) e
  | false =>
    have e : fltE S y = 0 := by unfold fltE; rw [if_neg (by rw [hy]; simp), if_neg (by rw [ha]; simp)]
    rw [ha, if_neg (by decide)] at hb
    rw [if_neg (by decide)]
    exact bla_turned ho hb (hc.flt e) e
theorem wk_not (h : wkB S x = false) : ¬ (0 ≤ x ∧ x < S.n) := fun z => by rw [wk_iff.2 z] at h; cases h
theorem acc_one (h : wkB S x = false ∨ wkB S y = false ∨ x = y) : accE S x y = 1 := if_pos h
/-! ### Who is evicted, found one after another -/
def goneF (S : Bs) (i k : Int) : Bool := S.g k || (decide (0 ≤ k ∧ k < i) && decide (S.f + 1 ≤ (((byL S k).length : Nat) : Int)))
def cntTo (S : Bs) (y j : Int) : Int := ((((rngI j).filter fun k => S.a k y).length : Nat) : Int)
theorem rngI_succ {j : Int} (h0 : 0 ≤ j) : rngI (j + 1) = rngI j ++ [j] := by
  unfold rngI
  rw [show (j + 1).toNat = j.toNat + 1 by omega, List.range_succ, List.map_append, List.map_singleton, show ((j.toNat : Nat) : Int) = j by omega]
theorem cnt_yes {j : Int} (h0 : 0 ≤ j) (h : S.a j y = true) : cntTo S y (j + 1) = cntTo S y j + 1 := by
  unfold cntTo; rw [rngI_succ h0, List.filter_append, List.length_append]; simp [h]
theorem cnt_no {j : Int} (h0 : 0 ≤ j) (h : S.a j y = false) : cntTo S y (j + 1) = cntTo S y j := by
  unfold cntTo; rw [rngI_succ h0, List.filter_append, List.length_append]; simp [h]
theorem cnt_zero : cntTo S y 0 = 0 := rfl
theorem cnt_nn {j : Int} : 0 ≤ cntTo S y j := by unfold cntTo; omega
theorem cnt_le {j : Int} (h0 : 0 ≤ j) (hj : j ≤ S.n) : cntTo S y j ≤ (((byL S y).length : Nat) : Int) := by
  unfold cntTo byL
  have h : ∀ m : Nat, ((rngI j).filter fun k => S.a k y).length ≤ ((rngI (j + (m : Int))).filter fun k => S.a k y).length := fun m => by
    induction m with
    | zero => rw [show j + ((0 : Nat) : Int) = j by omega]; exact Nat.le_refl _
    | succ m ih => rw [show j + ((m + 1 : Nat) : Int) = (j + (m : Int)) + 1 by omega, rngI_succ (by omega), List.filter_append, List.length_append]; omega
  have := h (S.n - j).toNat
  rw [show j + ((S.n - j).toNat : Int) = S.n by omega] at this
  omega
theorem goneF_zero {k : Int} : S.g k = goneF S 0 k := by unfold goneF; rw [show decide (0 ≤ k ∧ k < 0) = false from decide_eq_false (by omega)]; simp
theorem goneF_end {k : Int} : goneF S S.n k = isB S k := rfl
theorem goneF_no {i k : Int} (hi : S.f + 1 - cntTo S i S.n > 0) : goneF S i k = goneF S (i + 1) k := by
  unfold goneF
  by_cases e : k = i
  · subst e
    have : decide (S.f + 1 ≤ (((byL S k).length : Nat) : Int)) = false := decide_eq_false (by unfold cntTo at hi; unfold byL; omega)
    rw [this, Bool.and_false, Bool.and_false]
  · rw [show decide (0 ≤ k ∧ k < i) = decide (0 ≤ k ∧ k < i + 1) from decide_eq_decide.2 (by omega)]
theorem goneF_yes {i : Int} (h0 : 0 ≤ i) (h7 : i < 7) (h : S.f + 1 ≤ (((byL S i).length : Nat) : Int)) : (c7 (goneF S i)).setIfInBounds (0 + i.toNat * 1) (.bool true) = c7 (goneF S (i + 1)) :=
  c7_set h0 h7 (by unfold goneF; rw [decide_eq_true (by omega), decide_eq_true h]; simp) fun k h1 h2 h3 => by
    unfold goneF
    rw [show decide (0 ≤ k ∧ k < i) = decide (0 ≤ k ∧ k < i + 1) from decide_eq_decide.2 (by omega)]
theorem isB_off (hk : OKB S) (h : ¬ (0 ≤ x ∧ x < S.n)) : isB S x = false := by
  unfold isB; rw [wk_no h]
  cases hg : S.g x with
  | true => exact absurd (hk.fl x hg) h
  | false => rfl
/-- What stands in a set of at most n. -/
def flt7 (p : Int → Bool) : List Int := (rngI 7).filter p
theorem flt7_n {p : Int → Bool} {n : Int} (h0 : 0 ≤ n) (h7 : n ≤ 7) (h : ∀ k, n ≤ k → p k = false) : flt7 p = (rngI n).filter p := by
  have hm : ∀ m : Nat, ((rngI (n + (m : Int))).filter p) = (rngI n).filter p := fun m => by
    induction m with
    | zero => rw [show n + ((0 : Nat) : Int) = n by omega]
    | succ m ih => rw [show n + ((m + 1 : Nat) : Int) = (n + (m : Int)) + 1 by omega, rngI_succ (by omega), List.filter_append, ih, List.filter_cons, if_neg (by rw [h _ (by omega)]; simp)]; simp
  have := hm (7 - n).toNat
  rw [show n + ((7 - n).toNat : Int) = 7 by omega] at this
  exact this
theorem flt7_gone (hk : OKB S) : flt7 (isB S) = goneL S := flt7_n (by have := hk.n1; omega) hk.n7 fun k h => isB_off hk (by omega)
theorem flt7_by (hk : OKB S) : flt7 (fun k => S.a k y) = byL S y := flt7_n (by have := hk.n1; omega) hk.n7 fun k h => by
  cases ha : S.a k y with
  | false => rfl
  | true => have := (hk.ac k y ha).1; omega
def fltTo (p : Int → Bool) (i : Int) : List Int := (rngI i).filter p
theorem fltTo_zero {p : Int → Bool} : [] = fltTo p 0 := rfl
theorem fltTo_yes {p : Int → Bool} {i : Int} (h0 : 0 ≤ i) (h : p i = true) : fltTo p i ++ [i] = fltTo p (i + 1) := by unfold fltTo; rw [rngI_succ h0, List.filter_append]; simp [h]
theorem fltTo_no {p : Int → Bool} {i : Int} (h0 : 0 ≤ i) (h : p i = false) : fltTo p i = fltTo p (i + 1) := by unfold fltTo; rw [rngI_succ h0, List.filter_append]; simp [h]
theorem fltTo_len {p : Int → Bool} {i : Int} : (fltTo p i).length ≤ i.toNat := by unfold fltTo; have := List.length_filter_le p (rngI i); rw [rng_len] at this; exact this
end
section
variable {P : Program} {ops rest : List Oper} {o : Oper} {a : Act} {n d : Nat} {L : List (Nat × Value)} {Q : Exit → Act → World → Prop} {w w0 : World} {B : List Ent} {v : Value} {Z : List Nat} {f : FuncId} {xs : List Operand} {ts : Array TypeId} {args : List Value} {i g : Nat} {t : TypeId} {cs cs' : Array Value}
/-- A call that turns one block. -/
theorem bl_callB (F : Fr a n L) (M : Mm Z w0 w B) (hw : Region.wanted o (yielded ops.toArray a.tmps) = true) (ho : o.op = .call { callee := .value (.func f), args := xs.toArray, argTypes := ts }) (he : enters P f = true) (ha : xs.map a.eval = args) (hi : B[i]? = some (.blk g t cs)) (hc : Calls P f args.toArray w fun e w' => e = .returned v ∧ Out [g] w w' ∧ Blk w' g t cs') (hd : o.dst = some d) (hdn : Nat.blt d n = true)
    (h : ∀ a' w', Fr a' n ((d, v) :: L) → Mm Z w0 w' (B.set i (.blk g t cs')) → wpList P ops.toArray Q rest a' w') : wpList P ops.toArray Q (o :: rest) a w :=
  sq_callR F hw ho he ha hc hd hdn fun e w' hR => by
    obtain ⟨h1, h2, h3⟩ := hR
    exact ⟨v, h1, fun a' F' => h a' w' F' (M.swap hi (x' := .blk g t cs') h2 h3 (fun q hq => .inl hq) (fun q hq => by cases hq))⟩
end
theorem lt_cell {c : Array Value} {j : Nat} {v : Value} (h : c[j]? = some v) : j < c.size := by
  rcases Nat.lt_or_ge j c.size with z | z
  · exact z
  · rw [Array.getElem?_eq_none z] at h; cases h
end Go.Proofs.Ytofnkfdeffjllaa
