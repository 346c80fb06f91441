/- Frames and memory told by lists: a logic in which the frame and the world are variables. Any seat. -/
import Derived.Test.YtolhinemfncejaaTl
import Derived.IntWalk
import Derived.Deep.MidRow
namespace Go.Proofs.Ytolhinemfncejaa
open Go.RowKit

/-! ### Frames -/
def look : List (Nat × Value) → Nat → Option Value
  | [], _ => none
  | (j, u) :: r, k => cond (Nat.beq j k) (some u) (look r k)
/-- What is known of a frame: its size, no deferred call, what lies in some of its slots. -/
structure Fr (a : Act) (n : Nat) (L : List (Nat × Value)) : Prop where
  size : a.tmps.size = n
  defers : a.defers = []
  get : ∀ {k : Nat} {v : Value}, look L k = some v → a.tmps.getD k undef = v
section
variable {a : Act} {n : Nat} {L : List (Nat × Value)}
theorem Fr.ev (F : Fr a n L) {k : Nat} {v : Value} (h : look L k = some v) : a.eval (.tmp k) = v := F.get h
theorem Fr.nil (F : Fr a n L) : Fr a n [] := ⟨F.size, F.defers, fun h => by cases h⟩
theorem Fr.cons (F : Fr a n L) {k : Nat} {v : Value} (h : a.tmps.getD k undef = v) : Fr a n ((k, v) :: L) := ⟨F.size, F.defers, fun {j u} hj => by
  simp only [look] at hj
  cases hb : Nat.beq k j
  · rw [hb] at hj; exact F.get hj
  · rw [hb] at hj
    have := Nat.eq_of_beq_eq_true hb
    subst this
    injection hj with hj
    rw [h, hj]⟩
theorem Fr.put (F : Fr a n L) {d : Nat} {v : Value} (hd : Nat.blt d n = true) : Fr (a.put (some d) v) n ((d, v) :: L) := by
  have hlt : d < n := Nat.le_of_ble_eq_true hd
  refine ⟨by simp [Act.put, F.size], by simp [Act.put, F.defers], fun {j u} hj => ?_⟩
  simp only [look] at hj
  cases hb : Nat.beq d j
  · rw [hb] at hj
    have hne : d ≠ j := fun e => by subst e; simp at hb
    have := F.get hj
    simp only [Act.put, Array.getD_eq_getD_getElem?, Array.getElem?_setIfInBounds, hne, if_false] at this ⊢
    exact this
  · rw [hb] at hj
    have := Nat.eq_of_beq_eq_true hb
    subst this
    injection hj with hj
    subst hj
    simp [Act.put, F.size, hlt]
def argL : Nat → List Value → List (Nat × Value)
  | _, [] => []
  | i, v :: r => (i, v) :: argL (i + 1) r
theorem look_argL : ∀ (vs : List Value) (i k : Nat) (v : Value), look (argL i vs) k = some v → i ≤ k ∧ vs[k - i]? = some v
  | [], _, _, _, h => by cases h
  | u :: r, i, k, v, h => by
    simp only [argL, look] at h
    cases hb : Nat.beq i k
    · rw [hb] at h
      obtain ⟨h1, h2⟩ := look_argL r (i + 1) k v h
      refine ⟨by omega, ?_⟩
      rw [show k - i = (k - (i + 1)) + 1 from by omega]
      simpa using h2
    · rw [hb] at h
      have := Nat.eq_of_beq_eq_true hb
      subst this
      simpa using h
theorem enterF {P : Program} {f : FuncId} {fn : Func} {c : Code} {w : World} {R : Ending → World → Prop} (hf : P.funcs[f]? = some fn) (hb : fn.body = some c) (n : Nat) (hn : fn.ntmps = n) (vs : List Value) (hlen : Nat.ble vs.length n = true) (L : List (Nat × Value)) (hL : argL 0 vs = L)
    (h : ∀ a, Fr a n L → c.wp P (bodyPost P fn R) a w) : Calls P f vs.toArray w R := by
  subst hL
  have hlen' : vs.length ≤ n := Nat.le_of_ble_eq_true hlen
  refine calls_of_wp hf hb (h _ ⟨by simp [hn]; omega, rfl, fun {k v} hk => ?_⟩)
  obtain ⟨_, h2⟩ := look_argL vs 0 k v hk
  have hk' : k < vs.length := by
    rcases Nat.lt_or_ge k vs.length with h | h
    · exact h
    · rw [Nat.sub_zero, List.getElem?_eq_none h] at h2; cases h2
  rw [Nat.sub_zero, List.getElem?_eq_getElem hk'] at h2
  injection h2 with h2
  simp only [Array.getD_eq_getD_getElem?]
  rw [Array.getElem?_append_left (by simpa using hk')]
  simp [hk', h2]
end

/-! ### Memory: blocks of the call's own, known whole; what was there is as it was -/
structure Mm (w0 w : World) (B : List (Nat × TypeId × Array Value)) : Prop where
  bel : Below w0.heap.size w0 w
  blk : ∀ x ∈ B, Blk w x.1 x.2.1 x.2.2
  own : ∀ x ∈ B, w0.heap.size ≤ x.1
  nd : (B.map (·.1)).Nodup
section
variable {w0 w w' : World} {B : List (Nat × TypeId × Array Value)}
theorem Mm.start (w : World) : Mm w w [] := ⟨Below.refl _ _, by simp, by simp, by simp⟩
theorem Mm.at (M : Mm w0 w B) {i g : Nat} {t : TypeId} {cs : Array Value} (h : B[i]? = some (g, t, cs)) : Blk w g t cs := M.blk _ (List.mem_of_getElem? h)
theorem Mm.below (M : Mm w0 w B) (hb : Below w.heap.size w w') : Mm w0 w' B :=
  ⟨bth M.bel hb, fun x hx => (M.blk x hx).below hb (M.blk x hx).lt, M.own, M.nd⟩
theorem Mm.alloc (M : Mm w0 w B) (t : TypeId) (cs : Array Value) : Mm w0 (w.alloc (.cells cs t)) ((w.heap.size, t, cs) :: B) := by
  refine ⟨M.bel.alloc M.bel.size _, fun x hx => ?_, fun x hx => ?_, ?_⟩
  · rcases List.mem_cons.1 hx with rfl | h
    · exact Blk.new _ _ _
    · exact (M.blk x h).alloc _
  · rcases List.mem_cons.1 hx with rfl | h
    · exact M.bel.size
    · exact M.own x h
  · simp only [List.map_cons, List.nodup_cons]
    refine ⟨fun h => ?_, M.nd⟩
    obtain ⟨x, hx, he⟩ := List.mem_map.1 h
    have := (M.blk x hx).lt
    omega
theorem Mm.setRow (M : Mm w0 w B) {i g : Nat} {t : TypeId} {cs : Array Value} (h : B[i]? = some (g, t, cs)) (cs' : Array Value) : Mm w0 (w.setRow g cs') (B.set i (g, t, cs')) := by
  have hi : i < B.length := by
    rcases Nat.lt_or_ge i B.length with h1 | h1
    · exact h1
    · rw [List.getElem?_eq_none h1] at h; cases h
  have hgi : B[i] = (g, t, cs) := by rw [List.getElem?_eq_getElem hi] at h; injection h
  have hmap : (B.set i (g, t, cs')).map (·.1) = B.map (·.1) := by
    rw [List.map_set]
    apply List.ext_getElem (by simp)
    intro j h1 h2
    rw [List.getElem_set]
    split
    · rename_i e; subst e; simp [hgi]
    · rfl
  have hmem : ∀ x ∈ B.set i (g, t, cs'), x = (g, t, cs') ∨ (x ∈ B ∧ x.1 ≠ g) := by
    intro x hx
    obtain ⟨j, hj, rfl⟩ := List.mem_iff_getElem.1 hx
    rw [List.getElem_set]
    split
    · exact .inl rfl
    · rename_i hne
      simp only [List.length_set] at hj
      refine .inr ⟨List.getElem_mem _, fun he => ?_⟩
      have hn := List.pairwise_iff_getElem.1 M.nd
      rcases Nat.lt_or_gt_of_ne hne with hlt | hlt
      · exact hn i j (by simpa using hi) (by simpa using hj) hlt (by simp [he, hgi])
      · exact hn j i (by simpa using hj) (by simpa using hi) hlt (by simp [he, hgi])
  refine ⟨below_setRow M.bel (M.own (g, t, cs) (List.mem_of_getElem? h)) _, fun x hx => ?_, fun x hx => ?_, by rw [hmap]; exact M.nd⟩
  · rcases hmem x hx with rfl | ⟨h1, h2⟩
    · exact (M.at h).row _
    · exact (M.blk x h1).rowFar h2 _
  · rcases hmem x hx with rfl | ⟨h1, h2⟩
    · exact M.own (g, t, cs) (List.mem_of_getElem? h)
    · exact M.own x h1
theorem Mm.drew (M : Mm w0 w B) : Mm w0 w.drew B := M.below (Below.refl _ _).drew
end

/-! ### Which operations are carried out -/
section
variable {P : Program} {ops : List Oper} {o oj : Oper} {a : Act} {n : Nat} {L : List (Nat × Value)}
theorem wt0 {ops : Array Oper} (h : o.guard = none) : Region.wanted o (yielded ops a.tmps) = true := by simp [Region.wanted, h]
theorem wt1 (F : Fr a n L) {j d : Nat} {b : Bool} (hg : o.guard = some (j, b)) (hj : ops[j]? = some oj) (hd : oj.dst = some d) (hv : look L d = some (.bool b)) (hn : Nat.blt d n = true) : Region.wanted o (yielded ops.toArray a.tmps) = true := by
  have hlt : d < n := Nat.le_of_ble_eq_true hn
  have hs := F.size
  have ht := F.get hv
  simp only [Array.getD_eq_getD_getElem?] at ht
  rw [Array.getElem?_eq_getElem (by omega)] at ht
  simp only [Option.getD_some] at ht
  simp [Region.wanted, hg, yielded, hj, hd, Array.getElem?_eq_getElem (show d < a.tmps.size by omega), ht]
theorem wtn (F : Fr a n L) {j d : Nat} {b : Bool} (hg : o.guard = some (j, b)) (hj : ops[j]? = some oj) (hd : oj.dst = some d) (hv : look L d = some (.bool !b)) (hn : Nat.blt d n = true) : Region.wanted o (yielded ops.toArray a.tmps) = false := by
  have hlt : d < n := Nat.le_of_ble_eq_true hn
  have hs := F.size
  have ht := F.get hv
  simp only [Array.getD_eq_getD_getElem?] at ht
  rw [Array.getElem?_eq_getElem (by omega)] at ht
  simp only [Option.getD_some] at ht
  simp [Region.wanted, hg, yielded, hj, hd, Array.getElem?_eq_getElem (show d < a.tmps.size by omega), ht]
/-- The guard's own operation was not carried out: neither is this one. -/
theorem wtu (F : Fr a n L) {j d : Nat} {b : Bool} (hg : o.guard = some (j, b)) (hj : ops[j]? = some oj) (hd : oj.dst = some d) (hv : look L d = some undef) (hn : Nat.blt d n = true) : Region.wanted o (yielded ops.toArray a.tmps) = false := by
  have hlt : d < n := Nat.le_of_ble_eq_true hn
  have hs := F.size
  have ht := F.get hv
  simp only [Array.getD_eq_getD_getElem?] at ht
  rw [Array.getElem?_eq_getElem (by omega)] at ht
  simp only [Option.getD_some] at ht
  simp [Region.wanted, hg, yielded, hj, hd, Array.getElem?_eq_getElem (show d < a.tmps.size by omega), ht, undef]
end

/-! ### Pure operations: the value, in whatever world -/
def Pure (P : Program) (o : Oper) (a : Act) (v : Value) : Prop := ∀ w, (execOp a.eval o).run P w = .ok (.value v) w
section
variable {P : Program} {o : Oper} {a : Act} {x y c : Operand} {v u : Value}
theorem pu_move (ho : o.op = .move x) (hx : a.eval x = v) : Pure P o a v := fun w => by simp [execOp, ho, hx]
theorem pu_assign (ho : o.op = .assign x) (hx : a.eval x = v) : Pure P o a v := fun w => by simp [execOp, ho, hx]
theorem pu_pickt (ho : o.op = .pick c x y) (hc : a.eval c = .bool true) (hx : a.eval x = v) : Pure P o a v := fun w => by simp only [execOp, ho, hx, hc]; simp [go_sem]
theorem pu_pickf (ho : o.op = .pick c x y) (hc : a.eval c = .bool false) (hy : a.eval y = v) : Pure P o a v := fun w => by simp only [execOp, ho, hy, hc]; simp [go_sem]
theorem pu_not {t : TypeId} {b : Bool} (ho : o.op = .unOp .not t x) (hx : a.eval x = .bool b) : Pure P o a (.bool !b) := fun w => by simp only [execOp, ho, hx]; simp [go_sem]
section
variable {t t' : TypeId} {k : IntKind} {i j : Int}
theorem pu_neg (ho : o.op = .unOp .neg t x) (hx : a.eval x = .int .i64 i) (h : -9223372036854775808 ≤ -i ∧ -i ≤ 9223372036854775807) : Pure P o a (.int .i64 (-i)) := fun w => by
  simp only [execOp, ho, hx]; simp [go_sem, IntWalk.i64_in _ h]
theorem pu_lss (ho : o.op = .binOp .lss t x y t') (hx : a.eval x = .int k i) (hy : a.eval y = .int k j) : Pure P o a (.bool (decide (i < j))) := fun w => by simp only [execOp, ho, hx, hy]; simp [go_sem]
theorem pu_leq (ho : o.op = .binOp .leq t x y t') (hx : a.eval x = .int k i) (hy : a.eval y = .int k j) : Pure P o a (.bool (decide (i ≤ j))) := fun w => by simp only [execOp, ho, hx, hy]; simp [go_sem]
theorem pu_gtr (ho : o.op = .binOp .gtr t x y t') (hx : a.eval x = .int k i) (hy : a.eval y = .int k j) : Pure P o a (.bool (decide (j < i))) := fun w => by simp only [execOp, ho, hx, hy]; simp [go_sem]
theorem pu_geq (ho : o.op = .binOp .geq t x y t') (hx : a.eval x = .int k i) (hy : a.eval y = .int k j) : Pure P o a (.bool (decide (j ≤ i))) := fun w => by simp only [execOp, ho, hx, hy]; simp [go_sem]
theorem pu_eqlI (ho : o.op = .binOp .eql t x y t') (hx : a.eval x = .int k i) (hy : a.eval y = .int k j) : Pure P o a (.bool (decide (i = j))) := fun w => by simp only [execOp, ho, hx, hy]; simp [go_sem]; rfl
theorem pu_neqI (ho : o.op = .binOp .neq t x y t') (hx : a.eval x = .int k i) (hy : a.eval y = .int k j) : Pure P o a (.bool (!decide (i = j))) := fun w => by simp only [execOp, ho, hx, hy]; simp [go_sem]; rfl
theorem pu_add (ho : o.op = .binOp .add t x y t') (hx : a.eval x = .int .i64 i) (hy : a.eval y = .int .i64 j) (h1 : -9223372036854775808 ≤ i + j) (h2 : i + j ≤ 9223372036854775807) : Pure P o a (.int .i64 (i + j)) := fun w => by
  simp only [execOp, ho, hx, hy]; simp [go_sem, IntWalk.i64_in _ ⟨h1, h2⟩]
theorem pu_sub (ho : o.op = .binOp .sub t x y t') (hx : a.eval x = .int .i64 i) (hy : a.eval y = .int .i64 j) (h1 : -9223372036854775808 ≤ i - j) (h2 : i - j ≤ 9223372036854775807) : Pure P o a (.int .i64 (i - j)) := fun w => by
  simp only [execOp, ho, hx, hy]; simp [go_sem, IntWalk.i64_in _ ⟨h1, h2⟩]
end
theorem pu_eqlB {t t' : TypeId} {b b' : Bool} (ho : o.op = .binOp .eql t x y t') (hx : a.eval x = .bool b) (hy : a.eval y = .bool b') (ht : P.underlying t = some .bool) : Pure P o a (.bool (b == b')) := fun w => by
  simp only [execOp, ho, hx, hy]; simp [go_sem, ht]
theorem pu_eqlA {t t' : TypeId} {xs ys : Array Value} {b : Bool} (ho : o.op = .binOp .eql t x y t') (hx : a.eval x = .agg xs) (hy : a.eval y = .agg ys) (hg : P.eqGuardType P.depth t = false) (he : ∀ w, (Op.equalIn 10000 t (.agg xs) (.agg ys)).run P w = .ok b w) : Pure P o a (.bool b) := fun w => by
  simp only [execOp, ho, hx, hy]; simp [go_sem, hg, he]
theorem pu_neqA {t t' : TypeId} {xs ys : Array Value} {b : Bool} (ho : o.op = .binOp .neq t x y t') (hx : a.eval x = .agg xs) (hy : a.eval y = .agg ys) (hg : P.eqGuardType P.depth t = false) (he : ∀ w, (Op.equalIn 10000 t (.agg xs) (.agg ys)).run P w = .ok b w) : Pure P o a (.bool !b) := fun w => by
  simp only [execOp, ho, hx, hy]; simp [go_sem, hg, he]
/-- The place of a field in its struct, in cells. -/
def fieldOff (P : Program) (s : TypeId) (f : Nat) : Option Nat :=
  match P.underlying s with
  | some (.struct fs) => match fs[f]? with
    | some fd => match P.info? fd.type with
      | some i => if i.size = 0 then none else some fd.offset
      | none => none
    | none => none
  | _ => none
theorem pu_field {s : TypeId} {f g k q : Nat} (ho : o.op = .fieldAddr s x f) (hx : a.eval x = .pointer (some ⟨g, k, none⟩)) (hf : fieldOff P s f = some q) : Pure P o a (.pointer (some ⟨g, k + q, none⟩)) := fun w => by
  unfold fieldOff at hf
  split at hf
  · rename_i fs hs
    split at hf
    · rename_i fd hfd
      split at hf
      · rename_i i hi
        split at hf
        · cases hf
        · rename_i hz
          injection hf with hf
          simp only [execOp, ho, hx]; simp [go_sem, Instr.fieldAt, run_underlying hs, hfd, sizeOf, typeInfo, hi, hz, hf]
      · cases hf
    · cases hf
  · cases hf
theorem pu_extract {vs : Array Value} {i : Nat} (ho : o.op = .extract x i) (hx : a.eval x = .tuple vs) (hv : vs[i]? = some v) : Pure P o a v := fun w => by simp only [execOp, ho, hx]; simp [go_sem, Instr.extract, hv]
end
/-! ### Operations that read memory: the value, in every world of a class -/
def Rdy (P : Program) (o : Oper) (a : Act) (C : World → Prop) (v : Value) : Prop := ∀ w, C w → (execOp a.eval o).run P w = .ok (.value v) w
def AggTy (P : Program) (ty : TypeId) (m : Nat) : Prop := ∃ d, P.underlying ty = some d ∧ d.isRow = true ∧ (P.info? ty).map (·.size) = some m
def OneTy (P : Program) (ty : TypeId) : Prop := ∃ d, P.underlying ty = some d ∧ (match d with | .struct _ | .array _ _ => true | _ => false) = false
section
variable {P : Program} {o : Oper} {a : Act} {x y : Operand} {v : Value} {C : World → Prop} {ty t : TypeId} {g k m : Nat} {cs : Array Value}
theorem Pure.rdy (h : Pure P o a v) : Rdy P o a C v := fun w _ => h w
theorem Mm.rd {w0 w : World} {B : List (Nat × TypeId × Array Value)} (M : Mm w0 w B) {i : Nat} (h : B[i]? = some (g, t, cs)) : ∀ w', w' = w → Blk w' g t cs := fun _ e => e ▸ M.at h
theorem Mm.rdB {w0 w : World} {B : List (Nat × TypeId × Array Value)} (M : Mm w0 w B) {i : Nat} (h : B[i]? = some (g, t, cs)) : ∀ w', Below w.heap.size w w' → Blk w' g t cs := fun _ e => (M.at h).below e (M.at h).lt
theorem ld_agg (ho : o.op = .load ty x) (hx : a.eval x = .pointer (some ⟨g, 0, none⟩)) (hT : AggTy P ty m) (hb : ∀ w, C w → Blk w g t cs) (hm : cs.size = m) : Rdy P o a C (.agg cs) := fun w hC => by
  obtain ⟨d, hu, hd, hi⟩ := hT
  have hc : w.rangeAt g 0 cs.toList := fun j v hv => by
    rw [Nat.zero_add, (hb w hC).cell]
    simpa using hv
  simp only [execOp, ho, hx]
  simp only [Sem.run_bind, run_loadAt_mid w g 0 ty cs.toList d hc hu hd (by rw [hi]; simp [hm])]
  simp
theorem ld_sub {vs : List Value} (ho : o.op = .load ty x) (hx : a.eval x = .pointer (some ⟨g, k, none⟩)) (hT : AggTy P ty m) (hb : ∀ w, C w → Blk w g t cs) (hv : (cs.toList.drop k).take m = vs) (hm : vs.length = m) : Rdy P o a C (.agg vs.toArray) := fun w hC => by
  obtain ⟨d, hu, hd, hi⟩ := hT
  have hc : w.rangeAt g k vs := fun j v hj => by
    rw [(hb w hC).cell, ← hj, ← hv]
    have hj' : j < m := by
      rcases Nat.lt_or_ge j m with h | h
      · exact h
      · rw [List.getElem?_eq_none (by omega)] at hj; cases hj
    simp [hj']
  simp only [execOp, ho, hx]
  simp only [Sem.run_bind, run_loadAt_mid w g k ty vs d hc hu hd (by rw [hi, hm])]
  simp
theorem ld_at (ho : o.op = .load ty x) {p : Addr} (hx : a.eval x = .pointer (some p)) (hT : OneTy P ty) (hc : ∀ w, C w → w.cell? p = some v) : Rdy P o a C v := fun w hC => by
  obtain ⟨d, hu, hd⟩ := hT
  have hagg : (isAgg ty).run P w = .ok false w := by
    unfold isAgg
    rw [Sem.run_bind, run_underlying hu w]
    cases d <;> simp_all
  simp only [execOp, ho, hx]
  simp [Instr.loadAt, Instr.sureAddr, loadVar, hagg, hc w hC]
theorem ld_cell (ho : o.op = .load ty x) (hx : a.eval x = .pointer (some ⟨g, k, none⟩)) (hT : OneTy P ty) (hb : ∀ w, C w → Blk w g t cs) (hc : cs[k]? = some v) : Rdy P o a C v :=
  ld_at ho hx hT fun w hC => by rw [(hb w hC).cell, hc]
end

/-! ### One operation after another, in a region of one order -/
section
variable {P : Program} {ops rest : List Oper} {o : Oper} {a : Act} {n d : Nat} {L : List (Nat × Value)} {Q : Exit → Act → World → Prop} {w w0 : World} {B : List (Nat × TypeId × Array Value)} {v : Value} {x y : Operand}
theorem sq_rd (F : Fr a n L) (hw : Region.wanted o (yielded ops.toArray a.tmps) = true) (hp : Rdy P o a (fun w' => w' = w) v) (hd : o.dst = some d) (hdn : Nat.blt d n = true)
    (h : ∀ a', Fr a' n ((d, v) :: L) → wpList P ops.toArray Q rest a' w) : wpList P ops.toArray Q (o :: rest) a w :=
  wpList_step fun K hK => by
    rw [if_pos hw]
    unfold Oper.wp
    rw [hp w rfl]
    exact hK _ _ (by rw [hd]; exact h _ (F.put hdn))
theorem sq_pure (F : Fr a n L) (hw : Region.wanted o (yielded ops.toArray a.tmps) = true) (hp : Pure P o a v) (hd : o.dst = some d) (hdn : Nat.blt d n = true)
    (h : ∀ a', Fr a' n ((d, v) :: L) → wpList P ops.toArray Q rest a' w) : wpList P ops.toArray Q (o :: rest) a w := sq_rd F hw hp.rdy hd hdn h
theorem sq_skip (F : Fr a n L) (hw : Region.wanted o (yielded ops.toArray a.tmps) = false) (hd : o.dst = some d) (hdn : Nat.blt d n = true)
    (h : ∀ a', Fr a' n ((d, undef) :: L) → wpList P ops.toArray Q rest a' w) : wpList P ops.toArray Q (o :: rest) a w :=
  wpList_step fun K hK => by
    rw [if_neg (by rw [hw]; decide)]
    exact hK _ _ (by rw [hd]; exact h _ (F.put hdn))
theorem sq_call (F : Fr a n L) (M : Mm w0 w B) (hw : Region.wanted o (yielded ops.toArray a.tmps) = true) {f : FuncId} {xs : List Operand} {ts : Array TypeId} {args : List Value} (ho : o.op = .call { callee := .value (.func f), args := xs.toArray, argTypes := ts })
    (he : enters P f = true) (ha : xs.map a.eval = args) (hc : Calls P f args.toArray w fun e w' => e = .returned v ∧ Below w.heap.size w w') (hd : o.dst = some d) (hdn : Nat.blt d n = true)
    (h : ∀ a' w', Fr a' n ((d, v) :: L) → Mm w0 w' B → wpList P ops.toArray Q rest a' w') : wpList P ops.toArray Q (o :: rest) a w :=
  wpList_step fun K hK => by
    rw [if_pos hw]
    unfold Oper.wp
    rw [run_enter he ho w, List.map_toArray, ha]
    refine hc.mono fun e w' ⟨h1, h2⟩ => ?_
    subst h1
    exact hK _ _ (by rw [hd]; exact h _ _ (F.put hdn) (M.below h2))
/-- A call whatever it is that its contract says. -/
theorem sq_callR (F : Fr a n L) (hw : Region.wanted o (yielded ops.toArray a.tmps) = true) {f : FuncId} {xs : List Operand} {ts : Array TypeId} {args : List Value} {R : Ending → World → Prop} (ho : o.op = .call { callee := .value (.func f), args := xs.toArray, argTypes := ts })
    (he : enters P f = true) (ha : xs.map a.eval = args) (hc : Calls P f args.toArray w R) (hd : o.dst = some d) (hdn : Nat.blt d n = true)
    (h : ∀ e w', R e w' → ∃ v, e = .returned v ∧ ∀ a', Fr a' n ((d, v) :: L) → wpList P ops.toArray Q rest a' w') : wpList P ops.toArray Q (o :: rest) a w :=
  wpList_step fun K hK => by
    rw [if_pos hw]
    unfold Oper.wp
    rw [run_enter he ho w, List.map_toArray, ha]
    refine hc.mono fun e w' hR => ?_
    obtain ⟨v, rfl, h2⟩ := h e w' hR
    exact hK _ _ (by rw [hd]; exact h2 _ (F.put hdn))
theorem sq_box (F : Fr a n L) (M : Mm w0 w B) (hw : Region.wanted o (yielded ops.toArray a.tmps) = true) {t : TypeId} (ho : o.op = .box t x) (hx : a.eval x = v) {cs : Array Value} (hcs : v.cells = cs) (hd : o.dst = some d) (hdn : Nat.blt d n = true)
    (h : ∀ a' w' g, Fr a' n ((d, .pointer (some ⟨g, 0, none⟩)) :: L) → Mm w0 w' ((g, t, cs) :: B) → wpList P ops.toArray Q rest a' w') : wpList P ops.toArray Q (o :: rest) a w :=
  wpList_step fun K hK => by
    rw [if_pos hw]
    have hr : (execOp a.eval o).run P w = .ok (.value (.pointer (some ⟨w.heap.size, 0, none⟩))) (w.alloc (.cells cs t)) := by
      simp only [execOp, ho, hx]
      simp [Instr.box, newVar, newRow, go_sem]
      rw [← hcs]
      rfl
    unfold Oper.wp
    rw [hr]
    exact hK _ _ (by rw [hd]; exact h _ _ _ (F.put hdn) (M.alloc t cs))
theorem sq_alloc (F : Fr a n L) (M : Mm w0 w B) (hw : Region.wanted o (yielded ops.toArray a.tmps) = true) {t : TypeId} (ho : o.op = .alloc t) {cs : Array Value} (hz : (P.info? t).map (fun i => i.zero.map (·.cells)) = some (some cs)) (hd : o.dst = some d) (hdn : Nat.blt d n = true)
    (h : ∀ a' w' g, Fr a' n ((d, .pointer (some ⟨g, 0, none⟩)) :: L) → Mm w0 w' ((g, t, cs) :: B) → wpList P ops.toArray Q rest a' w') : wpList P ops.toArray Q (o :: rest) a w :=
  wpList_step fun K hK => by
    rw [if_pos hw]
    have hr : (execOp a.eval o).run P w = .ok (.value (.pointer (some ⟨w.heap.size, 0, none⟩))) (w.alloc (.cells cs t)) := by
      cases hq : P.info? t with
      | none => simp [hq] at hz
      | some i =>
        simp only [hq, Option.map_some, Option.some.injEq] at hz
        obtain ⟨z, hz1, hz2⟩ := Option.map_eq_some_iff.1 hz
        simp [execOp, ho, Instr.alloc, zeroValue, typeInfo, hq, hz1, newVar, newRow, go_sem]
        rw [← hz2]
        rfl
    unfold Oper.wp
    rw [hr]
    exact hK _ _ (by rw [hd]; exact h _ _ _ (F.put hdn) (M.alloc t cs))
theorem sq_stA (F : Fr a n L) (M : Mm w0 w B) (hw : Region.wanted o (yielded ops.toArray a.tmps) = true) {t ty : TypeId} {g i : Nat} {cs cs' : Array Value} (ho : o.op = .store ty x y) (hx : a.eval x = .pointer (some ⟨g, 0, none⟩)) (hy : a.eval y = .agg cs')
    (hi : B[i]? = some (g, t, cs)) {m : Nat} (hT : AggTy P ty m) (hm : cs.size = m) (hm' : cs'.size = m) (h1 : cs'.toList.all (·.oneCell') = true) (hd : o.dst = none)
    (h : ∀ w', Mm w0 w' (B.set i (g, t, cs')) → wpList P ops.toArray Q rest a w') : wpList P ops.toArray Q (o :: rest) a w :=
  wpList_step fun K hK => by
    rw [if_pos hw]
    obtain ⟨_, _, _, hi'⟩ := hT
    have _ := F.size
    exact wp_store_row ty x y ho g cs' hx hy t cs (M.at hi) (by rw [hi', hm']) (by rw [hm, hm']) (by simpa using h1) (hK _ _ (by rw [hd]; exact h _ (M.setRow hi cs')))
end

/-! ### A region of open order whose operations read, and whose calls make memory -/
section
variable {P : Program} {ops rest : List Oper} {o : Oper} {a : Act} {n d : Nat} {L : List (Nat × Value)} {Q : Act → Prop} {C : World → Prop} {v : Value}
theorem qt_rd (F : Fr a n L) (hw : Region.wanted o (yielded ops.toArray a.tmps) = true) (hp : Rdy P o a C v) (hd : o.dst = some d) (hdn : Nat.blt d n = true)
    (h : ∀ a', Fr a' n ((d, v) :: L) → wpQuiet P ops.toArray C Q rest a') : wpQuiet P ops.toArray C Q (o :: rest) a :=
  wpQuiet_step fun K hK => by
    rw [if_pos hw]
    refine ⟨v, fun w hC => ?_, hK _ (by rw [hd]; exact h _ (F.put hdn))⟩
    unfold Oper.quietAt
    rw [hp w hC]
    exact ⟨rfl, rfl⟩
theorem qt_pure (F : Fr a n L) (hw : Region.wanted o (yielded ops.toArray a.tmps) = true) (hp : Pure P o a v) (hd : o.dst = some d) (hdn : Nat.blt d n = true)
    (h : ∀ a', Fr a' n ((d, v) :: L) → wpQuiet P ops.toArray C Q rest a') : wpQuiet P ops.toArray C Q (o :: rest) a := qt_rd F hw hp.rdy hd hdn h
theorem qt_skip (F : Fr a n L) (hw : Region.wanted o (yielded ops.toArray a.tmps) = false) (hd : o.dst = some d) (hdn : Nat.blt d n = true)
    (h : ∀ a', Fr a' n ((d, undef) :: L) → wpQuiet P ops.toArray C Q rest a') : wpQuiet P ops.toArray C Q (o :: rest) a :=
  wpQuiet_step fun K hK => by
    rw [if_neg (by rw [hw]; decide)]
    exact hK _ (by rw [hd]; exact h _ (F.put hdn))
theorem qt_call (F : Fr a n L) (hw : Region.wanted o (yielded ops.toArray a.tmps) = true) {f : FuncId} {xs : List Operand} {ts : Array TypeId} {args : List Value} (ho : o.op = .call { callee := .value (.func f), args := xs.toArray, argTypes := ts })
    (he : enters P f = true) (ha : xs.map a.eval = args) (hc : ∀ w, C w → Calls P f args.toArray w fun e w' => e = .returned v ∧ C w') (hd : o.dst = some d) (hdn : Nat.blt d n = true)
    (h : ∀ a', Fr a' n ((d, v) :: L) → wpQuiet P ops.toArray C Q rest a') : wpQuiet P ops.toArray C Q (o :: rest) a :=
  q_call hw f xs ts ho he args ha v hc (by rw [hd]; exact h _ (F.put hdn))
end
section
variable {P : Program} {a : Act} {n : Nat} {L : List (Nat × Value)} {Q : Exit → Act → World → Prop} {w w0 : World} {B : List (Nat × TypeId × Array Value)}
theorem rg_quiet {id : Nat} {l : List Oper} (M : Mm w0 w B) (hm : P.follows .mixedOrders = true) (hB : Region.lexB .any l.toArray = true)
    (h : wpQuiet P l.toArray (fun w' => Below w.heap.size w w') (fun a' => ∀ w', Mm w0 w' B → Q .normal a' w') l a) : (Code.region id l.toArray true).wp P Q a w :=
  wp_region_quiet (C := fun w' => Below w.heap.size w w') hm hB (show Below w.heap.size w w.drew from (Below.refl _ _).drew) (by
    have hq : ∀ (rest : List Oper) (a : Act), wpQuiet P l.toArray (fun w' => Below w.heap.size w w') (fun a' => ∀ w', Mm w0 w' B → Q .normal a' w') rest a → wpQuiet P l.toArray (fun w' => Below w.heap.size w w') (fun a' => ∀ w', Below w.heap.size w w' → Q .normal a' w') rest a := by
      intro rest
      induction rest with
      | nil => exact fun a h w' hb => h w' (M.below hb)
      | cons o r ih =>
        intro a h
        unfold wpQuiet at h ⊢
        split
        · rename_i hw
          rw [if_pos hw] at h
          exact Oper.quiet_mono ih h
        · rename_i hw
          rw [if_neg hw] at h
          exact ih _ h
    simpa using hq l a h)
/-! ### The end of a body -/
variable {fn : Func} {R : Ending → World → Prop} {k j g m i : Nat} {ty t : TypeId} {v u : Value} {cs : Array Value}
theorem rt_tmp (F : Fr a n L) (hr : fn.results = #[.tmp k]) (hv : look L k = some v) (hR : R (.returned v) w) : bodyPost P fn R .ret a w :=
  bodyPost_ret (by rw [results_tmp hr, F.get hv]) F.defers hR
theorem run_cell (M : Mm w0 w B) (hi : B[i]? = some (g, t, cs)) (hT : AggTy P ty m) (hm : cs.size = m) : (loadVar ty ⟨g, 0, none⟩).run P w = .ok (.agg cs) w := by
  obtain ⟨d, hu, hd, hz⟩ := hT
  exact run_loadVar_row w g t ty cs (0, 0) d (M.at hi) hu (by cases d <;> simp_all [TypeDesc.isRow]) (by rw [hz, hm])
theorem rt_cell (F : Fr a n L) (M : Mm w0 w B) (hr : fn.results = #[.cell k ty]) (hv : look L k = some (.pointer (some ⟨g, 0, none⟩))) (hi : B[i]? = some (g, t, cs)) (hT : AggTy P ty m) (hm : cs.size = m) (hR : R (.returned (.agg cs)) w) : bodyPost P fn R .ret a w :=
  bodyPost_ret (by
    have h1 := F.get hv
    have h2 : a.tmps[k]?.getD undef = .pointer (some ⟨g, 0, none⟩) := by simpa using h1
    simp [results, hr, h2, asAddr, run_cell M hi hT hm]) F.defers hR
theorem rt_cell_tmp (F : Fr a n L) (M : Mm w0 w B) (hr : fn.results = #[.cell k ty, .tmp j]) (hv : look L k = some (.pointer (some ⟨g, 0, none⟩))) (hu : look L j = some u) (hi : B[i]? = some (g, t, cs)) (hT : AggTy P ty m) (hm : cs.size = m) (hR : R (.returned (.tuple #[.agg cs, u])) w) : bodyPost P fn R .ret a w :=
  bodyPost_ret (by
    have h1 := F.get hv
    have h2 : a.tmps[k]?.getD undef = .pointer (some ⟨g, 0, none⟩) := by simpa using h1
    have h3 := F.get hu
    have h4 : a.tmps[j]?.getD undef = u := by simpa using h3
    simp [results, hr, h2, h4, asAddr, run_cell M hi hT hm]) F.defers hR
end
theorem nx {P : Program} {ops : Array Oper} {y : Code} {Q : Exit → Act → World → Prop} {a : Act} {w : World} (h : y.wp P Q a w) : wpList P ops (Exit.then (y.wp P Q) Q) [] a w := h
theorem nxq {P : Program} {y : Code} {Q : Exit → Act → World → Prop} {a : Act} {w : World} (h : y.wp P Q a w) : Exit.then (y.wp P Q) Q .normal a w := h
theorem nxb {id : Nat} {Q : Exit → Act → World → Prop} {a : Act} {w : World} (h : Q .normal a w) : Exit.inBlock id Q .normal a w := h
theorem nxe {id : Nat} {K : Act → World → Prop} {Q : Exit → Act → World → Prop} {a : Act} {w : World} (h : Q (.exit id) a w) : Exit.then K Q (.exit id) a w := h
theorem nxm {id : Nat} {Q : Exit → Act → World → Prop} {a : Act} {w : World} (h : Q .normal a w) : Exit.inBlock id Q (.exit id) a w := by simpa [Exit.inBlock] using h
theorem nxo {id id' : Nat} {Q : Exit → Act → World → Prop} {a : Act} {w : World} (hne : Nat.beq id' id = false) (h : Q (.exit id') a w) : Exit.inBlock id Q (.exit id') a w := by
  have : id' ≠ id := fun e => by subst e; simp at hne
  simpa [Exit.inBlock, this] using h
theorem nxr {K : Act → World → Prop} {Q : Exit → Act → World → Prop} {a : Act} {w : World} (h : Q .ret a w) : Exit.then K Q .ret a w := h
theorem nxrb {id : Nat} {Q : Exit → Act → World → Prop} {a : Act} {w : World} (h : Q .ret a w) : Exit.inBlock id Q .ret a w := h
theorem evk {a : Act} {v : Value} : a.eval (.const v) = v := rfl
theorem evn {a : Act} : ([] : List Operand).map a.eval = [] := rfl
theorem evc {a : Act} {x : Operand} {v : Value} {xs : List Operand} {vs : List Value} (h : a.eval x = v) (ht : xs.map a.eval = vs) : (x :: xs).map a.eval = v :: vs := by rw [List.map_cons, h, ht]
end Go.Proofs.Ytolhinemfncejaa
