/- Put together: Tl, Sm, Li, Rl, Pq, Ly. -/
import Derived.Test.YtcnmmnhlhenifaaGreatRows
import Derived.WalkKit
import Derived.WalkSpells
import Derived.WalkLawsBesides
import Derived.Deep.QuietTactic
import Derived.BigQuiet
import Derived.Lib.Hide
import Derived.Deep.WholeRow
import Derived.Deep.DeepCutAuto
import Derived.StillTailTactics
import Derived.ChangeKeysEq
import Derived.Below
import Derived.ProofKit
import Derived.OpenShut
import Derived.Lib.SmallJoins
import Derived.StillTail
import Derived.Ground.GgsProg
import Derived.Shelf.SlSortFuncK.BreakPatternsK
import Derived.Shelf.GgSortFunc.Slice
import Derived.Test.YtcnmmnhlhenifaaGreatProg
namespace Go.Proofs.YtcnmmnhlhenifaaGreat
open Go.RowKit
set_option maxRecDepth 100000
set_option linter.unusedSimpArgs false
set_option linter.unusedVariables false
def Blk (w : World) (g : Nat) (t : TypeId) (cs : Array Value) : Prop := w.heap[g]? = some (.cells cs t (0, 0))
section
variable {w w' : World} {g : Nat} {t : TypeId} {cs : Array Value}
theorem Blk.lt (h : Blk w g t cs) : g < w.heap.size := by
  rcases Nat.lt_or_ge g w.heap.size with hlt | hge
  · exact hlt
  · unfold Blk at h; rw [Array.getElem?_eq_none hge] at h; cases h
theorem Blk.cell (h : Blk w g t cs) (i : Nat) : w.cell? ⟨g, i, none⟩ = cs[i]? := cell_of_row w g i cs t (0, 0) h
theorem Blk.frozen (h : Blk w g t cs) (i : Nat) : w.frozen? ⟨g, i, none⟩ = false := by
  unfold Blk at h
  simp [World.frozen?, h]
theorem Blk.new (w : World) (t : TypeId) (cs : Array Value) : Blk (w.alloc (.cells cs t)) w.heap.size t cs := heap_alloc_new w _
theorem Blk.drew (h : Blk w g t cs) : Blk w.drew g t cs := h
theorem Blk.drewN (h : Blk w g t cs) (n : Nat) : Blk (w.drewN n) g t cs := h
theorem Blk.alloc (h : Blk w g t cs) (o : Obj) : Blk (w.alloc o) g t cs := (Below.heap_alloc w o g h.lt).trans h
theorem Blk.set_ (h : Blk w g t cs) (i : Nat) (u : Value) : Blk (w.setCell ⟨g, i, none⟩ u) g t (cs.setIfInBounds i u) := by
  unfold Blk at h ⊢
  simp [World.setCell, Array.getElem?_modify, h]
theorem Blk.far (h : Blk w g t cs) {p : Addr} (hp : g ≠ p.block) (u : Value) : Blk (w.setCell p u) g t cs := (Below.heap_setCell w p u g hp).trans h
theorem Blk.below {B : Nat} (h : Blk w g t cs) (hb : Below B w w') (hg : g < B) : Blk w' g t cs := (hb.block g hg).trans h
theorem Blk.row (h : Blk w g t cs) (cs' : Array Value) : Blk (w.setRow g cs') g t cs' := by
  unfold Blk at h ⊢
  simp [World.setRow, Array.getElem?_modify, h]
theorem Blk.rowFar (h : Blk w g t cs) {g' : Nat} (hg : g ≠ g') (cs' : Array Value) : Blk (w.setRow g' cs') g t cs := by
  unfold Blk at h ⊢
  simp [World.setRow, Array.getElem?_modify, h]; omega
end
theorem below_setRow {B : Nat} {a w : World} (h : Below B a w) {g : Nat} (hp : B ≤ g) (cs : Array Value) : Below B a (w.setRow g cs) :=
  h.trans ⟨rfl, rfl, rfl, by simp, fun k hk => by simp [World.setRow, Array.getElem?_modify]; omega⟩
theorem below_drewN {B : Nat} {a w : World} (h : Below B a w) (n : Nat) : Below B a (w.drewN n) := ⟨h.os, h.tape, h.output, h.size, h.block⟩
theorem fold_drew (w : World) : ({ heap := w.heap, tape := w.tape, drawn := w.drawn + 1, os := w.os, output := w.output } : World) = w.drew := rfl
theorem wpList_build_to {P : Program} {ops : Array Oper} {rest : List Oper} {o : Oper} {a : Act} {w : World} {Q : Exit → Act → World → Prop} (hg : o.guard = none) (t : TypeId) (parts : Array (Nat × Operand)) (ho : o.op = .build t parts)
    (cs : Array Value) (hf : P.built t (parts.map fun (i, x) => (i, a.eval x)).toList = some cs)
    (h : wpList P ops Q rest (a.put o.dst (.agg cs)) w) : wpList P ops Q (o :: rest) a w :=
  wpList_build hg t parts ho (by rw [hf]; rfl) (by rw [hf]; exact h)
theorem wpList_store_new {P : Program} {ops : Array Oper} {rest : List Oper} {o : Oper} {a : Act} {w : World} {Q : Exit → Act → World → Prop} (hgd : o.guard = none) (ty : TypeId) (x y : Operand) (ho : o.op = .store ty x y)
    (cells : Array Value) (hx : a.eval x = .pointer (some ⟨w.heap.size, 0, none⟩)) (hy : a.eval y = .agg cells)
    (t : TypeId) (old : Array Value) (hi : (P.info? ty).map (·.size) = some cells.size)
    (hold : old.size = cells.size) (h1 : cells.all (·.oneCell') = true)
    (h : wpList P ops Q rest (a.put o.dst undef) (w.alloc (.cells cells t))) : wpList P ops Q (o :: rest) a (w.alloc (.cells old t)) :=
  wpList_store_row hgd ty x y ho _ cells hx hy t old (heap_alloc_last w _) hi hold h1 (by rw [World.setRow_alloc_new]; exact h)
section
variable {P : Program} {ops : Array Oper} {rest : List Oper} {o : Oper} {a : Act} {w : World}
def enters (P : Program) (f : FuncId) : Bool := (P.funcs[f]?).any fun fn => !(fn.name == "runtime.NumGoroutine") && fn.body.isSome
theorem run_enter {f : FuncId} {xs : Array Operand} {ts : Array TypeId} (he : enters P f = true) (ho : o.op = .call { callee := .value (.func f), args := xs, argTypes := ts }) (w : World) :
    (execOp a.eval o).run P w = .ok (.enter f (xs.map a.eval)) w := by
  unfold enters at he
  cases hf : P.funcs[f]? with
  | none => simp [hf] at he
  | some fn =>
    simp only [hf, Option.any_some, Bool.and_eq_true, Bool.not_eq_true', beq_eq_false_iff_ne, ne_eq] at he
    obtain ⟨h1, h2⟩ := he
    have h2' : fn.body ≠ none := by intro e; rw [e] at h2; simp at h2
    simp [execOp, ho, resolve, Act.eval, Deferred.ofValue, invoke, callFunc, program, hf, h1, h2', Sem.run, Sem.run_bind]
theorem q_call {C : World → Prop} {Q : Act → Prop} (hw : Region.wanted o (yielded ops a.tmps) = true) (f : FuncId) (xs : List Operand) (ts : Array TypeId)
    (ho : o.op = .call { callee := .value (.func f), args := xs.toArray, argTypes := ts }) (he : enters P f = true) (args : List Value) (ha : xs.map a.eval = args) (v : Value)
    (hc : ∀ w, C w → Calls P f args.toArray w fun e w' => e = .returned v ∧ C w')
    (h : wpQuiet P ops C Q rest (a.put o.dst v)) : wpQuiet P ops C Q (o :: rest) a :=
  wpQuiet_step fun K hK => by
    rw [if_pos hw]
    refine ⟨v, fun w hC => ?_, hK _ h⟩
    unfold Oper.quietAt
    rw [run_enter he ho w, List.map_toArray, ha]
    exact ⟨rfl, hc w hC⟩
end
theorem calls_below {P : Program} {f : FuncId} {args : Array Value} {v : Value} {W w : World} (hb : Below W.heap.size W w) (hc : Calls P f args w fun e w' => e = .returned v ∧ Below w.heap.size w w') :
    Calls P f args w fun e w' => e = .returned v ∧ Below W.heap.size W w' :=
  hc.mono fun _ _ ⟨h1, h2⟩ => ⟨h1, hb.trans (h2.mono hb.size)⟩
theorem bel1 (w : World) (x : Obj) : Below w.heap.size w (w.alloc x) := (Below.refl _ _).alloc (Nat.le_refl _) _
theorem bel2 (w : World) (x y : Obj) : Below w.heap.size w ((w.alloc x).alloc y) := (bel1 w x).alloc (by simp) _
end Go.Proofs.YtcnmmnhlhenifaaGreat
namespace Go.Proofs.YtcnmmnhlhenifaaGreat
structure St where
  e : Int
  r : Int
deriving DecidableEq
def St.I (a : St) : Prop := -9223372036854775808 ≤ a.e ∧ a.e ≤ 9223372036854775807 ∧ -9223372036854775808 ≤ a.r ∧ a.r ≤ 9223372036854775807
def inB (n : Int) : Bool := decide (0 ≤ n ∧ n ≤ 1000000)
def St.rightB (a : St) : Bool := inB a.e && inB a.r
def St.leB (a b : St) : Bool := decide (a.e ≤ b.e ∧ a.r ≤ b.r)
def St.aheadB (a b : St) : Bool := decide (a.e < b.e ∨ a.e = b.e ∧ a.r < b.r)
def St.cmp (a b : St) : Int := if a = b then 0 else if a.aheadB b then -1 else 1
def St.join (a b : St) : St := ⟨max a.e b.e, max a.r b.r⟩
def St.meet (a b : St) : St := ⟨min a.e b.e, min a.r b.r⟩
def St.zero : St := ⟨0, 0⟩
def St.add (a p : St) : St := ⟨a.e + p.e, a.r + p.r⟩
def St.afterB (t p : St) : Bool := t.rightB && p.rightB && (t.add p).rightB
def St.after (t p : St) : St := if t.afterB p then t.add p else St.zero
theorem inB_iff {n : Int} : inB n = true ↔ 0 ≤ n ∧ n ≤ 1000000 := by unfold inB; simp
theorem St.right_iff {a : St} : a.rightB = true ↔ (0 ≤ a.e ∧ a.e ≤ 1000000) ∧ 0 ≤ a.r ∧ a.r ≤ 1000000 := by unfold St.rightB inB; simp
theorem St.le_iff {a b : St} : a.leB b = true ↔ a.e ≤ b.e ∧ a.r ≤ b.r := by unfold St.leB; simp
theorem St.ahead_iff {a b : St} : a.aheadB b = true ↔ a.e < b.e ∨ a.e = b.e ∧ a.r < b.r := by unfold St.aheadB; simp
theorem St.ext' {a b : St} (h1 : a.e = b.e) (h2 : a.r = b.r) : a = b := by cases a; cases b; simp_all
theorem St.eq_iff {a b : St} : a = b ↔ a.e = b.e ∧ a.r = b.r := ⟨fun h => by subst h; exact ⟨rfl, rfl⟩, fun h => St.ext' h.1 h.2⟩
theorem St.le_refl (a : St) : a.leB a = true := by rw [St.le_iff]; omega
theorem St.le_trans {a b c : St} (h1 : a.leB b = true) (h2 : b.leB c = true) : a.leB c = true := by rw [St.le_iff] at *; omega
theorem St.le_antisymm {a b : St} (h1 : a.leB b = true) (h2 : b.leB a = true) : a = b := by rw [St.le_iff] at *; rw [St.eq_iff]; omega
theorem after_no {t p : St} (h : t.afterB p = false) : t.after p = St.zero := by unfold St.after; rw [h]; rfl
theorem after_yes {t p : St} (h : t.afterB p = true) : t.after p = t.add p := by unfold St.after; rw [h]; rfl
theorem after_iff {t p : St} : t.afterB p = true ↔ (0 ≤ t.e ∧ t.e ≤ 1000000 ∧ 0 ≤ t.r ∧ t.r ≤ 1000000) ∧ (0 ≤ p.e ∧ p.e ≤ 1000000 ∧ 0 ≤ p.r ∧ p.r ≤ 1000000) ∧ t.e + p.e ≤ 1000000 ∧ t.r + p.r ≤ 1000000 := by
  unfold St.afterB
  simp only [Bool.and_eq_true, St.right_iff, St.add]
  omega
theorem after_t {t p : St} (h : t.afterB p = true) : (0 ≤ t.e ∧ t.e ≤ 1000000 ∧ 0 ≤ t.r ∧ t.r ≤ 1000000) ∧ (0 ≤ p.e ∧ p.e ≤ 1000000 ∧ 0 ≤ p.r ∧ p.r ≤ 1000000) ∧ t.e + p.e ≤ 1000000 ∧ t.r + p.r ≤ 1000000 ∧ (t.after p).e = t.e + p.e ∧ (t.after p).r = t.r + p.r := by
  obtain ⟨h1, h2, h3, h4⟩ := after_iff.1 h
  exact ⟨h1, h2, h3, h4, by rw [after_yes h]; rfl, by rw [after_yes h]; rfl⟩
theorem cmp_spec (a b : St) : (a.cmp b = 0 ∧ a.e = b.e ∧ a.r = b.r) ∨ (a.cmp b = -1 ∧ (a.e < b.e ∨ a.e = b.e ∧ a.r < b.r)) ∨ (a.cmp b = 1 ∧ (b.e < a.e ∨ a.e = b.e ∧ b.r < a.r)) := by
  unfold St.cmp St.aheadB
  by_cases h : a = b
  · rw [if_pos h]
    subst h
    omega
  · rw [if_neg h]
    rw [St.eq_iff] at h
    by_cases h2 : a.e < b.e ∨ a.e = b.e ∧ a.r < b.r
    · rw [if_pos (by simpa using h2)]; omega
    · rw [if_neg (by simpa using h2)]; omega
theorem le_t {a b : St} (h : a.leB b = true) : a.e ≤ b.e ∧ a.r ≤ b.r := St.le_iff.1 h
theorem right_t {a : St} (h : a.rightB = true) : 0 ≤ a.e ∧ a.e ≤ 1000000 ∧ 0 ≤ a.r ∧ a.r ≤ 1000000 := by have := St.right_iff.1 h; omega
theorem right_f {a : St} (h : a.rightB = false) : ¬ (0 ≤ a.e ∧ a.e ≤ 1000000 ∧ 0 ≤ a.r ∧ a.r ≤ 1000000) := by
  intro h2
  rw [St.right_iff.2 (by omega)] at h
  cases h
theorem in_t {n : Int} (h : inB n = true) : 0 ≤ n ∧ n ≤ 1000000 := inB_iff.1 h
theorem in_f {n : Int} (h : inB n = false) : ¬ (0 ≤ n ∧ n ≤ 1000000) := by rw [← inB_iff, h]; simp
def covB (L : List St) (t : St) : Bool := L.any fun s => s.leB t
def beyB (A B : List St) : Bool := A.all fun s => covB B s
theorem all_succ {P : Nat → Prop} {i : Int} (h : ∀ k, k < i.toNat → P k) (h0 : 0 ≤ i) (hi : P i.toNat) : ∀ k, k < (i + 1).toNat → P k := fun k hk => by
  by_cases e : k = i.toNat
  · rw [e]; exact hi
  · exact h k (by omega)
theorem all_none {P : Nat → Prop} : ∀ k, k < (0 : Int).toNat → P k := fun k hk => by simp at hk
end Go.Proofs.YtcnmmnhlhenifaaGreat
namespace Go.Proofs.YtcnmmnhlhenifaaGreat
open Go.ChangeShapes Go.WideShapes Go.ChangeAt Go.RowKit Go.Joins Go.Deep
set_option maxRecDepth 100000
set_option linter.unusedSimpArgs false
set_option linter.unusedVariables false
theorem Tryz.own : ownKnob Tryz.prog.godebug = none := by kernel_rfl
theorem Tryz.laidOut : laidOutB Tryz.prog = true := by kernel_rfl
section
variable {H : Type} {enc : TypeId × Value → H} {P : Program}
theorem trodAll_stays (hl : laidOutB P = true) {W W' : World} (hb : Below W.heap.size W W') : ∀ (ts : List TypeId) (vs : List Value) (ds : List (DataW H)) (ps : List MemPlace),
    (∀ t ∈ ts, P.readableRec t = true ∧ t < P.types.size) → (∀ x ∈ ps, x.block < W.heap.size) →
    DataW.TrodAll enc P W 0 (fun _ => true) true ts vs ds ps → DataW.TrodAll enc P W' 0 (fun b => decide (b < W.heap.size)) true ts vs ds ps
  | [], [], [], ps, _, _, h => h
  | t :: ts, v :: vs, d :: ds, ps, hr, hlt, h => by
    obtain ⟨p, q, h1, h2, rfl⟩ := h
    exact ⟨p, q, Below.trod hl (hr t (by simp)).1 (hr t (by simp)).2 h1 hb (fun x hx => hlt x (by simp [hx])),
      trodAll_stays hl hb ts vs ds q (fun t ht => hr t (by simp [ht])) (fun x hx => hlt x (by simp [hx])) h2, rfl⟩
  | [], [], _ :: _, _, _, _, h => h.elim
  | [], _ :: _, _, _, _, _, h => by simp [DataW.TrodAll] at h
  | _ :: _, [], _, _, _, _, h => by simp [DataW.TrodAll] at h
  | _ :: _, _ :: _, [], _, _, _, h => by simp [DataW.TrodAll] at h
theorem law_post {f : Func} {s : ChangeSpec} {W W' : World} {args : Array Value} {ds gs : List (DataW H)} {before : List MemPlace} {tb : TypeId}
    (hl : laidOutB P = true) (hr : ∀ t ∈ f.params.toList, P.readableRec t = true ∧ t < P.types.size) (hres : f.resultTypes = #[tb]) (htb : P.underlying tb = some .bool)
    (hvars : s.vars = []) (hfn : (s.fn H ds).results = [.lit (.bool true)] ∧ (s.fn H ds).args = ds ∧ (s.fn H ds).vars = [])
    (hW : DataW.Whole enc P f.params.toList s.vars false W args.toList ds gs before) (hb : Below W.heap.size W W') :
    s.post enc P f false true false false W args (.bool true) W' := by
  have hW' := hW
  have hlt : ∀ p ∈ before, p.block < W.heap.size := fun p hp => hW.lt p hp
  obtain ⟨p, q, hA, hV, hpq, hfz, hnd⟩ := hW
  rw [hvars] at hV
  obtain ⟨rfl, rfl⟩ := trodVars_none hV
  simp only [List.append_nil] at hpq
  subst hpq
  refine ⟨ds, [], before, [], before, [], hW', ?_, ?_, ?_, ?_, fun h => by cases h⟩
  · rw [List.append_nil, hfn.1, hres]
    exact trodAll_mk1 (shut_bool htb _)
  · rw [List.append_nil, hfn.2.1]
    exact trodAll_stays hl hb _ _ _ _ hr hlt hA
  · rw [List.append_nil, hfn.2.2, hvars]
    exact rfl
  · exact World.keptBut_mono (fun p hp => ⟨hp, .inr (.inl hp)⟩) (hb.frame (· ∈ before))
end
theorem wf8 {n : Int} (h : (Lit.int .u8 n).wf = true) : 0 ≤ n ∧ n < 256 := by
  have : 0 ≤ n ∧ n ≤ 255 := by simpa [Lit.wf, IntKind.min, IntKind.max, IntKind.signed, IntKind.bits] using h
  omega
theorem wf64 {n : Int} (h : (Lit.int .i64 n).wf = true) : -9223372036854775808 ≤ n ∧ n ≤ 9223372036854775807 := by
  simpa [Lit.wf, IntKind.min, IntKind.max, IntKind.signed, IntKind.bits] using h
section
variable {H : Type} {enc : TypeId × Value → H} {W : World}
theorem pair_cells {t ti : TypeId} {f0 f1 : Field} (hu : Tryz.prog.underlying t = some (.struct #[f0, f1])) (hone : oneCellFields Tryz.prog #[f0, f1] = true) (hC : Tryz.prog.cellsOf t = 2)
    (h0 : f0.type = ti) (h1 : f1.type = ti) (hi : Tryz.prog.underlying ti = some (.int .i64)) {base : Nat} {sp : Nat → Bool} {held : Bool} {fuel : Nat} {cs : List Value} {x : DataW H × List MemPlace} (h : DataW.trod enc Tryz.prog W base sp held fuel t cs = some x) :
    ∃ a : St, cs = [.int .i64 a.e, .int .i64 a.r] ∧ a.I := by
  obtain ⟨y0, y1, n, _, hl, hy0, hy1⟩ := trod_struct2 hu h
  obtain ⟨o0, k0⟩ := hone_of hone 0 f0 rfl
  obtain ⟨o1, k1⟩ := hone_of hone 1 f1 rfl
  rw [hC] at hl
  match cs, hl with
  | [c0, c1], _ =>
    rw [o0, k0, h0] at hy0
    rw [o1, k1, h1] at hy1
    obtain ⟨z0, e0, _, w0⟩ := DataW.trod_int hi hy0
    obtain ⟨z1, e1, _, w1⟩ := DataW.trod_int hi hy1
    have e0' : c0 = .int .i64 z0 := by simpa using e0
    have e1' : c1 = .int .i64 z1 := by simpa using e1
    subst e0' e1'
    exact ⟨⟨z0, z1⟩, rfl, (wf64 w0).1, (wf64 w0).2, (wf64 w1).1, (wf64 w1).2⟩
end
section
variable {H : Type} {enc : TypeId × Value → H} {W : World}
end
section
variable {H : Type} {enc : TypeId × Value → H} {W : World}
end
end Go.Proofs.YtcnmmnhlhenifaaGreat
namespace Go.Proofs.YtcnmmnhlhenifaaGreat
open Go.RowKit
set_option maxRecDepth 100000
set_option linter.unusedSimpArgs false
set_option linter.unusedVariables false
def putsFrom (L : Nat → Bool) (v : Nat → Value) : List Oper → Nat → Act → Act
  | [], _, a => a
  | o :: r, k, a => putsFrom L v r (k + 1) (if L k then a.put o.dst (v k) else a)
def dstsApart : List Oper → Bool
  | [] => true
  | o :: r => (r.all fun o' => o.dst.isNone || o'.dst != o.dst) && dstsApart r
theorem puts_congr {L L' : Nat → Bool} {v v' : Nat → Value} : ∀ (hs : List Oper) (k : Nat) (a : Act), (∀ j, k ≤ j → j < k + hs.length → L j = L' j ∧ (L j = true → v j = v' j)) → putsFrom L v hs k a = putsFrom L' v' hs k a
  | [], _, _, _ => rfl
  | o :: r, k, a, h => by
    have h0 := h k (Nat.le_refl _) (by simp)
    have e : (if L k then a.put o.dst (v k) else a) = (if L' k then a.put o.dst (v' k) else a) := by
      rw [← h0.1]
      by_cases hk : L k = true
      · rw [if_pos hk, if_pos hk, h0.2 hk]
      · rw [if_neg hk, if_neg hk]
    simp only [putsFrom, e]
    exact puts_congr r (k + 1) _ (fun j h1 h2 => h j (by omega) (by simp; omega))
theorem puts_put {L : Nat → Bool} {v : Nat → Value} (d : Option Tmp) (x : Value) : ∀ (hs : List Oper) (k : Nat) (a : Act), (hs.all fun o' => d.isNone || o'.dst != d) = true →
    putsFrom L v hs k (a.put d x) = (putsFrom L v hs k a).put d x
  | [], _, _, _ => rfl
  | o :: r, k, a, h => by
    simp only [List.all_cons, Bool.and_eq_true] at h
    have e : (if L k then (a.put d x).put o.dst (v k) else a.put d x) = (if L k then a.put o.dst (v k) else a).put d x := by
      by_cases hk : L k = true
      · rw [if_pos hk, if_pos hk]
        exact Act.put_comm a x (v k) (fun d' hd' he => by
          subst hd'
          have := h.1
          simp [he] at this)
      · rw [if_neg hk, if_neg hk]
    simp only [putsFrom, e]
    exact puts_put d x r (k + 1) _ h.2
theorem puts_set {L L' : Nat → Bool} {v v' : Nat → Value} {i : Nat} (hL : L i = false) (hL' : L' i = true) (hne : ∀ j, j ≠ i → L' j = L j ∧ v' j = v j) : ∀ (hs : List Oper) (k : Nat) (a : Act) (o : Oper), dstsApart hs = true → k ≤ i → hs[i - k]? = some o →
    putsFrom L' v' hs k a = (putsFrom L v hs k a).put o.dst (v' i)
  | [], _, _, _, _, _, h => by simp at h
  | o' :: r, k, a, o, hd, hk, h => by
    simp only [dstsApart, Bool.and_eq_true] at hd
    by_cases hki : k = i
    · subst hki
      have ho : o' = o := by simpa using h
      subst ho
      simp only [putsFrom, hL, hL', if_true, Bool.false_eq_true, if_false]
      rw [puts_congr (L := L') (L' := L) (v := v') (v' := v) r (k + 1) _ (fun j h1 _ => ⟨(hne j (by omega)).1, fun _ => (hne j (by omega)).2⟩)]
      exact puts_put _ _ r (k + 1) a hd.1
    · have hk' : i - k = (i - (k + 1)) + 1 := by omega
      rw [hk', List.getElem?_cons_succ] at h
      simp only [putsFrom, (hne k hki).1, (hne k hki).2]
      exact puts_set hL hL' hne r (k + 1) _ o hd.2 (by omega) h
theorem put_getD_ne (a : Act) (d : Option Tmp) (x : Value) (s : Nat) (h : d ≠ some s) : (a.put d x).tmps.getD s undef = a.tmps.getD s undef := by
  cases d with
  | none => rfl
  | some e =>
    have : e ≠ s := fun he => h (by rw [he])
    simp [Act.put, Array.getElem?_setIfInBounds_ne this]
theorem put_getD_eq (a : Act) (s : Nat) (x : Value) (h : s < a.tmps.size) : (a.put (some s) x).tmps.getD s undef = x := by
  simp [Act.put, h]
theorem put_size (a : Act) (d : Option Tmp) (x : Value) : (a.put d x).tmps.size = a.tmps.size := by
  cases d <;> simp [Act.put]
theorem puts_out {L : Nat → Bool} {v : Nat → Value} (s : Nat) : ∀ (hs : List Oper) (k : Nat) (a : Act), (∀ o ∈ hs, o.dst ≠ some s) → (putsFrom L v hs k a).tmps.getD s undef = a.tmps.getD s undef
  | [], _, _, _ => rfl
  | o :: r, k, a, h => by
    simp only [putsFrom]
    rw [puts_out s r (k + 1) _ (fun o' ho' => h o' (by simp [ho']))]
    by_cases hk : L k = true
    · rw [if_pos hk, put_getD_ne _ _ _ _ (h o (by simp))]
    · rw [if_neg hk]
theorem puts_same {L : Nat → Bool} {v : Nat → Value} : ∀ (hs : List Oper) (k : Nat) (a : Act), (putsFrom L v hs k a).tmps.size = a.tmps.size ∧ (putsFrom L v hs k a).defers = a.defers
  | [], _, _ => ⟨rfl, rfl⟩
  | o :: r, k, a => by
    simp only [putsFrom]
    have h := puts_same (L := L) (v := v) r (k + 1) (if L k then a.put o.dst (v k) else a)
    rw [h.1, h.2]
    split
    · refine ⟨put_size _ _ _, ?_⟩
      cases o.dst <;> rfl
    · exact ⟨rfl, rfl⟩
theorem puts_in {L : Nat → Bool} {v : Nat → Value} {j : Nat} (hL : L j = true) (d : Nat) : ∀ (hs : List Oper) (k : Nat) (a : Act) (o : Oper), dstsApart hs = true → k ≤ j → hs[j - k]? = some o → o.dst = some d → d < a.tmps.size →
    (putsFrom L v hs k a).tmps.getD d undef = v j
  | [], _, _, _, _, _, h, _, _ => by simp at h
  | o' :: r, k, a, o, hd, hk, h, hod, hsz => by
    simp only [dstsApart, Bool.and_eq_true] at hd
    by_cases hkj : k = j
    · subst hkj
      have ho : o' = o := by simpa using h
      subst ho
      simp only [putsFrom, hL, if_true]
      rw [puts_out d r (k + 1) _ (fun o'' ho'' he => by
        have := List.all_eq_true.1 hd.1 o'' ho''
        simp [hod, he] at this), hod, put_getD_eq _ _ _ hsz]
    · have hk' : j - k = (j - (k + 1)) + 1 := by omega
      rw [hk', List.getElem?_cons_succ] at h
      simp only [putsFrom]
      refine puts_in hL d r (k + 1) _ o hd.2 (by omega) h hod ?_
      split
      · rw [put_size]; exact hsz
      · exact hsz
def ancB (ops : Array Oper) : Nat → Nat → Nat → Bool
  | 0, _, _ => false
  | f + 1, t, i => Region.waitsFor .any ops t i || (List.range ops.size).any fun k => Region.waitsFor .any ops t k && ancB ops f k i
theorem anc_listed {ops : Array Oper} {L : Nat → Bool} (hcl : ∀ i j, L i = true → Region.waitsFor .any ops i j = true → L j = true) : ∀ (f t i : Nat), (∀ j, Region.waitsFor .any ops t j = true → L j = true) → ancB ops f t i = true → L i = true
  | 0, _, _, _, h => by simp [ancB] at h
  | f + 1, t, i, hd, h => by
    simp only [ancB, Bool.or_eq_true, List.any_eq_true, List.mem_range, Bool.and_eq_true] at h
    rcases h with h | ⟨k, _, hk, h⟩
    · exact hd i h
    · exact anc_listed hcl f k i (fun j hj => hcl k j (hd k hk) hj) h
def headsG (ops : Array Oper) (hs : List Oper) (tl : Nat) : Bool :=
  dstsApart hs && ((List.range hs.length).all fun i => ((ops[i]?).map fun o => o.after.all fun e => !Region.binds .any e || decide (e.on < i)).getD false) &&
  ((List.range tl).all fun t => (List.range hs.length).all fun i => ancB ops 24 (hs.length + t) i) &&
  Region.seqB .any ops tl hs.length (List.replicate hs.length true ++ List.replicate tl false).toArray
def headsB (ops : Array Oper) (hs : List Oper) (tl : Nat) : Bool := headsG ops hs tl && hs.all (·.guard.isNone)
theorem ready_spec {ops : Array Oper} {L : Array Bool} {i : Nat} (h : i ∈ Region.ready .any ops L) : i < ops.size ∧ L.getD i true = false ∧ ∀ j, Region.waitsFor .any ops i j = true → L.getD j false = true := by
  unfold Region.ready at h
  simp only [List.mem_filter, List.mem_range, Bool.and_eq_true, Bool.not_eq_true'] at h
  refine ⟨h.1, h.2.1, fun j hj => ?_⟩
  obtain ⟨oj, hoj, e, he, hb, hon⟩ := Region.waitsFor_spec hj
  have h2 := h.2.2
  rw [hoj] at h2
  simp only [Option.map_some, Option.getD_some, Array.all_eq_true_iff_forall_mem] at h2
  have := h2 e he
  rw [hon, hb] at this
  simpa using this
section
variable {P : Program} {Q : Exit → Act → World → Prop} (hs tl : List Oper) (V : Nat → Value → World → Prop) (R : World → World → Prop) (w0 : World) (a0 : Act)
theorem wpAny_rel (hB : headsG (hs ++ tl).toArray hs tl.length = true) (hsz : ∀ o ∈ hs, ∀ d, o.dst = some d → d < a0.tmps.size)
    (hV : ∀ i x w w', V i x w → R w w' → V i x w') (hR : ∀ a b c, R a b → R b c → R a c)
    (hop : ∀ i o, hs[i]? = some o → ∀ (a : Act) (v : Nat → Value) (w : World), R w0 w → (∀ j, Region.waitsFor .any (hs ++ tl).toArray i j = true → V j (v j) w) →
      (∀ j oj d, Region.waitsFor .any (hs ++ tl).toArray i j = true → hs[j]? = some oj → oj.dst = some d → a.tmps.getD d undef = v j) → (∀ s, (∀ oj ∈ hs, oj.dst ≠ some s) → a.tmps.getD s undef = a0.tmps.getD s undef) → (a.tmps.size = a0.tmps.size ∧ a.defers = a0.defers) →
      Region.wanted o (yielded (hs ++ tl).toArray a.tmps) = true ∧ o.wp P a w (fun a' w' => ∃ x, a' = a.put o.dst x ∧ R w w' ∧ V i x w') Q)
    (hend : ∀ v w, R w0 w → (∀ i, i < hs.length → V i (v i) w) → wpList P (hs ++ tl).toArray Q tl (putsFrom (fun _ => true) v hs 0 a0) w) :
    ∀ (m : Nat) (L : Array Bool) (v : Nat → Value) (w : World), L.size = hs.length + tl.length → (∀ i j, L.getD i false = true → Region.waitsFor .any (hs ++ tl).toArray i j = true → L.getD j false = true) → (∀ t, hs.length ≤ t → L.getD t false = false) → ((List.range hs.length).filter fun i => !L.getD i false).length = m →
      R w0 w → (∀ i, i < hs.length → L.getD i false = true → V i (v i) w) → wpAny P .any (hs ++ tl).toArray Q (m + tl.length) L (putsFrom (fun j => L.getD j false) v hs 0 a0) w := by
  simp only [headsG, Bool.and_eq_true] at hB
  obtain ⟨⟨⟨hd, hback⟩, htail⟩, hseq⟩ := hB
  intro m
  induction m with
  | zero =>
    intro L v w hsize hcl htl hm hRw hVw
    have hall : ∀ i, i < hs.length → L.getD i false = true := fun i hi => by
      have := List.eq_nil_of_length_eq_zero hm
      have h2 := List.filter_eq_nil_iff.1 this i (List.mem_range.2 hi)
      simpa using h2
    have hL : L = (List.replicate hs.length true ++ List.replicate tl.length false).toArray := by
      apply Array.ext
      · simp [hsize]
      · intro i h1 h2
        by_cases hi : i < hs.length
        · have := hall i hi
          simp only [Array.getD_eq_getD_getElem?, Array.getElem?_eq_getElem h1, Option.getD_some] at this
          rw [this]
          simp [List.getElem_append_left, hi]
        · have := htl i (by omega)
          simp only [Array.getD_eq_getD_getElem?, Array.getElem?_eq_getElem h1, Option.getD_some] at this
          rw [this]
          rw [List.getElem_toArray, List.getElem_append_right (by simpa using hi), List.getElem_replicate]
    rw [Nat.zero_add]
    rw [puts_congr (L := fun j => L.getD j false) (L' := fun _ => true) (v := v) (v' := v) hs 0 a0 (fun j _ h2 => ⟨hall j (by omega), fun _ => rfl⟩)]
    refine wpAny_of_seq tl hs.length L _ w (fun j => by simp [List.getElem?_append_right]) (by rw [hL]; exact hseq) ?_
    exact hend v w hRw (fun i hi => hVw i hi (hall i hi))
  | succ m ih =>
    intro L v w hsize hcl htl hm hRw hVw
    have hex : ∃ u, u < hs.length ∧ L.getD u false = false ∧ ∀ j, j < u → L.getD j false = true := by
      have hne : ((List.range hs.length).filter fun i => !L.getD i false) ≠ [] := by intro h; rw [h] at hm; simp at hm
      have hx : ∃ u, u < hs.length ∧ L.getD u false = false := by
        obtain ⟨u, hu⟩ := List.exists_mem_of_ne_nil _ hne
        simp only [List.mem_filter, List.mem_range, Bool.not_eq_true'] at hu
        exact ⟨u, hu⟩
      obtain ⟨u, hu1, hu2⟩ := hx
      induction u using Nat.strongRecOn with
      | ind u ihu =>
        by_cases hc : ∃ j, j < u ∧ L.getD j false = false
        · obtain ⟨j, hj1, hj2⟩ := hc
          exact ihu j hj1 (by omega) hj2
        · exact ⟨u, hu1, hu2, fun j hj => by
            cases hb : L.getD j false with
            | true => rfl
            | false => exact absurd ⟨j, hj, hb⟩ hc⟩
    obtain ⟨u, hu1, hu2, hu3⟩ := hex
    have flip : ∀ i, i < L.size → L.getD i true = L.getD i false := fun i hi => by simp [Array.getElem?_eq_getElem hi]
    rw [show m + 1 + tl.length = (m + tl.length) + 1 by omega]
    refine ⟨fun hr => ?_, fun i hi => ?_⟩
    · exfalso
      have hmem : u ∈ Region.ready .any (hs ++ tl).toArray L := by
        unfold Region.ready
        simp only [List.mem_filter, List.mem_range, Bool.and_eq_true, Bool.not_eq_true']
        refine ⟨by simp; omega, by rw [flip u (by omega)]; exact hu2, ?_⟩
        have hb := List.all_eq_true.1 hback u (List.mem_range.2 hu1)
        cases ho : (hs ++ tl).toArray[u]? with
        | none => rw [ho] at hb; simp at hb
        | some o =>
          rw [ho] at hb
          simp only [Option.map_some, Option.getD_some, Array.all_eq_true_iff_forall_mem] at hb ⊢
          intro e he
          have := hb e he
          simp only [Bool.or_eq_true, Bool.not_eq_true', decide_eq_true_eq] at this ⊢
          rcases this with h | h
          · exact .inl h
          · exact .inr (hu3 _ h)
      rw [hr] at hmem
      cases hmem
    · obtain ⟨hi1, hi2, hdeps⟩ := ready_spec hi
      have hisz : i < L.size := by rw [hsize]; simpa using hi1
      have hin : i < hs.length := by
        rcases Nat.lt_or_ge i hs.length with h | h
        · exact h
        · exfalso
          have h1 := List.all_eq_true.1 htail (i - hs.length) (List.mem_range.2 (by rw [hsize] at hisz; omega))
          have h2 := List.all_eq_true.1 h1 u (List.mem_range.2 hu1)
          rw [show hs.length + (i - hs.length) = i by omega] at h2
          rw [anc_listed (L := fun j => L.getD j false) hcl 24 i u hdeps h2] at hu2
          cases hu2
      have hLi : L.getD i false = false := by rw [← flip i hisz]; exact hi2
      have hoi : hs[i]? = some hs[i] := List.getElem?_eq_getElem hin
      have hops : (hs ++ tl).toArray[i]? = some hs[i] := by simp [List.getElem?_append_left hin]
      unfold wpOp
      rw [hops]
      have hboth := hop i hs[i] hoi (putsFrom (fun j => L.getD j false) v hs 0 a0) v w hRw (fun j hj => ?c1) (fun j oj d hj hoj hdj => ?c2) (fun s hsn => puts_out s hs 0 a0 hsn) (puts_same hs 0 a0)
      simp only [hboth.1, if_true]
      refine .inl (Oper.wp_mono ?_ hboth.2)
      · rintro a' w' ⟨x, rfl, hRw', hVx⟩
        have hLn : ∀ j, j ≠ i → (L.setIfInBounds i true).getD j false = L.getD j false := fun j hj => by
          simp [Array.getElem?_setIfInBounds_ne (Ne.symm hj)]
        have hLs : (L.setIfInBounds i true).getD i false = true := by simp [hisz]
        have hput := puts_set (L := fun j => L.getD j false) (L' := fun j => (L.setIfInBounds i true).getD j false) (v := v) (v' := fun j => if j = i then x else v j) (i := i) hLi hLs
          (fun j hj => ⟨hLn j hj, if_neg hj⟩) hs 0 a0 hs[i] hd (Nat.zero_le _) (by simp [hoi])
        simp only [if_true] at hput
        rw [← hput]
        have hLk : ∀ j, L.getD j false = true → (L.setIfInBounds i true).getD j false = true := fun j hj => by
          by_cases hji : j = i
          · subst hji; exact hLs
          · rw [hLn j hji]; exact hj
        refine ih (L.setIfInBounds i true) _ w' (by simp [hsize]) (fun i' j hi' hj' => by
          by_cases hii : i' = i
          · subst hii; exact hLk j (hdeps j hj')
          · rw [hLn i' hii] at hi'; exact hLk j (hcl i' j hi' hj')) (fun t ht => by rw [hLn t (by omega)]; exact htl t ht) ?_ (hR _ _ _ hRw hRw') (fun j hj hjL => ?_)
        · have hfil : ((List.range hs.length).filter fun j => !(L.setIfInBounds i true).getD j false) = ((List.range hs.length).filter fun j => !L.getD j false).filter fun j => j != i := by
            rw [List.filter_filter]
            apply List.filter_congr
            intro j _
            by_cases hj : j = i
            · subst hj; simp [hisz]
            · rw [hLn j hj]; simp [hj]
          have hnd : ((List.range hs.length).filter fun j => !L.getD j false).Nodup := List.Nodup.sublist List.filter_sublist List.nodup_range
          have hmem : i ∈ (List.range hs.length).filter fun j => !L.getD j false := by
            rw [List.mem_filter]
            exact ⟨List.mem_range.2 hin, by rw [hLi]; rfl⟩
          rw [hfil, ← List.Nodup.erase_eq_filter hnd i, List.length_erase_of_mem hmem, hm]
          rfl
        · by_cases hji : j = i
          · subst hji; rw [if_pos rfl]; exact hVx
          · rw [if_neg hji]
            rw [hLn j hji] at hjL
            exact hV _ _ _ _ (hVw j hj hjL) hRw'
      case c1 =>
        have hjL := hdeps j hj
        have hjn : j < hs.length := by
          rcases Nat.lt_or_ge j hs.length with h | h
          · exact h
          · rw [htl j h] at hjL; cases hjL
        exact hVw j hjn hjL
      case c2 =>
        have hjL := hdeps j hj
        exact puts_in (L := fun j => L.getD j false) hjL d hs 0 a0 oj hd (Nat.zero_le _) (by simpa using hoj) hdj (hsz oj (List.mem_of_getElem? hoj) d hdj)
theorem region_rel {id : Nat} {w : World} (hm : P.follows .mixedOrders = true) (hB : headsG (hs ++ tl).toArray hs tl.length = true) (hsz : ∀ o ∈ hs, ∀ d, o.dst = some d → d < a0.tmps.size)
    (hV : ∀ i x w w', V i x w → R w w' → V i x w') (hR : ∀ a b c, R a b → R b c → R a c) (h0 : R w0 w.drew)
    (hop : ∀ i o, hs[i]? = some o → ∀ (a : Act) (v : Nat → Value) (w : World), R w0 w → (∀ j, Region.waitsFor .any (hs ++ tl).toArray i j = true → V j (v j) w) →
      (∀ j oj d, Region.waitsFor .any (hs ++ tl).toArray i j = true → hs[j]? = some oj → oj.dst = some d → a.tmps.getD d undef = v j) → (∀ s, (∀ oj ∈ hs, oj.dst ≠ some s) → a.tmps.getD s undef = a0.tmps.getD s undef) → (a.tmps.size = a0.tmps.size ∧ a.defers = a0.defers) →
      Region.wanted o (yielded (hs ++ tl).toArray a.tmps) = true ∧ o.wp P a w (fun a' w' => ∃ x, a' = a.put o.dst x ∧ R w w' ∧ V i x w') Q)
    (hend : ∀ v w, R w0 w → (∀ i, i < hs.length → V i (v i) w) → wpList P (hs ++ tl).toArray Q tl (putsFrom (fun _ => true) v hs 0 a0) w) :
    (Code.region id (hs ++ tl).toArray true).wp P Q a0 w := by
  refine wp_region_any hm ?_
  have hrep : ∀ j, (Array.replicate (hs ++ tl).toArray.size false).getD j false = false := fun j => by
    simp only [Array.getD_eq_getD_getElem?, Array.getElem?_replicate]
    split <;> rfl
  have hfl : ((List.range hs.length).filter fun i => !(Array.replicate (hs ++ tl).toArray.size false).getD i false).length = hs.length := by
    rw [List.filter_eq_self.2 (fun i _ => by rw [hrep]; rfl), List.length_range]
  have := wpAny_rel (Q := Q) hs tl V R w0 a0 hB hsz hV hR hop hend hs.length (Array.replicate (hs ++ tl).toArray.size false) (fun _ => undef) w.drew (by simp) (fun i j hi _ => by rw [hrep] at hi; cases hi) (fun t _ => hrep t) hfl h0 (fun i _ hL => by rw [hrep] at hL; cases hL)
  have hp : putsFrom (fun j => (Array.replicate (hs ++ tl).toArray.size false).getD j false) (fun _ => undef) hs 0 a0 = a0 := by
    have : ∀ (hs' : List Oper) (k : Nat) (a : Act), putsFrom (fun _ => false) (fun _ => undef) hs' k a = a := by
      intro hs'
      induction hs' with
      | nil => intros; rfl
      | cons o r ih => intro k a; simp only [putsFrom, Bool.false_eq_true, if_false]; exact ih _ _
    rw [puts_congr (L' := fun _ => false) (v' := fun _ => undef) hs 0 a0 (fun j _ _ => ⟨hrep j, fun _ => rfl⟩)]
    exact this hs 0 a0
  rw [hp] at this
  simpa using this
theorem region_relG {P : Program} {Q : Exit → Act → World → Prop} {id : Nat} {w : World} {a0 : Act} {l : List Oper} (n : Nat) (V : Nat → Value → World → Prop)
    (hm : P.follows .mixedOrders = true) (hB : headsG l.toArray (l.take n) (l.drop n).length = true) (hsz : ((l.take n).all fun o => match o.dst with | some d => decide (d < a0.tmps.size) | none => true) = true)
    (hV : ∀ i x w w', V i x w → Below w.heap.size w w' → V i x w')
    (hop : ∀ i o, (l.take n)[i]? = some o → ∀ (a : Act) (v : Nat → Value) (w' : World), Below w.heap.size w w' → (∀ j, Region.waitsFor .any l.toArray i j = true → V j (v j) w') →
      (∀ j oj d, Region.waitsFor .any l.toArray i j = true → (l.take n)[j]? = some oj → oj.dst = some d → a.tmps.getD d undef = v j) → (∀ s, ((l.take n).all fun oj => oj.dst != some s) = true → a.tmps.getD s undef = a0.tmps.getD s undef) → (a.tmps.size = a0.tmps.size ∧ a.defers = a0.defers) →
      Region.wanted o (yielded l.toArray a.tmps) = true ∧ o.wp P a w' (fun a' w'' => ∃ x, a' = a.put o.dst x ∧ Below w'.heap.size w' w'' ∧ V i x w'') Q)
    (hend : ∀ v w', Below w.heap.size w w' → (∀ i, i < (l.take n).length → V i (v i) w') → wpList P l.toArray Q (l.drop n) (putsFrom (fun _ => true) v (l.take n) 0 a0) w') :
    (Code.region id l.toArray true).wp P Q a0 w := by
  have e : l.toArray = (l.take n ++ l.drop n).toArray := by rw [List.take_append_drop]
  rw [e] at hB hop hend ⊢
  refine region_rel (l.take n) (l.drop n) V (fun a b => Below a.heap.size a b) w a0 hm hB ?_ hV (fun a b c h1 h2 => h1.trans (h2.mono h1.size)) (Below.refl _ _).drew ?_ hend
  · intro o ho d hd
    have := List.all_eq_true.1 hsz o ho
    rw [hd] at this
    simpa using this
  · intro i o hi a v w' h1 h2 h3 h4 h5
    exact hop i o hi a v w' h1 h2 h3 (fun s hs => h4 s (fun oj hoj he => by
      have := List.all_eq_true.1 hs oj hoj
      simp [he] at this)) h5
section
variable {P : Program} {Q : Exit → Act → World → Prop} {o : Oper} {a : Act} {w : World} {V : Value → World → Prop}
theorem ow_call (f : FuncId) (xs : List Operand) (ts : Array TypeId) (ho : o.op = .call { callee := .value (.func f), args := xs.toArray, argTypes := ts }) (he : enters P f = true) (args : List Value) (ha : xs.map a.eval = args) (x : Value)
    (hc : Calls P f args.toArray w fun e w' => e = .returned x ∧ Below w.heap.size w w') (hx : ∀ w', Below w.heap.size w w' → V x w') :
    o.wp P a w (fun a' w' => ∃ x, a' = a.put o.dst x ∧ Below w.heap.size w w' ∧ V x w') Q := by
  unfold Oper.wp
  rw [run_enter he ho w, List.map_toArray, ha]
  exact hc.mono fun e w' ⟨h1, h2⟩ => by subst h1; exact ⟨x, rfl, h2, hx w' h2⟩
theorem ow_value (x : Value) (w' : World) (hrun : (execOp a.eval o).run P w = .ok (.value x) w') (hb : Below w.heap.size w w') (hx : V x w') :
    o.wp P a w (fun a' w' => ∃ x, a' = a.put o.dst x ∧ Below w.heap.size w w' ∧ V x w') Q := by
  unfold Oper.wp
  rw [hrun]
  exact ⟨x, rfl, hb, hx⟩
end
end
end Go.Proofs.YtcnmmnhlhenifaaGreat
namespace Go.Proofs.YtcnmmnhlhenifaaGreat
open Go
structure Po where
  n : Int
  t : St
deriving DecidableEq
def Po.zero : Po := ⟨0, St.zero⟩
end Go.Proofs.YtcnmmnhlhenifaaGreat
namespace Go.Proofs
open Go.Shelf
def Tryz.sl6_ren : Go.Shelf.Ren := ⟨fun | 6 => 104 | 10 => 120 | 11 => 121 | 12 => 122 | 13 => 123 | 14 => 124 | 24 => 140 | 25 => 141 | 26 => 142 | 27 => 143 | 28 => 144 | 29 => 145 | 30 => 146 | 31 => 147 | 32 => 148 | 33 => 149 | 34 => 155 | 35 => 156 | 36 => 157 | 37 => 158 | 38 => 159 | 39 => 160 | n => n, fun | 20 => 20 | 26 => 147 | 35 => 166 | 0 => 0 | 37 => 168 | 3 => 3 | 41 => 162 | 44 => 174 | 49 => 155 | 51 => 158 | 4 => 4 | 54 => 188 | 53 => 187 | 58 => 192 | 5 => 5 | 9 => 9 | 60 => 201 | 64 => 205 | 66 => 207 | 67 => 208 | 17 => 17 | 32 => 163 | 33 => 164 | 82 => 222 | 12 => 12 | 75 => 215 | 76 => 216 | 77 => 217 | 78 => 218 | 79 => 219 | 80 => 220 | n => n, fun | n => n⟩
theorem Tryz.sl6 : Go.Proofs.LaysGg.n6 Tryz.prog Tryz.sl6_ren := {
  mixed := by kernel_rfl
  f6 := Tryz.func104.trans (congrArg some (by kernel_rfl))
  f10 := Tryz.func120.trans (congrArg some (by kernel_rfl))
  f11 := Tryz.func121.trans (congrArg some (by kernel_rfl))
  f12 := Tryz.func122.trans (congrArg some (by kernel_rfl))
  f13 := Tryz.func123.trans (congrArg some (by kernel_rfl))
  f14 := Tryz.func124.trans (congrArg some (by kernel_rfl))
  f24 := Tryz.func140.trans (congrArg some (by kernel_rfl))
  f25 := Tryz.func141.trans (congrArg some (by kernel_rfl))
  f26 := Tryz.func142.trans (congrArg some (by kernel_rfl))
  f27 := Tryz.func143.trans (congrArg some (by kernel_rfl))
  f28 := Tryz.func144.trans (congrArg some (by kernel_rfl))
  f29 := Tryz.func145.trans (congrArg some (by kernel_rfl))
  f30 := Tryz.func146.trans (congrArg some (by kernel_rfl))
  f31 := Tryz.func147.trans (congrArg some (by kernel_rfl))
  f32 := Tryz.func148.trans (congrArg some (by kernel_rfl))
  f33 := Tryz.func149.trans (congrArg some (by kernel_rfl))
  f34 := Tryz.func155.trans (congrArg some (by kernel_rfl))
  f35 := Tryz.func156.trans (congrArg some (by kernel_rfl))
  f36 := Tryz.func157.trans (congrArg some (by kernel_rfl))
  f37 := Tryz.func158.trans (congrArg some (by kernel_rfl))
  f38 := Tryz.func159.trans (congrArg some (by kernel_rfl))
  f39 := Tryz.func160.trans (congrArg some (by kernel_rfl))
  t0 := Tryz.underlying0
  a0 := Tryz.isAgg0
  z0 := Tryz.sizeOf0
  v0 := Tryz.zeroValue0
  i0 := by kernel_rfl
  t3 := Tryz.underlying3
  a3 := Tryz.isAgg3
  z3 := Tryz.sizeOf3
  v3 := Tryz.zeroValue3
  i3 := by kernel_rfl
  t4 := Tryz.underlying4
  a4 := Tryz.isAgg4
  z4 := Tryz.sizeOf4
  v4 := Tryz.zeroValue4
  i4 := by kernel_rfl
  t5 := Tryz.underlying5
  a5 := Tryz.isAgg5
  z5 := Tryz.sizeOf5
  v5 := Tryz.zeroValue5
  i5 := by kernel_rfl
  t9 := Tryz.underlying9
  a9 := Tryz.isAgg9
  z9 := Tryz.sizeOf9
  v9 := Tryz.zeroValue9
  i9 := by kernel_rfl
  t12 := Tryz.underlying12
  a12 := Tryz.isAgg12
  z12 := Tryz.sizeOf12
  v12 := Tryz.zeroValue12
  i12 := by kernel_rfl
  t17 := Tryz.underlying17
  a17 := Tryz.isAgg17
  z17 := Tryz.sizeOf17
  v17 := Tryz.zeroValue17
  i17 := by kernel_rfl
  t20 := Tryz.underlying20
  a20 := Tryz.isAgg20
  z20 := Tryz.sizeOf20
  v20 := Tryz.zeroValue20
  i20 := by kernel_rfl
  t26 := Tryz.underlying147
  a26 := Tryz.isAgg147
  z26 := Tryz.sizeOf147
  v26 := Tryz.zeroValue147
  i26 := by kernel_rfl
  t32 := Tryz.underlying163
  a32 := Tryz.isAgg163
  z32 := Tryz.sizeOf163
  v32 := Tryz.zeroValue163
  i32 := by kernel_rfl
  t33 := Tryz.underlying164
  a33 := Tryz.isAgg164
  z33 := Tryz.sizeOf164
  v33 := Tryz.zeroValue164
  i33 := by kernel_rfl
  t35 := Tryz.underlying166
  a35 := Tryz.isAgg166
  z35 := Tryz.sizeOf166
  v35 := Tryz.zeroValue166
  i35 := by kernel_rfl
  t37 := Tryz.underlying168
  a37 := Tryz.isAgg168
  z37 := Tryz.sizeOf168
  v37 := Tryz.zeroValue168
  i37 := by kernel_rfl
  t41 := Tryz.underlying162
  a41 := Tryz.isAgg162
  z41 := Tryz.sizeOf162
  v41 := Tryz.zeroValue162
  i41 := by kernel_rfl
  t44 := Tryz.underlying174
  a44 := Tryz.isAgg174
  z44 := Tryz.sizeOf174
  v44 := Tryz.zeroValue174
  i44 := by kernel_rfl
  t49 := Tryz.underlying155
  a49 := Tryz.isAgg155
  z49 := Tryz.sizeOf155
  v49 := Tryz.zeroValue155
  i49 := by kernel_rfl
  t51 := Tryz.underlying158
  a51 := Tryz.isAgg158
  z51 := Tryz.sizeOf158
  v51 := Tryz.zeroValue158
  i51 := by kernel_rfl
  t53 := Tryz.underlying187
  a53 := Tryz.isAgg187
  z53 := Tryz.sizeOf187
  v53 := Tryz.zeroValue187
  i53 := by kernel_rfl
  t54 := Tryz.underlying188
  a54 := Tryz.isAgg188
  z54 := Tryz.sizeOf188
  v54 := Tryz.zeroValue188
  i54 := by kernel_rfl
  t58 := Tryz.underlying192
  a58 := Tryz.isAgg192
  z58 := Tryz.sizeOf192
  v58 := Tryz.zeroValue192
  i58 := by kernel_rfl
  t60 := Tryz.underlying201
  a60 := Tryz.isAgg201
  z60 := Tryz.sizeOf201
  v60 := Tryz.zeroValue201
  i60 := by kernel_rfl
  t64 := Tryz.underlying205
  a64 := Tryz.isAgg205
  z64 := Tryz.sizeOf205
  v64 := Tryz.zeroValue205
  i64 := by kernel_rfl
  t66 := Tryz.underlying207
  a66 := Tryz.isAgg207
  z66 := Tryz.sizeOf207
  v66 := Tryz.zeroValue207
  i66 := by kernel_rfl
  t67 := Tryz.underlying208
  a67 := Tryz.isAgg208
  z67 := Tryz.sizeOf208
  v67 := Tryz.zeroValue208
  i67 := by kernel_rfl
  t75 := Tryz.underlying215
  a75 := Tryz.isAgg215
  z75 := Tryz.sizeOf215
  v75 := Tryz.zeroValue215
  i75 := by kernel_rfl
  t76 := Tryz.underlying216
  a76 := Tryz.isAgg216
  z76 := Tryz.sizeOf216
  v76 := Tryz.zeroValue216
  i76 := by kernel_rfl
  t77 := Tryz.underlying217
  a77 := Tryz.isAgg217
  z77 := Tryz.sizeOf217
  v77 := Tryz.zeroValue217
  i77 := by kernel_rfl
  t78 := Tryz.underlying218
  a78 := Tryz.isAgg218
  z78 := Tryz.sizeOf218
  v78 := Tryz.zeroValue218
  i78 := by kernel_rfl
  t79 := Tryz.underlying219
  a79 := Tryz.isAgg219
  z79 := Tryz.sizeOf219
  v79 := Tryz.zeroValue219
  i79 := by kernel_rfl
  t80 := Tryz.underlying220
  a80 := Tryz.isAgg220
  z80 := Tryz.sizeOf220
  v80 := Tryz.zeroValue220
  i80 := by kernel_rfl
  t82 := Tryz.underlying222
  a82 := Tryz.isAgg222
  z82 := Tryz.sizeOf222
  v82 := Tryz.zeroValue222
  i82 := by kernel_rfl }
end Go.Proofs
