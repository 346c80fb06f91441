/- Put together: Tl, Sm, Li, Pq, Ly. -/
import Derived.Test.YtboinbmgndomhaaRows
import Derived.WalkKit
import Derived.WalkSpells
import Derived.WalkLawsBesides
import Derived.Deep.QuietTactic
import Derived.BigQuiet
import Derived.Lib.Hide
import Derived.Deep.WholeRow
import Derived.Deep.DeepCutAuto
import Derived.StillTailTactics
import Derived.ChangeKeysEq
import Derived.Below
import Derived.ProofKit
import Derived.OpenShut
import Derived.Lib.SmallJoins
import Derived.Ground.GgsProg
import Derived.Shelf.SlSortFuncK.BreakPatternsK
import Derived.Shelf.GgSortFunc.Slice
import Derived.Test.YtboinbmgndomhaaProg
namespace Go.Proofs.Ytboinbmgndomhaa
open Go.RowKit
set_option maxRecDepth 100000
set_option linter.unusedSimpArgs false
set_option linter.unusedVariables false

def Blk (w : World) (g : Nat) (t : TypeId) (cs : Array Value) : Prop := w.heap[g]? = some (.cells cs t (0, 0))
section
variable {w w' : World} {g : Nat} {t : TypeId} {cs : Array Value}
theorem Blk.lt (h : Blk w g t cs) : g < w.heap.size := by
  rcases Nat.lt_or_ge g w.heap.size with hlt | hge
  · exact hlt
  · unfold Blk at h; rw [Array.getElem?_eq_none hge] at h; cases h
theorem Blk.cell (h : Blk w g t cs) (i : Nat) : w.cell? ⟨g, i, none⟩ = cs[i]? := cell_of_row w g i cs t (0, 0) h
theorem Blk.frozen (h : Blk w g t cs) (i : Nat) : w.frozen? ⟨g, i, none⟩ = false := by
  unfold Blk at h
  simp [World.frozen?, h]
theorem Blk.new (w : World) (t : TypeId) (cs : Array Value) : Blk (w.alloc (.cells cs t)) w.heap.size t cs := heap_alloc_new w _
theorem Blk.drew (h : Blk w g t cs) : Blk w.drew g t cs := h
theorem Blk.drewN (h : Blk w g t cs) (n : Nat) : Blk (w.drewN n) g t cs := h
theorem Blk.alloc (h : Blk w g t cs) (o : Obj) : Blk (w.alloc o) g t cs := (Below.heap_alloc w o g h.lt).trans h
theorem Blk.set_ (h : Blk w g t cs) (i : Nat) (u : Value) : Blk (w.setCell ⟨g, i, none⟩ u) g t (cs.setIfInBounds i u) := by
  unfold Blk at h ⊢
  simp [World.setCell, Array.getElem?_modify, h]
theorem Blk.far (h : Blk w g t cs) {p : Addr} (hp : g ≠ p.block) (u : Value) : Blk (w.setCell p u) g t cs := (Below.heap_setCell w p u g hp).trans h
theorem Blk.below {B : Nat} (h : Blk w g t cs) (hb : Below B w w') (hg : g < B) : Blk w' g t cs := (hb.block g hg).trans h
theorem Blk.row (h : Blk w g t cs) (cs' : Array Value) : Blk (w.setRow g cs') g t cs' := by
  unfold Blk at h ⊢
  simp [World.setRow, Array.getElem?_modify, h]
theorem Blk.rowFar (h : Blk w g t cs) {g' : Nat} (hg : g ≠ g') (cs' : Array Value) : Blk (w.setRow g' cs') g t cs := by
  unfold Blk at h ⊢
  simp [World.setRow, Array.getElem?_modify, h]; omega
end
theorem below_setRow {B : Nat} {a w : World} (h : Below B a w) {g : Nat} (hp : B ≤ g) (cs : Array Value) : Below B a (w.setRow g cs) :=
  h.trans ⟨rfl, rfl, rfl, by simp, fun k hk => by simp [World.setRow, Array.getElem?_modify]; omega⟩
theorem below_drewN {B : Nat} {a w : World} (h : Below B a w) (n : Nat) : Below B a (w.drewN n) := ⟨h.os, h.tape, h.output, h.size, h.block⟩

theorem fold_drew (w : World) : ({ heap := w.heap, tape := w.tape, drawn := w.drawn + 1, os := w.os, output := w.output } : World) = w.drew := rfl
theorem wpList_build_to {P : Program} {ops : Array Oper} {rest : List Oper} {o : Oper} {a : Act} {w : World} {Q : Exit → Act → World → Prop} (hg : o.guard = none) (t : TypeId) (parts : Array (Nat × Operand)) (ho : o.op = .build t parts)
    (cs : Array Value) (hf : P.built t (parts.map fun (i, x) => (i, a.eval x)).toList = some cs)
    (h : wpList P ops Q rest (a.put o.dst (.agg cs)) w) : wpList P ops Q (o :: rest) a w :=
  wpList_build hg t parts ho (by rw [hf]; rfl) (by rw [hf]; exact h)
theorem wpList_store_new {P : Program} {ops : Array Oper} {rest : List Oper} {o : Oper} {a : Act} {w : World} {Q : Exit → Act → World → Prop} (hgd : o.guard = none) (ty : TypeId) (x y : Operand) (ho : o.op = .store ty x y)
    (cells : Array Value) (hx : a.eval x = .pointer (some ⟨w.heap.size, 0, none⟩)) (hy : a.eval y = .agg cells)
    (t : TypeId) (old : Array Value) (hi : (P.info? ty).map (·.size) = some cells.size)
    (hold : old.size = cells.size) (h1 : cells.all (·.oneCell') = true)
    (h : wpList P ops Q rest (a.put o.dst undef) (w.alloc (.cells cells t))) : wpList P ops Q (o :: rest) a (w.alloc (.cells old t)) :=
  wpList_store_row hgd ty x y ho _ cells hx hy t old (heap_alloc_last w _) hi hold h1 (by rw [World.setRow_alloc_new]; exact h)

section
variable {P : Program} {ops : Array Oper} {rest : List Oper} {o : Oper} {a : Act} {w : World}
theorem wpList_load_any {Q : Exit → Act → World → Prop} (hw : Region.wanted o (yielded ops a.tmps) = true) (ty : TypeId) (x : Operand) (ho : o.op = .load ty x)
    (g : Nat) (hx : a.eval x = .pointer (some ⟨g, 0, none⟩)) (t : TypeId) (cs : Array Value) (d : TypeDesc) (n : Nat) (hg : Blk w g t cs)
    (hu : P.underlying ty = some d) (hd : (match d with | .struct _ | .array _ _ => true | _ => false) = true) (hi : (P.info? ty).map (·.size) = some n) (hn : cs.size = n)
    (h : wpList P ops Q rest (a.put o.dst (.agg cs)) w) : wpList P ops Q (o :: rest) a w :=
  wpList_step fun K hK => by
    rw [if_pos hw]
    exact wp_load_row ty x ho g hx t cs (0, 0) d hg hu hd (by rw [hn]; exact hi) (hK _ _ h)

/-- A region whose order is open: its operations read, its calls make memory and leave what was there. -/
theorem region_below {id : Nat} {l : List Oper} {Q : Exit → Act → World → Prop} (hm : P.follows .mixedOrders = true) (hB : Region.lexB .any l.toArray = true)
    (h : wpQuiet P l.toArray (fun w' => Below w.heap.size w w') (fun a' => ∀ w', Below w.heap.size w w' → Q .normal a' w') l a) : (Code.region id l.toArray true).wp P Q a w :=
  wp_region_quiet (C := fun w' => Below w.heap.size w w') hm hB (show Below w.heap.size w w.drew from (Below.refl _ _).drew) (by simpa using h)

theorem q_load {C : World → Prop} {Q : Act → Prop} (hw : Region.wanted o (yielded ops a.tmps) = true) (ty : TypeId) (x : Operand) (ho : o.op = .load ty x)
    (g : Nat) (hx : a.eval x = .pointer (some ⟨g, 0, none⟩)) (t : TypeId) (cs : Array Value) (d : TypeDesc) (n : Nat) (hg : ∀ w, C w → Blk w g t cs)
    (hu : P.underlying ty = some d) (hd : (match d with | .struct _ | .array _ _ => true | _ => false) = true) (hi : (P.info? ty).map (·.size) = some n) (hn : cs.size = n)
    (h : wpQuiet P ops C Q rest (a.put o.dst (.agg cs))) : wpQuiet P ops C Q (o :: rest) a :=
  wpQuiet_step fun K hK => by
    rw [if_pos hw]
    refine ⟨.agg cs, fun w hC => ?_, hK _ h⟩
    unfold Oper.quietAt execOp
    simp only [ho, hx, Instr.loadAt, Instr.sureAddr, Sem.run_bind, Sem.run_pure, Result.andThen_ok, run_loadVar_row w g t ty cs (0, 0) d (hg w hC) hu hd (by rw [hn]; exact hi)]
    exact ⟨rfl, rfl⟩

/-- Function f has a body that is entered when it is called. -/
def enters (P : Program) (f : FuncId) : Bool := (P.funcs[f]?).any fun fn => !(fn.name == "runtime.NumGoroutine") && fn.body.isSome
theorem run_enter {f : FuncId} {xs : Array Operand} {ts : Array TypeId} (he : enters P f = true) (ho : o.op = .call { callee := .value (.func f), args := xs, argTypes := ts }) (w : World) :
    (execOp a.eval o).run P w = .ok (.enter f (xs.map a.eval)) w := by
  unfold enters at he
  cases hf : P.funcs[f]? with
  | none => simp [hf] at he
  | some fn =>
    simp only [hf, Option.any_some, Bool.and_eq_true, Bool.not_eq_true', beq_eq_false_iff_ne, ne_eq] at he
    obtain ⟨h1, h2⟩ := he
    have h2' : fn.body ≠ none := by intro e; rw [e] at h2; simp at h2
    simp [execOp, ho, resolve, Act.eval, Deferred.ofValue, invoke, callFunc, program, hf, h1, h2', Sem.run, Sem.run_bind]
theorem q_call {C : World → Prop} {Q : Act → Prop} (hw : Region.wanted o (yielded ops a.tmps) = true) (f : FuncId) (xs : List Operand) (ts : Array TypeId)
    (ho : o.op = .call { callee := .value (.func f), args := xs.toArray, argTypes := ts }) (he : enters P f = true) (args : List Value) (ha : xs.map a.eval = args) (v : Value)
    (hc : ∀ w, C w → Calls P f args.toArray w fun e w' => e = .returned v ∧ C w')
    (h : wpQuiet P ops C Q rest (a.put o.dst v)) : wpQuiet P ops C Q (o :: rest) a :=
  wpQuiet_step fun K hK => by
    rw [if_pos hw]
    refine ⟨v, fun w hC => ?_, hK _ h⟩
    unfold Oper.quietAt
    rw [run_enter he ho w, List.map_toArray, ha]
    exact ⟨rfl, hc w hC⟩
end
/-- A contract in the class 'what was there stays'. -/
theorem calls_below {P : Program} {f : FuncId} {args : Array Value} {v : Value} {W w : World} (hb : Below W.heap.size W w) (hc : Calls P f args w fun e w' => e = .returned v ∧ Below w.heap.size w w') :
    Calls P f args w fun e w' => e = .returned v ∧ Below W.heap.size W w' :=
  hc.mono fun _ _ ⟨h1, h2⟩ => ⟨h1, hb.trans (h2.mono hb.size)⟩

theorem bcell {W w1 : World} (hb : Below W.heap.size W w1) : (∀ b o, b < W.heap.size → w1.cell? ⟨b, o, none⟩ = W.cell? ⟨b, o, none⟩) ∧ (∀ b o, b < W.heap.size → w1.frozen? ⟨b, o, none⟩ = W.frozen? ⟨b, o, none⟩) :=
  ⟨fun _ _ h => hb.cell h, fun _ _ h => hb.frozen h⟩
theorem bth {w W w1 : World} (h0 : Below w.heap.size w W) (h1 : Below W.heap.size W w1) : Below w.heap.size w w1 := h0.trans (h1.mono h0.size)
theorem bel1 (w : World) (x : Obj) : Below w.heap.size w (w.alloc x) := (Below.refl _ _).alloc (Nat.le_refl _) _
theorem bel2 (w : World) (x y : Obj) : Below w.heap.size w ((w.alloc x).alloc y) := (bel1 w x).alloc (by simp) _
theorem bel3 (w : World) (x y z : Obj) : Below w.heap.size w (((w.alloc x).alloc y).alloc z) := (bel2 w x y).alloc (by simp; omega) _
end Go.Proofs.Ytboinbmgndomhaa
namespace Go.Proofs.Ytboinbmgndomhaa

/-- A stamp, or a path: two ints. -/
structure St where
  e : Int
  r : Int
deriving DecidableEq
/-- Its parts are ints of 64 bits. -/
def St.I (a : St) : Prop := -9223372036854775808 ≤ a.e ∧ a.e ≤ 9223372036854775807 ∧ -9223372036854775808 ≤ a.r ∧ a.r ≤ 9223372036854775807
def inB (n : Int) : Bool := decide (0 ≤ n ∧ n ≤ 1000000)
def St.rightB (a : St) : Bool := inB a.e && inB a.r
def St.leB (a b : St) : Bool := decide (a.e ≤ b.e ∧ a.r ≤ b.r)
def St.aheadB (a b : St) : Bool := decide (a.e < b.e ∨ a.e = b.e ∧ a.r < b.r)
def St.cmp (a b : St) : Int := if a = b then 0 else if a.aheadB b then -1 else 1
def St.join (a b : St) : St := ⟨max a.e b.e, max a.r b.r⟩
def St.meet (a b : St) : St := ⟨min a.e b.e, min a.r b.r⟩
def St.zero : St := ⟨0, 0⟩
def St.add (a p : St) : St := ⟨a.e + p.e, a.r + p.r⟩
def St.afterB (t p : St) : Bool := t.rightB && p.rightB && (t.add p).rightB
def St.after (t p : St) : St := if t.afterB p then t.add p else St.zero

theorem inB_iff {n : Int} : inB n = true ↔ 0 ≤ n ∧ n ≤ 1000000 := by unfold inB; simp
theorem St.right_iff {a : St} : a.rightB = true ↔ (0 ≤ a.e ∧ a.e ≤ 1000000) ∧ 0 ≤ a.r ∧ a.r ≤ 1000000 := by unfold St.rightB inB; simp
theorem St.le_iff {a b : St} : a.leB b = true ↔ a.e ≤ b.e ∧ a.r ≤ b.r := by unfold St.leB; simp
theorem St.ahead_iff {a b : St} : a.aheadB b = true ↔ a.e < b.e ∨ a.e = b.e ∧ a.r < b.r := by unfold St.aheadB; simp
theorem St.ext' {a b : St} (h1 : a.e = b.e) (h2 : a.r = b.r) : a = b := by cases a; cases b; simp_all
theorem St.eq_iff {a b : St} : a = b ↔ a.e = b.e ∧ a.r = b.r := ⟨fun h => by subst h; exact ⟨rfl, rfl⟩, fun h => St.ext' h.1 h.2⟩
theorem St.le_refl (a : St) : a.leB a = true := by rw [St.le_iff]; omega
theorem St.le_trans {a b c : St} (h1 : a.leB b = true) (h2 : b.leB c = true) : a.leB c = true := by rw [St.le_iff] at *; omega
theorem St.le_antisymm {a b : St} (h1 : a.leB b = true) (h2 : b.leB a = true) : a = b := by rw [St.le_iff] at *; rw [St.eq_iff]; omega
theorem St.cmp_le {a b : St} (h : a.leB b = true) : a.cmp b ≤ 0 := by
  unfold St.cmp
  split
  · omega
  · rename_i hne
    have h' := St.le_iff.1 h
    rw [St.eq_iff] at hne
    rw [if_pos (St.ahead_iff.2 (by omega))]
    omega
theorem after_no {t p : St} (h : t.afterB p = false) : t.after p = St.zero := by unfold St.after; rw [h]; rfl
theorem after_yes {t p : St} (h : t.afterB p = true) : t.after p = t.add p := by unfold St.after; rw [h]; rfl
theorem after_iff {t p : St} : t.afterB p = true ↔ (0 ≤ t.e ∧ t.e ≤ 1000000 ∧ 0 ≤ t.r ∧ t.r ≤ 1000000) ∧ (0 ≤ p.e ∧ p.e ≤ 1000000 ∧ 0 ≤ p.r ∧ p.r ≤ 1000000) ∧ t.e + p.e ≤ 1000000 ∧ t.r + p.r ≤ 1000000 := by
  unfold St.afterB
  simp only [Bool.and_eq_true, St.right_iff, St.add]
  omega
theorem after_t {t p : St} (h : t.afterB p = true) : (0 ≤ t.e ∧ t.e ≤ 1000000 ∧ 0 ≤ t.r ∧ t.r ≤ 1000000) ∧ (0 ≤ p.e ∧ p.e ≤ 1000000 ∧ 0 ≤ p.r ∧ p.r ≤ 1000000) ∧ t.e + p.e ≤ 1000000 ∧ t.r + p.r ≤ 1000000 ∧ (t.after p).e = t.e + p.e ∧ (t.after p).r = t.r + p.r := by
  obtain ⟨h1, h2, h3, h4⟩ := after_iff.1 h
  exact ⟨h1, h2, h3, h4, by rw [after_yes h]; rfl, by rw [after_yes h]; rfl⟩
theorem after_f {t p : St} (h : t.afterB p = false) : ¬ ((0 ≤ t.e ∧ t.e ≤ 1000000 ∧ 0 ≤ t.r ∧ t.r ≤ 1000000) ∧ (0 ≤ p.e ∧ p.e ≤ 1000000 ∧ 0 ≤ p.r ∧ p.r ≤ 1000000) ∧ t.e + p.e ≤ 1000000 ∧ t.r + p.r ≤ 1000000) ∧ (t.after p).e = 0 ∧ (t.after p).r = 0 := by
  rw [after_no h, ← after_iff, h]
  exact ⟨by simp, rfl, rfl⟩
theorem cmp_spec (a b : St) : (a.cmp b = 0 ∧ a.e = b.e ∧ a.r = b.r) ∨ (a.cmp b = -1 ∧ (a.e < b.e ∨ a.e = b.e ∧ a.r < b.r)) ∨ (a.cmp b = 1 ∧ (b.e < a.e ∨ a.e = b.e ∧ b.r < a.r)) := by
  unfold St.cmp St.aheadB
  by_cases h : a = b
  · rw [if_pos h]
    subst h
    omega
  · rw [if_neg h]
    rw [St.eq_iff] at h
    by_cases h2 : a.e < b.e ∨ a.e = b.e ∧ a.r < b.r
    · rw [if_pos (by simpa using h2)]; omega
    · rw [if_neg (by simpa using h2)]; omega
theorem le_t {a b : St} (h : a.leB b = true) : a.e ≤ b.e ∧ a.r ≤ b.r := St.le_iff.1 h
theorem le_f {a b : St} (h : a.leB b = false) : ¬ (a.e ≤ b.e ∧ a.r ≤ b.r) := by rw [← St.le_iff, h]; simp
theorem ahead_t {a b : St} (h : a.aheadB b = true) : a.e < b.e ∨ a.e = b.e ∧ a.r < b.r := St.ahead_iff.1 h
theorem ahead_f {a b : St} (h : a.aheadB b = false) : ¬ (a.e < b.e ∨ a.e = b.e ∧ a.r < b.r) := by rw [← St.ahead_iff, h]; simp
theorem right_t {a : St} (h : a.rightB = true) : 0 ≤ a.e ∧ a.e ≤ 1000000 ∧ 0 ≤ a.r ∧ a.r ≤ 1000000 := by have := St.right_iff.1 h; omega
theorem right_f {a : St} (h : a.rightB = false) : ¬ (0 ≤ a.e ∧ a.e ≤ 1000000 ∧ 0 ≤ a.r ∧ a.r ≤ 1000000) := by
  intro h2
  rw [St.right_iff.2 (by omega)] at h
  cases h
theorem eq_t {a b : St} (h : decide (a = b) = true) : a.e = b.e ∧ a.r = b.r := St.eq_iff.1 (of_decide_eq_true h)
theorem eq_f {a b : St} (h : decide (a = b) = false) : ¬ (a.e = b.e ∧ a.r = b.r) := fun h2 => of_decide_eq_false h (St.eq_iff.2 h2)
theorem in_t {n : Int} (h : inB n = true) : 0 ≤ n ∧ n ≤ 1000000 := inB_iff.1 h
theorem in_f {n : Int} (h : inB n = false) : ¬ (0 ≤ n ∧ n ≤ 1000000) := by rw [← inB_iff, h]; simp
theorem join_spec (a b : St) : (a.join b).e = max a.e b.e ∧ (a.join b).r = max a.r b.r := ⟨rfl, rfl⟩
theorem meet_spec (a b : St) : (a.meet b).e = min a.e b.e ∧ (a.meet b).r = min a.r b.r := ⟨rfl, rfl⟩
def covB (L : List St) (t : St) : Bool := L.any fun s => s.leB t
def beyB (A B : List St) : Bool := A.all fun s => covB B s
theorem all_succ {P : Nat → Prop} {i : Int} (h : ∀ k, k < i.toNat → P k) (h0 : 0 ≤ i) (hi : P i.toNat) : ∀ k, k < (i + 1).toNat → P k := fun k hk => by
  by_cases e : k = i.toNat
  · rw [e]; exact hi
  · exact h k (by omega)
theorem all_none {P : Nat → Prop} : ∀ k, k < (0 : Int).toNat → P k := fun k hk => by simp at hk
end Go.Proofs.Ytboinbmgndomhaa
namespace Go.Proofs.Ytboinbmgndomhaa
open Go.ChangeShapes Go.WideShapes Go.ChangeAt Go.RowKit Go.Joins Go.Deep
set_option maxRecDepth 100000
set_option linter.unusedSimpArgs false
set_option linter.unusedVariables false

theorem Try.own : ownKnob Try.prog.godebug = none := by kernel_rfl
theorem Try.laidOut : laidOutB Try.prog = true := by kernel_rfl

section
variable {H : Type} {enc : TypeId × Value → H} {P : Program}
theorem trodAll_stays (hl : laidOutB P = true) {W W' : World} (hb : Below W.heap.size W W') : ∀ (ts : List TypeId) (vs : List Value) (ds : List (DataW H)) (ps : List MemPlace),
    (∀ t ∈ ts, P.readableRec t = true ∧ t < P.types.size) → (∀ x ∈ ps, x.block < W.heap.size) →
    DataW.TrodAll enc P W 0 (fun _ => true) true ts vs ds ps → DataW.TrodAll enc P W' 0 (fun b => decide (b < W.heap.size)) true ts vs ds ps
  | [], [], [], ps, _, _, h => h
  | t :: ts, v :: vs, d :: ds, ps, hr, hlt, h => by
    obtain ⟨p, q, h1, h2, rfl⟩ := h
    exact ⟨p, q, Below.trod hl (hr t (by simp)).1 (hr t (by simp)).2 h1 hb (fun x hx => hlt x (by simp [hx])),
      trodAll_stays hl hb ts vs ds q (fun t ht => hr t (by simp [ht])) (fun x hx => hlt x (by simp [hx])) h2, rfl⟩
  | [], [], _ :: _, _, _, _, h => h.elim
  | [], _ :: _, _, _, _, _, h => by simp [DataW.TrodAll] at h
  | _ :: _, [], _, _, _, _, h => by simp [DataW.TrodAll] at h
  | _ :: _, _ :: _, [], _, _, _, h => by simp [DataW.TrodAll] at h

/-- A law's post: it returned true, and what was there is as it was. -/
theorem law_post {f : Func} {s : ChangeSpec} {W W' : World} {args : Array Value} {ds gs : List (DataW H)} {before : List MemPlace} {tb : TypeId}
    (hl : laidOutB P = true) (hr : ∀ t ∈ f.params.toList, P.readableRec t = true ∧ t < P.types.size) (hres : f.resultTypes = #[tb]) (htb : P.underlying tb = some .bool)
    (hvars : s.vars = []) (hfn : (s.fn H ds).results = [.lit (.bool true)] ∧ (s.fn H ds).args = ds ∧ (s.fn H ds).vars = [])
    (hW : DataW.Whole enc P f.params.toList s.vars false W args.toList ds gs before) (hb : Below W.heap.size W W') :
    s.post enc P f false true false false W args (.bool true) W' := by
  have hW' := hW
  have hlt : ∀ p ∈ before, p.block < W.heap.size := fun p hp => hW.lt p hp
  obtain ⟨p, q, hA, hV, hpq, hfz, hnd⟩ := hW
  rw [hvars] at hV
  obtain ⟨rfl, rfl⟩ := trodVars_none hV
  simp only [List.append_nil] at hpq
  subst hpq
  refine ⟨ds, [], before, [], before, [], hW', ?_, ?_, ?_, ?_, fun h => by cases h⟩
  · rw [List.append_nil, hfn.1, hres]
    exact trodAll_mk1 (shut_bool htb _)
  · rw [List.append_nil, hfn.2.1]
    exact trodAll_stays hl hb _ _ _ _ hr hlt hA
  · rw [List.append_nil, hfn.2.2, hvars]
    exact rfl
  · exact World.keptBut_mono (fun p hp => ⟨hp, .inr (.inl hp)⟩) (hb.frame (· ∈ before))
end

theorem wf8 {n : Int} (h : (Lit.int .u8 n).wf = true) : 0 ≤ n ∧ n < 256 := by
  have : 0 ≤ n ∧ n ≤ 255 := by simpa [Lit.wf, IntKind.min, IntKind.max, IntKind.signed, IntKind.bits] using h
  omega
theorem wf64 {n : Int} (h : (Lit.int .i64 n).wf = true) : -9223372036854775808 ≤ n ∧ n ≤ 9223372036854775807 := by
  simpa [Lit.wf, IntKind.min, IntKind.max, IntKind.signed, IntKind.bits] using h

section
variable {H : Type} {enc : TypeId × Value → H} {W : World}
/-- The cells of a struct of two ints. -/
theorem pair_cells {t ti : TypeId} {f0 f1 : Field} (hu : Try.prog.underlying t = some (.struct #[f0, f1])) (hone : oneCellFields Try.prog #[f0, f1] = true) (hC : Try.prog.cellsOf t = 2)
    (h0 : f0.type = ti) (h1 : f1.type = ti) (hi : Try.prog.underlying ti = some (.int .i64)) {base : Nat} {sp : Nat → Bool} {held : Bool} {fuel : Nat} {cs : List Value} {x : DataW H × List MemPlace} (h : DataW.trod enc Try.prog W base sp held fuel t cs = some x) :
    ∃ a : St, cs = [.int .i64 a.e, .int .i64 a.r] ∧ a.I := by
  obtain ⟨y0, y1, n, _, hl, hy0, hy1⟩ := trod_struct2 hu h
  obtain ⟨o0, k0⟩ := hone_of hone 0 f0 rfl
  obtain ⟨o1, k1⟩ := hone_of hone 1 f1 rfl
  rw [hC] at hl
  match cs, hl with
  | [c0, c1], _ =>
    rw [o0, k0, h0] at hy0
    rw [o1, k1, h1] at hy1
    obtain ⟨z0, e0, _, w0⟩ := DataW.trod_int hi hy0
    obtain ⟨z1, e1, _, w1⟩ := DataW.trod_int hi hy1
    have e0' : c0 = .int .i64 z0 := by simpa using e0
    have e1' : c1 = .int .i64 z1 := by simpa using e1
    subst e0' e1'
    exact ⟨⟨z0, z1⟩, rfl, (wf64 w0).1, (wf64 w0).2, (wf64 w1).1, (wf64 w1).2⟩
/-- A struct of two ints that came in by value. -/
theorem openPair {t ti : TypeId} {f0 f1 : Field} (hu : Try.prog.underlying t = some (.struct #[f0, f1])) (hone : oneCellFields Try.prog #[f0, f1] = true) (hC : Try.prog.cellsOf t = 2)
    (h0 : f0.type = ti) (h1 : f1.type = ti) (hi : Try.prog.underlying ti = some (.int .i64)) {v : Value} {d : DataW H} {ps : List MemPlace} {base : Nat} (hval : Value.okWide Try.prog W .any base t v) (h : DataW.Trod enc Try.prog W 0 (fun _ => true) true t v d ps) :
    ∃ a : St, v = .agg #[.int .i64 a.e, .int .i64 a.r] ∧ a.I := by
  obtain ⟨cs, rfl, hsz⟩ := okWide_struct hu hval
  obtain ⟨fuel, hf⟩ := h
  obtain ⟨a, ha, hI⟩ := pair_cells hu hone hC h0 h1 hi hf
  refine ⟨a, ?_, hI⟩
  have ha' : cs.toList = [.int .i64 a.e, .int .i64 a.r] := ha
  congr 1
  exact Array.ext' ha'
/-- An array of two such structs. -/
theorem openPairs {ta t ti : TypeId} {f0 f1 : Field} (hua : Try.prog.underlying ta = some (.array 2 t)) (hu : Try.prog.underlying t = some (.struct #[f0, f1])) (hone : oneCellFields Try.prog #[f0, f1] = true) (hC : Try.prog.cellsOf t = 2) (hCa : Try.prog.cellsOf ta = 4)
    (h0 : f0.type = ti) (h1 : f1.type = ti) (hi : Try.prog.underlying ti = some (.int .i64)) {v : Value} {d : DataW H} {ps : List MemPlace} {base : Nat} (hval : Value.okWide Try.prog W .any base ta v) (h : DataW.Trod enc Try.prog W 0 (fun _ => true) true ta v d ps) :
    ∃ p q : St, v = .agg #[.int .i64 p.e, .int .i64 p.r, .int .i64 q.e, .int .i64 q.r] ∧ p.I ∧ q.I := by
  unfold Value.okWide at hval
  rw [hua] at hval
  obtain ⟨cs, rfl, hsz, _⟩ := hval
  obtain ⟨fuel, hf⟩ := h
  obtain ⟨xs, m, _, _, hl, hlen, heach⟩ := DataW.trod_array hua hf
  have e0 := heach 0 (by omega)
  have e1 := heach 1 (by omega)
  rw [hC, List.getElem?_eq_getElem (by omega)] at e0 e1
  obtain ⟨p, hp, hpI⟩ := pair_cells hu hone hC h0 h1 hi e0
  obtain ⟨q, hq, hqI⟩ := pair_cells hu hone hC h0 h1 hi e1
  refine ⟨p, q, ?_, hpI, hqI⟩
  have hcs : (Value.agg cs).cells = cs := rfl
  rw [hcs] at hp hq
  rw [hCa] at hsz
  congr 1
  apply Array.ext'
  have h4 : cs.toList.length = 4 := by simpa using hsz
  have : cs.toList = (cs.toList.drop (0 * 2)).take 2 ++ (cs.toList.drop (1 * 2)).take 2 := by
    match hm : cs.toList, h4 with
    | [_, _, _, _], _ => rfl
  rw [this, hp, hq]
  rfl
end
section
variable {H : Type} {enc : TypeId × Value → H} {W : World}
theorem openS {v : Value} {d : DataW H} {ps : List MemPlace} {base : Nat} (hval : Value.okWide Try.prog W .any base 32 v) (h : DataW.Trod enc Try.prog W 0 (fun _ => true) true 32 v d ps) :
    ∃ a : St, v = .agg #[.int .i64 a.e, .int .i64 a.r] ∧ a.I := openPair Try.underlying32 (by kernel_rfl) (by kernel_rfl) rfl rfl Try.underlying3 hval h
end
theorem rdS : Try.prog.readableRec 32 = true ∧ 32 < Try.prog.types.size := ⟨by kernel_rfl, of_decide_eq_true (by kernel_rfl)⟩
section
variable {H : Type} {enc : TypeId × Value → H} {W : World}
theorem openP {v : Value} {d : DataW H} {ps : List MemPlace} {base : Nat} (hval : Value.okWide Try.prog W .any base 49 v) (h : DataW.Trod enc Try.prog W 0 (fun _ => true) true 49 v d ps) :
    ∃ a : St, v = .agg #[.int .i64 a.e, .int .i64 a.r] ∧ a.I := openPair Try.underlying49 (by kernel_rfl) (by kernel_rfl) rfl rfl Try.underlying3 hval h
end
theorem rdP : Try.prog.readableRec 49 = true ∧ 49 < Try.prog.types.size := ⟨by kernel_rfl, of_decide_eq_true (by kernel_rfl)⟩
end Go.Proofs.Ytboinbmgndomhaa
namespace Go.Proofs.Ytboinbmgndomhaa
open Go

structure Po where
  n : Int
  t : St
deriving DecidableEq
def Po.zero : Po := ⟨0, St.zero⟩
end Go.Proofs.Ytboinbmgndomhaa
namespace Go.Proofs
open Go.Shelf
def Try.sl6_ren : Go.Shelf.Ren := ⟨fun | 6 => 52 | 10 => 63 | 11 => 64 | 12 => 65 | 13 => 66 | 14 => 67 | 24 => 80 | 25 => 81 | 26 => 82 | 27 => 83 | 28 => 84 | 29 => 85 | 30 => 86 | 31 => 87 | 32 => 88 | 33 => 89 | 34 => 90 | 35 => 91 | 36 => 92 | 37 => 93 | 38 => 94 | 39 => 95 | n => n, fun | 20 => 20 | 26 => 103 | 35 => 115 | 0 => 0 | 37 => 117 | 3 => 3 | 41 => 121 | 44 => 124 | 49 => 133 | 51 => 135 | 4 => 4 | 54 => 138 | 53 => 137 | 58 => 142 | 5 => 5 | 9 => 9 | 60 => 144 | 64 => 148 | 66 => 150 | 67 => 151 | 17 => 17 | 32 => 112 | 33 => 113 | 82 => 166 | 12 => 12 | 75 => 159 | 76 => 160 | 77 => 161 | 78 => 162 | 79 => 163 | 80 => 164 | n => n, fun | n => n⟩
theorem Try.sl6 : Go.Proofs.LaysGg.n6 Try.prog Try.sl6_ren := {
  mixed := by kernel_rfl
  f6 := Try.func52.trans (congrArg some (by kernel_rfl))
  f10 := Try.func63.trans (congrArg some (by kernel_rfl))
  f11 := Try.func64.trans (congrArg some (by kernel_rfl))
  f12 := Try.func65.trans (congrArg some (by kernel_rfl))
  f13 := Try.func66.trans (congrArg some (by kernel_rfl))
  f14 := Try.func67.trans (congrArg some (by kernel_rfl))
  f24 := Try.func80.trans (congrArg some (by kernel_rfl))
  f25 := Try.func81.trans (congrArg some (by kernel_rfl))
  f26 := Try.func82.trans (congrArg some (by kernel_rfl))
  f27 := Try.func83.trans (congrArg some (by kernel_rfl))
  f28 := Try.func84.trans (congrArg some (by kernel_rfl))
  f29 := Try.func85.trans (congrArg some (by kernel_rfl))
  f30 := Try.func86.trans (congrArg some (by kernel_rfl))
  f31 := Try.func87.trans (congrArg some (by kernel_rfl))
  f32 := Try.func88.trans (congrArg some (by kernel_rfl))
  f33 := Try.func89.trans (congrArg some (by kernel_rfl))
  f34 := Try.func90.trans (congrArg some (by kernel_rfl))
  f35 := Try.func91.trans (congrArg some (by kernel_rfl))
  f36 := Try.func92.trans (congrArg some (by kernel_rfl))
  f37 := Try.func93.trans (congrArg some (by kernel_rfl))
  f38 := Try.func94.trans (congrArg some (by kernel_rfl))
  f39 := Try.func95.trans (congrArg some (by kernel_rfl))
  t0 := Try.underlying0
  a0 := Try.isAgg0
  z0 := Try.sizeOf0
  v0 := Try.zeroValue0
  i0 := by kernel_rfl
  t3 := Try.underlying3
  a3 := Try.isAgg3
  z3 := Try.sizeOf3
  v3 := Try.zeroValue3
  i3 := by kernel_rfl
  t4 := Try.underlying4
  a4 := Try.isAgg4
  z4 := Try.sizeOf4
  v4 := Try.zeroValue4
  i4 := by kernel_rfl
  t5 := Try.underlying5
  a5 := Try.isAgg5
  z5 := Try.sizeOf5
  v5 := Try.zeroValue5
  i5 := by kernel_rfl
  t9 := Try.underlying9
  a9 := Try.isAgg9
  z9 := Try.sizeOf9
  v9 := Try.zeroValue9
  i9 := by kernel_rfl
  t12 := Try.underlying12
  a12 := Try.isAgg12
  z12 := Try.sizeOf12
  v12 := Try.zeroValue12
  i12 := by kernel_rfl
  t17 := Try.underlying17
  a17 := Try.isAgg17
  z17 := Try.sizeOf17
  v17 := Try.zeroValue17
  i17 := by kernel_rfl
  t20 := Try.underlying20
  a20 := Try.isAgg20
  z20 := Try.sizeOf20
  v20 := Try.zeroValue20
  i20 := by kernel_rfl
  t26 := Try.underlying103
  a26 := Try.isAgg103
  z26 := Try.sizeOf103
  v26 := Try.zeroValue103
  i26 := by kernel_rfl
  t32 := Try.underlying112
  a32 := Try.isAgg112
  z32 := Try.sizeOf112
  v32 := Try.zeroValue112
  i32 := by kernel_rfl
  t33 := Try.underlying113
  a33 := Try.isAgg113
  z33 := Try.sizeOf113
  v33 := Try.zeroValue113
  i33 := by kernel_rfl
  t35 := Try.underlying115
  a35 := Try.isAgg115
  z35 := Try.sizeOf115
  v35 := Try.zeroValue115
  i35 := by kernel_rfl
  t37 := Try.underlying117
  a37 := Try.isAgg117
  z37 := Try.sizeOf117
  v37 := Try.zeroValue117
  i37 := by kernel_rfl
  t41 := Try.underlying121
  a41 := Try.isAgg121
  z41 := Try.sizeOf121
  v41 := Try.zeroValue121
  i41 := by kernel_rfl
  t44 := Try.underlying124
  a44 := Try.isAgg124
  z44 := Try.sizeOf124
  v44 := Try.zeroValue124
  i44 := by kernel_rfl
  t49 := Try.underlying133
  a49 := Try.isAgg133
  z49 := Try.sizeOf133
  v49 := Try.zeroValue133
  i49 := by kernel_rfl
  t51 := Try.underlying135
  a51 := Try.isAgg135
  z51 := Try.sizeOf135
  v51 := Try.zeroValue135
  i51 := by kernel_rfl
  t53 := Try.underlying137
  a53 := Try.isAgg137
  z53 := Try.sizeOf137
  v53 := Try.zeroValue137
  i53 := by kernel_rfl
  t54 := Try.underlying138
  a54 := Try.isAgg138
  z54 := Try.sizeOf138
  v54 := Try.zeroValue138
  i54 := by kernel_rfl
  t58 := Try.underlying142
  a58 := Try.isAgg142
  z58 := Try.sizeOf142
  v58 := Try.zeroValue142
  i58 := by kernel_rfl
  t60 := Try.underlying144
  a60 := Try.isAgg144
  z60 := Try.sizeOf144
  v60 := Try.zeroValue144
  i60 := by kernel_rfl
  t64 := Try.underlying148
  a64 := Try.isAgg148
  z64 := Try.sizeOf148
  v64 := Try.zeroValue148
  i64 := by kernel_rfl
  t66 := Try.underlying150
  a66 := Try.isAgg150
  z66 := Try.sizeOf150
  v66 := Try.zeroValue150
  i66 := by kernel_rfl
  t67 := Try.underlying151
  a67 := Try.isAgg151
  z67 := Try.sizeOf151
  v67 := Try.zeroValue151
  i67 := by kernel_rfl
  t75 := Try.underlying159
  a75 := Try.isAgg159
  z75 := Try.sizeOf159
  v75 := Try.zeroValue159
  i75 := by kernel_rfl
  t76 := Try.underlying160
  a76 := Try.isAgg160
  z76 := Try.sizeOf160
  v76 := Try.zeroValue160
  i76 := by kernel_rfl
  t77 := Try.underlying161
  a77 := Try.isAgg161
  z77 := Try.sizeOf161
  v77 := Try.zeroValue161
  i77 := by kernel_rfl
  t78 := Try.underlying162
  a78 := Try.isAgg162
  z78 := Try.sizeOf162
  v78 := Try.zeroValue162
  i78 := by kernel_rfl
  t79 := Try.underlying163
  a79 := Try.isAgg163
  z79 := Try.sizeOf163
  v79 := Try.zeroValue163
  i79 := by kernel_rfl
  t80 := Try.underlying164
  a80 := Try.isAgg164
  z80 := Try.sizeOf164
  v80 := Try.zeroValue164
  i80 := by kernel_rfl
  t82 := Try.underlying166
  a82 := Try.isAgg166
  z82 := Try.sizeOf166
  v82 := Try.zeroValue166
  i82 := by kernel_rfl }
end Go.Proofs
