/- Put together: Tl, Sm, Li, Rl, Pq. -/
import Derived.Test.YtcobpabmmbcjcaaRows
import Derived.WalkKit
import Derived.WalkSpells
import Derived.WalkLawsBesides
import Derived.Deep.QuietTactic
import Derived.BigQuiet
import Derived.Lib.Hide
import Derived.Deep.WholeRow
import Derived.Deep.DeepCutAuto
import Derived.StillTailTactics
import Derived.ChangeKeysEq
import Derived.Below
import Derived.ProofKit
import Derived.OpenShut
import Derived.Lib.SmallJoins
import Derived.StillTail
namespace Go.Proofs.Ytcobpabmmbcjcaa
open Go.RowKit
set_option maxRecDepth 100000
set_option linter.unusedSimpArgs false
set_option linter.unusedVariables false
def Blk (w : World) (g : Nat) (t : TypeId) (cs : Array Value) : Prop := w.heap[g]? = some (.cells cs t (0, 0))
section
variable {w w' : World} {g : Nat} {t : TypeId} {cs : Array Value}
theorem Blk.lt (h : Blk w g t cs) : g < w.heap.size := by
  rcases Nat.lt_or_ge g w.heap.size with hlt | hge
  · exact hlt
  · unfold Blk at h; rw [Array.getElem?_eq_none hge] at h; cases h
theorem Blk.cell (h : Blk w g t cs) (i : Nat) : w.cell? ⟨g, i, none⟩ = cs[i]? := cell_of_row w g i cs t (0, 0) h
theorem Blk.frozen (h : Blk w g t cs) (i : Nat) : w.frozen? ⟨g, i, none⟩ = false := by
  unfold Blk at h
  simp [World.frozen?, h]
theorem Blk.new (w : World) (t : TypeId) (cs : Array Value) : Blk (w.alloc (.cells cs t)) w.heap.size t cs := heap_alloc_new w _
theorem Blk.drew (h : Blk w g t cs) : Blk w.drew g t cs := h
theorem Blk.alloc (h : Blk w g t cs) (o : Obj) : Blk (w.alloc o) g t cs := (Below.heap_alloc w o g h.lt).trans h
theorem Blk.set_ (h : Blk w g t cs) (i : Nat) (u : Value) : Blk (w.setCell ⟨g, i, none⟩ u) g t (cs.setIfInBounds i u) := by
  unfold Blk at h ⊢
  simp [World.setCell, Array.getElem?_modify, h]
theorem Blk.far (h : Blk w g t cs) {p : Addr} (hp : g ≠ p.block) (u : Value) : Blk (w.setCell p u) g t cs := (Below.heap_setCell w p u g hp).trans h
theorem Blk.below {B : Nat} (h : Blk w g t cs) (hb : Below B w w') (hg : g < B) : Blk w' g t cs := (hb.block g hg).trans h
theorem Blk.row (h : Blk w g t cs) (cs' : Array Value) : Blk (w.setRow g cs') g t cs' := by
  unfold Blk at h ⊢
  simp [World.setRow, Array.getElem?_modify, h]
theorem Blk.rowFar (h : Blk w g t cs) {g' : Nat} (hg : g ≠ g') (cs' : Array Value) : Blk (w.setRow g' cs') g t cs := by
  unfold Blk at h ⊢
  simp [World.setRow, Array.getElem?_modify, h]; omega
end
section
variable {P : Program} {ops : Array Oper} {rest : List Oper} {o : Oper} {a : Act} {w : World}
def enters (P : Program) (f : FuncId) : Bool := (P.funcs[f]?).any fun fn => !(fn.name == "runtime.NumGoroutine") && fn.body.isSome
theorem run_enter {f : FuncId} {xs : Array Operand} {ts : Array TypeId} (he : enters P f = true) (ho : o.op = .call { callee := .value (.func f), args := xs, argTypes := ts }) (w : World) :
    (execOp a.eval o).run P w = .ok (.enter f (xs.map a.eval)) w := by
  unfold enters at he
  cases hf : P.funcs[f]? with
  | none => simp [hf] at he
  | some fn =>
    simp only [hf, Option.any_some, Bool.and_eq_true, Bool.not_eq_true', beq_eq_false_iff_ne, ne_eq] at he
    obtain ⟨h1, h2⟩ := he
    have h2' : fn.body ≠ none := by intro e; rw [e] at h2; simp at h2
    simp [execOp, ho, resolve, Act.eval, Deferred.ofValue, invoke, callFunc, program, hf, h1, h2', Sem.run, Sem.run_bind]
theorem q_call {C : World → Prop} {Q : Act → Prop} (hw : Region.wanted o (yielded ops a.tmps) = true) (f : FuncId) (xs : List Operand) (ts : Array TypeId)
    (ho : o.op = .call { callee := .value (.func f), args := xs.toArray, argTypes := ts }) (he : enters P f = true) (args : List Value) (ha : xs.map a.eval = args) (v : Value)
    (hc : ∀ w, C w → Calls P f args.toArray w fun e w' => e = .returned v ∧ C w')
    (h : wpQuiet P ops C Q rest (a.put o.dst v)) : wpQuiet P ops C Q (o :: rest) a :=
  wpQuiet_step fun K hK => by
    rw [if_pos hw]
    refine ⟨v, fun w hC => ?_, hK _ h⟩
    unfold Oper.quietAt
    rw [run_enter he ho w, List.map_toArray, ha]
    exact ⟨rfl, hc w hC⟩
end
theorem calls_below {P : Program} {f : FuncId} {args : Array Value} {v : Value} {W w : World} (hb : Below W.heap.size W w) (hc : Calls P f args w fun e w' => e = .returned v ∧ Below w.heap.size w w') :
    Calls P f args w fun e w' => e = .returned v ∧ Below W.heap.size W w' :=
  hc.mono fun _ _ ⟨h1, h2⟩ => ⟨h1, hb.trans (h2.mono hb.size)⟩
theorem bel1 (w : World) (x : Obj) : Below w.heap.size w (w.alloc x) := (Below.refl _ _).alloc (Nat.le_refl _) _
end Go.Proofs.Ytcobpabmmbcjcaa
namespace Go.Proofs.Ytcobpabmmbcjcaa
structure St where
  e : Int
  r : Int
deriving DecidableEq
def St.I (a : St) : Prop := -9223372036854775808 ≤ a.e ∧ a.e ≤ 9223372036854775807 ∧ -9223372036854775808 ≤ a.r ∧ a.r ≤ 9223372036854775807
def inB (n : Int) : Bool := decide (0 ≤ n ∧ n ≤ 1000000)
def St.rightB (a : St) : Bool := inB a.e && inB a.r
def St.leB (a b : St) : Bool := decide (a.e ≤ b.e ∧ a.r ≤ b.r)
def St.aheadB (a b : St) : Bool := decide (a.e < b.e ∨ a.e = b.e ∧ a.r < b.r)
def St.cmp (a b : St) : Int := if a = b then 0 else if a.aheadB b then -1 else 1
def St.join (a b : St) : St := ⟨max a.e b.e, max a.r b.r⟩
def St.meet (a b : St) : St := ⟨min a.e b.e, min a.r b.r⟩
def St.zero : St := ⟨0, 0⟩
def St.add (a p : St) : St := ⟨a.e + p.e, a.r + p.r⟩
def St.afterB (t p : St) : Bool := t.rightB && p.rightB && (t.add p).rightB
def St.after (t p : St) : St := if t.afterB p then t.add p else St.zero
theorem St.le_iff {a b : St} : a.leB b = true ↔ a.e ≤ b.e ∧ a.r ≤ b.r := by unfold St.leB; simp
theorem St.ext' {a b : St} (h1 : a.e = b.e) (h2 : a.r = b.r) : a = b := by cases a; cases b; simp_all
theorem St.eq_iff {a b : St} : a = b ↔ a.e = b.e ∧ a.r = b.r := ⟨fun h => by subst h; exact ⟨rfl, rfl⟩, fun h => St.ext' h.1 h.2⟩
theorem St.le_refl (a : St) : a.leB a = true := by rw [St.le_iff]; omega
theorem St.le_trans {a b c : St} (h1 : a.leB b = true) (h2 : b.leB c = true) : a.leB c = true := by rw [St.le_iff] at *; omega
theorem St.le_antisymm {a b : St} (h1 : a.leB b = true) (h2 : b.leB a = true) : a = b := by rw [St.le_iff] at *; rw [St.eq_iff]; omega
def covB (L : List St) (t : St) : Bool := L.any fun s => s.leB t
def beyB (A B : List St) : Bool := A.all fun s => covB B s
theorem all_succ {P : Nat → Prop} {i : Int} (h : ∀ k, k < i.toNat → P k) (h0 : 0 ≤ i) (hi : P i.toNat) : ∀ k, k < (i + 1).toNat → P k := fun k hk => by
  by_cases e : k = i.toNat
  · rw [e]; exact hi
  · exact h k (by omega)
theorem all_none {P : Nat → Prop} : ∀ k, k < (0 : Int).toNat → P k := fun k hk => by simp at hk
end Go.Proofs.Ytcobpabmmbcjcaa
namespace Go.Proofs.Ytcobpabmmbcjcaa
open Go.ChangeShapes Go.WideShapes Go.ChangeAt Go.RowKit Go.Joins Go.Deep
set_option maxRecDepth 100000
set_option linter.unusedSimpArgs false
set_option linter.unusedVariables false
theorem Try.own : ownKnob Try.prog.godebug = none := by kernel_rfl
theorem Try.laidOut : laidOutB Try.prog = true := by kernel_rfl
section
variable {H : Type} {enc : TypeId × Value → H} {P : Program}
theorem trodAll_stays (hl : laidOutB P = true) {W W' : World} (hb : Below W.heap.size W W') : ∀ (ts : List TypeId) (vs : List Value) (ds : List (DataW H)) (ps : List MemPlace),
    (∀ t ∈ ts, P.readableRec t = true ∧ t < P.types.size) → (∀ x ∈ ps, x.block < W.heap.size) →
    DataW.TrodAll enc P W 0 (fun _ => true) true ts vs ds ps → DataW.TrodAll enc P W' 0 (fun b => decide (b < W.heap.size)) true ts vs ds ps
  | [], [], [], ps, _, _, h => h
  | t :: ts, v :: vs, d :: ds, ps, hr, hlt, h => by
    obtain ⟨p, q, h1, h2, rfl⟩ := h
    exact ⟨p, q, Below.trod hl (hr t (by simp)).1 (hr t (by simp)).2 h1 hb (fun x hx => hlt x (by simp [hx])),
      trodAll_stays hl hb ts vs ds q (fun t ht => hr t (by simp [ht])) (fun x hx => hlt x (by simp [hx])) h2, rfl⟩
  | [], [], _ :: _, _, _, _, h => h.elim
  | [], _ :: _, _, _, _, _, h => by simp [DataW.TrodAll] at h
  | _ :: _, [], _, _, _, _, h => by simp [DataW.TrodAll] at h
  | _ :: _, _ :: _, [], _, _, _, h => by simp [DataW.TrodAll] at h
theorem law_post {f : Func} {s : ChangeSpec} {W W' : World} {args : Array Value} {ds gs : List (DataW H)} {before : List MemPlace} {tb : TypeId}
    (hl : laidOutB P = true) (hr : ∀ t ∈ f.params.toList, P.readableRec t = true ∧ t < P.types.size) (hres : f.resultTypes = #[tb]) (htb : P.underlying tb = some .bool)
    (hvars : s.vars = []) (hfn : (s.fn H ds).results = [.lit (.bool true)] ∧ (s.fn H ds).args = ds ∧ (s.fn H ds).vars = [])
    (hW : DataW.Whole enc P f.params.toList s.vars false W args.toList ds gs before) (hb : Below W.heap.size W W') :
    s.post enc P f false true false false W args (.bool true) W' := by
  have hW' := hW
  have hlt : ∀ p ∈ before, p.block < W.heap.size := fun p hp => hW.lt p hp
  obtain ⟨p, q, hA, hV, hpq, hfz, hnd⟩ := hW
  rw [hvars] at hV
  obtain ⟨rfl, rfl⟩ := trodVars_none hV
  simp only [List.append_nil] at hpq
  subst hpq
  refine ⟨ds, [], before, [], before, [], hW', ?_, ?_, ?_, ?_, fun h => by cases h⟩
  · rw [List.append_nil, hfn.1, hres]
    exact trodAll_mk1 (shut_bool htb _)
  · rw [List.append_nil, hfn.2.1]
    exact trodAll_stays hl hb _ _ _ _ hr hlt hA
  · rw [List.append_nil, hfn.2.2, hvars]
    exact rfl
  · exact World.keptBut_mono (fun p hp => ⟨hp, .inr (.inl hp)⟩) (hb.frame (· ∈ before))
end
theorem wf8 {n : Int} (h : (Lit.int .u8 n).wf = true) : 0 ≤ n ∧ n < 256 := by
  have : 0 ≤ n ∧ n ≤ 255 := by simpa [Lit.wf, IntKind.min, IntKind.max, IntKind.signed, IntKind.bits] using h
  omega
theorem wf64 {n : Int} (h : (Lit.int .i64 n).wf = true) : -9223372036854775808 ≤ n ∧ n ≤ 9223372036854775807 := by
  simpa [Lit.wf, IntKind.min, IntKind.max, IntKind.signed, IntKind.bits] using h
section
variable {H : Type} {enc : TypeId × Value → H} {W : World}
end
end Go.Proofs.Ytcobpabmmbcjcaa
namespace Go.Proofs.Ytcobpabmmbcjcaa
open Go.RowKit
set_option maxRecDepth 100000
set_option linter.unusedSimpArgs false
set_option linter.unusedVariables false
def putsFrom (L : Nat → Bool) (v : Nat → Value) : List Oper → Nat → Act → Act
  | [], _, a => a
  | o :: r, k, a => putsFrom L v r (k + 1) (if L k then a.put o.dst (v k) else a)
def dstsApart : List Oper → Bool
  | [] => true
  | o :: r => (r.all fun o' => o.dst.isNone || o'.dst != o.dst) && dstsApart r
theorem puts_congr {L L' : Nat → Bool} {v v' : Nat → Value} : ∀ (hs : List Oper) (k : Nat) (a : Act), (∀ j, k ≤ j → j < k + hs.length → L j = L' j ∧ (L j = true → v j = v' j)) → putsFrom L v hs k a = putsFrom L' v' hs k a
  | [], _, _, _ => rfl
  | o :: r, k, a, h => by
    have h0 := h k (Nat.le_refl _) (by simp)
    have e : (if L k then a.put o.dst (v k) else a) = (if L' k then a.put o.dst (v' k) else a) := by
      rw [← h0.1]
      by_cases hk : L k = true
      · rw [if_pos hk, if_pos hk, h0.2 hk]
      · rw [if_neg hk, if_neg hk]
    simp only [putsFrom, e]
    exact puts_congr r (k + 1) _ (fun j h1 h2 => h j (by omega) (by simp; omega))
theorem puts_put {L : Nat → Bool} {v : Nat → Value} (d : Option Tmp) (x : Value) : ∀ (hs : List Oper) (k : Nat) (a : Act), (hs.all fun o' => d.isNone || o'.dst != d) = true →
    putsFrom L v hs k (a.put d x) = (putsFrom L v hs k a).put d x
  | [], _, _, _ => rfl
  | o :: r, k, a, h => by
    simp only [List.all_cons, Bool.and_eq_true] at h
    have e : (if L k then (a.put d x).put o.dst (v k) else a.put d x) = (if L k then a.put o.dst (v k) else a).put d x := by
      by_cases hk : L k = true
      · rw [if_pos hk, if_pos hk]
        exact Act.put_comm a x (v k) (fun d' hd' he => by
          subst hd'
          have := h.1
          simp [he] at this)
      · rw [if_neg hk, if_neg hk]
    simp only [putsFrom, e]
    exact puts_put d x r (k + 1) _ h.2
theorem puts_set {L L' : Nat → Bool} {v v' : Nat → Value} {i : Nat} (hL : L i = false) (hL' : L' i = true) (hne : ∀ j, j ≠ i → L' j = L j ∧ v' j = v j) : ∀ (hs : List Oper) (k : Nat) (a : Act) (o : Oper), dstsApart hs = true → k ≤ i → hs[i - k]? = some o →
    putsFrom L' v' hs k a = (putsFrom L v hs k a).put o.dst (v' i)
  | [], _, _, _, _, _, h => by simp at h
  | o' :: r, k, a, o, hd, hk, h => by
    simp only [dstsApart, Bool.and_eq_true] at hd
    by_cases hki : k = i
    · subst hki
      have ho : o' = o := by simpa using h
      subst ho
      simp only [putsFrom, hL, hL', if_true, Bool.false_eq_true, if_false]
      rw [puts_congr (L := L') (L' := L) (v := v') (v' := v) r (k + 1) _ (fun j h1 _ => ⟨(hne j (by omega)).1, fun _ => (hne j (by omega)).2⟩)]
      exact puts_put _ _ r (k + 1) a hd.1
    · have hk' : i - k = (i - (k + 1)) + 1 := by omega
      rw [hk', List.getElem?_cons_succ] at h
      simp only [putsFrom, (hne k hki).1, (hne k hki).2]
      exact puts_set hL hL' hne r (k + 1) _ o hd.2 (by omega) h
theorem put_getD_ne (a : Act) (d : Option Tmp) (x : Value) (s : Nat) (h : d ≠ some s) : (a.put d x).tmps.getD s undef = a.tmps.getD s undef := by
  cases d with
  | none => rfl
  | some e =>
    have : e ≠ s := fun he => h (by rw [he])
    simp [Act.put, Array.getElem?_setIfInBounds_ne this]
theorem put_getD_eq (a : Act) (s : Nat) (x : Value) (h : s < a.tmps.size) : (a.put (some s) x).tmps.getD s undef = x := by
  simp [Act.put, h]
theorem put_size (a : Act) (d : Option Tmp) (x : Value) : (a.put d x).tmps.size = a.tmps.size := by
  cases d <;> simp [Act.put]
theorem puts_out {L : Nat → Bool} {v : Nat → Value} (s : Nat) : ∀ (hs : List Oper) (k : Nat) (a : Act), (∀ o ∈ hs, o.dst ≠ some s) → (putsFrom L v hs k a).tmps.getD s undef = a.tmps.getD s undef
  | [], _, _, _ => rfl
  | o :: r, k, a, h => by
    simp only [putsFrom]
    rw [puts_out s r (k + 1) _ (fun o' ho' => h o' (by simp [ho']))]
    by_cases hk : L k = true
    · rw [if_pos hk, put_getD_ne _ _ _ _ (h o (by simp))]
    · rw [if_neg hk]
theorem puts_same {L : Nat → Bool} {v : Nat → Value} : ∀ (hs : List Oper) (k : Nat) (a : Act), (putsFrom L v hs k a).tmps.size = a.tmps.size ∧ (putsFrom L v hs k a).defers = a.defers
  | [], _, _ => ⟨rfl, rfl⟩
  | o :: r, k, a => by
    simp only [putsFrom]
    have h := puts_same (L := L) (v := v) r (k + 1) (if L k then a.put o.dst (v k) else a)
    rw [h.1, h.2]
    split
    · refine ⟨put_size _ _ _, ?_⟩
      cases o.dst <;> rfl
    · exact ⟨rfl, rfl⟩
theorem puts_in {L : Nat → Bool} {v : Nat → Value} {j : Nat} (hL : L j = true) (d : Nat) : ∀ (hs : List Oper) (k : Nat) (a : Act) (o : Oper), dstsApart hs = true → k ≤ j → hs[j - k]? = some o → o.dst = some d → d < a.tmps.size →
    (putsFrom L v hs k a).tmps.getD d undef = v j
  | [], _, _, _, _, _, h, _, _ => by simp at h
  | o' :: r, k, a, o, hd, hk, h, hod, hsz => by
    simp only [dstsApart, Bool.and_eq_true] at hd
    by_cases hkj : k = j
    · subst hkj
      have ho : o' = o := by simpa using h
      subst ho
      simp only [putsFrom, hL, if_true]
      rw [puts_out d r (k + 1) _ (fun o'' ho'' he => by
        have := List.all_eq_true.1 hd.1 o'' ho''
        simp [hod, he] at this), hod, put_getD_eq _ _ _ hsz]
    · have hk' : j - k = (j - (k + 1)) + 1 := by omega
      rw [hk', List.getElem?_cons_succ] at h
      simp only [putsFrom]
      refine puts_in hL d r (k + 1) _ o hd.2 (by omega) h hod ?_
      split
      · rw [put_size]; exact hsz
      · exact hsz
def ancB (ops : Array Oper) : Nat → Nat → Nat → Bool
  | 0, _, _ => false
  | f + 1, t, i => Region.waitsFor .any ops t i || (List.range ops.size).any fun k => Region.waitsFor .any ops t k && ancB ops f k i
theorem anc_listed {ops : Array Oper} {L : Nat → Bool} (hcl : ∀ i j, L i = true → Region.waitsFor .any ops i j = true → L j = true) : ∀ (f t i : Nat), (∀ j, Region.waitsFor .any ops t j = true → L j = true) → ancB ops f t i = true → L i = true
  | 0, _, _, _, h => by simp [ancB] at h
  | f + 1, t, i, hd, h => by
    simp only [ancB, Bool.or_eq_true, List.any_eq_true, List.mem_range, Bool.and_eq_true] at h
    rcases h with h | ⟨k, _, hk, h⟩
    · exact hd i h
    · exact anc_listed hcl f k i (fun j hj => hcl k j (hd k hk) hj) h
def headsG (ops : Array Oper) (hs : List Oper) (tl : Nat) : Bool :=
  dstsApart hs && ((List.range hs.length).all fun i => ((ops[i]?).map fun o => o.after.all fun e => !Region.binds .any e || decide (e.on < i)).getD false) &&
  ((List.range tl).all fun t => (List.range hs.length).all fun i => ancB ops 24 (hs.length + t) i) &&
  Region.seqB .any ops tl hs.length (List.replicate hs.length true ++ List.replicate tl false).toArray
def headsB (ops : Array Oper) (hs : List Oper) (tl : Nat) : Bool := headsG ops hs tl && hs.all (·.guard.isNone)
theorem ready_spec {ops : Array Oper} {L : Array Bool} {i : Nat} (h : i ∈ Region.ready .any ops L) : i < ops.size ∧ L.getD i true = false ∧ ∀ j, Region.waitsFor .any ops i j = true → L.getD j false = true := by
  unfold Region.ready at h
  simp only [List.mem_filter, List.mem_range, Bool.and_eq_true, Bool.not_eq_true'] at h
  refine ⟨h.1, h.2.1, fun j hj => ?_⟩
  obtain ⟨oj, hoj, e, he, hb, hon⟩ := Region.waitsFor_spec hj
  have h2 := h.2.2
  rw [hoj] at h2
  simp only [Option.map_some, Option.getD_some, Array.all_eq_true_iff_forall_mem] at h2
  have := h2 e he
  rw [hon, hb] at this
  simpa using this
section
variable {P : Program} {Q : Exit → Act → World → Prop} (hs tl : List Oper) (V : Nat → Value → World → Prop) (R : World → World → Prop) (w0 : World) (a0 : Act)
theorem wpAny_rel (hB : headsG (hs ++ tl).toArray hs tl.length = true) (hsz : ∀ o ∈ hs, ∀ d, o.dst = some d → d < a0.tmps.size)
    (hV : ∀ i x w w', V i x w → R w w' → V i x w') (hR : ∀ a b c, R a b → R b c → R a c)
    (hop : ∀ i o, hs[i]? = some o → ∀ (a : Act) (v : Nat → Value) (w : World), R w0 w → (∀ j, Region.waitsFor .any (hs ++ tl).toArray i j = true → V j (v j) w) →
      (∀ j oj d, Region.waitsFor .any (hs ++ tl).toArray i j = true → hs[j]? = some oj → oj.dst = some d → a.tmps.getD d undef = v j) → (∀ s, (∀ oj ∈ hs, oj.dst ≠ some s) → a.tmps.getD s undef = a0.tmps.getD s undef) → (a.tmps.size = a0.tmps.size ∧ a.defers = a0.defers) →
      Region.wanted o (yielded (hs ++ tl).toArray a.tmps) = true ∧ o.wp P a w (fun a' w' => ∃ x, a' = a.put o.dst x ∧ R w w' ∧ V i x w') Q)
    (hend : ∀ v w, R w0 w → (∀ i, i < hs.length → V i (v i) w) → wpList P (hs ++ tl).toArray Q tl (putsFrom (fun _ => true) v hs 0 a0) w) :
    ∀ (m : Nat) (L : Array Bool) (v : Nat → Value) (w : World), L.size = hs.length + tl.length → (∀ i j, L.getD i false = true → Region.waitsFor .any (hs ++ tl).toArray i j = true → L.getD j false = true) → (∀ t, hs.length ≤ t → L.getD t false = false) → ((List.range hs.length).filter fun i => !L.getD i false).length = m →
      R w0 w → (∀ i, i < hs.length → L.getD i false = true → V i (v i) w) → wpAny P .any (hs ++ tl).toArray Q (m + tl.length) L (putsFrom (fun j => L.getD j false) v hs 0 a0) w := by
  simp only [headsG, Bool.and_eq_true] at hB
  obtain ⟨⟨⟨hd, hback⟩, htail⟩, hseq⟩ := hB
  intro m
  induction m with
  | zero =>
    intro L v w hsize hcl htl hm hRw hVw
    have hall : ∀ i, i < hs.length → L.getD i false = true := fun i hi => by
      have := List.eq_nil_of_length_eq_zero hm
      have h2 := List.filter_eq_nil_iff.1 this i (List.mem_range.2 hi)
      simpa using h2
    have hL : L = (List.replicate hs.length true ++ List.replicate tl.length false).toArray := by
      apply Array.ext
      · simp [hsize]
      · intro i h1 h2
        by_cases hi : i < hs.length
        · have := hall i hi
          simp only [Array.getD_eq_getD_getElem?, Array.getElem?_eq_getElem h1, Option.getD_some] at this
          rw [this]
          simp [List.getElem_append_left, hi]
        · have := htl i (by omega)
          simp only [Array.getD_eq_getD_getElem?, Array.getElem?_eq_getElem h1, Option.getD_some] at this
          rw [this]
          rw [List.getElem_toArray, List.getElem_append_right (by simpa using hi), List.getElem_replicate]
    rw [Nat.zero_add]
    rw [puts_congr (L := fun j => L.getD j false) (L' := fun _ => true) (v := v) (v' := v) hs 0 a0 (fun j _ h2 => ⟨hall j (by omega), fun _ => rfl⟩)]
    refine wpAny_of_seq tl hs.length L _ w (fun j => by simp [List.getElem?_append_right]) (by rw [hL]; exact hseq) ?_
    exact hend v w hRw (fun i hi => hVw i hi (hall i hi))
  | succ m ih =>
    intro L v w hsize hcl htl hm hRw hVw
    have hex : ∃ u, u < hs.length ∧ L.getD u false = false ∧ ∀ j, j < u → L.getD j false = true := by
      have hne : ((List.range hs.length).filter fun i => !L.getD i false) ≠ [] := by intro h; rw [h] at hm; simp at hm
      have hx : ∃ u, u < hs.length ∧ L.getD u false = false := by
        obtain ⟨u, hu⟩ := List.exists_mem_of_ne_nil _ hne
        simp only [List.mem_filter, List.mem_range, Bool.not_eq_true'] at hu
        exact ⟨u, hu⟩
      obtain ⟨u, hu1, hu2⟩ := hx
      induction u using Nat.strongRecOn with
      | ind u ihu =>
        by_cases hc : ∃ j, j < u ∧ L.getD j false = false
        · obtain ⟨j, hj1, hj2⟩ := hc
          exact ihu j hj1 (by omega) hj2
        · exact ⟨u, hu1, hu2, fun j hj => by
            cases hb : L.getD j false with
            | true => rfl
            | false => exact absurd ⟨j, hj, hb⟩ hc⟩
    obtain ⟨u, hu1, hu2, hu3⟩ := hex
    have flip : ∀ i, i < L.size → L.getD i true = L.getD i false := fun i hi => by simp [Array.getElem?_eq_getElem hi]
    rw [show m + 1 + tl.length = (m + tl.length) + 1 by omega]
    refine ⟨fun hr => ?_, fun i hi => ?_⟩
    · exfalso
      have hmem : u ∈ Region.ready .any (hs ++ tl).toArray L := by
        unfold Region.ready
        simp only [List.mem_filter, List.mem_range, Bool.and_eq_true, Bool.not_eq_true']
        refine ⟨by simp; omega, by rw [flip u (by omega)]; exact hu2, ?_⟩
        have hb := List.all_eq_true.1 hback u (List.mem_range.2 hu1)
        cases ho : (hs ++ tl).toArray[u]? with
        | none => rw [ho] at hb; simp at hb
        | some o =>
          rw [ho] at hb
          simp only [Option.map_some, Option.getD_some, Array.all_eq_true_iff_forall_mem] at hb ⊢
          intro e he
          have := hb e he
          simp only [Bool.or_eq_true, Bool.not_eq_true', decide_eq_true_eq] at this ⊢
          rcases this with h | h
          · exact .inl h
          · exact .inr (hu3 _ h)
      rw [hr] at hmem
      cases hmem
    · obtain ⟨hi1, hi2, hdeps⟩ := ready_spec hi
      have hisz : i < L.size := by rw [hsize]; simpa using hi1
      have hin : i < hs.length := by
        rcases Nat.lt_or_ge i hs.length with h | h
        · exact h
        · exfalso
          have h1 := List.all_eq_true.1 htail (i - hs.length) (List.mem_range.2 (by rw [hsize] at hisz; omega))
          have h2 := List.all_eq_true.1 h1 u (List.mem_range.2 hu1)
          rw [show hs.length + (i - hs.length) = i by omega] at h2
          rw [anc_listed (L := fun j => L.getD j false) hcl 24 i u hdeps h2] at hu2
          cases hu2
      have hLi : L.getD i false = false := by rw [← flip i hisz]; exact hi2
      have hoi : hs[i]? = some hs[i] := List.getElem?_eq_getElem hin
      have hops : (hs ++ tl).toArray[i]? = some hs[i] := by simp [List.getElem?_append_left hin]
      unfold wpOp
      rw [hops]
      have hboth := hop i hs[i] hoi (putsFrom (fun j => L.getD j false) v hs 0 a0) v w hRw (fun j hj => ?c1) (fun j oj d hj hoj hdj => ?c2) (fun s hsn => puts_out s hs 0 a0 hsn) (puts_same hs 0 a0)
      simp only [hboth.1, if_true]
      refine .inl (Oper.wp_mono ?_ hboth.2)
      · rintro a' w' ⟨x, rfl, hRw', hVx⟩
        have hLn : ∀ j, j ≠ i → (L.setIfInBounds i true).getD j false = L.getD j false := fun j hj => by
          simp [Array.getElem?_setIfInBounds_ne (Ne.symm hj)]
        have hLs : (L.setIfInBounds i true).getD i false = true := by simp [hisz]
        have hput := puts_set (L := fun j => L.getD j false) (L' := fun j => (L.setIfInBounds i true).getD j false) (v := v) (v' := fun j => if j = i then x else v j) (i := i) hLi hLs
          (fun j hj => ⟨hLn j hj, if_neg hj⟩) hs 0 a0 hs[i] hd (Nat.zero_le _) (by simp [hoi])
        simp only [if_true] at hput
        rw [← hput]
        have hLk : ∀ j, L.getD j false = true → (L.setIfInBounds i true).getD j false = true := fun j hj => by
          by_cases hji : j = i
          · subst hji; exact hLs
          · rw [hLn j hji]; exact hj
        refine ih (L.setIfInBounds i true) _ w' (by simp [hsize]) (fun i' j hi' hj' => by
          by_cases hii : i' = i
          · subst hii; exact hLk j (hdeps j hj')
          · rw [hLn i' hii] at hi'; exact hLk j (hcl i' j hi' hj')) (fun t ht => by rw [hLn t (by omega)]; exact htl t ht) ?_ (hR _ _ _ hRw hRw') (fun j hj hjL => ?_)
        · have hfil : ((List.range hs.length).filter fun j => !(L.setIfInBounds i true).getD j false) = ((List.range hs.length).filter fun j => !L.getD j false).filter fun j => j != i := by
            rw [List.filter_filter]
            apply List.filter_congr
            intro j _
            by_cases hj : j = i
            · subst hj; simp [hisz]
            · rw [hLn j hj]; simp [hj]
          have hnd : ((List.range hs.length).filter fun j => !L.getD j false).Nodup := List.Nodup.sublist List.filter_sublist List.nodup_range
          have hmem : i ∈ (List.range hs.length).filter fun j => !L.getD j false := by
            rw [List.mem_filter]
            exact ⟨List.mem_range.2 hin, by rw [hLi]; rfl⟩
          rw [hfil, ← List.Nodup.erase_eq_filter hnd i, List.length_erase_of_mem hmem, hm]
          rfl
        · by_cases hji : j = i
          · subst hji; rw [if_pos rfl]; exact hVx
          · rw [if_neg hji]
            rw [hLn j hji] at hjL
            exact hV _ _ _ _ (hVw j hj hjL) hRw'
      case c1 =>
        have hjL := hdeps j hj
        have hjn : j < hs.length := by
          rcases Nat.lt_or_ge j hs.length with h | h
          · exact h
          · rw [htl j h] at hjL; cases hjL
        exact hVw j hjn hjL
      case c2 =>
        have hjL := hdeps j hj
        exact puts_in (L := fun j => L.getD j false) hjL d hs 0 a0 oj hd (Nat.zero_le _) (by simpa using hoj) hdj (hsz oj (List.mem_of_getElem? hoj) d hdj)
theorem region_rel {id : Nat} {w : World} (hm : P.follows .mixedOrders = true) (hB : headsG (hs ++ tl).toArray hs tl.length = true) (hsz : ∀ o ∈ hs, ∀ d, o.dst = some d → d < a0.tmps.size)
    (hV : ∀ i x w w', V i x w → R w w' → V i x w') (hR : ∀ a b c, R a b → R b c → R a c) (h0 : R w0 w.drew)
    (hop : ∀ i o, hs[i]? = some o → ∀ (a : Act) (v : Nat → Value) (w : World), R w0 w → (∀ j, Region.waitsFor .any (hs ++ tl).toArray i j = true → V j (v j) w) →
      (∀ j oj d, Region.waitsFor .any (hs ++ tl).toArray i j = true → hs[j]? = some oj → oj.dst = some d → a.tmps.getD d undef = v j) → (∀ s, (∀ oj ∈ hs, oj.dst ≠ some s) → a.tmps.getD s undef = a0.tmps.getD s undef) → (a.tmps.size = a0.tmps.size ∧ a.defers = a0.defers) →
      Region.wanted o (yielded (hs ++ tl).toArray a.tmps) = true ∧ o.wp P a w (fun a' w' => ∃ x, a' = a.put o.dst x ∧ R w w' ∧ V i x w') Q)
    (hend : ∀ v w, R w0 w → (∀ i, i < hs.length → V i (v i) w) → wpList P (hs ++ tl).toArray Q tl (putsFrom (fun _ => true) v hs 0 a0) w) :
    (Code.region id (hs ++ tl).toArray true).wp P Q a0 w := by
  refine wp_region_any hm ?_
  have hrep : ∀ j, (Array.replicate (hs ++ tl).toArray.size false).getD j false = false := fun j => by
    simp only [Array.getD_eq_getD_getElem?, Array.getElem?_replicate]
    split <;> rfl
  have hfl : ((List.range hs.length).filter fun i => !(Array.replicate (hs ++ tl).toArray.size false).getD i false).length = hs.length := by
    rw [List.filter_eq_self.2 (fun i _ => by rw [hrep]; rfl), List.length_range]
  have := wpAny_rel (Q := Q) hs tl V R w0 a0 hB hsz hV hR hop hend hs.length (Array.replicate (hs ++ tl).toArray.size false) (fun _ => undef) w.drew (by simp) (fun i j hi _ => by rw [hrep] at hi; cases hi) (fun t _ => hrep t) hfl h0 (fun i _ hL => by rw [hrep] at hL; cases hL)
  have hp : putsFrom (fun j => (Array.replicate (hs ++ tl).toArray.size false).getD j false) (fun _ => undef) hs 0 a0 = a0 := by
    have : ∀ (hs' : List Oper) (k : Nat) (a : Act), putsFrom (fun _ => false) (fun _ => undef) hs' k a = a := by
      intro hs'
      induction hs' with
      | nil => intros; rfl
      | cons o r ih => intro k a; simp only [putsFrom, Bool.false_eq_true, if_false]; exact ih _ _
    rw [puts_congr (L' := fun _ => false) (v' := fun _ => undef) hs 0 a0 (fun j _ _ => ⟨hrep j, fun _ => rfl⟩)]
    exact this hs 0 a0
  rw [hp] at this
  simpa using this
theorem region_relG {P : Program} {Q : Exit → Act → World → Prop} {id : Nat} {w : World} {a0 : Act} {l : List Oper} (n : Nat) (V : Nat → Value → World → Prop)
    (hm : P.follows .mixedOrders = true) (hB : headsG l.toArray (l.take n) (l.drop n).length = true) (hsz : ((l.take n).all fun o => match o.dst with | some d => decide (d < a0.tmps.size) | none => true) = true)
    (hV : ∀ i x w w', V i x w → Below w.heap.size w w' → V i x w')
    (hop : ∀ i o, (l.take n)[i]? = some o → ∀ (a : Act) (v : Nat → Value) (w' : World), Below w.heap.size w w' → (∀ j, Region.waitsFor .any l.toArray i j = true → V j (v j) w') →
      (∀ j oj d, Region.waitsFor .any l.toArray i j = true → (l.take n)[j]? = some oj → oj.dst = some d → a.tmps.getD d undef = v j) → (∀ s, ((l.take n).all fun oj => oj.dst != some s) = true → a.tmps.getD s undef = a0.tmps.getD s undef) → (a.tmps.size = a0.tmps.size ∧ a.defers = a0.defers) →
      Region.wanted o (yielded l.toArray a.tmps) = true ∧ o.wp P a w' (fun a' w'' => ∃ x, a' = a.put o.dst x ∧ Below w'.heap.size w' w'' ∧ V i x w'') Q)
    (hend : ∀ v w', Below w.heap.size w w' → (∀ i, i < (l.take n).length → V i (v i) w') → wpList P l.toArray Q (l.drop n) (putsFrom (fun _ => true) v (l.take n) 0 a0) w') :
    (Code.region id l.toArray true).wp P Q a0 w := by
  have e : l.toArray = (l.take n ++ l.drop n).toArray := by rw [List.take_append_drop]
  rw [e] at hB hop hend ⊢
  refine region_rel (l.take n) (l.drop n) V (fun a b => Below a.heap.size a b) w a0 hm hB ?_ hV (fun a b c h1 h2 => h1.trans (h2.mono h1.size)) (Below.refl _ _).drew ?_ hend
  · intro o ho d hd
    have := List.all_eq_true.1 hsz o ho
    rw [hd] at this
    simpa using this
  · intro i o hi a v w' h1 h2 h3 h4 h5
    exact hop i o hi a v w' h1 h2 h3 (fun s hs => h4 s (fun oj hoj he => by
      have := List.all_eq_true.1 hs oj hoj
      simp [he] at this)) h5
section
variable {P : Program} {Q : Exit → Act → World → Prop} {o : Oper} {a : Act} {w : World} {V : Value → World → Prop}
theorem ow_call (f : FuncId) (xs : List Operand) (ts : Array TypeId) (ho : o.op = .call { callee := .value (.func f), args := xs.toArray, argTypes := ts }) (he : enters P f = true) (args : List Value) (ha : xs.map a.eval = args) (x : Value)
    (hc : Calls P f args.toArray w fun e w' => e = .returned x ∧ Below w.heap.size w w') (hx : ∀ w', Below w.heap.size w w' → V x w') :
    o.wp P a w (fun a' w' => ∃ x, a' = a.put o.dst x ∧ Below w.heap.size w w' ∧ V x w') Q := by
  unfold Oper.wp
  rw [run_enter he ho w, List.map_toArray, ha]
  exact hc.mono fun e w' ⟨h1, h2⟩ => by subst h1; exact ⟨x, rfl, h2, hx w' h2⟩
theorem ow_value (x : Value) (w' : World) (hrun : (execOp a.eval o).run P w = .ok (.value x) w') (hb : Below w.heap.size w w') (hx : V x w') :
    o.wp P a w (fun a' w' => ∃ x, a' = a.put o.dst x ∧ Below w.heap.size w w' ∧ V x w') Q := by
  unfold Oper.wp
  rw [hrun]
  exact ⟨x, rfl, hb, hx⟩
theorem ow_alloc (t : TypeId) (ho : o.op = .alloc t) (z : Value) (hz : (P.info? t).map (·.zero) = some (some z)) (hx : V (.pointer (some ⟨w.heap.size, 0, none⟩)) (w.alloc (.cells z.cells t))) :
    o.wp P a w (fun a' w' => ∃ x, a' = a.put o.dst x ∧ Below w.heap.size w w' ∧ V x w') Q := by
  refine ow_value _ _ ?_ ((Below.refl _ _).alloc (Nat.le_refl _) _) hx
  cases hq : P.info? t with
  | none => simp [hq] at hz
  | some i =>
    have hz' : i.zero = some z := by simpa [hq] using hz
    simp [execOp, ho, Instr.alloc, zeroValue, typeInfo, hq, hz', newVar, newRow, go_sem]
end
end
end Go.Proofs.Ytcobpabmmbcjcaa
namespace Go.Proofs.Ytcobpabmmbcjcaa
open Go
structure Po where
  n : Int
  t : St
deriving DecidableEq
def Po.zero : Po := ⟨0, St.zero⟩
end Go.Proofs.Ytcobpabmmbcjcaa
