/- From a walk to a law's statement: what a law that leaves old memory alone owes its row; opening of arguments. -/
import Derived.Test.YtcnkakahhekobaaTl
import Derived.Test.YtcnkakahhekobaaSm
import Derived.ProofKit
import Derived.OpenShut
import Derived.Lib.SmallJoins
namespace Go.Proofs.Ytcnkakahhekobaa
open Go.ChangeShapes Go.WideShapes Go.ChangeAt Go.RowKit Go.Joins Go.Deep
set_option maxRecDepth 100000
set_option linter.unusedSimpArgs false
set_option linter.unusedVariables false

theorem Try.own : ownKnob Try.prog.godebug = none := by kernel_rfl
theorem Try.laidOut : laidOutB Try.prog = true := by kernel_rfl

section
variable {H : Type} {enc : TypeId × Value → H} {P : Program}
theorem trodAll_stays (hl : laidOutB P = true) {W W' : World} (hb : Below W.heap.size W W') : ∀ (ts : List TypeId) (vs : List Value) (ds : List (DataW H)) (ps : List MemPlace),
    (∀ t ∈ ts, P.readableRec t = true ∧ t < P.types.size) → (∀ x ∈ ps, x.block < W.heap.size) →
    DataW.TrodAll enc P W 0 (fun _ => true) true ts vs ds ps → DataW.TrodAll enc P W' 0 (fun b => decide (b < W.heap.size)) true ts vs ds ps
  | [], [], [], ps, _, _, h => h
  | t :: ts, v :: vs, d :: ds, ps, hr, hlt, h => by
    obtain ⟨p, q, h1, h2, rfl⟩ := h
    exact ⟨p, q, Below.trod hl (hr t (by simp)).1 (hr t (by simp)).2 h1 hb (fun x hx => hlt x (by simp [hx])),
      trodAll_stays hl hb ts vs ds q (fun t ht => hr t (by simp [ht])) (fun x hx => hlt x (by simp [hx])) h2, rfl⟩
  | [], [], _ :: _, _, _, _, h => h.elim
  | [], _ :: _, _, _, _, _, h => by simp [DataW.TrodAll] at h
  | _ :: _, [], _, _, _, _, h => by simp [DataW.TrodAll] at h
  | _ :: _, _ :: _, [], _, _, _, h => by simp [DataW.TrodAll] at h

/-- A law's post: it returned true, and what was there is as it was. -/
theorem law_post {f : Func} {s : ChangeSpec} {W W' : World} {args : Array Value} {ds gs : List (DataW H)} {before : List MemPlace} {tb : TypeId}
    (hl : laidOutB P = true) (hr : ∀ t ∈ f.params.toList, P.readableRec t = true ∧ t < P.types.size) (hres : f.resultTypes = #[tb]) (htb : P.underlying tb = some .bool)
    (hvars : s.vars = []) (hfn : (s.fn H ds).results = [.lit (.bool true)] ∧ (s.fn H ds).args = ds ∧ (s.fn H ds).vars = [])
    (hW : DataW.Whole enc P f.params.toList s.vars false W args.toList ds gs before) (hb : Below W.heap.size W W') :
    s.post enc P f false true false false W args (.bool true) W' := by
  have hW' := hW
  have hlt : ∀ p ∈ before, p.block < W.heap.size := fun p hp => hW.lt p hp
  obtain ⟨p, q, hA, hV, hpq, hfz, hnd⟩ := hW
  rw [hvars] at hV
  obtain ⟨rfl, rfl⟩ := trodVars_none hV
  simp only [List.append_nil] at hpq
  subst hpq
  refine ⟨ds, [], before, [], before, [], hW', ?_, ?_, ?_, ?_, fun h => by cases h⟩
  · rw [List.append_nil, hfn.1, hres]
    exact trodAll_mk1 (shut_bool htb _)
  · rw [List.append_nil, hfn.2.1]
    exact trodAll_stays hl hb _ _ _ _ hr hlt hA
  · rw [List.append_nil, hfn.2.2, hvars]
    exact rfl
  · exact World.keptBut_mono (fun p hp => ⟨hp, .inr (.inl hp)⟩) (hb.frame (· ∈ before))
end

theorem wf8 {n : Int} (h : (Lit.int .u8 n).wf = true) : 0 ≤ n ∧ n < 256 := by
  have : 0 ≤ n ∧ n ≤ 255 := by simpa [Lit.wf, IntKind.min, IntKind.max, IntKind.signed, IntKind.bits] using h
  omega
theorem wf64 {n : Int} (h : (Lit.int .i64 n).wf = true) : -9223372036854775808 ≤ n ∧ n ≤ 9223372036854775807 := by
  simpa [Lit.wf, IntKind.min, IntKind.max, IntKind.signed, IntKind.bits] using h

section
variable {H : Type} {enc : TypeId × Value → H} {W : World}
/-- The cells of a struct of two ints. -/
theorem pair_cells {t ti : TypeId} {f0 f1 : Field} (hu : Try.prog.underlying t = some (.struct #[f0, f1])) (hone : oneCellFields Try.prog #[f0, f1] = true) (hC : Try.prog.cellsOf t = 2)
    (h0 : f0.type = ti) (h1 : f1.type = ti) (hi : Try.prog.underlying ti = some (.int .i64)) {base : Nat} {sp : Nat → Bool} {held : Bool} {fuel : Nat} {cs : List Value} {x : DataW H × List MemPlace} (h : DataW.trod enc Try.prog W base sp held fuel t cs = some x) :
    ∃ a : St, cs = [.int .i64 a.e, .int .i64 a.r] ∧ a.I := by
  obtain ⟨y0, y1, n, _, hl, hy0, hy1⟩ := trod_struct2 hu h
  obtain ⟨o0, k0⟩ := hone_of hone 0 f0 rfl
  obtain ⟨o1, k1⟩ := hone_of hone 1 f1 rfl
  rw [hC] at hl
  match cs, hl with
  | [c0, c1], _ =>
    rw [o0, k0, h0] at hy0
    rw [o1, k1, h1] at hy1
    obtain ⟨z0, e0, _, w0⟩ := DataW.trod_int hi hy0
    obtain ⟨z1, e1, _, w1⟩ := DataW.trod_int hi hy1
    have e0' : c0 = .int .i64 z0 := by simpa using e0
    have e1' : c1 = .int .i64 z1 := by simpa using e1
    subst e0' e1'
    exact ⟨⟨z0, z1⟩, rfl, (wf64 w0).1, (wf64 w0).2, (wf64 w1).1, (wf64 w1).2⟩
/-- A struct of two ints that came in by value. -/
theorem openPair {t ti : TypeId} {f0 f1 : Field} (hu : Try.prog.underlying t = some (.struct #[f0, f1])) (hone : oneCellFields Try.prog #[f0, f1] = true) (hC : Try.prog.cellsOf t = 2)
    (h0 : f0.type = ti) (h1 : f1.type = ti) (hi : Try.prog.underlying ti = some (.int .i64)) {v : Value} {d : DataW H} {ps : List MemPlace} {base : Nat} (hval : Value.okWide Try.prog W .any base t v) (h : DataW.Trod enc Try.prog W 0 (fun _ => true) true t v d ps) :
    ∃ a : St, v = .agg #[.int .i64 a.e, .int .i64 a.r] ∧ a.I := by
  obtain ⟨cs, rfl, hsz⟩ := okWide_struct hu hval
  obtain ⟨fuel, hf⟩ := h
  obtain ⟨a, ha, hI⟩ := pair_cells hu hone hC h0 h1 hi hf
  refine ⟨a, ?_, hI⟩
  have ha' : cs.toList = [.int .i64 a.e, .int .i64 a.r] := ha
  congr 1
  exact Array.ext' ha'
/-- An array of two such structs. -/
theorem openPairs {ta t ti : TypeId} {f0 f1 : Field} (hua : Try.prog.underlying ta = some (.array 2 t)) (hu : Try.prog.underlying t = some (.struct #[f0, f1])) (hone : oneCellFields Try.prog #[f0, f1] = true) (hC : Try.prog.cellsOf t = 2) (hCa : Try.prog.cellsOf ta = 4)
    (h0 : f0.type = ti) (h1 : f1.type = ti) (hi : Try.prog.underlying ti = some (.int .i64)) {v : Value} {d : DataW H} {ps : List MemPlace} {base : Nat} (hval : Value.okWide Try.prog W .any base ta v) (h : DataW.Trod enc Try.prog W 0 (fun _ => true) true ta v d ps) :
    ∃ p q : St, v = .agg #[.int .i64 p.e, .int .i64 p.r, .int .i64 q.e, .int .i64 q.r] ∧ p.I ∧ q.I := by
  unfold Value.okWide at hval
  rw [hua] at hval
  obtain ⟨cs, rfl, hsz, _⟩ := hval
  obtain ⟨fuel, hf⟩ := h
  obtain ⟨xs, m, _, _, hl, hlen, heach⟩ := DataW.trod_array hua hf
  have e0 := heach 0 (by omega)
  have e1 := heach 1 (by omega)
  rw [hC, List.getElem?_eq_getElem (by omega)] at e0 e1
  obtain ⟨p, hp, hpI⟩ := pair_cells hu hone hC h0 h1 hi e0
  obtain ⟨q, hq, hqI⟩ := pair_cells hu hone hC h0 h1 hi e1
  refine ⟨p, q, ?_, hpI, hqI⟩
  have hcs : (Value.agg cs).cells = cs := rfl
  rw [hcs] at hp hq
  rw [hCa] at hsz
  congr 1
  apply Array.ext'
  have h4 : cs.toList.length = 4 := by simpa using hsz
  have : cs.toList = (cs.toList.drop (0 * 2)).take 2 ++ (cs.toList.drop (1 * 2)).take 2 := by
    match hm : cs.toList, h4 with
    | [_, _, _, _], _ => rfl
  rw [this, hp, hq]
  rfl
end
end Go.Proofs.Ytcnkakahhekobaa
