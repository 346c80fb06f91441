/- From a walk to a law's statement: what a law that leaves old memory alone owes its row; opening of arguments. -/
import Derived.Test.YtiigbhpnlpbnjaaWe
import Derived.ProofKit
import Derived.OpenShut
namespace Go.Proofs.Ytiigbhpnlpbnjaa
open Go.ChangeShapes Go.WideShapes Go.ChangeAt Go.RowKit

theorem Try.own : ownKnob Try.prog.godebug = none := by kernel_rfl
theorem Try.laidOut : laidOutB Try.prog = true := by kernel_rfl

section
variable {H : Type} {enc : TypeId × Value → H} {P : Program}
theorem trodAll_stays (hl : laidOutB P = true) {W W' : World} (hb : Below W.heap.size W W') : ∀ (ts : List TypeId) (vs : List Value) (ds : List (DataW H)) (ps : List MemPlace),
    (∀ t ∈ ts, P.readableRec t = true ∧ t < P.types.size) → (∀ x ∈ ps, x.block < W.heap.size) →
    DataW.TrodAll enc P W 0 (fun _ => true) true ts vs ds ps → DataW.TrodAll enc P W' 0 (fun b => decide (b < W.heap.size)) true ts vs ds ps
  | [], [], [], ps, _, _, h => h
  | t :: ts, v :: vs, d :: ds, ps, hr, hlt, h => by
    obtain ⟨p, q, h1, h2, rfl⟩ := h
    exact ⟨p, q, Below.trod hl (hr t (by simp)).1 (hr t (by simp)).2 h1 hb (fun x hx => hlt x (by simp [hx])),
      trodAll_stays hl hb ts vs ds q (fun t ht => hr t (by simp [ht])) (fun x hx => hlt x (by simp [hx])) h2, rfl⟩
  | [], [], _ :: _, _, _, _, h => h.elim
  | [], _ :: _, _, _, _, _, h => by simp [DataW.TrodAll] at h
  | _ :: _, [], _, _, _, _, h => by simp [DataW.TrodAll] at h
  | _ :: _, _ :: _, [], _, _, _, h => by simp [DataW.TrodAll] at h

/-- A law's post: it returned true, and what was there is as it was. -/
theorem law_post {f : Func} {s : ChangeSpec} {W W' : World} {args : Array Value} {ds gs : List (DataW H)} {before : List MemPlace} {tb : TypeId}
    (hl : laidOutB P = true) (hr : ∀ t ∈ f.params.toList, P.readableRec t = true ∧ t < P.types.size) (hres : f.resultTypes = #[tb]) (htb : P.underlying tb = some .bool)
    (hvars : s.vars = []) (hfn : (s.fn H ds).results = [.lit (.bool true)] ∧ (s.fn H ds).args = ds ∧ (s.fn H ds).vars = [])
    (hW : DataW.Whole enc P f.params.toList s.vars false W args.toList ds gs before) (hb : Below W.heap.size W W') :
    s.post enc P f false true false false W args (.bool true) W' := by
  have hW' := hW
  have hlt : ∀ p ∈ before, p.block < W.heap.size := fun p hp => hW.lt p hp
  obtain ⟨p, q, hA, hV, hpq, hfz, hnd⟩ := hW
  rw [hvars] at hV
  obtain ⟨rfl, rfl⟩ := trodVars_none hV
  simp only [List.append_nil] at hpq
  subst hpq
  refine ⟨ds, [], before, [], before, [], hW', ?_, ?_, ?_, ?_, fun h => by cases h⟩
  · rw [List.append_nil, hfn.1, hres]
    exact trodAll_mk1 (shut_bool htb _)
  · rw [List.append_nil, hfn.2.1]
    exact trodAll_stays hl hb _ _ _ _ hr hlt hA
  · rw [List.append_nil, hfn.2.2, hvars]
    exact rfl
  · exact World.keptBut_mono (fun p hp => ⟨hp, .inr (.inl hp)⟩) (hb.frame (· ∈ before))
end

theorem wf8 {n : Int} (h : (Lit.int .u8 n).wf = true) : 0 ≤ n ∧ n < 256 := by
  have : 0 ≤ n ∧ n ≤ 255 := by simpa [Lit.wf, IntKind.min, IntKind.max, IntKind.signed, IntKind.bits] using h
  omega
theorem wf64 {n : Int} (h : (Lit.int .i64 n).wf = true) : -9223372036854775808 ≤ n ∧ n ≤ 9223372036854775807 := by
  simpa [Lit.wf, IntKind.min, IntKind.max, IntKind.signed, IntKind.bits] using h

section
variable {H : Type} {enc : TypeId × Value → H} {W : World}
/-- A slice of bytes that came in. -/
theorem open8 {v : Value} {d : DataW H} {ps : List MemPlace} {base : Nat} (hval : Value.okWide Try.prog W .any base 22 v) (h : DataW.Trod enc Try.prog W 0 (fun _ => true) true 22 v d ps) :
    ∃ (A : Option Addr) (l : List Nat) (c : Nat), v = .slice A l.length c ∧ W8 l ∧ l.length ≤ c ∧ c ≤ maxLen ∧ Rd W W.heap.size A l := by
  obtain ⟨a0, len, cap, rfl⟩ := okWide_slice Try.underlying22 hval
  obtain ⟨fuel, hf⟩ := h
  rcases open_ints Try.underlying22 Try.underlying5 (by kernel_rfl) hf with ⟨hcs, _⟩ | ⟨a, len', cap', zs, hcs, _, hl, hm, hz, _, hcell, hwz⟩
  · have hv : Value.slice a0 len cap = .slice none 0 0 := by simpa [Value.cells] using hcs
    rw [hv]
    exact ⟨none, [], 0, rfl, (fun a ha => (by cases ha)), Nat.le_refl _, Nat.zero_le _, (fun h => absurd h (by simp))⟩
  · have hv : Value.slice a0 len cap = .slice (some a) len' cap' := by simpa [Value.cells] using hcs
    have hz' : zs.length = cap' := by simpa using hz
    rw [hv]
    have hl' : ((zs.take len').map Int.toNat).length = len' := by simp; omega
    have hat : ∀ j, j < len' → ((at0 ((zs.take len').map Int.toNat) j : Nat) : Int) = zs.getD j 0 := fun j hj => by
      have hj2 : j < zs.length := by omega
      rw [at0_eq (by rw [hl']; exact hj)]
      have hw := wf8 (hwz zs[j] (List.getElem_mem hj2))
      simp only [List.getElem_map, List.getElem_take, List.getD_eq_getElem?_getD, List.getElem?_eq_getElem hj2, Option.getD_some]
      omega
    refine ⟨some a, (zs.take len').map Int.toNat, cap', by rw [hl'], ?_, by rw [hl']; exact hl, hm, fun h0 => ⟨a, rfl, ?_, fun j hj => ?_⟩⟩
    · intro x hx'
      obtain ⟨z, hz1, rfl⟩ := List.mem_map.1 hx'
      have := wf8 (hwz z (List.mem_of_mem_take hz1))
      omega
    · rw [hl'] at h0
      have hc0 := hcell 0 (by omega)
      have := block_lt_of_cell hc0
      rwa [block_of_add] at this
    · rw [hl'] at hj
      rw [hcell j (by omega), hat j hj]
def natAt : Option Value → Nat
  | some (.int _ z) => z.toNat
  | _ => 0
/-- An array of bytes by value. -/
theorem openArr8 {t : TypeId} {n : Nat} {v : Value} {d : DataW H} {ps : List MemPlace} {base : Nat} (hu : Try.prog.underlying t = some (.array n 5)) (hct : Try.prog.cellsOf t = n)
    (hval : Value.okWide Try.prog W .any base t v) (h : DataW.Trod enc Try.prog W 0 (fun _ => true) true t v d ps) :
    ∃ x : List Nat, v = .agg (B8 x) ∧ x.length = n ∧ W8 x := by
  unfold Value.okWide at hval
  rw [hu] at hval
  obtain ⟨cs, rfl, hsz, _⟩ := hval
  obtain ⟨fuel, hf⟩ := h
  obtain ⟨xs, m, _, _, hlen, hxs, heach⟩ := DataW.trod_array hu hf
  rw [hct] at hsz
  have h1 : Try.prog.cellsOf 5 = 1 := by kernel_rfl
  have hcell : ∀ i, i < n → ∃ z : Nat, cs[i]? = some (.int .u8 (z : Int)) ∧ z < 256 := fun i hi => by
    have he := heach i hi
    rw [h1, Nat.mul_one] at he
    have hx : xs[i]? = some xs[i] := List.getElem?_eq_getElem (by omega)
    rw [hx] at he
    obtain ⟨z, hz1, _, hz3⟩ := DataW.trod_int Try.underlying5 he
    have hw := wf8 hz3
    refine ⟨z.toNat, ?_, by omega⟩
    have hi' : i < cs.size := by omega
    have hd : (cs.toList.drop i).take 1 = [cs[i]] := by
      rw [List.drop_eq_getElem_cons (by simpa using hi')]; simp
    have hcs : (Value.agg cs).cells = cs := rfl
    rw [hcs, hd] at hz1
    rw [Array.getElem?_eq_getElem hi']
    injection hz1 with hz1 _
    rw [hz1, Int.toNat_of_nonneg hw.1]
  refine ⟨(List.range n).map fun i => natAt (cs[i]?), ?_, by simp, ?_⟩
  · congr 1
    apply Array.ext_getElem?
    intro i
    unfold B8
    by_cases hi : i < n
    · obtain ⟨z, hz, _⟩ := hcell i hi
      rw [hz]
      simp [hi, hz, natAt]
    · rw [Array.getElem?_eq_none (by omega)]
      simp [hi]
  · intro a ha
    obtain ⟨i, hi, rfl⟩ := List.mem_map.1 ha
    obtain ⟨z, hz, hlt⟩ := hcell i (List.mem_range.1 hi)
    rw [hz]
    simp only [natAt]
    omega
end
theorem cells24 : Try.prog.cellsOf 24 = 32 := by kernel_rfl
theorem rd3 : Try.prog.readableRec 3 = true ∧ 3 < Try.prog.types.size := ⟨by kernel_rfl, of_decide_eq_true (by kernel_rfl)⟩
theorem rd22 : Try.prog.readableRec 22 = true ∧ 22 < Try.prog.types.size := ⟨by kernel_rfl, of_decide_eq_true (by kernel_rfl)⟩
theorem rd24 : Try.prog.readableRec 24 = true ∧ 24 < Try.prog.types.size := ⟨by kernel_rfl, of_decide_eq_true (by kernel_rfl)⟩
end Go.Proofs.Ytiigbhpnlpbnjaa
