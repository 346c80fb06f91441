/- Opening of slices of slices, of arrays of structs, of points. Any seat with layer 7 in it. -/
import Derived.Test.YtlgeodnbkndciaaLg
import Derived.Test.YtlgeodnbkndciaaGw
import Derived.Test.YtlgeodnbkndciaaHm
namespace Go.Proofs.Ytlgeodnbkndciaa
open Go.ChangeShapes Go.WideShapes Go.ChangeAt Go.RowKit Go.Joins Go.Deep
set_option maxRecDepth 100000
set_option linter.unusedSimpArgs false
set_option linter.unusedVariables false

def encSt : Enc St := ⟨2, fun s => [.int .i64 s.e, .int .i64 s.r], St.zero, fun _ => rfl, fun s v h => by
  simp only [List.mem_cons, List.not_mem_nil, or_false] at h
  rcases h with rfl | rfl <;> rfl⟩
theorem cE_cS (L : List St) : cE encSt L = cS L := by
  induction L with
  | nil => rfl
  | cons a r ih => show [Value.int .i64 a.e, .int .i64 a.r] ++ cE encSt r = cS (a :: r); rw [ih]; rfl
section
variable {P : Program} {t e : TypeId} {α β : Type}
theorem openSS [Inhabited β] {H : Type} {enc : TypeId × Value → H} {W : World} {J : Value → β → Prop} (hut : P.underlying t = some (.slice e)) (hC : P.cellsOf e = 1)
    (ho : ∀ {fuel : Nat} {v : Value} {x : DataW H × List MemPlace}, DataW.trod enc P W 0 (fun _ => true) true fuel e [v] = some x → ∃ b, J v b) {fuel : Nat} {cs : List Value} {x : DataW H × List MemPlace} (hf : DataW.trod enc P W 0 (fun _ => true) true fuel t cs = some x) :
    ∃ (v : Value) (vs : List Value) (L : List β), cs = [v] ∧ vs.length = L.length ∧ RdV W 1 v L.length (cV vs) ∧ ∀ i, i < L.length → J (atV vs i) (L.getD i default) := by
  rcases open_slice1 hut hC hf with ⟨hcs, _⟩ | ⟨a, len', cap', m, n, V, D, Pl, hcs, _, hl, hm, hmm, _, hel⟩
  · exact ⟨_, [], [], hcs, rfl, nil_rd W, fun i hi => absurd hi (Nat.not_lt_zero i)⟩
  · have hlm : len' ≤ m := by rw [hmm]; split <;> omega
    have hb : ∀ i, i < len' → ∃ b, J (V i) b := fun i hi => ho (hel i (by omega)).2
    obtain ⟨f, hf⟩ : ∃ f : Nat → β, ∀ i, i < len' → J (V i) (f i) := by
      refine ⟨fun i => if hi : i < len' then Classical.choose (hb i hi) else default, fun i hi => ?_⟩
      simp only [hi, dif_pos]
      exact Classical.choose_spec (hb i hi)
    have hvl : ((List.range len').map V).length = len' := by simp
    have hll : ((List.range len').map f).length = len' := by simp
    have hva : ∀ i, i < len' → atV ((List.range len').map V) i = V i := fun i hi => by rw [atV_eq (by rw [hvl]; exact hi)]; simp
    refine ⟨_, (List.range len').map V, (List.range len').map f, hcs, by rw [hvl, hll], ?_, fun i hi => ?_⟩
    · rw [hll]
      refine ⟨by rw [Nat.mul_one]; exact hvl, some a, cap', rfl, hl, hm, fun hp => ?_⟩
      have h3 := cell_spot (hel 0 (by omega)).1
      rw [show a.add 0 = a from by simp [Addr.add]] at h3
      refine ⟨a.block, a.off, by cases a; simp_all, h3.2, fun j u hj => ?_⟩
      have hj2 : j < len' := by
        have := (List.getElem?_eq_some_iff.1 hj).1
        rw [show (cV ((List.range len').map V)).length = len' from hvl] at this; exact this
      have hu : u = V j := by
        have h5 := (List.getElem?_eq_some_iff.1 hj).2
        rw [← h5]; simp [cV]
      have := (hel j (by omega)).1
      rw [add_lit h3.1] at this
      rw [hu]; exact this
    · rw [hll] at hi
      rw [hva i hi, List.getD_eq_getElem?_getD, List.getElem?_eq_getElem (by rw [hll]; exact hi)]
      simpa using hf i hi
theorem chunks {f : α → List Value} {I : α → Prop} {m : Nat} (hm : ∀ a, (f a).length = m) : ∀ (n : Nat) (cs : List Value), cs.length = n * m → (∀ i, i < n → ∃ a, (cs.drop (i * m)).take m = f a ∧ I a) → ∃ L : List α, L.length = n ∧ cs = L.flatMap f ∧ ∀ a ∈ L, I a
  | 0, cs, hl, _ => ⟨[], rfl, by simpa using hl, fun a ha => by cases ha⟩
  | n + 1, cs, hl, h => by
    obtain ⟨a, ha, hI⟩ := h 0 (by omega)
    rw [Nat.zero_mul, List.drop_zero] at ha
    obtain ⟨L, h1, h2, h3⟩ := chunks hm n (cs.drop m) (by rw [List.length_drop, hl, Nat.add_mul]; omega) fun i hi => by
      have := h (i + 1) (by omega)
      rwa [show (i + 1) * m = m + i * m by rw [Nat.add_mul]; omega, ← List.drop_drop] at this
    refine ⟨a :: L, by simp [h1], ?_, fun b hb => ?_⟩
    · rw [List.flatMap_cons, ← ha, ← h2, List.take_append_drop]
    · rcases List.mem_cons.1 hb with rfl | hb
      · exact hI
      · exact h3 b hb
/-- An array of structs that came in by value. -/
theorem openA {H : Type} {enc : TypeId × Value → H} {W : World} {n m : Nat} {f : α → List Value} {I : α → Prop} (hm : ∀ a, (f a).length = m) (hua : P.underlying t = some (.array n e)) (hC : P.cellsOf e = m) (hCa : P.cellsOf t = n * m) (ho : Opens P e f I) {v : Value} {d : DataW H} {ps : List MemPlace} {base : Nat} (hval : Value.okWide P W .any base t v) (h : DataW.Trod enc P W 0 (fun _ => true) true t v d ps) :
    ∃ L : List α, L.length = n ∧ v = .agg (L.flatMap f).toArray ∧ ∀ a ∈ L, I a := by
  unfold Value.okWide at hval
  rw [hua] at hval
  obtain ⟨cs, rfl, hsz, _⟩ := hval
  obtain ⟨fuel, hf⟩ := h
  obtain ⟨xs, q, _, _, hl, hlen, heach⟩ := DataW.trod_array hua hf
  have hcs : (Value.agg cs).cells = cs := rfl
  rw [hcs] at heach
  obtain ⟨L, h1, h2, h3⟩ := chunks (I := I) hm n cs.toList (by rw [Array.length_toList, hsz, hCa]) fun i hi => by
    have e0 := heach i hi
    rw [hC, List.getElem?_eq_getElem (by omega)] at e0
    obtain ⟨a, ha, hI⟩ := ho e0
    exact ⟨a, ha, hI⟩
  refine ⟨L, h1, ?_, h3⟩
  congr 1
  exact Array.ext' (by simpa using h2)
end
def Po.I (p : Po) : Prop := I64 p.n ∧ p.t.I
def poF (p : Po) : List Value := [.int .i64 p.n, .int .i64 p.t.e, .int .i64 p.t.r]
theorem opensPo : Opens Try.prog 26 poF Po.I := by
  intro H enc W base sp held fuel cs x hx
  obtain ⟨p, hp, hI⟩ := opens_struct2 (m0 := 1) (m1 := 2) Try.underlying26 (opens_int Try.underlying3) (opens_pair Try.underlying24 (by kernel_rfl) (by kernel_rfl) rfl rfl Try.underlying3) (by kernel_rfl) hx
  exact ⟨⟨p.1, p.2⟩, hp, hI⟩
section
variable {H : Type} {enc : TypeId × Value → H} {W : World}
theorem openPo {v : Value} {d : DataW H} {ps : List MemPlace} {base : Nat} (hval : Value.okWide Try.prog W .any base 26 v) (h : DataW.Trod enc Try.prog W 0 (fun _ => true) true 26 v d ps) :
    ∃ p : Po, v = .agg #[.int .i64 p.n, .int .i64 p.t.e, .int .i64 p.t.r] ∧ p.I := openV Try.underlying26 opensPo hval h
end
theorem rdPo : Try.prog.readableRec 26 = true ∧ 26 < Try.prog.types.size := ⟨by kernel_rfl, of_decide_eq_true (by kernel_rfl)⟩
section
variable {H : Type} {enc : TypeId × Value → H} {W : World}
theorem openPo2 {v : Value} {d : DataW H} {ps : List MemPlace} {base : Nat} (hval : Value.okWide Try.prog W .any base 43 v) (h : DataW.Trod enc Try.prog W 0 (fun _ => true) true 43 v d ps) :
    ∃ p q : Po, v = .agg #[.int .i64 p.n, .int .i64 p.t.e, .int .i64 p.t.r, .int .i64 q.n, .int .i64 q.t.e, .int .i64 q.t.r] ∧ p.I ∧ q.I := by
  obtain ⟨L, hl, rfl, hI⟩ := openA (m := 3) (fun _ => rfl) Try.underlying43 (by kernel_rfl) (by kernel_rfl) opensPo hval h
  match L, hl with
  | [p, q], _ => exact ⟨p, q, rfl, hI p (by simp), hI q (by simp)⟩
end
theorem rdPo2 : Try.prog.readableRec 43 = true ∧ 43 < Try.prog.types.size := ⟨by kernel_rfl, of_decide_eq_true (by kernel_rfl)⟩
section
variable {H : Type} {enc : TypeId × Value → H} {W : World}
theorem openPo3 {v : Value} {d : DataW H} {ps : List MemPlace} {base : Nat} (hval : Value.okWide Try.prog W .any base 37 v) (h : DataW.Trod enc Try.prog W 0 (fun _ => true) true 37 v d ps) :
    ∃ p q r : Po, v = .agg #[.int .i64 p.n, .int .i64 p.t.e, .int .i64 p.t.r, .int .i64 q.n, .int .i64 q.t.e, .int .i64 q.t.r, .int .i64 r.n, .int .i64 r.t.e, .int .i64 r.t.r] ∧ p.I ∧ q.I ∧ r.I := by
  obtain ⟨L, hl, rfl, hI⟩ := openA (m := 3) (fun _ => rfl) Try.underlying37 (by kernel_rfl) (by kernel_rfl) opensPo hval h
  match L, hl with
  | [p, q, r], _ => exact ⟨p, q, r, rfl, hI p (by simp), hI q (by simp), hI r (by simp)⟩
end
theorem rdPo3 : Try.prog.readableRec 37 = true ∧ 37 < Try.prog.types.size := ⟨by kernel_rfl, of_decide_eq_true (by kernel_rfl)⟩
theorem opensP : Opens Try.prog 44 encSt.f St.I := by
  intro H enc W base sp held fuel cs x hx
  exact opens_pair Try.underlying44 (by kernel_rfl) (by kernel_rfl) rfl rfl Try.underlying3 hx
section
variable {H : Type} {enc : TypeId × Value → H} {W : World}
theorem openC3 {v : Value} {d : DataW H} {ps : List MemPlace} {base : Nat} (hval : Value.okWide Try.prog W .any base 22 v) (h : DataW.Trod enc Try.prog W 0 (fun _ => true) true 22 v d ps) :
    ∃ (L : List (List (List St))) (rs : List Value) (vss : List (List Value)), Rd3 v rs vss L W := by
  obtain ⟨a0, len, cap, rfl⟩ := okWide_slice Try.underlying22 hval
  obtain ⟨fuel, hf⟩ := h
  obtain ⟨v, rs, B, hcs, hlen, htop, hrow⟩ := openSS (β := List Value × List (List St)) (J := fun v b => b.1.length = b.2.length ∧ RdV W 1 v b.2.length (cV b.1) ∧ ∀ i, i < b.2.length → RdS W (atV b.1 i) (atR b.2 i)) Try.underlying22 (by kernel_rfl) (fun {_ v _} hx => by
    obtain ⟨v', vs, L, hcs, h1, h2, h3⟩ := openSS (β := List St) (J := fun v l => RdS W v l) Try.underlying52 (by kernel_rfl) (fun {_ v _} hx => by
      obtain ⟨v', L, hcs, hr, _⟩ := openE1 encSt Try.underlying53 (by kernel_rfl) (by decide) opensP hx
      have e : v = v' := by simpa using hcs
      subst e
      rw [cE_cS] at hr
      exact ⟨L, hr⟩) hx
    have e : v = v' := by simpa using hcs
    subst e
    exact ⟨(vs, L), h1, h2, h3⟩) hf
  have e : Value.slice a0 len cap = v := by simpa [Value.cells] using hcs
  subst e
  have hat : ∀ i, i < B.length → atW (B.map (·.1)) i = (B.getD i default).1 ∧ at3 (B.map (·.2)) i = (B.getD i default).2 := fun i hi => by
    unfold atW at3
    simp only [List.getD_eq_getElem?_getD, List.getElem?_map, List.getElem?_eq_getElem hi]
    exact ⟨rfl, rfl⟩
  refine ⟨B.map (·.2), rs, B.map (·.1), ⟨by simpa using htop, ⟨by simpa using hlen, by simp, fun i hi => ?_, fun i hi => ?_, fun i j hi hj => ?_⟩⟩⟩
  · rw [List.length_map] at hi
    rw [(hat i hi).1, (hat i hi).2]; exact (hrow i hi).1
  · rw [List.length_map] at hi
    rw [(hat i hi).1, (hat i hi).2]; exact (hrow i hi).2.1
  · rw [List.length_map] at hi
    rw [(hat i hi).2] at hj ⊢
    rw [(hat i hi).1]; exact (hrow i hi).2.2 j hj
end
theorem rdC3 : Try.prog.readableRec 22 = true ∧ 22 < Try.prog.types.size := ⟨by kernel_rfl, of_decide_eq_true (by kernel_rfl)⟩
end Go.Proofs.Ytlgeodnbkndciaa
