/- The reference's blame in memory. Any seat with garboardref13 in it. -/
import Derived.Test.YtofnkfdeffjllaaVm
import Derived.Test.YtofnkfdeffjllaaMq
import Derived.Test.YtofnkfdeffjllaaCt
namespace Go.Proofs.Ytofnkfdeffjllaa
open Go.RowKit
set_option maxRecDepth 100000
set_option linter.unusedSimpArgs false
set_option linter.unusedVariables false

structure RBl0 (r : Nat) (pv fv : Value) (Pq : List St) (Fq : List Int) (S : Bs) (w : World) : Prop where
  top : Blk w r 49 #[.int .i64 S.n, .int .i64 S.f, pv, fv]
  ps : w.ownsRow 0 52 2 pv Pq.length (cS Pq)
  fs : w.ownsRow 0 3 1 fv Fq.length (cI Fq)
  ne : ∀ g, pv.ownBlock = some g → ¬ fv.ownBlock = some g
  n1 : ¬ pv.ownBlock = some r
  n2 : ¬ fv.ownBlock = some r
  ra : ∀ x y, S.a x y = true ↔ St.mk x y ∈ Pq
  rg : ∀ y, S.g y = true ↔ y ∈ Fq
  np : Pq.Nodup
  nf : Fq.Nodup
  ok : OKB S
def fpR13 (r : Nat) (pv fv : Value) : List Nat := r :: (pv.ownBlock.toList ++ fv.ownBlock.toList)
def RBlV (r : Nat) (fp : List Nat) (S : Bs) (w : World) : Prop := ∃ pv fv Pq Fq, fp = fpR13 r pv fv ∧ RBl0 r pv fv Pq Fq S w
theorem own_loc {w w' : World} {t m n : Nat} {v : Value} {xs : List Value} (h : w.ownsRow 0 t m v n xs) (hk : ∀ g ∈ v.ownBlock.toList, w'.heap[g]? = w.heap[g]?) : w'.ownsRow 0 t m v n xs ∧ ∀ g ∈ v.ownBlock.toList, g < w.heap.size := by
  refine ⟨⟨h.1, ?_⟩, fun g hg => (World.ownsRow.lt h g (by simpa using hg)).2⟩
  rcases h.2 with h4 | ⟨g, cap, cur, h4, h5, h6, h7⟩
  · exact .inl h4
  · exact .inr ⟨g, cap, cur, h4, h5, (hk g (by simp [h4, Value.ownBlock])).trans h6, h7⟩
theorem RBlV.loc (r : Nat) (fp : List Nat) (S : Bs) : Loc fp (RBlV r fp S) := fun w w' hk ⟨pv, fv, Pq, Fq, e, h⟩ => by
  subst e
  have h1 := blk_loc w w' (fun k hk' => hk k (by simp only [List.mem_singleton] at hk'; simp [fpR13, hk'])) h.top
  have h2 := own_loc (w' := w') h.ps fun g hg => hk g (by simp only [fpR13, List.mem_cons, List.mem_append]; exact .inr (.inl hg))
  have h3 := own_loc (w' := w') h.fs fun g hg => hk g (by simp only [fpR13, List.mem_cons, List.mem_append]; exact .inr (.inr hg))
  refine ⟨⟨pv, fv, Pq, Fq, rfl, h1.1, h2.1, h3.1, h.ne, h.n1, h.n2, h.ra, h.rg, h.np, h.nf, h.ok⟩, fun g hg => ?_⟩
  simp only [fpR13, List.mem_cons, List.mem_append] at hg
  rcases hg with rfl | hg | hg
  · exact h1.2 _ (by simp)
  · exact h2.2 g hg
  · exact h3.2 g hg
theorem RBl0.loc (r : Nat) (pv fv : Value) (Pq : List St) (Fq : List Int) (S : Bs) : Loc (fpR13 r pv fv) (RBl0 r pv fv Pq Fq S) := fun w w' hk h => by
  have h1 := blk_loc w w' (fun k hk' => hk k (by simp only [List.mem_singleton] at hk'; simp [fpR13, hk'])) h.top
  have h2 := own_loc (w' := w') h.ps fun g hg => hk g (by simp only [fpR13, List.mem_cons, List.mem_append]; exact .inr (.inl hg))
  have h3 := own_loc (w' := w') h.fs fun g hg => hk g (by simp only [fpR13, List.mem_cons, List.mem_append]; exact .inr (.inr hg))
  refine ⟨⟨h1.1, h2.1, h3.1, h.ne, h.n1, h.n2, h.ra, h.rg, h.np, h.nf, h.ok⟩, fun g hg => ?_⟩
  simp only [fpR13, List.mem_cons, List.mem_append] at hg
  rcases hg with rfl | hg | hg
  · exact h1.2 _ (by simp)
  · exact h2.2 g hg
  · exact h3.2 g hg
/-- What a call left there. -/
theorem rbl_done {R : List Nat} {w0 w : World} {B : List Ent} (M : Mm R w0 w B) {r i j k : Nat} {pv fv : Value} {Pq : List St} {Fq : List Int} {S S' : Bs} {z c : Int}
    (hi : B[i]? = some (.blk r 49 #[.int .i64 S.n, .int .i64 S.f, pv, fv])) (hj : B[j]? = some (.row 52 2 pv Pq.length (cS Pq))) (hk : B[k]? = some (.row 3 1 fv Fq.length (cI Fq)))
    (h1 : i ≠ j) (h2 : i ≠ k) (h3 : j ≠ k) (hn : S'.n = S.n) (hf : S'.f = S.f) (ra : ∀ x y, S'.a x y = true ↔ St.mk x y ∈ Pq) (rg : ∀ y, S'.g y = true ↔ y ∈ Fq) (np : Pq.Nodup) (nf : Fq.Nodup) (ok : OKB S') (hz : c = z) :
    TurnsE w0 (.own R (RBlV r R S)) (fun v x' => ∃ fp', v = .int .i64 c ∧ x' = .own fp' (RBlV r fp' S')) (.returned (.int .i64 z)) w := by
  have hr : r ∈ (Ent.blk r 49 #[.int .i64 S.n, .int .i64 S.f, pv, fv]).fp := by simp [Ent.fp]
  refine ⟨_, .own (fpR13 r pv fv) (RBlV r (fpR13 r pv fv) S'), rfl, M.out, ⟨⟨pv, fv, Pq, Fq, rfl, ?_, M.ow hj, M.ow hk, fun g hg hg' => ?_, fun hg => ?_, fun hg => ?_, ra, rg, np, nf, ok⟩, RBlV.loc _ _ _⟩, fun g hg => ?_, rfl, fpR13 r pv fv, by rw [hz], rfl⟩
  · rw [hn, hf]; exact M.at hi
  · exact M.apart hj hk h3 g (by simp [Ent.fp, hg]) (by simp [Ent.fp, hg'])
  · exact M.apart hi hj h1 r hr (by simp [Ent.fp, hg])
  · exact M.apart hi hk h2 r hr (by simp [Ent.fp, hg])
  · simp only [Ent.fp, fpR13, List.mem_cons, List.mem_append] at hg
    rcases hg with rfl | hg | hg
    · exact (M.own _ (List.mem_of_getElem? hi) _ hr).elim .inr .inl
    · exact (M.own _ (List.mem_of_getElem? hj) g hg).elim .inr .inl
    · exact (M.own _ (List.mem_of_getElem? hk) g hg).elim .inr .inl
/-! ### Sizes -/
section
variable {r : Nat} {pv fv : Value} {Pq : List St} {Fq : List Int} {S : Bs} {w : World} {x y k : Int}
theorem RBl0.len (h : RBl0 r pv fv Pq Fq S w) : Pq.length ≤ 49 ∧ Fq.length ≤ 7 := by
  refine ⟨?_, int_leC 7 Fq h.nf fun a ha => ?_⟩
  · have h1 := int_leC 49 (Pq.map fun s => s.e * 7 + s.r) (by
      show List.Pairwise _ _
      rw [List.pairwise_map]
      refine h.np.imp_of_mem fun {a b} ha hb hne e => hne ?_
      have h2 := h.ok.ac a.e a.r ((h.ra _ _).2 ha); have h3 := h.ok.ac b.e b.r ((h.ra _ _).2 hb); have h7 := h.ok.n7
      rw [St.eq_iff]; omega) fun a ha => by
      obtain ⟨s, hs, rfl⟩ := List.mem_map.1 ha
      have h2 := h.ok.ac s.e s.r ((h.ra _ _).2 hs); have h7 := h.ok.n7
      omega
    simpa using h1
  · have := h.ok.fl a ((h.rg a).2 ha); have h7 := h.ok.n7; omega
theorem rg_hit (h : RBl0 r pv fv Pq Fq S w) {i : Nat} (hi : i < Fq.length) (e : atI Fq i = y) : S.g y = true := (h.rg y).2 (e ▸ atE_mem (E := encI) hi)
theorem rg_miss (h : RBl0 r pv fv Pq Fq S w) {i : Int} (ha : ∀ q, q < i.toNat → ¬ atI Fq q = y) (hi : ¬ i < (Fq.length : Int)) : S.g y = false := by
  cases hg : S.g y with
  | false => rfl
  | true =>
    obtain ⟨q, hq, e⟩ := at_of_memE (E := encI) ((h.rg y).1 hg)
    exact absurd e (ha q (by omega))
theorem ra_hit (h : RBl0 r pv fv Pq Fq S w) {i : Nat} (hi : i < Pq.length) (e : atS Pq i = St.mk x y) : S.a x y = true := (h.ra x y).2 (by rw [← e, atS_eq hi]; exact List.getElem_mem hi)
theorem ra_miss (h : RBl0 r pv fv Pq Fq S w) {i : Int} (ha : ∀ q, q < i.toNat → ¬ atS Pq q = St.mk x y) (hi : ¬ i < (Pq.length : Int)) : S.a x y = false := by
  cases hg : S.a x y with
  | false => rfl
  | true =>
    obtain ⟨q, hq, e⟩ := List.mem_iff_getElem.1 ((h.ra x y).1 hg)
    exact absurd (by rw [atS_eq hq]; exact e) (ha q (by omega))
theorem acc_bad (h : ¬ ((0 ≤ x ∧ x < S.n) ∧ (0 ≤ y ∧ y < S.n) ∧ x ≠ y)) : accE S x y = 1 := by
  unfold accE
  rw [if_pos]
  by_cases h1 : wkB S x = false
  · exact .inl h1
  · by_cases h2 : wkB S y = false
    · exact .inr (.inl h2)
    · refine .inr (.inr (Decidable.byContradiction fun z => h ⟨wk_iff.1 (by simpa using h1), wk_iff.1 (by simpa using h2), z⟩))
theorem acc_old (hx : 0 ≤ x ∧ x < S.n) (hy : 0 ≤ y ∧ y < S.n) (hn : x ≠ y) (ha : S.a x y = true) : accE S x y = 12 := by
  unfold accE
  rw [if_neg, if_pos ha]
  rintro (h | h | h)
  · rw [wk_iff.2 hx] at h; cases h
  · rw [wk_iff.2 hy] at h; cases h
  · exact hn h
theorem flt_bad (h : wkB S y = false) : fltE S y = 1 := if_pos h
theorem flt_old (h : wkB S y = true) (hg : S.g y = true) : fltE S y = 12 := by unfold fltE; rw [if_neg (by rw [h]; simp), if_pos hg]
theorem flt_yes (h : wkB S y = true) (hg : S.g y = false) : fltE S y = 0 := by unfold fltE; rw [if_neg (by rw [h]; simp), if_neg (by rw [hg]; simp)]
/-- One more pair. -/
theorem pair_more (h : RBl0 r pv fv Pq Fq S w) (e : accE S x y = 0) : (∀ p q, (accS S x y).a p q = true ↔ St.mk p q ∈ Pq ++ [St.mk x y]) ∧ (Pq ++ [St.mk x y]).Nodup := by
  have hk := acc_ok e
  refine ⟨fun p q => ?_, ?_⟩
  · rw [accS_a e, Bool.or_eq_true, h.ra, List.mem_append, List.mem_singleton, decide_eq_true_iff, St.mk.injEq]
  · rw [List.nodup_append]
    refine ⟨h.np, List.nodup_cons.2 ⟨by simp, List.nodup_nil⟩, fun a ha b hb hab => ?_⟩
    rw [List.mem_singleton] at hb
    subst hb hab
    have := (h.ra x y).2 ha
    rw [hk.2.2.2] at this; cases this
theorem fault_more (h : RBl0 r pv fv Pq Fq S w) (e : fltE S y = 0) : (∀ q, (fltS S y).g q = true ↔ q ∈ Fq ++ [y]) ∧ (Fq ++ [y]).Nodup := by
  have hk := flt_ok e
  refine ⟨fun q => ?_, ?_⟩
  · rw [fltS_g e, Bool.or_eq_true, h.rg, List.mem_append, List.mem_singleton, decide_eq_true_iff]
  · rw [List.nodup_append]
    refine ⟨h.nf, List.nodup_cons.2 ⟨by simp, List.nodup_nil⟩, fun a ha b hb hab => ?_⟩
    rw [List.mem_singleton] at hb
    subst hb hab
    have := (h.rg _).2 ha
    rw [hk.2] at this; cases this
/-! ### Who accused, one by one -/
def byTo (S : Bs) (y k : Int) : List Int := (rngI k).filter fun x => S.a x y
def hitP (Pq : List St) (k y : Int) (i : Nat) : List Int := if St.mk k y ∈ Pq.take i then [k] else []
def goneTo (S : Bs) (k : Int) : List Int := (rngI k).filter fun x => isB S x
theorem rng_succ (h : 0 ≤ k) : rngI (k + 1) = rngI k ++ [k] := by
  unfold rngI
  rw [show (k + 1).toNat = k.toNat + 1 by omega, List.range_succ, List.map_append]
  simp; omega
theorem byTo_len : (byTo S y k).length ≤ k.toNat := by unfold byTo; have := List.length_filter_le (fun x => S.a x y) (rngI k); rw [rng_len] at this; exact this
theorem goneTo_len : (goneTo S k).length ≤ k.toNat := by unfold goneTo; have := List.length_filter_le (fun x => isB S x) (rngI k); rw [rng_len] at this; exact this
theorem hit_len {i : Nat} : (hitP Pq k y i).length ≤ 1 := by unfold hitP; split <;> simp
theorem hit_zero : [] = hitP Pq k y (0 : Int).toNat := by simp [hitP]
theorem hit_yes (h : RBl0 r pv fv Pq Fq S w) {i : Int} (h0 : 0 ≤ i) (hi : i < (Pq.length : Int)) (e : atS Pq i.toNat = St.mk k y) : hitP Pq k y i.toNat ++ [k] = hitP Pq k y (i + 1).toNat := by
  unfold hitP
  have h1 : Pq[i.toNat]'(by omega) = St.mk k y := by rw [← e, atS_eq (by omega)]
  have hm : ¬ St.mk k y ∈ Pq.take i.toNat := fun hm => by
    obtain ⟨j, hj, e2⟩ := List.mem_iff_getElem.1 hm
    rw [List.getElem_take] at e2
    rw [List.length_take] at hj
    have := (List.pairwise_iff_getElem.1 h.np) j i.toNat (by omega) (by omega) (by omega)
    exact this (e2.trans h1.symm)
  rw [if_neg hm, if_pos (by rw [show (i + 1).toNat = i.toNat + 1 by omega, List.take_succ_eq_append_getElem (by omega), h1]; simp)]
  rfl
theorem hit_no {i : Int} (h0 : 0 ≤ i) (hi : i < (Pq.length : Int)) (e : ¬ atS Pq i.toNat = St.mk k y) : hitP Pq k y i.toNat = hitP Pq k y (i + 1).toNat := by
  unfold hitP
  rw [show (i + 1).toNat = i.toNat + 1 by omega, List.take_succ_eq_append_getElem (by omega), show Pq[i.toNat]'(by omega) = atS Pq i.toNat from (atS_eq (by omega)).symm]
  simp only [List.mem_append, List.mem_singleton]
  by_cases h : St.mk k y ∈ Pq.take i.toNat
  · rw [if_pos h, if_pos (.inl h)]
  · rw [if_neg h, if_neg (fun z => z.elim h fun z => e z.symm)]
theorem byTo_step (h : RBl0 r pv fv Pq Fq S w) (h0 : 0 ≤ k) {i : Int} (hi : ¬ i < (Pq.length : Int)) : byTo S y k ++ hitP Pq k y i.toNat = byTo S y (k + 1) := by
  unfold byTo hitP
  rw [rng_succ h0, List.filter_append, List.take_of_length_le (by omega)]
  congr 1
  by_cases hm : St.mk k y ∈ Pq
  · rw [if_pos hm, List.filter_cons, if_pos ((h.ra k y).2 hm)]; rfl
  · rw [if_neg hm, List.filter_cons, if_neg (fun z => hm ((h.ra k y).1 z))]; rfl
theorem by_zero : ([] : List Int) = byTo S y 0 := rfl
theorem by_end (h : ¬ k < S.n) (h1 : k ≤ S.n) : byTo S y k = byL S y := by unfold byTo byL; rw [show k = S.n by omega]
theorem gone_zero : ([] : List Int) = goneTo S 0 := rfl
theorem gone_yes (h0 : 0 ≤ k) (h : isB S k = true) : goneTo S k ++ [k] = goneTo S (k + 1) := by
  unfold goneTo; rw [rng_succ h0, List.filter_append, List.filter_cons, if_pos h]; rfl
theorem gone_no (h0 : 0 ≤ k) (h : isB S k = false) : goneTo S k = goneTo S (k + 1) := by
  unfold goneTo; rw [rng_succ h0, List.filter_append, List.filter_cons, if_neg (by rw [h]; simp)]; simp
theorem gone_end (h : ¬ k < S.n) (h1 : k ≤ S.n) : goneTo S k = goneL S := by unfold goneTo goneL; rw [show k = S.n by omega]
end
end Go.Proofs.Ytofnkfdeffjllaa
