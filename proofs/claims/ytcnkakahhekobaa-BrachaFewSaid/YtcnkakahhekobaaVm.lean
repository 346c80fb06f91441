/- Accusations and evictions; mathematics of layer 13. Any seat with layer 13 in it. -/
import Derived.Test.YtcnkakahhekobaaSt
import Derived.Test.YtcnkakahhekobaaEn
import Derived.Test.YtcnkakahhekobaaEk
namespace Go.Proofs.Ytcnkakahhekobaa
open Go.RowKit
set_option maxRecDepth 100000
set_option linter.unusedSimpArgs false
set_option linter.unusedVariables false

/-- Who accused whom, and whose fault was seen, of n workers. -/
structure Bs where
  n : Int
  f : Int
  a : Int → Int → Bool
  g : Int → Bool
def wkB (S : Bs) (k : Int) : Bool := decide (0 ≤ k ∧ k < S.n)
def accE (S : Bs) (x y : Int) : Int := if wkB S x = false ∨ wkB S y = false ∨ x = y then 1 else if S.a x y = true then 12 else 0
def accS (S : Bs) (x y : Int) : Bs := if accE S x y = 0 then { S with a := fun p q => S.a p q || decide (p = x ∧ q = y) } else S
def fltE (S : Bs) (y : Int) : Int := if wkB S y = false then 1 else if S.g y = true then 12 else 0
def fltS (S : Bs) (y : Int) : Bs := if fltE S y = 0 then { S with g := fun q => S.g q || decide (q = y) } else S
def rngI (n : Int) : List Int := (List.range n.toNat).map fun (i : Nat) => (i : Int)
def byL (S : Bs) (y : Int) : List Int := (rngI S.n).filter fun k => S.a k y
def isB (S : Bs) (y : Int) : Bool := S.g y || (wkB S y && decide (S.f + 1 ≤ (((byL S y).length : Nat) : Int)))
def goneL (S : Bs) : List Int := (rngI S.n).filter fun k => isB S k
def bnewE (n f : Int) : Int := if 1 ≤ n ∧ n ≤ 7 ∧ 0 ≤ f ∧ 3 * f < n then 0 else 1
def bnewS (n f : Int) : Bs := ⟨n, f, fun _ _ => false, fun _ => false⟩
/-- What a book of blames may be: only workers, nobody by itself. -/
structure OKB (S : Bs) : Prop where
  n1 : 1 ≤ S.n
  n7 : S.n ≤ 7
  f0 : 0 ≤ S.f
  f3 : 3 * S.f < S.n
  ac : ∀ x y, S.a x y = true → (0 ≤ x ∧ x < S.n) ∧ (0 ≤ y ∧ y < S.n) ∧ x ≠ y
  fl : ∀ y, S.g y = true → 0 ≤ y ∧ y < S.n
section
variable {S : Bs} {x y k n f : Int}
theorem wk_iff : wkB S k = true ↔ 0 ≤ k ∧ k < S.n := by unfold wkB; rw [decide_eq_true_iff]
theorem wk_no (h : ¬ (0 ≤ k ∧ k < S.n)) : wkB S k = false := by unfold wkB; exact decide_eq_false h
theorem bnew_ok (h : bnewE n f = 0) : 1 ≤ n ∧ n ≤ 7 ∧ 0 ≤ f ∧ 3 * f < n := by 
  unfold bnewE at h
  split at h
  · assumption
  · omega
theorem okb_new (h : bnewE n f = 0) : OKB (bnewS n f) := by
  have := bnew_ok h
  exact ⟨this.1, this.2.1, this.2.2.1, this.2.2.2, fun x y z => (by simp [bnewS] at z), fun y z => (by simp [bnewS] at z)⟩
theorem acc_ok (h : accE S x y = 0) : (0 ≤ x ∧ x < S.n) ∧ (0 ≤ y ∧ y < S.n) ∧ x ≠ y ∧ S.a x y = false := by
  unfold accE at h
  split at h
  · omega
  · rename_i h1
    split at h
    · omega
    · rename_i h2
      have w1 : wkB S x = true := by cases z : wkB S x with | true => rfl | false => exact absurd (.inl z) h1
      have w2 : wkB S y = true := by cases z : wkB S y with | true => rfl | false => exact absurd (.inr (.inl z)) h1
      exact ⟨wk_iff.1 w1, wk_iff.1 w2, fun z => h1 (.inr (.inr z)), by simpa using h2⟩
theorem acc_yes (hx : 0 ≤ x ∧ x < S.n) (hy : 0 ≤ y ∧ y < S.n) (hn : x ≠ y) (ha : S.a x y = false) : accE S x y = 0 := by
  unfold accE
  rw [if_neg, if_neg (by rw [ha]; simp)]
  rintro (h | h | h)
  · rw [wk_iff.2 hx] at h; cases h
  · rw [wk_iff.2 hy] at h; cases h
  · exact hn h
theorem accS_a (h : accE S x y = 0) (p q : Int) : (accS S x y).a p q = (S.a p q || decide (p = x ∧ q = y)) := by unfold accS; rw [if_pos h]
theorem accS_no (h : ¬ accE S x y = 0) : accS S x y = S := if_neg h
theorem accS_n : (accS S x y).n = S.n := by unfold accS; split <;> rfl
theorem accS_f : (accS S x y).f = S.f := by unfold accS; split <;> rfl
theorem accS_g : (accS S x y).g = S.g := by unfold accS; split <;> rfl
theorem flt_ok (h : fltE S y = 0) : (0 ≤ y ∧ y < S.n) ∧ S.g y = false := by
  unfold fltE at h
  split at h
  · omega
  · rename_i h1
    split at h
    · omega
    · rename_i h2
      exact ⟨wk_iff.1 (by cases z : wkB S y with | true => rfl | false => exact absurd z h1), by simpa using h2⟩
theorem fltS_g (h : fltE S y = 0) (q : Int) : (fltS S y).g q = (S.g q || decide (q = y)) := by unfold fltS; rw [if_pos h]
theorem fltS_no (h : ¬ fltE S y = 0) : fltS S y = S := if_neg h
theorem fltS_n : (fltS S y).n = S.n := by unfold fltS; split <;> rfl
theorem fltS_f : (fltS S y).f = S.f := by unfold fltS; split <;> rfl
theorem fltS_a : (fltS S y).a = S.a := by unfold fltS; split <;> rfl
/-- A worker's fault, seen or seen before, is seen. -/
theorem flt_any (hy : 0 ≤ y ∧ y < S.n) (q : Int) : (fltS S y).g q = (S.g q || decide (q = y)) := by
  by_cases h : fltE S y = 0
  · exact fltS_g h q
  · rw [fltS_no h]
    have : S.g y = true := by
      unfold fltE at h
      rw [if_neg (by rw [wk_iff.2 hy]; simp)] at h
      by_cases z : S.g y = true
      · exact z
      · rw [if_neg z] at h; exact absurd rfl h
    by_cases e : q = y
    · rw [e, this]; rfl
    · simp [e]
theorem okb_acc (h : OKB S) (x y : Int) : OKB (accS S x y) := by
  by_cases e : accE S x y = 0
  · have := acc_ok e
    refine ⟨by rw [accS_n]; exact h.n1, by rw [accS_n]; exact h.n7, by rw [accS_f]; exact h.f0, by rw [accS_n, accS_f]; exact h.f3, fun p q hp => ?_, fun q hq => by rw [accS_g] at hq; rw [accS_n]; exact h.fl q hq⟩
    rw [accS_a e] at hp
    rw [accS_n]
    simp only [Bool.or_eq_true, decide_eq_true_eq] at hp
    rcases hp with hp | ⟨rfl, rfl⟩
    · exact h.ac p q hp
    · exact ⟨this.1, this.2.1, this.2.2.1⟩
  · rw [accS_no e]; exact h
theorem okb_flt (h : OKB S) (y : Int) : OKB (fltS S y) := by
  by_cases e : fltE S y = 0
  · have := flt_ok e
    refine ⟨by rw [fltS_n]; exact h.n1, by rw [fltS_n]; exact h.n7, by rw [fltS_f]; exact h.f0, by rw [fltS_n, fltS_f]; exact h.f3, fun p q hp => by rw [fltS_a] at hp; rw [fltS_n]; exact h.ac p q hp, fun q hq => ?_⟩
    rw [fltS_g e] at hq
    rw [fltS_n]
    simp only [Bool.or_eq_true, decide_eq_true_eq] at hq
    rcases hq with hq | rfl
    · exact h.fl q hq
    · exact this.1
  · rw [fltS_no e]; exact h
theorem mem_rng {k : Int} : k ∈ rngI n ↔ 0 ≤ k ∧ k < n := by
  unfold rngI
  rw [List.mem_map]
  constructor
  · rintro ⟨i, hi, rfl⟩; rw [List.mem_range] at hi; omega
  · intro h; exact ⟨k.toNat, List.mem_range.2 (by omega), by omega⟩
theorem rng_len (n : Int) : (rngI n).length = n.toNat := by unfold rngI; rw [List.length_map, List.length_range]
theorem rng_nodup (n : Int) : (rngI n).Nodup := by
  unfold rngI
  show List.Pairwise _ _
  rw [List.pairwise_map]
  exact List.nodup_range.imp fun {a b} h e => h (by omega)
theorem by_len : (byL S y).length ≤ S.n.toNat := by unfold byL; have := List.length_filter_le (fun k => S.a k y) (rngI S.n); rw [rng_len] at this; exact this
theorem gone_len : (goneL S).length ≤ S.n.toNat := by unfold goneL; have := List.length_filter_le (fun k => isB S k) (rngI S.n); rw [rng_len] at this; exact this
theorem mem_gone : k ∈ goneL S ↔ (0 ≤ k ∧ k < S.n) ∧ isB S k = true := by unfold goneL; rw [List.mem_filter, mem_rng]
theorem mem_by : k ∈ byL S y ↔ (0 ≤ k ∧ k < S.n) ∧ S.a k y = true := by unfold byL; rw [List.mem_filter, mem_rng]
/-- One more that p tells, of a list in which it stands once. -/
theorem count_more {l : List Int} (hn : l.Nodup) (hx : x ∈ l) {p q : Int → Bool} (h0 : p x = false) (hq : ∀ k ∈ l, q k = (p k || decide (k = x))) : (l.filter q).length = (l.filter p).length + 1 := by
  induction l with
  | nil => cases hx
  | cons a r ih =>
    obtain ⟨h1, h2⟩ := List.nodup_cons.1 hn
    have hqa := hq a (by simp)
    by_cases e : a = x
    · subst e
      have hr : r.filter q = r.filter p := List.filter_congr fun k hk => by
        rw [hq k (by simp [hk])]
        have : k ≠ a := fun z => h1 (z ▸ hk)
        simp [this]
      rw [List.filter_cons, List.filter_cons, hqa, h0]
      simp [hr]
    · have hr := ih h2 ((List.mem_cons.1 hx).resolve_left fun z => e z.symm) fun k hk => hq k (by simp [hk])
      rw [List.filter_cons, List.filter_cons, hqa]
      simp only [e, decide_false, Bool.or_false]
      split
      · simp only [List.length_cons, hr]
      · exact hr
theorem int_leC (n : Nat) (l : List Int) (h : l.Nodup) (hb : ∀ a ∈ l, 0 ≤ a ∧ a < (n : Int)) : l.length ≤ n := by
  induction n generalizing l with
  | zero =>
    cases l with
    | nil => simp
    | cons a r => have := hb a (by simp); omega
  | succ n ih =>
    have h1 := ih (l.filter fun a => decide (a ≠ (n : Int))) (h.filter _) fun a ha => by
      obtain ⟨h2, h3⟩ := List.mem_filter.1 ha
      have := hb a h2
      simp only [ne_eq, decide_eq_true_eq] at h3
      omega
    by_cases hm : (n : Int) ∈ l
    · have h2 := count_more h hm (p := fun a => decide (a ≠ (n : Int))) (q := fun _ => true) (by simp) fun k _ => by by_cases e : k = (n : Int) <;> simp [e]
      rw [List.filter_eq_self.2 (fun _ _ => rfl)] at h2
      omega
    · rw [List.filter_eq_self.2 (fun a ha => by simp only [ne_eq, decide_eq_true_eq]; exact fun e => hm (e ▸ ha))] at h1
      omega
theorem by_acc (h : accE S x y = 0) : (byL (accS S x y) y).length = (byL S y).length + 1 := by
  have hk := acc_ok h
  unfold byL
  rw [accS_n]
  exact count_more (rng_nodup _) (mem_rng.2 hk.1) hk.2.2.2 fun k _ => by rw [accS_a h]; simp
theorem by_other (hn : x ≠ y) (q : Int) (hq : q ≠ y) : byL (accS S x y) q = byL S q := by
  by_cases h : accE S x y = 0
  · unfold byL
    rw [accS_n]
    exact List.filter_congr fun k _ => by rw [accS_a h]; simp [hq]
  · rw [accS_no h]
theorem by_flt (q : Int) : byL (fltS S y) q = byL S q := by unfold byL; rw [fltS_n, fltS_a]
/-! ### Who is evicted stays so -/
theorem by_grow (x y q : Int) : (byL S q).length ≤ (byL (accS S x y) q).length := by
  unfold byL
  rw [accS_n]
  have : ∀ l : List Int, (l.filter fun k => S.a k q).length ≤ (l.filter fun k => (accS S x y).a k q).length := by
    intro l
    induction l with
    | nil => simp
    | cons a r ih =>
      by_cases h : accE S x y = 0
      · rw [List.filter_cons, List.filter_cons, accS_a h]
        cases S.a a q
        · simp only [Bool.false_or, Bool.false_eq_true, if_false]
          split
          · simp only [List.length_cons]; omega
          · exact ih
        · simp only [Bool.true_or, if_true, List.length_cons]; omega
      · rw [accS_no h]; exact Nat.le_refl _
  exact this _
theorem is_acc (x y : Int) {q : Int} (h : isB S q = true) : isB (accS S x y) q = true := by
  unfold isB at h ⊢
  have h1 : wkB (accS S x y) q = wkB S q := by unfold wkB; rw [accS_n]
  have h2 := by_grow (S := S) x y q
  rw [accS_g, accS_f, h1]
  simp only [Bool.or_eq_true, Bool.and_eq_true, decide_eq_true_eq] at h ⊢
  rcases h with h | h
  · exact .inl h
  · exact .inr ⟨h.1, by omega⟩
theorem is_flt (y : Int) {q : Int} (h : isB S q = true) : isB (fltS S y) q = true := by
  unfold isB at h ⊢
  have h1 : wkB (fltS S y) q = wkB S q := by unfold wkB; rw [fltS_n]
  rw [fltS_f, h1, by_flt]
  simp only [Bool.or_eq_true, Bool.and_eq_true, decide_eq_true_eq] at h ⊢
  rcases h with h | h
  · left
    by_cases e : fltE S y = 0
    · rw [fltS_g e, h]; rfl
    · rw [fltS_no e]; exact h
  · exact .inr h
end
/-! ### The order of what is said -/
def sayS (S : Bs) (o : St) : Bs := if o.e = o.r then fltS S o.r else accS S o.e o.r
def saysS (S : Bs) (l : List St) : Bs := l.foldl sayS S
section
variable {S : Bs} {x y : Int} {o : St} {l m : List St}
theorem say_n : (sayS S o).n = S.n := by 
  unfold sayS
  split
  · exact fltS_n
  · exact accS_n
theorem say_f : (sayS S o).f = S.f := by 
  unfold sayS
  split
  · exact fltS_f
  · exact accS_f
theorem say_a : (sayS S o).a x y = true ↔ S.a x y = true ∨ (o.e = x ∧ o.r = y ∧ x ≠ y ∧ (0 ≤ x ∧ x < S.n) ∧ (0 ≤ y ∧ y < S.n)) := by
  unfold sayS
  split
  · rename_i e
    rw [fltS_a]
    exact ⟨.inl, fun h => h.elim id fun z => absurd (by rw [← z.1, ← z.2.1]; exact e) z.2.2.1⟩
  · rename_i e
    by_cases h : accE S o.e o.r = 0
    · have hk := acc_ok h
      rw [accS_a h]
      simp only [Bool.or_eq_true, decide_eq_true_eq]
      constructor
      · rintro (z | ⟨rfl, rfl⟩)
        · exact .inl z
        · exact .inr ⟨rfl, rfl, hk.2.2.1, hk.1, hk.2.1⟩
      · rintro (z | ⟨rfl, rfl, _⟩)
        · exact .inl z
        · exact .inr ⟨rfl, rfl⟩
    · rw [accS_no h]
      refine ⟨.inl, fun z => z.elim id fun ⟨h1, h2, h3, h4, h5⟩ => ?_⟩
      subst h1 h2
      cases ha : S.a o.e o.r with
      | true => rfl
      | false => exact absurd (acc_yes h4 h5 h3 ha) h
theorem say_g : (sayS S o).g y = true ↔ S.g y = true ∨ (o.e = y ∧ o.r = y ∧ (0 ≤ y ∧ y < S.n)) := by
  unfold sayS
  split
  · rename_i e
    by_cases hw : 0 ≤ o.r ∧ o.r < S.n
    · rw [flt_any hw]
      simp only [Bool.or_eq_true, decide_eq_true_eq]
      constructor
      · rintro (z | rfl)
        · exact .inl z
        · exact .inr ⟨e, rfl, hw⟩
      · rintro (z | ⟨_, h, _⟩)
        · exact .inl z
        · exact .inr h.symm
    · rw [fltS_no (by unfold fltE; rw [if_pos (wk_no hw)]; decide)]
      exact ⟨.inl, fun z => z.elim id fun ⟨_, h, h2⟩ => absurd (h ▸ h2) hw⟩
  · rename_i e
    rw [accS_g]
    exact ⟨.inl, fun z => z.elim id fun ⟨h1, h2, _⟩ => absurd (h1.trans h2.symm) e⟩
theorem says_n : (saysS S l).n = S.n := by
  unfold saysS
  induction l generalizing S with
  | nil => rfl
  | cons a r ih => rw [List.foldl_cons, ih, say_n]
theorem says_f : (saysS S l).f = S.f := by
  unfold saysS
  induction l generalizing S with
  | nil => rfl
  | cons a r ih => rw [List.foldl_cons, ih, say_f]
theorem says_a : (saysS S l).a x y = true ↔ S.a x y = true ∨ ∃ o ∈ l, o.e = x ∧ o.r = y ∧ x ≠ y ∧ (0 ≤ x ∧ x < S.n) ∧ (0 ≤ y ∧ y < S.n) := by
  unfold saysS
  induction l generalizing S with
  | nil => simp
  | cons a r ih =>
    rw [List.foldl_cons, ih, say_a, say_n]
    simp only [List.mem_cons, exists_eq_or_imp]
    rw [or_assoc]
theorem says_g : (saysS S l).g y = true ↔ S.g y = true ∨ ∃ o ∈ l, o.e = y ∧ o.r = y ∧ (0 ≤ y ∧ y < S.n) := by
  unfold saysS
  induction l generalizing S with
  | nil => simp
  | cons a r ih =>
    rw [List.foldl_cons, ih, say_g, say_n]
    simp only [List.mem_cons, exists_eq_or_imp]
    rw [or_assoc]
theorem says_perm (h : ∀ o, o ∈ l ↔ o ∈ m) : saysS S l = saysS S m := by
  have ha : (saysS S l).a = (saysS S m).a := by
    funext x y
    rw [Bool.eq_iff_iff, says_a, says_a]
    simp only [h]
  have hg : (saysS S l).g = (saysS S m).g := by
    funext y
    rw [Bool.eq_iff_iff, says_g, says_g]
    simp only [h]
  have hn : (saysS S l).n = (saysS S m).n := by rw [says_n, says_n]
  have hf : (saysS S l).f = (saysS S m).f := by rw [says_f, says_f]
  generalize saysS S l = A at *
  generalize saysS S m = B at *
  cases A; cases B; simp_all
theorem okb_say (h : OKB S) (o : St) : OKB (sayS S o) := by 
  unfold sayS
  split
  · exact okb_flt h _
  · exact okb_acc h _ _
theorem okb_says (h : OKB S) (l : List St) : OKB (saysS S l) := by
  unfold saysS
  induction l generalizing S with
  | nil => exact h
  | cons a r ih => exact ih (okb_say h a)
theorem is_say {q : Int} (h : isB S q = true) : isB (sayS S o) q = true := by 
  unfold sayS
  split
  · exact is_flt _ h
  · exact is_acc _ _ h
/-- One more said, from the front and from the back. -/
theorem says_front {i : Int} (h0 : 0 ≤ i) (h : i < (l.length : Int)) : sayS (saysS S (l.take i.toNat)) (atS l i.toNat) = saysS S (l.take (i + 1).toNat) := by
  rw [show (i + 1).toNat = i.toNat + 1 by omega, List.take_succ_eq_append_getElem (by omega), show l[i.toNat] = atS l i.toNat from (atS_eq (by omega)).symm]
  unfold saysS
  rw [List.foldl_append]; rfl
theorem says_back {i : Int} (h0 : 0 ≤ i) (h : i < (l.length : Int)) : sayS (saysS S (l.reverse.take i.toNat)) (atS l ((l.length : Int) - 1 - i).toNat) = saysS S (l.reverse.take (i + 1).toNat) := by
  have := says_front (S := S) (l := l.reverse) h0 (by rw [List.length_reverse]; exact h)
  rw [← this]
  congr 1
  rw [atS_eq (by omega), atS_eq (by rw [List.length_reverse]; omega), List.getElem_reverse]
  congr 1
  omega
theorem says_end {i : Int} (h : ¬ i < (l.length : Int)) : saysS S (l.reverse.take i.toNat) = saysS S (l.take i.toNat) := by
  rw [List.take_of_length_le (by rw [List.length_reverse]; omega), List.take_of_length_le (by omega)]
  exact says_perm fun o => List.mem_reverse
end
/-! ### Only f others accuse -/
structure FewOK (n f wh kg ka said : Int) (S : Bs) : Prop where
  ok : OKB S
  hn : S.n = n
  hf : S.f = f
  g : ∀ x, S.g x = decide (0 ≤ x ∧ x < kg ∧ x ≠ wh)
  a : ∀ x, ka ≤ x → S.a x wh = false
  by_ : (((byL S wh).length : Nat) : Int) = said
section
variable {n f wh k kg ka said : Int} {S : Bs}
theorem few_new (h : bnewE n f = 0) : FewOK n f wh 0 0 0 (bnewS n f) := ⟨okb_new h, rfl, rfl, fun x => by
  show false = _
  symm
  exact decide_eq_false (by omega), fun _ _ => rfl, by
  have : byL (bnewS n f) wh = [] := by unfold byL; rw [List.filter_eq_nil_iff]; intro a _; simp [bnewS]
  rw [this]; rfl⟩
theorem FewOK.flt (h : FewOK n f wh k ka said S) (h0 : 0 ≤ k) (hk : k < n) (hw : k ≠ wh) : FewOK n f wh (k + 1) ka said (fltS S k) :=
  ⟨okb_flt h.ok k, by rw [fltS_n]; exact h.hn, by rw [fltS_f]; exact h.hf, fun x => by
    rw [flt_any (by rw [h.hn]; omega), h.g, ← Bool.decide_or]
    exact decide_eq_decide.2 (by omega), fun x hx => by rw [fltS_a]; exact h.a x hx, by rw [by_flt]; exact h.by_⟩
theorem FewOK.skip (h : FewOK n f wh k ka said S) (hw : k = wh) : FewOK n f wh (k + 1) ka said S :=
  ⟨h.ok, h.hn, h.hf, fun x => by rw [h.g]; exact decide_eq_decide.2 (by omega), h.a, h.by_⟩
theorem FewOK.on (h : FewOK n f wh kg ka said S) (hk : ka ≤ k) : FewOK n f wh kg k said S := ⟨h.ok, h.hn, h.hf, h.g, fun x hx => h.a x (by omega), h.by_⟩
theorem FewOK.acc (h : FewOK n f wh kg k said S) (h0 : 0 ≤ k) (hk : k < n) (hw : k ≠ wh) (w0 : 0 ≤ wh) (w1 : wh < n) (hs : said < f) : accE S k wh = 0 ∧ FewOK n f wh kg (k + 1) (said + 1) (accS S k wh) ∧ isB (accS S k wh) wh = false := by
  have e : accE S k wh = 0 := acc_yes (by rw [h.hn]; omega) (by rw [h.hn]; omega) hw (h.a k (by omega))
  have hl := by_acc e
  have hb := h.by_
  refine ⟨e, ⟨okb_acc h.ok _ _, by rw [accS_n]; exact h.hn, by rw [accS_f]; exact h.hf, fun x => by rw [accS_g]; exact h.g x, fun x hx => ?_, by rw [hl]; omega⟩, ?_⟩
  · rw [accS_a e, h.a x (by omega)]
    simp only [Bool.false_or]
    exact decide_eq_false (by omega)
  · unfold isB
    rw [accS_g, h.g, accS_f, h.hf, hl, decide_eq_false (by omega), decide_eq_false (p := f + 1 ≤ _) (by omega)]
    simp
theorem FewOK.not (h : FewOK n f wh kg ka said S) (hs : said ≤ f) : isB S wh = false := by
  have hb := h.by_
  unfold isB
  rw [h.g, h.hf, decide_eq_false (by omega), decide_eq_false (p := f + 1 ≤ _) (by omega)]
  simp
theorem FewOK.gone (h : FewOK n f wh n ka said S) (hs : said ≤ f) (w0 : 0 ≤ wh) (w1 : wh < n) : (((goneL S).length : Nat) : Int) = n - 1 := by
  have h1 := count_more (rng_nodup n) (mem_rng.2 ⟨w0, w1⟩) (p := fun k => isB S k) (q := fun _ => true) (h.not hs) fun k hk => by
    have := mem_rng.1 hk
    by_cases e : k = wh
    · simp [e]
    · have : isB S k = true := by unfold isB; rw [h.g, decide_eq_true (by omega)]; rfl
      rw [this]; rfl
  have h2 : ((rngI n).filter fun _ => true).length = n.toNat := by rw [List.filter_eq_self.2 (fun _ _ => rfl), rng_len]
  have h3 : (goneL S).length = ((rngI n).filter fun k => isB S k).length := by unfold goneL; rw [h.hn]
  omega
end
/-! ### f + 1 others accuse -/
structure EnoOK (n f wh k said : Int) (S : Bs) : Prop where
  ok : OKB S
  hn : S.n = n
  hf : S.f = f
  g : ∀ x, S.g x = false
  a : ∀ x, x ≤ k → S.a x wh = false
  o : ∀ x y, y ≠ wh → S.a x y = false
  by_ : (((byL S wh).length : Nat) : Int) = said
  num : said = n - 1 - k - (if k < wh then 1 else 0)
section
variable {n f wh k said : Int} {S : Bs}
theorem eno_new (h : bnewE n f = 0) (hw : wh < n) : EnoOK n f wh (n - 1) 0 (bnewS n f) := ⟨okb_new h, rfl, rfl, fun _ => rfl, fun _ _ => rfl, fun _ _ _ => rfl, by
  have : byL (bnewS n f) wh = [] := by unfold byL; rw [List.filter_eq_nil_iff]; intro a _; simp [bnewS]
  rw [this]; rfl, by rw [if_neg (by omega)]; omega⟩
theorem EnoOK.skip (h : EnoOK n f wh k said S) (hw : k = wh) : EnoOK n f wh (k - 1) said S := ⟨h.ok, h.hn, h.hf, h.g, fun x hx => h.a x (by omega), h.o, h.by_, by
  have := h.num
  rw [if_neg (by omega)] at this
  rw [if_pos (by omega)]; omega⟩
theorem EnoOK.acc (h : EnoOK n f wh k said S) (h0 : 0 ≤ k) (hk : k < n) (hw : k ≠ wh) (w0 : 0 ≤ wh) (w1 : wh < n) : accE S k wh = 0 ∧ EnoOK n f wh (k - 1) (said + 1) (accS S k wh) := by
  have e : accE S k wh = 0 := acc_yes (by rw [h.hn]; omega) (by rw [h.hn]; omega) hw (h.a k (by omega))
  have hl := by_acc e
  have hb := h.by_
  refine ⟨e, okb_acc h.ok _ _, by rw [accS_n]; exact h.hn, by rw [accS_f]; exact h.hf, fun x => by rw [accS_g]; exact h.g x, fun x hx => ?_, fun x y hy => ?_, by rw [hl]; omega, ?_⟩
  · rw [accS_a e, h.a x (by omega)]; simp only [Bool.false_or]; exact decide_eq_false (by omega)
  · rw [accS_a e, h.o x y hy]; simp only [Bool.false_or]; exact decide_eq_false (by omega)
  · have := h.num
    split at this <;> split <;> omega
theorem EnoOK.is (h : EnoOK n f wh k (f + 1) S) (w0 : 0 ≤ wh) (w1 : wh < n) : isB S wh = true ∧ (goneL S).length = 1 ∧ atI (goneL S) 0 = wh := by
  have hb := h.by_
  have hi : isB S wh = true := by
    unfold isB
    rw [h.g, h.hf, wk_iff.2 (by rw [h.hn]; omega), decide_eq_true (by omega)]; rfl
  have ho : ∀ x, x ≠ wh → isB S x = false := fun x hx => by
    have : byL S x = [] := by unfold byL; rw [List.filter_eq_nil_iff]; intro a _; rw [h.o a x hx]; simp
    unfold isB
    rw [h.g, this, decide_eq_false (by have := h.ok.f0; simp; omega)]; simp
  have h1 := count_more (rng_nodup n) (mem_rng.2 ⟨w0, w1⟩) (p := fun _ => false) (q := fun k => isB S k) rfl fun k _ => by
    by_cases e : k = wh
    · rw [e, hi]; simp
    · rw [ho k e]; simp [e]
  have h3 : (goneL S).length = ((rngI n).filter fun k => isB S k).length := by unfold goneL; rw [h.hn]
  have h4 : ((rngI n).filter fun _ => false).length = 0 := by rw [List.filter_eq_nil_iff.2 (fun _ _ => by simp)]; rfl
  have hl : (goneL S).length = 1 := by omega
  refine ⟨hi, hl, ?_⟩
  have hm : atI (goneL S) 0 ∈ goneL S := atE_mem (E := encI) (by omega)
  by_cases e : atI (goneL S) 0 = wh
  · exact e
  · have := (mem_gone.1 hm).2
    rw [ho _ e] at this; cases this
end
/-! ### Who was evicted is -/
theorem gone_is {S S' : Bs} {L : List Int} {k : Int} (hL : L = goneL S) (hs : ∀ q, isB S q = true → isB S' q = true) (h0 : 0 ≤ k) (hk : k < (L.length : Int)) : isB S' (atI L k.toNat) = true := by
  subst hL
  exact hs _ (mem_gone.1 (atE_mem (E := encI) (by omega))).2
end Go.Proofs.Ytcnkakahhekobaa
