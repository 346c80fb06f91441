/- Plain mathematics of stamps and paths; no program is named here. -/
import Derived.Below
namespace Go.Proofs.Ytcnkakahhekobaa

/-- A stamp, or a path: two ints. -/
structure St where
  e : Int
  r : Int
deriving DecidableEq
/-- Its parts are ints of 64 bits. -/
def St.I (a : St) : Prop := -9223372036854775808 ≤ a.e ∧ a.e ≤ 9223372036854775807 ∧ -9223372036854775808 ≤ a.r ∧ a.r ≤ 9223372036854775807
def inB (n : Int) : Bool := decide (0 ≤ n ∧ n ≤ 1000000)
def St.rightB (a : St) : Bool := inB a.e && inB a.r
def St.leB (a b : St) : Bool := decide (a.e ≤ b.e ∧ a.r ≤ b.r)
def St.aheadB (a b : St) : Bool := decide (a.e < b.e ∨ a.e = b.e ∧ a.r < b.r)
def St.cmp (a b : St) : Int := if a = b then 0 else if a.aheadB b then -1 else 1
def St.join (a b : St) : St := ⟨max a.e b.e, max a.r b.r⟩
def St.meet (a b : St) : St := ⟨min a.e b.e, min a.r b.r⟩
def St.zero : St := ⟨0, 0⟩
def St.add (a p : St) : St := ⟨a.e + p.e, a.r + p.r⟩
def St.afterB (t p : St) : Bool := t.rightB && p.rightB && (t.add p).rightB
def St.after (t p : St) : St := if t.afterB p then t.add p else St.zero

theorem inB_iff {n : Int} : inB n = true ↔ 0 ≤ n ∧ n ≤ 1000000 := by unfold inB; simp
theorem St.right_iff {a : St} : a.rightB = true ↔ (0 ≤ a.e ∧ a.e ≤ 1000000) ∧ 0 ≤ a.r ∧ a.r ≤ 1000000 := by unfold St.rightB inB; simp
theorem St.le_iff {a b : St} : a.leB b = true ↔ a.e ≤ b.e ∧ a.r ≤ b.r := by unfold St.leB; simp
theorem St.ahead_iff {a b : St} : a.aheadB b = true ↔ a.e < b.e ∨ a.e = b.e ∧ a.r < b.r := by unfold St.aheadB; simp
theorem St.ext' {a b : St} (h1 : a.e = b.e) (h2 : a.r = b.r) : a = b := by cases a; cases b; simp_all
theorem St.eq_iff {a b : St} : a = b ↔ a.e = b.e ∧ a.r = b.r := ⟨fun h => by subst h; exact ⟨rfl, rfl⟩, fun h => St.ext' h.1 h.2⟩
theorem St.le_refl (a : St) : a.leB a = true := by rw [St.le_iff]; omega
theorem St.le_trans {a b c : St} (h1 : a.leB b = true) (h2 : b.leB c = true) : a.leB c = true := by rw [St.le_iff] at *; omega
theorem St.le_antisymm {a b : St} (h1 : a.leB b = true) (h2 : b.leB a = true) : a = b := by rw [St.le_iff] at *; rw [St.eq_iff]; omega
theorem St.cmp_le {a b : St} (h : a.leB b = true) : a.cmp b ≤ 0 := by
  unfold St.cmp
  split
  · omega
  · rename_i hne
    have h' := St.le_iff.1 h
    rw [St.eq_iff] at hne
    rw [if_pos (St.ahead_iff.2 (by omega))]
    omega
theorem after_no {t p : St} (h : t.afterB p = false) : t.after p = St.zero := by unfold St.after; rw [h]; rfl
theorem after_yes {t p : St} (h : t.afterB p = true) : t.after p = t.add p := by unfold St.after; rw [h]; rfl
theorem after_iff {t p : St} : t.afterB p = true ↔ (0 ≤ t.e ∧ t.e ≤ 1000000 ∧ 0 ≤ t.r ∧ t.r ≤ 1000000) ∧ (0 ≤ p.e ∧ p.e ≤ 1000000 ∧ 0 ≤ p.r ∧ p.r ≤ 1000000) ∧ t.e + p.e ≤ 1000000 ∧ t.r + p.r ≤ 1000000 := by
  unfold St.afterB
  simp only [Bool.and_eq_true, St.right_iff, St.add]
  omega
theorem after_t {t p : St} (h : t.afterB p = true) : (0 ≤ t.e ∧ t.e ≤ 1000000 ∧ 0 ≤ t.r ∧ t.r ≤ 1000000) ∧ (0 ≤ p.e ∧ p.e ≤ 1000000 ∧ 0 ≤ p.r ∧ p.r ≤ 1000000) ∧ t.e + p.e ≤ 1000000 ∧ t.r + p.r ≤ 1000000 ∧ (t.after p).e = t.e + p.e ∧ (t.after p).r = t.r + p.r := by
  obtain ⟨h1, h2, h3, h4⟩ := after_iff.1 h
  exact ⟨h1, h2, h3, h4, by rw [after_yes h]; rfl, by rw [after_yes h]; rfl⟩
theorem after_f {t p : St} (h : t.afterB p = false) : ¬ ((0 ≤ t.e ∧ t.e ≤ 1000000 ∧ 0 ≤ t.r ∧ t.r ≤ 1000000) ∧ (0 ≤ p.e ∧ p.e ≤ 1000000 ∧ 0 ≤ p.r ∧ p.r ≤ 1000000) ∧ t.e + p.e ≤ 1000000 ∧ t.r + p.r ≤ 1000000) ∧ (t.after p).e = 0 ∧ (t.after p).r = 0 := by
  rw [after_no h, ← after_iff, h]
  exact ⟨by simp, rfl, rfl⟩
theorem cmp_spec (a b : St) : (a.cmp b = 0 ∧ a.e = b.e ∧ a.r = b.r) ∨ (a.cmp b = -1 ∧ (a.e < b.e ∨ a.e = b.e ∧ a.r < b.r)) ∨ (a.cmp b = 1 ∧ (b.e < a.e ∨ a.e = b.e ∧ b.r < a.r)) := by
  unfold St.cmp St.aheadB
  by_cases h : a = b
  · rw [if_pos h]
    subst h
    omega
  · rw [if_neg h]
    rw [St.eq_iff] at h
    by_cases h2 : a.e < b.e ∨ a.e = b.e ∧ a.r < b.r
    · rw [if_pos (by simpa using h2)]; omega
    · rw [if_neg (by simpa using h2)]; omega
theorem le_t {a b : St} (h : a.leB b = true) : a.e ≤ b.e ∧ a.r ≤ b.r := St.le_iff.1 h
theorem le_f {a b : St} (h : a.leB b = false) : ¬ (a.e ≤ b.e ∧ a.r ≤ b.r) := by rw [← St.le_iff, h]; simp
theorem ahead_t {a b : St} (h : a.aheadB b = true) : a.e < b.e ∨ a.e = b.e ∧ a.r < b.r := St.ahead_iff.1 h
theorem ahead_f {a b : St} (h : a.aheadB b = false) : ¬ (a.e < b.e ∨ a.e = b.e ∧ a.r < b.r) := by rw [← St.ahead_iff, h]; simp
theorem right_t {a : St} (h : a.rightB = true) : 0 ≤ a.e ∧ a.e ≤ 1000000 ∧ 0 ≤ a.r ∧ a.r ≤ 1000000 := by have := St.right_iff.1 h; omega
theorem right_f {a : St} (h : a.rightB = false) : ¬ (0 ≤ a.e ∧ a.e ≤ 1000000 ∧ 0 ≤ a.r ∧ a.r ≤ 1000000) := by
  intro h2
  rw [St.right_iff.2 (by omega)] at h
  cases h
theorem eq_t {a b : St} (h : decide (a = b) = true) : a.e = b.e ∧ a.r = b.r := St.eq_iff.1 (of_decide_eq_true h)
theorem eq_f {a b : St} (h : decide (a = b) = false) : ¬ (a.e = b.e ∧ a.r = b.r) := fun h2 => of_decide_eq_false h (St.eq_iff.2 h2)
theorem in_t {n : Int} (h : inB n = true) : 0 ≤ n ∧ n ≤ 1000000 := inB_iff.1 h
theorem in_f {n : Int} (h : inB n = false) : ¬ (0 ≤ n ∧ n ≤ 1000000) := by rw [← inB_iff, h]; simp
theorem join_spec (a b : St) : (a.join b).e = max a.e b.e ∧ (a.join b).r = max a.r b.r := ⟨rfl, rfl⟩
theorem meet_spec (a b : St) : (a.meet b).e = min a.e b.e ∧ (a.meet b).r = min a.r b.r := ⟨rfl, rfl⟩
def covB (L : List St) (t : St) : Bool := L.any fun s => s.leB t
def beyB (A B : List St) : Bool := A.all fun s => covB B s
theorem all_succ {P : Nat → Prop} {i : Int} (h : ∀ k, k < i.toNat → P k) (h0 : 0 ≤ i) (hi : P i.toNat) : ∀ k, k < (i + 1).toNat → P k := fun k hk => by
  by_cases e : k = i.toNat
  · rw [e]; exact hi
  · exact h k (by omega)
theorem all_none {P : Nat → Prop} : ∀ k, k < (0 : Int).toNat → P k := fun k hk => by simp at hk
end Go.Proofs.Ytcnkakahhekobaa
