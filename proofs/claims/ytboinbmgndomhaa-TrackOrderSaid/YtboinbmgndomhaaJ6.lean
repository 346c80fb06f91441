/- Put together: Kb, Ke, Lk, Rr, Rp, Rg, Rc, Hr, Sp, El, Am, Gr, Sv, Mk, Kt. -/
import Derived.Test.YtboinbmgndomhaaJ5
import Derived.Test.YtboinbmgndomhaaJ4
import Derived.Test.YtboinbmgndomhaaSc
import Derived.Test.YtboinbmgndomhaaJ2
import Derived.Test.YtboinbmgndomhaaJ3
import Derived.Test.YtboinbmgndomhaaGm
import Derived.Test.YtboinbmgndomhaaSw
import Derived.Test.YtboinbmgndomhaaJ1
import Derived.Shelf.GgSortFunc.SmallK
import Derived.Shelf.GgSortFunc.Tiny
import Derived.Laws.MakeOwn
import Derived.Laws.CopyRow
import Derived.ChangeKeysEq
namespace Go.Proofs.Ytboinbmgndomhaa
open Go.RowKit
set_option maxRecDepth 100000
set_option linter.unusedSimpArgs false
set_option linter.unusedVariables false

def SmB (B : Bags) (m : Nat) : Prop := ∀ i, (atK B i).length ≤ m
theorem smB_new (n m : Nat) : SmB (List.replicate n []) m := fun i => by
  unfold atK; rw [List.getD_eq_getElem?_getD, List.getElem?_replicate]; split <;> simp
theorem smB_add {L : List (List (List St))} {B : Bags} {m : Nat} (h : SmB B m) (p : Po) (x : Int) : SmB (addTB L B p x) (m + 1) := fun i => by
  unfold addTB
  split
  · by_cases hb : p.n.toNat < B.length
    · rw [atK_set hb]
      split
      · have := addC_len (atK B p.n.toNat) p.t x; have := h p.n.toNat; omega
      · have := h i; omega
    · rw [List.set_eq_of_length_le (by omega)]; have := h i; omega
  · have := h i; omega
theorem SmB.mono {B : Bags} {m k : Nat} (h : SmB B m) (hk : m ≤ k) : SmB B k := fun i => Nat.le_trans (h i) hk
/-- A closure that is small. -/
def Sm64 (L : List (List (List St))) : Prop := L.length ≤ 8 ∧ ∀ i j, (atR (at3 L i) j).length ≤ 64
theorem places_64 {L : List (List (List St))} {p : Po} {k : Int} (h : Sm64 L) : (placesC L p k).length ≤ 64 := by
  unfold placesC
  split
  · refine Nat.le_trans (minL_len _) (Nat.le_trans (sums_len _ _) ?_)
    have := h.2 p.n.toNat k.toNat
    simp only [List.length_singleton]; omega
  · simp
theorem sm64_clo (n : Int) (E : List Ed) : Sm64 (cloG n E).1 := by
  rcases clo_cases n E with ⟨h, _⟩ | ⟨h, hc, hl⟩
  · rw [h]; exact ⟨by simp, fun i j => by simp [at3, atR]⟩
  · rw [hc]
    refine ⟨by simp only [cloT_len]; omega, fun i j => ?_⟩
    rcases Nat.lt_or_ge i n.toNat with hi | hi
    · rw [cloT_at hi]; exact hl i hi j
    · rw [at3_out (by rw [cloT_len]; exact hi)]; simp [atR]
theorem flat_le {α β : Type} {f : α → List β} {l : List α} {c : Nat} (h : ∀ a ∈ l, (f a).length ≤ c) : (l.flatMap f).length ≤ l.length * c := by
  induction l with
  | nil => simp
  | cons a r ih =>
    have h1 := h a (by simp)
    have h2 := ih fun b hb => h b (by simp [hb])
    rw [List.flatMap_cons, List.length_append, List.length_cons, Nat.add_mul]; omega
section
variable {L : List (List (List St))} {B : Bags} {k : Int}
theorem all_len3 (hs : Sm64 L) (hl : B.length ≤ 8) (hb : SmB B 1000) : (allPl L B k).length ≤ 600000 := by
  have h3 : (allPl L B k).length ≤ (List.range B.length).length * (1000 * 64) := by
    unfold allPl
    refine flat_le fun j _ => ?_
    unfold nodePl
    exact Nat.le_trans (flat_le fun t _ => places_64 hs) (Nat.mul_le_mul_right _ (Nat.le_trans (posL_len _) (hb j)))
  rw [List.length_range] at h3
  have h5 : B.length * (1000 * 64) ≤ 8 * (1000 * 64) := Nat.mul_le_mul_right _ hl
  omega
theorem front_len (hs : Sm64 L) (hl : B.length ≤ 8) (hb : SmB B 1000) : (frontT L B k).length ≤ 600000 := Nat.le_trans (minL_len _) (all_len3 hs hl hb)
end
end Go.Proofs.Ytboinbmgndomhaa
namespace Go.Proofs.Ytboinbmgndomhaa
open Go.RowKit
set_option maxRecDepth 100000
set_option linter.unusedSimpArgs false
set_option linter.unusedVariables false

abbrev Ad := Po × Int
def encA : Enc Ad := ⟨4, fun a => [.int .i64 a.1.n, .int .i64 a.1.t.e, .int .i64 a.1.t.r, .int .i64 a.2], (⟨0, St.zero⟩, 0), fun _ => rfl, fun a v h => by
  simp only [List.mem_cons, List.not_mem_nil, or_false] at h
  rcases h with rfl | rfl | rfl | rfl <;> rfl⟩
def cA (L : List Ad) : List Value := cE encA L
def atA (L : List Ad) (i : Nat) : Ad := atE encA L i
theorem cA_at {L : List Ad} {i : Nat} (h : i < L.length) : ((cA L).drop (i * 4)).take 4 = [.int .i64 (atA L i).1.n, .int .i64 (atA L i).1.t.e, .int .i64 (atA L i).1.t.r, .int .i64 (atA L i).2] := cE_at (E := encA) h
theorem cA_app (L K : List Ad) : cA (L ++ K) = cA L ++ cA K := cE_app L K
theorem cA_ones (L : List Ad) : ∀ z ∈ cA L, z.oneCell' = true := cE_ones L
abbrev RdA (w : World) (v : Value) (L : List Ad) : Prop := RdV w 4 v L.length (cA L)
def encQ : Enc Po := ⟨3, fun p => [.int .i64 p.n, .int .i64 p.t.e, .int .i64 p.t.r], ⟨0, St.zero⟩, fun _ => rfl, fun a v h => by
  simp only [List.mem_cons, List.not_mem_nil, or_false] at h
  rcases h with rfl | rfl | rfl <;> rfl⟩
def cQ (L : List Po) : List Value := cE encQ L
def atQ (L : List Po) (i : Nat) : Po := atE encQ L i
theorem cQ_at {L : List Po} {i : Nat} (h : i < L.length) : ((cQ L).drop (i * 3)).take 3 = [.int .i64 (atQ L i).n, .int .i64 (atQ L i).t.e, .int .i64 (atQ L i).t.r] := cE_at (E := encQ) h
theorem cQ_app (L K : List Po) : cQ (L ++ K) = cQ L ++ cQ K := cE_app L K
theorem cQ_ones (L : List Po) : ∀ z ∈ cQ L, z.oneCell' = true := cE_ones L
theorem atQ_eq {L : List Po} {i : Nat} (h : i < L.length) : atQ L i = L[i] := atE_eq (E := encQ) h
theorem atA_eq {L : List Ad} {i : Nat} (h : i < L.length) : atA L i = L[i] := atE_eq (E := encA) h
/-! ### Parts of slices, by encodings -/
section
variable {α : Type} {E : Enc α} {w : World} {v : Value} {n k : Nat} {L : List α}
theorem drop_rvE (h : RdV w E.m v n (cE E L)) (hz : L.length = n) (hk : k ≤ n) : RdV w E.m (subS E.m k n v) (n - k) (cE E (L.drop k)) := by
  have := sub_rdv h hk (Nat.le_refl n)
  rw [cE_drop, show (n - k) * E.m = (L.drop k).length * E.m by rw [List.length_drop, hz], cE_take, List.take_length] at this
  exact this
theorem take_rvE (h : RdV w E.m v n (cE E L)) (_hz : L.length = n) (hk : k ≤ n) : RdV w E.m (subS E.m 0 k v) k (cE E (L.take k)) := by
  have := sub_rdv h (Nat.zero_le k) hk
  rw [Nat.zero_mul, List.drop_zero, Nat.sub_zero, cE_take] at this
  exact this
end
theorem drop_rvQ {w : World} {v : Value} {n k : Nat} {L : List Po} (h : RdV w 3 v n (cQ L)) (hz : L.length = n) (hk : k ≤ n) : RdV w 3 (subS 3 k n v) (n - k) (cQ (L.drop k)) := drop_rvE (E := encQ) h hz hk
theorem take_rvQ {w : World} {v : Value} {n k : Nat} {L : List Po} (h : RdV w 3 v n (cQ L)) (hz : L.length = n) (hk : k ≤ n) : RdV w 3 (subS 3 0 k v) k (cQ (L.take k)) := take_rvE (E := encQ) h hz hk
theorem drop_rvA {w : World} {v : Value} {n k : Nat} {L : List Ad} (h : RdV w 4 v n (cA L)) (hz : L.length = n) (hk : k ≤ n) : RdV w 4 (subS 4 k n v) (n - k) (cA (L.drop k)) := drop_rvE (E := encA) h hz hk
theorem take_rvA {w : World} {v : Value} {n k : Nat} {L : List Ad} (h : RdV w 4 v n (cA L)) (hz : L.length = n) (hk : k ≤ n) : RdV w 4 (subS 4 0 k v) k (cA (L.take k)) := take_rvE (E := encA) h hz hk
theorem atT_len {B : Bags} {m : Nat} {k : Int} (h : SmB B m) : (atT B k).length ≤ m := by
  unfold atT; split
  · exact h _
  · simp
theorem front_out {L : List (List (List St))} {B : Bags} {k : Int} (h : ¬ (0 ≤ k ∧ k < (L.length : Int))) : frontT L B k = [] := by
  have : allPl L B k = [] := by
    unfold allPl nodePl
    rw [List.flatMap_eq_nil_iff]
    intro i _
    rw [List.flatMap_eq_nil_iff]
    intro t _
    exact pl_no (.inr h)
  unfold frontT; rw [this]; rfl
theorem clo_len {n : Int} {E : List Ed} (h : (cloG n E).2 = 0) : ((cloG n E).1).length = n.toNat ∧ 1 ≤ n ∧ n ≤ 8 := by
  obtain ⟨⟨h1, h8, _⟩, hc, _⟩ := (clo_cases n E).resolve_left fun z => z.2 h
  rw [hc]; exact ⟨cloT_len _ _ _, h1, h8⟩
/-! ### What could come, step by step -/
def exC (L : List (List (List St))) (B : Bags) (p : Po) (i j : Nat) : Prop := (∃ m, m < i ∧ ∃ t ∈ posL (atK B m), couldC L ⟨(m : Int), t⟩ p = true) ∨ ∃ t ∈ posL ((atK B i).take j), couldC L ⟨(i : Int), t⟩ p = true
section
variable {L : List (List (List St))} {B : Bags} {p : Po}
theorem exC_zero : (false = true) ↔ exC L B p (0 : Int).toNat (0 : Int).toNat := by simp [exC, posL]
theorem exC_yes {i j : Int} (h0 : 0 ≤ j) (h : j < ((atK B i.toNat).length : Int)) (hi : 0 ≤ i) (hp : 0 < (atC (atK B i.toNat) j.toNat).2) : exC L B p i.toNat (j + 1).toNat ↔ exC L B p i.toNat j.toNat ∨ couldC L ⟨i, (atC (atK B i.toNat) j.toNat).1⟩ p = true := by
  unfold exC
  rw [pos_yes h0 h hp, show ((i.toNat : Nat) : Int) = i by omega]
  simp only [List.mem_append, List.mem_singleton]
  constructor
  · rintro (h1 | ⟨t, h1 | rfl, h2⟩)
    · exact .inl (.inl h1)
    · exact .inl (.inr ⟨t, h1, h2⟩)
    · exact .inr h2
  · rintro ((h1 | ⟨t, h1, h2⟩) | h2)
    · exact .inl h1
    · exact .inr ⟨t, .inl h1, h2⟩
    · exact .inr ⟨_, .inr rfl, h2⟩
theorem exC_no {i j : Int} (h0 : 0 ≤ j) (h : j < ((atK B i.toNat).length : Int)) (hp : ¬ 0 < (atC (atK B i.toNat) j.toNat).2) : exC L B p i.toNat (j + 1).toNat ↔ exC L B p i.toNat j.toNat := by
  unfold exC; rw [pos_no h0 h hp]
theorem exC_next {i j : Int} (h0 : 0 ≤ i) (h : ¬ j < ((atK B i.toNat).length : Int)) : exC L B p i.toNat j.toNat ↔ exC L B p (i + 1).toNat (0 : Int).toNat := by
  unfold exC
  rw [List.take_of_length_le (by omega), show (i + 1).toNat = i.toNat + 1 by omega]
  simp only [Int.toNat_zero, List.take_zero]
  constructor
  · rintro (⟨m, h1, h2⟩ | h2)
    · exact .inl ⟨m, by omega, h2⟩
    · exact .inl ⟨i.toNat, by omega, h2⟩
  · rintro (⟨m, h1, h2⟩ | ⟨t, h2, _⟩)
    · by_cases e : m = i.toNat
      · subst e; exact .inr h2
      · exact .inl ⟨m, by omega, h2⟩
    · simp [posL] at h2
theorem ex_step {k j : Int} {db nb : Bool} (hk : atT B k = atK B k.toNat) (h0 : 0 ≤ j) (h : j < ((atT B k).length : Int)) (hi : 0 ≤ k) (hd : db = true ↔ exC L B p k.toNat j.toNat) (hn : nb = (db || (decide (0 < (atC (atT B k) j.toNat).2) && couldC L ⟨k, (atC (atT B k) j.toNat).1⟩ p))) : nb = true ↔ exC L B p k.toNat (j + 1).toNat := by
  rw [hk] at h hn
  by_cases hp : 0 < (atC (atK B k.toNat) j.toNat).2
  · rw [exC_yes h0 h hi hp, ← hd, hn, decide_eq_true hp, Bool.true_and, Bool.or_eq_true]
  · rw [exC_no h0 h hp, ← hd, hn, decide_eq_false hp, Bool.false_and, Bool.or_false]
theorem exC_end {i : Int} {cb : Bool} (hi : i = (B.length : Int)) (h : cb = true ↔ exC L B p i.toNat (0 : Int).toNat) : passedT L B p = (rightC L p && !cb) := by
  cases hr : rightC L p with
  | false => rw [passed_no hr]; rfl
  | true =>
    have z := passed_iff (B := B) hr
    have e : exC L B p i.toNat (0 : Int).toNat ↔ ∃ i, i < B.length ∧ ∃ s ∈ posL (atK B i), couldC L ⟨(i : Int), s⟩ p = true := by
      unfold exC
      rw [show i.toNat = B.length by omega]
      simp [posL]
    rw [e, ← z] at h
    rw [Bool.true_and]
    cases cb <;> cases hq : passedT L B p <;> simp_all
end
/-! ### One point alone -/
section
variable {L : List (List (List St))} {n : Nat} {p : Po} {x k : Int}
theorem one_of (hL : L.length = n) (hr : rightC L p = true) (h1 : 1 ≤ x) (h2 : x ≤ 1000) : addTE L (List.replicate n []) p x = 0 ∧ ∀ q : Po, 0 ≤ q.n ∧ q.n < (n : Int) → ofT (addTB L (List.replicate n []) p x) q = if q = p then x else 0 := by
  have h0 : addTE L (List.replicate n []) p x = 0 := addT_iff.2 ⟨hr, by rw [new_of]; omega⟩
  refine ⟨h0, fun q hq => ?_⟩
  rw [of_addT (by simp [hL]) (ok_new n) (by simpa using hq), new_of, new_of]
  by_cases e : q = p
  · rw [if_pos ⟨e, h0⟩, if_pos e]; omega
  · rw [if_neg (fun z => e z.1), if_neg e]
theorem frontT_one (hL : L.length = n) (h1 : 1 ≤ x) (h2 : x ≤ 1000) : frontT L (addTB L (List.replicate n []) p x) k = placesC L p k := by
  cases hr : rightC L p with
  | false =>
    rw [(addT_no hr).2, pl_no (.inl hr)]
    exact front_nil fun i hi => by
      rw [atK_eq hi, List.getElem_replicate]; rfl
  | true =>
    have ho := one_of hL hr h1 h2
    have hok := ok_add (L := L) (ok_new n) p x
    have hp := (rightC_at hr).2.1
    have hlen : (addTB L (List.replicate n []) p x).length = n := by rw [addT_len]; simp
    have hpos : ∀ i, i < n → posL (atK (addTB L (List.replicate n []) p x) i) = if (i : Int) = p.n then [p.t] else [] := fun i hi => by
      have hb := hok i (by rw [hlen]; exact hi)
      have hof : ∀ t, ofC (atK (addTB L (List.replicate n []) p x) i) t = if (⟨(i : Int), t⟩ : Po) = p then x else 0 := fun t => by
        have := ho.2 ⟨(i : Int), t⟩ ⟨by simp, by simp; omega⟩
        simpa [ofT] using this
      have hmem : ∀ t, t ∈ posL (atK (addTB L (List.replicate n []) p x) i) ↔ (i : Int) = p.n ∧ t = p.t := fun t => by
        rw [mem_pos hb, hof]
        cases p
        simp only [Po.mk.injEq]
        split
        · rename_i h; exact ⟨fun _ => h, fun _ => by omega⟩
        · rename_i h; exact ⟨fun z => by omega, fun z => absurd z h⟩
      have hnd : (posL (atK (addTB L (List.replicate n []) p x) i)).Nodup := by
        unfold posL
        have hpw : ((atK (addTB L (List.replicate n []) p x) i).map (·.1)).Nodup := by
          show List.Pairwise _ _
          rw [List.pairwise_map]; exact hb.asc.nodup
        exact hpw.sublist (List.Sublist.map _ List.filter_sublist)
      split
      · rename_i e
        have h3 : ∀ t ∈ posL (atK (addTB L (List.replicate n []) p x) i), t = p.t := fun t ht => ((hmem t).1 ht).2
        have h4 : p.t ∈ posL (atK (addTB L (List.replicate n []) p x) i) := (hmem _).2 ⟨e, rfl⟩
        match hq : posL (atK (addTB L (List.replicate n []) p x) i), h3, h4, hnd with
        | [], _, h4, _ => cases h4
        | [a], h3, _, _ => rw [h3 a (by simp)]
        | a :: b :: r, h3, _, hnd =>
          have ha := h3 a (by simp)
          have hb' := h3 b (by simp)
          rw [ha, hb'] at hnd
          simp at hnd
      · rename_i e
        rw [List.eq_nil_iff_forall_not_mem]
        exact fun t ht => e ((hmem t).1 ht).1
    have hall : allPl L (addTB L (List.replicate n []) p x) k = placesC L p k := by
      unfold allPl nodePl
      rw [hlen]
      have : ∀ m, m ≤ n → (List.range m).flatMap (fun i => (posL (atK (addTB L (List.replicate n []) p x) i)).flatMap fun t => placesC L ⟨(i : Int), t⟩ k) = if p.n < (m : Int) then placesC L p k else [] := by
        intro m
        induction m with
        | zero => intro _; rw [if_neg (by omega)]; rfl
        | succ m ih =>
          intro hm
          rw [List.range_succ, List.flatMap_append, ih (by omega)]
          simp only [List.flatMap_cons, List.flatMap_nil, List.append_nil]
          rw [hpos m (by omega)]
          by_cases e : (m : Int) = p.n
          · rw [if_pos e, if_neg (by omega), if_pos (by omega)]
            simp only [List.nil_append, List.flatMap_cons, List.flatMap_nil, List.append_nil]
            rw [e]
          · rw [if_neg e]
            by_cases e2 : p.n < (m : Int)
            · rw [if_pos e2, if_pos (by omega)]; simp
            · rw [if_neg e2, if_neg (by omega)]; simp
      rw [this n (Nat.le_refl _), if_pos (by omega)]
    unfold frontT
    rw [hall]
    unfold placesC
    split
    · exact min_min _
    · rfl
theorem front_off (hL : L.length = n) (h1 : 1 ≤ x) (h2 : x ≤ 1000) : addTE L (List.replicate n []) p x = addTE L (addTB L (List.replicate n []) p x) p (-2 * x) ∧ frontT L (addTB L (addTB L (List.replicate n []) p x) p (-2 * x)) k = [] := by
  have hlen : (addTB L (List.replicate n []) p x).length = n := by rw [addT_len]; simp
  cases hr : rightC L p with
  | false =>
    rw [(addT_no hr).1, (addT_no hr).1, (addT_no hr).2, (addT_no hr).2]
    exact ⟨rfl, front_nil fun i hi => by rw [atK_eq hi, List.getElem_replicate]; rfl⟩
  | true =>
    have ho := one_of hL hr h1 h2
    have hok := ok_add (L := L) (ok_new n) p x
    have hp := (rightC_at hr).2.1
    have h3 : addTE L (addTB L (List.replicate n []) p x) p (-2 * x) = 0 := addT_iff.2 ⟨hr, by rw [ho.2 p (by omega), if_pos rfl]; omega⟩
    refine ⟨by rw [ho.1, h3], front_nil fun i hi => ?_⟩
    rw [addT_len, hlen] at hi
    rw [List.eq_nil_iff_forall_not_mem]
    intro t ht
    have hb := ok_add (L := L) hok p (-2 * x) i (by rw [addT_len, hlen]; exact hi)
    have h4 := (mem_pos hb).1 ht
    have h5 := of_addT (q := ⟨(i : Int), t⟩) (p := p) (x := -2 * x) (L := L) (B := addTB L (List.replicate n []) p x) (by rw [hlen, hL]) hok (by rw [hlen]; exact ⟨by simp, by simp; omega⟩)
    have h6 : ofT (addTB L (addTB L (List.replicate n []) p x) p (-2 * x)) ⟨(i : Int), t⟩ = ofC (atK (addTB L (addTB L (List.replicate n []) p x) p (-2 * x)) i) t := by simp [ofT]
    rw [h6, ho.2 p (by omega), ho.2 ⟨(i : Int), t⟩ ⟨by simp, by simp; omega⟩, if_pos rfl] at h5
    by_cases e : (⟨(i : Int), t⟩ : Po) = p
    · rw [if_pos ⟨e, h3⟩] at h5; omega
    · rw [if_neg (fun z => e z.1), if_neg e] at h5; omega
end
/-! ### What is there goes on, and is taken off -/
section
variable {n : Int} {E : List Ed} {B : Bags} {T U : List Po} {p q r : Po} {L : List (List (List St))}
theorem stay1 (hz : (cloG n E).2 = 0) (h : RepT (cloG n E).1 B T) (hr : r ∈ T) (hc : couldC (cloG n E).1 r q = true) (hn : passedT (cloG n E).1 (addTB (cloG n E).1 B q 1) p = false) : passedT (cloG n E).1 B p = false := by
  cases hp : rightC (cloG n E).1 p with
  | false => exact passed_no hp
  | true =>
    have hi := (h.inn hr).2
    have hok := h.ok
    have hlen := h.len
    obtain ⟨⟨h1, h8, hE, hfit, _⟩, hcl, _⟩ := (clo_cases n E).resolve_left fun z => z.2 hz
    have e : (cloG n E).1 = cloT E n.toNat n.toNat := by rw [hcl]
    rw [e] at hc hn hlen hp ⊢
    have hF : Fits ((n.toNat : Nat) : Int) E := by rw [show ((n.toNat : Nat) : Int) = n by omega]; exact hfit
    exact stays_add hF (by omega) (by omega) (by rw [hlen]; exact cloT_len _ _ _) hok hi hc hp hn
theorem stay2 (h : RepT L B T) (hn : passedT L (addTB L B r (-1)) p = false) : passedT L B p = false := by
  cases hp : rightC L p with
  | false => exact passed_no hp
  | true => exact stays_off h.len.symm h.ok (by omega) hp hn
theorem RepT.one {m : Nat} (hL : L.length = m) (hr : rightC L r = true) : RepT L (addTB L (List.replicate m []) r 1) [r] := by
  have h0 : RepT L (List.replicate m []) [] := RepT.start (by simp [hL]) (ok_new m) fun q _ => new_of
  exact h0.add hr (by simp)
theorem first_right (hz : (cloG n E).2 = 0) : rightC (cloG n E).1 ⟨0, ⟨1, 1⟩⟩ = true := by
  obtain ⟨⟨h1, h8, _⟩, hcl, _⟩ := (clo_cases n E).resolve_left fun z => z.2 hz
  rw [hcl]
  exact (rightC_clo (n := n.toNat) (by omega) (by omega)).2 ⟨by simp only; omega, by decide⟩
theorem RepT.cutAt {k : Int} (h : RepT L B T) (h0 : 0 ≤ k) (hk : k < (T.length : Int)) (hl : T.length < 1000) : RepT L (addTB L B (atQ T k.toNat) (-1)) (T.take k.toNat ++ T.drop (k + 1).toNat) := by
  have z := h.off (k := k.toNat) (by omega) hl
  rw [← atQ_eq] at z
  rwa [show (k + 1).toNat = k.toNat + 1 by omega]
theorem atQ_mem {k : Int} (h0 : 0 ≤ k) (hk : k < (T.length : Int)) : atQ T k.toNat ∈ T := atE_mem (E := encQ) (by omega)
theorem RepT.pop {j : Int} (h : RepT L B (U.drop j.toNat)) (h0 : 0 ≤ j) (hj : j < (U.length : Int)) (hl : U.length < 1000) : RepT L (addTB L B (atQ U j.toNat) (-1)) (U.drop (j + 1).toNat) := by
  have hd : 0 < (U.drop j.toNat).length := by rw [List.length_drop]; omega
  have z := h.off (k := 0) hd (by rw [List.length_drop]; omega)
  rw [List.getElem_drop, List.take_zero, List.nil_append, List.drop_drop] at z
  rw [atQ_eq (by omega), show (j + 1).toNat = j.toNat + (0 + 1) by omega]
  simpa using z
theorem RepT.over {j : Int} (h : RepT L B (U.drop j.toNat)) (hj : ¬ j < (U.length : Int)) : passedT L B p = rightC L p ∧ ∀ k, (frontT L B k).length = 0 := by
  rw [List.drop_eq_nil_of_le (by omega)] at h
  exact ⟨passed_nil h.none, fun k => by rw [front_nil h.none]; rfl⟩
end
/-! ### Turned lists -/
def rotG {α : Type} (l : List α) (k : Nat) : List α := l.drop k ++ l.take k
theorem rotG_perm {α : Type} (l : List α) (k : Nat) : (rotG l k).Perm l := by
  unfold rotG
  exact List.perm_append_comm.trans (by rw [List.take_append_drop])
theorem rotG_len {α : Type} (l : List α) (k : Nat) : (rotG l k).length = l.length := (rotG_perm l k).length_eq
theorem rotA_at {l : List Ad} {i k : Int} (h0 : 0 ≤ i) (h : i < (l.length : Int)) (k0 : 0 ≤ k) (hk : k < (l.length : Int)) : atA (rotG l k.toNat) i.toNat = atA l ((i + k) % (l.length : Int)).toNat := by
  have hm : (i + k) % (l.length : Int) = if i + k < (l.length : Int) then i + k else i + k - l.length := by
    split
    · exact Int.emod_eq_of_lt (by omega) (by omega)
    · rw [← Int.sub_emod_right]; exact Int.emod_eq_of_lt (by omega) (by omega)
  rw [atA_eq (by rw [rotG_len]; omega)]
  simp only [rotG]
  rw [hm]
  split
  · rw [atA_eq (by omega), List.getElem_append_left (by rw [List.length_drop]; omega), List.getElem_drop]
    congr 1; omega
  · rw [atA_eq (by omega), List.getElem_append_right (by rw [List.length_drop]; omega), List.getElem_take]
    congr 1; rw [List.length_drop]; omega
theorem takeA_snoc {l : List Ad} {i : Int} (h0 : 0 ≤ i) (h : i < (l.length : Int)) : l.take (i + 1).toNat = l.take i.toNat ++ [atA l i.toNat] := take_snocE (E := encA) h0 h
theorem foldA_step {L : List (List (List St))} {B : Bags} {l : List Ad} {i : Int} (h0 : 0 ≤ i) (h : i < (l.length : Int)) : addTB L (foldT L B (l.take i.toNat)) (atA l i.toNat).1 (atA l i.toNat).2 = foldT L B (l.take (i + 1).toNat) := by
  rw [takeA_snoc h0 h, tfold_snoc]
theorem foldR_step {L : List (List (List St))} {B : Bags} {l : List Ad} {i k j : Int} (h0 : 0 ≤ i) (h : i < (l.length : Int)) (k0 : 0 ≤ k) (hk : k < (l.length : Int)) (hj : j = (i + k) % (l.length : Int)) : addTB L (foldT L B ((rotG l k.toNat).take i.toNat)) (atA l j.toNat).1 (atA l j.toNat).2 = foldT L B ((rotG l k.toNat).take (i + 1).toNat) := by
  rw [hj, ← rotA_at h0 h k0 hk]
  exact foldA_step h0 (by rw [rotG_len]; exact h)
theorem foldSm {L : List (List (List St))} {B : Bags} {m : Nat} (hB : SmB B m) : ∀ (l : List Ad), SmB (foldT L B l) (m + l.length) := by
  intro l
  unfold foldT
  induction l generalizing B m with
  | nil => exact hB
  | cons c r ih => rw [List.foldl_cons]; exact (ih (smB_add hB c.1 c.2)).mono (by simp only [List.length_cons]; omega)
theorem order_end {L : List (List (List St))} {n : Nat} {l : List Ad} {i k : Int} (hL : L.length = n) (hl : l.length ≤ 40) (hb : ∀ q, q < i.toNat → -1000000 ≤ (atA l q).2 ∧ (atA l q).2 ≤ 1000000) (hi : ¬ i < (l.length : Int)) : foldT L (List.replicate n []) ((rotG l k.toNat).take i.toNat) = foldT L (List.replicate n []) (l.take i.toNat) := by
  rw [List.take_of_length_le (by rw [rotG_len]; omega), List.take_of_length_le (by omega)]
  refine tfold_perm (by simp [hL]) (ok_new n) (by rw [rotG_len]; omega) (fun c hc => ?_) (fun q hq => new_of) (rotG_perm l _)
  have hc' := (rotG_perm l _).mem_iff.1 hc
  obtain ⟨q, hq, rfl⟩ := List.mem_iff_getElem.1 hc'
  have := hb q (by omega)
  rwa [atA_eq hq] at this
end Go.Proofs.Ytboinbmgndomhaa
namespace Go.Proofs.Ytboinbmgndomhaa
open Go.ChangeShapes Go.WideShapes Go.ChangeAt Go.RowKit Go.Joins Go.Deep
set_option maxRecDepth 100000
set_option linter.unusedSimpArgs false
set_option linter.unusedVariables false

theorem opensAd : Opens Try.prog 36 encA.f (fun a : Ad => a.1.I ∧ (-9223372036854775808 ≤ a.2 ∧ a.2 ≤ 9223372036854775807)) := by
  intro H enc W base sp held fuel cs x hx
  obtain ⟨p, hp, hI⟩ := opens_struct2 (m0 := 3) (m1 := 1) Try.underlying36 opensPo (opens_int Try.underlying3) (by kernel_rfl) hx
  exact ⟨p, hp, hI⟩
section
variable {H : Type} {enc : TypeId × Value → H} {W : World}
theorem openAL {v : Value} {d : DataW H} {ps : List MemPlace} {base : Nat} (hval : Value.okWide Try.prog W .any base 25 v) (h : DataW.Trod enc Try.prog W 0 (fun _ => true) true 25 v d ps) :
    ∃ l : List Ad, RdA W v l ∧ ∀ i, i < l.length → -9223372036854775808 ≤ (atA l i).2 ∧ (atA l i).2 ≤ 9223372036854775807 := by
  obtain ⟨l, hl, hI⟩ := openE encA Try.underlying25 (by kernel_rfl) (by decide) opensAd hval h
  exact ⟨l, hl, fun i hi => (hI _ (atE_mem (E := encA) hi)).2⟩
end
theorem rdAL : Try.prog.readableRec 25 = true ∧ 25 < Try.prog.types.size := ⟨by kernel_rfl, of_decide_eq_true (by kernel_rfl)⟩
end Go.Proofs.Ytboinbmgndomhaa
namespace Go.Proofs.Ytboinbmgndomhaa
open Go.RowKit
set_option maxRecDepth 100000
set_option linter.unusedSimpArgs false
set_option linter.unusedVariables false

set_option maxHeartbeats 1000000 in
theorem rsame_any (K L : List St) (u v : Value) (w : World) (hk : RdS w u K) (hr : RdS w v L) (hlk : K.length ≤ 20000000) (_hlen : L.length ≤ 20000000) :
    Calls Try.prog 9 #[u, v] w fun e w' => e = .returned (.bool (decide (K = L))) ∧ Below w.heap.size w w' := by
  refine enterF Try.func9 rfl 26 Try.ntmps9 [u, v] rfl [(0, u), (1, v)] rfl ?_; intro φ F; have M := Mm.start [] w; replace M := M.addArg (hr) (fun h_ => by first | (simp; done) | assumption | exact d3 h_ | (simp_all; done)); replace M := M.addArg (hk) (fun h_ => by first | (simp; done) | assumption | exact d3 h_ | (simp_all; done)); revert φ; refine srG ?_; refine asG ?_; intro φ F; refine nx ?_; refine wp_seq ?_; revert φ; refine srG ?_; refine mvG ?_; refine puG (fun _ F => pu_len rfl (F.ev rfl) sl39 (M.av (i := 0) rfl)) ?_; refine mvG ?_; refine puG (fun _ F => pu_len rfl (F.ev rfl) sl39 (M.av (i := 1) rfl)) ?_; intro φ F; cases hs1 : (decide (((K.length : Nat) : Int) = ((L.length : Nat) : Int)))
  · have hs1i := of_decide_eq_false hs1; revert φ; refine puG (fun _ F => pu_neqI rfl (F.ev rfl) (F.ev rfl)) ?_; intro φ F; rw [hs1, show (!false) = true from rfl] at F; refine nx ?_; refine wp_cond_true (F.ev rfl) ?_; revert φ; refine srG ?_; refine asG ?_; intro φ F; refine nx ?_; refine wp_ret ?_; refine nxr ?_; refine rt_tmp F rfl rfl ?_; refine ⟨?_, M.bel⟩; rw [decide_eq_false (fun e => hs1i (by rw [e]))]
  · have hs1i := of_decide_eq_true hs1; revert φ; refine puG (fun _ F => pu_neqI rfl (F.ev rfl) (F.ev rfl)) ?_; intro φ F; rw [hs1, show (!true) = false from rfl] at F; refine nx ?_; refine wp_cond_false (F.ev rfl) ?_; refine wp_skip ?_; refine nxq ?_; refine wp_seq ?_; revert φ; refine srG ?_; refine asG ?_; intro φ F; refine nx ?_; refine wp_block ?_; refine lp (σ := Int) (fun i φ' w' => Fr φ' 26 [(0, u), (1, v), (6, u), (7, .int .i64 ((K.length : Nat) : Int)), (8, v), (9, .int .i64 ((L.length : Nat) : Int)), (10, .bool false), (5, .int .i64 i)] ∧ Mm [] w w' [.arg 2 u K.length (cS K), .arg 2 v L.length (cS L)] ∧ (0 ≤ i) ∧ (i ≤ (K.length : Int)) ∧ (∀ k, k < i.toNat → atS K k = atS L k)) (fun i => ((K.length : Int) - i).toNat) (0) ⟨F.sel [0, 1, 6, 7, 8, 9, 10, 5] rfl, M, Int.le_refl _, by omega, all_none⟩ ?_; clear F M; rintro i φ ω ⟨F, M, hp2_0, hp2_1, hp2_2⟩; refine wp_seq ?_; revert φ; refine srG ?_; refine mvG ?_; refine mvG ?_; refine puG (fun _ F => pu_len rfl (F.ev rfl) sl39 (M.av (i := 0) rfl)) ?_; refine lsG ?_; intro φ F; refine nx ?_; cases hs3 : (decide (i < ((K.length : Nat) : Int)))
    · rw [hs3] at F; have hs3i := of_decide_eq_false hs3; refine wp_cond_false (F.ev rfl) ?_; refine wp_exit ?_; refine nxe ?_; refine nxe ?_; refine nxm ?_; refine nxq ?_; revert φ; refine srG ?_; refine asG ?_; intro φ F; refine nx ?_; refine wp_ret ?_; refine rt_tmp F rfl rfl ?_; refine ⟨?_, M.bel⟩; rw [decide_eq_true (ext_at (by omega) hp2_2 hs3i)]
    · rw [hs3] at F; have hs3i := of_decide_eq_true hs3; refine wp_cond_true (F.ev rfl) ?_; refine wp_skip ?_; refine nxq ?_; refine wp_seq ?_; refine wp_block ?_; refine wp_seq ?_; refine rg_quiet M mixedOK (by kernel_rfl) ?_; refine qt_pure F (wt0 rfl) (pu_move rfl (F.ev rfl)) rfl rfl ?_; clear F; intro φ F; refine qt_pure F (wt0 rfl) (pu_move rfl (F.ev rfl)) rfl rfl ?_; clear F; intro φ F; refine qt_pure F (wt0 rfl) (pu_ix rfl (F.ev rfl) (F.ev rfl) sl39 (M.av (i := 0) rfl) (by omega) (by omega)) rfl rfl ?_; clear F; intro φ F; refine qt_rd F (wt0 rfl) (ld_el rfl (F.ev rfl) agg32 (fun _ h => RdV.below (M.av (i := 0) rfl) h) (by omega) (cS_at (by first | omega | (simp; done) | (simp; omega))) rfl) rfl rfl ?_; clear F; intro φ F; refine qt_pure F (wt0 rfl) (pu_move rfl (F.ev rfl)) rfl rfl ?_; clear F; intro φ F; refine qt_pure F (wt0 rfl) (pu_move rfl (F.ev rfl)) rfl rfl ?_; clear F; intro φ F; refine qt_pure F (wt0 rfl) (pu_ix rfl (F.ev rfl) (F.ev rfl) sl39 (M.av (i := 1) rfl) (by omega) (by omega)) rfl rfl ?_; clear F; intro φ F; refine qt_rd F (wt0 rfl) (ld_el rfl (F.ev rfl) agg32 (fun _ h => RdV.below (M.av (i := 1) rfl) h) (by omega) (cS_at (by first | omega | (simp; done) | (simp; omega))) rfl) rfl rfl ?_; clear F; intro φ F; cases hs4 : (decide ((atS K i.toNat) = (atS L i.toNat)))
      · have hs4i := of_decide_eq_false hs4; refine qt_pure F (wt0 rfl) (pu_neqA rfl (F.ev rfl) (F.ev rfl) eqg32 (fun w => eqS32 (atS K i.toNat) (atS L i.toNat) w)) rfl rfl ?_; clear F; intro φ F; rw [hs4, show (!false) = true from rfl] at F; refine wpQuiet_nil ?_; clear M; intro ω M; refine nxq ?_; refine wp_cond_true (F.ev rfl) ?_; revert φ; refine srG ?_; refine asG ?_; intro φ F; refine nx ?_; refine wp_ret ?_; refine nxrb ?_; refine nxr ?_; refine nxr ?_; refine nxrb ?_; refine nxr ?_; refine rt_tmp F rfl rfl ?_; refine ⟨?_, M.bel⟩; rw [decide_eq_false (fun e => hs4i (by rw [e]))]
      · have hs4i := of_decide_eq_true hs4; refine qt_pure F (wt0 rfl) (pu_neqA rfl (F.ev rfl) (F.ev rfl) eqg32 (fun w => eqS32 (atS K i.toNat) (atS L i.toNat) w)) rfl rfl ?_; clear F; intro φ F; rw [hs4, show (!true) = false from rfl] at F; refine wpQuiet_nil ?_; clear M; intro ω M; refine nxq ?_; refine wp_cond_false (F.ev rfl) ?_; refine wp_skip ?_; refine nxb ?_; refine nxq ?_; revert φ; refine rlG ?_; refine mvG ?_; refine adG ?_; refine asG ?_; intro φ F; refine wpList_nil ?_; exact ⟨i + 1, by omega, F.sel [0, 1, 6, 7, 8, 9, 10, 5] rfl, M, by omega, by omega, all_succ hp2_2 hp2_0 (hs4i)⟩

end Go.Proofs.Ytboinbmgndomhaa
namespace Go.Proofs.Ytboinbmgndomhaa
open Go.RowKit
set_option maxRecDepth 100000
set_option linter.unusedSimpArgs false
set_option linter.unusedVariables false

end Go.Proofs.Ytboinbmgndomhaa
namespace Go.Proofs.Ytboinbmgndomhaa
open Go.RowKit
set_option maxRecDepth 100000
set_option linter.unusedSimpArgs false
set_option linter.unusedVariables false

end Go.Proofs.Ytboinbmgndomhaa
namespace Go.Proofs.Ytboinbmgndomhaa
open Go.RowKit
set_option maxRecDepth 100000
set_option linter.unusedSimpArgs false
set_option linter.unusedVariables false

end Go.Proofs.Ytboinbmgndomhaa
namespace Go.Proofs.Ytboinbmgndomhaa
open Go.RowKit
set_option maxRecDepth 100000
set_option linter.unusedSimpArgs false
set_option linter.unusedVariables false

end Go.Proofs.Ytboinbmgndomhaa
namespace Go.Proofs.Ytboinbmgndomhaa
open Go.RowKit Go.Sort
set_option maxRecDepth 100000
set_option linter.unusedSimpArgs false
set_option linter.unusedVariables false

section
variable {α : Type} [Inhabited α] {lt : α → α → Bool} {g : Nat} {lb : Array Value} {sf : Nat} {sb : Array Value} {blk t n : Nat} {W0 : World} {cA : Array α → Array Value}
theorem pdq_all (eg : enters Try.prog g = true) (hL : LessOK Try.prog g lb lt blk t n W0 cA) (hS : SwapOK Try.prog sf sb blk t n cA) (hn : n ≤ 1000000000) (hO : SWO lt)
    (hBP : ∀ (a b : Nat) (d : Array α) (w : World), d.size = n → a ≤ b → b ≤ n → Blk w blk t (cA d) → Calls Try.prog 84 #[.agg #[.func (.func g) #[] lb, .func (.func sf) #[] sb], .int .i64 a, .int .i64 b] w (Turns blk t cA w fun v d' => v = .tuple #[] ∧ d'.size = n ∧ PermIn a b d d')) :
    ∀ m, PdqIH m lt n W0 blk t cA (.agg #[.func (.func g) #[] lb, .func (.func sf) #[] sb]) := by
  intro m
  induction m with
  | zero => intro a b l d w h; omega
  | succ m ih =>
    intro a b l d w hm hs hab hb hl hBl hW hB
    exact pdq_step eg hL hS hn hO hBP a b l (fun a' b' l' d' w' h' => ih a' b' l' d' w' (by omega)) d hs hab hb hl hBl _ _ _ rfl rfl rfl w hW hB
end
/-! ### Worlds -/
section
variable {P : Program} {w w' : World} {g t : Nat}
theorem out_setCells : ∀ (vs : List Value) (s : Nat) (w : World), Out [g] w (w.setCells g s vs)
  | [], _, _ => Out.refl _ _
  | v :: r, s, w => by
    have h1 : Out [g] w (w.setCell ⟨g, s, none⟩ v) := ⟨rfl, rfl, rfl, by simp, fun k _ hk => heap_setCell_other w ⟨g, s, none⟩ k v (fun e => hk (by simpa using e))⟩
    exact h1.trans (out_setCells r (s + 1) _) (fun _ h => .inr h)
theorem blk_setCells : ∀ (vs : List Value) (s : Nat) (w : World) (F : Array Value), Blk w g t F → Blk (w.setCells g s vs) g t (setMany F s vs)
  | [], _, _, _, h => h
  | v :: r, s, _, _, h => blk_setCells r (s + 1) _ _ (h.set_ s v)
end
/-! ### Stamps -/
instance : Inhabited St := ⟨St.zero⟩
def encS (s : St) : List Value := [.int .i64 s.e, .int .i64 s.r]
abbrev fA (d : Array St) : Array Value := flatK encS 2 d
theorem encS_one : ∀ x, ∀ v ∈ encS x, v.oneCell' = true := fun x v hv => by
  simp only [encS, List.mem_cons, List.not_mem_nil, or_false] at hv
  rcases hv with rfl | rfl <;> rfl
theorem fA_eq (L : List St) : fA L.toArray = (cS L).toArray := by
  refine ext_get! (by simp [cS_len]) fun i hi => ?_
  have hi' : i < L.length * 2 := by simpa using hi
  rw [get_flatK _ _ _ _ (by simpa using hi')]
  have hc := cS_at (L := L) (i := i / 2) (by omega)
  have hg : ∀ j, j < 2 → (cS L)[i / 2 * 2 + j]? = [Value.int .i64 (atS L (i / 2)).e, .int .i64 (atS L (i / 2)).r][j]? := fun j hj => by
    rw [← hc]; simp [hj]
  have h2 := hg (i % 2) (Nat.mod_lt _ (by omega))
  rw [show i / 2 * 2 + i % 2 = i by omega] at h2
  have h3 : L.toArray[i / 2]! = atS L (i / 2) := by
    rw [atS_eq (by omega)]; simp [show i / 2 < L.length by omega]
  have hlt : i < (cS L).toArray.size := by simpa [cS_len] using hi'
  rw [getElem!_pos (cS L).toArray i hlt, h3]
  have h4 : (cS L).toArray[i] = (cS L)[i]'(by simpa using hlt) := by simp
  rw [h4]
  rw [List.getElem?_eq_getElem (by simpa using hlt)] at h2
  have hm : i % 2 < 2 := Nat.mod_lt _ (by omega)
  unfold encS
  rcases (show i % 2 = 0 ∨ i % 2 = 1 by omega) with h5 | h5
  · rw [h5] at h2 ⊢; simpa using h2.symm
  · rw [h5] at h2 ⊢; simpa using h2.symm
theorem holds_blk {w : World} {g t : Nat} {d : Array St} (h : Blk w g t (fA d)) : HoldsK encS 2 w g 0 d := fun j hj => by
  rw [Nat.zero_add]
  exact ⟨by rw [h.cell, getElem!_pos (flatK encS 2 d) j hj, Array.getElem?_eq_getElem hj]; rfl, h.frozen _⟩
noncomputable def eInf : TypeInfo := (Try.prog.info? 32).get (by kernel_rfl)
noncomputable def sInf : TypeInfo := (Try.prog.info? 39).get (by kernel_rfl)
theorem eInf_is : Try.prog.info? 32 = some eInf := by kernel_rfl
theorem sInf_is : Try.prog.info? 39 = some sInf := by kernel_rfl
theorem swK (n : Nat) (h2 : 2 ≤ n) : Lib.swapperK n eInf 25 = 9 := by
  have a : eInf.hasPointers = false := by kernel_rfl
  have b : eInf.bytes = 16 := by kernel_rfl
  have c : (n == 0) = false := by simp; omega
  have d : (n == 1) = false := by simp; omega
  simp [Lib.swapperK, a, b, c, d]
theorem swap_ok (blk n c : Nat) : SwapOK Try.prog 79 #[.slice (some ⟨blk, 0, none⟩) n c, typeHandle Try.prog 32] blk 32 n fA := by
  intro d w i j hs hi hj hB
  have h := swapSwapsK_of_literal (P := Try.prog) false 79 (fun args W => run_callFunc_extern Try.func79 (by kernel_rfl) (by kernel_rfl) (by kernel_rfl) (e := Extern.ReflectliteSwapper.swap false) (by kernel_rfl) args W)
    32 eInf eInf_is encS 2 (fun _ => rfl) (by kernel_rfl) (fun _ => by kernel_rfl) encS_one blk 0 n c w d (holds_blk hB) hs i j hi hj
  refine ⟨_, h, ?_, ?_⟩
  · exact (out_setCells _ _ _).trans (out_setCells _ _ _) (fun _ h => .inr h)
  · have := blk_setCells (encS d[i]!) (0 + j * 2) _ _ (blk_setCells (encS d[j]!) (0 + i * 2) w _ hB)
    rw [Nat.zero_add, Nat.zero_add, setMany_swp encS 2 (fun _ => rfl) d i j (by omega) (by omega)] at this
    rw [Nat.zero_add, Nat.zero_add]
    exact this
theorem blk_putRow {w : World} {g t : Nat} {F F' : Array Value} (h : Blk w g t F) (hs : F'.size = F.size) : Blk (putRow id w g 0 F') g t F' := by
  unfold putRow mapBlock Blk
  unfold Blk at h
  simp only [Array.getElem?_modify, if_true, h, Option.map_some, onCells]
  congr 2
  apply Array.ext
  · simp [putCells, hs]
  · intro i h1 h2
    simp only [putCells, Array.getElem_mapIdx, Nat.zero_le, true_and, Nat.zero_add, h2, if_true, Nat.sub_zero, id_eq]
    exact getElem!_pos F' i h2
theorem out_putRow {w : World} {g : Nat} {F' : Array Value} : Out [g] w (putRow id w g 0 F') := ⟨rfl, rfl, rfl, by simp, fun k _ hk => by
  unfold putRow mapBlock
  simp only [Array.getElem?_modify]
  rw [if_neg (fun e => hk (by simp [e]))]⟩
theorem out_grow (R : List Nat) (w : World) (os : Array Obj) : Out R w (grow w os) := ⟨rfl, rfl, rfl, by simp [grow], fun k hk _ => by
  simp only [grow]
  rw [Array.getElem?_append_left hk]⟩
theorem out_sort {w : World} {g t n : Nat} {d d' : Array St} {os : Array Obj} (hB : Blk w g t (fA d)) (hs : d'.size = d.size) : Out [g] w (sortWorldK encS 2 w g 0 n d' os) ∧ Blk (sortWorldK encS 2 w g 0 n d' os) g t (fA d') := by
  have h0 : Out [g] w (Sort.ahead w n) := ⟨rfl, rfl, rfl, Nat.le_refl _, fun _ _ _ => rfl⟩
  have h1 : Out [g] w (putRow id (Sort.ahead w n) g 0 (fA d')) := h0.trans out_putRow (fun _ h => .inr h)
  have hb : Blk (putRow id (Sort.ahead w n) g 0 (fA d')) g t (fA d') := blk_putRow (show Blk (Sort.ahead w n) g t (fA d) from hB) (by simp [hs])
  refine ⟨h1.trans (out_grow [] _ os) (fun _ h => by cases h), ?_⟩
  exact (out_grow [] _ os).blk hb (by simp)
theorem break_ok (blk c n : Nat) (lf : Fn) (lb : Array Value) (hn : n ≤ 1000000000) (a b : Nat) (d : Array St) (w : World) (hs : d.size = n) (hab : a ≤ b) (hb : b ≤ n) (hB : Blk w blk 32 (fA d)) :
    Calls Try.prog 84 #[.agg #[.func lf #[] lb, .func (.func 79) #[] #[.slice (some ⟨blk, 0, none⟩) n c, typeHandle Try.prog 32]], .int .i64 a, .int .i64 b] w (Turns blk 32 fA w fun v d' => v = .tuple #[] ∧ d'.size = n ∧ PermIn a b d d') := by
  subst hs
  have hsw := swapSwapsK_of_literal (P := Try.prog) false 79 (fun args W => run_callFunc_extern Try.func79 (by kernel_rfl) (by kernel_rfl) (by kernel_rfl) (e := Extern.ReflectliteSwapper.swap false) (by kernel_rfl) args W)
    32 eInf eInf_is encS 2 (fun _ => rfl) (by kernel_rfl) (fun _ => by kernel_rfl) encS_one blk 0 d.size c
  have h := Any.breakPatterns_func_cells_w (P := Try.prog) { Try.sl6 with } encS 2 (fun _ => rfl) lf #[] lb 79 #[.slice (some ⟨blk, 0, none⟩) d.size c, typeHandle Try.prog 32] blk 0 a b d w hsw (holds_blk hB) hB.lt hab (by omega) (by omega)
  refine Calls.mono h ?_
  rintro e w' ⟨rfl, m, os, rfl⟩
  have hp := breakPatterns_holds d a b hab (by omega)
  have h2 := out_sort (n := m) (d' := breakPatterns d a b) (os := os) hB hp.1
  exact ⟨_, _, rfl, h2.1, h2.2, rfl, hp.1, hp⟩
/-- sort.Slice. -/
theorem sortS (g : Nat) (lb : Array Value) (lt : St → St → Bool) (hO : SWO lt) (eg : enters Try.prog g = true) (blk c : Nat) (d : Array St) (w : World) (hn : d.size ≤ 20000000) (hB : Blk w blk 32 (fA d)) (hL : LessOK Try.prog g lb lt blk 32 d.size w fA) :
    Calls Try.prog 52 #[.iface 39 (.slice (some ⟨blk, 0, none⟩) d.size c), .func (.func g) #[] lb] w (Turns blk 32 fA w fun v d' => v = .tuple #[] ∧ d'.size = d.size ∧ PermIn 0 d.size d d' ∧ SortedIn lt 0 d.size d') := by
  rcases Nat.lt_or_ge d.size 2 with h1 | h2
  · have ht : ∃ f, Try.prog.funcs.findIdx? (·.name == "internal/reflectlite" ++ ".Swapper$" ++ toString (Lib.swapperK d.size eInf 25)) = some f := by
      rcases (show d.size = 0 ∨ d.size = 1 by omega) with e | e
      · rw [e]; exact ⟨71, by kernel_rfl⟩
      · rw [e]; exact ⟨72, by kernel_rfl⟩
    obtain ⟨f, hf⟩ := ht
    refine Calls.mono (Any.sort_Slice_tiny (P := Try.prog) Try.sl6 39 32 sInf eInf sInf_is (by kernel_rfl) (by kernel_rfl) eInf_is 25 (fun _ => by kernel_rfl) (some ⟨blk, 0, none⟩) d.size c (by omega) f hf (.func g) #[] lb w) ?_
    rintro e w' ⟨rfl, os, rfl⟩
    exact ⟨_, d, rfl, out_grow _ _ _, (out_grow [] _ os).blk hB (by simp), rfl, rfl, permIn_refl _ _ _, fun i j h3 h4 h5 => by omega⟩
  · have hK : Try.prog.funcs.findIdx? (·.name == "internal/reflectlite" ++ ".Swapper$" ++ toString (Lib.swapperK d.size eInf 25)) = some 79 := by rw [swK _ h2]; kernel_rfl
    refine Calls.mono (Any.sort_Slice_of_pdq (P := Try.prog) Try.sl6 39 32 sInf eInf sInf_is (by kernel_rfl) (by kernel_rfl) eInf_is 25 (fun _ => by kernel_rfl) (some ⟨blk, 0, none⟩) d.size c (by omega) 79 hK (.func g) #[] lb w
      (fun w' => ∃ d', Out [blk] w w' ∧ Blk w' blk 32 (fA d') ∧ d'.size = d.size ∧ PermIn 0 d.size d d' ∧ SortedIn lt 0 d.size d') ?_) ?_
    · have hb2 : Below w.heap.size w (sliceWorld Try.prog Try.sl6_ren 39 (some ⟨blk, 0, none⟩) d.size c w) := bel2 _ _ _
      have ho := Below.out hb2 [blk]
      have hlim : Lib.bitLen d.size ≤ 1000 := Nat.le_trans (Lib.bitLen_le d.size 62 (by omega) (by omega)) (by omega)
      have hsb : sliceBound Try.prog 32 eInf 25 (some ⟨blk, 0, none⟩) d.size c = #[.slice (some ⟨blk, 0, none⟩) d.size c, typeHandle Try.prog 32] := by
        unfold sliceBound; rw [if_neg (swapperK_gt _ _ _ h2)]
      rw [hsb]
      have hp := pdq_all eg hL (swap_ok blk d.size c) (by omega) hO (fun a b d' w' h3 h4 h5 h6 => break_ok blk c d.size (.func g) lb (by omega) a b d' w' h3 h4 h5 h6) (d.size + 1)
        0 d.size (Lib.bitLen d.size) d _ (by omega) rfl (Nat.zero_le _) (Nat.le_refl _) hlim (Or.inl rfl) ho (hB.below hb2 hB.lt)
      refine Calls.mono hp ?_
      rintro e w' ⟨v, d', rfl, h3, h4, rfl, h5, h6, h7⟩
      exact ⟨rfl, d', ho.trans h3 (fun _ h => .inr h), h4, h5, h6, h7⟩
    · rintro e w' ⟨rfl, d', h3, h4, h5, h6, h7⟩
      exact ⟨_, d', rfl, h3, h4, rfl, h5, h6, h7⟩
end Go.Proofs.Ytboinbmgndomhaa
namespace Go.Proofs.Ytboinbmgndomhaa
open Go.RowKit Go.Sort
set_option maxRecDepth 100000
set_option linter.unusedSimpArgs false
set_option linter.unusedVariables false

theorem setMany_cS : ∀ (L : List St) (i : Nat) (x : St), i < L.length → setMany (cL L) (i * 2) (encS x) = cL (L.set i x) := by
  intro L i x hi
  refine ext_get! (by simp [cL_size]) fun j hj => ?_
  have hj' : j < L.length * 2 := by simpa [cL_size] using hj
  rw [get_setMany _ _ _ j (by rw [cL_size]; exact hj')]
  have hl : ∀ (K : List St), K.length = L.length → (cL K)[j]! = [Value.int .i64 (atS K (j / 2)).e, .int .i64 (atS K (j / 2)).r][j % 2]! := fun K hK => by
    have h0 : cL K = fA K.toArray := (fA_eq K).symm
    rw [h0, get_flatK _ _ _ _ (by simp [hK]; omega)]
    have h3 : K.toArray[j / 2]! = atS K (j / 2) := by rw [atS_eq (by omega)]; simp [show j / 2 < K.length by omega]
    rw [h3]; rfl
  rw [hl (L.set i x) (by simp), hl L rfl]
  have hm : j % 2 < 2 := Nat.mod_lt _ (by omega)
  by_cases hc : i * 2 ≤ j ∧ j < i * 2 + (encS x).length
  · rw [if_pos hc]
    have h2 : (encS x).length = 2 := rfl
    have : j / 2 = i := by omega
    rw [show atS (L.set i x) (j / 2) = x by rw [this, atS_eq (by simpa using hi)]; simp]
    rw [show j - i * 2 = j % 2 by omega]; rfl
  · rw [if_neg hc]
    have h2 : (encS x).length = 2 := rfl
    have : ¬ i = j / 2 := by omega
    rw [show atS (L.set i x) (j / 2) = atS L (j / 2) by rw [atS_eq (by simp; omega), atS_eq (by omega)]; simp [this]]
section
variable {P : Program} {ops rest : List Oper} {o : Oper} {a : Act} {n d : Nat} {L : List (Nat × Value)} {Q : Exit → Act → World → Prop} {R : List Nat} {w w0 : World} {B : List Ent} {v u : Value} {x y : Operand} {t e ty : TypeId} {i g k m : Nat} {K K' : List St}
theorem copy_run {c1 : Nat} (hu : P.underlying t = some (.slice e)) (hs : (P.info? e).map (·.size) = some 2) {cs : Array Value} (hb : Blk w g ty cs) (hz : cs.size = k * 2) (hr : RdV w 2 u k (cS K)) :
    (Builtin.copy_ #[t, t] o.type #[.slice (some ⟨g, 0, none⟩) k c1, u]).run P w = .ok (goInt k) (w.setRow g (cL K)) := by
  obtain ⟨hl, A, c, rfl, h1, h2, h3⟩ := hr
  have hKl : K.length = k := by rw [cS_len] at hl; omega
  have hself : w.setRow g cs = w := setRow_self w g cs ty (0, 0) hb
  cases hq : P.info? e with
  | none => simp [hq] at hs
  | some inf =>
    have hi : inf.size = 2 := by simpa [hq] using hs
    rcases Nat.eq_zero_or_pos k with h0 | h0
    · subst h0
      have hK0 : K = [] := List.eq_nil_of_length_eq_zero hKl
      subst hK0
      have hcs : cs = cL [] := by
        have : cs.size = 0 := by simpa using hz
        rw [Array.eq_empty_of_size_eq_zero this]; rfl
      rw [← hcs, hself]
      cases A with
      | none => simp [Builtin.copy_, run_underlying hu, Builtin.lenOf, Builtin.firstCells, sizeOf, typeInfo, hq, storeCells, goInt]
      | some ad => simp [Builtin.copy_, run_underlying hu, Builtin.lenOf, Builtin.firstCells, sizeOf, typeInfo, hq, loadCells, loadCellsFrom, storeCells, goInt]
    · obtain ⟨g', off, rfl, h4, h5⟩ := h3 h0
      have hl2 := run_loadCells_list (P := P) w ⟨g', off, none⟩ (cS K) (fun j v hj => by rw [addr_add]; exact h5 j v hj)
      have hst := run_storeCells_at P g 0 ty (cS K) 0 cs w hb (by rw [hz, hl]; omega) (cS_ones K)
      have hcl : (cs.toList.take (0 + 0) ++ cS K ++ cs.toList.drop (0 + 0 + (cS K).length)).toArray = cL K := by
        rw [List.drop_eq_nil_of_le (by simp [hz, hl])]
        simp [cL]
      rw [hcl] at hst
      simp [Builtin.copy_, run_underlying hu, Builtin.lenOf, Builtin.firstCells, sizeOf, typeInfo, hq, hi, ← hl, hl2, hst, goInt]
/-- copy(row, u): all of it. -/
theorem sq_copy (F : Fr a n L) (M : Mm R w0 w B) (hw : Region.wanted o (yielded ops.toArray a.tmps) = true) {c1 : Nat} {cs : Array Value} (ho : o.op = .call { callee := .builtin .copy, args := #[x, y], argTypes := #[t, t] }) (hx : a.eval x = .slice (some ⟨g, 0, none⟩) k c1) (hy : a.eval y = u)
    (hi : B[i]? = some (.blk g ty cs)) (hz : cs.size = k * 2) (hr : RdV w 2 u k (cS K)) (hT : SlTy P t e 2) (hd : o.dst = some d) (hdn : Nat.blt d n = true)
    (h : ∀ a' w', Fr a' n ((d, .int .i64 k) :: L) → Mm R w0 w' (B.set i (.blk g ty (cL K))) → wpList P ops.toArray Q rest a' w') : wpList P ops.toArray Q (o :: rest) a w :=
  wpList_step fun K' hK => by
    rw [if_pos hw]
    have hrun := copy_run (P := P) (o := o) (c1 := c1) hT.1 hT.2 (M.at hi) hz hr
    have hexec : (execOp a.eval o).run P w = .ok (.value (goInt k)) (w.setRow g (cL K)) := by
      simp only [execOp, ho, resolve, invoke, builtin, Sem.run_bind, Sem.run_pure, Result.andThen_ok, List.map_toArray, List.map_cons, List.map_nil, hx, hy, hrun]
    unfold Oper.wp
    rw [hexec]
    refine hK _ _ ?_
    rw [hd]
    exact h _ _ (F.put hdn) (M.setRow hi _)
/-- row[j] = x -/
theorem sq_stL (F : Fr a n L) (M : Mm R w0 w B) (hw : Region.wanted o (yielded ops.toArray a.tmps) = true) {s : St} {j : Nat} (ho : o.op = .store ty x y) (hx : a.eval x = .pointer (some ⟨g, 0 + j * 2, none⟩)) (hy : a.eval y = .agg #[.int .i64 s.e, .int .i64 s.r])
    (hi : B[i]? = some (.blk g t (cL K))) (hj : j < K.length) (hT : AggTy P ty 2) (hd : o.dst = none)
    (h : ∀ w', Mm R w0 w' (B.set i (.blk g t (cL (K.set j s)))) → wpList P ops.toArray Q rest a w') : wpList P ops.toArray Q (o :: rest) a w :=
  wpList_step fun K' hK => by
    rw [if_pos hw]
    have _ := F.size
    obtain ⟨dd, hu, hdd, hsz⟩ := hT
    have hb := M.at hi
    have hth : w.there g (0 + j * 2) (#[Value.int .i64 s.e, .int .i64 s.r] : Array Value).size := fun q hq => by
      have hq2 : q < 2 := hq
      refine ⟨?_, hb.frozen _⟩
      rw [hb.cell, Array.getElem?_eq_getElem (by rw [cL_size]; omega)]; rfl
    have hrun := run_storeAt_mid (P := P) w g (0 + j * 2) ty #[.int .i64 s.e, .int .i64 s.r] hth (by rw [hsz]; rfl) (by simp [Value.oneCell'])
    have hexec : (execOp a.eval o).run P w = .ok .skip (w.setCells g (0 + j * 2) (encS s)) := by
      simp only [execOp, ho, hx, hy]
      simp only [Sem.run_bind, hrun, Result.andThen_ok, Sem.run_pure]
      rfl
    unfold Oper.wp
    rw [hexec]
    refine hK _ _ ?_
    rw [hd]
    have hb2 := blk_setCells (encS s) (0 + j * 2) w _ hb
    rw [Nat.zero_add, setMany_cS K j s hj] at hb2
    rw [Nat.zero_add]
    exact h _ (M.turned hi (out_setCells _ _ _) hb2)
/-- clear(row[k:]) -/
theorem sq_clear (F : Fr a n L) (M : Mm R w0 w B) (hw : Region.wanted o (yielded ops.toArray a.tmps) = true) {c1 : Nat} (ho : o.op = .call { callee := .builtin .clear, args := #[x], argTypes := #[t] }) (hx : a.eval x = subS 2 k m (.slice (some ⟨g, 0, none⟩) m c1))
    (hi : B[i]? = some (.blk g ty (cL K))) (hk : k ≤ m) (hc1 : m ≤ c1) (hz : K.length = m) (hT : SlTy P t e 2) {bytes : Nat} (hE : (P.info? e).map (fun i => (i.zero, i.size, i.bytes)) = some (some (.agg #[.int .i64 0, .int .i64 0]), 2, bytes)) (hd : o.dst = none)
    (h : ∀ w', Mm R w0 w' (B.set i (.blk g ty (cL (K.take k ++ List.replicate (m - k) St.zero)))) → wpList P ops.toArray Q rest a w') : wpList P ops.toArray Q (o :: rest) a w :=
  wpList_step fun K' hK => by
    rw [if_pos hw]
    have _ := F.size
    have hb := M.at hi
    have hrun : (Builtin.clear_ #[t] o.type #[subS 2 k m (.slice (some ⟨g, 0, none⟩) m c1)]).run P w = .ok (.tuple #[]) (w.setRow g (cL (K.take k ++ List.replicate (m - k) St.zero))) := by
      have hzc : ∀ q, (Builtin.zeroCells #[Value.int .i64 0, .int .i64 0] q).toList = cS (List.replicate q St.zero) := fun q => by
        apply List.ext_getElem
        · simp [Builtin.zeroCells, cS_len]
        · intro j h1 h2
          have hj : j < q * 2 := by simpa [cS_len] using h2
          have hc := cS_at (L := List.replicate q St.zero) (i := j / 2) (by simp; omega)
          have hg : (cS (List.replicate q St.zero))[j / 2 * 2 + j % 2]? = [Value.int .i64 (atS (List.replicate q St.zero) (j / 2)).e, .int .i64 (atS (List.replicate q St.zero) (j / 2)).r][j % 2]? := by
            rw [← hc]; simp [Nat.mod_lt j (show 0 < 2 by omega)]
          rw [show j / 2 * 2 + j % 2 = j by omega, List.getElem?_eq_getElem h2] at hg
          have ha : atS (List.replicate q St.zero) (j / 2) = St.zero := by rw [atS_eq (by simp; omega)]; simp
          rw [ha] at hg
          simp only [Builtin.zeroCells]
          rcases (show j % 2 = 0 ∨ j % 2 = 1 by omega) with h5 | h5
          · rw [h5] at hg
            have hg' := Option.some.inj hg
            rw [hg']
            simp [St.zero, h5]
          · rw [h5] at hg
            have hg' := Option.some.inj hg
            rw [hg']
            simp [St.zero, h5]
      have hke : cL (K.take k ++ List.replicate (m - k) St.zero) = ((cL K).toList.take (k * 2 + 0) ++ cS (List.replicate (m - k) St.zero) ++ (cL K).toList.drop (k * 2 + 0 + (cS (List.replicate (m - k) St.zero)).length)).toArray := by
        rw [List.drop_eq_nil_of_le (by simp [cL_size, cS_len]; omega)]
        simp [cL, cS_app, ← cS_take]
      cases hq : P.info? e with
      | none => simp [hq] at hE
      | some inf =>
        simp only [hq, Option.map_some, Option.some.injEq, Prod.mk.injEq] at hE
        rcases Nat.eq_zero_or_pos (m - k) with h0 | h0
        · have hkm : k = m := by omega
          rw [h0, show K.take k = K by rw [hkm, ← hz, List.take_length]]
          simp only [List.replicate_zero, List.append_nil]
          rw [setRow_self w g (cL K) ty (0, 0) hb]
          simp only [subS, h0]
          split <;> simp [Builtin.clear_, run_underlying hT.1]
        · have hst := run_storeCells_at P g (k * 2) ty (cS (List.replicate (m - k) St.zero)) 0 (cL K) w hb (by rw [cL_size, cS_len, List.length_replicate]; omega) (cS_ones _)
          rw [← hke] at hst
          have hne : m - k ≠ 0 := by omega
          obtain ⟨q, hq2⟩ : ∃ q, m - k = q + 1 := ⟨m - k - 1, by omega⟩
          have e0 : subS 2 k m (.slice (some ⟨g, 0, none⟩) m c1) = .slice (if c1 = k then some ⟨g, 0, none⟩ else some ⟨g, k * 2, none⟩) (m - k) (c1 - k) := by
            simp only [subS, Option.map_some, addr_add, Nat.zero_add]
          rw [e0]
          split
          · rename_i hck
            omega
          · rw [hq2] at hst ⊢
            simp [Builtin.clear_, run_underlying hT.1, zeroValue, typeInfo, hq, hE.1, Value.cells, hzc, hst]
    have hexec : (execOp a.eval o).run P w = .ok (.value (.tuple #[])) (w.setRow g (cL (K.take k ++ List.replicate (m - k) St.zero))) := by
      simp only [execOp, ho, resolve, invoke, builtin, Sem.run_bind, Sem.run_pure, Result.andThen_ok, List.map_toArray, List.map_cons, List.map_nil, hx, hrun]
    unfold Oper.wp
    rw [hexec]
    refine hK _ _ ?_
    rw [hd]
    exact h _ (M.setRow hi _)
end
end Go.Proofs.Ytboinbmgndomhaa
namespace Go.Proofs.Ytboinbmgndomhaa
open Go.RowKit Go.Sort
set_option maxRecDepth 100000
set_option linter.unusedSimpArgs false
set_option linter.unusedVariables false

/-! ### Compact -/
structure CInv (L K : List St) (k0 k2 k : Nat) : Prop where
  len : K.length = L.length
  h1 : 1 ≤ k2
  h2 : k0 + k2 ≤ L.length
  h3 : 1 ≤ k
  h4 : k + 1 ≤ k0 + k2
  same : ∀ p, k0 + k2 - 1 ≤ p → atS K p = atS L p
  asc : ∀ j, j + 1 < k → (atS K j).aheadB (atS K (j + 1)) = true
  last : atS K (k - 1) = atS L (k0 + k2 - 1)
  mem : ∀ t, (∃ j, j < k ∧ atS K j = t) ↔ (∃ j, j < k0 + k2 ∧ atS L j = t)
/-- A row in order, with stamps that stand there more than once. -/
def Ord (L : List St) : Prop := ∀ i, i + 1 < L.length → atS L i = atS L (i + 1) ∨ (atS L i).aheadB (atS L (i + 1)) = true
theorem CInv.start {L : List St} {k : Nat} (hk : 1 ≤ k) (hl : k < L.length) (ha : ∀ j, j + 1 < k → (atS L j).aheadB (atS L (j + 1)) = true) (he : atS L k = atS L (k - 1)) : CInv L L k 1 k :=
  ⟨rfl, Nat.le_refl _, by omega, hk, Nat.le_refl _, fun _ _ => rfl, ha, by rw [Nat.add_sub_cancel, he], fun t => ⟨fun ⟨j, h1, h2⟩ => ⟨j, by omega, h2⟩, fun ⟨j, h1, h2⟩ => by
    rcases (show j < k ∨ j = k by omega) with h3 | h3
    · exact ⟨j, h3, h2⟩
    · exact ⟨k - 1, by omega, by rw [← he, ← h3, h2]⟩⟩⟩
theorem CInv.skip {L K : List St} {k0 k2 k : Nat} (h : CInv L K k0 k2 k) (hl : k0 + k2 < L.length) (he : atS K (k0 + k2) = atS K (k0 + (k2 - 1))) : CInv L K k0 (k2 + 1) k := by
  have := h.h1
  have e1 := h.same (k0 + k2) (by omega)
  have e2 := h.same (k0 + k2 - 1) (by omega)
  rw [show k0 + (k2 - 1) = k0 + k2 - 1 by omega] at he
  refine ⟨h.len, by omega, by omega, h.h3, by have := h.h4; omega, fun p hp => h.same p (by omega), h.asc, ?_, fun t => ?_⟩
  · rw [h.last, show k0 + (k2 + 1) - 1 = k0 + k2 by omega, ← e1, he, e2]
  · rw [h.mem]
    constructor
    · rintro ⟨j, h1, h2⟩; exact ⟨j, by omega, h2⟩
    · rintro ⟨j, h1, h2⟩
      rcases (show j < k0 + k2 ∨ j = k0 + k2 by omega) with h3 | h3
      · exact ⟨j, h3, h2⟩
      · exact ⟨k0 + k2 - 1, by omega, by rw [← e2, ← he, e1, ← h3, h2]⟩
theorem CInv.put {L K : List St} {k0 k2 k : Nat} (h : CInv L K k0 k2 k) (hs : Ord L) (hl : k0 + k2 < L.length) (he : ¬ atS K (k0 + k2) = atS K (k0 + (k2 - 1))) : CInv L (K.set k (atS K (k0 + k2))) k0 (k2 + 1) (k + 1) := by
  have g1 := h.h1
  have g4 := h.h4
  have g3 := h.h3
  have g2 := h.h2
  have e1 := h.same (k0 + k2) (by omega)
  have e2 := h.same (k0 + k2 - 1) (by omega)
  rw [show k0 + (k2 - 1) = k0 + k2 - 1 by omega] at he
  have hk : k < K.length := by rw [h.len]; omega
  refine ⟨by simp [h.len], by omega, by omega, by omega, by omega, fun p hp => ?_, fun j hj => ?_, ?_, fun t => ?_⟩
  · rw [atS_set hk, if_neg (by omega)]; exact h.same p (by omega)
  · rw [atS_set hk, atS_set hk, if_neg (by omega)]
    rcases (show j + 1 < k ∨ j + 1 = k by omega) with h5 | h5
    · rw [if_neg (by omega)]; exact h.asc j h5
    · rw [if_pos h5.symm, show j = k - 1 by omega, h.last]
      have := hs (k0 + k2 - 1) (by omega)
      rw [show k0 + k2 - 1 + 1 = k0 + k2 by omega] at this
      rcases this with h6 | h6
      · exact absurd (by rw [e1, e2, h6]) he
      · rw [e1]; exact h6
  · rw [atS_set hk, if_pos (by omega), show k0 + (k2 + 1) - 1 = k0 + k2 by omega, e1]
  · constructor
    · rintro ⟨j, h5, h6⟩
      rw [atS_set hk] at h6
      split at h6
      · exact ⟨k0 + k2, by omega, by rw [← e1]; exact h6⟩
      · obtain ⟨j', h7, h8⟩ := (h.mem t).1 ⟨j, by omega, h6⟩
        exact ⟨j', by omega, h8⟩
    · rintro ⟨j, h5, h6⟩
      rcases (show j < k0 + k2 ∨ j = k0 + k2 by omega) with h7 | h7
      · obtain ⟨j', h8, h9⟩ := (h.mem t).2 ⟨j, h7, h6⟩
        exact ⟨j', by omega, by rw [atS_set hk, if_neg (by omega)]; exact h9⟩
      · exact ⟨k, by omega, by rw [atS_set hk, if_pos rfl, e1, ← h7, h6]⟩
theorem CInv.fin {L K : List St} {k0 k2 k : Nat} (h : CInv L K k0 k2 k) (he : L.length ≤ k0 + k2) : Asc (K.take k) ∧ ∀ t, t ∈ K.take k ↔ t ∈ L := by
  have g2 := h.h2
  have g4 := h.h4
  have hl : (K.take k).length = k := by rw [List.length_take, h.len]; omega
  refine ⟨fun i hi => ?_, fun t => ?_⟩
  · rw [hl] at hi
    rw [atS_take (by omega), atS_take (by omega)]; exact h.asc i hi
  · rw [mem_at, mem_at, hl, show L.length = k0 + k2 by omega]
    rw [← h.mem]
    constructor
    · rintro ⟨j, h5, h6⟩; exact ⟨j, h5, by rw [← atS_take h5]; exact h6⟩
    · rintro ⟨j, h5, h6⟩; exact ⟨j, h5, by rw [atS_take h5]; exact h6⟩
theorem asc_of {L : List St} (h : ∀ j, j + 1 < L.length → (atS L j).aheadB (atS L (j + 1)) = true) : Asc L := h
theorem asc_short {L : List St} (h : L.length < 2) : Asc L := fun i hi => by omega
theorem ord_go {L : List St} {k : Int} (hs : Ord L) (h0 : 1 ≤ k) (hl : k < L.length) (ha : ∀ j, j + 1 < k.toNat → (atS L j).aheadB (atS L (j + 1)) = true) (he : ¬ atS L k.toNat = atS L (k - 1).toNat) : ∀ j, j + 1 < (k + 1).toNat → (atS L j).aheadB (atS L (j + 1)) = true := fun j hj => by
  rcases (show j + 1 < k.toNat ∨ j + 1 = k.toNat by omega) with h | h
  · exact ha j h
  · rcases hs j (by omega) with h1 | h1
    · exact absurd (by rw [← h, show (k - 1).toNat = j by omega, h1]) he
    · exact h1
theorem ord_of_sorted {d : Array St} (h : SortedIn St.aheadB 0 d.size d) : Ord d.toList := fun i hi => by
  have hi' : i + 1 < d.size := by simpa using hi
  have h1 := h i (i + 1) (by omega) (by omega) hi'
  have e : ∀ k, k < d.size → atS d.toList k = d[k]! := fun k hk => by rw [atS_eq (by simpa using hk)]; simp [hk]
  rw [e i (by omega), e (i + 1) hi']
  cases hq : (d[i]!).aheadB (d[i + 1]!) with
  | true => exact .inr rfl
  | false => exact .inl (ahead_tri hq h1)
/-! ### Entries -/
theorem gof_sub {m l h n c g o : Nat} {v : Value} (e : v = .slice (some ⟨g, o, none⟩) n c) : gof (subS m l h v) = g := by
  subst e
  simp only [subS, Option.map_some, addr_add]
  split <;> rfl
section
variable {R : List Nat} {w0 w : World} {B : List Ent} {i n p j : Nat} {t m : Nat} {v : Value} {xs : List Value} {K : List St}
theorem Mm.toGot (M : Mm R w0 w B) (h : B[i]? = some (.row t m v n xs)) : Mm R w0 w (B.set i (.got m v n xs)) := by
  refine M.swap h (x' := .got m v n xs) (Out.refl _ _) (M.rv h) (fun g hg => ?_) (fun g hg => by cases hg)
  simp only [Ent.fp] at hg ⊢
  split at hg
  · cases hg
  · rw [(own_spot (M.ow h) (by omega)).1]
    exact .inl (by simpa using hg)
theorem Mm.subGot (M : Mm R w0 w B) (h : B[i]? = some (.got 2 v (n - p) (cS (K.drop p)))) (hK : K.length = n) (hj : p + j ≤ n) : Mm R w0 w (B.set i (.got 2 (subS 2 j (n - p) v) (n - (p + j)) (cS (K.drop (p + j))))) := by
  have hr := M.gv h
  have hs := sub_rv (k := j) hr (by rw [List.length_drop, hK]) (by omega)
  rw [List.drop_drop, show n - p - j = n - (p + j) by omega] at hs
  refine M.swap h (x' := .got 2 (subS 2 j (n - p) v) (n - (p + j)) (cS (K.drop (p + j)))) (Out.refl _ _) hs (fun g hg => ?_) (fun g hg => by cases hg)
  simp only [Ent.fp] at hg ⊢
  split at hg
  · cases hg
  · obtain ⟨c, hv, _⟩ := hr.form (by omega)
    rw [if_neg (by omega)]
    rw [gof_sub hv] at hg
    exact .inl hg
end
/-! ### A part of a block, the caller's -/
theorem own_whole {w : World} {g t n : Nat} {L : List St} (h : Blk w g t (cL L)) (hz : L.length = n) (hn : n ≤ 1000000000) : w.ownsRow 0 t 2 (.slice (some ⟨g, 0, none⟩) n n) n (cS L) :=
  ⟨by rw [cS_len, hz], .inr ⟨g, n, _, rfl, Nat.zero_le _, h, Nat.le_refl _, by unfold maxLen; omega, by rw [cL_size, hz], by simp only [cL]; rw [List.take_of_length_le (by rw [cS_len, hz]; omega)]⟩⟩
theorem own_first {w : World} {g t n k : Nat} {K Z : List St} (h : Blk w g t (cL (K ++ Z))) (hz : (K ++ Z).length = n) (hk : K.length = k) (hn : n ≤ 1000000000) : w.ownsRow 0 t 2 (subS 2 0 k (.slice (some ⟨g, 0, none⟩) n n)) k (cS K) := by
  have e : subS 2 0 k (.slice (some ⟨g, 0, none⟩) n n) = .slice (some ⟨g, 0, none⟩) k n := by
    simp only [subS, Option.map_some, addr_add, Nat.zero_mul, Nat.add_zero, Nat.sub_zero, ite_self]
  have hkn : k ≤ n := by rw [← hz, ← hk, List.length_append]; omega
  rw [e]
  exact ⟨by rw [cS_len, hk], .inr ⟨g, n, _, rfl, Nat.zero_le _, h, hkn, by unfold maxLen; omega, by rw [cL_size, hz], by simp only [cL, cS_app]; rw [List.take_left' (by rw [cS_len, hk])]⟩⟩
theorem fA_cL (d : Array St) : fA d = cL d.toList := by have := fA_eq d.toList; simpa [cL] using this
theorem swo_ahead : SWO St.aheadB where
  irrefl := fun x => ahead_irr
  trans := fun x y z h1 h2 => ahead_trans h1 h2
  ntrans := fun x y z h1 h2 => by
    rw [← Bool.not_eq_true, St.ahead_iff] at *; omega
theorem cmp_lt (a b : St) : decide (a.cmp b < 0) = a.aheadB b := by
  rw [Bool.eq_iff_iff, decide_eq_true_eq, St.ahead_iff]
  have := cmp_spec a b
  omega
theorem mem_perm {d d' : Array St} (h : PermIn 0 d.size d d') (t : St) : t ∈ d'.toList ↔ t ∈ d.toList := by
  have h3 := h.2.2
  have e1 : d'.extract 0 d.size = d' := by rw [← h.1]; simp
  rw [e1] at h3
  have e2 : d.extract 0 d.size = d := by simp
  rw [e2] at h3
  exact h3.mem_iff
theorem first_spot (g k n : Nat) : (subS 2 0 k (.slice (some ⟨g, 0, none⟩) n n)).ownBlock = some g := by
  simp only [subS, Option.map_some, addr_add, Nat.zero_mul, Nat.add_zero, ite_self]
  rfl
end Go.Proofs.Ytboinbmgndomhaa
namespace Go.Proofs.Ytboinbmgndomhaa
open Go.RowKit
set_option maxRecDepth 100000
set_option linter.unusedSimpArgs false
set_option linter.unusedVariables false

theorem cI_len (L : List Int) : (cI L).length = L.length := by unfold cI; rw [cE_len]; simp [encI]
theorem cI_set : ∀ (L : List Int) (j : Nat) (x : Int), (cI L).set j (.int .i64 x) = cI (L.set j x)
  | [], _, _ => rfl
  | _ :: _, 0, _ => rfl
  | a :: r, j + 1, x => by
    have := cI_set r j x
    show Value.int .i64 a :: (cI r).set j (.int .i64 x) = Value.int .i64 a :: cI (r.set j x)
    rw [this]
theorem aI_at {T : List Int} {j : Nat} (h : j < T.length) : (List.toArray (cI T))[0 + j * 1]? = some (.int .i64 (atI T j)) := by
  rw [Nat.zero_add, List.getElem?_toArray]; exact cI_at h
theorem aI_set (T : List Int) (j : Nat) (x : Int) : (List.toArray (cI T)).setIfInBounds (0 + j * 1) (.int .i64 x) = List.toArray (cI (T.set j x)) := by
  rw [← cI_set]; simp
theorem aI_size (T : List Int) : (List.toArray (cI T)).size = T.length := by rw [List.size_toArray, cI_len]
theorem atI_eq {L : List Int} {i : Nat} (h : i < L.length) : atI L i = L[i] := atE_eq (E := encI) h
theorem atI_set {L : List Int} {i j : Nat} {b : Int} (h : i < L.length) : atI (L.set i b) j = if i = j then b else atI L j := by
  unfold atI atE
  rw [List.getD_eq_getElem?_getD, List.getD_eq_getElem?_getD, List.getElem?_set]
  split
  · rename_i e; subst e; simp [h]
  · rfl
theorem ext_atI {A B : List Int} (hl : A.length = B.length) (h : ∀ k, k < A.length → atI A k = atI B k) : A = B := by
  apply List.ext_getElem hl
  intro k h1 h2
  have := h k h1
  rwa [atI_eq h1, atI_eq h2] at this
/-! ### Places -/
def posO (o : List Int) (i : Nat) : List Int := (List.range 8).map fun (q : Nat) => if (q : Int) ∈ o.take i then ((o.idxOf (q : Int) : Nat) : Int) + 1 else 0
theorem pos_len (o : List Int) (i : Nat) : (posO o i).length = 8 := by simp [posO]
theorem pos_at {o : List Int} {i q : Nat} (h : q < 8) : atI (posO o i) q = if (q : Int) ∈ o.take i then ((o.idxOf (q : Int) : Nat) : Int) + 1 else 0 := by
  rw [atI_eq (by rw [pos_len]; exact h)]; simp [posO]
theorem pos_zero (o : List Int) : List.replicate 8 0 = posO o (0 : Int).toNat := by
  apply ext_atI
  · rw [pos_len]; simp
  · intro k hk
    have hk8 : k < 8 := by simpa using hk
    rw [pos_at hk8, atI_eq hk, List.getElem_replicate]; simp
theorem idx_at {o : List Int} (hn : o.Nodup) {i : Nat} (h : i < o.length) : o.idxOf (atI o i) = i := by
  rw [atI_eq h]; exact hn.idxOf_getElem i h
theorem not_yet {o : List Int} (hn : o.Nodup) {i : Nat} (h : i < o.length) : ¬ atI o i ∈ o.take i := fun hm => by
  rw [atI_eq h] at hm
  obtain ⟨k, hk, e⟩ := List.mem_iff_getElem.1 hm
  rw [List.length_take] at hk
  rw [List.getElem_take] at e
  have := (List.getElem_inj hn).1 e
  omega
theorem pos_new {o : List Int} (hn : o.Nodup) {i : Int} (h0 : 0 ≤ i) (h : i < (o.length : Int)) (hr : 0 ≤ atI o i.toNat ∧ atI o i.toNat < 8) : atI (posO o i.toNat) (atI o i.toNat).toNat = 0 := by
  rw [pos_at (by omega), show (((atI o i.toNat).toNat : Nat) : Int) = atI o i.toNat by omega, if_neg (not_yet hn (by omega))]
theorem pos_step {o : List Int} (hn : o.Nodup) {i : Int} (h0 : 0 ≤ i) (h : i < (o.length : Int)) (hr : 0 ≤ atI o i.toNat ∧ atI o i.toNat < 8) : (posO o i.toNat).set (atI o i.toNat).toNat (i + 1) = posO o (i + 1).toNat := by
  apply ext_atI
  · rw [List.length_set, pos_len, pos_len]
  · intro k hk
    have hk8 : k < 8 := by rw [List.length_set, pos_len] at hk; exact hk
    rw [atI_set (by rw [pos_len]; omega), pos_at hk8, pos_at hk8, show (i + 1).toNat = i.toNat + 1 by omega, List.take_succ_eq_append_getElem (by omega)]
    have e2 := idx_at hn (show i.toNat < o.length by omega)
    have e3 := atI_eq (L := o) (show i.toNat < o.length by omega)
    by_cases hk2 : (atI o i.toNat).toNat = k
    · rw [if_pos hk2, if_pos (by rw [← e3]; simp; omega), show ((k : Nat) : Int) = atI o i.toNat by omega, e2]; omega
    · rw [if_neg hk2]
      have : (k : Int) ∈ o.take i.toNat ++ [o[i.toNat]] ↔ (k : Int) ∈ o.take i.toNat := by
        rw [← e3]; simp; omega
      simp only [this]
theorem pos_in {o : List Int} {i : Int} (hi : ¬ i < (o.length : Int)) {q : Int} (h0 : 0 ≤ q) (h8 : q < 8) (hm : q ∈ o) : atI (posO o i.toNat) q.toNat = ((o.idxOf q : Nat) : Int) + 1 := by
  rw [pos_at (by omega), show ((q.toNat : Nat) : Int) = q by omega, List.take_of_length_le (by omega), if_pos hm]
theorem row_rng {n : Nat} {E : List Ed} (hF : Fits (n : Int) E) (hn : n ≤ 8) {i : Nat} (h : i < (orderL E n).length) : 0 ≤ atI (orderL E n) i ∧ atI (orderL E n) i < (n : Int) :=
  (row_inv hF n).rng _ (atE_mem (E := encI) h)
theorem row_nd {n : Nat} {E : List Ed} (hF : Fits (n : Int) E) : (orderL E n).Nodup := (row_inv hF n).nd
/-! ### Lines -/
def lineE (P : List St) (k : Nat) : List Ed := (List.range k).map fun (i : Nat) => (⟨(i : Int), (i : Int) + 1, atS P i⟩ : Ed)
theorem line_len (P : List St) (k : Nat) : (lineE P k).length = k := by simp [lineE]
theorem line_zero (P : List St) : [] = lineE P (0 : Int).toNat := rfl
theorem line_snoc {P : List St} {k : Int} (h0 : 0 ≤ k) : lineE P k.toNat ++ [Ed.mk k (k + 1) (atS P k.toNat)] = lineE P (k + 1).toNat := by
  unfold lineE
  rw [show (k + 1).toNat = k.toNat + 1 by omega, List.range_succ, List.map_append, List.map_singleton, show ((k.toNat : Nat) : Int) = k by omega]
theorem line_mem {P : List St} {m : Nat} {x : Ed} (h : x ∈ lineE P m) : ∃ i : Nat, i < m ∧ x = ⟨(i : Int), (i : Int) + 1, atS P i⟩ := by
  obtain ⟨i, hi, e⟩ := List.mem_map.1 h
  exact ⟨i, List.mem_range.1 hi, e.symm⟩
def lsum (P : List St) (i : Nat) : Nat → St
  | 0 => St.zero
  | d + 1 => (lsum P i d).add (atS P (i + d))
def Small (P : List St) (m : Nat) : Prop := ∀ k, k < m → 0 ≤ (atS P k).e ∧ (atS P k).e ≤ 100000 ∧ 0 ≤ (atS P k).r ∧ (atS P k).r ≤ 100000
theorem lsum_small {P : List St} {m i : Nat} (hs : Small P m) : ∀ d, i + d ≤ m → 0 ≤ (lsum P i d).e ∧ (lsum P i d).e ≤ 100000 * (d : Int) ∧ 0 ≤ (lsum P i d).r ∧ (lsum P i d).r ≤ 100000 * (d : Int)
  | 0, _ => by simp [lsum, St.zero]
  | d + 1, h => by
    have ih := lsum_small (i := i) hs d (by omega)
    have h2 := hs (i + d) (by omega)
    simp only [lsum, St.add]; omega
theorem lsum_cons (P : List St) (i : Nat) : ∀ d, lsum P i (d + 1) = (atS P i).add (lsum P (i + 1) d)
  | 0 => by simp [lsum, St.add, St.zero, St.eq_iff]
  | d + 1 => by
    have ih := lsum_cons P i d
    rw [show lsum P i (d + 1 + 1) = (lsum P i (d + 1)).add (atS P (i + (d + 1))) from rfl, ih, show lsum P (i + 1) (d + 1) = (lsum P (i + 1) d).add (atS P (i + 1 + d)) from rfl, show i + 1 + d = i + (d + 1) by omega, St.eq_iff]
    simp only [St.add]; omega
theorem line_fits {P : List St} {m : Nat} (hs : Small P m) : Fits ((m + 1 : Nat) : Int) (lineE P m) := fun x hx => by
  obtain ⟨i, hi, rfl⟩ := line_mem hx
  have := hs i hi
  rw [fits_iff]
  refine ⟨by simp only; omega, St.right_iff.2 ?_⟩
  simp only; omega
theorem line_run {P : List St} {m : Nat} : ∀ {es : List Ed} {i : Nat} {j : Int}, (∀ x ∈ es, x ∈ lineE P m) → Run (i : Int) es j → j = (i : Int) + (es.length : Int) ∧ sumW es = lsum P i es.length
  | [], i, j, _, h => by
    have h' : (i : Int) = j := h
    exact ⟨by simp; omega, rfl⟩
  | x :: r, i, j, hm, h => by
    obtain ⟨h1, h2⟩ := (show x.f = (i : Int) ∧ Run x.t r j from h)
    obtain ⟨q, hq, rfl⟩ := line_mem (hm x (by simp))
    have e : q = i := by simp only at h1; omega
    subst e
    have h3 : Run ((q + 1 : Nat) : Int) r j := by simpa using h2
    have ih := line_run (fun y hy => hm y (by simp [hy])) h3
    refine ⟨by simp only [List.length_cons]; omega, ?_⟩
    simp only [List.length_cons]
    rw [lsum_cons, ← ih.2]
    rfl
theorem line_way {P : List St} {m i : Nat} (hm : m ≤ 7) (hs : Small P m) : ∀ d, i + d ≤ m → WayS (lineE P m) (i : Int) ((i + d : Nat) : Int) (lsum P i d)
  | 0, _ => way_nil _ _
  | d + 1, h => by
    have ih := line_way (i := i) hm hs d (by omega)
    have h1 := lsum_small hs (i := i) d (by omega)
    have h2 := hs (i + d) (by omega)
    have h3 := lsum_small hs (i := i) (d + 1) h
    have ha : (lsum P i d).afterB (atS P (i + d)) = true := by
      unfold St.afterB
      rw [Bool.and_eq_true, Bool.and_eq_true]
      refine ⟨⟨St.right_iff.2 (by omega), St.right_iff.2 (by omega)⟩, St.right_iff.2 ?_⟩
      have e : (lsum P i d).add (atS P (i + d)) = lsum P i (d + 1) := rfl
      rw [e]; omega
    have hx : (⟨((i + d : Nat) : Int), ((i + d : Nat) : Int) + 1, atS P (i + d)⟩ : Ed) ∈ lineE P m := List.mem_map.2 ⟨i + d, List.mem_range.2 (by omega), rfl⟩
    have z := way_snoc (x := ⟨((i + d : Nat) : Int), ((i + d : Nat) : Int) + 1, atS P (i + d)⟩) ih hx ha
    have e : (lsum P i d).after (atS P (i + d)) = lsum P i (d + 1) := by unfold St.after; rw [if_pos ha]; rfl
    rw [show ((i + (d + 1) : Nat) : Int) = ((i + d : Nat) : Int) + 1 by omega, ← e]
    exact z
theorem line_row {P : List St} {m : Nat} (hm : m ≤ 7) (hs : Small P m) {i j : Nat} (hi : i < m + 1) (hj : j < m + 1) : atR (rowM (lineE P m) (m + 1) i (m + 1)) j = if i ≤ j then [lsum P i (j - i)] else [] := by
  have hF := line_fits hs
  split
  · rename_i hij
    refine (clo_uniq hF hi hj (K := [lsum P i (j - i)]) (fun k hk => by simp at hk) ?_ ?_ ?_).symm
    · intro t ht
      rw [List.mem_singleton.1 ht]
      have := line_way hm hs (i := i) (j - i) (by omega)
      rwa [show i + (j - i) = j by omega] at this
    · rintro t ⟨es, h1, h2, h3, _⟩
      have z := line_run h1 h2
      have e : es.length = j - i := by omega
      rw [← h3, z.2, e, cov_iff]
      exact ⟨_, List.mem_singleton.2 rfl, St.le_refl _⟩
    · intro s hs' t ht' _
      rw [List.mem_singleton.1 hs', List.mem_singleton.1 ht']
  · rename_i hij
    refine (clo_uniq hF hi hj (K := []) asc_nil (fun t ht => by cases ht) ?_ (fun s hs' => by cases hs')).symm
    rintro t ⟨es, h1, h2, h3, _⟩
    have z := line_run h1 h2
    omega
theorem line_order {P : List St} {m : Nat} (hs : Small P m) : (orderL (lineE P m) (m + 1)).length = m + 1 :=
  order_of_rank (line_fits hs) id fun x hx _ => by
    obtain ⟨i, hi, rfl⟩ := line_mem hx
    simp only [id]; omega
theorem line_check {P : List St} {m : Nat} (hm : m ≤ 7) (hs : Small P m) : (checkG ((m : Int) + 1) (lineE P m)).1 = 0 := by
  have hF := line_fits hs
  rw [check_of (by omega) (by omega) (by rw [line_len]; omega) (by have := hF; rwa [show ((m + 1 : Nat) : Int) = (m : Int) + 1 by omega] at this) (by rw [show ((m : Int) + 1).toNat = m + 1 by omega, line_order hs]; omega)]
theorem line_clo {P : List St} {m : Nat} (hm : m ≤ 7) (hs : Small P m) : cloG ((m : Int) + 1) (lineE P m) = (cloT (lineE P m) (m + 1) (m + 1), 0) := by
  have hc := line_check hm hs
  have z := clo_ok (n := (m : Int) + 1) (E := lineE P m) hc (by
    intro i hi j hj
    rw [show ((m : Int) + 1).toNat = m + 1 by omega] at *
    rw [line_row hm hs hi hj]
    split <;> simp)
  rwa [show ((m : Int) + 1).toNat = m + 1 by omega] at z
theorem line_at {P : List St} {m : Nat} (hm : m ≤ 7) (hs : Small P m) {i j : Int} (h0 : 0 ≤ i) (hi : i < (m : Int) + 1) (h1 : 0 ≤ j) (hj : j < (m : Int) + 1) : (i ≤ j → atR (at3 (cloT (lineE P m) (m + 1) (m + 1)) i.toNat) j.toNat = [lsum P i.toNat (j.toNat - i.toNat)]) ∧ (j < i → atR (at3 (cloT (lineE P m) (m + 1) (m + 1)) i.toNat) j.toNat = []) := by
  rw [cloT_at (by omega), line_row hm hs (by omega) (by omega)]
  exact ⟨fun h => if_pos (by omega), fun h => if_neg (by omega)⟩
theorem lsum_step {P : List St} {a b : Int} (h0 : 0 ≤ a) (h : a < b) : lsum P a.toNat (b - a).toNat = (lsum P a.toNat ((b - a).toNat - 1)).add (atS P (b - 1).toNat) := by
  obtain ⟨d, hd⟩ : ∃ d, (b - a).toNat = d + 1 := ⟨(b - a).toNat - 1, by omega⟩
  rw [hd, show (b - 1).toNat = a.toNat + d by omega]; rfl
theorem lsum_same {P : List St} {a b : Int} (h0 : a ≤ b) (h : ¬ a < b) : lsum P a.toNat ((b - a).toNat - 1) = lsum P a.toNat (b - a).toNat := by
  rw [show (b - a).toNat - 1 = (b - a).toNat by omega]
theorem line_vals {P : List St} {m : Nat} (hm : m ≤ 7) (hs : Small P m) {a b : Int} (h0 : 0 ≤ a) (hab : a ≤ b) (hb : b < (m : Int) + 1) :
    atR (at3 (cloT (lineE P m) (m + 1) (m + 1)) a.toNat) b.toNat = [lsum P a.toNat (b - a).toNat] ∧ (a < b → (atR (at3 (cloT (lineE P m) (m + 1) (m + 1)) b.toNat) a.toNat).length = 0) := by
  have h1 := (line_at hm hs h0 (by omega) (by omega) hb).1 hab
  rw [show b.toNat - a.toNat = (b - a).toNat by omega] at h1
  exact ⟨h1, fun h => by rw [(line_at hm hs (show 0 ≤ b by omega) hb h0 (by omega)).2 h]; rfl⟩
end Go.Proofs.Ytboinbmgndomhaa
namespace Go.Proofs.Ytboinbmgndomhaa
open Go.RowKit
set_option maxRecDepth 100000
set_option linter.unusedSimpArgs false
set_option linter.unusedVariables false

theorem blk_locS {p : Nat} {t : TypeId} {cs : Array Value} : Loc [p] (fun w => Blk w p t cs) := fun _ _ hk h =>
  ⟨(hk p (by simp)).trans h, fun g hg => by simp only [List.mem_singleton] at hg; subst hg; exact Blk.lt h⟩
def fpSv (B : Nat) (v : Value) : List Nat := B :: v.ownBlock.toList
/-- The variable B of type t holds the slice v of its own: n elements of type ts, m cells each, as cells xs. -/
structure SvV (B : Nat) (t ts : TypeId) (m n : Nat) (xs : List Value) (v : Value) (w : World) : Prop where
  blk : Blk w B t #[v]
  row : w.ownsRow 0 ts m v n xs
  ne : ¬ B ∈ v.ownBlock.toList
section
variable {R : List Nat} {w0 w w' : World} {C : List Ent} {B : Nat} {t ts : TypeId} {m n : Nat} {xs : List Value} {v : Value}
theorem SvV.loc (B : Nat) (t ts : TypeId) (m n : Nat) (xs : List Value) (v : Value) : Loc (fpSv B v) (SvV B t ts m n xs v) := fun w w' hk h => by
  have e1 := blk_locS w w' (fun k hk' => hk k (by simp only [List.mem_singleton] at hk'; simp [fpSv, hk'])) h.blk
  have hlt : ∀ k, v.ownBlock = some k → k < w.heap.size := fun k hk' => (World.ownsRow.lt h.row k hk').2
  refine ⟨⟨e1.1, ⟨h.row.1, ?_⟩, h.ne⟩, fun k hk' => ?_⟩
  · rcases h.row.2 with h4 | ⟨g, cap, cur, h4, h5, h6, h7⟩
    · exact .inl h4
    · exact .inr ⟨g, cap, cur, h4, h5, (hk g (by simp [fpSv, h4, Value.ownBlock])).trans h6, h7⟩
  · rcases List.mem_cons.1 hk' with rfl | h4
    · exact e1.2 k (by simp)
    · exact hlt k (by simpa using h4)
theorem Mm.packSv (M : Mm R w0 w (.row ts m v n xs :: .blk B t #[v] :: C)) : Mm R w0 w (.own (fpSv B v) (SvV B t ts m n xs v) :: C) := by
  have hap := M.apart (i := 1) (j := 0) rfl rfl (by decide)
  refine Mm.recast (X := [.row ts m v n xs, .blk B t #[v]]) (Y := [_]) M (fun y hy => ?_) (fun y hy g hg => ?_) (List.pairwise_singleton _ _) (fun y hy g hg => ?_)
  · rw [List.mem_singleton.1 hy]
    exact ⟨⟨M.at (i := 1) rfl, M.ow (i := 0) rfl, fun h => hap B (by simp [Ent.fp]) (by simpa [Ent.fp] using h)⟩, SvV.loc _ _ _ _ _ _ _⟩
  · rw [List.mem_singleton.1 hy] at hg
    rcases List.mem_cons.1 (show g ∈ B :: v.ownBlock.toList from hg) with rfl | h
    · exact ⟨.blk g t #[v], by simp, by simp [Ent.fp]⟩
    · exact ⟨.row ts m v n xs, by simp, h⟩
  · rw [List.mem_singleton.1 hy] at hg; cases hg
theorem Mm.unpackSv (M : Mm R w0 w (.own (fpSv B v) (SvV B t ts m n xs v) :: C)) : Mm R w0 w (.row ts m v n xs :: .blk B t #[v] :: C) := by
  have h := M.pv (i := 0) rfl
  refine Mm.recast (X := [.own (fpSv B v) (SvV B t ts m n xs v)]) (Y := [.row ts m v n xs, .blk B t #[v]]) M (fun y hy => ?_) (fun y hy g hg => ?_) ?_ (fun y hy g hg => ?_)
  · rcases List.mem_cons.1 hy with rfl | hy
    · exact h.row
    · rw [List.mem_singleton.1 hy]; exact h.blk
  · refine ⟨_, List.mem_singleton.2 rfl, ?_⟩
    show g ∈ B :: v.ownBlock.toList
    rcases List.mem_cons.1 hy with rfl | hy
    · exact List.mem_cons_of_mem _ hg
    · rw [List.mem_singleton.1 hy] at hg; simp only [Ent.fp, List.mem_singleton] at hg; simp [hg]
  · refine List.pairwise_cons.2 ⟨fun y hy g hg hg' => ?_, List.pairwise_singleton _ _⟩
    rw [List.mem_singleton.1 hy] at hg'
    simp only [Ent.fp, List.mem_singleton] at hg'
    subst hg'
    exact h.ne hg
  · rcases List.mem_cons.1 hy with rfl | hy
    · cases hg
    · rw [List.mem_singleton.1 hy] at hg; cases hg
theorem Mm.new1S (M : Mm [] w0 w C) {i : Nat} {x : Ent} (h : C[i]? = some x) : ∀ g ∈ x.fp, w0.heap.size ≤ g := fun g hg => (M.own x (List.mem_of_getElem? h) g hg).resolve_right (by simp)
/-- How a call ends that has turned the variable. -/
def SvZ (B : Nat) (t ts : TypeId) (m : Nat) (xs : List Value) (n : Nat) : Value → Ent → Prop := fun u x' => u = .tuple #[] ∧ ∃ v, x' = .own (fpSv B v) (SvV B t ts m n xs v)
theorem Mm.endSv {v0 : Value} {n0 : Nat} {xs0 : List Value} (M : Mm (fpSv B v0) w0 w C) {i : Nat} (hi : C[i]? = some (.own (fpSv B v) (SvV B t ts m n xs v))) :
    TurnsE w0 (.own (fpSv B v0) (SvV B t ts m n0 xs0 v0)) (SvZ B t ts m xs n) (.returned (.tuple #[])) w :=
  ⟨_, .own (fpSv B v) (SvV B t ts m n xs v), rfl, M.out, ⟨M.pv hi, SvV.loc _ _ _ _ _ _ _⟩, fun g hg => (M.own _ (List.mem_of_getElem? hi) g hg).elim .inr .inl, rfl, rfl, v, rfl⟩
end
/-! ### Calls of function values that turn something -/
section
variable {P : Program} {ops rest : List Oper} {o : Oper} {a : Act} {n d : Nat} {L : List (Nat × Value)} {Q : Exit → Act → World → Prop} {R : List Nat} {w w0 : World} {B : List Ent} {x : Operand}
theorem sq_callVT (F : Fr a n L) (M : Mm R w0 w B) (hw : Region.wanted o (yielded ops.toArray a.tmps) = true) {xs : List Operand} {ts : Array TypeId} {args : List Value} {f i : Nat} {lb : Array Value} {y : Ent} {Z : Value → Ent → Prop} (ho : o.op = .call { callee := .value x, args := xs.toArray, argTypes := ts })
    (hx : a.eval x = .func (.func f) #[] lb) (he : enters P f = true) (ha : xs.map a.eval = args) (hi : B[i]? = some y) (hc : Calls P f (args.toArray ++ lb) w (TurnsE w y Z)) (hd : o.dst = some d) (hdn : Nat.blt d n = true)
    (h : ∀ a' w' v x', Z v x' → Fr a' n ((d, v) :: L) → Mm R w0 w' (B.set i x') → wpList P ops.toArray Q rest a' w') : wpList P ops.toArray Q (o :: rest) a w :=
  wpList_step fun K hK => by
    rw [if_pos hw]
    unfold Oper.wp
    rw [run_callV ho hx ha w, callFunc_enters he]
    refine hc.mono fun e w' ⟨v, x', h1, h2, h3, h4, h5, h6⟩ => ?_
    subst h1
    exact hK _ _ (by rw [hd]; exact h _ _ v x' h6 (F.put hdn) (M.swap hi h2 h3 h4 (fun g hg => by rw [h5] at hg; cases hg)))
end
/-! ### Arrays of ints that are compared -/
section
variable {P : Program} {w : World} {t e : TypeId} {dd N : Nat}
theorem eqIs (he : P.underlying e = some (.int .i64)) {A B : List Int} (hl : A.length = B.length) : ∀ is : List Nat, (∀ i ∈ is, i < A.length) → (Op.eqItems (dd + 1) e 1 (List.toArray (cI A)) (List.toArray (cI B)) is).run P w = .ok (is.all fun i => decide (atI A i = atI B i)) w
  | [], _ => by simp [Op.eqItems]
  | i :: is, h => by
    have hi := h i (by simp)
    have c1 : (List.toArray (cI A))[i]? = some (.int .i64 (atI A i)) := by have := aI_at (T := A) hi; simpa using this
    have c2 : (List.toArray (cI B))[i]? = some (.int .i64 (atI B i)) := by have := aI_at (T := B) (hl ▸ hi); simpa using this
    have p1 : (part e (List.toArray (cI A)) i).run P w = .ok (.int .i64 (atI A i)) w := by
      have hq : (isAgg e).run P w = .ok false w := by simp [isAgg, run_underlying he, TypeDesc.isRow]
      simp [part, hq, c1]
    have p2 : (part e (List.toArray (cI B)) i).run P w = .ok (.int .i64 (atI B i)) w := by
      have hq : (isAgg e).run P w = .ok false w := by simp [isAgg, run_underlying he, TypeDesc.isRow]
      simp [part, hq, c2]
    have p3 : (Op.equalIn (dd + 1) e (.int .i64 (atI A i)) (.int .i64 (atI B i))).run P w = .ok (decide (atI A i = atI B i)) w := by
      rw [run_equalIn_int w dd e _ _ _ _ he]; congr 1
    have ih := eqIs he hl is (fun j hj => h j (by simp [hj]))
    simp only [Op.eqItems, Nat.mul_one, Sem.run_bind, p1, p2, p3, Result.andThen_ok, List.all_cons]
    cases hc : decide (atI A i = atI B i)
    · simp
    · simp [ih]
theorem eqIa (ht : P.underlying t = some (.array N e)) (he : P.underlying e = some (.int .i64)) (hi : (P.info? e).map (·.size) = some 1) (hc : P.cellsOf e = 1) {A B : List Int} (hA : A.length = N) (hB : B.length = N) : (Op.equalIn (dd + 2) t (.agg (List.toArray (cI A))) (.agg (List.toArray (cI B)))).run P w = .ok (decide (A = B)) w := by
  cases hq : P.info? e with
  | none => simp [hq] at hi
  | some i =>
    rw [run_equalIn_array w (dd + 1) _ _ ht hq, hc, eqIs he (hA.trans hB.symm) _ (fun i hi => by rw [hA]; exact List.mem_range.1 hi)]
    congr 1
    rw [Bool.eq_iff_iff, List.all_eq_true, decide_eq_true_iff]
    refine ⟨fun h => ext_atI (hA.trans hB.symm) fun k hk => ?_, fun h i _ => by rw [h]; simp⟩
    have := h k (List.mem_range.2 (hA ▸ hk))
    simpa using this
end
/-! ### A closure's form -/
/-- The first i of eight numbers, then noughts. -/
def upI (f : Nat → Int) (i : Nat) : List Int := (List.range 8).map fun q => if q < i then f q else 0
theorem upI_len (f : Nat → Int) (i : Nat) : (upI f i).length = 8 := by simp [upI]
theorem upI_at {f : Nat → Int} {i q : Nat} (h : q < 8) : atI (upI f i) q = if q < i then f q else 0 := by
  rw [atI_eq (by rw [upI_len]; exact h)]; simp [upI]
theorem upI_zero (f : Nat → Int) : List.replicate 8 0 = upI f (0 : Int).toNat := by
  apply ext_atI
  · rw [upI_len]; simp
  · intro k hk
    have hk8 : k < 8 := by simpa using hk
    rw [upI_at hk8, atI_eq hk, List.getElem_replicate]; simp
theorem upI_step {f : Nat → Int} {i : Int} (h0 : 0 ≤ i) (h8 : i < 8) : (upI f i.toNat).set i.toNat (f i.toNat) = upI f (i + 1).toNat := by
  apply ext_atI
  · rw [List.length_set, upI_len, upI_len]
  · intro k hk
    have hk8 : k < 8 := by rw [List.length_set, upI_len] at hk; exact hk
    rw [atI_set (by rw [upI_len]; omega), upI_at hk8, upI_at hk8, show (i + 1).toNat = i.toNat + 1 by omega]
    split
    · rename_i e; subst e; rw [if_pos (by omega)]
    · rename_i e
      by_cases hlt : k < i.toNat
      · rw [if_pos hlt, if_pos (by omega)]
      · rw [if_neg hlt, if_neg (by omega)]
theorem upI_eq {f g : Nat → Int} {i : Nat} (h8 : i ≤ 8) : upI f i = upI g i ↔ ∀ q, q < i → f q = g q := by
  constructor
  · intro h q hq
    have := congrArg (fun l => atI l q) h
    simp only [upI_at (show q < 8 by omega), if_pos hq] at this
    exact this
  · intro h
    unfold upI
    apply List.map_congr_left
    intro q hq
    split
    · exact h q (by assumption)
    · rfl
/-- Rows as many as c has, all of them as long. -/
def squareB (L : List (List (List St))) : Bool := decide (L.length ≤ 8) && L.all (fun r => decide (r.length = L.length))
theorem sq_big {L : List (List (List St))} (h : 8 < L.length) : squareB L = false := by
  unfold squareB; rw [decide_eq_false (by omega)]; rfl
theorem sq_all {L : List (List (List St))} {i : Int} (h8 : L.length ≤ 8) (h : ¬ i < (L.length : Int)) (h1 : i ≤ (L.length : Int)) :
    decide (upI (fun q => ((at3 L q).length : Int)) i.toNat = upI (fun _ => (L.length : Int)) i.toNat) = squareB L := by
  unfold squareB
  rw [decide_eq_true h8, Bool.true_and, Bool.eq_iff_iff, decide_eq_true_iff, upI_eq (by omega), List.all_eq_true]
  constructor
  · intro z r hr
    obtain ⟨q, hq, e⟩ := List.mem_iff_getElem.1 hr
    have := z q (by omega)
    rw [at3_eq hq, e] at this
    exact decide_eq_true (by omega)
  · intro z q hq
    have := of_decide_eq_true (z (at3 L q) (by rw [at3_eq (show q < L.length by omega)]; exact List.getElem_mem _))
    rw [this]
/-- c has the node. -/
def nodeB (L : List (List (List St))) (k : Int) : Bool := decide (0 ≤ k ∧ k < (L.length : Int))
theorem node_no {L : List (List (List St))} {k : Int} (h : ¬ (0 ≤ k ∧ k < (L.length : Int))) : nodeB L k = false := decide_eq_false h
theorem node_yes {L : List (List (List St))} {k : Int} (h : 0 ≤ k) : nodeB L k = decide (k < (L.length : Int)) := by unfold nodeB; rw [decide_eq_decide]; omega
theorem right_split (L : List (List (List St))) (p : Po) : rightC L p = (squareB L && (nodeB L p.n && p.t.rightB)) := by
  rw [Bool.eq_iff_iff, rightC_iff]
  unfold squareB nodeB
  simp only [Bool.and_eq_true, decide_eq_true_iff, List.all_eq_true]
  constructor
  · rintro ⟨⟨_, h8⟩, h2, h3, h4⟩; exact ⟨⟨h8, h2⟩, h3, h4⟩
  · rintro ⟨⟨h8, h2⟩, h3, h4⟩; exact ⟨⟨by omega, h8⟩, h2, h3, h4⟩
end Go.Proofs.Ytboinbmgndomhaa
namespace Go.Proofs.Ytboinbmgndomhaa
open Go.RowKit
set_option maxRecDepth 100000
set_option linter.unusedSimpArgs false
set_option linter.unusedVariables false

theorem made_two (n : Nat) : madeCells #[.int .i64 0, .int .i64 0] (n * 2) = cL (List.replicate n St.zero) := by
  apply Array.ext
  · rw [cL_size, List.length_replicate]; simp [madeCells]
  · intro j h1 h2
    have hj : j < n * 2 := by simpa [madeCells] using h1
    have hc := cS_at (L := List.replicate n St.zero) (i := j / 2) (by simp; omega)
    have hg : (cS (List.replicate n St.zero))[j / 2 * 2 + j % 2]? = [Value.int .i64 (atS (List.replicate n St.zero) (j / 2)).e, .int .i64 (atS (List.replicate n St.zero) (j / 2)).r][j % 2]? := by
      rw [← hc]; simp [Nat.mod_lt j (show 0 < 2 by omega)]
    have hl : j < (cS (List.replicate n St.zero)).length := by rw [cS_len, List.length_replicate]; exact hj
    rw [show j / 2 * 2 + j % 2 = j by omega, List.getElem?_eq_getElem hl] at hg
    have ha : atS (List.replicate n St.zero) (j / 2) = St.zero := by rw [atS_eq (by simp; omega)]; simp
    rw [ha] at hg
    simp only [madeCells, cL, List.getElem_toArray]
    rcases (show j % 2 = 0 ∨ j % 2 = 1 by omega) with h5 | h5
    · rw [h5] at hg
      rw [Option.some.inj hg]
      simp [St.zero, h5]
    · rw [h5] at hg
      rw [Option.some.inj hg]
      simp [St.zero, h5]
section
variable {P : Program} {ops rest : List Oper} {o : Oper} {a : Act} {n d : Nat} {L : List (Nat × Value)} {Q : Exit → Act → World → Prop} {R : List Nat} {w w0 : World} {B : List Ent} {x y : Operand} {t e : TypeId} {i g k : Nat} {K : List St}
theorem sq_makeS (F : Fr a n L) (M : Mm R w0 w B) (hw : Region.wanted o (yielded ops.toArray a.tmps) = true) {kc kl : IntKind} (ho : o.op = .makeSlice t x y) (hx : a.eval x = .int kl ((k : Nat) : Int)) (hy : a.eval y = .int kc ((k : Nat) : Int)) (ht : P.underlying t = some (.slice e))
    (hE : (P.info? e).map (fun i => (i.zero, i.size, i.bytes)) = some (some (.agg #[.int .i64 0, .int .i64 0]), 2, 16))
    (hk : k ≤ 20000000) (hd : o.dst = some d) (hdn : Nat.blt d n = true)
    (h : ∀ a' w' g, Fr a' n ((d, .slice (some ⟨g, 0, none⟩) k k) :: L) → Mm R w0 w' (.blk g e (cL (List.replicate k St.zero)) :: B) → wpList P ops.toArray Q rest a' w') : wpList P ops.toArray Q (o :: rest) a w := by
  cases hq : P.info? e with
  | none => simp [hq] at hE
  | some inf =>
    simp only [hq, Option.map_some, Option.some.injEq, Prod.mk.injEq] at hE
    have hb' : (inf.bytes : Int) * ((k : Nat) : Int) ≤ 281474976710656 := by
      rw [hE.2.2]; omega
    have hr := run_make (P := P) w t e inf (.agg #[.int .i64 0, .int .i64 0]) ht hq hE.1 kl kc ((k : Nat) : Int) ((k : Nat) : Int) (by omega) (Int.le_refl _) hb' (by omega)
    rw [hE.2.1] at hr
    simp only [Int.toNat_natCast] at hr
    rw [show (Value.agg #[.int .i64 0, .int .i64 0]).cells = #[Value.int .i64 0, .int .i64 0] from rfl, made_two] at hr
    exact sq_run F hw (v := .slice (some ⟨w.heap.size, 0, none⟩) k k) (by simp only [execOp, ho, hx, hy, Sem.run_bind, hr, Result.andThen_ok, Sem.run_pure]) (M.alloc e _) hd hdn (fun a' w' F' M' => h a' w' _ F' M')
/-- A block of stamps, whole, as a slice of the call's own. -/
theorem Mm.blkRow (M : Mm R w0 w B) (h : B[i]? = some (.blk g t (cL K))) (hz : K.length = k) (hn : k ≤ 1000000000) : Mm R w0 w (B.set i (.row t 2 (.slice (some ⟨g, 0, none⟩) k k) K.length (cS K))) :=
  M.swap h (x' := .row t 2 (.slice (some ⟨g, 0, none⟩) k k) K.length (cS K)) (Out.refl _ _) (by rw [hz]; exact own_whole (M.at h) hz hn) (fun g' hg => .inl (by simpa [Ent.fp, Value.ownBlock] using hg)) (fun g hg => by cases hg)
end
theorem set_same {K L : List St} {i : Nat} (hz : K.length = L.length) (hi : i < L.length) (h : ∀ k, k < i → atS K k = atS L k) : ∀ k, k < i + 1 → atS (K.set i (atS L i)) k = atS L k := fun k hk => by
  rcases Nat.lt_or_ge k i with h1 | h1
  · rw [← h k h1]; unfold atS; simp only [List.getD_eq_getElem?_getD]; rw [List.getElem?_set_ne (by omega)]
  · have e : k = i := by omega
    subst e
    unfold atS; rw [List.getD_eq_getElem?_getD, List.getElem?_set_self (by omega), List.getD_eq_getElem?_getD, List.getElem?_eq_getElem hi]; rfl
theorem eq_of_at {K L : List St} {i : Nat} (hz : K.length = L.length) (hi : ¬ i < L.length) (h : ∀ k, k < i → atS K k = atS L k) : K = L := by
  apply List.ext_getElem hz
  intro k h1 h2
  have e := h k (by omega)
  rwa [atS_eq h1, atS_eq h2] at e
end Go.Proofs.Ytboinbmgndomhaa
namespace Go.Proofs.Ytboinbmgndomhaa
open Go.RowKit
set_option maxRecDepth 100000
set_option linter.unusedSimpArgs false
set_option linter.unusedVariables false

theorem nd_len {α : Type} [DecidableEq α] : ∀ {l m : List α}, l.Nodup → (∀ a ∈ l, a ∈ m) → l.length ≤ m.length
  | [], _, _, _ => Nat.zero_le _
  | a :: r, m, hn, hs => by
    obtain ⟨h1, h2⟩ := List.nodup_cons.1 hn
    have ha := hs a (by simp)
    have h3 := nd_len (m := m.erase a) h2 fun b hb => (List.mem_erase_of_ne (show b ≠ a from fun e => h1 (by rw [← e]; exact hb))).2 (hs b (by simp [hb]))
    rw [List.length_erase_of_mem ha] at h3
    have := List.length_pos_of_mem ha
    simp only [List.length_cons]; omega
section
variable {L : List (List (List St))} {B R : Bags} {p q : Po} {x k : Int} {s t u : St} {C D : List Ct}
theorem pos_nodup (h : BagOK C) : (posL C).Nodup := by
  unfold posL
  have hpw : (C.map (·.1)).Nodup := by
    show List.Pairwise _ _
    rw [List.pairwise_map]; exact h.asc.nodup
  exact hpw.sublist (List.Sublist.map _ List.filter_sublist)
theorem places_nodup : (placesC L p k).Nodup := by
  unfold placesC
  split
  · exact (minL_asc _).nodup
  · exact List.nodup_nil
theorem places_rightB (h : s ∈ placesC L p k) : s.rightB = true := by
  unfold placesC at h
  split at h
  · obtain ⟨q, _, h2, rfl⟩ := mem_sums1.1 (mem_minL.1 h).1
    rw [after_yes h2]
    unfold St.afterB at h2
    rw [Bool.and_eq_true] at h2
    exact h2.2
  · cases h
/-! ### How many points of a bag, and of all bags, lead to a stamp at a node -/
def hitC (L : List (List (List St))) (k : Int) (s : St) (i : Int) (C : List Ct) : Nat := (posL C).countP fun t => decide (s ∈ placesC L ⟨i, t⟩ k)
def sumF (f : Nat → Nat) : Nat → Nat
  | 0 => 0
  | n + 1 => sumF f n + f n
def cntH (L : List (List (List St))) (B : Bags) (k : Int) (s : St) : Nat := sumF (fun i => hitC L k s (i : Int) (atK B i)) B.length
theorem sumF_one {f g : Nat → Nat} {j : Nat} (h : ∀ i, i ≠ j → f i = g i) : ∀ n, sumF f n + (if j < n then g j else 0) = sumF g n + (if j < n then f j else 0)
  | 0 => rfl
  | n + 1 => by
    have ih := sumF_one h n
    simp only [sumF]
    by_cases e : n = j
    · subst e
      rw [if_neg (by omega), if_neg (by omega)] at ih
      rw [if_pos (by omega), if_pos (by omega)]; omega
    · rw [h n e]
      by_cases e2 : j < n
      · rw [if_pos e2, if_pos e2] at ih
        rw [if_pos (by omega), if_pos (by omega)]; omega
      · rw [if_neg e2, if_neg e2] at ih
        rw [if_neg (by omega), if_neg (by omega)]; omega
theorem sumF_le {f : Nat → Nat} {c : Nat} (h : ∀ i, f i ≤ c) : ∀ n, sumF f n ≤ n * c
  | 0 => by simp [sumF]
  | n + 1 => by
    have := sumF_le h n
    have := h n
    simp only [sumF, Nat.add_mul]; omega
theorem sumF_pos {f : Nat → Nat} : ∀ n, 0 < sumF f n ↔ ∃ i, i < n ∧ 0 < f i
  | 0 => ⟨fun h => by simp [sumF] at h, fun ⟨i, h, _⟩ => by omega⟩
  | n + 1 => by
    simp only [sumF]
    constructor
    · intro h
      by_cases h0 : 0 < f n
      · exact ⟨n, by omega, h0⟩
      · obtain ⟨i, hi, h1⟩ := (sumF_pos (f := f) n).1 (by omega)
        exact ⟨i, by omega, h1⟩
    · rintro ⟨i, hi, h1⟩
      by_cases e : i = n
      · subst e; omega
      · have := (sumF_pos (f := f) n).2 ⟨i, by omega, h1⟩; omega
theorem hit_le {m : Nat} (h : C.length ≤ m) (i : Int) : hitC L k s i C ≤ m := Nat.le_trans List.countP_le_length (Nat.le_trans (posL_len _) h)
theorem cntH_le {m : Nat} (hs : SmB B m) : cntH L B k s ≤ B.length * m := sumF_le (fun i => hit_le (hs i) _) _
theorem mem_all : s ∈ allPl L B k ↔ 0 < cntH L B k s := by
  unfold allPl nodePl cntH hitC
  rw [sumF_pos]
  simp only [List.mem_flatMap, List.mem_range, List.countP_pos_iff, decide_eq_true_iff]
theorem hit_perm (h : ∀ u, u ∈ posL D ↔ u ∈ posL C) (hC : BagOK C) (hD : BagOK D) (i : Int) : hitC L k s i D = hitC L k s i C := by
  unfold hitC
  exact ((List.perm_ext_iff_of_nodup (pos_nodup hD) (pos_nodup hC)).2 h).countP_eq _
theorem hit_more (h : ∀ u, u ∈ posL D ↔ u = t ∨ u ∈ posL C) (ht : ¬ t ∈ posL C) (hC : BagOK C) (hD : BagOK D) (i : Int) : hitC L k s i D = hitC L k s i C + (if s ∈ placesC L ⟨i, t⟩ k then 1 else 0) := by
  unfold hitC
  rw [((List.perm_ext_iff_of_nodup (pos_nodup hD) (List.nodup_cons.2 ⟨ht, pos_nodup hC⟩)).2 (fun u => by rw [h, List.mem_cons])).countP_eq, List.countP_cons]
  simp
/-- What a point's count adds to what it leads to, when it is C's t and n more come. -/
def leadN (C : List Ct) (t : St) (n : Int) : Int := if 0 < ofC C t then (if 0 < ofC (addC C t n) t then 0 else -1) else (if 0 < ofC (addC C t n) t then 1 else 0)
theorem hit_add (hC : BagOK C) (t : St) (n : Int) (i : Int) : (hitC L k s i (addC C t n) : Int) = hitC L k s i C + (if s ∈ placesC L ⟨i, t⟩ k then leadN C t n else 0) := by
  have hD := hC.add t n
  have hne : ∀ u, u ≠ t → (u ∈ posL (addC C t n) ↔ u ∈ posL C) := fun u hu => by
    rw [mem_pos hD, mem_pos hC, of_add hC.asc, if_neg (fun z => hu z.1)]
  unfold leadN
  by_cases h1 : 0 < ofC C t <;> by_cases h2 : 0 < ofC (addC C t n) t
  · rw [if_pos h1, if_pos h2, hit_perm (fun u => ?_) hC hD]
    · simp
    · by_cases hu : u = t
      · subst hu; rw [mem_pos hD, mem_pos hC]; exact ⟨fun _ => h1, fun _ => h2⟩
      · exact hne u hu
  · rw [if_pos h1, if_neg h2, hit_more (C := addC C t n) (D := C) (t := t) (fun u => ?_) (fun z => h2 ((mem_pos hD).1 z)) hD hC]
    · split <;> simp <;> omega
    · by_cases hu : u = t
      · subst hu; rw [mem_pos hC]; exact ⟨fun _ => .inl rfl, fun _ => h1⟩
      · rw [← hne u hu]; exact ⟨.inr, fun z => z.resolve_left hu⟩
  · rw [if_neg h1, if_pos h2, hit_more (C := C) (D := addC C t n) (t := t) (fun u => ?_) (fun z => h1 ((mem_pos hC).1 z)) hC hD]
    · split <;> simp
    · by_cases hu : u = t
      · subst hu; rw [mem_pos hD]; exact ⟨fun _ => .inl rfl, fun _ => h2⟩
      · rw [hne u hu]; exact ⟨.inr, fun z => z.resolve_left hu⟩
  · rw [if_neg h1, if_neg h2, hit_perm (fun u => ?_) hC hD]
    · simp
    · by_cases hu : u = t
      · subst hu; rw [mem_pos hD, mem_pos hC]; exact ⟨fun z => absurd z h2, fun z => absurd z h1⟩
      · exact hne u hu
theorem cnt_add (hr : rightC L p = true) (hl : L.length = B.length) (hB : OKs B) : (cntH L (addTB L B p x) k s : Int) = cntH L B k s + (if s ∈ placesC L p k then leadN (atK B p.n.toNat) p.t x else 0) := by
  have hp := (rightC_at hr).2.1
  have hj : p.n.toNat < B.length := by omega
  unfold cntH
  rw [addT_len]
  have h1 := sumF_one (f := fun i => hitC L k s (i : Int) (atK (addTB L B p x) i)) (g := fun i => hitC L k s (i : Int) (atK B i)) (j := p.n.toNat) (fun i hi => by
    show hitC L k s (i : Int) (atK (addTB L B p x) i) = hitC L k s (i : Int) (atK B i)
    rw [(addT_yes hr).2, atK_set hj, if_neg (fun z => hi z.symm)]) B.length
  rw [if_pos hj, if_pos hj] at h1
  have h2 := hit_add (L := L) (k := k) (s := s) (hB _ hj) p.t x (p.n.toNat : Int)
  have h3 : atK (addTB L B p x) p.n.toNat = addC (atK B p.n.toNat) p.t x := by rw [(addT_yes hr).2, atK_set hj, if_pos rfl]
  have h4 : (⟨(p.n.toNat : Int), p.t⟩ : Po) = p := by cases p; simp at hp ⊢; omega
  simp only [h3] at h1
  rw [h4] at h2
  omega
/-! ### What is kept of it -/
/-- At each node, for each stamp the number of points that lead there. -/
structure InvR (L : List (List (List St))) (B R : Bags) : Prop where
  len : R.length = B.length
  ok : OKs R
  of : ∀ i, i < B.length → ∀ s, ofC (atK R i) s = (cntH L B (i : Int) s : Int)
theorem InvR.new (n : Nat) : InvR L (List.replicate n []) (List.replicate n []) := ⟨rfl, ok_new n, fun i hi s => by
  rw [List.length_replicate] at hi
  have h0 : cntH L (List.replicate n []) (i : Int) s = 0 := by
    by_cases h : 0 < cntH L (List.replicate n []) (i : Int) s
    · obtain ⟨j, _, h1⟩ := (sumF_pos _).1 h
      simp only [hitC, List.countP_pos_iff] at h1
      obtain ⟨u, hu, _⟩ := h1
      rw [show atK (List.replicate n []) j = [] by unfold atK; rw [List.getD_eq_getElem?_getD, List.getElem?_replicate]; split <;> rfl] at hu
      cases hu
    · omega
  rw [h0, atK_eq (by simpa using hi), List.getElem_replicate]; rfl⟩
theorem InvR.front (h : InvR L B R) (h0 : 0 ≤ k) (hk : k < (B.length : Int)) : minL (posL (atK R k.toNat)) = frontT L B k := by
  unfold frontT
  refine min_mem fun t => ?_
  rw [mem_pos (h.ok _ (by rw [h.len]; omega)), h.of _ (by omega), mem_all, show ((k.toNat : Nat) : Int) = k by omega]
  omega
theorem InvR.small (h : InvR L B R) (hs : Sm64 L) (hl : B.length ≤ 8) (hb : SmB B 1000) {i : Nat} (hi : i < B.length) : (atK R i).length ≤ 600000 := by
  have h1 : ∀ t ∈ (atK R i).map (·.1), t ∈ allPl L B (i : Int) := fun t ht => by
    obtain ⟨c, hc, rfl⟩ := List.mem_map.1 ht
    have h2 := (h.ok i (by rw [h.len]; exact hi)).mem.1 hc
    rw [mem_all]
    have h3 := h.of i hi c.1
    rw [h2.1] at h3
    have := h2.2
    omega
  have hnd : ((atK R i).map (·.1)).Nodup := by
    show List.Pairwise _ _
    rw [List.pairwise_map]; exact (h.ok i (by rw [h.len]; exact hi)).asc.nodup
  have h2 := nd_len hnd h1
  rw [List.length_map] at h2
  refine Nat.le_trans h2 ?_
  exact all_len3 hs hl hb
/-! ### What a point leads to, n times more -/
def leadC (C : List Ct) (l : List St) (n : Int) : List Ct := l.foldl (fun C s => addC C s n) C
theorem leadC_ok (h : BagOK C) (n : Int) : ∀ l, BagOK (leadC C l n) := by
  intro l
  unfold leadC
  induction l generalizing C with
  | nil => exact h
  | cons a r ih => exact ih (h.add a n)
theorem leadC_snoc (C : List Ct) (l : List St) (n : Int) (s : St) : leadC C (l ++ [s]) n = addC (leadC C l n) s n := by unfold leadC; rw [List.foldl_append]; rfl
theorem leadC_of {l : List St} {n : Int} (hC : BagOK C) (hn : l.Nodup) (hr : ∀ s ∈ l, s.rightB = true ∧ -1000000000 ≤ ofC C s + n ∧ ofC C s + n ≤ 1000000000) : ofC (leadC C l n) s = ofC C s + if s ∈ l then n else 0 := by
  unfold leadC
  induction l generalizing C with
  | nil => simp
  | cons a r ih =>
    obtain ⟨h1, h2⟩ := List.nodup_cons.1 hn
    have ha := hr a (by simp)
    have h0 : addE C a n = 0 := add_iff.2 ha
    have hof : ∀ u, ofC (addC C a n) u = if u = a then ofC C a + n else ofC C u := fun u => by
      rw [of_add hC.asc]; simp [h0]
    rw [List.foldl_cons, ih (hC.add a n) h2 (fun u hu => by
      rw [hof, if_neg (show ¬ u = a from fun e => h1 (by rw [← e]; exact hu))]
      exact hr u (by simp [hu])), hof]
    by_cases e : s = a
    · subst e; simp [h1]
    · simp [e]
/-- .. at the first j nodes. -/
def leadR (L : List (List (List St))) (R : Bags) (p : Po) (n : Int) : Nat → Bags
  | 0 => R
  | j + 1 => (leadR L R p n j).set j (leadC (atK (leadR L R p n j) j) (placesC L p (j : Int)) n)
theorem leadR_len (n : Int) : ∀ j, (leadR L R p n j).length = R.length
  | 0 => rfl
  | j + 1 => by rw [leadR, List.length_set, leadR_len n j]
theorem leadR_at (n : Int) : ∀ j i, i < R.length → j ≤ R.length → atK (leadR L R p n j) i = if i < j then leadC (atK R i) (placesC L p (i : Int)) n else atK R i
  | 0, _, _, _ => rfl
  | j + 1, i, hi, hj => by
    have ih := leadR_at n j i hi (by omega)
    have ihj := leadR_at n j j (by omega) (by omega)
    rw [if_neg (by omega)] at ihj
    rw [leadR, atK_set (by rw [leadR_len]; omega)]
    by_cases e : j = i
    · subst e
      rw [if_pos rfl, if_pos (by omega), ihj]
    · rw [if_neg e, ih]
      by_cases h1 : i < j
      · rw [if_pos h1, if_pos (by omega)]
      · rw [if_neg h1, if_neg (by omega)]
theorem InvR.lead {n : Int} (h : InvR L B R) (hr : rightC L p = true) (hl : L.length = B.length) (hB : OKs B) (hb : SmB B 1000) (hn : leadN (atK B p.n.toNat) p.t x = n) : InvR L (addTB L B p x) (leadR L R p n L.length) := by
  have h8 : B.length ≤ 8 := by have := (rightC_at hr).1.2; omega
  have hn1 : n = -1 ∨ n = 0 ∨ n = 1 := by
    rw [← hn]; unfold leadN
    split <;> split <;> simp
  have hat : ∀ i, i < B.length → atK (leadR L R p n L.length) i = leadC (atK R i) (placesC L p (i : Int)) n := fun i hi => by
    rw [leadR_at n _ i (by rw [h.len]; exact hi) (by rw [h.len]; omega), if_pos (by omega)]
  refine ⟨by rw [leadR_len, addT_len, h.len], fun i hi => ?_, fun i hi s => ?_⟩
  · rw [leadR_len, h.len] at hi
    rw [hat i hi]
    exact leadC_ok (h.ok i (by rw [h.len]; exact hi)) n _
  · rw [addT_len] at hi
    rw [hat i hi, leadC_of (h.ok i (by rw [h.len]; exact hi)) places_nodup (fun u hu => ⟨places_rightB hu, ?_⟩), h.of i hi, cnt_add hr hl hB, hn]
    have h1 := h.of i hi u
    have h2 := cntH_le (L := L) (k := (i : Int)) (s := u) hb
    have h3 : B.length * 1000 ≤ 8 * 1000 := Nat.mul_le_mul_right _ h8
    omega
/-- Nothing is led: the counts above nought are as they were. -/
theorem InvR.same (h : InvR L B R) (hr : rightC L p = true) (hl : L.length = B.length) (hB : OKs B) (hn : leadN (atK B p.n.toNat) p.t x = 0) : InvR L (addTB L B p x) R :=
  ⟨by rw [addT_len, h.len], h.ok, fun i hi s => by
    rw [addT_len] at hi
    rw [h.of i hi, cnt_add hr hl hB, hn]; simp⟩
end
end Go.Proofs.Ytboinbmgndomhaa
