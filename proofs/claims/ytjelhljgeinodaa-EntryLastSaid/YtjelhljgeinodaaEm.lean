/- Ledgers of entries: heads, what is wrong with them, the next one; slices of entries. Any seat with layer 10 in it. -/
import Derived.Test.YtjelhljgeinodaaHc
import Derived.Test.YtjelhljgeinodaaWn
import Derived.Test.YtjelhljgeinodaaGv
import Derived.Deep.MidRow
namespace Go.Proofs.Ytjelhljgeinodaa
open Go.RowKit
set_option maxRecDepth 100000
set_option linter.unusedSimpArgs false
set_option linter.unusedVariables false

section
variable {w : World} {v : Value} {n k : Nat} {L : List En}
theorem drop_rvN (h : RdV w 40 v n (cN L)) (hz : L.length = n) (hk : k ≤ n) : RdV w 40 (subS 40 k n v) (n - k) (cN (L.drop k)) := by
  have h' : RdV w encN.m v n (cE encN L) := h
  have := sub_rdv h' hk (Nat.le_refl n)
  rw [cE_drop, show (n - k) * encN.m = (L.drop k).length * encN.m by rw [List.length_drop, hz], cE_take, List.take_length] at this
  exact this
theorem take_rvN (h : RdV w 40 v n (cN L)) (_hz : L.length = n) (hk : k ≤ n) : RdV w 40 (subS 40 0 k v) k (cN (L.take k)) := by
  have h' : RdV w encN.m v n (cE encN L) := h
  have := sub_rdv h' (Nat.zero_le k) hk
  rw [Nat.zero_mul, List.drop_zero, Nat.sub_zero, cE_take] at this
  exact this
end
section
variable {P : Program} {ops rest : List Oper} {o : Oper} {a : Act} {n : Nat} {Z : List (Nat × Value)} {Q : Exit → Act → World → Prop} {R : List Nat} {w w0 : World} {B : List Ent} {x y : Operand} {t ty : TypeId} {i j k m : Nat} {v : Value} {xs ys : List Value}
/-- A store of a whole element into a slice of the call's own. -/
theorem sq_stR (F : Fr a n Z) (M : Mm R w0 w B) (hw : Region.wanted o (yielded ops.toArray a.tmps) = true) (ho : o.op = .store ty x y) (hx : a.eval x = .pointer (some ⟨gof v, oof v + j * m, none⟩)) (hy : a.eval y = .agg (List.toArray ys))
    (hi : B[i]? = some (.row t m v k xs)) (hT : AggTy P ty m) (hm : ys.length = m) (hk : j < k) (h1 : ∀ v ∈ ys, v.oneCell' = true) (hd : o.dst = none)
    (h : ∀ w', Mm R w0 w' (B.set i (.row t m v k (xs.take (j * m) ++ ys ++ xs.drop (j * m + m)))) → wpList P ops.toArray Q rest a w') : wpList P ops.toArray Q (o :: rest) a w := by
  have hown : w.ownsRow 0 t m v k xs := M.get hi
  have hjm : j * m + m ≤ k * m := by
    have := Nat.mul_le_mul_right m (show j + 1 ≤ k by omega)
    rw [Nat.add_mul, Nat.one_mul] at this
    exact this
  rcases hown.2 with ⟨rfl, rfl⟩ | ⟨g, cap, cur, rfl, hbg, hg, hnc, hcm, hcs, htake⟩
  · omega
  · have hcap : k * m ≤ cap * m := Nat.mul_le_mul_right m hnc
    obtain ⟨d, hu, hr, hs⟩ := hT
    cases hq : P.info? ty with
    | none => simp [hq] at hs
    | some inf =>
      simp only [hq, Option.map_some, Option.some.injEq] at hs
      have hst := run_storeCells_at P g (j * m) t ys 0 cur w hg (by omega) h1
      simp only [Nat.add_zero, hm] at hst
      have hxl := hown.1
      have hnew : (cur.toList.take (j * m) ++ ys ++ cur.toList.drop (j * m + m)).length = cur.size := by simp [hm]; omega
      refine sq_run0 (v := undef) (w' := w.setRow g (cur.toList.take (j * m) ++ ys ++ cur.toList.drop (j * m + m)).toArray) F hw (.inr ?_) (M.swap hi (x' := .row t m (.slice (some ⟨g, 0, none⟩) k cap) k (xs.take (j * m) ++ ys ++ xs.drop (j * m + m))) ⟨rfl, rfl, rfl, by simp, fun q _ hq => ?_⟩ ?_ (fun g h => .inl h) (fun g h => by cases h)) hd h
      · have hx' : a.eval x = .pointer (some ⟨g, j * m, none⟩) := by rw [hx]; simp [gof, oof]
        simp only [execOp, ho, hx', hy]
        simp [Instr.storeAt, Instr.sureAddr, storeVar, sizeOf, typeInfo, hq, hs, Value.cells, hm, hst]
      · have hne : g ≠ q := fun e => hq (by rw [e]; simp [Ent.fp, Value.ownBlock])
        simp [World.setRow, Array.getElem?_modify, hne]
      · refine ⟨by rw [List.length_append, List.length_append, List.length_take, List.length_drop, hm, hxl, Nat.min_eq_left (by omega)]; omega, .inr ⟨g, cap, _, rfl, hbg, Blk.row hg _, hnc, hcm, ?_, ?_⟩⟩
        · rw [List.size_toArray, hnew]; exact hcs
        · rw [← htake]
          apply List.ext_getElem?
          intro q
          simp only [List.getElem?_take, List.getElem?_append, List.getElem?_drop, List.length_append, List.length_take, List.length_drop, hm]
          grind
end
theorem cN_set {L : List En} {j : Nat} (h : j < L.length) (e : En) : (cN L).take (j * 40) ++ cEn e ++ (cN L).drop (j * 40 + 40) = cN (L.set j e) := by
  have h1 : (cN L).take (j * 40) = cN (L.take j) := cE_take (E := encN) L j
  have h2 : (cN L).drop (j * 40 + 40) = cN (L.drop (j + 1)) := by
    rw [show j * 40 + 40 = (j + 1) * 40 by omega]; exact cE_drop (E := encN) L (j + 1)
  have h3 : cEn e = cN [e] := by show cEn e = cEn e ++ []; rw [List.append_nil]
  rw [h1, h2, h3, ← cN_app, ← cN_app]
  congr 1
  rw [List.set_eq_take_append_cons_drop, if_pos h]
  simp
theorem atN_take {L : List En} {k i : Nat} (h : i < k) : atN (L.take k) i = atN L i := by
  unfold atN atE
  rw [List.getD_eq_getElem?_getD, List.getElem?_take, if_pos h, ← List.getD_eq_getElem?_getD]
/-- The head of entries. -/
def headB (L : List En) : B32 := if L.length = 0 then B32.zero else sumB (entryL (atN L (L.length - 1)))
theorem head_nil {L : List En} (h : L.length = 0) : headB L = B32.zero := if_pos h
theorem head_some {L : List En} (h : ¬ L.length = 0) : headB L = sumB (entryL (atN L (((L.length : Nat) : Int) - 1).toNat)) := by
  rw [headB, if_neg h, show (((L.length : Nat) : Int) - 1).toNat = L.length - 1 by omega]
/-- What is wrong with entries, from the i-th on. -/
def chkF (L : List En) : Nat → Nat → Int × Int
  | _, 0 => (0, -1)
  | i, k + 1 => if rightN (atN L i) = false then (2, (i : Int)) else if (atN L i).seq ≠ (i : Int) then (6, (i : Int)) else if (atN L i).prev ≠ headB (L.take i) then (7, (i : Int)) else chkF L (i + 1) k
def chkL (L : List En) : Int × Int := chkF L 0 L.length
def chkE (L : List En) : Int := (chkL L).1
def chkI (L : List En) : Int := (chkL L).2
/-- All before the i-th are as they should be. -/
def ChkTo (L : List En) (i : Nat) : Prop := chkL L = chkF L i (L.length - i)
theorem chk_zero {L : List En} : ChkTo L (0 : Int).toNat := rfl
section
variable {L : List En} {i : Int}
theorem chk_at (h : ChkTo L i.toNat) (h0 : 0 ≤ i) (hi : i < (L.length : Int)) : chkL L = if rightN (atN L i.toNat) = false then (2, i) else if (atN L i.toNat).seq ≠ i then (6, i) else if (atN L i.toNat).prev ≠ headB (L.take i.toNat) then (7, i) else chkF L (i.toNat + 1) (L.length - (i.toNat + 1)) := by
  unfold ChkTo at h
  rw [h, show L.length - i.toNat = (L.length - (i.toNat + 1)) + 1 by omega, chkF, show ((i.toNat : Nat) : Int) = i by omega]
theorem chk_end (h : ChkTo L i.toNat) (hi : ¬ i < (L.length : Int)) : chkE L = 0 ∧ chkI L = -1 := by
  unfold ChkTo at h
  unfold chkE chkI
  rw [h, show L.length - i.toNat = 0 by omega]
  exact ⟨rfl, rfl⟩
theorem chk_wrong (h : ChkTo L i.toNat) (h0 : 0 ≤ i) (hi : i < (L.length : Int)) (hr : rightN (atN L i.toNat) = false) : chkE L = 2 ∧ chkI L = i := by
  unfold chkE chkI
  rw [chk_at h h0 hi, if_pos hr]
  exact ⟨rfl, rfl⟩
theorem chk_seq (h : ChkTo L i.toNat) (h0 : 0 ≤ i) (hi : i < (L.length : Int)) (hr : rightN (atN L i.toNat) = true) (hs : ¬ (atN L i.toNat).seq = i) : chkE L = 6 ∧ chkI L = i := by
  unfold chkE chkI
  rw [chk_at h h0 hi, if_neg (by rw [hr]; simp), if_pos hs]
  exact ⟨rfl, rfl⟩
theorem chk_prev (h : ChkTo L i.toNat) (h0 : 0 ≤ i) (hi : i < (L.length : Int)) (hr : rightN (atN L i.toNat) = true) (hs : (atN L i.toNat).seq = i) (hp : ¬ (atN L i.toNat).prev = headB (L.take i.toNat)) : chkE L = 7 ∧ chkI L = i := by
  unfold chkE chkI
  rw [chk_at h h0 hi, if_neg (by rw [hr]; simp), if_neg (by simpa using hs), if_pos hp]
  exact ⟨rfl, rfl⟩
theorem chk_step (h : ChkTo L i.toNat) (h0 : 0 ≤ i) (hi : i < (L.length : Int)) (hr : rightN (atN L i.toNat) = true) (hs : (atN L i.toNat).seq = i) (hp : (atN L i.toNat).prev = headB (L.take i.toNat)) : ChkTo L (i + 1).toNat := by
  unfold ChkTo
  rw [chk_at h h0 hi, if_neg (by rw [hr]; simp), if_neg (by simpa using hs), if_neg (by simpa using hp), show (i + 1).toNat = i.toNat + 1 by omega]
end
/-- The entry behind others. -/
def nextN (L : List En) (en : En) : En := { en with seq := ((L.length : Nat) : Int), prev := headB L }
def nextL (L : List En) (en : En) : En := if rightN (nextN L en) = true then nextN L en else En.zero
def nextE (L : List En) (en : En) : Int := if rightN (nextN L en) = true then 0 else 2
theorem next_ok {L : List En} {en : En} (h : rightN (nextN L en) = true) : nextL L en = nextN L en ∧ nextE L en = 0 := ⟨if_pos h, if_pos h⟩
theorem next_no {L : List En} {en : En} (h : rightN (nextN L en) = false) : nextL L en = En.zero ∧ nextE L en = 2 := ⟨if_neg (by rw [h]; simp), if_neg (by rw [h]; simp)⟩
theorem next_is {L : List En} {en : En} (h : nextE L en = 0) : rightN (nextN L en) = true ∧ nextL L en = nextN L en := by
  unfold nextE at h
  split at h
  · rename_i z; exact ⟨z, (next_ok z).1⟩
  · omega
theorem next_not {L : List En} {en : En} (h : ¬ nextE L en = 0) : nextL L en = En.zero := by
  unfold nextE at h
  split at h
  · exact absurd rfl h
  · rename_i z; exact if_neg z
/-! ### Ledgers -/
/-- The i-th entry is as it should be. -/
def Good (L : List En) (i : Nat) : Prop := rightN (atN L i) = true ∧ (atN L i).seq = (i : Int) ∧ (atN L i).prev = headB (L.take i)
section
variable {L K : List En} {en : En} {i k : Nat}
theorem chkTo_of (hg : ∀ j, j < i → Good L j) (hi : i ≤ L.length) : ChkTo L i := by
  induction i with
  | zero => exact chk_zero
  | succ i ih =>
    obtain ⟨h1, h2, h3⟩ := hg i (by omega)
    exact chk_step (i := (i : Int)) (ih (fun j hj => hg j (by omega)) (by omega)) (by omega) (by omega) h1 h2 h3
theorem chk_all (hg : ∀ j, j < L.length → Good L j) : chkE L = 0 ∧ chkI L = -1 :=
  chk_end (i := (L.length : Int)) (chkTo_of hg (Nat.le_refl _)) (by omega)
theorem good_of (h : chkE L = 0) : ∀ j, j < L.length → Good L j := by
  intro j
  induction j using Nat.strongRecOn with
  | ind j ih =>
    intro hj
    have ht : ChkTo L (j : Int).toNat := chkTo_of (fun i hi => ih i hi (by omega)) (by omega)
    by_cases h1 : rightN (atN L j) = true
    · by_cases h2 : (atN L j).seq = (j : Int)
      · by_cases h3 : (atN L j).prev = headB (L.take j)
        · exact ⟨h1, h2, h3⟩
        · have := (chk_prev ht (by omega) (by omega) h1 h2 h3).1; omega
      · have := (chk_seq ht (by omega) (by omega) h1 h2).1; omega
    · have := (chk_wrong ht (by omega) (by omega) (by simpa using h1)).1; omega
theorem chk_idx (h : chkE L = 0) : chkI L = -1 := (chk_all (good_of h)).2
theorem good_congr (ha : atN K i = atN L i) (ht : K.take i = L.take i) (h : Good L i) : Good K i := by
  unfold Good; rw [ha, ht]; exact h
theorem chk_seqAt (hk : k < L.length) (hg : ∀ j, j < k → Good L j) (hr : rightN (atN L k) = true) (hs : ¬ (atN L k).seq = (k : Int)) : chkE L = 6 ∧ chkI L = (k : Int) :=
  chk_seq (i := (k : Int)) (chkTo_of hg (by omega)) (by omega) (by omega) hr hs
theorem chk_take (h : chkE L = 0) (k : Nat) : chkE (L.take k) = 0 ∧ chkI (L.take k) = -1 :=
  chk_all fun j hj => by
    rw [List.length_take] at hj
    exact good_congr (atN_take (by omega)) (by rw [List.take_take, Nat.min_eq_left (by omega)]) (good_of h j (by omega))
theorem atN_left (h : i < L.length) : atN (L ++ K) i = atN L i := by
  unfold atN atE
  rw [List.getD_eq_getElem?_getD, List.getElem?_append_left h, ← List.getD_eq_getElem?_getD]
theorem atN_last : atN (L ++ [en]) L.length = en := by
  unfold atN atE
  rw [List.getD_eq_getElem?_getD, List.getElem?_append_right (Nat.le_refl _)]
  simp
theorem chk_grow (h : chkE L = 0) (hr : rightN (nextN L en) = true) : chkE (L ++ [nextN L en]) = 0 ∧ chkI (L ++ [nextN L en]) = -1 :=
  chk_all fun j hj => by
    rw [List.length_append, List.length_singleton] at hj
    by_cases hjl : j < L.length
    · exact good_congr (atN_left hjl) (by rw [List.take_append_of_le_length (by omega)]) (good_of h j hjl)
    · obtain rfl : j = L.length := by omega
      refine ⟨by rw [atN_last]; exact hr, by rw [atN_last]; rfl, ?_⟩
      rw [atN_last, List.take_left]
      rfl
theorem chk_nil : chkE [] = 0 ∧ chkI [] = -1 := ⟨rfl, rfl⟩
theorem atN_drop {a j : Nat} : atN (L.drop a) j = atN L (a + j) := by
  unfold atN atE
  rw [List.getD_eq_getElem?_getD, List.getElem?_drop, ← List.getD_eq_getElem?_getD]
theorem chk_less (h : chkE L = 0) (hk : k + 1 < L.length) : chkE (L.take k ++ L.drop (k + 1)) = 6 ∧ chkI (L.take k ++ L.drop (k + 1)) = (k : Int) := by
  have hl : (L.take k).length = k := by rw [List.length_take]; omega
  have ha : atN (L.take k ++ L.drop (k + 1)) k = atN L (k + 1) := by
    unfold atN atE
    rw [List.getD_eq_getElem?_getD, List.getElem?_append_right (by omega), hl, Nat.sub_self, List.getElem?_drop, ← List.getD_eq_getElem?_getD]
  have hg := good_of h (k + 1) hk
  refine chk_seqAt (by rw [List.length_append, List.length_drop, hl]; omega) (fun j hj => ?_) (by rw [ha]; exact hg.1) (by rw [ha, hg.2.1]; omega)
  refine good_congr ?_ ?_ (good_of h j (by omega))
  · rw [atN_left (by omega), atN_take hj]
  · rw [List.take_append_of_le_length (by omega), List.take_take, Nat.min_eq_left (by omega)]
theorem atN_set {a : Nat} {x : En} (ha : a < L.length) : atN (L.set a x) i = if a = i then x else atN L i := by
  unfold atN atE
  simp only [List.getD_eq_getElem?_getD, List.getElem?_set]
  by_cases h : a = i
  · subst h; simp [ha]
  · simp [h]
theorem chk_turned (h : chkE L = 0) (hk : k + 1 < L.length) : chkE ((L.set k (atN L (k + 1))).set (k + 1) (atN L k)) = 6 ∧ chkI ((L.set k (atN L (k + 1))).set (k + 1) (atN L k)) = (k : Int) := by
  have ha : ∀ j, j ≤ k → atN ((L.set k (atN L (k + 1))).set (k + 1) (atN L k)) j = if k = j then atN L (k + 1) else atN L j := fun j hj => by
    rw [atN_set (by rw [List.length_set]; exact hk), if_neg (by omega), atN_set (by omega)]
  have hg := good_of h (k + 1) hk
  refine chk_seqAt (by simp; omega) (fun j hj => ?_) (by rw [ha k (by omega), if_pos rfl]; exact hg.1) (by rw [ha k (by omega), if_pos rfl, hg.2.1]; omega)
  refine good_congr ?_ ?_ (good_of h j (by omega))
  · rw [ha j (by omega), if_neg (by omega)]
  · rw [List.take_set_of_le (by omega), List.take_set_of_le (by omega)]
theorem chk_lessI {i : Int} (h : chkE L = 0) (h0 : 0 ≤ i) (hk : i + 1 < (L.length : Int)) : chkE (L.take i.toNat ++ L.drop (i + 1).toNat) = 6 ∧ chkI (L.take i.toNat ++ L.drop (i + 1).toNat) = i := by
  have := chk_less (k := i.toNat) h (by omega)
  rw [show (i + 1).toNat = i.toNat + 1 by omega]
  exact ⟨this.1, by rw [this.2]; omega⟩
theorem chk_turnedI {i : Int} (h : chkE L = 0) (h0 : 0 ≤ i) (hk : i + 1 < (L.length : Int)) : chkE ((L.set i.toNat (atN L (i + 1).toNat)).set (i + 1).toNat (atN L i.toNat)) = 6 ∧ chkI ((L.set i.toNat (atN L (i + 1).toNat)).set (i + 1).toNat (atN L i.toNat)) = i := by
  have := chk_turned (k := i.toNat) h (by omega)
  rw [show (i + 1).toNat = i.toNat + 1 by omega]
  exact ⟨this.1, by rw [this.2]; omega⟩
/-- The head hangs on the last entry alone. -/
theorem head_last (h : ¬ L.length = 0) : headB (L.drop (L.length - 1)) = headB L := by
  rw [headB, headB, if_neg h, if_neg (by rw [List.length_drop]; omega), atN_drop, List.length_drop]
  congr 3
  omega
theorem head_app : headB (L ++ [en]) = sumB (entryL en) := by
  rw [headB, if_neg (by simp), show (L ++ [en]).length - 1 = L.length by simp, atN_last]
end
end Go.Proofs.Ytjelhljgeinodaa
