/- Takes one by one: mathematics of layer 14's laws (Once, Few, Echoes). Any seat with layer 14 in it. -/
import Derived.Test.YtcobpabmmbcjcaaCr
namespace Go.Proofs.Ytcobpabmmbcjcaa
open Go.RowKit
set_option maxRecDepth 100000
set_option linter.unusedSimpArgs false
set_option linter.unusedVariables false
section
variable {S S' : Cs} {kind frm n f k x : Int} {t u tx : Tx} {l : List (Int × Tx)} {i : Nat}
theorem take_len (hn : 0 ≤ S.n) (hf : 0 ≤ S.f) : (tellF S kind frm t).length ≤ 2 := by
  cases h : badT S kind frm
  · rw [(take_p (tx := t) hn hf h).len]; split <;> split <;> omega
  · rw [(take_bad h).2]; simp
def knd (c : Int) (l : List (Int × Tx)) : Int := (((l.filter fun o => decide (o.1 = c)).length : Nat) : Int)
def someI (o : Option Tx) : Int := if o.isSome = true then 1 else 0
theorem cnt_put {g : Int → Option Tx} (hk : 0 ≤ k ∧ k < n) (hg : g k = none) (u : Tx) : (cntT n (putT g k t) u : Int) = cntT n g u + (if u = t then 1 else 0) := by
  unfold cntT
  rw [cnt_one (fun x => decide (g x = some u)) (fun x => decide (putT g k t x = some u)) hk (fun x hx => by rw [put_ne hx]) (fun h => by simp [hg] at h)]
  congr 1
  by_cases e : u = t
  · rw [if_pos e, if_pos ⟨by simp [hg], by rw [put_at, hg, e]; simp⟩]
  · rw [if_neg e, if_neg (fun z => by have := z.2; rw [put_at, hg] at this; simp at this; exact e this.symm)]
structure FewC (n f : Int) (tx : Tx) (k : Int) (S : Cs) : Prop where
  n1 : 1 ≤ n
  f0 : 0 ≤ f
  nf : S.n = n ∧ S.f = f
  i1 : S.i1 = none ∧ S.two = false
  ec : ∀ u, cntT n S.ec u = 0
  rd : ∀ x, x < k → S.rd x = none
  cn : ∀ u, (cntT n S.rd u : Int) = if u = tx then n - k else 0
  rt : S.rt = none ∨ S.rt = some tx
  dn : S.dn = none ∨ S.dn = some tx
  rs : S.rt.isSome = true ↔ f + 1 ≤ n - k
  ds : S.dn.isSome = true ↔ 2 * f + 1 ≤ n - k
theorem FewC.step (h : FewC n f tx (k + 1) S) (h0 : 0 ≤ k) (hk : k < n) : FewC n f tx k (takeS S 3 k tx) ∧ ((tellF S 3 k tx).length = 1 ↔ n - k = f + 1) ∧ (tellF S 3 k tx).length ≤ 1 := by
  have hb : badT S 3 k = false := bad_iff.2 ⟨⟨h0, by rw [h.nf.1]; exact hk⟩, by omega⟩
  have T := take_p (tx := tx) (by rw [h.nf.1]; have := h.n1; omega) (by rw [h.nf.2]; exact h.f0) hb
  have e1 : takeS S 3 k tx = finS (rcvS S 3 k tx) := by unfold takeS; rw [hb]; rfl
  have r1 : (takeS S 3 k tx).rd = putT S.rd k tx := by rw [e1]; show (rcvS S 3 k tx).rd = _; rw [rcv_rd, if_neg (by omega)]
  have r2 : (takeS S 3 k tx).ec = S.ec := by rw [e1]; show (rcvS S 3 k tx).ec = _; rw [rcv_ec, if_neg (by omega)]
  have r3 : (takeS S 3 k tx).i1 = S.i1 := by rw [e1]; show (rcvS S 3 k tx).i1 = _; rw [rcv_i1, if_neg (by omega)]
  have hcn : ∀ u, (cntT n (takeS S 3 k tx).rd u : Int) = if u = tx then n - k else 0 := fun u => by
    rw [r1, cnt_put ⟨h0, hk⟩ (h.rd k (by omega)), h.cn]
    split <;> omega
  have hn1 := h.n1
  have hf0 := h.f0
  have hok : ∀ u, okT (takeS S 3 k tx) u = true ↔ (u = tx ∧ f + 1 ≤ n - k) := fun u => by
    rw [ok_iff (n := n) (f := f) ⟨T.nf.1.trans h.nf.1, T.nf.2.trans h.nf.2⟩, hcn, r2, h.ec]
    split
    · rename_i e; constructor
      · intro z; exact ⟨e, by omega⟩
      · intro z; right; exact z.2
    · rename_i e; constructor
      · intro z; omega
      · intro z; exact absurd z.1 e
  have hdl : ∀ u, dlT (takeS S 3 k tx) u = true ↔ (u = tx ∧ 2 * f + 1 ≤ n - k) := fun u => by
    rw [dl_iff (n := n) (f := f) ⟨T.nf.1.trans h.nf.1, T.nf.2.trans h.nf.2⟩, hcn]
    split
    · rename_i e; exact ⟨fun z => ⟨e, z⟩, fun z => z.2⟩
    · rename_i e; exact ⟨fun z => by omega, fun z => absurd z.1 e⟩
  have hrt : (takeS S 3 k tx).rt = none ∨ (takeS S 3 k tx).rt = some tx := by
    cases hq : (takeS S 3 k tx).rt with
    | none => exact .inl rfl
    | some v =>
      right
      rcases T.rt' v hq with z | z
      · rcases h.rt with y | y
        · rw [y] at z; cases z
        · rw [y] at z; exact z.symm
      · rw [((hok v).1 z.2.1).1]
  have hdn : (takeS S 3 k tx).dn = none ∨ (takeS S 3 k tx).dn = some tx := by
    cases hq : (takeS S 3 k tx).dn with
    | none => exact .inl rfl
    | some v =>
      right
      rcases T.dn' v hq with z | z
      · rcases h.dn with y | y
        · rw [y] at z; cases z
        · rw [y] at z; exact z.symm
      · rw [((hdl v).1 z).1]
  have hrs : (takeS S 3 k tx).rt.isSome = true ↔ f + 1 ≤ n - k := by
    constructor
    · intro z
      obtain ⟨v, hv⟩ := Option.isSome_iff_exists.1 z
      rcases T.rt' v hv with y | y
      · have := h.rs.1 (by rw [y]; rfl); omega
      · exact ((hok v).1 y.2.1).2
    · intro z
      cases hq : (takeS S 3 k tx).rt with
      | some v => rfl
      | none => have := T.shut.1 hq tx; rw [(hok tx).2 ⟨rfl, z⟩] at this; cases this
  have hds : (takeS S 3 k tx).dn.isSome = true ↔ 2 * f + 1 ≤ n - k := by
    constructor
    · intro z
      obtain ⟨v, hv⟩ := Option.isSome_iff_exists.1 z
      rcases T.dn' v hv with y | y
      · have := h.ds.1 (by rw [y]; rfl); omega
      · exact ((hdl v).1 y).2
    · intro z
      cases hq : (takeS S 3 k tx).dn with
      | some v => rfl
      | none => have := T.shut.2 hq tx; rw [(hdl tx).2 ⟨rfl, z⟩] at this; cases this
  have hlen := T.len
  rw [if_neg (by rw [r3, h.i1.1]; simp)] at hlen
  refine ⟨⟨hn1, hf0, ⟨T.nf.1.trans h.nf.1, T.nf.2.trans h.nf.2⟩, ⟨r3.trans h.i1.1, by rw [T.two, if_neg (by omega)]; exact h.i1.2⟩, fun u => by rw [r2]; exact h.ec u, fun x hx => by rw [r1, put_ne (by omega)]; exact h.rd x (by omega), hcn, hrt, hdn, hrs, hds⟩, ?_, ?_⟩
  · have h5 := h.rs
    rw [hlen]
    cases hq : S.rt with
    | some v =>
      rw [if_neg (by simp)]
      have := h5.1 (by rw [hq]; rfl)
      constructor <;> intro z <;> omega
    | none =>
      have h6 : ¬ f + 1 ≤ n - (k + 1) := fun z => by have := h5.2 z; rw [hq] at this; cases this
      by_cases z : f + 1 ≤ n - k
      · rw [if_pos ⟨rfl, hrs.2 z⟩]; constructor <;> intro _ <;> omega
      · rw [if_neg (fun y => z (hrs.1 y.2))]; constructor <;> intro _ <;> omega
  · rw [hlen]; split <;> omega
def txE (split : Bool) (k : Int) : Tx := if split = true ∧ k % 2 = 1 then [121] else [120]
theorem txE_odd (h : k % 2 = 1) : txE true k = [121] := if_pos ⟨rfl, h⟩
theorem txE_even (h : ¬ k % 2 = 1) : txE true k = [120] := if_neg (fun z => h z.2)
theorem txE_one (k : Int) : txE false k = [120] := if_neg (fun z => by cases z.1)
structure EchC (n f : Int) (split : Bool) (k : Int) (S : Cs) : Prop where
  n1 : 1 ≤ n
  f0 : 0 ≤ f
  k0 : 0 ≤ k
  nf : S.n = n ∧ S.f = f
  i1 : S.i1 = none
  rd : ∀ u, cntT n S.rd u = 0
  ec : ∀ x, k ≤ x → S.ec x = none
  cn : ∀ u, (cntT n S.ec u : Int) = if split = true then (if u = [120] then (k + 1) / 2 else if u = [121] then k / 2 else 0) else (if u = [120] then k else 0)
  dn : S.dn = none
  sh : S.rt = none → ∀ u, okT S u = false
  rs : split = false → S.rt.isSome = true → (n + f) / 2 + 1 ≤ k
theorem EchC.step {split : Bool} (h : EchC n f split k S) (hk : k < n) : EchC n f split (k + 1) (takeS S 2 k (txE split k)) ∧ (tellF S 2 k (txE split k)).length ≤ 1 ∧ (split = false → ((tellF S 2 k (txE split k)).length = 1 ↔ k + 1 = (n + f) / 2 + 1)) ∧ (split = true → 0 < (tellF S 2 k (txE split k)).length → (n + f) / 2 + 1 ≤ k / 2 + 1) := by
  have h0 := h.k0
  have hn1 := h.n1
  have hf0 := h.f0
  have hb : badT S 2 k = false := bad_iff.2 ⟨⟨h0, by rw [h.nf.1]; exact hk⟩, by omega⟩
  have T := take_p (tx := txE split k) (by rw [h.nf.1]; omega) (by rw [h.nf.2]; exact hf0) hb
  have hnf : (takeS S 2 k (txE split k)).n = n ∧ (takeS S 2 k (txE split k)).f = f := ⟨T.nf.1.trans h.nf.1, T.nf.2.trans h.nf.2⟩
  have e1 : takeS S 2 k (txE split k) = finS (rcvS S 2 k (txE split k)) := by unfold takeS; rw [hb]; rfl
  have r1 : (takeS S 2 k (txE split k)).ec = putT S.ec k (txE split k) := by rw [e1]; show (rcvS S 2 k (txE split k)).ec = _; rw [rcv_ec, if_pos rfl]
  have r2 : (takeS S 2 k (txE split k)).rd = S.rd := by rw [e1]; show (rcvS S 2 k (txE split k)).rd = _; rw [rcv_rd, if_pos (by omega)]
  have r3 : (takeS S 2 k (txE split k)).i1 = S.i1 := by rw [e1]; show (rcvS S 2 k (txE split k)).i1 = _; rw [rcv_i1, if_neg (by omega)]
  have hput : ∀ u, (cntT n (takeS S 2 k (txE split k)).ec u : Int) = cntT n S.ec u + (if u = txE split k then 1 else 0) := fun u => by rw [r1, cnt_put ⟨h0, hk⟩ (h.ec k (Int.le_refl _))]
  have hcn : ∀ u, (cntT n (takeS S 2 k (txE split k)).ec u : Int) = if split = true then (if u = [120] then (k + 1 + 1) / 2 else if u = [121] then (k + 1) / 2 else 0) else (if u = [120] then k + 1 else 0) := fun u => by
    rw [hput, h.cn]
    have hxy : ([120] : Tx) ≠ [121] := by decide
    cases split
    · rw [txE_one, if_neg Bool.false_ne_true, if_neg Bool.false_ne_true]
      split <;> omega
    · rw [if_pos (rfl : true = true), if_pos (rfl : true = true)]
      by_cases hodd : k % 2 = 1
      · rw [txE_odd hodd]
        by_cases e1 : u = [120]
        · rw [if_pos e1, if_pos e1, if_neg (by rw [e1]; exact hxy)]; omega
        · rw [if_neg e1, if_neg e1]
          by_cases e2 : u = [121]
          · rw [if_pos e2, if_pos e2, if_pos e2]; omega
          · rw [if_neg e2, if_neg e2, if_neg e2]; omega
      · rw [txE_even hodd]
        by_cases e1 : u = [120]
        · rw [if_pos e1, if_pos e1, if_pos e1]; omega
        · rw [if_neg e1, if_neg e1, if_neg e1]
          split <;> omega
  have hok : ∀ u, okT (takeS S 2 k (txE split k)) u = true ↔ (n + f) / 2 + 1 ≤ (cntT n (takeS S 2 k (txE split k)).ec u : Int) := fun u => by
    rw [ok_iff hnf, r2, h.rd]; omega
  have hok0 : ∀ u, okT S u = true ↔ (n + f) / 2 + 1 ≤ (cntT n S.ec u : Int) := fun u => by
    rw [ok_iff h.nf, h.rd]; omega
  have hlen := T.len
  rw [if_neg (by rw [r3, h.i1]; simp)] at hlen
  have hdn : (takeS S 2 k (txE split k)).dn = none := by
    cases hq : (takeS S 2 k (txE split k)).dn with
    | none => rfl
    | some v =>
      rcases T.dn' v hq with z | z
      · rw [h.dn] at z; cases z
      · rw [dl_iff hnf, r2, h.rd] at z; omega
  have hnew : 0 < (tellF S 2 k (txE split k)).length → (n + f) / 2 + 1 ≤ (cntT n (takeS S 2 k (txE split k)).ec (txE split k) : Int) ∧ S.rt = none := fun z => by
    rw [hlen] at z
    split at z
    · rename_i y
      obtain ⟨v, hv⟩ := Option.isSome_iff_exists.1 y.2
      rcases T.rt' v hv with q | q
      · rw [y.1] at q; cases q
      · have q1 := (hok v).1 q.2.1
        have q2 := h.sh y.1 v
        have q3 : ¬ (n + f) / 2 + 1 ≤ (cntT n S.ec v : Int) := fun z' => by rw [(hok0 v).2 z'] at q2; cases q2
        have q4 := hput v
        by_cases e : v = txE split k
        · rw [e] at q1; exact ⟨q1, y.1⟩
        · rw [if_neg e] at q4; omega
    · omega
  have hrs : split = false → (takeS S 2 k (txE split k)).rt.isSome = true → (n + f) / 2 + 1 ≤ k + 1 := fun hs z => by
    obtain ⟨v, hv⟩ := Option.isSome_iff_exists.1 z
    rcases T.rt' v hv with q | q
    · have := h.rs hs (by rw [q]; rfl); omega
    · have q1 := (hok v).1 q.2.1
      rw [hcn, if_neg (by rw [hs]; exact Bool.false_ne_true)] at q1
      split at q1 <;> omega
  refine ⟨⟨hn1, hf0, by omega, hnf, r3.trans h.i1, fun u => by rw [r2]; exact h.rd u, fun x hx => by rw [r1, put_ne (by omega)]; exact h.ec x (by omega), hcn, hdn, T.shut.1, hrs⟩, by rw [hlen]; split <;> omega, fun hs => ⟨fun z => ?_, fun z => ?_⟩, fun hs z => ?_⟩
  · obtain ⟨q1, q2⟩ := hnew (by omega)
    rw [hcn, if_neg (by rw [hs]; exact Bool.false_ne_true), hs, txE_one, if_pos rfl] at q1
    have q3 := h.sh q2 [120]
    have q4 : ¬ (n + f) / 2 + 1 ≤ (cntT n S.ec [120] : Int) := fun z' => by rw [(hok0 _).2 z'] at q3; cases q3
    rw [h.cn, if_neg (by rw [hs]; exact Bool.false_ne_true), if_pos rfl] at q4
    omega
  · have q1 : S.rt = none := by
      cases hq : S.rt with
      | none => rfl
      | some v => have := h.rs hs (by rw [hq]; rfl); omega
    have q2 : (takeS S 2 k (txE split k)).rt.isSome = true := by
      cases hq : (takeS S 2 k (txE split k)).rt with
      | some v => rfl
      | none =>
        have q3 := T.shut.1 hq [120]
        rw [(hok [120]).2 (by rw [hcn, if_neg (by rw [hs]; exact Bool.false_ne_true), if_pos rfl]; omega)] at q3
        cases q3
    rw [hlen, if_pos ⟨q1, q2⟩]
  · obtain ⟨q1, q2⟩ := hnew z
    rw [hcn, if_pos hs, hs] at q1
    by_cases hodd : k % 2 = 1
    · rw [txE_odd hodd, if_neg (by decide), if_pos rfl] at q1; omega
    · rw [txE_even hodd, if_pos rfl] at q1; omega
end
section
variable {S : Cs} {kind frm n f k : Int} {t tx : Tx} {l : List (Int × Tx)} {j c : Int}
end
end Go.Proofs.Ytcobpabmmbcjcaa
