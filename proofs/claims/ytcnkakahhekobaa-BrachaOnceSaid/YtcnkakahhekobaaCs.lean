/- Takes one by one: mathematics of layer 14's laws (Once, Few, Echoes). Any seat with layer 14 in it. -/
import Derived.Test.YtcnkakahhekobaaCr
namespace Go.Proofs.Ytcnkakahhekobaa
open Go.RowKit
set_option maxRecDepth 100000
set_option linter.unusedSimpArgs false
set_option linter.unusedVariables false

section
variable {S S' : Cs} {kind frm n f k x : Int} {t u tx : Tx} {l : List (Int × Tx)} {i : Nat}
/-! ### Whatever is taken -/
theorem take_nf : (takeS S kind frm t).n = S.n ∧ (takeS S kind frm t).f = S.f := by
  cases h : badT S kind frm
  · unfold takeS; rw [h]; exact ⟨rcv_same.1, rcv_same.2.1⟩
  · rw [(take_bad h).1]; exact ⟨rfl, rfl⟩
theorem take_len (hn : 0 ≤ S.n) (hf : 0 ≤ S.f) : (tellF S kind frm t).length ≤ 2 := by
  cases h : badT S kind frm
  · rw [(take_p (tx := t) hn hf h).len]; split <;> split <;> omega
  · rw [(take_bad h).2]; simp
/-- Of how many frames the kind is c. -/
def knd (c : Int) (l : List (Int × Tx)) : Int := (((l.filter fun o => decide (o.1 = c)).length : Nat) : Int)
theorem knd_zero (c : Int) : knd c (l.take 0) = 0 := rfl
theorem knd_step (c : Int) (hi : i < l.length) : knd c (l.take (i + 1)) = knd c (l.take i) + (if l[i].1 = c then 1 else 0) := by
  unfold knd
  rw [List.take_succ_eq_append_getElem hi, List.filter_append, List.length_append, List.filter_cons]
  by_cases e : l[i].1 = c
  · simp [e]
  · simp [e]
def someI (o : Option Tx) : Int := if o.isSome = true then 1 else 0
theorem take_says (hn : 0 ≤ S.n) (hf : 0 ≤ S.f) {o : Int × Tx} (ho : o ∈ tellF S kind frm t) : o.1 = 2 ∨ o.1 = 3 := by
  cases h : badT S kind frm
  · exact ((take_p (tx := t) hn hf h).says o.1 o.2 ho).imp And.left And.left
  · rw [(take_bad h).2] at ho; cases ho
theorem knd_said (hn : 0 ≤ S.n) (hf : 0 ≤ S.f) : someI S.i1 + knd 2 (tellF S kind frm t) = someI (takeS S kind frm t).i1 ∧ someI S.rt + knd 3 (tellF S kind frm t) = someI (takeS S kind frm t).rt := by
  cases h : badT S kind frm
  · have e1 : takeS S kind frm t = finS (rcvS S kind frm t) := by unfold takeS; rw [h]; rfl
    have e2 : tellF S kind frm t = echoF S kind t ++ readyF (rcvS S kind frm t) := by unfold tellF; rw [h]; rfl
    have h3 : (finS (rcvS S kind frm t)).i1 = if kind = 1 then some (S.i1.getD t) else S.i1 := rcv_i1
    have h4 : (finS (rcvS S kind frm t)).rt = if (rcvS S kind frm t).rt.isSome = true then (rcvS S kind frm t).rt else leastT (okT (rcvS S kind frm t)) (txsT (rcvS S kind frm t)) := rfl
    rw [e1, e2, h3, h4, (rcv_same (S := S) (kind := kind) (frm := frm) (tx := t)).2.2.1]
    unfold echoF readyF rdyT
    rw [(rcv_same (S := S) (kind := kind) (frm := frm) (tx := t)).2.2.1]
    constructor
    · by_cases hk : kind = 1
      · rw [if_pos hk]
        cases hi : S.i1 with
        | none =>
          rw [if_pos ⟨hk, rfl⟩]
          split <;> simp [knd, someI]
        | some v =>
          rw [if_neg (by simp)]
          split <;> simp [knd, someI]
      · rw [if_neg hk, if_neg (fun z => hk z.1)]
        split <;> simp [knd, someI]
    · have he : ∀ r : List (Int × Tx), knd 3 ((if kind = 1 ∧ S.i1 = none then [((2 : Int), t)] else []) ++ r) = knd 3 r := fun r => by
        split <;> simp [knd]
      rw [he]
      cases hr : S.rt with
      | some v => simp [knd, someI]
      | none =>
        simp only [Option.isSome_none, Bool.false_eq_true, if_false]
        cases leastT (okT (rcvS S kind frm t)) (txsT (rcvS S kind frm t)) <;> simp [knd, someI]
  · rw [(take_bad h).1, (take_bad h).2]; simp [knd]
theorem take_dn (hn : 0 ≤ S.n) (hf : 0 ≤ S.f) (h : S.dn = some u) : (takeS S kind frm t).dn = some u := by
  cases hb : badT S kind frm
  · exact (take_p (tx := t) hn hf hb).dn u h
  · rw [(take_bad hb).1]; exact h
theorem someI_le (o : Option Tx) : someI o ≤ 1 := by unfold someI; split <;> omega
/-! ### Counts, one more -/
theorem cnt_put {g : Int → Option Tx} (hk : 0 ≤ k ∧ k < n) (hg : g k = none) (u : Tx) : (cntT n (putT g k t) u : Int) = cntT n g u + (if u = t then 1 else 0) := by
  unfold cntT
  rw [cnt_one (fun x => decide (g x = some u)) (fun x => decide (putT g k t x = some u)) hk (fun x hx => by rw [put_ne hx]) (fun h => by simp [hg] at h)]
  congr 1
  by_cases e : u = t
  · rw [if_pos e, if_pos ⟨by simp [hg], by rw [put_at, hg, e]; simp⟩]
  · rw [if_neg e, if_neg (fun z => by have := z.2; rw [put_at, hg] at this; simp at this; exact e this.symm)]
/-! ### Readies alone, of one text -/
structure FewC (n f : Int) (tx : Tx) (k : Int) (S : Cs) : Prop where
  n1 : 1 ≤ n
  f0 : 0 ≤ f
  nf : S.n = n ∧ S.f = f
  i1 : S.i1 = none ∧ S.two = false
  ec : ∀ u, cntT n S.ec u = 0
  rd : ∀ x, x < k → S.rd x = none
  cn : ∀ u, (cntT n S.rd u : Int) = if u = tx then n - k else 0
  rt : S.rt = none ∨ S.rt = some tx
  dn : S.dn = none ∨ S.dn = some tx
  rs : S.rt.isSome = true ↔ f + 1 ≤ n - k
  ds : S.dn.isSome = true ↔ 2 * f + 1 ≤ n - k
theorem few_new14 (h1 : 1 ≤ n) (h0 : 0 ≤ f) : FewC n f tx n (cnewS n f) :=
  ⟨h1, h0, ⟨rfl, rfl⟩, ⟨rfl, rfl⟩, fun u => cnt_none n u, fun _ _ => rfl, fun u => (by show ((cntT n (fun _ => none) u : Nat) : Int) = _; rw [cnt_none]; split <;> omega), .inl rfl, .inl rfl, (by simp [cnewS]; omega), (by simp [cnewS]; omega)⟩
theorem FewC.step (h : FewC n f tx (k + 1) S) (h0 : 0 ≤ k) (hk : k < n) : FewC n f tx k (takeS S 3 k tx) ∧ ((tellF S 3 k tx).length = 1 ↔ n - k = f + 1) ∧ (tellF S 3 k tx).length ≤ 1 := by
  have hb : badT S 3 k = false := bad_iff.2 ⟨⟨h0, by rw [h.nf.1]; exact hk⟩, by omega⟩
  have T := take_p (tx := tx) (by rw [h.nf.1]; have := h.n1; omega) (by rw [h.nf.2]; exact h.f0) hb
  have e1 : takeS S 3 k tx = finS (rcvS S 3 k tx) := by unfold takeS; rw [hb]; rfl
  have r1 : (takeS S 3 k tx).rd = putT S.rd k tx := by rw [e1]; show (rcvS S 3 k tx).rd = _; rw [rcv_rd, if_neg (by omega)]
  have r2 : (takeS S 3 k tx).ec = S.ec := by rw [e1]; show (rcvS S 3 k tx).ec = _; rw [rcv_ec, if_neg (by omega)]
  have r3 : (takeS S 3 k tx).i1 = S.i1 := by rw [e1]; show (rcvS S 3 k tx).i1 = _; rw [rcv_i1, if_neg (by omega)]
  have hcn : ∀ u, (cntT n (takeS S 3 k tx).rd u : Int) = if u = tx then n - k else 0 := fun u => by
    rw [r1, cnt_put ⟨h0, hk⟩ (h.rd k (by omega)), h.cn]
    split <;> omega
  have hn1 := h.n1
  have hf0 := h.f0
  have hok : ∀ u, okT (takeS S 3 k tx) u = true ↔ (u = tx ∧ f + 1 ≤ n - k) := fun u => by
    rw [ok_iff (n := n) (f := f) ⟨T.nf.1.trans h.nf.1, T.nf.2.trans h.nf.2⟩, hcn, r2, h.ec]
    split
    · rename_i e; constructor
      · intro z; exact ⟨e, by omega⟩
      · intro z; right; exact z.2
    · rename_i e; constructor
      · intro z; omega
      · intro z; exact absurd z.1 e
  have hdl : ∀ u, dlT (takeS S 3 k tx) u = true ↔ (u = tx ∧ 2 * f + 1 ≤ n - k) := fun u => by
    rw [dl_iff (n := n) (f := f) ⟨T.nf.1.trans h.nf.1, T.nf.2.trans h.nf.2⟩, hcn]
    split
    · rename_i e; exact ⟨fun z => ⟨e, z⟩, fun z => z.2⟩
    · rename_i e; exact ⟨fun z => by omega, fun z => absurd z.1 e⟩
  have hrt : (takeS S 3 k tx).rt = none ∨ (takeS S 3 k tx).rt = some tx := by
    cases hq : (takeS S 3 k tx).rt with
    | none => exact .inl rfl
    | some v =>
      right
      rcases T.rt' v hq with z | z
      · rcases h.rt with y | y
        · rw [y] at z; cases z
        · rw [y] at z; exact z.symm
      · rw [((hok v).1 z.2.1).1]
  have hdn : (takeS S 3 k tx).dn = none ∨ (takeS S 3 k tx).dn = some tx := by
    cases hq : (takeS S 3 k tx).dn with
    | none => exact .inl rfl
    | some v =>
      right
      rcases T.dn' v hq with z | z
      · rcases h.dn with y | y
        · rw [y] at z; cases z
        · rw [y] at z; exact z.symm
      · rw [((hdl v).1 z).1]
  have hrs : (takeS S 3 k tx).rt.isSome = true ↔ f + 1 ≤ n - k := by
    constructor
    · intro z
      obtain ⟨v, hv⟩ := Option.isSome_iff_exists.1 z
      rcases T.rt' v hv with y | y
      · have := h.rs.1 (by rw [y]; rfl); omega
      · exact ((hok v).1 y.2.1).2
    · intro z
      cases hq : (takeS S 3 k tx).rt with
      | some v => rfl
      | none => have := T.shut.1 hq tx; rw [(hok tx).2 ⟨rfl, z⟩] at this; cases this
  have hds : (takeS S 3 k tx).dn.isSome = true ↔ 2 * f + 1 ≤ n - k := by
    constructor
    · intro z
      obtain ⟨v, hv⟩ := Option.isSome_iff_exists.1 z
      rcases T.dn' v hv with y | y
      · have := h.ds.1 (by rw [y]; rfl); omega
      · exact ((hdl v).1 y).2
    · intro z
      cases hq : (takeS S 3 k tx).dn with
      | some v => rfl
      | none => have := T.shut.2 hq tx; rw [(hdl tx).2 ⟨rfl, z⟩] at this; cases this
  have hlen := T.len
  rw [if_neg (by rw [r3, h.i1.1]; simp)] at hlen
  refine ⟨⟨hn1, hf0, ⟨T.nf.1.trans h.nf.1, T.nf.2.trans h.nf.2⟩, ⟨r3.trans h.i1.1, by rw [T.two, if_neg (by omega)]; exact h.i1.2⟩, fun u => by rw [r2]; exact h.ec u, fun x hx => by rw [r1, put_ne (by omega)]; exact h.rd x (by omega), hcn, hrt, hdn, hrs, hds⟩, ?_, ?_⟩
  · have h5 := h.rs
    rw [hlen]
    cases hq : S.rt with
    | some v =>
      rw [if_neg (by simp)]
      have := h5.1 (by rw [hq]; rfl)
      constructor <;> intro z <;> omega
    | none =>
      have h6 : ¬ f + 1 ≤ n - (k + 1) := fun z => by have := h5.2 z; rw [hq] at this; cases this
      by_cases z : f + 1 ≤ n - k
      · rw [if_pos ⟨rfl, hrs.2 z⟩]; constructor <;> intro _ <;> omega
      · rw [if_neg (fun y => z (hrs.1 y.2))]; constructor <;> intro _ <;> omega
  · rw [hlen]; split <;> omega
/-! ### Echoes alone, of one text or of two by turns -/
def txE (split : Bool) (k : Int) : Tx := if split = true ∧ k % 2 = 1 then [121] else [120]
theorem txE_odd (h : k % 2 = 1) : txE true k = [121] := if_pos ⟨rfl, h⟩
theorem txE_even (h : ¬ k % 2 = 1) : txE true k = [120] := if_neg (fun z => h z.2)
theorem txE_one (k : Int) : txE false k = [120] := if_neg (fun z => by cases z.1)
structure EchC (n f : Int) (split : Bool) (k : Int) (S : Cs) : Prop where
  n1 : 1 ≤ n
  f0 : 0 ≤ f
  k0 : 0 ≤ k
  nf : S.n = n ∧ S.f = f
  i1 : S.i1 = none
  rd : ∀ u, cntT n S.rd u = 0
  ec : ∀ x, k ≤ x → S.ec x = none
  cn : ∀ u, (cntT n S.ec u : Int) = if split = true then (if u = [120] then (k + 1) / 2 else if u = [121] then k / 2 else 0) else (if u = [120] then k else 0)
  dn : S.dn = none
  sh : S.rt = none → ∀ u, okT S u = false
  rs : split = false → S.rt.isSome = true → (n + f) / 2 + 1 ≤ k
theorem ech_new (h1 : 1 ≤ n) (h0 : 0 ≤ f) (split : Bool) : EchC n f split 0 (cnewS n f) :=
  ⟨h1, h0, by omega, ⟨rfl, rfl⟩, rfl, fun u => cnt_none n u, fun _ _ => rfl, fun u => (by show ((cntT n (fun _ => none) u : Nat) : Int) = _; rw [cnt_none]; repeat' split <;> omega), rfl, fun _ u => (by
    unfold okT manyI
    refine decide_eq_false ?_
    show ¬ ((n + f) / 2 + 1 ≤ ((cntT n (fun _ => none) u : Nat) : Int) ∨ f + 1 ≤ ((cntT n (fun _ => none) u : Nat) : Int))
    rw [cnt_none]; omega), fun _ z => (by cases z)⟩
theorem EchC.step {split : Bool} (h : EchC n f split k S) (hk : k < n) : EchC n f split (k + 1) (takeS S 2 k (txE split k)) ∧ (tellF S 2 k (txE split k)).length ≤ 1 ∧ (split = false → ((tellF S 2 k (txE split k)).length = 1 ↔ k + 1 = (n + f) / 2 + 1)) ∧ (split = true → 0 < (tellF S 2 k (txE split k)).length → (n + f) / 2 + 1 ≤ k / 2 + 1) := by
  have h0 := h.k0
  have hn1 := h.n1
  have hf0 := h.f0
  have hb : badT S 2 k = false := bad_iff.2 ⟨⟨h0, by rw [h.nf.1]; exact hk⟩, by omega⟩
  have T := take_p (tx := txE split k) (by rw [h.nf.1]; omega) (by rw [h.nf.2]; exact hf0) hb
  have hnf : (takeS S 2 k (txE split k)).n = n ∧ (takeS S 2 k (txE split k)).f = f := ⟨T.nf.1.trans h.nf.1, T.nf.2.trans h.nf.2⟩
  have e1 : takeS S 2 k (txE split k) = finS (rcvS S 2 k (txE split k)) := by unfold takeS; rw [hb]; rfl
  have r1 : (takeS S 2 k (txE split k)).ec = putT S.ec k (txE split k) := by rw [e1]; show (rcvS S 2 k (txE split k)).ec = _; rw [rcv_ec, if_pos rfl]
  have r2 : (takeS S 2 k (txE split k)).rd = S.rd := by rw [e1]; show (rcvS S 2 k (txE split k)).rd = _; rw [rcv_rd, if_pos (by omega)]
  have r3 : (takeS S 2 k (txE split k)).i1 = S.i1 := by rw [e1]; show (rcvS S 2 k (txE split k)).i1 = _; rw [rcv_i1, if_neg (by omega)]
  have hput : ∀ u, (cntT n (takeS S 2 k (txE split k)).ec u : Int) = cntT n S.ec u + (if u = txE split k then 1 else 0) := fun u => by rw [r1, cnt_put ⟨h0, hk⟩ (h.ec k (Int.le_refl _))]
  have hcn : ∀ u, (cntT n (takeS S 2 k (txE split k)).ec u : Int) = if split = true then (if u = [120] then (k + 1 + 1) / 2 else if u = [121] then (k + 1) / 2 else 0) else (if u = [120] then k + 1 else 0) := fun u => by
    rw [hput, h.cn]
    have hxy : ([120] : Tx) ≠ [121] := by decide
    cases split
    · rw [txE_one, if_neg Bool.false_ne_true, if_neg Bool.false_ne_true]
      split <;> omega
    · rw [if_pos (rfl : true = true), if_pos (rfl : true = true)]
      by_cases hodd : k % 2 = 1
      · rw [txE_odd hodd]
        by_cases e1 : u = [120]
        · rw [if_pos e1, if_pos e1, if_neg (by rw [e1]; exact hxy)]; omega
        · rw [if_neg e1, if_neg e1]
          by_cases e2 : u = [121]
          · rw [if_pos e2, if_pos e2, if_pos e2]; omega
          · rw [if_neg e2, if_neg e2, if_neg e2]; omega
      · rw [txE_even hodd]
        by_cases e1 : u = [120]
        · rw [if_pos e1, if_pos e1, if_pos e1]; omega
        · rw [if_neg e1, if_neg e1, if_neg e1]
          split <;> omega
  have hok : ∀ u, okT (takeS S 2 k (txE split k)) u = true ↔ (n + f) / 2 + 1 ≤ (cntT n (takeS S 2 k (txE split k)).ec u : Int) := fun u => by
    rw [ok_iff hnf, r2, h.rd]; omega
  have hok0 : ∀ u, okT S u = true ↔ (n + f) / 2 + 1 ≤ (cntT n S.ec u : Int) := fun u => by
    rw [ok_iff h.nf, h.rd]; omega
  have hlen := T.len
  rw [if_neg (by rw [r3, h.i1]; simp)] at hlen
  have hdn : (takeS S 2 k (txE split k)).dn = none := by
    cases hq : (takeS S 2 k (txE split k)).dn with
    | none => rfl
    | some v =>
      rcases T.dn' v hq with z | z
      · rw [h.dn] at z; cases z
      · rw [dl_iff hnf, r2, h.rd] at z; omega
  have hnew : 0 < (tellF S 2 k (txE split k)).length → (n + f) / 2 + 1 ≤ (cntT n (takeS S 2 k (txE split k)).ec (txE split k) : Int) ∧ S.rt = none := fun z => by
    rw [hlen] at z
    split at z
    · rename_i y
      obtain ⟨v, hv⟩ := Option.isSome_iff_exists.1 y.2
      rcases T.rt' v hv with q | q
      · rw [y.1] at q; cases q
      · have q1 := (hok v).1 q.2.1
        have q2 := h.sh y.1 v
        have q3 : ¬ (n + f) / 2 + 1 ≤ (cntT n S.ec v : Int) := fun z' => by rw [(hok0 v).2 z'] at q2; cases q2
        have q4 := hput v
        by_cases e : v = txE split k
        · rw [e] at q1; exact ⟨q1, y.1⟩
        · rw [if_neg e] at q4; omega
    · omega
  have hrs : split = false → (takeS S 2 k (txE split k)).rt.isSome = true → (n + f) / 2 + 1 ≤ k + 1 := fun hs z => by
    obtain ⟨v, hv⟩ := Option.isSome_iff_exists.1 z
    rcases T.rt' v hv with q | q
    · have := h.rs hs (by rw [q]; rfl); omega
    · have q1 := (hok v).1 q.2.1
      rw [hcn, if_neg (by rw [hs]; exact Bool.false_ne_true)] at q1
      split at q1 <;> omega
  refine ⟨⟨hn1, hf0, by omega, hnf, r3.trans h.i1, fun u => by rw [r2]; exact h.rd u, fun x hx => by rw [r1, put_ne (by omega)]; exact h.ec x (by omega), hcn, hdn, T.shut.1, hrs⟩, by rw [hlen]; split <;> omega, fun hs => ⟨fun z => ?_, fun z => ?_⟩, fun hs z => ?_⟩
  · obtain ⟨q1, q2⟩ := hnew (by omega)
    rw [hcn, if_neg (by rw [hs]; exact Bool.false_ne_true), hs, txE_one, if_pos rfl] at q1
    have q3 := h.sh q2 [120]
    have q4 : ¬ (n + f) / 2 + 1 ≤ (cntT n S.ec [120] : Int) := fun z' => by rw [(hok0 _).2 z'] at q3; cases q3
    rw [h.cn, if_neg (by rw [hs]; exact Bool.false_ne_true), if_pos rfl] at q4
    omega
  · have q1 : S.rt = none := by
      cases hq : S.rt with
      | none => rfl
      | some v => have := h.rs hs (by rw [hq]; rfl); omega
    have q2 : (takeS S 2 k (txE split k)).rt.isSome = true := by
      cases hq : (takeS S 2 k (txE split k)).rt with
      | some v => rfl
      | none =>
        have q3 := T.shut.1 hq [120]
        rw [(hok [120]).2 (by rw [hcn, if_neg (by rw [hs]; exact Bool.false_ne_true), if_pos rfl]; omega)] at q3
        cases q3
    rw [hlen, if_pos ⟨q1, q2⟩]
  · obtain ⟨q1, q2⟩ := hnew z
    rw [hcn, if_pos hs, hs] at q1
    by_cases hodd : k % 2 = 1
    · rw [txE_odd hodd, if_neg (by decide), if_pos rfl] at q1; omega
    · rw [txE_even hodd, if_pos rfl] at q1; omega
end
/-! ### What the laws ask -/
section
variable {S : Cs} {kind frm n f k : Int} {t tx : Tx} {l : List (Int × Tx)} {j c : Int}
theorem knd_le (c : Int) (l : List (Int × Tx)) : 0 ≤ knd c l ∧ knd c l ≤ l.length := by
  unfold knd
  have := List.length_filter_le (fun o : Int × Tx => decide (o.1 = c)) l
  omega
theorem knd_at (c : Int) (h0 : 0 ≤ j) (hj : j < (l.length : Int)) : knd c (l.take (j + 1).toNat) = knd c (l.take j.toNat) + (if (atF (frmL l) j.toNat).kind = c then 1 else 0) := by
  rw [show (j + 1).toNat = j.toNat + 1 by omega, knd_step c (show j.toNat < l.length by omega), frm_at (show j.toNat < l.length by omega)]
theorem kind_says (hn : 0 ≤ S.n) (hf : 0 ≤ S.f) (h0 : 0 ≤ j) (hj : j < ((tellF S kind frm t).length : Int)) : (atF (frmL (tellF S kind frm t)) j.toNat).kind = 2 ∨ (atF (frmL (tellF S kind frm t)) j.toNat).kind = 3 := by
  rw [frm_at (show j.toNat < (tellF S kind frm t).length by omega)]
  exact take_says hn hf (List.getElem_mem _)
theorem dn_stays (hn : 0 ≤ S.n) (hf : 0 ≤ S.f) (h : S.dn.isSome = true) : (takeS S kind frm t).dn.isSome = true ∧ (takeS S kind frm t).dn.getD [] = S.dn.getD [] := by
  obtain ⟨u, hu⟩ := Option.isSome_iff_exists.1 h
  rw [take_dn hn hf hu, hu]; exact ⟨rfl, rfl⟩
theorem dn_none (h : S.dn.isSome = false) : S.dn.getD [] = [] := by
  cases hq : S.dn with
  | none => rfl
  | some u => rw [hq] at h; cases h
theorem few_dt (h : FewC n f tx k S) (hd : S.dn.isSome = true) : 2 * f + 1 ≤ n - k := h.ds.1 hd
theorem few_df (h : FewC n f tx k S) (hd : S.dn.isSome = false) : ¬ 2 * f + 1 ≤ n - k := fun z => by rw [h.ds.2 z] at hd; cases hd
theorem few_text (h : FewC n f tx k S) (hd : S.dn.isSome = true) : S.dn.getD [] = tx := by
  rcases h.dn with z | z
  · rw [z] at hd; cases hd
  · rw [z]; rfl
end
end Go.Proofs.Ytcnkakahhekobaa
