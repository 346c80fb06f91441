/- All that keep the rules, and what is said among them: mathematics of layer 14's theorem. Any seat with layer 14 in it. -/
import Derived.Test.YtcobpabmmbcjcaaCm
namespace Go.Proofs.Ytcobpabmmbcjcaa
open Go.RowKit
set_option maxRecDepth 100000
set_option linter.unusedSimpArgs false
set_option linter.unusedVariables false
structure Sy where
  kind : Int
  frm : Int
  dst : Int
  text : Tx
def toAll (k n : Int) (out : List (Int × Tx)) : List Sy := out.flatMap fun o => (rngI n).map fun m => ⟨o.1, k, m, o.2⟩
theorem mem_toAll {k n : Int} {out : List (Int × Tx)} {s : Sy} : s ∈ toAll k n out ↔ s.frm = k ∧ (0 ≤ s.dst ∧ s.dst < n) ∧ (s.kind, s.text) ∈ out := by
  unfold toAll
  rw [List.mem_flatMap]
  constructor
  · rintro ⟨o, ho, hs⟩
    obtain ⟨m, hm, rfl⟩ := List.mem_map.1 hs
    exact ⟨rfl, mem_rng.1 hm, ho⟩
  · rintro ⟨h1, h2, h3⟩
    refine ⟨_, h3, List.mem_map.2 ⟨s.dst, mem_rng.2 h2, ?_⟩⟩
    rw [← h1]
theorem toAll_len (k n : Int) (out : List (Int × Tx)) : (toAll k n out).length = out.length * n.toNat := by
  unfold toAll
  rw [List.length_flatMap]
  induction out with
  | nil => simp
  | cons a r ih => simp only [List.map_cons, List.sum_cons, List.length_map, rng_len, List.length_cons] at ih ⊢; rw [ih, Nat.succ_mul]; omega
section
variable {S : Cs} {kind frm : Int} {tx t u : Tx} {k c : Int}
theorem rcv_same : (rcvS S kind frm tx).n = S.n ∧ (rcvS S kind frm tx).f = S.f ∧ (rcvS S kind frm tx).rt = S.rt ∧ (rcvS S kind frm tx).dn = S.dn := by
  unfold rcvS; split
  · exact ⟨rfl, rfl, rfl, rfl⟩
  · split <;> exact ⟨rfl, rfl, rfl, rfl⟩
theorem rcv_ec : (rcvS S kind frm tx).ec = if kind = 2 then putT S.ec frm tx else S.ec := by
  unfold rcvS
  by_cases h1 : kind = 1
  · rw [if_pos h1, if_neg (by omega)]
  · rw [if_neg h1]; split <;> rfl
theorem rcv_rd : (rcvS S kind frm tx).rd = if kind = 1 ∨ kind = 2 then S.rd else putT S.rd frm tx := by
  unfold rcvS
  by_cases h1 : kind = 1
  · rw [if_pos h1, if_pos (.inl h1)]
  · rw [if_neg h1]
    by_cases h2 : kind = 2
    · rw [if_pos h2, if_pos (.inr h2)]
    · rw [if_neg h2, if_neg (by omega)]
theorem rcv_i1 : (rcvS S kind frm tx).i1 = if kind = 1 then some (S.i1.getD tx) else S.i1 := by
  unfold rcvS; split
  · rfl
  · split <;> rfl
theorem rcv_two : (rcvS S kind frm tx).two = if kind = 1 then S.two || decide (S.i1.getD tx ≠ tx) else S.two := by
  unfold rcvS; split
  · rfl
  · split <;> rfl
theorem bad_iff : badT S kind frm = false ↔ (0 ≤ frm ∧ frm < S.n) ∧ (1 ≤ kind ∧ kind ≤ 3) := by unfold badT; simp
theorem take_bad (h : badT S kind frm = true) : takeS S kind frm tx = S ∧ tellF S kind frm tx = [] := ⟨by unfold takeS; rw [h]; rfl, by unfold tellF; rw [h]; rfl⟩
theorem okT_of (h1 : 0 ≤ S.n) (h2 : 0 ≤ S.f) (h : okT S t = true) : t ∈ txsT S := by
  unfold okT manyI at h
  rw [decide_eq_true_iff] at h
  refine cnt_txs ?_
  rcases h with h | h
  · left; omega
  · right; omega
theorem dlT_of (h2 : 0 ≤ S.f) (h : dlT S t = true) : t ∈ txsT S := by
  unfold dlT at h
  rw [decide_eq_true_iff] at h
  exact cnt_txs (.inr (by omega))
structure TakeP (S S' : Cs) (out : List (Int × Tx)) (kind frm : Int) (tx : Tx) : Prop where
  nf : S'.n = S.n ∧ S'.f = S.f
  i1 : ∀ t, S.i1 = some t → S'.i1 = some t
  rt : ∀ t, S.rt = some t → S'.rt = some t
  dn : ∀ t, S.dn = some t → S'.dn = some t
  ec : ∀ k t, S.ec k = some t → S'.ec k = some t
  rd : ∀ k t, S.rd k = some t → S'.rd k = some t
  i1' : ∀ t, S'.i1 = some t → S.i1 = some t ∨ (S.i1 = none ∧ kind = 1 ∧ t = tx ∧ ((2 : Int), t) ∈ out)
  rt' : ∀ t, S'.rt = some t → S.rt = some t ∨ (S.rt = none ∧ okT S' t = true ∧ ((3 : Int), t) ∈ out)
  dn' : ∀ t, S'.dn = some t → S.dn = some t ∨ dlT S' t = true
  ec' : ∀ k t, S'.ec k = some t → S.ec k = some t ∨ (kind = 2 ∧ k = frm ∧ t = tx)
  rd' : ∀ k t, S'.rd k = some t → S.rd k = some t ∨ (kind = 3 ∧ k = frm ∧ t = tx)
  says : ∀ c t, (c, t) ∈ out → (c = 2 ∧ S'.i1 = some t) ∨ (c = 3 ∧ S'.rt = some t)
  here : (kind = 1 → S'.i1.isSome = true) ∧ (kind = 2 → (S'.ec frm).isSome = true) ∧ (kind = 3 → (S'.rd frm).isSome = true)
  shut : (S'.rt = none → ∀ t, okT S' t = false) ∧ (S'.dn = none → ∀ t, dlT S' t = false)
  len : out.length = (if S.i1 = none ∧ S'.i1.isSome = true then 1 else 0) + (if S.rt = none ∧ S'.rt.isSome = true then 1 else 0)
  two : S'.two = if kind = 1 then S.two || decide (S.i1.getD tx ≠ tx) else S.two
theorem take_p (hn : 0 ≤ S.n) (hf : 0 ≤ S.f) (h : badT S kind frm = false) : TakeP S (takeS S kind frm tx) (tellF S kind frm tx) kind frm tx := by
  have hk := bad_iff.1 h
  have e1 : takeS S kind frm tx = finS (rcvS S kind frm tx) := by unfold takeS; rw [h]; rfl
  have e2 : tellF S kind frm tx = echoF S kind tx ++ readyF (rcvS S kind frm tx) := by unfold tellF; rw [h]; rfl
  have hs := rcv_same (S := S) (kind := kind) (frm := frm) (tx := tx)
  have f1 : (finS (rcvS S kind frm tx)).n = S.n := hs.1
  have f2 : (finS (rcvS S kind frm tx)).f = S.f := hs.2.1
  have f3 : (finS (rcvS S kind frm tx)).i1 = if kind = 1 then some (S.i1.getD tx) else S.i1 := rcv_i1
  have f4 : (finS (rcvS S kind frm tx)).ec = if kind = 2 then putT S.ec frm tx else S.ec := rcv_ec
  have f5 : (finS (rcvS S kind frm tx)).rd = if kind = 1 ∨ kind = 2 then S.rd else putT S.rd frm tx := rcv_rd
  have f6 : (finS (rcvS S kind frm tx)).rt = if S.rt.isSome = true then S.rt else leastT (okT (finS (rcvS S kind frm tx))) (txsT (finS (rcvS S kind frm tx))) := by
    show (if (rcvS S kind frm tx).rt.isSome = true then _ else _) = _
    rw [hs.2.2.1]; rfl
  have f7 : (finS (rcvS S kind frm tx)).dn = if S.dn.isSome = true then S.dn else leastT (dlT (finS (rcvS S kind frm tx))) (txsT (finS (rcvS S kind frm tx))) := by
    show (if (rcvS S kind frm tx).dn.isSome = true then _ else _) = _
    rw [hs.2.2.2]; rfl
  have f8 : (finS (rcvS S kind frm tx)).two = if kind = 1 then S.two || decide (S.i1.getD tx ≠ tx) else S.two := rcv_two
  have f9 : readyF (rcvS S kind frm tx) = match (if S.rt.isSome = true then none else leastT (okT (finS (rcvS S kind frm tx))) (txsT (finS (rcvS S kind frm tx)))) with | some t => [((3 : Int), t)] | none => [] := by
    unfold readyF rdyT
    rw [hs.2.2.1]; rfl
  rw [e1, e2, f9]
  generalize finS (rcvS S kind frm tx) = S' at *
  have mi : ∀ t, S.i1 = some t → S'.i1 = some t := fun t ht => by rw [f3, ht]; split <;> rfl
  refine ⟨⟨f1, f2⟩, mi, fun t ht => by rw [f6, ht]; rfl, fun t ht => by rw [f7, ht]; rfl, fun k t hkt => ?_, fun k t hkt => ?_, fun t ht => ?_, fun t ht => ?_, fun t ht => ?_, fun k t ht => ?_, fun k t ht => ?_, fun c t hc => ?_, ⟨fun e => ?_, fun e => ?_, fun e => ?_⟩, ⟨fun e t => ?_, fun e t => ?_⟩, ?_, f8⟩
  · rw [f4]; split
    · exact put_keep hkt
    · exact hkt
  · rw [f5]; split
    · exact hkt
    · exact put_keep hkt
  · rw [f3] at ht
    split at ht
    · rename_i e
      cases hi : S.i1 with
      | some v => rw [hi] at ht; exact .inl ht
      | none =>
        rw [hi] at ht
        injection ht with ht
        have ht' : tx = t := ht
        exact .inr ⟨rfl, e, ht'.symm, List.mem_append.2 (.inl (by unfold echoF; rw [if_pos ⟨e, hi⟩, ht']; simp))⟩
    · exact .inl ht
  · rw [f6] at ht
    split at ht
    · exact .inl ht
    · rename_i hr
      have hr' : S.rt = none := by cases z : S.rt with | none => rfl | some v => rw [z] at hr; simp at hr
      exact .inr ⟨hr', (least_some ht).1, List.mem_append.2 (.inr (by rw [if_neg hr, ht]; simp))⟩
  · rw [f7] at ht
    split at ht
    · exact .inl ht
    · exact .inr (least_some ht).1
  · rw [f4] at ht
    split at ht
    · rename_i e
      rcases put_some ht with h1 | ⟨h1, h2, _⟩
      · exact .inl h1
      · exact .inr ⟨e, h1, h2⟩
    · exact .inl ht
  · rw [f5] at ht
    split at ht
    · exact .inl ht
    · rename_i e
      rcases put_some ht with h1 | ⟨h1, h2, _⟩
      · exact .inl h1
      · exact .inr ⟨by omega, h1, h2⟩
  · rcases List.mem_append.1 hc with hc | hc
    · unfold echoF at hc
      split at hc
      · rename_i e
        rw [List.mem_singleton] at hc
        injection hc with h1 h2
        subst h1 h2
        left
        exact ⟨rfl, by rw [f3, if_pos e.1, e.2]; rfl⟩
      · cases hc
    · right
      split at hc
      · rename_i v hv
        rw [List.mem_singleton] at hc
        injection hc with h1 h2
        subst h1 h2
        refine ⟨rfl, ?_⟩
        rw [f6]
        split at hv
        · cases hv
        · rename_i hr; rw [if_neg hr]; exact hv
      · cases hc
  · rw [f3, if_pos e]; rfl
  · rw [f4, if_pos e, put_at]; rfl
  · rw [f5, if_neg (by omega), put_at]; rfl
  · rw [f6] at e
    split at e
    · rename_i hr; rw [e] at hr; simp at hr
    · cases ho : okT S' t with
      | false => rfl
      | true =>
        have := least_none e t (okT_of (by rw [f1]; exact hn) (by rw [f2]; exact hf) ho)
        rw [this] at ho; cases ho
  · rw [f7] at e
    split at e
    · rename_i hr; rw [e] at hr; simp at hr
    · cases ho : dlT S' t with
      | false => rfl
      | true =>
        have := least_none e t (dlT_of (by rw [f2]; exact hf) ho)
        rw [this] at ho; cases ho
  · rw [List.length_append]
    have l1 : (echoF S kind tx).length = if S.i1 = none ∧ S'.i1.isSome = true then 1 else 0 := by
      unfold echoF
      by_cases e : kind = 1 ∧ S.i1 = none
      · rw [if_pos e, if_pos ⟨e.2, by rw [f3, if_pos e.1]; rfl⟩]; rfl
      · rw [if_neg e, if_neg]
        · rfl
        · rintro ⟨h1, h2⟩
          rw [f3] at h2
          split at h2
          · rename_i e1; exact e ⟨e1, h1⟩
          · rw [h1] at h2; simp at h2
    rw [l1]
    congr 1
    cases hr : S.rt with
    | some v =>
      rw [hr] at f6
      simp only [Option.isSome_some, if_true]
      rw [if_neg (by simp)]; rfl
    | none =>
      rw [hr] at f6
      simp only [Option.isSome_none, Bool.false_eq_true, if_false] at f6 ⊢
      rw [← f6]
      cases S'.rt with
      | none => simp
      | some v => simp
end
def hon (n f k : Int) : Prop := f ≤ k ∧ k < n
def updW (W : Int → Cs) (j : Int) (S : Cs) : Int → Cs := fun x => if x = j then S else W x
def cntI (n f : Int) (W : Int → Cs) : Nat := ((rngI n).filter fun k => decide (f ≤ k) && (W k).i1.isSome).length
def cntR (n f : Int) (W : Int → Cs) : Nat := ((rngI n).filter fun k => decide (f ≤ k) && (W k).rt.isSome).length
structure Sim (n f : Int) (hi : Option (Int × Tx)) (q0 : Nat) (W : Int → Cs) (q : List Sy) (i : Nat) : Prop where
  n0 : 1 ≤ n
  f0 : 0 ≤ f
  f3 : 3 * f < n
  nf : ∀ j, hon n f j → (W j).n = n ∧ (W j).f = f
  qr : ∀ s ∈ q, 0 ≤ s.frm ∧ s.frm < n
  qh : ∀ s ∈ q, f ≤ s.frm → (s.kind = 2 ∧ (W s.frm).i1 = some s.text) ∨ (s.kind = 3 ∧ (W s.frm).rt = some s.text) ∨ (s.kind = 1 ∧ hi = some (s.frm, s.text))
  qe : ∀ j, hon n f j → ∀ t, (W j).i1 = some t → ∀ m, 0 ≤ m → m < n → Sy.mk 2 j m t ∈ q
  qd : ∀ j, hon n f j → ∀ t, (W j).rt = some t → ∀ m, 0 ≤ m → m < n → Sy.mk 3 j m t ∈ q
  pe : ∀ j, hon n f j → ∀ k, hon n f k → ∀ t, (W j).ec k = some t → (W k).i1 = some t
  pd : ∀ j, hon n f j → ∀ k, hon n f k → ∀ t, (W j).rd k = some t → (W k).rt = some t
  de : ∀ s ∈ q.take i, hon n f s.dst → (s.kind = 1 → (W s.dst).i1.isSome = true) ∧ (s.kind = 2 → ((W s.dst).ec s.frm).isSome = true) ∧ (s.kind = 3 → ((W s.dst).rd s.frm).isSome = true)
  p6 : ∀ j, hon n f j → ∀ t, (W j).rt = some t → ∃ m, hon n f m ∧ (n + f) / 2 + 1 ≤ (cntT n (W m).ec t : Int)
  d4 : ∀ j, hon n f j → ∀ t, (W j).dn = some t → 2 * f + 1 ≤ (cntT n (W j).rd t : Int)
  c5 : ∀ j, hon n f j → ((W j).rt = none → ∀ t, okT (W j) t = false) ∧ ((W j).dn = none → ∀ t, dlT (W j) t = false)
  q1 : ∀ o t, hi = some (o, t) → (∀ s ∈ q, s.kind = 1 → s.text = t) ∧ (∀ m, 0 ≤ m → m < n → Sy.mk 1 o m t ∈ q) ∧ hon n f o
  ti : ∀ o t, hi = some (o, t) → ∀ j, hon n f j → ((W j).i1 = none ∨ (W j).i1 = some t) ∧ (W j).two = false
  bl : (q.length : Int) = q0 + n * (cntI n f W + cntR n f W)
section
variable {n f : Int} {hi : Option (Int × Tx)} {W : Int → Cs} {q : List Sy} {i q0 : Nat} {j k : Int} {t u : Tx}
theorem upd_at (W : Int → Cs) (j : Int) (S : Cs) : updW W j S j = S := if_pos rfl
theorem upd_ne (W : Int → Cs) {j x : Int} (S : Cs) (h : x ≠ j) : updW W j S x = W x := if_neg h
theorem Sim.bound (h : Sim n f hi q0 W q i) : (q.length : Int) ≤ q0 + 2 * (n * n) := by
  have h1 : cntI n f W ≤ n.toNat := by unfold cntI; have := List.length_filter_le (fun k => decide (f ≤ k) && (W k).i1.isSome) (rngI n); rw [rng_len] at this; exact this
  have h2 : cntR n f W ≤ n.toNat := by unfold cntR; have := List.length_filter_le (fun k => decide (f ≤ k) && (W k).rt.isSome) (rngI n); rw [rng_len] at this; exact this
  have h3 := h.bl
  have h0 := h.n0
  have h4 : n * ((cntI n f W : Int) + cntR n f W) ≤ n * (n + n) := Int.mul_le_mul_of_nonneg_left (by omega) (by omega)
  rw [Int.mul_add n n n] at h4
  omega
theorem dl_iff {S : Cs} (hs : S.n = n ∧ S.f = f) : dlT S t = true ↔ 2 * f + 1 ≤ (cntT n S.rd t : Int) := by unfold dlT; rw [decide_eq_true_iff, hs.1, hs.2]
theorem ok_iff {S : Cs} (hs : S.n = n ∧ S.f = f) : okT S t = true ↔ (n + f) / 2 + 1 ≤ (cntT n S.ec t : Int) ∨ f + 1 ≤ (cntT n S.rd t : Int) := by unfold okT manyI; rw [decide_eq_true_iff, hs.1, hs.2]
theorem Sim.pass (h : Sim n f hi q0 W q i) (hl : i < q.length) (hd : ¬ hon n f (q[i]).dst) : Sim n f hi q0 W q (i + 1) :=
  ⟨h.n0, h.f0, h.f3, h.nf, h.qr, h.qh, h.qe, h.qd, h.pe, h.pd, fun s hs hh => by
    rw [List.take_succ_eq_append_getElem hl] at hs
    rcases List.mem_append.1 hs with hs | hs
    · exact h.de s hs hh
    · rw [List.mem_singleton] at hs; subst hs; exact absurd hh hd, h.p6, h.d4, h.c5, h.q1, h.ti, h.bl⟩
theorem cnt_one (p p' : Int → Bool) (hj : 0 ≤ j ∧ j < n) (hne : ∀ k, k ≠ j → p' k = p k) (hm : p j = true → p' j = true) : (((rngI n).filter p').length : Int) = ((rngI n).filter p).length + (if p j = false ∧ p' j = true then 1 else 0) := by
  by_cases e : p j = false ∧ p' j = true
  · rw [if_pos e]
    have := count_more (rng_nodup n) (mem_rng.2 hj) (p := p) (q := p') e.1 fun k _ => by
      by_cases h : k = j
      · subst h; rw [e.2]; simp
      · rw [hne k h]; simp [h]
    omega
  · rw [if_neg e]
    have : (rngI n).filter p' = (rngI n).filter p := List.filter_congr fun k _ => by
      by_cases h : k = j
      · subst h
        cases h1 : p k with
        | true => rw [hm h1]
        | false => cases h2 : p' k with
                   | false => rfl
                   | true => exact absurd ⟨h1, h2⟩ e
      · exact hne k h
    rw [this]; omega
theorem Sim.step (h : Sim n f hi q0 W q i) (hl : i < q.length) (hj : hon n f j) (hd : (q[i]).dst = j) :
    Sim n f hi q0 (updW W j (takeS (W j) (q[i]).kind (q[i]).frm (q[i]).text)) (q ++ toAll j n (tellF (W j) (q[i]).kind (q[i]).frm (q[i]).text)) (i + 1) := by
  have hsm : q[i] ∈ q := List.getElem_mem hl
  generalize hs : q[i] = s at *
  have hnj := h.nf j hj
  have hjn : 0 ≤ j ∧ j < n := by have := h.f0; exact ⟨by unfold hon at hj; omega, hj.2⟩
  by_cases hb : badT (W j) s.kind s.frm = true
  · obtain ⟨e1, e2⟩ := take_bad (tx := s.text) hb
    rw [e1, e2]
    have eW : updW W j (W j) = W := by
      funext x; unfold updW
      split
      · rename_i e; rw [e]
      · rfl
    rw [eW, show toAll j n [] = [] from rfl, List.append_nil]
    refine ⟨h.n0, h.f0, h.f3, h.nf, h.qr, h.qh, h.qe, h.qd, h.pe, h.pd, fun x hx hh => ?_, h.p6, h.d4, h.c5, h.q1, h.ti, h.bl⟩
    rw [List.take_succ_eq_append_getElem hl, hs] at hx
    rcases List.mem_append.1 hx with hx | hx
    · exact h.de x hx hh
    · rw [List.mem_singleton] at hx; subst hx
      have hr := h.qr x hsm
      have : ¬ (1 ≤ x.kind ∧ x.kind ≤ 3) := fun z => by
        have := bad_iff.2 ⟨⟨hr.1, by rw [hnj.1]; exact hr.2⟩, z⟩
        rw [this] at hb; cases hb
      exact ⟨fun e => absurd (by omega) this, fun e => absurd (by omega) this, fun e => absurd (by omega) this⟩
  · have hb' : badT (W j) s.kind s.frm = false := by simpa using hb
    have T := take_p (tx := s.text) (by rw [hnj.1]; have := h.n0; omega) (by rw [hnj.2]; exact h.f0) hb'
    have hr := h.qr s hsm
    generalize hS : takeS (W j) s.kind s.frm s.text = S at *
    generalize hO : tellF (W j) s.kind s.frm s.text = out at *
    have hSn : S.n = n ∧ S.f = f := by rw [T.nf.1, T.nf.2]; exact hnj
    have W1 : ∀ k t, (W k).i1 = some t → (updW W j S k).i1 = some t := fun k t hk => by
      by_cases e : k = j
      · subst e; rw [upd_at]; exact T.i1 t hk
      · rw [upd_ne W S e]; exact hk
    have W2 : ∀ k t, (W k).rt = some t → (updW W j S k).rt = some t := fun k t hk => by
      by_cases e : k = j
      · subst e; rw [upd_at]; exact T.rt t hk
      · rw [upd_ne W S e]; exact hk
    have W3 : ∀ k m t, (W k).ec m = some t → (updW W j S k).ec m = some t := fun k m t hk => by
      by_cases e : k = j
      · subst e; rw [upd_at]; exact T.ec m t hk
      · rw [upd_ne W S e]; exact hk
    have W4 : ∀ k m t, (W k).rd m = some t → (updW W j S k).rd m = some t := fun k m t hk => by
      by_cases e : k = j
      · subst e; rw [upd_at]; exact T.rd m t hk
      · rw [upd_ne W S e]; exact hk
    have iso : ∀ {o : Option Tx}, o.isSome = true → ∃ t, o = some t := fun {o} ho => Option.isSome_iff_exists.1 ho
    have rdy : ∀ k, hon n f k → ∀ t, S.rd k = some t → (W k).rt = some t := fun k hk t ht => by
      rcases T.rd' k t ht with h1 | ⟨h1, h2, h3⟩
      · exact h.pd j hj k hk t h1
      · subst h2 h3
        rcases h.qh s hsm hk.1 with z | z | z
        · omega
        · exact z.2
        · omega
    have ech : ∀ k, hon n f k → ∀ t, S.ec k = some t → (W k).i1 = some t := fun k hk t ht => by
      rcases T.ec' k t ht with h1 | ⟨h1, h2, h3⟩
      · exact h.pe j hj k hk t h1
      · subst h2 h3
        rcases h.qh s hsm hk.1 with z | z | z
        · exact z.2
        · omega
        · omega
    refine ⟨h.n0, h.f0, h.f3, fun k hk => ?_, fun x hx => ?_, fun x hx hf => ?_, fun k hk t ht m m0 m1 => ?_, fun k hk t ht m m0 m1 => ?_, fun k hk m hm t ht => ?_, fun k hk m hm t ht => ?_, fun x hx hh => ?_, fun k hk t ht => ?_, fun k hk t ht => ?_, fun k hk => ?_, fun o t ho => ?_, fun o t ho k hk => ?_, ?_⟩
    · by_cases e : k = j
      · subst e; rw [upd_at]; exact hSn
      · rw [upd_ne W S e]; exact h.nf k hk
    · rcases List.mem_append.1 hx with hx | hx
      · exact h.qr x hx
      · rw [(mem_toAll.1 hx).1]; exact hjn
    · rcases List.mem_append.1 hx with hx | hx
      · rcases h.qh x hx hf with z | z | z
        · exact .inl ⟨z.1, W1 _ _ z.2⟩
        · exact .inr (.inl ⟨z.1, W2 _ _ z.2⟩)
        · exact .inr (.inr z)
      · obtain ⟨h1, _, h3⟩ := mem_toAll.1 hx
        rw [h1, upd_at]
        rcases T.says _ _ h3 with z | z
        · exact .inl z
        · exact .inr (.inl z)
    · rw [List.mem_append]
      by_cases e : k = j
      · subst e
        rw [upd_at] at ht
        rcases T.i1' t ht with z | ⟨_, _, _, z⟩
        · exact .inl (h.qe k hk t z m m0 m1)
        · exact .inr (mem_toAll.2 ⟨rfl, ⟨m0, m1⟩, z⟩)
      · rw [upd_ne W S e] at ht; exact .inl (h.qe k hk t ht m m0 m1)
    · rw [List.mem_append]
      by_cases e : k = j
      · subst e
        rw [upd_at] at ht
        rcases T.rt' t ht with z | ⟨_, _, z⟩
        · exact .inl (h.qd k hk t z m m0 m1)
        · exact .inr (mem_toAll.2 ⟨rfl, ⟨m0, m1⟩, z⟩)
      · rw [upd_ne W S e] at ht; exact .inl (h.qd k hk t ht m m0 m1)
    · by_cases e : k = j
      · subst e; rw [upd_at] at ht; exact W1 _ _ (ech m hm t ht)
      · rw [upd_ne W S e] at ht; exact W1 _ _ (h.pe k hk m hm t ht)
    · by_cases e : k = j
      · subst e; rw [upd_at] at ht; exact W2 _ _ (rdy m hm t ht)
      · rw [upd_ne W S e] at ht; exact W2 _ _ (h.pd k hk m hm t ht)
    · rw [List.take_append_of_le_length (by omega), List.take_succ_eq_append_getElem hl, hs] at hx
      rcases List.mem_append.1 hx with hx | hx
      · obtain ⟨d1, d2, d3⟩ := h.de x hx hh
        refine ⟨fun e => ?_, fun e => ?_, fun e => ?_⟩
        · obtain ⟨t, ht⟩ := iso (d1 e); rw [W1 _ _ ht]; rfl
        · obtain ⟨t, ht⟩ := iso (d2 e); rw [W3 _ _ _ ht]; rfl
        · obtain ⟨t, ht⟩ := iso (d3 e); rw [W4 _ _ _ ht]; rfl
      · rw [List.mem_singleton] at hx; subst hx
        rw [hd, upd_at]; exact T.here
    · by_cases e : k = j
      · subst e
        rw [upd_at] at ht
        rcases T.rt' t ht with z | ⟨_, z, _⟩
        · obtain ⟨m, hm, hc⟩ := h.p6 k hk t z
          exact ⟨m, hm, Int.le_trans hc (Int.ofNat_le.2 (cnt_mono (fun a b => W3 m a b) t))⟩
        · rcases (ok_iff hSn).1 z with z | z
          · exact ⟨k, hk, by rw [upd_at]; exact z⟩
          · obtain ⟨x, hx, _, hp⟩ := honest_one h.f0 (n := n) (p := fun x => decide (S.rd x = some t)) (by unfold cntT at z; omega)
            obtain ⟨m, hm, hc⟩ := h.p6 x hx t (rdy x hx t (by simpa using hp))
            exact ⟨m, hm, Int.le_trans hc (Int.ofNat_le.2 (cnt_mono (fun a b => W3 m a b) t))⟩
      · rw [upd_ne W S e] at ht
        obtain ⟨m, hm, hc⟩ := h.p6 k hk t ht
        exact ⟨m, hm, Int.le_trans hc (Int.ofNat_le.2 (cnt_mono (fun a b => W3 m a b) t))⟩
    · by_cases e : k = j
      · subst e
        rw [upd_at] at ht ⊢
        rcases T.dn' t ht with z | z
        · exact Int.le_trans (h.d4 k hk t z) (Int.ofNat_le.2 (cnt_mono T.rd t))
        · exact (dl_iff hSn).1 z
      · rw [upd_ne W S e] at ht ⊢; exact h.d4 k hk t ht
    · by_cases e : k = j
      · subst e; rw [upd_at]; exact T.shut
      · rw [upd_ne W S e]; exact h.c5 k hk
    · obtain ⟨a1, a2, a3⟩ := h.q1 o t ho
      refine ⟨fun x hx hk => ?_, fun m m0 m1 => List.mem_append.2 (.inl (a2 m m0 m1)), a3⟩
      rcases List.mem_append.1 hx with hx | hx
      · exact a1 x hx hk
      · rcases T.says _ _ (mem_toAll.1 hx).2.2 with z | z <;> omega
    · have a := h.ti o t ho k hk
      by_cases e : k = j
      · subst e
        rw [upd_at]
        have htx : s.kind = 1 → s.text = t := fun e => (h.q1 o t ho).1 s hsm e
        refine ⟨?_, ?_⟩
        · cases hi1 : S.i1 with
          | none => exact .inl rfl
          | some v =>
            right
            rcases T.i1' v hi1 with z | ⟨_, z1, z2, _⟩
            · rcases a.1 with y | y
              · rw [y] at z; cases z
              · rw [y] at z; exact z.symm
            · rw [z2, htx z1]
        · rw [T.two]
          split
          · rename_i e1
            rw [a.2, htx e1]
            rcases a.1 with y | y <;> rw [y] <;> simp
          · exact a.2
      · rw [upd_ne W S e]; exact a
    · rw [List.length_append, toAll_len, T.len]
      have c1 := cnt_one (n := n) (fun k => decide (f ≤ k) && (W k).i1.isSome) (fun k => decide (f ≤ k) && (updW W j S k).i1.isSome) hjn (fun k hk => by rw [upd_ne W S hk]) (fun z => by
        simp only [Bool.and_eq_true] at z ⊢
        obtain ⟨t, ht⟩ := iso z.2
        exact ⟨z.1, by rw [W1 _ _ ht]; rfl⟩)
      have c2 := cnt_one (n := n) (fun k => decide (f ≤ k) && (W k).rt.isSome) (fun k => decide (f ≤ k) && (updW W j S k).rt.isSome) hjn (fun k hk => by rw [upd_ne W S hk]) (fun z => by
        simp only [Bool.and_eq_true] at z ⊢
        obtain ⟨t, ht⟩ := iso z.2
        exact ⟨z.1, by rw [W2 _ _ ht]; rfl⟩)
      simp only [upd_at, decide_eq_true hj.1, Bool.true_and] at c1 c2
      have hbl := h.bl
      unfold cntI cntR at hbl ⊢
      have e1 : ((W j).i1.isSome = false ∧ S.i1.isSome = true) ↔ ((W j).i1 = none ∧ S.i1.isSome = true) := by rw [Option.isSome_eq_false_iff, Option.isNone_iff_eq_none]
      have e2 : ((W j).rt.isSome = false ∧ S.rt.isSome = true) ↔ ((W j).rt = none ∧ S.rt.isSome = true) := by rw [Option.isSome_eq_false_iff, Option.isNone_iff_eq_none]
      simp only [e1] at c1
      simp only [e2] at c2
      rw [c1, c2]
      have hn : ((n.toNat : Nat) : Int) = n := by have := h.n0; omega
      by_cases x1 : (W j).i1 = none ∧ S.i1.isSome = true <;> by_cases x2 : (W j).rt = none ∧ S.rt.isSome = true
      · rw [if_pos x1, if_pos x2, if_pos x1, if_pos x2, Int.natCast_add, Int.natCast_mul, hn, hbl]; simp only [Int.mul_add]; omega
      · rw [if_pos x1, if_neg x2, if_pos x1, if_neg x2, Int.natCast_add, Int.natCast_mul, hn, hbl]; simp only [Int.mul_add]; omega
      · rw [if_neg x1, if_pos x2, if_neg x1, if_pos x2, Int.natCast_add, Int.natCast_mul, hn, hbl]; simp only [Int.mul_add]; omega
      · rw [if_neg x1, if_neg x2, if_neg x1, if_neg x2, Int.natCast_add, Int.natCast_mul, hn, hbl]; simp only [Int.mul_add]; omega
end
section
variable {n f : Int} {hi : Option (Int × Tx)} {W : Int → Cs} {q : List Sy} {i q0 : Nat} {j k : Int} {t u : Tx}
theorem Sim.all (h : Sim n f hi q0 W q i) (he : ¬ i < q.length) {s : Sy} (hs : s ∈ q) (hh : hon n f s.dst) : (s.kind = 1 → (W s.dst).i1.isSome = true) ∧ (s.kind = 2 → ((W s.dst).ec s.frm).isSome = true) ∧ (s.kind = 3 → ((W s.dst).rd s.frm).isSome = true) :=
  h.de s (by rw [List.take_of_length_le (by omega)]; exact hs) hh
theorem Sim.dst (h : Sim n f hi q0 W q i) (hj : hon n f j) : 0 ≤ j ∧ j < n := by have := h.f0; unfold hon at hj; omega
theorem Sim.same (h : Sim n f hi q0 W q i) (hj : hon n f j) (hk : hon n f k) (ht : (W j).rt = some t) (hu : (W k).rt = some u) : t = u := by
  obtain ⟨m, hm, h1⟩ := h.p6 j hj t ht
  obtain ⟨m', hm', h2⟩ := h.p6 k hk u hu
  obtain ⟨x, hx, h3, h4⟩ := quorums_meet h.f0 (by have := h.n0; omega) h1 h2
  have a := h.pe m hm x hx t h3
  have b := h.pe m' hm' x hx u h4
  rw [a] at b; injection b
theorem Sim.told (h : Sim n f hi q0 W q i) (hj : hon n f j) (hd : (W j).dn = some t) : ∃ x, hon n f x ∧ (W x).rt = some t := by
  have h1 := h.d4 j hj t hd
  obtain ⟨x, hx, _, hp⟩ := honest_one h.f0 (n := n) (p := fun x => decide ((W j).rd x = some t)) (by unfold cntT at h1; have := h.f0; omega)
  exact ⟨x, hx, h.pd j hj x hx t (by simpa using hp)⟩
theorem Sim.agree (h : Sim n f hi q0 W q i) (hj : hon n f j) (hk : hon n f k) (ht : (W j).dn = some t) (hu : (W k).dn = some u) : t = u := by
  obtain ⟨x, hx, h1⟩ := h.told hj ht
  obtain ⟨y, hy, h2⟩ := h.told hk hu
  exact h.same hx hy h1 h2
theorem Sim.came (h : Sim n f hi q0 W q i) (he : ¬ i < q.length) (hj : hon n f j) (ht : (W j).rt = some t) (hk : hon n f k) : (W k).rd j = some t := by
  have hd := h.dst hk
  have h1 := (h.all he (h.qd j hj t ht k hd.1 hd.2) hk).2.2 rfl
  obtain ⟨u, hu⟩ := Option.isSome_iff_exists.1 h1
  have h2 := h.pd k hk j hj u hu
  rw [ht] at h2
  injection h2 with h2
  subst h2
  exact hu
theorem Sim.came_e (h : Sim n f hi q0 W q i) (he : ¬ i < q.length) (hj : hon n f j) (ht : (W j).i1 = some t) (hk : hon n f k) : (W k).ec j = some t := by
  have hd := h.dst hk
  have h1 := (h.all he (h.qe j hj t ht k hd.1 hd.2) hk).2.1 rfl
  obtain ⟨u, hu⟩ := Option.isSome_iff_exists.1 h1
  have h2 := h.pe k hk j hj u hu
  rw [ht] at h2
  injection h2 with h2
  subst h2
  exact hu
theorem Sim.ready (h : Sim n f hi q0 W q i) (hk : hon n f k) (ho : okT (W k) t = true) : ∃ u, (W k).rt = some u := by
  cases hr : (W k).rt with
  | some u => exact ⟨u, rfl⟩
  | none => have := (h.c5 k hk).1 hr t; rw [this] at ho; cases ho
theorem Sim.deliver (h : Sim n f hi q0 W q i) (he : ¬ i < q.length) (ha : ∀ k, hon n f k → (W k).rt = some t) (hk : hon n f k) : (W k).dn = some t := by
  have hc : 2 * f + 1 ≤ (cntT n (W k).rd t : Int) := by
    have h1 := high_count h.f0 (by have := h.f3; have := h.f0; omega) (n := n) (p := fun x => decide ((W k).rd x = some t)) fun x hx1 hx2 => by
      simpa using h.came he ⟨hx1, hx2⟩ (ha x ⟨hx1, hx2⟩) hk
    have := h.f3
    unfold cntT; omega
  have hd := (dl_iff (h.nf k hk)).2 hc
  cases hn : (W k).dn with
  | none => have := (h.c5 k hk).2 hn t; rw [this] at hd; cases hd
  | some u =>
    obtain ⟨x, hx, hr⟩ := h.told hk hn
    rw [ha x hx] at hr
    exact hr.symm
theorem Sim.total (h : Sim n f hi q0 W q i) (he : ¬ i < q.length) (hj : hon n f j) (ht : (W j).dn = some t) (hk : hon n f k) : (W k).dn = some t := by
  have h1 := h.d4 j hj t ht
  have hall : ∀ m, hon n f m → (W m).rt = some t := fun m hm => by
    have hc : f + 1 ≤ (cntT n (W m).rd t : Int) := by
      have h2 := filter_split (fun x => decide ((W j).rd x = some t)) (fun x => decide (x < f)) (rngI n)
      have h3 : ((rngI n).filter fun x => decide ((W j).rd x = some t) && decide (x < f)).length ≤ f.toNat := Nat.le_trans (filter_le _ _ _ fun x _ hx => (by simp only [Bool.and_eq_true] at hx; exact hx.2)) (low_count n f h.f0)
      have h4 : ((rngI n).filter fun x => decide ((W j).rd x = some t) && !decide (x < f)).length ≤ ((rngI n).filter fun x => decide ((W m).rd x = some t)).length := filter_le _ _ _ fun x hx hp => by
        simp only [Bool.and_eq_true, Bool.not_eq_true', decide_eq_false_iff_not, decide_eq_true_eq] at hp
        have hxn := mem_rng.1 hx
        have hxh : hon n f x := ⟨by omega, hxn.2⟩
        simpa using h.came he hxh (h.pd j hj x hxh t hp.1) hm
      have := h.f0
      unfold cntT at h1 ⊢
      omega
    obtain ⟨u, hu⟩ := h.ready hm ((ok_iff (h.nf m hm)).2 (.inr hc))
    obtain ⟨x, hx, hr⟩ := h.told hj ht
    rw [hu, h.same hm hx hu hr]
  exact h.deliver he hall hk
theorem Sim.origin (h : Sim n f hi q0 W q i) (he : ¬ i < q.length) {o : Int} (ho : hi = some (o, t)) (hk : hon n f k) : (W k).dn = some t ∧ (W k).two = false := by
  obtain ⟨_, a2, a3⟩ := h.q1 o t ho
  have hin : ∀ m, hon n f m → (W m).i1 = some t := fun m hm => by
    have hd := h.dst hm
    have h1 := (h.all he (a2 m hd.1 hd.2) hm).1 rfl
    rcases (h.ti o t ho m hm).1 with z | z
    · simp only at h1; rw [z] at h1; cases h1
    · exact z
  have hec : ∀ m, hon n f m → (n + f) / 2 + 1 ≤ (cntT n (W m).ec t : Int) := fun m hm => by
    have h1 := high_count h.f0 (by have := h.f3; have := h.f0; omega) (n := n) (p := fun x => decide ((W m).ec x = some t)) fun x hx1 hx2 => by
      simpa using h.came_e he ⟨hx1, hx2⟩ (hin x ⟨hx1, hx2⟩) hm
    have := h.f3
    unfold cntT; omega
  have hall : ∀ m, hon n f m → (W m).rt = some t := fun m hm => by
    obtain ⟨u, hu⟩ := h.ready hm ((ok_iff (h.nf m hm)).2 (.inl (hec m hm)))
    obtain ⟨m', hm', hc⟩ := h.p6 m hm u hu
    obtain ⟨x, hx, h3, h4⟩ := quorums_meet h.f0 (by have := h.n0; omega) (hec m hm) hc
    have a := h.pe m hm x hx t h3
    have b := h.pe m' hm' x hx u h4
    rw [a] at b; injection b with b
    rw [hu, b]
  exact ⟨h.deliver he hall hk, (h.ti o t ho k hk).2⟩
theorem cnt_none (n : Int) (t : Tx) : cntT n (fun _ => none) t = 0 := by
  unfold cntT
  rw [List.filter_eq_nil_iff.2 (fun _ _ => by simp)]; rfl
theorem Sim.start (h1 : 1 ≤ n) (h0 : 0 ≤ f) (h3 : 3 * f < n) (hq : ∀ s ∈ q, 0 ≤ s.frm ∧ s.frm < n) (hh : ∀ s ∈ q, f ≤ s.frm → s.kind = 1 ∧ hi = some (s.frm, s.text))
    (ho : ∀ o t, hi = some (o, t) → (∀ s ∈ q, s.kind = 1 → s.text = t) ∧ (∀ m, 0 ≤ m → m < n → Sy.mk 1 o m t ∈ q) ∧ hon n f o) : Sim n f hi q.length (fun _ => cnewS n f) q 0 :=
  { n0 := h1, f0 := h0, f3 := h3
    nf := fun _ _ => ⟨rfl, rfl⟩
    qr := hq
    qh := fun s hs hf => .inr (.inr (hh s hs hf))
    qe := fun _ _ t ht => (by cases ht)
    qd := fun _ _ t ht => (by cases ht)
    pe := fun _ _ _ _ t ht => (by cases ht)
    pd := fun _ _ _ _ t ht => (by cases ht)
    de := fun s hs => (by simp at hs)
    p6 := fun _ _ t ht => (by cases ht)
    d4 := fun _ _ t ht => (by cases ht)
    c5 := fun j _ => ⟨fun _ t => (by
      unfold okT manyI
      refine decide_eq_false ?_
      show ¬ ((n + f) / 2 + 1 ≤ ((cntT n (fun _ => none) t : Nat) : Int) ∨ f + 1 ≤ ((cntT n (fun _ => none) t : Nat) : Int))
      rw [cnt_none]; omega), fun _ t => (by
      unfold dlT
      refine decide_eq_false ?_
      show ¬ (2 * f + 1 ≤ ((cntT n (fun _ => none) t : Nat) : Int))
      rw [cnt_none]; omega)⟩
    q1 := ho
    ti := fun o t _ j _ => ⟨.inl rfl, rfl⟩
    bl := (by
      have : ∀ g : Int → Bool, (∀ k, g k = false) → ((rngI n).filter g).length = 0 := fun g hg => (by rw [List.filter_eq_nil_iff.2 (fun k _ => by rw [hg k]; simp)]; rfl)
      unfold cntI cntR
      have e1 := this (fun k => decide (f ≤ k) && (cnewS n f).i1.isSome) (fun k => by simp [cnewS])
      have e2 := this (fun k => decide (f ≤ k) && (cnewS n f).rt.isSome) (fun k => by simp [cnewS])
      rw [e1, e2]; simp) }
end
end Go.Proofs.Ytcobpabmmbcjcaa
