/- One broadcast among several (layer 15): what comes may be dropped once the text was delivered (or anywhere: then the simulation is not live). Mathematics of layer 15's theorem. Any seat with layer 14 in it. -/
import Derived.Test.YtcobpabmmbcjcaaCn
namespace Go.Proofs.Ytcobpabmmbcjcaa
open Go.RowKit
set_option maxRecDepth 100000
set_option linter.unusedSimpArgs false
set_option linter.unusedVariables false
def rngF (f n : Int) : List Int := (List.range (n - f).toNat).map fun (i : Nat) => f + (i : Int)
theorem mem_rngF {f n k : Int} : k ∈ rngF f n ↔ hon n f k := by
  unfold rngF hon
  rw [List.mem_map]
  constructor
  · rintro ⟨i, hi, rfl⟩
    have := List.mem_range.1 hi
    omega
  · intro h
    exact ⟨(k - f).toNat, List.mem_range.2 (by omega), by omega⟩
theorem rngF_len (f n : Int) : (rngF f n).length = (n - f).toNat := by unfold rngF; rw [List.length_map, List.length_range]
def toHon (k f n : Int) (out : List (Int × Tx)) : List Sy := out.flatMap fun o => (rngF f n).map fun m => ⟨o.1, k, m, o.2⟩
theorem mem_toHon {k f n : Int} {out : List (Int × Tx)} {s : Sy} : s ∈ toHon k f n out ↔ s.frm = k ∧ hon n f s.dst ∧ (s.kind, s.text) ∈ out := by
  unfold toHon
  rw [List.mem_flatMap]
  constructor
  · rintro ⟨o, ho, hs⟩
    obtain ⟨m, hm, rfl⟩ := List.mem_map.1 hs
    exact ⟨rfl, mem_rngF.1 hm, ho⟩
  · rintro ⟨h1, h2, h3⟩
    refine ⟨_, h3, List.mem_map.2 ⟨s.dst, mem_rngF.2 h2, ?_⟩⟩
    rw [← h1]
theorem toHon_len (k f n : Int) (out : List (Int × Tx)) : (toHon k f n out).length = out.length * (n - f).toNat := by
  unfold toHon
  rw [List.length_flatMap]
  induction out with
  | nil => simp
  | cons a r ih => simp only [List.map_cons, List.sum_cons, List.length_map, rngF_len, List.length_cons] at ih ⊢; rw [ih, Nat.succ_mul]; omega
structure Sid (n f : Int) (hi : Option (Int × Tx)) (q0 : Nat) (lv : Prop) (W : Int → Cs) (q : List Sy) (i : Nat) : Prop where
  n0 : 1 ≤ n
  f0 : 0 ≤ f
  f3 : 3 * f < n
  nf : ∀ j, hon n f j → (W j).n = n ∧ (W j).f = f
  qr : ∀ s ∈ q, 0 ≤ s.frm ∧ s.frm < n
  qh : ∀ s ∈ q, f ≤ s.frm → (s.kind = 2 ∧ (W s.frm).i1 = some s.text) ∨ (s.kind = 3 ∧ (W s.frm).rt = some s.text) ∨ (s.kind = 1 ∧ hi = some (s.frm, s.text))
  qe : ∀ j, hon n f j → ∀ t, (W j).i1 = some t → ∀ m, hon n f m → Sy.mk 2 j m t ∈ q
  qd : ∀ j, hon n f j → ∀ t, (W j).rt = some t → ∀ m, hon n f m → Sy.mk 3 j m t ∈ q
  pe : ∀ j, hon n f j → ∀ k, hon n f k → ∀ t, (W j).ec k = some t → (W k).i1 = some t
  pd : ∀ j, hon n f j → ∀ k, hon n f k → ∀ t, (W j).rd k = some t → (W k).rt = some t
  de : lv → ∀ s ∈ q.take i, hon n f s.dst → (W s.dst).dn.isSome = true ∨ ((s.kind = 1 → (W s.dst).i1.isSome = true) ∧ (s.kind = 2 → ((W s.dst).ec s.frm).isSome = true) ∧ (s.kind = 3 → ((W s.dst).rd s.frm).isSome = true))
  p6 : ∀ j, hon n f j → ∀ t, (W j).rt = some t → ∃ m, hon n f m ∧ (n + f) / 2 + 1 ≤ (cntT n (W m).ec t : Int)
  d4 : ∀ j, hon n f j → ∀ t, (W j).dn = some t → 2 * f + 1 ≤ (cntT n (W j).rd t : Int)
  c5 : ∀ j, hon n f j → ((W j).rt = none → ∀ t, okT (W j) t = false) ∧ ((W j).dn = none → ∀ t, dlT (W j) t = false)
  q1 : ∀ o t, hi = some (o, t) → (∀ s ∈ q, s.kind = 1 → s.text = t) ∧ (∀ m, hon n f m → Sy.mk 1 o m t ∈ q) ∧ hon n f o
  ti : ∀ o t, hi = some (o, t) → ∀ j, hon n f j → ((W j).i1 = none ∨ (W j).i1 = some t) ∧ (W j).two = false
  bl : (q.length : Int) = q0 + (n - f) * (cntI n f W + cntR n f W)
  i2 : ∀ j, hon n f j → (W j).i1.isSome = true → ∃ s ∈ q, s.kind = 1 ∧ s.dst = j
section
variable {n f : Int} {hi : Option (Int × Tx)} {lv : Prop} {W : Int → Cs} {q : List Sy} {i q0 : Nat} {j k : Int} {t u : Tx}
theorem Sid.bound (h : Sid n f hi q0 lv W q i) : (q.length : Int) ≤ q0 + 2 * ((n - f) * n) := by
  have h1 : cntI n f W ≤ n.toNat := by unfold cntI; have := List.length_filter_le (fun k => decide (f ≤ k) && (W k).i1.isSome) (rngI n); rw [rng_len] at this; exact this
  have h2 : cntR n f W ≤ n.toNat := by unfold cntR; have := List.length_filter_le (fun k => decide (f ≤ k) && (W k).rt.isSome) (rngI n); rw [rng_len] at this; exact this
  have h3 := h.bl
  have h0 := h.n0
  have hf := h.f3
  have hf0 := h.f0
  have h4 : (n - f) * ((cntI n f W : Int) + cntR n f W) ≤ (n - f) * (n + n) := Int.mul_le_mul_of_nonneg_left (by omega) (by omega)
  rw [Int.mul_add (n - f) n n] at h4
  omega
theorem Sid.pass (h : Sid n f hi q0 lv W q i) (hl : i < q.length) (hd : ¬ hon n f (q[i]).dst) : Sid n f hi q0 lv W q (i + 1) := by
  refine { h with de := fun hv s hs hh => ?_ }
  rw [List.take_succ_eq_append_getElem hl] at hs
  rcases List.mem_append.1 hs with hs | hs
  · exact h.de hv s hs hh
  · rw [List.mem_singleton] at hs; subst hs; exact absurd hh hd
theorem Sid.drop (h : Sid n f hi q0 lv W q i) (hl : i < q.length) (hd : lv → (W (q[i]).dst).dn.isSome = true) : Sid n f hi q0 lv W q (i + 1) := by
  refine { h with de := fun hv s hs hh => ?_ }
  rw [List.take_succ_eq_append_getElem hl] at hs
  rcases List.mem_append.1 hs with hs | hs
  · exact h.de hv s hs hh
  · rw [List.mem_singleton] at hs; subst hs; exact .inl (hd hv)
theorem Sid.step (h : Sid n f hi q0 lv W q i) (hl : i < q.length) (hj : hon n f j) (hd : (q[i]).dst = j) :
    Sid n f hi q0 lv (updW W j (takeS (W j) (q[i]).kind (q[i]).frm (q[i]).text)) (q ++ toHon j f n (tellF (W j) (q[i]).kind (q[i]).frm (q[i]).text)) (i + 1) := by
  have hsm : q[i] ∈ q := List.getElem_mem hl
  generalize hs : q[i] = s at *
  have hnj := h.nf j hj
  have hjn : 0 ≤ j ∧ j < n := by have := h.f0; exact ⟨by unfold hon at hj; omega, hj.2⟩
  by_cases hb : badT (W j) s.kind s.frm = true
  · obtain ⟨e1, e2⟩ := take_bad (tx := s.text) hb
    rw [e1, e2]
    have eW : updW W j (W j) = W := by
      funext x; unfold updW
      split
      · rename_i e; rw [e]
      · rfl
    rw [eW, show toHon j f n [] = [] from rfl, List.append_nil]
    refine { h with de := fun hv x hx hh => ?_ }
    rw [List.take_succ_eq_append_getElem hl, hs] at hx
    rcases List.mem_append.1 hx with hx | hx
    · exact h.de hv x hx hh
    · rw [List.mem_singleton] at hx; subst hx; right
      have hr := h.qr x hsm
      have : ¬ (1 ≤ x.kind ∧ x.kind ≤ 3) := fun z => by
        have := bad_iff.2 ⟨⟨hr.1, by rw [hnj.1]; exact hr.2⟩, z⟩
        rw [this] at hb; cases hb
      exact ⟨fun e => absurd (by omega) this, fun e => absurd (by omega) this, fun e => absurd (by omega) this⟩
  · have hb' : badT (W j) s.kind s.frm = false := by simpa using hb
    have T := take_p (tx := s.text) (by rw [hnj.1]; have := h.n0; omega) (by rw [hnj.2]; exact h.f0) hb'
    have hr := h.qr s hsm
    generalize hS : takeS (W j) s.kind s.frm s.text = S at *
    generalize hO : tellF (W j) s.kind s.frm s.text = out at *
    have hSn : S.n = n ∧ S.f = f := by rw [T.nf.1, T.nf.2]; exact hnj
    have W1 : ∀ k t, (W k).i1 = some t → (updW W j S k).i1 = some t := fun k t hk => by
      by_cases e : k = j
      · subst e; rw [upd_at]; exact T.i1 t hk
      · rw [upd_ne W S e]; exact hk
    have W2 : ∀ k t, (W k).rt = some t → (updW W j S k).rt = some t := fun k t hk => by
      by_cases e : k = j
      · subst e; rw [upd_at]; exact T.rt t hk
      · rw [upd_ne W S e]; exact hk
    have W3 : ∀ k m t, (W k).ec m = some t → (updW W j S k).ec m = some t := fun k m t hk => by
      by_cases e : k = j
      · subst e; rw [upd_at]; exact T.ec m t hk
      · rw [upd_ne W S e]; exact hk
    have W4 : ∀ k m t, (W k).rd m = some t → (updW W j S k).rd m = some t := fun k m t hk => by
      by_cases e : k = j
      · subst e; rw [upd_at]; exact T.rd m t hk
      · rw [upd_ne W S e]; exact hk
    have W5 : ∀ k t, (W k).dn = some t → (updW W j S k).dn = some t := fun k t hk => by
      by_cases e : k = j
      · subst e; rw [upd_at]; exact T.dn t hk
      · rw [upd_ne W S e]; exact hk
    have iso : ∀ {o : Option Tx}, o.isSome = true → ∃ t, o = some t := fun {o} ho => Option.isSome_iff_exists.1 ho
    have rdy : ∀ k, hon n f k → ∀ t, S.rd k = some t → (W k).rt = some t := fun k hk t ht => by
      rcases T.rd' k t ht with h1 | ⟨h1, h2, h3⟩
      · exact h.pd j hj k hk t h1
      · subst h2 h3
        rcases h.qh s hsm hk.1 with z | z | z
        · omega
        · exact z.2
        · omega
    have ech : ∀ k, hon n f k → ∀ t, S.ec k = some t → (W k).i1 = some t := fun k hk t ht => by
      rcases T.ec' k t ht with h1 | ⟨h1, h2, h3⟩
      · exact h.pe j hj k hk t h1
      · subst h2 h3
        rcases h.qh s hsm hk.1 with z | z | z
        · exact z.2
        · omega
        · omega
    refine ⟨h.n0, h.f0, h.f3, fun k hk => ?_, fun x hx => ?_, fun x hx hf => ?_, fun k hk t ht m hm => ?_, fun k hk t ht m hm => ?_, fun k hk m hm t ht => ?_, fun k hk m hm t ht => ?_, fun hv x hx hh => ?_, fun k hk t ht => ?_, fun k hk t ht => ?_, fun k hk => ?_, fun o t ho => ?_, fun o t ho k hk => ?_, ?_, fun k hk hI => ?_⟩
    · by_cases e : k = j
      · subst e; rw [upd_at]; exact hSn
      · rw [upd_ne W S e]; exact h.nf k hk
    · rcases List.mem_append.1 hx with hx | hx
      · exact h.qr x hx
      · rw [(mem_toHon.1 hx).1]; exact hjn
    · rcases List.mem_append.1 hx with hx | hx
      · rcases h.qh x hx hf with z | z | z
        · exact .inl ⟨z.1, W1 _ _ z.2⟩
        · exact .inr (.inl ⟨z.1, W2 _ _ z.2⟩)
        · exact .inr (.inr z)
      · obtain ⟨h1, _, h3⟩ := mem_toHon.1 hx
        rw [h1, upd_at]
        rcases T.says _ _ h3 with z | z
        · exact .inl z
        · exact .inr (.inl z)
    · rw [List.mem_append]
      by_cases e : k = j
      · subst e
        rw [upd_at] at ht
        rcases T.i1' t ht with z | ⟨_, _, _, z⟩
        · exact .inl (h.qe k hk t z m hm)
        · exact .inr (mem_toHon.2 ⟨rfl, hm, z⟩)
      · rw [upd_ne W S e] at ht; exact .inl (h.qe k hk t ht m hm)
    · rw [List.mem_append]
      by_cases e : k = j
      · subst e
        rw [upd_at] at ht
        rcases T.rt' t ht with z | ⟨_, _, z⟩
        · exact .inl (h.qd k hk t z m hm)
        · exact .inr (mem_toHon.2 ⟨rfl, hm, z⟩)
      · rw [upd_ne W S e] at ht; exact .inl (h.qd k hk t ht m hm)
    · by_cases e : k = j
      · subst e; rw [upd_at] at ht; exact W1 _ _ (ech m hm t ht)
      · rw [upd_ne W S e] at ht; exact W1 _ _ (h.pe k hk m hm t ht)
    · by_cases e : k = j
      · subst e; rw [upd_at] at ht; exact W2 _ _ (rdy m hm t ht)
      · rw [upd_ne W S e] at ht; exact W2 _ _ (h.pd k hk m hm t ht)
    · rw [List.take_append_of_le_length (by omega), List.take_succ_eq_append_getElem hl, hs] at hx
      rcases List.mem_append.1 hx with hx | hx
      · rcases h.de hv x hx hh with z | ⟨d1, d2, d3⟩
        · obtain ⟨t, ht⟩ := iso z; rw [W5 _ _ ht]; exact .inl rfl
        refine .inr ⟨fun e => ?_, fun e => ?_, fun e => ?_⟩
        · obtain ⟨t, ht⟩ := iso (d1 e); rw [W1 _ _ ht]; rfl
        · obtain ⟨t, ht⟩ := iso (d2 e); rw [W3 _ _ _ ht]; rfl
        · obtain ⟨t, ht⟩ := iso (d3 e); rw [W4 _ _ _ ht]; rfl
      · rw [List.mem_singleton] at hx; subst hx
        rw [hd, upd_at]; exact .inr T.here
    · by_cases e : k = j
      · subst e
        rw [upd_at] at ht
        rcases T.rt' t ht with z | ⟨_, z, _⟩
        · obtain ⟨m, hm, hc⟩ := h.p6 k hk t z
          exact ⟨m, hm, Int.le_trans hc (Int.ofNat_le.2 (cnt_mono (fun a b => W3 m a b) t))⟩
        · rcases (ok_iff hSn).1 z with z | z
          · exact ⟨k, hk, by rw [upd_at]; exact z⟩
          · obtain ⟨x, hx, _, hp⟩ := honest_one h.f0 (n := n) (p := fun x => decide (S.rd x = some t)) (by unfold cntT at z; omega)
            obtain ⟨m, hm, hc⟩ := h.p6 x hx t (rdy x hx t (by simpa using hp))
            exact ⟨m, hm, Int.le_trans hc (Int.ofNat_le.2 (cnt_mono (fun a b => W3 m a b) t))⟩
      · rw [upd_ne W S e] at ht
        obtain ⟨m, hm, hc⟩ := h.p6 k hk t ht
        exact ⟨m, hm, Int.le_trans hc (Int.ofNat_le.2 (cnt_mono (fun a b => W3 m a b) t))⟩
    · by_cases e : k = j
      · subst e
        rw [upd_at] at ht ⊢
        rcases T.dn' t ht with z | z
        · exact Int.le_trans (h.d4 k hk t z) (Int.ofNat_le.2 (cnt_mono T.rd t))
        · exact (dl_iff hSn).1 z
      · rw [upd_ne W S e] at ht ⊢; exact h.d4 k hk t ht
    · by_cases e : k = j
      · subst e; rw [upd_at]; exact T.shut
      · rw [upd_ne W S e]; exact h.c5 k hk
    · obtain ⟨a1, a2, a3⟩ := h.q1 o t ho
      refine ⟨fun x hx hk => ?_, fun m hm => List.mem_append.2 (.inl (a2 m hm)), a3⟩
      rcases List.mem_append.1 hx with hx | hx
      · exact a1 x hx hk
      · rcases T.says _ _ (mem_toHon.1 hx).2.2 with z | z <;> omega
    · have a := h.ti o t ho k hk
      by_cases e : k = j
      · subst e
        rw [upd_at]
        have htx : s.kind = 1 → s.text = t := fun e => (h.q1 o t ho).1 s hsm e
        refine ⟨?_, ?_⟩
        · cases hi1 : S.i1 with
          | none => exact .inl rfl
          | some v =>
            right
            rcases T.i1' v hi1 with z | ⟨_, z1, z2, _⟩
            · rcases a.1 with y | y
              · rw [y] at z; cases z
              · rw [y] at z; exact z.symm
            · rw [z2, htx z1]
        · rw [T.two]
          split
          · rename_i e1
            rw [a.2, htx e1]
            rcases a.1 with y | y <;> rw [y] <;> simp
          · exact a.2
      · rw [upd_ne W S e]; exact a
    · rw [List.length_append, toHon_len, T.len]
      have c1 := cnt_one (n := n) (fun k => decide (f ≤ k) && (W k).i1.isSome) (fun k => decide (f ≤ k) && (updW W j S k).i1.isSome) hjn (fun k hk => by rw [upd_ne W S hk]) (fun z => by
        simp only [Bool.and_eq_true] at z ⊢
        obtain ⟨t, ht⟩ := iso z.2
        exact ⟨z.1, by rw [W1 _ _ ht]; rfl⟩)
      have c2 := cnt_one (n := n) (fun k => decide (f ≤ k) && (W k).rt.isSome) (fun k => decide (f ≤ k) && (updW W j S k).rt.isSome) hjn (fun k hk => by rw [upd_ne W S hk]) (fun z => by
        simp only [Bool.and_eq_true] at z ⊢
        obtain ⟨t, ht⟩ := iso z.2
        exact ⟨z.1, by rw [W2 _ _ ht]; rfl⟩)
      simp only [upd_at, decide_eq_true hj.1, Bool.true_and] at c1 c2
      have hbl := h.bl
      unfold cntI cntR at hbl ⊢
      have e1 : ((W j).i1.isSome = false ∧ S.i1.isSome = true) ↔ ((W j).i1 = none ∧ S.i1.isSome = true) := by rw [Option.isSome_eq_false_iff, Option.isNone_iff_eq_none]
      have e2 : ((W j).rt.isSome = false ∧ S.rt.isSome = true) ↔ ((W j).rt = none ∧ S.rt.isSome = true) := by rw [Option.isSome_eq_false_iff, Option.isNone_iff_eq_none]
      simp only [e1] at c1
      simp only [e2] at c2
      rw [c1, c2]
      have hn : (((n - f).toNat : Nat) : Int) = n - f := by have := h.f0; have := h.f3; omega
      by_cases x1 : (W j).i1 = none ∧ S.i1.isSome = true <;> by_cases x2 : (W j).rt = none ∧ S.rt.isSome = true
      · rw [if_pos x1, if_pos x2, if_pos x1, if_pos x2, Int.natCast_add, Int.natCast_mul, hn, hbl]; simp only [Int.mul_add]; omega
      · rw [if_pos x1, if_neg x2, if_pos x1, if_neg x2, Int.natCast_add, Int.natCast_mul, hn, hbl]; simp only [Int.mul_add]; omega
      · rw [if_neg x1, if_pos x2, if_neg x1, if_pos x2, Int.natCast_add, Int.natCast_mul, hn, hbl]; simp only [Int.mul_add]; omega
      · rw [if_neg x1, if_neg x2, if_neg x1, if_neg x2, Int.natCast_add, Int.natCast_mul, hn, hbl]; simp only [Int.mul_add]; omega
    · by_cases e : k = j
      · subst e
        rw [upd_at] at hI
        obtain ⟨t, ht⟩ := iso hI
        rcases T.i1' t ht with z | ⟨_, z, _, _⟩
        · obtain ⟨x, hx, hk1, hd1⟩ := h.i2 k hk (by rw [z]; rfl)
          exact ⟨x, List.mem_append.2 (.inl hx), hk1, hd1⟩
        · exact ⟨s, List.mem_append.2 (.inl hsm), z, hd⟩
      · rw [upd_ne W S e] at hI
        obtain ⟨x, hx, hk1, hd1⟩ := h.i2 k hk hI
        exact ⟨x, List.mem_append.2 (.inl hx), hk1, hd1⟩
end
section
variable {n f : Int} {hi : Option (Int × Tx)} {lv : Prop} {W : Int → Cs} {q : List Sy} {i q0 : Nat} {j k : Int} {t u : Tx}
theorem Sid.all (h : Sid n f hi q0 lv W q i) (hv : lv) (he : ¬ i < q.length) {s : Sy} (hs : s ∈ q) (hh : hon n f s.dst) (hd : (W s.dst).dn = none) : (s.kind = 1 → (W s.dst).i1.isSome = true) ∧ (s.kind = 2 → ((W s.dst).ec s.frm).isSome = true) ∧ (s.kind = 3 → ((W s.dst).rd s.frm).isSome = true) := by
  rcases h.de hv s (by rw [List.take_of_length_le (by omega)]; exact hs) hh with z | z
  · rw [hd] at z; cases z
  · exact z
theorem Sid.same (h : Sid n f hi q0 lv W q i) (hj : hon n f j) (hk : hon n f k) (ht : (W j).rt = some t) (hu : (W k).rt = some u) : t = u := by
  obtain ⟨m, hm, h1⟩ := h.p6 j hj t ht
  obtain ⟨m', hm', h2⟩ := h.p6 k hk u hu
  obtain ⟨x, hx, h3, h4⟩ := quorums_meet h.f0 (by have := h.n0; omega) h1 h2
  have a := h.pe m hm x hx t h3
  have b := h.pe m' hm' x hx u h4
  rw [a] at b; injection b
theorem Sid.told (h : Sid n f hi q0 lv W q i) (hj : hon n f j) (hd : (W j).dn = some t) : ∃ x, hon n f x ∧ (W x).rt = some t := by
  have h1 := h.d4 j hj t hd
  obtain ⟨x, hx, _, hp⟩ := honest_one h.f0 (n := n) (p := fun x => decide ((W j).rd x = some t)) (by unfold cntT at h1; have := h.f0; omega)
  exact ⟨x, hx, h.pd j hj x hx t (by simpa using hp)⟩
theorem Sid.agree (h : Sid n f hi q0 lv W q i) (hj : hon n f j) (hk : hon n f k) (ht : (W j).dn = some t) (hu : (W k).dn = some u) : t = u := by
  obtain ⟨x, hx, h1⟩ := h.told hj ht
  obtain ⟨y, hy, h2⟩ := h.told hk hu
  exact h.same hx hy h1 h2
theorem Sid.came (h : Sid n f hi q0 lv W q i) (hv : lv) (he : ¬ i < q.length) (hj : hon n f j) (ht : (W j).rt = some t) (hk : hon n f k) (hd : (W k).dn = none) : (W k).rd j = some t := by
  have h1 := (h.all hv he (h.qd j hj t ht k hk) hk hd).2.2 rfl
  obtain ⟨u, hu⟩ := Option.isSome_iff_exists.1 h1
  have h2 := h.pd k hk j hj u hu
  rw [ht] at h2
  injection h2 with h2
  subst h2
  exact hu
theorem Sid.came_e (h : Sid n f hi q0 lv W q i) (hv : lv) (he : ¬ i < q.length) (hj : hon n f j) (ht : (W j).i1 = some t) (hk : hon n f k) (hd : (W k).dn = none) : (W k).ec j = some t := by
  have h1 := (h.all hv he (h.qe j hj t ht k hk) hk hd).2.1 rfl
  obtain ⟨u, hu⟩ := Option.isSome_iff_exists.1 h1
  have h2 := h.pe k hk j hj u hu
  rw [ht] at h2
  injection h2 with h2
  subst h2
  exact hu
theorem Sid.ready (h : Sid n f hi q0 lv W q i) (hk : hon n f k) (ho : okT (W k) t = true) : ∃ u, (W k).rt = some u := by
  cases hr : (W k).rt with
  | some u => exact ⟨u, rfl⟩
  | none => have := (h.c5 k hk).1 hr t; rw [this] at ho; cases ho
theorem Sid.deliver (h : Sid n f hi q0 lv W q i) (hv : lv) (he : ¬ i < q.length) (ha : ∀ k, hon n f k → (W k).rt = some t) (hk : hon n f k) : (W k).dn = some t := by
  cases hn : (W k).dn with
  | none =>
    have hc : 2 * f + 1 ≤ (cntT n (W k).rd t : Int) := by
      have h1 := high_count h.f0 (by have := h.f3; have := h.f0; omega) (n := n) (p := fun x => decide ((W k).rd x = some t)) fun x hx1 hx2 => by
        simpa using h.came hv he ⟨hx1, hx2⟩ (ha x ⟨hx1, hx2⟩) hk hn
      have := h.f3
      unfold cntT; omega
    have hd := (dl_iff (h.nf k hk)).2 hc
    have := (h.c5 k hk).2 hn t
    rw [this] at hd; cases hd
  | some u =>
    obtain ⟨x, hx, hr⟩ := h.told hk hn
    rw [ha x hx] at hr
    exact hr.symm
theorem Sid.total (h : Sid n f hi q0 lv W q i) (hv : lv) (he : ¬ i < q.length) (hj : hon n f j) (ht : (W j).dn = some t) (hk : hon n f k) : (W k).dn = some t := by
  have h1 := h.d4 j hj t ht
  have hall : ∀ m, hon n f m → (W m).rt = some t := fun m hm => by
    have hc : f + 1 ≤ (cntT n (W m).rd t : Int) := by
      cases hmd : (W m).dn with
      | some u =>
        have e := h.agree hj hm ht hmd
        subst e
        have := h.d4 m hm t hmd
        have := h.f0
        omega
      | none =>
        have h2 := filter_split (fun x => decide ((W j).rd x = some t)) (fun x => decide (x < f)) (rngI n)
        have h3 : ((rngI n).filter fun x => decide ((W j).rd x = some t) && decide (x < f)).length ≤ f.toNat := Nat.le_trans (filter_le _ _ _ fun x _ hx => (by simp only [Bool.and_eq_true] at hx; exact hx.2)) (low_count n f h.f0)
        have h4 : ((rngI n).filter fun x => decide ((W j).rd x = some t) && !decide (x < f)).length ≤ ((rngI n).filter fun x => decide ((W m).rd x = some t)).length := filter_le _ _ _ fun x hx hp => by
          simp only [Bool.and_eq_true, Bool.not_eq_true', decide_eq_false_iff_not, decide_eq_true_eq] at hp
          have hxn := mem_rng.1 hx
          have hxh : hon n f x := ⟨by omega, hxn.2⟩
          simpa using h.came hv he hxh (h.pd j hj x hxh t hp.1) hm hmd
        have := h.f0
        unfold cntT at h1 ⊢
        omega
    obtain ⟨u, hu⟩ := h.ready hm ((ok_iff (h.nf m hm)).2 (.inr hc))
    obtain ⟨x, hx, hr⟩ := h.told hj ht
    rw [hu, h.same hm hx hu hr]
  exact h.deliver hv he hall hk
theorem Sid.only (h : Sid n f hi q0 lv W q i) {o : Int} (ho : hi = some (o, t)) (hk : hon n f k) (hu : (W k).dn = some u) : u = t := by
  obtain ⟨x, hx, hr⟩ := h.told hk hu
  obtain ⟨m, hm, hc⟩ := h.p6 x hx u hr
  obtain ⟨y, hy, _, hp⟩ := honest_one h.f0 (n := n) (p := fun y => decide ((W m).ec y = some u)) (by have := h.f0; have := h.f3; unfold cntT at hc; omega)
  have a := h.pe m hm y hy u (by simpa using hp)
  rcases (h.ti o t ho y hy).1 with z | z
  · rw [z] at a; cases a
  · rw [z] at a; injection a with a; exact a.symm
theorem Sid.origin (h : Sid n f hi q0 lv W q i) (hv : lv) (he : ¬ i < q.length) {o : Int} (ho : hi = some (o, t)) (hk : hon n f k) : (W k).dn = some t := by
  obtain ⟨_, a2, a3⟩ := h.q1 o t ho
  cases hd : (W k).dn with
  | some u => rw [h.only ho hk hd]
  | none =>
    have hno : ∀ m, hon n f m → (W m).dn = none := fun m hm => by
      cases hm2 : (W m).dn with
      | none => rfl
      | some u => have := h.total hv he hm hm2 hk; rw [hd] at this; cases this
    have hin : ∀ m, hon n f m → (W m).i1 = some t := fun m hm => by
      have h1 := (h.all hv he (a2 m hm) hm (hno m hm)).1 rfl
      rcases (h.ti o t ho m hm).1 with z | z
      · simp only at h1; rw [z] at h1; cases h1
      · exact z
    have hec : ∀ m, hon n f m → (n + f) / 2 + 1 ≤ (cntT n (W m).ec t : Int) := fun m hm => by
      have h1 := high_count h.f0 (by have := h.f3; have := h.f0; omega) (n := n) (p := fun x => decide ((W m).ec x = some t)) fun x hx1 hx2 => by
        simpa using h.came_e hv he ⟨hx1, hx2⟩ (hin x ⟨hx1, hx2⟩) hm (hno m hm)
      have := h.f3
      unfold cntT; omega
    have hall : ∀ m, hon n f m → (W m).rt = some t := fun m hm => by
      obtain ⟨u, hu⟩ := h.ready hm ((ok_iff (h.nf m hm)).2 (.inl (hec m hm)))
      obtain ⟨m', hm', hc⟩ := h.p6 m hm u hu
      obtain ⟨x, hx, h3, h4⟩ := quorums_meet h.f0 (by have := h.n0; omega) (hec m hm) hc
      have a := h.pe m hm x hx t h3
      have b := h.pe m' hm' x hx u h4
      rw [a] at b; injection b with b
      rw [hu, b]
    have := h.deliver hv he hall hk
    rw [hd] at this; cases this
theorem le_of_subset {L M : List Int} (hL : L.Nodup) (h : ∀ x ∈ L, x ∈ M) : L.length ≤ M.length := by
  induction L generalizing M with
  | nil => exact Nat.zero_le _
  | cons a r ih =>
    have ha : a ∈ M := h a (by simp)
    have := ih (M := M.erase a) (List.nodup_cons.1 hL).2 fun x hx => (List.mem_erase_of_ne (fun e => (List.nodup_cons.1 hL).1 (by rw [← e]; exact hx))).2 (h x (by simp [hx]))
    rw [List.length_erase_of_mem ha] at this
    have := List.length_pos_of_mem ha
    simp only [List.length_cons]; omega
theorem Sid.inits (h : Sid n f hi q0 lv W q i) (hk : hon n f k) (hd : (W k).dn = some t) : (n + f) / 2 + 1 - f ≤ ((q.filter fun s => decide (s.kind = 1)).length : Int) := by
  obtain ⟨x, hx, hr⟩ := h.told hk hd
  obtain ⟨m, hm, hc⟩ := h.p6 x hx t hr
  have h2 := filter_split (fun y => decide ((W m).ec y = some t)) (fun y => decide (y < f)) (rngI n)
  have h3 : ((rngI n).filter fun y => decide ((W m).ec y = some t) && decide (y < f)).length ≤ f.toNat := Nat.le_trans (filter_le _ _ _ fun y _ hy => (by simp only [Bool.and_eq_true] at hy; exact hy.2)) (low_count n f h.f0)
  have h4 := le_of_subset (L := (rngI n).filter fun y => decide ((W m).ec y = some t) && !decide (y < f)) (M := (q.filter fun s => decide (s.kind = 1)).map (·.dst)) ((rng_nodup n).filter _) fun y hy => by
    obtain ⟨h5, h6⟩ := List.mem_filter.1 hy
    simp only [Bool.and_eq_true, Bool.not_eq_true', decide_eq_false_iff_not, decide_eq_true_eq] at h6
    have hyh : hon n f y := ⟨by omega, (mem_rng.1 h5).2⟩
    obtain ⟨s, hs, e1, e2⟩ := h.i2 y hyh (by rw [h.pe m hm y hyh t h6.1]; rfl)
    exact List.mem_map.2 ⟨s, List.mem_filter.2 ⟨hs, by simpa using e1⟩, e2⟩
  rw [List.length_map] at h4
  have := h.f0
  unfold cntT at hc
  omega
theorem Sid.start (h1 : 1 ≤ n) (h0 : 0 ≤ f) (h3 : 3 * f < n) (hq : ∀ s ∈ q, 0 ≤ s.frm ∧ s.frm < n) (hh : ∀ s ∈ q, f ≤ s.frm → s.kind = 1 ∧ hi = some (s.frm, s.text))
    (ho : ∀ o t, hi = some (o, t) → (∀ s ∈ q, s.kind = 1 → s.text = t) ∧ (∀ m, hon n f m → Sy.mk 1 o m t ∈ q) ∧ hon n f o) : Sid n f hi q.length lv (fun _ => cnewS n f) q 0 :=
  { n0 := h1, f0 := h0, f3 := h3
    nf := fun _ _ => ⟨rfl, rfl⟩
    qr := hq
    qh := fun s hs hf => .inr (.inr (hh s hs hf))
    qe := fun _ _ t ht => (by cases ht)
    qd := fun _ _ t ht => (by cases ht)
    pe := fun _ _ _ _ t ht => (by cases ht)
    pd := fun _ _ _ _ t ht => (by cases ht)
    de := fun _ s hs => (by simp at hs)
    p6 := fun _ _ t ht => (by cases ht)
    d4 := fun _ _ t ht => (by cases ht)
    c5 := fun j _ => ⟨fun _ t => (by
      unfold okT manyI
      refine decide_eq_false ?_
      show ¬ ((n + f) / 2 + 1 ≤ ((cntT n (fun _ => none) t : Nat) : Int) ∨ f + 1 ≤ ((cntT n (fun _ => none) t : Nat) : Int))
      rw [cnt_none]; omega), fun _ t => (by
      unfold dlT
      refine decide_eq_false ?_
      show ¬ (2 * f + 1 ≤ ((cntT n (fun _ => none) t : Nat) : Int))
      rw [cnt_none]; omega)⟩
    q1 := ho
    ti := fun o t _ j _ => ⟨.inl rfl, rfl⟩
    bl := (by
      have : ∀ g : Int → Bool, (∀ k, g k = false) → ((rngI n).filter g).length = 0 := fun g hg => (by rw [List.filter_eq_nil_iff.2 (fun k _ => by rw [hg k]; simp)]; rfl)
      unfold cntI cntR
      have e1 := this (fun k => decide (f ≤ k) && (cnewS n f).i1.isSome) (fun k => by simp [cnewS])
      have e2 := this (fun k => decide (f ≤ k) && (cnewS n f).rt.isSome) (fun k => by simp [cnewS])
      rw [e1, e2]; simp)
    i2 := fun _ _ h => (by cases h) }
end
end Go.Proofs.Ytcobpabmmbcjcaa
