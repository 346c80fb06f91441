/- The program's match in memory (package match as landed at 520072b): the lanes in which something is open, in a map; what is written off, summed by points in another one. -/
import Derived.Test.YtoadlnnhlnhkjaaMe
import Derived.Test.YtoadlnnhlnhkjaaMb
import Derived.Test.YtoadlnnhlnhkjaaQe
import Derived.Test.YtoadlnnhlnhkjaaUe
import Derived.Test.YtoadlnnhlnhkjaaGw
import Derived.Test.YtoadlnnhlnhkjaaPk
namespace Go.Proofs.Ytoadlnnhlnhkjaa
open Go.RowKit Go.MapKept
set_option maxRecDepth 100000
set_option linter.unusedSimpArgs false
set_option linter.unusedVariables false

/-! ### Lanes and points as keys -/
def lnV (l : Ln) : Value := .agg #[.int .i64 l.f, .int .i64 l.t, .int .i64 l.e, .int .i64 l.p.n, .int .i64 l.p.t.e, .int .i64 l.p.t.r]
def poV (p : Po) : Value := .agg #[.int .i64 p.n, .int .i64 p.t.e, .int .i64 p.t.r]
theorem lnV_inj (a b : Ln) (h : lnV a = lnV b) : a = b := by
  obtain ⟨a1, a2, a3, ⟨a4, ⟨a5, a6⟩⟩⟩ := a
  obtain ⟨b1, b2, b3, ⟨b4, ⟨b5, b6⟩⟩⟩ := b
  simp only [lnV] at h
  injection h with h
  have h := congrArg Array.toList h
  simp only [List.cons.injEq, Value.int.injEq, and_true, true_and] at h
  obtain ⟨rfl, rfl, rfl, rfl, rfl, rfl⟩ := h
  rfl
theorem poV_inj (a b : Po) (h : poV a = poV b) : a = b := by
  obtain ⟨a4, ⟨a5, a6⟩⟩ := a
  obtain ⟨b4, ⟨b5, b6⟩⟩ := b
  simp only [poV] at h
  injection h with h
  have h := congrArg Array.toList h
  simp only [List.cons.injEq, Value.int.injEq, and_true, true_and] at h
  obtain ⟨rfl, rfl, rfl⟩ := h
  rfl
theorem eqLn {dd : Nat} (a b : Ln) (w : World) : (Op.equalIn (dd + 4) 52 (lnV a) (lnV b)).run Try.prog w = .ok (decide (a = b)) w := by
  have h : decide (a = b) = (decide (a.f = b.f) && (decide (a.t = b.t) && (decide (a.e = b.e) && (decide (a.p = b.p) && true)))) := by rw [Bool.eq_iff_iff]; cases a; cases b; simp
  unfold lnV
  rw [h, run_equalIn_struct w (dd + 3) 52 _ _ (by kernel_rfl) (by kernel_rfl), show (Try.prog.fieldsOf 52).toList = _ from by unfold Program.fieldsOf; rw [Try.underlying52]]
  exact (eqF_cons (by decide) (part_one ⟨_, Try.underlying3, rfl⟩ rfl) (part_one ⟨_, Try.underlying3, rfl⟩ rfl) (eq_int (dd := dd + 2) Try.underlying3) (eqF_cons (by decide) (part_one ⟨_, Try.underlying3, rfl⟩ rfl) (part_one ⟨_, Try.underlying3, rfl⟩ rfl) (eq_int (dd := dd + 2) Try.underlying3) (eqF_cons (by decide) (part_one ⟨_, Try.underlying3, rfl⟩ rfl) (part_one ⟨_, Try.underlying3, rfl⟩ rfl) (eq_int (dd := dd + 2) Try.underlying3) (eqF_cons (by decide) (part_agg ag30 (cs := [.int .i64 a.p.n, .int .i64 a.p.t.e, .int .i64 a.p.t.r]) rfl) (part_agg ag30 (cs := [.int .i64 b.p.n, .int .i64 b.p.t.e, .int .i64 b.p.t.r]) rfl) (eqPo (dd := dd + 0) a.p b.p w) eqF_nil))))
theorem chk_int (em : Bool) (d : Nat) (v : Int) (w : World) : (Instr.checkKey em (d + 1) 3 (.int .i64 v)).run Try.prog w = .ok () w := MapKept.run_checkKey Try.underlying3 (by simp [MapKept.IsKey]) em d
theorem chk_st (em : Bool) (d : Nat) (t : St) (w : World) : (Instr.checkKey em (d + 2) 28 (.agg #[.int .i64 t.e, .int .i64 t.r])).run Try.prog w = .ok () w := by
  have hi := fun v => chk_int em d v w
  show (Instr.checkKey em (d + 1 + 1) _ _).run _ _ = _
  rw [Instr.checkKey]
  simp [go_sem, hi]
theorem chk_po (em : Bool) (d : Nat) (p : Po) (w : World) : (Instr.checkKey em (d + 3) 30 (poV p)).run Try.prog w = .ok () w := by
  have hi := fun v => chk_int em (d + 1) v w
  have hs := chk_st em d p.t w
  show (Instr.checkKey em (d + 2 + 1) _ _).run _ _ = _
  rw [Instr.checkKey]
  unfold poV
  simp [go_sem, hi, hs]
theorem chk_ln (em : Bool) (d : Nat) (l : Ln) (w : World) : (Instr.checkKey em (d + 4) 52 (lnV l)).run Try.prog w = .ok () w := by
  have hi := fun v => chk_int em (d + 2) v w
  have hs := chk_po em d l.p w
  unfold poV at hs
  show (Instr.checkKey em (d + 3 + 1) _ _).run _ _ = _
  rw [Instr.checkKey]
  unfold lnV
  simp [go_sem, hi, hs]
theorem lnKeys : KeyOK Try.prog 52 (fun v => ∃ a, v = lnV a) :=
  keyOK_of Try.underlying52 (fun _ _ => rfl) (fun w em a => chk_ln em 9996 a w) (fun w a b => eqLn (dd := 9996) a b w) (fun a => by unfold lnV; simp [Instr.sameBits]) lnV_inj
theorem poKeys : KeyOK Try.prog 30 (fun v => ∃ a, v = poV a) :=
  keyOK_of Try.underlying30 (fun _ _ => rfl) (fun w em a => chk_po em 9997 a w) (fun w a b => eqPo (dd := 9997) a b w) (fun a => by unfold poV; simp [Instr.sameBits]) poV_inj
theorem mtLane : MapEn Try.prog 48 52 3 lnV iV (.int .i64 0) :=
  ⟨Try.underlying48, ⟨_, lnKeys, fun a => ⟨a, rfl⟩⟩, lnV_inj, fun w => by kernel_rfl⟩
theorem mtSum : MapEn Try.prog 55 30 3 poV iV (.int .i64 0) :=
  ⟨Try.underlying55, ⟨_, poKeys, fun a => ⟨a, rfl⟩⟩, poV_inj, fun w => by kernel_rfl⟩
/-! ### Lanes in which something is open -/
def liveL (C : Lanes) : Lanes := C.filter fun q => decide (q.2 ≠ 0)
theorem opn_elim (C : Lanes) (k : Ln) : (getM C k).elim (.int .i64 0) iV = .int .i64 (opn C k) := by unfold opn; cases getM C k <;> rfl
section
variable {C D : Lanes} {k j : Ln} {v w : Int} {x : En} {p : Po}
theorem okl_perm (h : OKL C) (hp : C.Perm D) : OKL D := ⟨(hp.pairwise_iff (fun {a b} (e : a.1 ≠ b.1) => e.symm)).1 h.nd, fun q hq => h.ge q (hp.mem_iff.2 hq), fun q hq => h.le q (hp.mem_iff.2 hq)⟩
theorem okl_live (h : OKL C) : OKL (liveL C) := ⟨h.nd.filter _, fun q hq => h.ge q (List.mem_filter.1 hq).1, fun q hq => h.le q (List.mem_filter.1 hq).1⟩
theorem live_len : (liveL C).length ≤ C.length := List.length_filter_le _ _
theorem opn_live (h : OKL C) : opn (liveL C) k = opn C k := by
  cases hg : getM C k with
  | none =>
    have : getM (liveL C) k = none := getM_none fun q hq e => by
      have hm := (List.mem_filter.1 hq).1
      have : getM C k = some q.2 := getM_some h.nd (by rw [← e]; exact hm)
      rw [hg] at this; cases this
    unfold opn; rw [hg, this]
  | some u =>
    by_cases h0 : u = 0
    · subst h0
      have : getM (liveL C) k = none := getM_none fun q hq e => by
        obtain ⟨hm, hn⟩ := List.mem_filter.1 hq
        have : getM C k = some q.2 := getM_some h.nd (by rw [← e]; exact hm)
        rw [hg] at this; injection this with this
        rw [← this] at hn; simp at hn
      unfold opn; rw [hg, this]; rfl
    · have : getM (liveL C) k = some u := getM_some (okl_live h).nd (List.mem_filter.2 ⟨getM_mem hg, by simpa using h0⟩)
      unfold opn; rw [hg, this]
theorem live_del : liveL (delM C k) = delM (liveL C) k := by
  unfold liveL delM
  rw [List.filter_filter, List.filter_filter]
  congr 1; funext q; rw [Bool.and_comm]
theorem live_set : (liveL (setL C k v)).Perm (if v = 0 then delM (liveL C) k else (k, v) :: delM (liveL C) k) := by
  have e : liveL (setL C k v) = delM (liveL C) k ++ liveL [(k, v)] := by
    rw [← live_del]; unfold setL liveL; rw [List.filter_append]
  rw [e]
  by_cases h : v = 0
  · rw [if_pos h]; subst h; simp [liveL]
  · rw [if_neg h]
    have : liveL [(k, v)] = [(k, v)] := by simp [liveL, h]
    rw [this]; exact List.perm_append_singleton _ _
theorem all_live : allL (liveL C) = allL C := by
  induction C with
  | nil => rfl
  | cons q r ih =>
    unfold liveL allL at ih ⊢
    rw [List.filter_cons]
    by_cases h : q.2 = 0
    · rw [if_neg (by simp [h]), ih]; simp [h]
    · rw [if_pos (by simp [h])]; simp only [List.map_cons, List.sum_cons, ih]
theorem live_off : liveL (offC C w) = offC (liveL C) w := by
  unfold liveL offC
  rw [List.filter_filter, List.filter_filter]
  congr 1; funext q; rw [Bool.and_comm]
theorem offP_live : offP (liveL C) w = offP C w := by
  unfold offP liveL
  rw [List.filter_filter]
  have : (C.filter fun q => (touchB w q.1 && decide (q.2 ≠ 0)) && decide (q.2 ≠ 0)) = C.filter fun q => touchB w q.1 && decide (q.2 ≠ 0) := by
    congr 1; funext q; cases touchB w q.1 <;> simp
  rw [this]
theorem sumAt_live : sumAtL (liveL C) w p = sumAtL C w p := by
  induction C with
  | nil => rfl
  | cons q r ih =>
    rw [sumAt_cons, ← ih]
    unfold liveL
    rw [List.filter_cons]
    by_cases h : q.2 = 0
    · rw [if_neg (by simp [h]), h]; simp
    · rw [if_pos (by simp [h]), sumAt_cons]
theorem all_perm (h : C.Perm D) : allL C = allL D := by
  unfold allL
  induction h with
  | nil => rfl
  | cons a _ ih => simp only [List.map_cons, List.sum_cons, ih]
  | swap a b l => simp only [List.map_cons, List.sum_cons]; omega
  | trans _ _ h1 h2 => rw [h1, h2]
theorem all_cons {q : Ln × Int} : allL (q :: C) = q.2 + allL C := by simp [allL]
theorem sumAt_perm (h : C.Perm D) : sumAtL C w p = sumAtL D w p := by
  induction h with
  | nil => rfl
  | cons a _ ih => rw [sumAt_cons, sumAt_cons, ih]
  | swap a b l => rw [sumAt_cons, sumAt_cons, sumAt_cons, sumAt_cons]; omega
  | trans _ _ h1 h2 => rw [h1, h2]
theorem sumAt_bound {m : Nat} (h : OKL C) (hm : C.length ≤ m) : 0 ≤ sumAtL C w p ∧ sumAtL C w p ≤ 1000000000 * (m : Int) := by
  refine ⟨sumAt_nonneg h w p, ?_⟩
  induction C generalizing m with
  | nil => simp [sumAtL]; omega
  | cons a r ih =>
    simp at hm
    have := ih (okl_tail h) (m := m - 1) (by omega)
    have h1 := h.ge a (by simp); have h2 := h.le a (by simp)
    rw [sumAt_cons]
    split <;> omega
end
/-! ### A match -/
def MatV (r : Nat) (fp : List Nat) (C : Lanes) (w : World) : Prop :=
  ∃ g, r ∈ fp ∧ g ∈ fp ∧ r ≠ g ∧ (∀ z ∈ fp, z < w.heap.size) ∧ Blk w r 50 #[.map (some g)] ∧ MpV g (encM lnV iV (liveL C)) w ∧ OKL C
theorem MatV.loc (r : Nat) (fp : List Nat) (C : Lanes) : Loc fp (MatV r fp C) := fun w w' hk ⟨g, h1, h2, h3, h4, h5, h6, h7⟩ => by
  have e1 := blk_loc w w' (fun k hk' => hk k (by simp only [List.mem_singleton] at hk'; rw [hk']; exact h1)) h5
  have e2 := MpV.loc g _ w w' (fun k hk' => hk k (by simp only [List.mem_singleton] at hk'; rw [hk']; exact h2)) h6
  refine ⟨⟨g, h1, h2, h3, fun z hz => ?_, e1.1, e2.1, h7⟩, h4⟩
  have hz' := h4 z hz
  rcases Nat.lt_or_ge z w'.heap.size with hl | hl
  · exact hl
  · have := hk z hz
    rw [Array.getElem?_eq_none hl, Array.getElem?_eq_getElem hz'] at this
    cases this
/-- A match, and a slice that was told of it. -/
def MatO (v : Value) (L : List Ct) (r : Nat) (fp : List Nat) (C : Lanes) (w : World) : Prop := MatV r fp C w ∧ RdC w v L ∧ ∀ g ∈ fpN v L.length, g ∈ fp
theorem MatO.loc (v : Value) (L : List Ct) (r : Nat) (fp : List Nat) (C : Lanes) : Loc fp (MatO v L r fp C) := fun w w' hk ⟨h1, h2, h3⟩ => by
  have z := MatV.loc r fp C w w' hk h1
  have h4 := h2.keep (w' := w') (fun g hg => hk g (h3 g hg))
  exact ⟨⟨z.1, h4.1, h3⟩, z.2⟩
theorem MatV.mk' {r g : Nat} {C D : Lanes} {w : World} (hne : r ≠ g) (hb : Blk w r 50 #[.map (some g)]) (hm : MpV g (encM lnV iV D) w) (hD : D.Perm (liveL C)) (hok : OKL C) : MatV r [r, g] C w :=
  ⟨g, by simp, by simp, hne, fun z hz => by
    simp only [List.mem_cons, List.not_mem_nil, or_false] at hz
    rcases hz with rfl | rfl
    · exact hb.lt
    · exact (MpV.loc _ _ w w (fun _ _ => rfl) hm).2 _ (by simp), hb, hm.to (hD.map _), hok⟩
/-! ### How an entry changes a lane -/
def isW (n : Int) : Bool := decide (0 ≤ n ∧ n ≤ 6)
def chL (w : Int) (x : En) : Ln := if x.kind = 3 then laneS w x else if x.kind = 4 then laneT w x else ⟨0, 0, 0, ⟨0, ⟨0, 0⟩⟩⟩
def chN (x : En) : Int := if x.kind = 3 then x.n else if x.kind = 4 then -x.n else 0
section
variable {C : Lanes} {w : Int} {x : En}
theorem isW_iff {n : Int} : isW n = true ↔ 0 ≤ n ∧ n ≤ 6 := by unfold isW; simp
theorem isW_no {n : Int} (h : isW n = false) : ¬ (0 ≤ n ∧ n ≤ 6) := fun z => by rw [isW_iff.2 z] at h; cases h
theorem may_arg (h : ¬ ((0 ≤ w ∧ w ≤ 6) ∧ (0 ≤ x.peer ∧ x.peer ≤ 6) ∧ (1 ≤ x.n ∧ x.n ≤ 1000000))) : matE C w x = 1 := if_pos h
theorem chN_b (h : 1 ≤ x.n ∧ x.n ≤ 1000000) : -1000000 ≤ chN x ∧ chN x ≤ 1000000 := by unfold chN; split <;> (try split) <;> omega
theorem may_sum (ho : OKL C) (h : (0 ≤ w ∧ w ≤ 6) ∧ (0 ≤ x.peer ∧ x.peer ≤ 6) ∧ (1 ≤ x.n ∧ x.n ≤ 1000000)) : matE C w x = if opn C (chL w x) + chN x < 0 ∨ 1000000000 < opn C (chL w x) + chN x then 9 else 0 := by
  unfold matE chL chN
  rw [if_neg (Decidable.not_not.2 h)]
  by_cases h3 : x.kind = 3
  · have hb := opn_bound ho (laneS w x)
    rw [if_pos h3, if_pos h3]
    by_cases hq : 1000000000 < opn C (laneS w x) + x.n
    · rw [if_pos ⟨h3, hq⟩, if_pos (.inr hq)]
    · rw [if_neg (fun z => hq z.2), if_neg (fun z => by have := z.1; omega), if_neg (by omega)]
  · by_cases h4 : x.kind = 4
    · have hb := opn_bound ho (laneT w x)
      rw [if_neg h3, if_neg h3, if_pos h4, if_pos h4, if_neg (fun z => h3 z.1)]
      by_cases hq : opn C (laneT w x) < x.n
      · rw [if_pos ⟨h4, hq⟩, if_pos (by omega)]
      · rw [if_neg (fun z => hq z.2), if_neg (by omega)]
    · have hb := opn_bound ho ⟨0, 0, 0, ⟨0, ⟨0, 0⟩⟩⟩
      rw [if_neg h3, if_neg h3, if_neg h4, if_neg h4, if_neg (fun z => h3 z.1), if_neg (fun z => h4 z.1), if_neg (by omega)]
/-- What Put leaves in memory. -/
theorem put_perm (h0 : matE C w x = 0) (ho : OKL C) {D : Lanes} {l : Ln} {n : Int} (el : l = chL w x) (en : n = opn C (chL w x) + chN x) (hD : D = if n = 0 then delM (liveL C) l else (l, n) :: delM (liveL C) l) : D.Perm (liveL (matC C w x)) := by
  subst el; subst en; subst hD
  by_cases h3 : x.kind = 3
  · rw [mat_send h0 h3]
    unfold chL chN; rw [if_pos h3, if_pos h3]
    exact live_set.symm
  · by_cases h4 : x.kind = 4
    · rw [mat_take h0 h4]
      unfold chL chN; rw [if_neg h3, if_neg h3, if_pos h4, if_pos h4]
      exact live_set.symm
    · rw [mat_else h3 h4]
      unfold chL chN; rw [if_neg h3, if_neg h3, if_neg h4, if_neg h4, Int.add_zero]
      have hl := okl_live ho
      generalize (⟨0, 0, 0, ⟨0, ⟨0, 0⟩⟩⟩ : Ln) = k
      have hperm : ∀ {L : Lanes} {u : Int}, L.Pairwise (fun p q => p.1 ≠ q.1) → (k, u) ∈ L → ((k, u) :: delM L k).Perm L := by
        intro L u
        induction L with
        | nil => intro _ h; cases h
        | cons q r ih =>
          intro hn hm
          obtain ⟨n1, n2⟩ := List.pairwise_cons.1 hn
          rcases List.mem_cons.1 hm with rfl | hm
          · have : delM ((k, u) :: r) k = r := by
              unfold delM; rw [List.filter_cons, if_neg (by simp)]
              exact List.filter_eq_self.2 fun z hz => by have := n1 z hz; simpa using fun e => this e.symm
            rw [this]
          · have hq : ¬ q.1 = k := n1 _ hm
            have : delM (q :: r) k = q :: delM r k := by unfold delM; rw [List.filter_cons, if_pos (by simp [hq])]
            rw [this]
            exact (List.Perm.swap _ _ _).trans ((ih n2 hm).cons q)
      cases hg : getM C k with
      | none =>
        have e : opn C k = 0 := by unfold opn; rw [hg]; rfl
        rw [e, if_pos rfl]
        have : delM (liveL C) k = liveL C := List.filter_eq_self.2 fun z hz => by
          have hne : ¬ z.1 = k := fun e => by
            have := getM_some ho.nd (show (k, z.2) ∈ C by rw [← e]; exact (List.mem_filter.1 hz).1)
            rw [hg] at this; cases this
          simpa using hne
        rw [this]
      | some u =>
        have e : opn C k = u := by unfold opn; rw [hg]; rfl
        rw [e]
        by_cases hu : u = 0
        · rw [if_pos hu]
          have : delM (liveL C) k = liveL C := List.filter_eq_self.2 fun z hz => by
            have hne : ¬ z.1 = k := fun e => by
              have := getM_some ho.nd (show (k, z.2) ∈ C by rw [← e]; exact (List.mem_filter.1 hz).1)
              rw [hg] at this; injection this with this
              have h9 := (List.mem_filter.1 hz).2
              simp only [ne_eq, decide_not, Bool.not_eq_true', decide_eq_false_iff_not] at h9
              omega
            simpa using hne
          rw [this]
        · rw [if_neg hu]
          exact hperm hl.nd (List.mem_filter.2 ⟨getM_mem hg, by simpa using hu⟩)
end
/-! ### What is written off, summed by points -/
abbrev Sums := List (Po × Int)
def getP (S : Sums) (p : Po) : Int := (getM S p).getD 0
theorem sum_elim (S : Sums) (p : Po) : (getM S p).elim (.int .i64 0) iV = .int .i64 (getP S p) := by unfold getP; cases getM S p <;> rfl
def putP (S : Sums) (p : Po) (v : Int) : Sums := (p, v) :: delM S p
/-- The sums of what was gone over (the newest first). -/
def sumsR (w : Int) : Lanes → Sums
  | [] => []
  | q :: r => if touchB w q.1 = true then putP (sumsR w r) q.1.p (getP (sumsR w r) q.1.p + q.2) else sumsR w r
section
variable {C D Pr : Lanes} {w v : Int} {p x : Po} {S : Sums}
theorem get_put : getP (putP S x v) p = if x = p then v else getP S p := by
  unfold getP putP
  by_cases h : x = p
  · rw [if_pos h]; unfold getM; rw [List.find?_cons]; simp [h]
  · rw [if_neg h]
    have e : getM ((x, v) :: delM S x) p = getM S p := by
      unfold getM
      rw [List.find?_cons]
      simp only [h, decide_false]
      unfold delM
      rw [List.find?_filter]
      congr 2
      funext a
      by_cases h1 : a.1 = p
      · have hpx : ¬ p = x := fun e => h e.symm
        simp [h1, hpx]
      · simp [h1]
    rw [e]
theorem sumsR_cons {q : Ln × Int} {r : Lanes} : sumsR w (q :: r) = if touchB w q.1 = true then putP (sumsR w r) q.1.p (getP (sumsR w r) q.1.p + q.2) else sumsR w r := rfl
theorem sums_get : getP (sumsR w Pr) p = sumAtL Pr w p := by
  induction Pr with
  | nil => rfl
  | cons q r ih =>
    rw [sumAt_cons, ← ih]
    rw [sumsR_cons]
    by_cases h : touchB w q.1 = true
    · rw [if_pos h, get_put]
      by_cases e : q.1.p = p
      · rw [if_pos e, if_pos ⟨h, e⟩, e]; omega
      · rw [if_neg e, if_neg (fun z => e z.2)]; omega
    · rw [if_neg h, if_neg (fun z => h z.1)]; omega
theorem sums_key : p ∈ (sumsR w Pr).map (·.1) ↔ ∃ q ∈ Pr, touchB w q.1 = true ∧ q.1.p = p := by
  induction Pr with
  | nil => simp [sumsR]
  | cons q r ih =>
    rw [sumsR_cons]
    by_cases h : touchB w q.1 = true
    · rw [if_pos h]
      unfold putP delM
      rw [List.map_cons, List.mem_cons]
      constructor
      · rintro (e | h1)
        · exact ⟨q, by simp, h, e.symm⟩
        · obtain ⟨z, hz, rfl⟩ := List.mem_map.1 h1
          obtain ⟨q', h2, h3⟩ := ih.1 (List.mem_map.2 ⟨z, (List.mem_filter.1 hz).1, rfl⟩)
          exact ⟨q', by simp [h2], h3⟩
      · rintro ⟨q', h1, h2, h3⟩
        rcases List.mem_cons.1 h1 with rfl | h1
        · exact .inl h3.symm
        · by_cases e : p = q.1.p
          · exact .inl e
          · right
            obtain ⟨z, hz, hzp⟩ := List.mem_map.1 (ih.2 ⟨q', h1, h2, h3⟩)
            exact List.mem_map.2 ⟨z, List.mem_filter.2 ⟨hz, by simpa [hzp] using e⟩, hzp⟩
    · rw [if_neg h, ih]
      constructor
      · rintro ⟨q', h1, h2⟩; exact ⟨q', by simp [h1], h2⟩
      · rintro ⟨q', h1, h2, h3⟩
        rcases List.mem_cons.1 h1 with rfl | h1
        · exact absurd h2 h
        · exact ⟨q', h1, h2, h3⟩
theorem sums_nd : (sumsR w Pr).Pairwise (fun a b => a.1 ≠ b.1) := by
  induction Pr with
  | nil => exact List.Pairwise.nil
  | cons q r ih =>
    rw [sumsR_cons]
    split
    · refine List.pairwise_cons.2 ⟨fun z hz e => ?_, ih.filter _⟩
      have := (List.mem_filter.1 hz).2
      simp [← e] at this
    · exact ih
theorem sums_len : (sumsR w Pr).length ≤ Pr.length := by
  induction Pr with
  | nil => simp [sumsR]
  | cons q r ih =>
    rw [sumsR_cons]
    split
    · unfold putP delM
      have := List.length_filter_le (fun z : Po × Int => !decide (z.1 = q.1.p)) (sumsR w r)
      simp only [List.length_cons]; omega
    · simp only [List.length_cons]; omega
end
/-! ### In order -/
theorem ascP_ext : ∀ (A B : List Po), AscP A → AscP B → (∀ p, p ∈ A ↔ p ∈ B) → A = B
  | [], [], _, _, _ => rfl
  | [], b :: B, _, _, h => absurd ((h b).2 (by simp)) (by simp)
  | a :: A, [], _, _, h => absurd ((h a).1 (by simp)) (by simp)
  | a :: A, b :: B, h1, h2, h => by
    obtain ⟨a1, a2⟩ := List.pairwise_cons.1 h1
    obtain ⟨b1, b2⟩ := List.pairwise_cons.1 h2
    have irr : ∀ p : Po, ¬ aheadP p p = true := fun p hp => by
      rw [aheadP_iff] at hp
      rcases hp with hp | ⟨_, hp⟩
      · omega
      · rw [ahead_irr] at hp; cases hp
    have e : a = b := by
      rcases List.mem_cons.1 ((h a).1 (by simp)) with e | ha
      · exact e
      · rcases List.mem_cons.1 ((h b).2 (by simp)) with e | hb
        · exact e.symm
        · exact absurd (aheadP_trans (a1 b hb) (b1 a ha)) (irr a)
    subst e
    have hn : ∀ {X : List Po}, (∀ z ∈ X, aheadP a z = true) → ¬ a ∈ X := fun hX hm => irr a (hX a hm)
    rw [ascP_ext A B a2 b2 fun p => ?_]
    have := h p
    rw [List.mem_cons, List.mem_cons] at this
    constructor
    · intro hp
      rcases this.1 (.inr hp) with rfl | hq
      · exact absurd hp (hn a1)
      · exact hq
    · intro hp
      rcases this.2 (.inr hp) with rfl | hq
      · exact absurd hp (hn b1)
      · exact hq
/-- What is told of the points K. -/
def tolds (S : Sums) (K : List Po) : List Ct := K.map fun p => toldC p (getP S p)
theorem tolds_len {S : Sums} {K : List Po} : (tolds S K).length = K.length := List.length_map _
theorem tolds_zero {S : Sums} {K : List Po} : tolds S (K.take (0 : Int).toNat) = [] := rfl
theorem tolds_step {S : Sums} {K : List Po} {i : Int} (h0 : 0 ≤ i) (h : i < (K.length : Int)) : tolds S (K.take (i + 1).toNat) = tolds S (K.take i.toNat) ++ [toldC (atQ K i.toNat) (getP S (atQ K i.toNat))] := by
  rw [show (i + 1).toNat = i.toNat + 1 by omega, List.take_succ_eq_append_getElem (by omega), show K[i.toNat] = atQ K i.toNat from (atQ_eq (by omega)).symm]
  simp [tolds]
theorem off_end {C Pr : Lanes} {w : Int} {K : List Po} (hp : (liveL C).Perm Pr) (hk : K.Perm ((sumsR w Pr).map (·.1))) (ha : AscP K) : tolds (sumsR w Pr) K = offL C w := by
  have e : K = offP C w := by
    rw [← offP_live]
    refine ascP_ext _ _ ha (offP_asc _ _) fun p => ?_
    rw [hk.mem_iff, sums_key, mem_offP]
    constructor
    · rintro ⟨q, h1, h2, h3⟩
      have hq := hp.mem_iff.2 h1
      exact ⟨q, hq, h2, by simpa using (List.mem_filter.1 hq).2, h3⟩
    · rintro ⟨q, h1, h2, _, h3⟩
      exact ⟨q, hp.mem_iff.1 h1, h2, h3⟩
  unfold tolds offL
  rw [← e]
  refine List.map_congr_left fun p _ => ?_
  rw [sums_get, ← sumAt_perm hp, sumAt_live]
/-- Points sorted so that none stands behind a greater one, each once: in order. -/
theorem asc_of_sorted {K : List Po} (hn : K.Pairwise (· ≠ ·)) (hs : K.Pairwise fun a b => aheadP b a = false) : AscP K := by
  unfold AscP
  induction K with
  | nil => exact List.Pairwise.nil
  | cons a r ih =>
    obtain ⟨n1, n2⟩ := List.pairwise_cons.1 hn
    obtain ⟨s1, s2⟩ := List.pairwise_cons.1 hs
    exact List.pairwise_cons.2 ⟨fun b hb => aheadP_tri (s1 b hb) (fun e => n1 b hb e.symm), ih n2 s2⟩
/-! ### Operations -/
theorem pu_mulW {P : Program} {o : Oper} {a : Act} {x y : Operand} {t t' : TypeId} {i j : Int} (ho : o.op = .binOp .mul t x y t') (hx : a.eval x = .int .i64 i) (hy : a.eval y = .int .i64 j) : Pure P o a (.int .i64 (IntKind.i64.wrap (i * j))) := fun w => by
  simp only [execOp, ho, hx, hy]; simp [go_sem]
/-! ### Ends of calls -/
theorem matM {r g : Nat} {fp : List Nat} {D : Lanes} {w : World} (hr : r ∈ fp) (hg : g ∈ fp) (hne : r ≠ g) (hB : Blk w r 50 #[.map (some g)]) (hM : MpV g (encM lnV iV D) w) : Mm fp w w [.blk r 50 #[.map (some g)], .own [g] (MpV g (encM lnV iV D))] := by
  have M := Mm.start fp w
  replace M := M.addR (x := .own [g] (MpV g (encM lnV iV D))) ⟨hM, MpV.loc _ _⟩ (by simp [Ent.fp]; exact hg) rfl (by simp)
  exact M.addX hB hr (by simp [Ent.fp]; exact hne)
theorem matPut0 {r g : Nat} {fp : List Nat} {C C2 D : Lanes} {w0 w : World} {k : Int} {en : En} (ho : Out fp w0 w) (hB : Blk w r 50 #[.map (some g)]) (hM : MpV g (encM lnV iV D) w) (hne : r ≠ g) (hr : r ∈ fp) (hg : g ∈ fp) (hD : D.Perm (liveL C2)) (hok : OKL C2) (e0 : matE C k en = 0) :
    TurnsE w0 (.own fp (MatV r fp C)) (fun v x' => ∃ fp', v = .int .i64 0 ∧ x' = .own fp' (MatV r fp' C2)) (.returned (.int .i64 0)) w :=
  ⟨_, .own [r, g] (MatV r [r, g] C2), rfl, ho, ⟨MatV.mk' hne hB hM hD hok, MatV.loc _ _ _⟩, fun z hz => .inl (by
    simp only [Ent.fp, List.mem_cons, List.not_mem_nil, or_false] at hz
    rcases hz with rfl | rfl
    · exact hr
    · exact hg), rfl, _, rfl, rfl⟩
theorem matPut {r g : Nat} {fp : List Nat} {C C2 : Lanes} {w0 w : World} {n : Int} (ho : Out fp w0 w) (hB : Blk w r 50 #[.map (some g)]) (hM : MpV g (encM lnV iV (liveL C)) w) (hne : r ≠ g) (hr : r ∈ fp) (hg : g ∈ fp) (e : C2 = C) (hok : OKL C2) :
    TurnsE w0 (.own fp (MatV r fp C)) (fun v x' => ∃ fp', v = .int .i64 n ∧ x' = .own fp' (MatV r fp' C2)) (.returned (.int .i64 n)) w := by
  subst e
  exact ⟨_, .own [r, g] (MatV r [r, g] C2), rfl, ho, ⟨MatV.mk' hne hB hM (List.Perm.refl _) hok, MatV.loc _ _ _⟩, fun z hz => .inl (by
    simp only [Ent.fp, List.mem_cons, List.not_mem_nil, or_false] at hz
    rcases hz with rfl | rfl
    · exact hr
    · exact hg), rfl, _, rfl, rfl⟩
theorem opn_first {l : Ln} {n : Int} {D : Lanes} : opn ((l, n) :: D) l = n := by simp [opn, getM]
theorem evfn {a : Act} {f : Nat} : a.eval (.func f) = .func (.func f) #[] #[] := rfl
/-- What remove leaves: the match, and the sums. -/
def rmX (r g g2 : Nat) (k : Int) (Pr C : Lanes) : List Ent := [.own [r, g] (MatV r [r, g] (offC C k)), .own [g2] (MpV g2 (encM poV iV (sumsR k Pr)))]
theorem okl_l {A B : Lanes} (h : OKL (A ++ B)) : OKL A := ⟨(List.pairwise_append.1 h.nd).1, fun q hq => h.ge q (List.mem_append.2 (.inl hq)), fun q hq => h.le q (List.mem_append.2 (.inl hq))⟩
theorem sums_bound {C Pr Rs : Lanes} {k : Int} {p : Po} (ho : OKL C) (hz : C.length ≤ 1000) (hp : (liveL C).Perm (Pr ++ Rs)) : 0 ≤ getP (sumsR k Pr) p ∧ getP (sumsR k Pr) p ≤ 1000000000000 := by
  have h1 := okl_l (okl_perm (okl_live ho) hp)
  have h2 : Pr.length ≤ 1000 := by
    have := hp.length_eq; rw [List.length_append] at this
    have := live_len (C := C); omega
  have := sumAt_bound (w := k) (p := p) h1 h2
  rw [sums_get]; omega
theorem rs_mem {C Pr Rs Rs' : Lanes} {q : Ln × Int} (ho : OKL C) (hp : (liveL C).Perm (Pr ++ Rs)) (hq : Rs.Perm (q :: Rs')) : 0 ≤ q.2 ∧ q.2 ≤ 1000000000 := by
  have h1 := okl_perm (okl_live ho) hp
  have hm : q ∈ Pr ++ Rs := List.mem_append.2 (.inr (hq.mem_iff.2 (by simp)))
  exact ⟨h1.ge q hm, h1.le q hm⟩
theorem rs_next {C Pr Rs Rs' : Lanes} {q : Ln × Int} (hp : (liveL C).Perm (Pr ++ Rs)) (hq : Rs.Perm (q :: Rs')) : (liveL C).Perm ((q :: Pr) ++ Rs') :=
  hp.trans ((hq.append_left Pr).trans (by rw [List.cons_append]; exact List.perm_middle))
theorem keep_no {Pr Rs Rs' : Lanes} {q : Ln × Int} {k : Int} (hq : Rs.Perm (q :: Rs')) (ht : touchB k q.1 = false) : (offC Pr k ++ Rs).Perm (offC (q :: Pr) k ++ Rs') := by
  have : offC (q :: Pr) k = q :: offC Pr k := by unfold offC; rw [List.filter_cons, if_pos (by simp [ht])]
  rw [this, List.cons_append]
  exact (hq.append_left _).trans List.perm_middle
theorem keep_yes {C Pr Rs Rs' : Lanes} {q : Ln × Int} {k : Int} (ho : OKL C) (hp : (liveL C).Perm (Pr ++ Rs)) (hq : Rs.Perm (q :: Rs')) (ht : touchB k q.1 = true) : (delM (offC Pr k ++ Rs) q.1).Perm (offC (q :: Pr) k ++ Rs') := by
  have e : offC (q :: Pr) k = offC Pr k := by unfold offC; rw [List.filter_cons, if_neg (by simp [ht])]
  rw [e]
  have hn := (okl_perm (okl_live ho) (rs_next hp hq)).nd
  rw [List.cons_append] at hn
  have hn1 := (List.pairwise_cons.1 hn).1
  have h1 : (offC Pr k ++ Rs).Perm (q :: (offC Pr k ++ Rs')) := (hq.append_left _).trans List.perm_middle
  have h2 : delM (q :: (offC Pr k ++ Rs')) q.1 = offC Pr k ++ Rs' := by
    unfold delM
    rw [List.filter_cons, if_neg (by simp)]
    refine List.filter_eq_self.2 fun z hz => ?_
    have : q.1 ≠ z.1 := hn1 z (by
      rcases List.mem_append.1 hz with h | h
      · exact List.mem_append.2 (.inl (List.mem_filter.1 h).1)
      · exact List.mem_append.2 (.inr h))
    simpa using fun e => this e.symm
  rw [← h2]
  exact h1.filter _
theorem sumsR_yes {Pr : Lanes} {q : Ln × Int} {k : Int} (ht : touchB k q.1 = true) : sumsR k (q :: Pr) = putP (sumsR k Pr) q.1.p (getP (sumsR k Pr) q.1.p + q.2) := if_pos ht
theorem sumsR_no {Pr : Lanes} {q : Ln × Int} {k : Int} (ht : touchB k q.1 = false) : sumsR k (q :: Pr) = sumsR k Pr := if_neg (by rw [ht]; decide)
theorem matMo {r g : Nat} {fp : List Nat} {o : Obj} {w : World} (hr : r ∈ fp) (hg : g ∈ fp) (hne : r ≠ g) (hB : Blk w r 50 #[.map (some g)]) (hM : ObV g o w) : Mm fp w w [.blk r 50 #[.map (some g)], .own [g] (ObV g o)] := by
  have M := Mm.start fp w
  replace M := M.addR (x := .own [g] (ObV g o)) ⟨hM, ObV.loc _ _⟩ (by simp [Ent.fp]; exact hg) rfl (by simp)
  exact M.addX hB hr (by simp [Ent.fp]; exact hne)
theorem rm_end {r g g2 : Nat} {fp : List Nat} {C D Pr : Lanes} {k : Int} {w0 w : World} {es : Array MapEntry} {ck : Nat} (M : Mm fp w0 w [.blk r 50 #[.map (some g)], .own [g] (ObV g (.map es ck)), .own [g2] (MpV g2 (encM poV iV (sumsR k Pr)))])
    (hi : MapIs es ck (encM lnV iV D)) (hD : D.Perm (liveL (offC C k))) (hok : OKL C) (hne : r ≠ g) (hP : (liveL C).Perm Pr) :
    TurnsE w0 (.own fp (MatV r fp C)) (fun v x' => ∃ g g2 Pr, v = .map (some g2) ∧ (liveL C).Perm Pr ∧ x' = .own (fpE (rmX r g g2 k Pr C)) (PkV (rmX r g g2 k Pr C))) (.returned (.map (some g2))) w := by
  have hv : MatV r [r, g] (offC C k) w := MatV.mk' hne (M.at (i := 0) rfl) ⟨es, ck, M.pv (i := 1) rfl, hi⟩ hD (okl_off hok k)
  have M2 : Mm fp w0 w (rmX r g g2 k Pr C) := Mm.recast (X := [.blk r 50 #[.map (some g)], .own [g] (ObV g (.map es ck))]) (Y := [.own [r, g] (MatV r [r, g] (offC C k))]) M (fun y hy => by rw [List.mem_singleton.1 hy]; exact ⟨hv, MatV.loc _ _ _⟩) (fun y hy z hz => by
    rw [List.mem_singleton.1 hy] at hz
    simp only [Ent.fp, List.mem_cons, List.not_mem_nil, or_false] at hz
    rcases hz with rfl | rfl
    · exact ⟨.blk z 50 #[.map (some g)], by simp, by simp [Ent.fp]⟩
    · exact ⟨.own [z] (ObV z (.map es ck)), by simp, by simp [Ent.fp]⟩) (List.pairwise_singleton _ _) (fun y hy z hz => by rw [List.mem_singleton.1 hy] at hz; cases hz)
  have hb : ∀ x ∈ (rmX r g g2 k Pr C), x.base = [] := fun x hx => by
    simp only [rmX, List.mem_cons, List.not_mem_nil, or_false] at hx
    rcases hx with rfl | rfl <;> rfl
  exact M2.pkTurns rfl hb (M2.pkv hb) (PkV.loc _) ⟨g, g2, Pr, rfl, hP, rfl⟩
theorem MatV.wide {r : Nat} {fp fp' : List Nat} {C : Lanes} {w : World} (h : MatV r fp C w) (hs : ∀ z ∈ fp, z ∈ fp') (hl : ∀ z ∈ fp', z < w.heap.size) : MatV r fp' C w := by
  obtain ⟨g, h1, h2, h3, _, h5⟩ := h
  exact ⟨g, hs _ h1, hs _ h2, h3, hl, h5⟩
theorem off_fin {r g t : Nat} {fp : List Nat} {C C2 : Lanes} {L : List Ct} {v : Value} {w0 w : World} (M : Mm fp w0 w [.row t 3 v L.length (cC L), .own [r, g] (MatV r [r, g] C2)]) :
    TurnsE w0 (.own fp (MatV r fp C)) (fun v x' => ∃ fp', x' = .own fp' (MatO v L r fp' C2)) (.returned v) w := by
  have ho := M.ow (i := 0) rfl
  have hm := M.pv (i := 1) rfl
  have hl : ∀ z ∈ [r, g] ++ v.ownBlock.toList, z < w.heap.size := fun z hz => by
    rcases List.mem_append.1 hz with h | h
    · exact (MatV.loc _ _ _ w w (fun _ _ => rfl) hm).2 z h
    · exact Ent.lt (M.get (i := 0) rfl) z h
  refine ⟨v, .own ([r, g] ++ v.ownBlock.toList) (MatO v L r ([r, g] ++ v.ownBlock.toList) C2), rfl, M.out, ⟨⟨hm.wide (fun z hz => List.mem_append.2 (.inl hz)) hl, own_rdv ho, fun z hz => ?_⟩, MatO.loc _ _ _ _ _⟩, fun z hz => ?_, rfl, _, rfl⟩
  · obtain ⟨h1, rfl⟩ := mem_fpN.1 hz
    exact List.mem_append.2 (.inr (by rw [(own_spot ho h1).1]; simp))
  · rcases List.mem_append.1 (show z ∈ [r, g] ++ v.ownBlock.toList from hz) with h | h
    · exact (M.own _ (List.mem_of_getElem? (i := 1) rfl) z h).symm
    · exact (M.own _ (List.mem_of_getElem? (i := 0) rfl) z h).symm
end Go.Proofs.Ytoadlnnhlnhkjaa
