/- Package bracha in memory (as landed at 5043b09): of each text the workers whose echo, or ready, it is, in a map. Any seat with package bracha in it. -/
import Derived.Test.YtcobpabmmbcjcaaCr
import Derived.Test.YtcobpabmmbcjcaaJ4
import Derived.Test.YtcobpabmmbcjcaaJ2
import Derived.Lib.ConvBytes
namespace Go.Proofs.Ytcobpabmmbcjcaa
open Go.RowKit Go.MapKept
set_option maxRecDepth 100000
set_option linter.unusedSimpArgs false
set_option linter.unusedVariables false
def s7 (p : Int → Bool) : Array Value := #[.bool (p 0), .bool (p 1), .bool (p 2), .bool (p 3), .bool (p 4), .bool (p 5), .bool (p 6)]
def s7V (p : Int → Bool) : Value := .agg (s7 p)
theorem upto7 {i : Int} (h0 : 0 ≤ i) (h7 : i < 7) : i = 0 ∨ i = 1 ∨ i = 2 ∨ i = 3 ∨ i = 4 ∨ i = 5 ∨ i = 6 := by omega
def withP (p : Int → Bool) (k : Int) : Int → Bool := fun x => p x || decide (x = k)
theorem s7_with {p : Int → Bool} {i : Int} (h0 : 0 ≤ i) (h7 : i < 7) : (s7 p).setIfInBounds (0 + i.toNat * 1) (.bool true) = s7 (withP p i) := by
  rcases upto7 h0 h7 with rfl | rfl | rfl | rfl | rfl | rfl | rfl <;> (unfold s7 withP; simp)
theorem s7_at {p : Int → Bool} {i : Int} (h0 : 0 ≤ i) (h7 : i < 7) : (s7 p)[i.toNat]? = some (.bool (p i)) := by
  rcases upto7 h0 h7 with rfl | rfl | rfl | rfl | rfl | rfl | rfl <;> rfl
def same7 (p q : Int → Bool) : Bool := (List.range 7).all fun i => p (i : Int) == q (i : Int)
theorem same_with {p : Int → Bool} {k : Int} (h0 : 0 ≤ k) (h7 : k < 7) : same7 (withP p k) p = p k := by
  unfold same7 withP
  cases h : p k with
  | true =>
    rw [List.all_eq_true]
    intro i _
    by_cases e : (i : Int) = k
    · rw [e, h]; rfl
    · rw [decide_eq_false e, Bool.or_false]; exact beq_self_eq_true _
  | false =>
    rw [List.all_eq_false]
    refine ⟨k.toNat, List.mem_range.2 (by omega), ?_⟩
    rw [show ((k.toNat : Nat) : Int) = k by omega, h]; simp
theorem eqB7 {P : Program} {e : TypeId} {dd : Nat} (he : P.underlying e = some .bool) (p q : Int → Bool) (w : World) : ∀ is : List Nat, (∀ i ∈ is, i < 7) → (Op.eqItems (dd + 1) e 1 (s7 p) (s7 q) is).run P w = .ok (is.all fun i => p (i : Int) == q (i : Int)) w
  | [], _ => by simp [Op.eqItems]
  | i :: is, h => by
    have hi := h i (by simp)
    have at7 : ∀ r : Int → Bool, (s7 r)[i]? = some (.bool (r (i : Int))) := fun r => by
      have := s7_at (p := r) (i := (i : Int)) (by omega) (by omega)
      rwa [show ((i : Int)).toNat = i by omega] at this
    have one : ∀ r : Int → Bool, (part e (s7 r) i).run P w = .ok (.bool (r (i : Int))) w := fun r => by
      have hA : (isAgg e).run P w = .ok false w := by simp [isAgg, run_underlying he]
      simp [part, hA, at7 r]
    have p3 := run_equalIn_bool (P := P) w dd e (p (i : Int)) (q (i : Int)) he
    have ih := eqB7 (dd := dd) he p q w is (fun j hj => h j (by simp [hj]))
    simp only [Op.eqItems, Nat.mul_one, Sem.run_bind, one p, one q, p3, Result.andThen_ok, List.all_cons]
    cases p (i : Int) == q (i : Int)
    · simp
    · simpa using ih
theorem eqS7 (p q : Int → Bool) (w : World) : (Op.equalIn 10000 108 (.agg (s7 p)) (.agg (s7 q))).run Try.prog w = .ok (same7 p q) w := by
  have hi : (Try.prog.info? 4).map (·.size) = some 1 := by kernel_rfl
  have hc : Try.prog.cellsOf 4 = 1 := by kernel_rfl
  cases hq : Try.prog.info? 4 with
  | none => simp [hq] at hi
  | some i =>
    rw [run_equalIn_array w 9999 _ _ Try.underlying108 hq, hc]
    exact eqB7 (dd := 9998) Try.underlying4 p q w _ (fun i hi => List.mem_range.1 hi)
theorem run_ixS {p : Int → Bool} {i : Int} (h0 : 0 ≤ i) (h7 : i < 7) (W : World) : (Instr.index 108 (.agg (s7 p)) (.int .i64 i)).run Try.prog W = .ok (.bool (p i)) W := by
  have hi : (Try.prog.info? 4).map (·.size) = some 1 := by kernel_rfl
  cases hq : Try.prog.info? 4 with
  | none => simp [hq] at hi
  | some f =>
    have hi' : f.size = 1 := by simpa [hq] using hi
    have hv := s7_at (p := p) h0 h7
    simp [Instr.index, run_underlying Try.underlying108, asIntOf, h0, h7, sizeOf, typeInfo, hq, hi', part, hv]
theorem pu_ixS {o : Oper} {a : Act} {x y : Operand} {p : Int → Bool} {i : Int} (ho : o.op = .index 108 x y) (hx : a.eval x = .agg (s7 p)) (hy : a.eval y = .int .i64 i) (h0 : 0 ≤ i) (h7 : i < 7) : Pure Try.prog o a (.bool (p i)) := fun w => by
  simp only [execOp, ho, hx, hy]; simp [run_ixS h0 h7]
def cntB (p : Int → Bool) (i : Int) : Int := ((((rngI i).filter p).length : Nat) : Int)
theorem rngS_succ {j : Int} (h0 : 0 ≤ j) : rngI (j + 1) = rngI j ++ [j] := by
  unfold rngI
  rw [show (j + 1).toNat = j.toNat + 1 by omega, List.range_succ, List.map_append, List.map_singleton, show ((j.toNat : Nat) : Int) = j by omega]
theorem cntS_yes {p : Int → Bool} {j : Int} (h0 : 0 ≤ j) (h : p j = true) : cntB p j + 1 = cntB p (j + 1) := by
  unfold cntB; rw [rngS_succ h0, List.filter_append, List.length_append]; simp [h]
theorem cntS_no {p : Int → Bool} {j : Int} (h0 : 0 ≤ j) (h : p j = false) : cntB p j = cntB p (j + 1) := by
  unfold cntB; rw [rngS_succ h0, List.filter_append, List.length_append]; simp [h]
theorem cntS_zero {p : Int → Bool} : 0 = cntB p 0 := rfl
theorem cntS_b {p : Int → Bool} {i : Int} (h0 : 0 ≤ i) : 0 ≤ cntB p i ∧ cntB p i ≤ i := by
  unfold cntB
  have := List.length_filter_le p (rngI i)
  rw [rng_len] at this
  omega
theorem cntS_n {p : Int → Bool} {n : Int} (h0 : 0 ≤ n) (h7 : n ≤ 7) (h : ∀ k, n ≤ k → k < 7 → p k = false) : cntB p 7 = cntB p n := by
  have hm : ∀ m : Nat, n + (m : Int) ≤ 7 → cntB p (n + (m : Int)) = cntB p n := fun m => by
    induction m with
    | zero => intro _; rw [show n + ((0 : Nat) : Int) = n by omega]
    | succ m ih => intro h1; rw [show n + ((m + 1 : Nat) : Int) = (n + (m : Int)) + 1 by omega, ← cntS_no (by omega) (h _ (by omega) (by omega)), ih (by omega)]
  have := hm (7 - n).toNat (by omega)
  rwa [show n + (((7 - n).toNat : Nat) : Int) = 7 by omega] at this
def moV (o : Option Tx) : Value := .agg #[strV (o.getD []), .bool o.isSome]
def lesO (a b : Option Tx) : Option Tx := if (!a.isSome || (b.isSome && ltT (b.getD []) (a.getD []))) = true then b else a
theorem les_b1 {a b : Option Tx} (h : a.isSome = false) : lesO a b = b := by unfold lesO; rw [h]; rfl
theorem les_b2 {a b : Option Tx} (h : b.isSome = true) (h2 : ltT (b.getD []) (a.getD []) = true) : lesO a b = b := by unfold lesO; rw [h, h2]; simp
theorem les_a1 {a b : Option Tx} (h : a.isSome = true) (h2 : b.isSome = false) : lesO a b = a := by unfold lesO; rw [h, h2]; rfl
theorem les_a2 {a b : Option Tx} (h : a.isSome = true) (h2 : ltT (b.getD []) (a.getD []) = false) : lesO a b = a := by unfold lesO; rw [h, h2]; simp
section
variable {p q : Tx → Bool} {l l' r : List Tx} {t : Tx} {o : Option Tx}
theorem least_none' (h : ∀ t ∈ l, p t = false) : leastT p l = none := by
  cases hl : leastT p l with
  | none => rfl
  | some t => obtain ⟨h1, h2⟩ := least_some hl; rw [h t h2] at h1; cases h1
theorem least_is (h1 : p t = true) (h2 : t ∈ l) (h3 : ∀ u ∈ l, p u = true → ltT u t = false) : leastT p l = some t := by
  cases hl : leastT p l with
  | none => rw [least_none hl t h2] at h1; cases h1
  | some v =>
    obtain ⟨h4, h5⟩ := least_some hl
    have h6 := least_min hl t h2 h1
    have h7 := h3 v h5 h4
    rcases lt_tri v t with z | z | z
    · rw [h7] at z; cases z
    · rw [z]
    · rw [h6] at z; cases z
theorem least_same (h : ∀ t, (p t = true ∧ t ∈ l) ↔ (q t = true ∧ t ∈ l')) : leastT p l = leastT q l' := by
  cases hl : leastT p l with
  | none =>
    refine (least_none' fun t ht => ?_).symm
    cases hq : q t with
    | false => rfl
    | true => have := (h t).2 ⟨hq, ht⟩; rw [least_none hl t this.2] at this; cases this.1
  | some t =>
    obtain ⟨h1, h2⟩ := least_some hl
    obtain ⟨h3, h4⟩ := (h t).1 ⟨h1, h2⟩
    exact (least_is h3 h4 fun u hu hq => by have := (h u).2 ⟨hq, hu⟩; exact least_min hl u this.2 this.1).symm
theorem least_no (h : p t = false) : leastT p (t :: l) = leastT p l := by
  rw [leastT, if_neg (by rw [h]; simp)]
theorem least_yes (h : p t = true) : leastT p (t :: l) = lesO (leastT p l) (some t) := by
  rw [leastT, if_pos h]
  cases hl : leastT p l with
  | none => rfl
  | some u =>
    unfold lesO
    simp only [Option.isSome_some, Option.getD_some, Bool.not_true, Bool.false_or, Bool.true_and]
    rcases lt_tri u t with z | z | z
    · rw [if_pos z, lt_asym z]; simp
    · subst z; rw [lt_irr]; simp
    · rw [z, lt_asym z]; simp
theorem les_least : lesO (leastT p l) (leastT q l') = leastT (fun t => (p t && l.contains t) || (q t && l'.contains t)) (l ++ l') := by
  cases hl : leastT p l with
  | none =>
    rw [les_b1 rfl]
    refine least_same fun t => ?_
    constructor
    · intro ⟨h1, h2⟩; exact ⟨by simp [h1, h2], by simp [h2]⟩
    · intro ⟨h1, _⟩
      simp only [Bool.or_eq_true, Bool.and_eq_true, List.contains_iff_mem] at h1
      rcases h1 with h1 | h1
      · have := least_none hl t h1.2; rw [h1.1] at this; cases this
      · exact h1
  | some u =>
    obtain ⟨a1, a2⟩ := least_some hl
    have am := least_min hl
    cases hr : leastT q l' with
    | none =>
      rw [les_a1 rfl rfl]
      refine (least_is (by simp [a1, a2]) (by simp [a2]) fun v hv h => ?_).symm
      simp only [Bool.or_eq_true, Bool.and_eq_true, List.contains_iff_mem] at h
      rcases h with h | h
      · exact am v h.2 h.1
      · have := least_none hr v h.2; rw [h.1] at this; cases this
    | some v =>
      obtain ⟨b1, b2⟩ := least_some hr
      have bm := least_min hr
      cases hlt : ltT v u with
      | true =>
        rw [les_b2 (a := some u) (b := some v) rfl hlt]
        refine (least_is (by simp [b1, b2]) (by simp [b2]) fun x hx h => ?_).symm
        simp only [Bool.or_eq_true, Bool.and_eq_true, List.contains_iff_mem] at h
        rcases h with h | h
        · cases hz : ltT x v with
          | false => rfl
          | true => have := am x h.2 h.1; rw [lt_trans hz hlt] at this; cases this
        · exact bm x h.2 h.1
      | false =>
        rw [les_a2 (a := some u) (b := some v) rfl hlt]
        refine (least_is (by simp [a1, a2]) (by simp [a2]) fun x hx h => ?_).symm
        simp only [Bool.or_eq_true, Bool.and_eq_true, List.contains_iff_mem] at h
        rcases h with h | h
        · exact am x h.2 h.1
        · cases hz : ltT x u with
          | false => rfl
          | true =>
            have := bm x h.2 h.1
            rcases lt_tri v u with y | y | y
            · rw [hlt] at y; cases y
            · rw [y] at this; rw [hz] at this; cases this
            · rw [lt_trans hz y] at this; cases this
end
abbrev Vo := List (Tx × (Int → Bool))
theorem strV_inj (a b : Tx) (h : strV a = strV b) : a = b := by
  unfold strV at h
  injection h with h
  have h1 := congrArg (fun x : ByteArray => x.data.toList) h
  simpa using h1
theorem mtVote : MapEn Try.prog 81 9 108 strV s7V (s7V fun _ => false) :=
  ⟨Try.underlying81, ⟨_, keyOK_plain Try.underlying9, fun a => by unfold strV; trivial⟩, strV_inj, fun w => by kernel_rfl⟩
def votP (E : Vo) (t : Tx) : Int → Bool := (getM E t).getD fun _ => false
theorem vot_elim (E : Vo) (t : Tx) : (getM E t).elim (s7V fun _ => false) s7V = s7V (votP E t) := by unfold votP; cases getM E t <;> rfl
def enoB (E : Vo) (m : Int) (t : Tx) : Bool := decide (m ≤ cntB (votP E t) 7)
def leaV (E : Vo) (m : Int) : Option Tx := leastT (enoB E m) (E.map (·.1))
def addV (E : Vo) (k : Int) (t : Tx) : Vo := if E.any (fun q => q.2 k) = true then E else (t, withP (votP E t) k) :: delM E t
structure VoOK (n : Int) (g : Int → Option Tx) (E : Vo) : Prop where
  nd : E.Pairwise fun p q => p.1 ≠ q.1
  vo : ∀ q ∈ E, ∀ k, 0 ≤ k → k < 7 → q.2 k = decide (g k = some q.1)
  al : ∀ k t, g k = some t → (0 ≤ k ∧ k < n) ∧ ∃ p, (t, p) ∈ E
section
variable {n f k frm kind m : Int} {g : Int → Option Tx} {E D R : Vo} {t : Tx} {S : Cs} {q : Tx × (Int → Bool)} {Pr Rs : Vo}
theorem VoOK.zero : VoOK n (fun _ => none) [] := ⟨.nil, fun q hq => (by cases hq), fun k t h => by cases h⟩
theorem vot_at (hn : E.Pairwise fun p q => p.1 ≠ q.1) (hq : q ∈ E) : votP E q.1 = q.2 := by unfold votP; rw [getM_some (x := q.1) (v := q.2) hn hq]; rfl
theorem add_same (h : E.any (fun q => q.2 k) = true) : addV E k t = E := if_pos h
theorem add_new (h : ∀ q ∈ E, q.2 k = false) : addV E k t = (t, withP (votP E t) k) :: delM E t := if_neg (by rw [List.any_eq_false.2 (fun q hq => by rw [h q hq]; simp)]; simp)
theorem VoOK.put (h : VoOK n g E) (h0 : 0 ≤ frm) (hn : frm < n) (h7 : n ≤ 7) (t : Tx) : VoOK n (putT g frm t) (addV E frm t) := by
  cases ha : E.any (fun q => q.2 frm) with
  | true =>
    obtain ⟨q, hq, h1⟩ := List.any_eq_true.1 ha
    rw [h.vo q hq frm h0 (by omega)] at h1
    have h2 := of_decide_eq_true h1
    have e : putT g frm t = g := funext fun x => by unfold putT; rw [if_neg (fun z => by rw [z.2] at h2; cases h2)]
    rw [add_same ha, e]; exact h
  | false =>
    have hno : ∀ q ∈ E, q.2 frm = false := fun q hq => by simpa using List.any_eq_false.1 ha q hq
    have hg : g frm = none := by
      cases hgf : g frm with
      | none => rfl
      | some u =>
        obtain ⟨_, p, hp⟩ := h.al frm u hgf
        have := h.vo _ hp frm h0 (by omega)
        rw [hno _ hp, hgf] at this; simp at this
    have hvt : ∀ k, 0 ≤ k → k < 7 → votP E t k = decide (g k = some t) := fun k k0 k7 => by
      unfold votP
      cases hm : getM E t with
      | some p => exact h.vo _ (getM_mem hm) k k0 k7
      | none =>
        refine (decide_eq_false fun z => ?_).symm
        obtain ⟨_, p, hp⟩ := h.al k t z
        rw [getM_some h.nd hp] at hm; cases hm
    rw [add_new hno]
    refine ⟨List.pairwise_cons.2 ⟨fun q hq e => ?_, h.nd.filter _⟩, fun q hq k k0 k7 => ?_, fun k u hk => ?_⟩
    · have := (List.mem_filter.1 hq).2
      simp only [← e, decide_true, Bool.not_true, Bool.false_eq_true] at this
    · rcases List.mem_cons.1 hq with rfl | hq
      · show (votP E t k || decide (k = frm)) = _
        by_cases e : k = frm
        · subst e; rw [decide_eq_true rfl, Bool.or_true, put_at, hg]; simp
        · rw [decide_eq_false e, Bool.or_false, put_ne e]; exact hvt k k0 k7
      · obtain ⟨h1, h2⟩ := List.mem_filter.1 hq
        by_cases e : k = frm
        · subst e
          rw [hno q h1, put_at, hg]
          refine (decide_eq_false fun z => ?_).symm
          simp only [Option.getD_none, Option.some.injEq] at z
          rw [← z] at h2; simp at h2
        · rw [put_ne e]; exact h.vo q h1 k k0 k7
    · rcases put_some hk with z | ⟨rfl, rfl, _⟩
      · obtain ⟨h1, p, hp⟩ := h.al k u z
        refine ⟨h1, ?_⟩
        by_cases e : u = t
        · subst e; exact ⟨_, List.mem_cons_self⟩
        · exact ⟨p, List.mem_cons_of_mem _ (List.mem_filter.2 ⟨hp, by simpa using e⟩)⟩
      · exact ⟨⟨h0, hn⟩, _, List.mem_cons_self⟩
theorem VoOK.cnt (h : VoOK n g E) (h0 : 0 ≤ n) (h7 : n ≤ 7) (hq : q ∈ E) : cntB (votP E q.1) 7 = (cntT n g q.1 : Int) := by
  rw [vot_at h.nd hq, cntS_n h0 h7 (fun k k1 k7 => ?_)]
  · unfold cntB cntT
    congr 2
    exact List.filter_congr fun k hk => (by have := mem_rng.1 hk; exact h.vo q hq k this.1 (by omega))
  · rw [h.vo q hq k (by omega) k7]
    refine decide_eq_false fun z => ?_
    have := (h.al k _ z).1; omega
theorem VoOK.keys (h : VoOK n g E) (hc : 0 < cntT n g t) : ∃ q ∈ E, q.1 = t := by
  obtain ⟨k, _, hk⟩ := cnt_pos hc
  obtain ⟨_, p, hp⟩ := h.al k t hk
  exact ⟨_, hp, rfl⟩
theorem VoOK.eno (h : VoOK n g E) (h0 : 0 ≤ n) (h7 : n ≤ 7) (hm : 1 ≤ m) (t : Tx) : (enoB E m t = true ∧ t ∈ E.map (·.1)) ↔ m ≤ (cntT n g t : Int) := by
  unfold enoB
  constructor
  · intro ⟨h1, h2⟩
    obtain ⟨q, hq, rfl⟩ := List.mem_map.1 h2
    have := of_decide_eq_true h1
    rwa [h.cnt h0 h7 hq] at this
  · intro h1
    obtain ⟨q, hq, rfl⟩ := h.keys (t := t) (show 0 < cntT n g t by omega)
    exact ⟨decide_eq_true (by rw [h.cnt h0 h7 hq]; exact h1), List.mem_map.2 ⟨q, hq, rfl⟩⟩
structure CaOK (S : Cs) (E R : Vo) : Prop where
  n1 : 1 ≤ S.n
  n7 : S.n ≤ 7
  f0 : 0 ≤ S.f
  f3 : 3 * S.f < S.n
  ve : VoOK S.n S.ec E
  vr : VoOK S.n S.rd R
theorem CaOK.rdy (h : CaOK S E R) : lesO (leaV E ((S.n + S.f) / 2 + 1)) (leaV R (S.f + 1)) = leastT (okT S) (txsT S) := by
  have h1 := h.n1; have h7 := h.n7; have h0 := h.f0
  have a := fun t => h.ve.eno (m := (S.n + S.f) / 2 + 1) (by omega) h7 (by omega) t
  have b := fun t => h.vr.eno (m := S.f + 1) (by omega) h7 (by omega) t
  unfold leaV
  rw [les_least]
  refine least_same fun t => ?_
  constructor
  · intro ⟨h2, _⟩
    simp only [Bool.or_eq_true, Bool.and_eq_true, List.contains_iff_mem] at h2
    rcases h2 with h2 | h2
    · have := (a t).1 h2; exact ⟨decide_eq_true (.inl this), cnt_txs (.inl (by omega))⟩
    · have := (b t).1 h2; exact ⟨decide_eq_true (.inr this), cnt_txs (.inr (by omega))⟩
  · intro ⟨h2, _⟩
    rcases (of_decide_eq_true h2 : manyI S ≤ _ ∨ _) with z | z
    · have := (a t).2 z; exact ⟨by simp [this.1, this.2], by simp [this.2]⟩
    · have := (b t).2 z; exact ⟨by simp [this.1, this.2], by simp [this.2]⟩
theorem CaOK.dlv (h : CaOK S E R) : leaV R (2 * S.f + 1) = leastT (dlT S) (txsT S) := by
  have h1 := h.n1; have h7 := h.n7; have h0 := h.f0
  have b := fun t => h.vr.eno (m := 2 * S.f + 1) (by omega) h7 (by omega) t
  unfold leaV
  refine least_same fun t => ?_
  rw [b t]
  constructor
  · intro z; exact ⟨decide_eq_true z, cnt_txs (.inr (by omega))⟩
  · intro ⟨z, _⟩; exact of_decide_eq_true z
theorem CaOK.echo (h : CaOK S E R) (h0 : 0 ≤ frm) (hn : frm < S.n) (t : Tx) (hk : kind = 2) : CaOK (rcvS S kind frm t) (addV E frm t) R := by
  unfold rcvS; rw [if_neg (by omega), if_pos hk]
  exact ⟨h.n1, h.n7, h.f0, h.f3, h.ve.put h0 hn h.n7 t, h.vr⟩
theorem CaOK.ready (h : CaOK S E R) (h0 : 0 ≤ frm) (hn : frm < S.n) (t : Tx) (h1 : ¬ kind = 1) (h2 : ¬ kind = 2) : CaOK (rcvS S kind frm t) E (addV R frm t) := by
  unfold rcvS; rw [if_neg h1, if_neg h2]
  exact ⟨h.n1, h.n7, h.f0, h.f3, h.ve, h.vr.put h0 hn h.n7 t⟩
theorem CaOK.init (h : CaOK S E R) (hk : kind = 1) : CaOK (rcvS S kind frm t) E R := by
  unfold rcvS; rw [if_pos hk]
  exact ⟨h.n1, h.n7, h.f0, h.f3, h.ve, h.vr⟩
theorem CaOK.new (h : bnewE n f = 0) : CaOK (cnewS n f) [] [] := by
  have := bnew_ok h
  exact ⟨by show 1 ≤ n; omega, by show n ≤ 7; omega, by show 0 ≤ f; omega, by show 3 * f < n; omega, VoOK.zero, VoOK.zero⟩
theorem CaOK.fin (h : CaOK S E R) : CaOK (finS S) E R := ⟨h.n1, h.n7, h.f0, h.f3, h.ve, h.vr⟩
def rdyS (S : Cs) : Cs := { S with rt := (finS S).rt }
def dlvS (S : Cs) : Cs := { S with dn := (finS S).dn }
theorem CaOK.rdyS (h : CaOK S E R) : CaOK (rdyS S) E R := ⟨h.n1, h.n7, h.f0, h.f3, h.ve, h.vr⟩
theorem rdy_yes (h : CaOK S E R) (hr : S.rt.isSome = false) (hl : (lesO (leaV E ((S.n + S.f) / 2 + 1)) (leaV R (S.f + 1))).isSome = true) : (rdyS S).rt.isSome = true ∧ readyF S = [(3, (lesO (leaV E ((S.n + S.f) / 2 + 1)) (leaV R (S.f + 1))).getD [])] := by
  rw [h.rdy] at hl ⊢
  unfold Go.Proofs.Ytcobpabmmbcjcaa.rdyS readyF rdyT finS
  simp only [hr, Bool.false_eq_true, if_false]
  cases hx : leastT (okT S) (txsT S) with
  | none => rw [hx] at hl; cases hl
  | some u => exact ⟨rfl, rfl⟩
theorem rdy_no (h : CaOK S E R) (hz : S.rt.isSome = true ∨ (lesO (leaV E ((S.n + S.f) / 2 + 1)) (leaV R (S.f + 1))).isSome = false) : (rdyS S).rt.isSome = S.rt.isSome ∧ readyF S = [] := by
  rw [h.rdy] at hz
  unfold Go.Proofs.Ytcobpabmmbcjcaa.rdyS readyF rdyT finS
  cases hr : S.rt.isSome with
  | true => simp [hr]
  | false =>
    rcases hz with z | z
    · rw [hr] at z; cases z
    · simp only [Bool.false_eq_true, if_false]
      cases hx : leastT (okT S) (txsT S) with
      | none => exact ⟨rfl, rfl⟩
      | some u => rw [hx] at z; cases z
theorem dlv_yes (h : CaOK S E R) (hd : S.dn.isSome = false) : (dlvS S).dn = leaV R (2 * S.f + 1) := by
  rw [h.dlv]; unfold dlvS finS; simp [hd]
theorem dlv_no (hd : S.dn.isSome = true) : dlvS S = S := by
  have e : (finS S).dn = S.dn := by unfold finS; simp [hd]
  unfold dlvS; rw [e]
theorem echoF_no (h : ¬ kind = 1) : echoF S kind t = [] := if_neg fun z => h z.1
theorem rcv_cells (h : ¬ kind = 1) : (rcvS S kind frm t).n = S.n ∧ (rcvS S kind frm t).f = S.f ∧ (rcvS S kind frm t).i1 = S.i1 ∧ (rcvS S kind frm t).two = S.two ∧ (rcvS S kind frm t).rt = S.rt ∧ (rcvS S kind frm t).dn = S.dn := by
  unfold rcvS; rw [if_neg h]; split <;> exact ⟨rfl, rfl, rfl, rfl, rfl, rfl⟩
theorem any_yes (hp : E.Perm (Pr ++ Rs)) (h : q ∈ Rs) (hk : q.2 k = true) : E.any (fun q => q.2 k) = true := List.any_eq_true.2 ⟨q, hp.mem_iff.2 (by simp [h]), hk⟩
theorem lea_fin (hp : E.Perm Pr) : leastT (enoB E m) (Pr.map (·.1)) = leaV E m := by
  unfold leaV
  exact least_same fun t => by rw [(hp.map (·.1)).mem_iff]
theorem go_next (hp : E.Perm (Pr ++ Rs)) {s : Vo} (hr : Rs.Perm (q :: s)) : E.Perm ((q :: Pr) ++ s) :=
  hp.trans (((hr.append_left Pr)).trans List.perm_middle)
theorem go_nd (hn : E.Pairwise fun p q => p.1 ≠ q.1) (hp : E.Perm (Pr ++ Rs)) {s : Vo} (hr : Rs.Perm (q :: s)) : votP E q.1 = q.2 :=
  vot_at hn (hp.mem_iff.2 (by simp [hr.mem_iff]))
end
def casM (r ge gr : Nat) (E R : Vo) (S : Cs) : List Ent := [.blk r 85 #[.int .i64 S.n, .int .i64 S.f, strV (S.i1.getD []), .bool S.i1.isSome, .bool S.two, .map (some ge), .map (some gr), .bool S.rt.isSome, strV (S.dn.getD []), .bool S.dn.isSome], .own [ge] (MpV ge (encM strV s7V E)), .own [gr] (MpV gr (encM strV s7V R))]
def CasV (r : Nat) (fp : List Nat) (S : Cs) (w : World) : Prop := ∃ ge gr E R, fp = fpE (casM r ge gr E R S) ∧ PkV (casM r ge gr E R S) w ∧ CaOK S E R
theorem CasV.loc (r : Nat) (fp : List Nat) (S : Cs) : Loc fp (CasV r fp S) := fun w w' hk ⟨ge, gr, E, R, e, h, h1⟩ => by
  subst e
  have z := PkV.loc _ w w' hk h
  exact ⟨⟨ge, gr, E, R, rfl, z.1, h1⟩, z.2⟩
section
variable {R0 : List Nat} {w0 w : World} {B : List Ent} {i j : Nat} {x x' y : Ent} {Z : Ent → Prop} {t : TypeId} {m k k' : Nat} {cs cs' : List Value} {v : Value}
theorem Mm.endTN (M : Mm R0 w0 w B) (hR : R0 = x.fp) (hi : B[i]? = some x') (hb : x'.base = []) (hj : B[j]? = some (.row t m v k' cs')) (hne : j ≠ i) (hk : k' = k) (hc : cs' = cs) (hz : Z x') : TurnsN w0 x Z t m cs k (.returned v) w := by
  subst hk; subst hc
  refine ⟨v, x', rfl, hR ▸ M.out, M.get hi, fun g hg => ?_, hb, hz, M.ow hj, fun g hg => ⟨?_, M.apart hj hi hne g (by simpa [Ent.fp] using hg)⟩⟩
  · have := M.own _ (List.mem_of_getElem? hi) g hg
    rw [hR] at this; exact this.symm
  · have := M.own _ (List.mem_of_getElem? hj) g (by simpa [Ent.fp] using hg)
    rw [hR] at this; exact this.symm
theorem Mm.endT {Z : Value → Ent → Prop} (M : Mm R0 w0 w B) (hR : R0 = x.fp) (hi : B[i]? = some x') (hb : x'.base = []) (hz : Z v x') : TurnsE w0 x Z (.returned v) w := by
  refine ⟨v, x', rfl, hR ▸ M.out, M.get hi, fun g hg => ?_, hb, hz⟩
  have := M.own _ (List.mem_of_getElem? hi) g hg
  rw [hR] at this; exact this.symm
end
theorem cas_done' {R0 : List Nat} {w0 w : World} {r ge gr ge' gr' : Nat} {E R E' R' : Vo} {S S' : Cs} {ov : Value} {X : List Fm} (M : Mm R0 w0 w (casM r ge' gr' E' R' S' ++ [.row 34 38 ov X.length (cF X)])) (hR' : R0 = fpE (casM r ge gr E R S)) (h : CaOK S' E' R') :
    TurnsN w0 (.own R0 (CasV r R0 S)) (fun x' => ∃ fp', x' = .own fp' (CasV r fp' S')) 34 38 (cF X) X.length (.returned ov) w := by
  have M1 : Mm R0 w0 w (casM r ge' gr' E' R' S') := M.sub (List.sublist_append_left _ _)
  have P1 : PkV (casM r ge' gr' E' R' S') w := M1.pkv (by simp [casM, Ent.base])
  have hrow : (Ent.row 34 38 ov X.length (cF X)) ∈ casM r ge' gr' E' R' S' ++ [.row 34 38 ov X.length (cF X)] := by simp
  refine ⟨ov, .own (fpE (casM r ge' gr' E' R' S')) (CasV r (fpE (casM r ge' gr' E' R' S')) S'), rfl, M.out, ⟨⟨ge', gr', E', R', rfl, P1, h⟩, CasV.loc _ _ _⟩, fun g hg => ?_, rfl, ⟨_, rfl⟩, M.has _ hrow, fun g hg => ⟨(M.own _ hrow g (by simpa [Ent.fp] using hg)).symm, fun hg' => ?_⟩⟩
  · obtain ⟨x, hx, hgx⟩ := mem_fpE.1 (show g ∈ fpE (casM r ge' gr' E' R' S') from hg)
    exact (M1.own x hx g hgx).symm
  · obtain ⟨x, hx, hgx⟩ := mem_fpE.1 (show g ∈ fpE (casM r ge' gr' E' R' S') from hg')
    exact (List.pairwise_append.1 M.nd).2.2 x hx _ (List.mem_singleton.2 rfl) g hgx (by simpa [Ent.fp] using hg)
def ByV (g : Nat) (A : Tx) (w : World) : Prop := g < w.heap.size ∧ ∀ j (hj : j < A.length), w.cell? ⟨g, 0 + j, none⟩ = some (.int .u8 ((A[j]).toNat : Int))
theorem ByV.loc (g : Nat) (A : Tx) : Loc [g] (ByV g A) := fun w w' hk ⟨h, h1⟩ => by
  have hg := hk g (by simp)
  refine ⟨⟨?_, fun j hj => ?_⟩, fun z hz => by simp only [List.mem_singleton] at hz; subst hz; exact h⟩
  · have h6 : w.heap[g]? = some w.heap[g] := Array.getElem?_eq_getElem h
    rw [← hg] at h6
    exact (Array.getElem?_eq_some_iff.1 h6).1
  · rw [World.cell?_of_block hg]; exact h1 j hj
section
variable {P : Program} {ops rest : List Oper} {o : Oper} {a : Act} {n d : Nat} {L : List (Nat × Value)} {Q : Exit → Act → World → Prop} {R : List Nat} {w w0 : World} {B : List Ent} {x : Operand} {e src dst : TypeId} {A : Tx} {g c : Nat} {C : World → Prop}
theorem sq_byt (F : Fr a n L) (M : Mm R w0 w B) (hw : Region.wanted o (yielded ops.toArray a.tmps) = true) (ho : o.op = .convert src dst x) (hx : a.eval x = strV A) (hs : P.underlying src = some .string) (hdt : P.underlying dst = some (.slice e)) (he : P.underlying e = some (.int .u8))
    (hd : o.dst = some d) (hdn : Nat.blt d n = true) (h : ∀ a' w' g c, Fr a' n ((d, .slice (some ⟨g, 0, none⟩) A.length c) :: L) → Mm R w0 w' (.own [g] (ByV g A) :: B) → wpList P ops.toArray Q rest a' w') : wpList P ops.toArray Q (o :: rest) a w := by
  have hr := Lib.run_convert_string_bytes (P := P) w src dst e ⟨A.toArray⟩ hs hdt he
  rw [str_size] at hr
  have hbel : Below w.heap.size w (Lib.bytesWorld w e ⟨A.toArray⟩) := ⟨rfl, rfl, rfl, by rw [Lib.bytesWorld_size]; omega, fun j hj => Lib.bytesWorld_at_old _ _ _ _ hj⟩
  have hB : ByV w.heap.size A (Lib.bytesWorld w e ⟨A.toArray⟩) := ⟨by rw [Lib.bytesWorld_size]; omega, fun j hj => by
    rw [Nat.zero_add, Lib.bytesWorld_cell _ _ _ _ (by rw [str_size]; exact hj)]
    simp [List.getD_eq_getElem?_getD, List.getElem?_eq_getElem hj]⟩
  exact sq_run F hw (v := .slice (some ⟨w.heap.size, 0, none⟩) A.length (grownCap w A.length 0 e)) (by simp only [execOp, ho, hx, strV, Sem.run_bind, hr, Result.andThen_ok, Sem.run_pure]) (M.addOwn hbel hB (ByV.loc _ _) (fun z hz => by simp only [List.mem_singleton] at hz; omega)) hd hdn (fun a' w' F' M' => h a' w' _ _ F' M')
theorem ld_byt (ho : o.op = .convert src dst x) (hx : a.eval x = .slice (some ⟨g, 0, none⟩) A.length c) (hs : P.underlying src = some (.slice e)) (he : P.underlying e = some (.int .u8)) (hd : P.underlying dst = some .string) (hr : ∀ w, C w → ByV g A w) : Rdy P o a C (strV A) := fun w hC => by
  have h := (hr w hC).2
  have hc := run_convert_bytes_back (P := P) w src dst e ⟨g, 0, none⟩ c A hs he hd (fun j hj => by rw [addr_add]; exact h j hj)
  simp only [execOp, ho, hx, Sem.run_bind, hc, Result.andThen_ok, Sem.run_pure, strV]
end
end Go.Proofs.Ytcobpabmmbcjcaa
