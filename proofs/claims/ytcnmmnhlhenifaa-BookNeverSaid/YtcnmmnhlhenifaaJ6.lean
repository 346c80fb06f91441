/- Put together: Bm, Bv, Pw, Bk, Bo. -/
import Derived.Test.YtcnmmnhlhenifaaJ5
import Derived.Test.YtcnmmnhlhenifaaWn
import Derived.Test.YtcnmmnhlhenifaaJ3
import Derived.Test.YtcnmmnhlhenifaaAn
namespace Go.Proofs.Ytcnmmnhlhenifaa
open Go.RowKit
set_option maxRecDepth 100000
set_option linter.unusedSimpArgs false
set_option linter.unusedVariables false
def heldB (C : List Ct) (p t : St) : Bool := C.any fun c => decide (0 < c.2) && (c.1.afterB p && (c.1.after p).leB t)
def overI (m k : Int) : Int := if 1000000000 < m + k then 9 else 0
def mayI (n : Int) (E : List Ed) (B : Bags) (x : En) : Int :=
  if rightN x = false ∨ n ≤ x.po.n then 2
  else if (x.kind = 3 ∨ x.kind = 4) ∧ ((E.length : Int) ≤ x.edge ∨ (atG E x.edge.toNat).t ≠ x.po.n) then 2
  else if x.kind = 5 then (if x.seq ≠ 0 ∨ x.po.n ≠ 0 then 8 else overI (ofC (atK B x.po.n.toNat) x.po.t) x.n)
  else if x.kind = 1 then (if heldB (atK B x.po.n.toNat) St.zero x.po.t = false then 8 else overI (ofC (atK B x.po.n.toNat) x.po.t) x.n)
  else if x.kind = 3 then (if heldB (atK B (atG E x.edge.toNat).f.toNat) (atG E x.edge.toNat).p x.po.t = false then 8 else 0)
  else if x.kind = 2 then (if ofC (atK B x.po.n.toNat) x.po.t < x.n then 9 else 0)
  else overI (ofC (atK B x.po.n.toNat) x.po.t) x.n
def signN (x : En) : Int := if x.kind = 2 then -x.n else x.n
def entB (n : Int) (E : List Ed) (B : Bags) (x : En) : Bags :=
  if mayI n E B x ≠ 0 ∨ x.kind = 3 then B else B.set x.po.n.toNat (addC (atK B x.po.n.toNat) x.po.t (signN x))
theorem pu_negW {P : Program} {o : Oper} {a : Act} {x : Operand} {t : TypeId} {i : Int} (ho : o.op = .unOp .neg t x) (hx : a.eval x = .int .i64 i) : Pure P o a (.int .i64 (IntKind.i64.wrap (-i))) := fun w => by
  simp only [execOp, ho, hx]; simp [go_sem]
def moveI (x : En) : Int := if x.kind = 1 ∨ x.kind = 3 ∨ x.kind = 5 then x.n else if x.kind = 2 then IntKind.i64.wrap (-x.n) else 0
section
variable {n : Int} {E : List Ed} {B : Bags} {x : En}
theorem may_right (h : mayI n E B x = 0) : rightN x = true ∧ x.po.n < n := by
  unfold mayI at h
  split at h
  · omega
  · rename_i z
    refine ⟨by cases hr : rightN x with | true => rfl | false => exact absurd (.inl hr) z, ?_⟩
    exact Int.not_le.1 fun h1 => z (.inr h1)
theorem ent_no (h : ¬ mayI n E B x = 0) : entB n E B x = B := if_pos (.inl h)
theorem ent_send (h : x.kind = 3) : entB n E B x = B := if_pos (.inr h)
theorem ent_yes (h : mayI n E B x = 0) (hk : ¬ x.kind = 3) : entB n E B x = B.set x.po.n.toNat (addC (atK B x.po.n.toNat) x.po.t (signN x)) := if_neg (fun z => z.elim (fun z => z h) hk)
theorem ent_len : (entB n E B x).length = B.length := by unfold entB; split <;> simp
end
def GoodE (n : Int) (E : List Ed) (x : En) : Prop := rightN x = true ∧ x.po.n < n ∧ ((x.kind = 3 ∨ x.kind = 4) → x.edge < (E.length : Int) ∧ (atG E x.edge.toNat).t = x.po.n)
section
variable {n : Int} {E : List Ed} {B : Bags} {x : En}
theorem may_bad1 (h : rightN x = false ∨ n ≤ x.po.n) : mayI n E B x = 2 := if_pos h
theorem may_bad2 (h : rightN x = true) (hk : x.kind = 3 ∨ x.kind = 4) (he : (E.length : Int) ≤ x.edge ∨ (atG E x.edge.toNat).t ≠ x.po.n) : mayI n E B x = 2 := by
  unfold mayI
  split
  · rfl
  · rw [if_pos ⟨hk, he⟩]
theorem may_good (h : GoodE n E x) : mayI n E B x = if x.kind = 5 then (if x.seq ≠ 0 ∨ x.po.n ≠ 0 then 8 else overI (ofC (atK B x.po.n.toNat) x.po.t) x.n)
    else if x.kind = 1 then (if heldB (atK B x.po.n.toNat) St.zero x.po.t = false then 8 else overI (ofC (atK B x.po.n.toNat) x.po.t) x.n)
    else if x.kind = 3 then (if heldB (atK B (atG E x.edge.toNat).f.toNat) (atG E x.edge.toNat).p x.po.t = false then 8 else 0)
    else if x.kind = 2 then (if ofC (atK B x.po.n.toNat) x.po.t < x.n then 9 else 0)
    else overI (ofC (atK B x.po.n.toNat) x.po.t) x.n := by
  obtain ⟨h1, h2, h3⟩ := h
  unfold mayI
  rw [if_neg (by rw [h1]; simp; omega), if_neg]
  rintro ⟨hk, he⟩
  have := h3 hk
  rcases he with he | he
  · omega
  · exact he this.2
theorem may_feed8 (h : GoodE n E x) (hk : x.kind = 5) (hx : x.seq ≠ 0 ∨ x.po.n ≠ 0) : mayI n E B x = 8 := by rw [may_good h, if_pos hk, if_pos hx]
theorem may_feed (h : GoodE n E x) (hk : x.kind = 5) (h1 : x.seq = 0) (h2 : x.po.n = 0) : mayI n E B x = overI (ofC (atK B x.po.n.toNat) x.po.t) x.n := by rw [may_good h, if_pos hk, if_neg (by omega)]
theorem may_hold (h : GoodE n E x) (hk : x.kind = 1) : mayI n E B x = if heldB (atK B x.po.n.toNat) St.zero x.po.t = false then 8 else overI (ofC (atK B x.po.n.toNat) x.po.t) x.n := by rw [may_good h, if_neg (by omega), if_pos hk]
theorem may_send (h : GoodE n E x) (hk : x.kind = 3) : mayI n E B x = if heldB (atK B (atG E x.edge.toNat).f.toNat) (atG E x.edge.toNat).p x.po.t = false then 8 else 0 := by rw [may_good h, if_neg (by omega), if_neg (by omega), if_pos hk]
theorem may_drop (h : GoodE n E x) (hk : x.kind = 2) : mayI n E B x = if ofC (atK B x.po.n.toNat) x.po.t < x.n then 9 else 0 := by rw [may_good h, if_neg (by omega), if_neg (by omega), if_neg (by omega), if_pos hk]
theorem may_take (h : GoodE n E x) (h1 : x.kind ≠ 1) (h2 : x.kind ≠ 2) (h3 : x.kind ≠ 3) (h5 : x.kind ≠ 5) : mayI n E B x = overI (ofC (atK B x.po.n.toNat) x.po.t) x.n := by rw [may_good h, if_neg h5, if_neg h1, if_neg h3, if_neg h2]
theorem over_t {m k : Int} (h : 1000000000 < m + k) : overI m k = 9 := if_pos h
theorem over_f {m k : Int} (h : ¬ 1000000000 < m + k) : overI m k = 0 := if_neg h
theorem over_zero {m k : Int} (h : overI m k = 0) : m + k ≤ 1000000000 := by unfold overI at h; split at h <;> omega
theorem may_ok (h : mayI n E B x = 0) : GoodE n E x ∧ (x.kind = 5 → x.seq = 0 ∧ x.po.n = 0) ∧ (x.kind = 1 → heldB (atK B x.po.n.toNat) St.zero x.po.t = true) ∧ (x.kind = 3 → heldB (atK B (atG E x.edge.toNat).f.toNat) (atG E x.edge.toNat).p x.po.t = true) ∧ (x.kind = 2 → x.n ≤ ofC (atK B x.po.n.toNat) x.po.t) ∧ (x.kind ≠ 2 → x.kind ≠ 3 → ofC (atK B x.po.n.toNat) x.po.t + x.n ≤ 1000000000) := by
  have hG : GoodE n E x := by
    unfold mayI at h
    split at h
    · omega
    · rename_i h1
      split at h
      · omega
      · rename_i h2
        refine ⟨by cases hr : rightN x with | true => rfl | false => exact absurd (.inl hr) h1, by omega, fun hk => ?_⟩
        by_cases he : (E.length : Int) ≤ x.edge
        · exact absurd ⟨hk, .inl he⟩ h2
        · refine ⟨by omega, ?_⟩
          by_cases ht : (atG E x.edge.toNat).t = x.po.n
          · exact ht
          · exact absurd ⟨hk, .inr ht⟩ h2
  rw [may_good hG] at h
  refine ⟨hG, fun hk => ?_, fun hk => ?_, fun hk => ?_, fun hk => ?_, fun h2 h3 => ?_⟩
  · rw [if_pos hk] at h; split at h <;> omega
  · rw [if_neg (by omega), if_pos hk] at h
    split at h
    · omega
    · rename_i z; exact (Bool.not_eq_false _).mp z
  · rw [if_neg (by omega), if_neg (by omega), if_pos hk] at h
    split at h
    · omega
    · rename_i z; exact (Bool.not_eq_false _).mp z
  · rw [if_neg (by omega), if_neg (by omega), if_neg (by omega), if_pos hk] at h
    split at h <;> omega
  · rw [if_neg h3, if_neg h2] at h
    split at h
    · split at h
      · omega
      · exact over_zero h
    · split at h
      · split at h
        · omega
        · exact over_zero h
      · exact over_zero h
theorem sign_ok (hk : ∀ i, i < B.length → BagOK (atK B i)) (hl : (B.length : Int) = n) (h : mayI n E B x = 0) (h3 : x.kind ≠ 3) : x.po.n.toNat < B.length ∧ addE (atK B x.po.n.toNat) x.po.t (signN x) = 0 ∧ ofC (atK B x.po.n.toNat) x.po.t + signN x = ofC (atK B x.po.n.toNat) x.po.t + (if x.kind = 2 then -x.n else x.n) := by
  obtain ⟨hG, _, _, _, hd, ho⟩ := may_ok h
  have hr := rightN_iff.1 hG.1
  have hi : x.po.n.toNat < B.length := by have := hG.2.1; omega
  have hb := (hk _ hi).bound x.po.t
  refine ⟨hi, ?_, rfl⟩
  unfold signN
  split
  · rename_i h2
    have := hd h2
    exact addE_ok hr.2.2.2.1 (by omega)
  · rename_i h2
    have := ho h2 h3
    exact addE_ok hr.2.2.2.1 (by omega)
end
end Go.Proofs.Ytcnmmnhlhenifaa
namespace Go.Proofs.Ytcnmmnhlhenifaa
open Go.RowKit Go.MapKept
set_option maxRecDepth 100000
set_option linter.unusedSimpArgs false
set_option linter.unusedVariables false
theorem keyOK_plain {P : Program} {k : TypeId} {d : TypeDesc} (hk : P.underlying k = some d) : KeyOK P k (fun v => IsKey d v) :=
  ⟨fun w em _ h => run_checkKey hk h em 9999, fun w x hx es hes => by
    rcases findNow_spec hx es 0 hes with ⟨h1, h2⟩ | ⟨j, e0, h1, h2, h3⟩
    · exact .inl ⟨run_findKey hk h1, h2⟩
    · exact .inr ⟨j, e0, by simpa using run_findKey hk h1, h2, h3⟩, fun w _ h => run_keyThatStays h⟩
def idV (v : Value) : Value := v
theorem mtCond : MapEn Try.prog 62 3 72 iV idV .nilFunc :=
  ⟨Try.underlying62, ⟨_, keyOK_plain Try.underlying3, fun a => (rfl : IntKind.i64 = IntKind.i64)⟩, fun a b h => by unfold iV at h; injection h, fun w => by kernel_rfl⟩
section
variable {P : Program} {ops rest : List Oper} {o : Oper} {a : Act} {n d : Nat} {L : List (Nat × Value)} {Q : Exit → Act → World → Prop} {R : List Nat} {w w0 : World} {B : List Ent} {zv v : Value} {x y z : Operand} {t k e : TypeId} {i g : Nat} {κ ν : Type} [DecidableEq κ] {ek : κ → Value} {ev : ν → Value} {D D' : List (κ × ν)} {kx : κ} {vx : ν} {C : World → Prop}
theorem sq_insert (E : MapEn P t k e ek ev zv) (F : Fr a n L) (M : Mm R w0 w B) (hw : Region.wanted o (yielded ops.toArray a.tmps) = true) (ho : o.op = .insert t x y z) (hx : a.eval x = .map (some g)) (hy : a.eval y = ek kx) (hz : a.eval z = ev vx)
    (hi : B[i]? = some (.own [g] (MpV g (encM ek ev D)))) (hC : ((kx, vx) :: delM D kx).Perm D') (hd : o.dst = none)
    (h : ∀ w', Mm R w0 w' (B.set i (.own [g] (MpV g (encM ek ev D')))) → wpList P ops.toArray Q rest a w') : wpList P ops.toArray Q (o :: rest) a w := by
  obtain ⟨K, hK, hk⟩ := E.keys
  obtain ⟨w', hr, h1, h2⟩ := update_run hK hk E.inj E.ty (M.pv hi) hC
  exact sq_run0 F hw (v := undef) (.inr (by simp only [execOp, ho, hx, hy, hz]; simp [hr])) (M.swap hi (x' := .own [g] (MpV g (encM ek ev D'))) h1 ⟨h2, MpV.loc _ _⟩ (fun g hg => .inl hg) (fun g hg => by cases hg)) hd h
end
section
variable {P : Program} {ops rest : List Oper} {o : Oper} {a : Act} {n d : Nat} {L : List (Nat × Value)} {Q : Act → Prop} {C : World → Prop} {v : Value} {x : Operand}
theorem qt_callV (F : Fr a n L) (hw : Region.wanted o (yielded ops.toArray a.tmps) = true) {xs : List Operand} {ts : Array TypeId} {args : List Value} {f : Nat} {lb : Array Value} (ho : o.op = .call { callee := .value x, args := xs.toArray, argTypes := ts })
    (hx : a.eval x = .func (.func f) #[] lb) (he : enters P f = true) (ha : xs.map a.eval = args) (hc : ∀ w, C w → Calls P f (args.toArray ++ lb) w fun e w' => e = .returned v ∧ C w') (hd : o.dst = some d) (hdn : Nat.blt d n = true)
    (h : ∀ a', Fr a' n ((d, v) :: L) → wpQuiet P ops.toArray C Q rest a') : wpQuiet P ops.toArray C Q (o :: rest) a :=
  wpQuiet_step fun K hK => by
    rw [if_pos hw]
    refine ⟨v, fun w hC => ?_, hK _ (by rw [hd]; exact h _ (F.put hdn))⟩
    unfold Oper.quietAt
    rw [run_callV ho hx ha w, callFunc_enters he]
    exact ⟨rfl, hc w hC⟩
def nilS : Value → Bool
  | .slice none _ _ => true
  | _ => false
theorem eqlSN_in (w : World) (d : Nat) {t e : TypeId} (A : Option Addr) (n c : Nat) (h : P.underlying t = some (.slice e)) : (Op.equalIn (d + 1) t (.slice A n c) (.slice none 0 0)).run P w = .ok A.isNone w := by
  cases A <;> simp [Op.equalIn, run_underlying h]
theorem eqlSN_run (w : World) {t e : TypeId} (A : Option Addr) (n c : Nat) (h : P.underlying t = some (.slice e)) : (binOp .eql t (.slice A n c) (.slice none 0 0)).run P w = .ok (.bool A.isNone) w := by
  simp only [binOp]
  simp [Op.equal, Op.maxDepth, eqlSN_in w 9999 A n c h]
theorem pu_eqlSN {w : World} {m n : Nat} {xs : List Value} {u : Value} {y : Operand} {t t' e : TypeId} (ho : o.op = .binOp .eql t x y t') (hx : a.eval x = u) (hv : RdV w m u n xs) (hy : a.eval y = .slice none 0 0) (ht : P.underlying t = some (.slice e)) : Pure P o a (.bool (nilS u)) := fun w' => by
  obtain ⟨_, A, c, rfl, _, _, _⟩ := hv
  simp only [execOp, ho, hx, hy]
  cases A <;> simp [go_sem, ht, eqlSN_run w' _ _ _ ht, nilS]
theorem nil_len {w : World} {m n : Nat} {xs : List Value} {u : Value} (hv : RdV w m u n xs) (h : nilS u = true) : n = 0 := by
  obtain ⟨_, A, c, rfl, _, _, h3⟩ := hv
  rcases Nat.eq_zero_or_pos n with h0 | h0
  · exact h0
  · obtain ⟨g, off, rfl, _, _⟩ := h3 h0
    cases h
end
structure Cd where
  gm : Nat
  be : Nat
  bh : Nat
  ba : Nat
  br : Nat
def cdL (c : Cd) : List (Int × Value) :=
  [(2, .func (.func 38) #[] #[.pointer (some ⟨c.bh, 0, none⟩)]), (4, .func (.func 37) #[] #[.pointer (some ⟨c.ba, 0, none⟩), .pointer (some ⟨c.br, 0, none⟩)]),
   (3, .func (.func 36) #[] #[.pointer (some ⟨c.ba, 0, none⟩), .pointer (some ⟨c.be, 0, none⟩), .pointer (some ⟨c.bh, 0, none⟩)]), (1, .func (.func 34) #[] #[.pointer (some ⟨c.bh, 0, none⟩), .pointer (some ⟨c.br, 0, none⟩)]),
   (5, .func (.func 33) #[] #[.pointer (some ⟨c.br, 0, none⟩)])]
def cdEnts (c : Cd) (v : Value) (K : List (Nat × Nat)) : List Ent :=
  [.own [c.gm] (MpV c.gm (encM iV idV (cdL c))), .blk c.be 33 #[v], .blk c.bh 56 (arr8 K).toArray, .blk c.ba 32 #[.func (.func 30) #[] #[.pointer (some ⟨c.be, 0, none⟩)]], .blk c.br 41 #[.func (.func 31) #[] #[.pointer (some ⟨c.bh, 0, none⟩)]]]
theorem cdEnts_base (c : Cd) (v : Value) (K : List (Nat × Nat)) : ∀ x ∈ cdEnts c v K, x.base = [] := fun x hx => by
  simp only [cdEnts, List.mem_cons, List.not_mem_nil, or_false] at hx
  rcases hx with rfl | rfl | rfl | rfl | rfl <;> rfl
def bkCells (n : Int) (K : List (Nat × Nat)) (c : Cd) : Array Value := #[.int .i64 n, .pointer (pad K 0), .pointer (pad K 1), .pointer (pad K 2), .pointer (pad K 3), .pointer (pad K 4), .pointer (pad K 5), .pointer (pad K 6), .pointer (pad K 7), .map (some c.gm)]
def bkEnts (r : Nat) (n : Int) (E : List Ed) (K : List (Nat × Nat)) (B : Bags) (c : Cd) (v : Value) : List Ent :=
  [.blk r 65 (bkCells n K c), .own (fpK K) (BgsV K B), .own (fpE (cdEnts c v K)) (PkV (cdEnts c v K)), .row 61 4 v E.length (cG E)]
theorem bkEnts_base (r : Nat) (n : Int) (E : List Ed) (K : List (Nat × Nat)) (B : Bags) (c : Cd) (v : Value) : ∀ x ∈ bkEnts r n E K B c v, x.base = [] := fun x hx => by
  simp only [bkEnts, List.mem_cons, List.not_mem_nil, or_false] at hx
  rcases hx with rfl | rfl | rfl | rfl <;> rfl
structure BkS (n : Int) (E : List Ed) (B : Bags) : Prop where
  len : (B.length : Int) = n
  n1 : 1 ≤ n
  n8 : n ≤ 8
  fits : ∀ i : Nat, i < E.length → 0 ≤ (atG E i).f ∧ (atG E i).f < n
  edges : E.length ≤ 20000000
def BokV (r : Nat) (fp : List Nat) (n : Int) (E : List Ed) (B : Bags) (w : World) : Prop :=
  ∃ K c v, fp = fpE (bkEnts r n E K B c v) ∧ PkV (bkEnts r n E K B c v) w ∧ BkS n E B
theorem BokV.loc (r : Nat) (fp : List Nat) (n : Int) (E : List Ed) (B : Bags) : Loc fp (BokV r fp n E B) := fun w w' hk ⟨K, c, v, e, h, hs⟩ => by
  subst e
  have z := PkV.loc _ w w' hk h
  exact ⟨⟨K, c, v, rfl, z.1, hs⟩, z.2⟩
theorem Mm.bokTurns {w0 w : World} {r : Nat} {n : Int} {E : List Ed} {K : List (Nat × Nat)} {B B' : Bags} {c : Cd} {v : Value} {fp : List Nat} {u : Value} {Z : Value → Ent → Prop} (M : Mm fp w0 w (bkEnts r n E K B' c v)) (e : fp = fpE (bkEnts r n E K B c v)) (hs : BkS n E B') (hz : Z u (.own fp (BokV r fp n E B'))) :
    TurnsE w0 (.own fp (BokV r fp n E B)) Z (.returned u) w := by
  have e' : fp = fpE (bkEnts r n E K B' c v) := e
  have hb := bkEnts_base r n E K B' c v
  have hv : BokV r fp n E B' w := ⟨K, c, v, e', M.pkv hb, hs⟩
  exact M.pkTurns rfl hb (Ψ := BokV r fp n E B') hv (e' ▸ BokV.loc r fp n E B') (e' ▸ hz)
theorem Mm.bokMakes {w0 w : World} {r : Nat} {n : Int} {E : List Ed} {K : List (Nat × Nat)} {B : Bags} {c : Cd} {v : Value} {u : Value} {Z : Value → Ent → Prop} (M : Mm [] w0 w (bkEnts r n E K B c v)) (hs : BkS n E B) (hz : ∀ fp, Z u (.own fp (BokV r fp n E B))) : MakesE w0 Z (.returned u) w :=
  M.pkMakes (Ψ := BokV r (fpE (bkEnts r n E K B c v)) n E B) ⟨K, c, v, rfl, M.pkv (bkEnts_base _ _ _ _ _ _ _), hs⟩ (BokV.loc _ _ _ _ _) (hz _)
theorem le_after {s c p t : St} (hs : s.rightB = true) (hl : s.leB c = true) (ha : c.afterB p = true) (h : (c.after p).leB t = true) : s.afterB p = true ∧ (s.after p).leB t = true := by
  have h1 := after_t ha
  have h2 := right_t hs
  have h3 := le_t hl
  have h4 := le_t h
  have h5 : s.afterB p = true := by
    unfold St.afterB
    rw [Bool.and_eq_true, Bool.and_eq_true]
    have hp : p.rightB = true := St.right_iff.2 (by omega)
    refine ⟨⟨hs, hp⟩, St.right_iff.2 ?_⟩
    have e := after_yes ha
    rw [e] at h1 h4
    simp only [St.add] at h1 ⊢
    omega
  refine ⟨h5, St.le_iff.2 ?_⟩
  rw [after_yes h5]
  rw [after_yes ha] at h4
  simp only [St.add] at h4 ⊢
  omega
section
variable {C : List Ct} {p t : St}
theorem lead_at {i : Nat} (hi : i < (minL (posL C)).length) (h1 : (atS (minL (posL C)) i).afterB p = true) (h2 : ((atS (minL (posL C)) i).after p).leB t = true) : heldB C p t = true := by
  obtain ⟨c, hc, h0, e⟩ := mem_posL.1 (mem_minL.1 (atS_mem hi)).1
  refine List.any_eq_true.2 ⟨c, hc, ?_⟩
  rw [e, h1, h2]
  simpa using h0
theorem lead_none {i : Int} (hk : BagOK C) (hall : ∀ k, k < i.toNat → ¬ ((atS (minL (posL C)) k).afterB p = true ∧ ((atS (minL (posL C)) k).after p).leB t = true)) (hi : ¬ i < ((minL (posL C)).length : Int)) : heldB C p t = false := by
  cases h : heldB C p t with
  | false => rfl
  | true =>
    obtain ⟨c, hc, h1⟩ := List.any_eq_true.1 h
    simp only [Bool.and_eq_true, decide_eq_true_eq] at h1
    have hcov : covB (minL (posL C)) c.1 = true := by
      rw [min_cov]
      exact List.any_eq_true.2 ⟨c.1, mem_posL.2 ⟨c, hc, h1.1, rfl⟩, St.le_refl _⟩
    obtain ⟨s, hs, hsl⟩ := List.any_eq_true.1 hcov
    obtain ⟨d, hd, _, e⟩ := mem_posL.1 (mem_minL.1 hs).1
    have hsr : s.rightB = true := by rw [← e]; exact (hk.ok d hd).2.2.2
    obtain ⟨j, hj, rfl⟩ := at_of_mem hs
    exact absurd (le_after hsr hsl h1.2.1 h1.2.2) (hall j (by omega))
end
def arrB (E : List Ed) (x : En) : Bool := decide (x.edge < (E.length : Int)) && decide ((atG E x.edge.toNat).t = x.po.n)
theorem arr_yes {E : List Ed} {x : En} (h : arrB E x = true) : x.edge < (E.length : Int) ∧ (atG E x.edge.toNat).t = x.po.n := by
  unfold arrB at h
  rw [Bool.and_eq_true, decide_eq_true_iff, decide_eq_true_iff] at h; exact h
theorem arr_no {E : List Ed} {x : En} (h : arrB E x = false) : (E.length : Int) ≤ x.edge ∨ (atG E x.edge.toNat).t ≠ x.po.n := by
  unfold arrB at h
  by_cases h1 : x.edge < (E.length : Int)
  · right; intro e; rw [decide_eq_true h1, decide_eq_true e] at h; cases h
  · left; omega
theorem bk_right (x : En) : decide (entryE x = 0) = rightN x := by
  unfold entryE
  cases rightN x <;> rfl
end Go.Proofs.Ytcnmmnhlhenifaa
namespace Go.Proofs.Ytcnmmnhlhenifaa
open Go.RowKit
set_option maxRecDepth 100000
set_option linter.unusedSimpArgs false
set_option linter.unusedVariables false
set_option maxHeartbeats 1000000 in
theorem path_right_any (p : St) (w : World) :
    Calls Try.prog 27 #[.agg #[.int .i64 p.e, .int .i64 p.r]] w (fun e w' => e = .returned ((.bool p.rightB)) ∧ Below w.heap.size w w') := by
  refine enterF Try.func27 rfl 5 Try.ntmps27 [.agg #[.int .i64 p.e, .int .i64 p.r]] rfl [(0, .agg #[.int .i64 p.e, .int .i64 p.r])] rfl ?_; intro φ F; have M := Mm.start [] w; refine wp_seq ?_; refine wp_region_lit ?_; refine sq_box F M (wt0 rfl) rfl (F.ev rfl) (cs := #[.int .i64 p.e, .int .i64 p.r]) rfl rfl rfl ?_; clear F M; intro φ ω g1 F M; revert φ; refine asG ?_; refine nxG ?_; refine srG ?_; refine rdG (fun _ F => ld_agg rfl (F.ev rfl) agg59 (M.rd (i := 0) rfl) rfl) ?_; intro φ F; refine sq_call F M (wt0 rfl) rfl en39 (evc (F.ev rfl) evn) (right_any p _) rfl rfl ?_; clear F M; intro φ ω F M; revert φ; refine asG ?_; intro φ F; refine nx ?_; refine wp_ret ?_; refine rt_tmp F rfl rfl ?_; exact ⟨rfl, M.bel⟩
end Go.Proofs.Ytcnmmnhlhenifaa
namespace Go.Proofs.Ytcnmmnhlhenifaa
open Go.RowKit
set_option maxRecDepth 100000
set_option linter.unusedSimpArgs false
set_option linter.unusedVariables false
end Go.Proofs.Ytcnmmnhlhenifaa
namespace Go.Proofs.Ytcnmmnhlhenifaa
open Go.RowKit
set_option maxRecDepth 100000
set_option linter.unusedSimpArgs false
set_option linter.unusedVariables false
theorem fits_f {n : Int} {E : List Ed} (h : (checkG n E).1 = 0) : ∀ i : Nat, i < E.length → 0 ≤ (atG E i).f ∧ (atG E i).f < n := fun i hi => by
  have := fit_t (check_ok h).2.2.2.1 (atG_mem (i := i) hi)
  omega
theorem holds_len {B : Bags} {m : Nat} {k : Int} (h : SmB B m) : (atT B k).length ≤ m := by
  unfold atT; split
  · exact h _
  · simp
theorem smB_lit {B : Bags} {m : Nat} (h : ∀ C ∈ B, C.length ≤ m) : SmB B m := fun i => by
  rcases Nat.lt_or_ge i B.length with hi | hi
  · rw [atK_eq hi]; exact h _ (List.getElem_mem hi)
  · rw [atK_out hi]; simp
section
variable {n : Int} {E : List Ed} {B : Bags} {x : En} {m : Nat}
theorem smB_ent (h : SmB B m) (x : En) : SmB (entB n E B x) (m + 1) := fun i => by
  unfold entB
  split
  · have := h i; omega
  · by_cases hb : x.po.n.toNat < B.length
    · rw [atK_set hb]
      split
      · have := addC_len (atK B x.po.n.toNat) x.po.t (signN x); have := h x.po.n.toNat; omega
      · have := h i; omega
    · rw [List.set_eq_of_length_le (by omega)]; have := h i; omega
theorem ok_ent (h : OKs B) (x : En) : OKs (entB n E B x) := fun i hi => by
  rw [ent_len] at hi
  unfold entB
  split
  · exact h i hi
  · by_cases hb : x.po.n.toNat < B.length
    · rw [atK_set hb]
      split
      · rename_i e; subst e; exact (h _ hb).add _ _
      · exact h i hi
    · rw [List.set_eq_of_length_le (by omega)]; exact h i hi
def PosB (B : Bags) : Prop := ∀ i, i < B.length → ∀ c ∈ atK B i, 0 < c.2
theorem posB_new (n : Nat) : PosB (List.replicate n []) := fun i hi c hc => by
  rw [atK_eq hi, List.getElem_replicate] at hc; cases hc
theorem pos_of {C : List Ct} (h : ∀ c ∈ C, 0 < c.2) (t : St) : 0 ≤ ofC C t := by
  by_cases h0 : ofC C t = 0
  · omega
  · have := h _ (of_pos h0); simp only at this; omega
theorem pos_ent (hk : OKs B) (hl : (B.length : Int) = n) (hp : PosB B) : PosB (entB n E B x) := fun i hi c hc => by
  rw [ent_len] at hi
  by_cases h0 : mayI n E B x = 0
  · by_cases h3 : x.kind = 3
    · rw [ent_send h3] at hc; exact hp i hi c hc
    · obtain ⟨hb, ha, _⟩ := sign_ok (E := E) hk hl h0 h3
      obtain ⟨hG, _, _, _, hd, _⟩ := may_ok h0
      have hr := rightN_iff.1 hG.1
      have hok := ok_ent (n := n) (E := E) hk x i (by rw [ent_len]; exact hi)
      have h1 := hok.mem.1 hc
      rw [ent_yes h0 h3, atK_set hb] at hc h1
      split at hc
      · rename_i e
        subst e
        rw [if_pos rfl, of_add (hk _ hb).asc] at h1
        have h2 := pos_of (hp _ hb) x.po.t
        have h4 := pos_of (hp _ hb) c.1
        have h5 : 0 ≤ ofC (atK B x.po.n.toNat) x.po.t + signN x := by
          unfold signN
          split
          · rename_i hk2; have := hd hk2; omega
          · omega
        split at h1 <;> omega
      · exact hp i hi c hc
  · rw [ent_no h0] at hc; exact hp i hi c hc
def exH (L : List (List (List St))) (B : Bags) (p : Po) (i j : Nat) : Prop := (∃ m, m < i ∧ ∃ c ∈ atK B m, couldC L ⟨(m : Int), c.1⟩ p = true) ∨ ∃ c ∈ (atK B i).take j, couldC L ⟨(i : Int), c.1⟩ p = true
end
section
variable {L : List (List (List St))} {B : Bags} {p : Po}
end
def totC (C : List Ct) : Int := (C.map (·.2)).sum
def totB (B : Bags) : Int := (B.map totC).sum
theorem tot_cons (p : Ct) (C : List Ct) : totC (p :: C) = p.2 + totC C := by simp [totC]
theorem tot_setC {C : List Ct} (h : AscC C) (t : St) (v : Int) : totC (setC C t v) = totC C - ofC C t + v := by
  induction C with
  | nil =>
    unfold setC
    split
    · rename_i h0; rw [h0]; simp [totC, of_nil]
    · simp [totC, of_nil]
  | cons p r ih =>
    obtain ⟨h1, h2⟩ := List.pairwise_cons.1 h
    unfold setC
    split
    · rename_i hp
      have hne : p.1 ≠ t := fun e => by rw [e, ahead_irr] at hp; cases hp
      have ho : ofC (p :: r) t = ofC r t := by unfold ofC getM; simp [hne]
      rw [tot_cons, tot_cons, ih h2, ho]; omega
    · rename_i hp
      split
      · rename_i hpt
        have ho : ofC (p :: r) t = p.2 := by rw [← hpt]; exact of_mem h.nodup (by simp)
        split
        · rename_i h0; rw [tot_cons, ho, h0]; omega
        · rw [tot_cons, tot_cons, ho]; simp only; omega
      · rename_i hpt
        have ho : ofC (p :: r) t = 0 := of_not fun q hq e => by
          rcases List.mem_cons.1 hq with h5 | h5
          · exact hpt (h5 ▸ e)
          · have := h1 q h5; rw [e] at this; exact hp this
        split
        · rename_i h0; rw [ho, h0]; omega
        · rw [tot_cons, ho]; simp only; omega
theorem tot_add {C : List Ct} (h : AscC C) {t : St} {v : Int} (h0 : addE C t v = 0) : totC (addC C t v) = totC C + v := by
  rw [addC_yes h0, tot_setC h]; omega
theorem totB_set {B : Bags} {i : Nat} (hi : i < B.length) (C : List Ct) : totB (B.set i C) = totB B - totC (atK B i) + totC C := by
  induction B generalizing i with
  | nil => simp at hi
  | cons a r ih =>
    cases i with
    | zero => simp [totB, atK]; omega
    | succ i =>
      have := ih (i := i) (by simpa using hi)
      simp only [totB, List.set_cons_succ, List.map_cons, List.sum_cons, atK, List.getD_cons_succ] at this ⊢
      omega
theorem totB_new (n : Nat) : totB (List.replicate n []) = 0 := by
  induction n with
  | zero => rfl
  | succ n ih => rw [List.replicate_succ]; first | (simp [totB, totC]; done) | simpa [totB, totC] using ih
section
variable {n : Int} {E : List Ed} {B : Bags} {x : En}
theorem totB_ent (hk : OKs B) (hl : (B.length : Int) = n) (h : mayI n E B x = 0) : totB (entB n E B x) = totB B + (if x.kind = 3 then 0 else signN x) := by
  by_cases h3 : x.kind = 3
  · rw [ent_send h3, if_pos h3]; omega
  · obtain ⟨hb, ha, _⟩ := sign_ok (E := E) hk hl h h3
    rw [ent_yes h h3, if_neg h3, totB_set hb, tot_add (hk _ hb).asc ha]; omega
theorem totB_put (hk : OKs B) (hl : (B.length : Int) = n) (h : mayI n E B x = 0) (h3 : x.kind ≠ 3) (h2 : x.kind ≠ 2) : totB (entB n E B x) = totB B + x.n := by
  rw [totB_ent hk hl h, if_neg h3, show signN x = x.n from if_neg h2]
theorem totB_off (hk : OKs B) (hl : (B.length : Int) = n) (h : mayI n E B x = 0) (h2 : x.kind = 2) : totB (entB n E B x) = totB B - x.n := by
  rw [totB_ent hk hl h, if_neg (by omega), show signN x = -x.n from if_pos h2]; omega
theorem totB_same (h3 : x.kind = 3 ∨ ¬ mayI n E B x = 0) : totB (entB n E B x) = totB B := by
  rcases h3 with h3 | h3
  · rw [ent_send h3]
  · rw [ent_no h3]
theorem tot_nonneg {C : List Ct} (h : ∀ c ∈ C, 0 < c.2) : 0 ≤ totC C := by
  induction C with
  | nil => simp [totC]
  | cons p r ih =>
    rw [tot_cons]
    have := h p (by simp)
    have := ih fun c hc => h c (by simp [hc])
    omega
def leftB (B : Bags) (i j : Nat) : Int := totC ((atK B i).drop j) + totB (B.drop (i + 1))
theorem left_start : leftB B 0 0 = totB B := by
  unfold leftB
  cases B with
  | nil => simp [atK, totC, totB]
  | cons a r => simp [atK, totB]
theorem left_step {i j : Nat} (h : j < (atK B i).length) : leftB B i j = (atC (atK B i) j).2 + leftB B i (j + 1) := by
  unfold leftB
  rw [List.drop_eq_getElem_cons h, tot_cons, show (atK B i)[j] = atC (atK B i) j from (atE_eq (E := encC) h).symm]
  omega
theorem left_next {i j : Nat} (h : (atK B i).length ≤ j) : leftB B i j = leftB B (i + 1) 0 := by
  unfold leftB
  rw [List.drop_of_length_le h, List.drop_zero]
  by_cases hi : i + 1 < B.length
  · rw [List.drop_eq_getElem_cons hi, show B[i + 1] = atK B (i + 1) from (atK_eq hi).symm]; simp [totB, totC]
  · rw [show B.drop (i + 1) = [] from List.drop_of_length_le (by omega), show B.drop (i + 1 + 1) = [] from List.drop_of_length_le (by omega), atK_out (by omega)]
theorem left_end {i : Nat} (h : B.length ≤ i) : leftB B i 0 = 0 := by
  unfold leftB
  rw [atK_out h, show B.drop (i + 1) = [] from List.drop_of_length_le (by omega)]; simp [totB, totC]
theorem totB_nonneg (hp : PosB B) : ∀ i, 0 ≤ totB (B.drop i) := fun i => by
  have : ∀ l : List (List Ct), (∀ C ∈ l, ∀ c ∈ C, 0 < c.2) → 0 ≤ totB l := by
    intro l
    induction l with
    | nil => intro _; simp [totB]
    | cons a r ih =>
      intro h
      have h1 := tot_nonneg (h a (by simp))
      have h2 := ih fun C hC => h C (by simp [hC])
      simp only [totB, List.map_cons, List.sum_cons] at h2 ⊢; omega
  refine this _ fun C hC c hc => ?_
  obtain ⟨j, hj, rfl⟩ := List.mem_iff_getElem.1 (List.mem_of_mem_drop hC)
  exact hp j hj c (by rw [atK_eq hj]; exact hc)
theorem left_nonneg (hp : PosB B) (i j : Nat) : 0 ≤ leftB B i j := by
  unfold leftB
  have h1 := totB_nonneg hp (i + 1)
  have h2 : 0 ≤ totC ((atK B i).drop j) := tot_nonneg fun c hc => by
    rcases Nat.lt_or_ge i B.length with hi | hi
    · exact hp i hi c (List.mem_of_mem_drop hc)
    · rw [atK_out hi] at hc; simp at hc
  omega
theorem at_ent_other {k : Int} (h : ¬ mayI n E B x = 0 ∨ x.kind = 3) : atT (entB n E B x) k = atT B k := by
  rcases h with h | h
  · rw [ent_no h]
  · rw [ent_send h]
theorem at_ent_new (hk : OKs B) (hl : (B.length : Int) = n) (h : mayI n E B x = 0) (h3 : ¬ x.kind = 3) : ¬ atT B x.po.n = atT (entB n E B x) x.po.n := fun e => by
  obtain ⟨hb, ha, _⟩ := sign_ok (E := E) hk hl h h3
  obtain ⟨hG, _, _, _, hd, _⟩ := may_ok h
  have hr := rightN_iff.1 hG.1
  rw [at_yes (by omega), at_yes (by rw [ent_len]; omega), ent_yes h h3, atK_set hb, if_pos rfl] at e
  have h1 := of_add (hk _ hb).asc x.po.t (signN x) x.po.t
  rw [if_pos ⟨rfl, ha⟩, ← e] at h1
  unfold signN at h1
  split at h1 <;> omega
theorem never_may {m : Nat} : (x.kind = 1 ∨ x.kind = 3 → mayI n E (List.replicate m []) x = 8 ∨ mayI n E (List.replicate m []) x = 2) ∧ (x.kind = 2 → mayI n E (List.replicate m []) x = 9 ∨ mayI n E (List.replicate m []) x = 2) ∧ (x.kind = 4 → mayI n E (List.replicate m []) x = 0 ∨ mayI n E (List.replicate m []) x = 2) := by
  have hz : ∀ i, atK (List.replicate m ([] : List Ct)) i = [] := fun i => by
    unfold atK; rw [List.getD_eq_getElem?_getD, List.getElem?_replicate]; split <;> rfl
  by_cases hG : GoodE n E x
  · have hr := rightN_iff.1 hG.1
    refine ⟨fun h => ?_, fun h => ?_, fun h => ?_⟩
    · rcases h with h | h
      · rw [may_hold hG h, hz]; exact .inl rfl
      · rw [may_send hG h, hz]; exact .inl rfl
    · rw [may_drop hG h, hz, of_nil, if_pos (by omega)]; exact .inl rfl
    · rw [may_take hG (by omega) (by omega) (by omega) (by omega), hz, of_nil, over_f (by omega)]; exact .inl rfl
  · have : mayI n E (List.replicate m []) x = 2 := by
      by_cases h1 : rightN x = false ∨ n ≤ x.po.n
      · exact may_bad1 h1
      · have hr : rightN x = true := by cases h : rightN x with | true => rfl | false => exact absurd (.inl h) h1
        by_cases h2 : (x.kind = 3 ∨ x.kind = 4) ∧ ((E.length : Int) ≤ x.edge ∨ (atG E x.edge.toNat).t ≠ x.po.n)
        · exact may_bad2 hr h2.1 h2.2
        · refine absurd ⟨hr, by omega, fun hk => ?_⟩ hG
          by_cases h3 : (E.length : Int) ≤ x.edge
          · exact absurd ⟨hk, .inl h3⟩ h2
          · refine ⟨by omega, ?_⟩
            by_cases h4 : (atG E x.edge.toNat).t = x.po.n
            · exact h4
            · exact absurd ⟨hk, .inr h4⟩ h2
    rw [this]; simp
end
section
variable {t : St} {x y : Int}
theorem one_of1 : ofC [(t, x)] t = x := of_mem (C := [(t, x)]) (by simp) (p := (t, x)) (by simp)
theorem one_set {v : Int} : setC [(t, x)] t v = if v = 0 then [] else [(t, v)] := by
  unfold setC; rw [if_neg (by rw [ahead_irr]; decide), if_pos rfl]
theorem fd_right (ht : t.rightB = true) {k nd : Int} (hk : 1 ≤ k ∧ k ≤ 5) (hn : 0 ≤ nd ∧ nd ≤ 1) (hy : 1 ≤ y ∧ y ≤ 1001) : rightN (En.mk 0 B32.zero k (Po.mk nd t) 0 0 y) = true := rightN_iff.2 (by
  simp only
  refine ⟨by omega, by omega, by omega, ht, by omega, by omega, by omega⟩)
theorem add_nil1 (ht : t.rightB = true) (hx : 1 ≤ x ∧ x ≤ 1000) : addC [] t x = [(t, x)] := by
  rw [addC_yes (addE_ok ht (by rw [of_nil]; omega)), of_nil, Int.zero_add]
  unfold setC; rw [if_neg (by omega)]
theorem add_off1 (ht : t.rightB = true) : addC [(t, x)] t (-x) = [] := by
  rw [addC_yes (addE_ok ht (by rw [one_of1]; omega)), one_of1, one_set, if_pos (by omega)]
theorem fd1 (ht : t.rightB = true) (hx : 1 ≤ x ∧ x ≤ 1000) (hy : 1 ≤ y ∧ y ≤ 1000) : mayI 2 [Ed.mk 0 1 (St.mk 0 1)] (List.replicate (2 : Int).toNat []) (En.mk 0 B32.zero 5 (Po.mk 0 t) 0 0 x) = 0 ∧ entB 2 [Ed.mk 0 1 (St.mk 0 1)] (List.replicate (2 : Int).toNat []) (En.mk 0 B32.zero 5 (Po.mk 0 t) 0 0 x) = [[(t, x)], []] := by
  have hG : GoodE 2 [Ed.mk 0 1 (St.mk 0 1)] (En.mk 0 B32.zero 5 (Po.mk 0 t) 0 0 x) := ⟨fd_right ht (by omega) (by omega) (by omega), by first | rfl | simp, fun hk => absurd hk (by simp)⟩
  have h0 : mayI 2 [Ed.mk 0 1 (St.mk 0 1)] (List.replicate (2 : Int).toNat []) (En.mk 0 B32.zero 5 (Po.mk 0 t) 0 0 x) = 0 := by rw [may_feed hG rfl rfl rfl]; show overI (ofC [] t) x = 0; rw [of_nil]; exact over_f (by omega)
  exact ⟨h0, by rw [ent_yes h0 (by first | rfl | simp)]; show List.set _ _ (addC _ t (signN (En.mk 0 B32.zero 5 (Po.mk 0 t) 0 0 x))) = _; rw [show signN (En.mk 0 B32.zero 5 (Po.mk 0 t) 0 0 x) = x from if_neg (by first | rfl | simp)]; show [addC [] t x, []] = _; rw [add_nil1 ht hx]⟩
theorem fd2 (ht : t.rightB = true) (hx : 1 ≤ x ∧ x ≤ 1000) (hy : 1 ≤ y ∧ y ≤ 1000) : mayI 2 [Ed.mk 0 1 (St.mk 0 1)] [[(t, x)], []] (En.mk 0 B32.zero 4 (Po.mk 1 t) 0 0 y) = 0 ∧ entB 2 [Ed.mk 0 1 (St.mk 0 1)] [[(t, x)], []] (En.mk 0 B32.zero 4 (Po.mk 1 t) 0 0 y) = [[(t, x)], [(t, y)]] := by
  have hG : GoodE 2 [Ed.mk 0 1 (St.mk 0 1)] (En.mk 0 B32.zero 4 (Po.mk 1 t) 0 0 y) := ⟨fd_right ht (by omega) (by omega) (by omega), by first | rfl | simp, fun hk => ⟨by first | rfl | simp, by first | rfl | simp⟩⟩
  have h0 : mayI 2 [Ed.mk 0 1 (St.mk 0 1)] [[(t, x)], []] (En.mk 0 B32.zero 4 (Po.mk 1 t) 0 0 y) = 0 := by rw [may_take hG (by first | rfl | simp) (by first | rfl | simp) (by first | rfl | simp) (by first | rfl | simp)]; show overI (ofC [] t) y = 0; rw [of_nil]; exact over_f (by omega)
  exact ⟨h0, by rw [ent_yes h0 (by first | rfl | simp)]; show List.set _ _ (addC _ t (signN (En.mk 0 B32.zero 4 (Po.mk 1 t) 0 0 y))) = _; rw [show signN (En.mk 0 B32.zero 4 (Po.mk 1 t) 0 0 y) = y from if_neg (by first | rfl | simp)]; show [[(t, x)], addC [] t y] = _; rw [add_nil1 ht hy]⟩
theorem fd3 (ht : t.rightB = true) (hx : 1 ≤ x ∧ x ≤ 1000) (hy : 1 ≤ y ∧ y ≤ 1000) : mayI 2 [Ed.mk 0 1 (St.mk 0 1)] [[(t, x)], [(t, y)]] (En.mk 0 B32.zero 2 (Po.mk 0 t) 0 0 (x + 1)) = 9 ∧ entB 2 [Ed.mk 0 1 (St.mk 0 1)] [[(t, x)], [(t, y)]] (En.mk 0 B32.zero 2 (Po.mk 0 t) 0 0 (x + 1)) = [[(t, x)], [(t, y)]] := by
  have hG : GoodE 2 [Ed.mk 0 1 (St.mk 0 1)] (En.mk 0 B32.zero 2 (Po.mk 0 t) 0 0 (x + 1)) := ⟨fd_right ht (by omega) (by omega) (by omega), by first | rfl | simp, fun hk => absurd hk (by simp)⟩
  have h0 : mayI 2 [Ed.mk 0 1 (St.mk 0 1)] [[(t, x)], [(t, y)]] (En.mk 0 B32.zero 2 (Po.mk 0 t) 0 0 (x + 1)) = 9 := by rw [may_drop hG rfl]; show (if ofC [(t, x)] t < x + 1 then (9 : Int) else 0) = 9; rw [one_of1, if_pos (by omega)]
  exact ⟨h0, ent_no (by rw [h0]; decide)⟩
theorem fd4 (ht : t.rightB = true) (hx : 1 ≤ x ∧ x ≤ 1000) (hy : 1 ≤ y ∧ y ≤ 1000) : mayI 2 [Ed.mk 0 1 (St.mk 0 1)] [[(t, x)], [(t, y)]] (En.mk 0 B32.zero 2 (Po.mk 0 t) 0 0 x) = 0 ∧ entB 2 [Ed.mk 0 1 (St.mk 0 1)] [[(t, x)], [(t, y)]] (En.mk 0 B32.zero 2 (Po.mk 0 t) 0 0 x) = [[], [(t, y)]] := by
  have hG : GoodE 2 [Ed.mk 0 1 (St.mk 0 1)] (En.mk 0 B32.zero 2 (Po.mk 0 t) 0 0 x) := ⟨fd_right ht (by omega) (by omega) (by omega), by first | rfl | simp, fun hk => absurd hk (by simp)⟩
  have h0 : mayI 2 [Ed.mk 0 1 (St.mk 0 1)] [[(t, x)], [(t, y)]] (En.mk 0 B32.zero 2 (Po.mk 0 t) 0 0 x) = 0 := by rw [may_drop hG rfl]; show (if ofC [(t, x)] t < x then (9 : Int) else 0) = 0; rw [one_of1, if_neg (by omega)]
  exact ⟨h0, by rw [ent_yes h0 (by first | rfl | simp)]; show List.set _ _ (addC _ t (signN (En.mk 0 B32.zero 2 (Po.mk 0 t) 0 0 x))) = _; rw [show signN (En.mk 0 B32.zero 2 (Po.mk 0 t) 0 0 x) = -x from if_pos (by first | rfl | simp)]; show [addC [(t, x)] t (-x), [(t, y)]] = _; rw [add_off1 ht]⟩
theorem fd5 (ht : t.rightB = true) (hx : 1 ≤ x ∧ x ≤ 1000) (hy : 1 ≤ y ∧ y ≤ 1000) : mayI 2 [Ed.mk 0 1 (St.mk 0 1)] [[], [(t, y)]] (En.mk 0 B32.zero 2 (Po.mk 1 t) 0 0 y) = 0 ∧ entB 2 [Ed.mk 0 1 (St.mk 0 1)] [[], [(t, y)]] (En.mk 0 B32.zero 2 (Po.mk 1 t) 0 0 y) = [[], []] := by
  have hG : GoodE 2 [Ed.mk 0 1 (St.mk 0 1)] (En.mk 0 B32.zero 2 (Po.mk 1 t) 0 0 y) := ⟨fd_right ht (by omega) (by omega) (by omega), by first | rfl | simp, fun hk => absurd hk (by simp)⟩
  have h0 : mayI 2 [Ed.mk 0 1 (St.mk 0 1)] [[], [(t, y)]] (En.mk 0 B32.zero 2 (Po.mk 1 t) 0 0 y) = 0 := by rw [may_drop hG rfl]; show (if ofC [(t, y)] t < y then (9 : Int) else 0) = 0; rw [one_of1, if_neg (by omega)]
  exact ⟨h0, by rw [ent_yes h0 (by first | rfl | simp)]; show List.set _ _ (addC _ t (signN (En.mk 0 B32.zero 2 (Po.mk 1 t) 0 0 y))) = _; rw [show signN (En.mk 0 B32.zero 2 (Po.mk 1 t) 0 0 y) = -y from if_pos (by first | rfl | simp)]; show [[], addC [(t, y)] t (-y)] = _; rw [add_off1 ht]⟩
end
end Go.Proofs.Ytcnmmnhlhenifaa
