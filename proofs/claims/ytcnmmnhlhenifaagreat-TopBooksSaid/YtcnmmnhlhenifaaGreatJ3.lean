/- Put together: Aw, Pt, Gp, Ub, Ur, Fg, Gw, Gm, Go, Hm, So, Gr, Sv, Ob. -/
import Derived.Test.YtcnmmnhlhenifaaGreatJ2
import Derived.IntWalk
import Derived.Lib.AppendStr
import Derived.Lib.ConvBytes
import Derived.Laws.IdiomStrings
import Derived.Test.YtcnmmnhlhenifaaGreatJ1
import Derived.ChangeKeysEq
import Derived.Laws.StructEq
import Derived.Test.YtcnmmnhlhenifaaGreatFx
import Derived.Sort.AssemblyPlain
namespace Go.Proofs.YtcnmmnhlhenifaaGreat
open Go.RowKit
set_option maxRecDepth 100000
set_option linter.unusedSimpArgs false
set_option linter.unusedVariables false
theorem cov_iff {L : List St} {t : St} : covB L t = true ↔ ∃ s ∈ L, s.leB t = true := by unfold covB; rw [List.any_eq_true]
theorem least_below : ∀ (n : Nat) {L : List St} (_ : L.length ≤ n) (t : St), t ∈ L → ∃ m ∈ L, m.leB t = true ∧ ∀ s ∈ L, s.leB m = true → s = m := by
  intro n
  induction n with
  | zero => intro L hn t ht; cases L with
    | nil => cases ht
    | cons a r => simp at hn
  | succ n ih =>
    intro L hn t ht
    by_cases h : ∀ s ∈ L, s.leB t = true → s = t
    · exact ⟨t, ht, St.le_refl t, h⟩
    · obtain ⟨s, hs, hl, hne⟩ : ∃ s, s ∈ L ∧ s.leB t = true ∧ ¬ s = t := by
        simp only [Classical.not_forall] at h
        obtain ⟨s, hs, hl, hne⟩ := h
        exact ⟨s, hs, hl, hne⟩
      have hs' : s ∈ L.filter (fun x => !decide (x = t)) := by simp [hs, hne]
      have hlen : (L.filter (fun x => !decide (x = t))).length ≤ n := by
        have : (L.filter (fun x => !decide (x = t))).length < L.length := by
          rw [List.length_filter_lt_length_iff_exists]
          exact ⟨t, ht, by simp⟩
        omega
      obtain ⟨m, hm, hms, hmin⟩ := ih hlen s hs'
      have hmL := (List.mem_filter.1 hm).1
      refine ⟨m, hmL, St.le_trans hms hl, fun u hu hum => ?_⟩
      by_cases e : u = t
      · exfalso
        subst e
        have := St.le_antisymm (St.le_trans hum hms) hl
        exact hne this.symm
      · exact hmin u (by simp [hu, e]) hum
theorem min_cov (L : List St) (t : St) : covB (minL L) t = covB L t := by
  rw [Bool.eq_iff_iff, cov_iff, cov_iff]
  constructor
  · rintro ⟨s, hs, hl⟩; exact ⟨s, (mem_minL.1 hs).1, hl⟩
  · rintro ⟨s, hs, hl⟩
    obtain ⟨m, hm, hms, hmin⟩ := least_below _ (Nat.le_refl _) s hs
    exact ⟨m, mem_minL.2 ⟨hm, hmin⟩, St.le_trans hms hl⟩
theorem min_mem {A B : List St} (h : ∀ t, t ∈ A ↔ t ∈ B) : minL A = minL B := (minL_asc A).uniq (minL_asc B) fun t => by
  rw [mem_minL, mem_minL, h]
  exact and_congr_right fun _ => forall_congr' fun s => by rw [h]
theorem Asc.nodup {L : List St} (h : Asc L) : L.Nodup := by
  rw [List.Nodup, List.pairwise_iff_getElem]
  intro i j hi hj hij e
  have := h.lt' hij hj
  rw [atS_eq hi, atS_eq hj, e, ahead_irr] at this
  cases this
def cntS (L : List St) (t : St) (i : Nat) : Nat := (L.take i).countP fun s => !t.leB s
structure Chn (t : St) (Q : List St) : Prop where
  pos : 0 < Q.length
  first : atS Q 0 = t
  low : ∀ s ∈ Q, t.leB s = true
  high : ∀ s ∈ Q, s.leB (atS Q (Q.length - 1)) = true
theorem Chn.start (t : St) : Chn t [t] := ⟨by simp, rfl, fun s hs => by rw [List.mem_singleton.1 hs]; exact St.le_refl t, fun s hs => by rw [List.mem_singleton.1 hs]; exact St.le_refl t⟩
theorem Chn.next {t u : St} {Q : List St} {k : Nat} (h : Chn t Q) (hk : k = Q.length - 1) (hu : (atS Q k).leB u = true) : Chn t (Q ++ [u]) := by
  subst hk
  have hp := h.pos
  have hl : atS (Q ++ [u]) ((Q ++ [u]).length - 1) = u := by
    unfold atS; rw [List.length_append, List.length_singleton, Nat.add_sub_cancel, List.getD_eq_getElem?_getD, List.getElem?_append_right (Nat.le_refl _)]; simp
  have hm : atS Q (Q.length - 1) ∈ Q := atS_mem (by omega)
  refine ⟨by rw [List.length_append, List.length_singleton]; omega, by rw [atS_app hp]; exact h.first, fun s hs => ?_, fun s hs => ?_⟩
  · rcases List.mem_append.1 hs with h1 | h1
    · exact h.low s h1
    · rw [List.mem_singleton.1 h1]; exact St.le_trans (h.low _ hm) hu
  · rw [hl]
    rcases List.mem_append.1 hs with h1 | h1
    · exact St.le_trans (h.high s h1) hu
    · rw [List.mem_singleton.1 h1]; exact St.le_refl u
theorem Chn.min {t : St} {Q : List St} (h : Chn t Q) : minL Q = [t] := by
  have ht : t ∈ Q := h.first ▸ atS_mem h.pos
  refine ((show Asc [t] from fun i hi => by simp at hi).uniq (minL_asc Q) fun s => ?_).symm
  rw [mem_minL, List.mem_singleton]
  constructor
  · intro e; subst e
    exact ⟨ht, fun q hq hl => St.le_antisymm hl (h.low q hq)⟩
  · rintro ⟨h1, h2⟩; exact (h2 t ht (h.low s h1)).symm
end Go.Proofs.YtcnmmnhlhenifaaGreat
namespace Go.Proofs.YtcnmmnhlhenifaaGreat
open Go.RowKit
set_option maxRecDepth 100000
set_option linter.unusedSimpArgs false
set_option linter.unusedVariables false
def rightsB (L : List St) : Bool := L.all St.rightB && decide (L.length ≤ 64)
def sumsP (A B : List St) : List St := A.flatMap fun p => (B.filter fun q => p.afterB q).map fun q => p.after q
def eachB (A B : List St) : Bool := rightsB A && rightsB B && decide ((minL (sumsP A B)).length ≤ 64)
def eachL (A B : List St) : List St := if eachB A B then minL (sumsP A B) else []
theorem mem_sums {A B : List St} {t : St} : t ∈ sumsP A B ↔ ∃ p ∈ A, ∃ q ∈ B, p.afterB q = true ∧ p.after q = t := by
  unfold sumsP
  simp only [List.mem_flatMap, List.mem_map, List.mem_filter]
  constructor
  · rintro ⟨p, hp, q, ⟨hq, h1⟩, h2⟩; exact ⟨p, hp, q, hq, h1, h2⟩
  · rintro ⟨p, hp, q, hq, h1, h2⟩; exact ⟨p, hp, q, ⟨hq, h1⟩, h2⟩
theorem sums_len (A B : List St) : (sumsP A B).length ≤ A.length * B.length := by
  unfold sumsP
  induction A with
  | nil => simp
  | cons p r ih =>
    simp only [List.flatMap_cons, List.length_append, List.length_map, List.length_cons, Nat.add_mul, Nat.one_mul]
    have := List.length_filter_le (fun q => p.afterB q) B
    omega
theorem take_snocS {L : List St} {i : Int} (h0 : 0 ≤ i) (h : i < (L.length : Int)) : L.take i.toNat ++ [atS L i.toNat] = L.take (i + 1).toNat := by
  rw [show (i + 1).toNat = i.toNat + 1 by omega, List.take_succ_eq_append_getElem (by omega), atS_eq (by omega)]
def partP (A B : List St) (i k : Nat) : List St := sumsP (A.take i) B ++ ((B.take k).filter fun q => (atS A i).afterB q).map fun q => (atS A i).after q
theorem part_yes {A B : List St} {i : Nat} {k : Int} (h0 : 0 ≤ k) (h : k < (B.length : Int)) (ha : (atS A i).afterB (atS B k.toNat) = true) : partP A B i k.toNat ++ [(atS A i).after (atS B k.toNat)] = partP A B i (k + 1).toNat := by
  unfold partP
  rw [show (k + 1).toNat = k.toNat + 1 by omega, List.take_succ_eq_append_getElem (show k.toNat < B.length by omega), List.filter_append, List.map_append, ← List.append_assoc, ← atS_eq]
  simp [ha]
theorem part_no {A B : List St} {i : Nat} {k : Int} (h0 : 0 ≤ k) (h : k < (B.length : Int)) (ha : (atS A i).afterB (atS B k.toNat) = false) : partP A B i k.toNat = partP A B i (k + 1).toNat := by
  unfold partP
  rw [show (k + 1).toNat = k.toNat + 1 by omega, List.take_succ_eq_append_getElem (show k.toNat < B.length by omega), List.filter_append, List.map_append, ← atS_eq]
  simp [ha]
theorem each_f {A B : List St} (h : eachB A B = false) : eachL A B = [] := by unfold eachL; rw [h]; rfl
theorem each_t {A B : List St} (h : eachB A B = true) : (rightsB A = true ∧ rightsB B = true ∧ (minL (sumsP A B)).length ≤ 64) ∧ eachL A B = minL (sumsP A B) := by
  refine ⟨?_, by unfold eachL; rw [h]; rfl⟩
  unfold eachB at h
  simp only [Bool.and_eq_true, decide_eq_true_eq] at h
  exact ⟨h.1.1, h.1.2, h.2⟩
theorem eachL_len (A B : List St) : (eachL A B).length ≤ 64 := by
  cases h : eachB A B with
  | true => have := each_t h; rw [this.2]; exact this.1.2.2
  | false => rw [each_f h]; simp
theorem after_right {p q : St} (h : p.afterB q = true) : (p.after q).rightB = true := by
  have := after_t h
  rw [St.right_iff]; omega
theorem least_of {L : List St} {t : St} (h : t ∈ L) : ∃ m ∈ minL L, m.leB t = true := by
  obtain ⟨m, hm, h1, h2⟩ := least_below _ (Nat.le_refl _) t h
  exact ⟨m, mem_minL.2 ⟨hm, h2⟩, h1⟩
theorem after_mono {p q m n : St} (hp : m.leB p = true) (hq : n.leB q = true) (hm : m.rightB = true) (hn : n.rightB = true) (h : p.afterB q = true) : m.afterB n = true ∧ (m.after n).leB (p.after q) = true := by
  have h1 := after_t h
  have h2 := le_t hp
  have h3 := le_t hq
  have h4 := right_t hm
  have h5 := right_t hn
  have h6 : m.afterB n = true := after_iff.2 (by omega)
  have h7 := after_t h6
  exact ⟨h6, St.le_iff.2 (by omega)⟩
end Go.Proofs.YtcnmmnhlhenifaaGreat
namespace Go.Proofs.YtcnmmnhlhenifaaGreat
open Go.RowKit
set_option maxRecDepth 100000
set_option linter.unusedSimpArgs false
set_option linter.unusedVariables false
structure Ed where
  f : Int
  t : Int
  p : St
deriving DecidableEq
def Ed.zero : Ed := ⟨0, 0, St.zero⟩
def encG : Enc Ed := ⟨4, fun x => [.int .i64 x.f, .int .i64 x.t, .int .i64 x.p.e, .int .i64 x.p.r], Ed.zero, fun _ => rfl, fun a v h => by
  simp only [List.mem_cons, List.not_mem_nil, or_false] at h
  rcases h with rfl | rfl | rfl | rfl <;> rfl⟩
def cG (L : List Ed) : List Value := cE encG L
def atG (L : List Ed) (i : Nat) : Ed := atE encG L i
theorem cG_at {L : List Ed} {i : Nat} (h : i < L.length) : ((cG L).drop (i * 4)).take 4 = [.int .i64 (atG L i).f, .int .i64 (atG L i).t, .int .i64 (atG L i).p.e, .int .i64 (atG L i).p.r] := cE_at (E := encG) h
theorem cG_ones (L : List Ed) : ∀ z ∈ cG L, z.oneCell' = true := cE_ones L
theorem atG_mem {L : List Ed} {i : Nat} (h : i < L.length) : atG L i ∈ L := atE_mem (E := encG) h
theorem at_of_memG {L : List Ed} {x : Ed} (h : x ∈ L) : ∃ i, i < L.length ∧ atG L i = x := at_of_memE (E := encG) h
abbrev RdG (w : World) (v : Value) (L : List Ed) : Prop := RdV w 4 v L.length (cG L)
def fitsB (n : Int) (x : Ed) : Bool := decide (0 ≤ x.f ∧ x.f < n ∧ 0 ≤ x.t ∧ x.t < n) && x.p.rightB
theorem fits_iff {n : Int} {x : Ed} : fitsB n x = true ↔ (0 ≤ x.f ∧ x.f < n ∧ 0 ≤ x.t ∧ x.t < n) ∧ x.p.rightB = true := by unfold fitsB; simp
def okE (T : List Bool) (k : Nat) (x : Ed) : Bool := !(decide (x.t = (k : Int)) && decide (x.p = St.zero) && !atB T x.f.toNat)
def freeB (E : List Ed) (T : List Bool) (k : Nat) : Bool := !atB T k && E.all (okE T k)
def nextO (E : List Ed) (T : List Bool) (n : Nat) : Option Nat := (List.range n).find? (freeB E T)
def stepO (E : List Ed) (n : Nat) (s : List Bool × List Int) : List Bool × List Int :=
  match nextO E s.1 n with
  | some k => (s.1.set k true, s.2 ++ [(k : Int)])
  | none => s
def roundsO (E : List Ed) (n : Nat) : Nat → List Bool × List Int
  | 0 => (List.replicate n false, [])
  | r + 1 => stepO E n (roundsO E n r)
def orderL (E : List Ed) (n : Nat) : List Int := (roundsO E n n).2
theorem rounds_len (E : List Ed) (n : Nat) : ∀ r, (roundsO E n r).1.length = n
  | 0 => by simp [roundsO]
  | r + 1 => by
    have ih := rounds_len E n r
    simp only [roundsO, stepO]
    split
    · simpa using ih
    · exact ih
theorem find_range {n k : Nat} {p : Nat → Bool} (hk : k < n) (h : p k = true) (hb : ∀ q, q < k → p q = false) : (List.range n).find? p = some k := by
  rw [List.find?_range_eq_some]
  exact ⟨h, List.mem_range.2 hk, fun j hj => by rw [hb j hj]; rfl⟩
theorem round_some {E : List Ed} {n : Nat} {r : Int} {k : Int} (h0 : 0 ≤ r) (hk0 : 0 ≤ k) (hk : k.toNat < n) (h : freeB E (roundsO E n r.toNat).1 k.toNat = true) (hb : ∀ q, q < k.toNat → freeB E (roundsO E n r.toNat).1 q = false) :
    roundsO E n (r + 1).toNat = ((roundsO E n r.toNat).1.set k.toNat true, (roundsO E n r.toNat).2 ++ [k]) := by
  rw [show (r + 1).toNat = r.toNat + 1 by omega]
  simp only [roundsO, stepO]
  rw [show nextO E (roundsO E n r.toNat).1 n = some k.toNat from find_range hk h hb]
  simp only [show ((k.toNat : Nat) : Int) = k by omega]
def FreeI (E : List Ed) (T : List Bool) (k i : Nat) (b : Bool) : Prop := b = true ↔ atB T k = false ∧ ∀ q, q < i → okE T k (atG E q) = true
def badE (n : Int) (E : List Ed) : Nat → Option Nat
  | 0 => none
  | i + 1 => match badE n E i with
    | some k => some k
    | none => if fitsB n (atG E i) then none else some i
def checkG (n : Int) (E : List Ed) : Int × Int :=
  if n < 1 ∨ 8 < n ∨ 16 < E.length then (4, -1) else
  match E.findIdx? (fun x => !fitsB n x) with
  | some i => (4, (i : Int))
  | none => if ((orderL E n.toNat).length : Int) < n then (5, -1) else (0, -1)
theorem check_many {n : Int} {E : List Ed} (h : n < 1 ∨ 8 < n ∨ 16 < E.length) : checkG n E = (4, -1) := if_pos h
theorem check_bad {n : Int} {E : List Ed} {i : Int} (h : ¬ (n < 1 ∨ 8 < n ∨ 16 < E.length)) (h0 : 0 ≤ i) (hi : i < (E.length : Int)) (hb : ∀ q, q < i.toNat → fitsB n (atG E q) = true) (hx : fitsB n (atG E i.toNat) = false) : checkG n E = (4, i) := by
  unfold checkG
  rw [if_neg h]
  have : E.findIdx? (fun x => !fitsB n x) = some i.toNat := by
    rw [List.findIdx?_eq_some_iff_getElem]
    refine ⟨by omega, by rw [← show atG E i.toNat = E[i.toNat] from atE_eq (by omega), hx]; rfl, fun j hj => ?_⟩
    rw [← show atG E j = E[j] from atE_eq (by omega), hb j hj]; simp
  rw [this]
  simp only
  rw [show ((i.toNat : Nat) : Int) = i by omega]
theorem check_fit {n : Int} {E : List Ed} {i : Int} (h : ¬ (n < 1 ∨ 8 < n ∨ 16 < E.length)) (hb : ∀ q, q < i.toNat → fitsB n (atG E q) = true) (hi : ¬ i < (E.length : Int)) : (∀ x ∈ E, fitsB n x = true) ∧ checkG n E = if ((orderL E n.toNat).length : Int) < n then (5, -1) else (0, -1) := by
  have hall : ∀ x ∈ E, fitsB n x = true := fun x hx => by
    obtain ⟨q, hq, rfl⟩ := at_of_memG hx
    exact hb q (by omega)
  refine ⟨hall, ?_⟩
  unfold checkG
  rw [if_neg h]
  have : E.findIdx? (fun x => !fitsB n x) = none := by
    rw [List.findIdx?_eq_none_iff]
    intro x hx; rw [hall x hx]; rfl
  rw [this]
end Go.Proofs.YtcnmmnhlhenifaaGreat
namespace Go.Proofs.YtcnmmnhlhenifaaGreat
open Go.RowKit
set_option maxRecDepth 100000
set_option linter.unusedSimpArgs false
set_option linter.unusedVariables false
theorem Fr.re {a : Act} {n d : Nat} {v v' : Value} {L : List (Nat × Value)} (F : Fr a n ((d, v) :: L)) (h : v = v') : Fr a n ((d, v') :: L) := h ▸ F
def u8 (b : UInt8) : Int := (b.toNat : Int)
def byteU (n : Int) : UInt8 := UInt8.ofNat (n % 256).toNat
theorem u8_byte (n : Int) : u8 (byteU n) = n % 256 := by
  unfold u8 byteU
  rw [UInt8.toNat_ofNat']
  omega
theorem u8_inj {a b : UInt8} (h : u8 a = u8 b) : a = b := by
  unfold u8 at h
  exact UInt8.toNat_inj.1 (by omega)
theorem wrap8 (n : Int) : IntKind.u8.wrap n = u8 (byteU n) := by
  rw [u8_byte]
  simp [IntKind.wrap, IntKind.signed, IntKind.bits]
def encU : Enc UInt8 := ⟨1, fun b => [.int .u8 (u8 b)], 0, fun _ => rfl, fun a v h => by
  simp only [List.mem_cons, List.not_mem_nil, or_false] at h; subst h; rfl⟩
def cU (L : List UInt8) : List Value := cE encU L
def atU (L : List UInt8) (i : Nat) : UInt8 := atE encU L i
theorem cU_at {L : List UInt8} {i : Nat} (h : i < L.length) : (cU L)[i * 1]? = some (.int .u8 (u8 (atU L i))) := by
  have h1 := cE_at (E := encU) h
  have h2 : ((cU L).drop (i * 1)).take 1 = [.int .u8 (u8 (atU L i))] := h1
  have h3 : (((cU L).drop (i * 1)).take 1)[0]? = some (.int .u8 (u8 (atU L i))) := by rw [h2]; rfl
  rw [List.getElem?_take] at h3
  simpa using h3
theorem cU_app (L K : List UInt8) : cU (L ++ K) = cU L ++ cU K := cE_app L K
theorem cU_ones (L : List UInt8) : ∀ z ∈ cU L, z.oneCell' = true := cE_ones L
theorem cU_len (L : List UInt8) : (cU L).length = L.length := by unfold cU; rw [cE_len]; show L.length * 1 = _; omega
theorem cU_map : ∀ L : List UInt8, cU L = L.map fun b => .int .u8 (u8 b)
  | [] => rfl
  | b :: r => by
    show Value.int .u8 (u8 b) :: cU r = _
    rw [cU_map r]; rfl
theorem atU_eq {L : List UInt8} {i : Nat} (h : i < L.length) : atU L i = L[i] := atE_eq h
abbrev RdU (w : World) (v : Value) (L : List UInt8) : Prop := RdV w 1 v L.length (cU L)
def strV (L : List UInt8) : Value := .string ⟨L.toArray⟩
theorem str_size (L : List UInt8) : (ByteArray.mk L.toArray).size = L.length := by show L.toArray.size = _; simp
section
variable {P : Program} {o : Oper} {a : Act} {x y : Operand} {v : Value} {src dst t t' e : TypeId} {n : Int} {b : UInt8} {A B : List UInt8} {C : World → Prop}
theorem pu_cvt8 (ho : o.op = .convert src dst x) (hx : a.eval x = .int .i64 n) (hs : (P.underlying src).isSome = true) (hd : P.underlying dst = some (.int .u8)) : Pure P o a (.int .u8 (u8 (byteU n))) := fun w => by
  have hk : P.intKind dst = .u8 := by simp [Program.intKind, hd]
  have := run_convert_int (P := P) w src dst .i64 n hs (by rw [hk]; exact hd)
  rw [hk, wrap8] at this
  simp only [execOp, ho, hx, Sem.run_bind, this, Result.andThen_ok, Sem.run_pure]
theorem pu_shr {k : Nat} {q : Int} (ho : o.op = .binOp .shr t x y t') (hx : a.eval x = .int .i64 n) (hy : a.eval y = .int .u64 (k : Int)) (hk : k ≤ 63) (hq : q = n / 2 ^ k) : Pure P o a (.int .i64 q) := fun w => by
  subst hq
  simp only [execOp, ho, hx, hy]
  have h0 : ¬ ((k : Int) < 0) := by omega
  have h1 : min ((k : Int)).toNat IntKind.i64.bits = k := by simp [IntKind.bits]; omega
  simp [go_sem, binOp, Op.shift, h0, h1, Int.fdiv_eq_ediv_of_nonneg]
theorem ld_str {m : Nat} (ho : o.op = .convert src dst x) (hx : a.eval x = v) (hs : P.underlying src = some (.slice e)) (he : P.underlying e = some (.int .u8)) (hd : P.underlying dst = some .string) (hr : ∀ w, C w → RdV w 1 v m (cU A)) (hl : A.length = m) : Rdy P o a C (strV A) := fun w hC => by
  subst hl
  obtain ⟨_, ad, c, rfl, h1, h2, h3⟩ := hr w hC
  simp only [execOp, ho, hx]
  rcases Nat.eq_zero_or_pos A.length with h0 | h0
  · have hA : A = [] := List.eq_nil_of_length_eq_zero h0
    subst hA
    have hc : (convert src dst (.slice ad 0 c)).run P w = .ok (.string ⟨#[]⟩) w := by
      rw [run_convert_bytes_string w src dst e ad 0 c hs he hd]
      cases ad with
      | none => simp [Conv.bytesToString]; rfl
      | some q =>
        have := run_bytesToString (P := P) w q 0 c [] (run_loadCells_list (P := P) w q [] (fun j v hj => by simp at hj))
        rw [this]; rfl
    simp only [List.length_nil, Sem.run_bind, hc, Result.andThen_ok, Sem.run_pure, strV]
  · obtain ⟨g, off, rfl, h4, h5⟩ := h3 h0
    have hc := run_convert_bytes_back (P := P) w src dst e ⟨g, off, none⟩ c A hs he hd (fun j hj => by
      rw [addr_add]
      refine h5 j _ ?_
      have := cU_at hj
      rw [Nat.mul_one] at this
      rw [this, atU_eq hj]; rfl)
    simp only [Sem.run_bind, hc, Result.andThen_ok, Sem.run_pure, strV]
end
section
variable {P : Program} {ops rest : List Oper} {o : Oper} {a : Act} {n d : Nat} {L : List (Nat × Value)} {Q : Exit → Act → World → Prop} {R : List Nat} {w w0 : World} {B : List Ent} {v u : Value} {x y : Operand} {t e ty src dst : TypeId} {i g k m : Nat} {A : List UInt8} {xs : List Value}
theorem sq_bytes (F : Fr a n L) (M : Mm R w0 w B) (hw : Region.wanted o (yielded ops.toArray a.tmps) = true) (ho : o.op = .convert src dst x) (hx : a.eval x = strV A) (hs : P.underlying src = some .string) (hdt : P.underlying dst = some (.slice e)) (he : P.underlying e = some (.int .u8)) (hlen : A.length ≤ 1000000000)
    (hd : o.dst = some d) (hdn : Nat.blt d n = true) (h : ∀ a' w' v', Fr a' n ((d, v') :: L) → Mm R w0 w' (.got 1 v' A.length (cU A) :: B) → wpList P ops.toArray Q rest a' w') : wpList P ops.toArray Q (o :: rest) a w := by
  have hr := Lib.run_convert_string_bytes (P := P) w src dst e ⟨A.toArray⟩ hs hdt he
  rw [str_size] at hr
  have hbel : Below w.heap.size w (Lib.bytesWorld w e ⟨A.toArray⟩) := ⟨rfl, rfl, rfl, by rw [Lib.bytesWorld_size]; omega, fun j hj => Lib.bytesWorld_at_old _ _ _ _ hj⟩
  have hge : A.length ≤ grownCap w A.length 0 e := grownCap_ge w A.length 0 e
  have hcm : grownCap w A.length 0 e ≤ maxLen := grownCap_le_maxLen w A.length 0 e (by unfold maxLen; omega)
  have hrd : RdV (Lib.bytesWorld w e ⟨A.toArray⟩) 1 (.slice (some ⟨w.heap.size, 0, none⟩) A.length (grownCap w A.length 0 e)) A.length (cU A) :=
    ⟨by rw [cU_len, Nat.mul_one], _, _, rfl, hge, hcm, fun _ => ⟨w.heap.size, 0, rfl, by rw [Lib.bytesWorld_size]; omega, fun j u hj => by
      have hj' : j < A.length := by rw [← cU_len]; exact (List.getElem?_eq_some_iff.1 hj).1
      rw [Nat.zero_add, Lib.bytesWorld_cell _ _ _ _ (by rw [str_size]; exact hj')]
      have := cU_at hj'
      rw [Nat.mul_one, hj] at this
      rw [this, atU_eq hj']
      simp [List.getD_eq_getElem?_getD, List.getElem?_eq_getElem hj', u8]⟩⟩
  exact sq_run F hw (v := .slice (some ⟨w.heap.size, 0, none⟩) A.length (grownCap w A.length 0 e)) (by simp only [execOp, ho, hx, strV, Sem.run_bind, hr, Result.andThen_ok, Sem.run_pure]) (M.addGot hbel hrd (fun _ => Nat.le_refl _)) hd hdn (fun a' w' F' M' => h a' w' _ F' M')
end
end Go.Proofs.YtcnmmnhlhenifaaGreat
namespace Go.Proofs.YtcnmmnhlhenifaaGreat
open Go.RowKit
set_option maxRecDepth 100000
set_option linter.unusedSimpArgs false
set_option linter.unusedVariables false
structure B32 where
  l : List UInt8
  h : l.length = 32
deriving DecidableEq
def at32 (b : B32) (i : Nat) : UInt8 := b.l.getD i 0
def B32.ofL (L : List UInt8) : B32 := ⟨(L ++ List.replicate 32 0).take 32, by simp⟩
def B32.zero : B32 := ⟨List.replicate 32 0, List.length_replicate⟩
def B32.put (b : B32) (i : Nat) (u : UInt8) : B32 := ⟨b.l.set i u, by rw [List.length_set]; exact b.h⟩
theorem B32.ext' {a b : B32} (h : a.l = b.l) : a = b := by cases a; cases b; simp_all
theorem B32.eq_iff {a b : B32} : a = b ↔ a.l = b.l := ⟨fun h => by rw [h], B32.ext'⟩
def l32 (b : B32) : List Value := [.int .u8 (u8 (at32 b 0)), .int .u8 (u8 (at32 b 1)), .int .u8 (u8 (at32 b 2)), .int .u8 (u8 (at32 b 3)), .int .u8 (u8 (at32 b 4)), .int .u8 (u8 (at32 b 5)), .int .u8 (u8 (at32 b 6)), .int .u8 (u8 (at32 b 7)), .int .u8 (u8 (at32 b 8)), .int .u8 (u8 (at32 b 9)), .int .u8 (u8 (at32 b 10)), .int .u8 (u8 (at32 b 11)), .int .u8 (u8 (at32 b 12)), .int .u8 (u8 (at32 b 13)), .int .u8 (u8 (at32 b 14)), .int .u8 (u8 (at32 b 15)), .int .u8 (u8 (at32 b 16)), .int .u8 (u8 (at32 b 17)), .int .u8 (u8 (at32 b 18)), .int .u8 (u8 (at32 b 19)), .int .u8 (u8 (at32 b 20)), .int .u8 (u8 (at32 b 21)), .int .u8 (u8 (at32 b 22)), .int .u8 (u8 (at32 b 23)), .int .u8 (u8 (at32 b 24)), .int .u8 (u8 (at32 b 25)), .int .u8 (u8 (at32 b 26)), .int .u8 (u8 (at32 b 27)), .int .u8 (u8 (at32 b 28)), .int .u8 (u8 (at32 b 29)), .int .u8 (u8 (at32 b 30)), .int .u8 (u8 (at32 b 31))]
theorem l32_range (b : B32) : l32 b = (List.range 32).map fun i => Value.int .u8 (u8 (at32 b i)) := rfl
theorem l32_eq (b : B32) : l32 b = cU b.l := by
  rw [l32_range, cU_map]
  apply List.ext_getElem
  · simp [b.h]
  · intro i h1 h2
    have hi : i < b.l.length := by simpa using h2
    simp [at32, List.getD_eq_getElem?_getD, List.getElem?_eq_getElem hi]
theorem ofL_nil : B32.ofL [] = B32.zero := B32.ext' (by show (([] : List UInt8) ++ List.replicate 32 0).take 32 = List.replicate 32 (0 : UInt8); simp)
structure Fm where
  kind : Int
  frm : Int
  dst : Int
  org : Int
  seq : Int
  text : List UInt8
  tag : B32
deriving DecidableEq
def Fm.zero : Fm := ⟨0, 0, 0, 0, 0, [], B32.zero⟩
def cFm (x : Fm) : List Value := [.int .i64 x.kind, .int .i64 x.frm, .int .i64 x.dst, .int .i64 x.org, .int .i64 x.seq, strV x.text] ++ l32 x.tag
structure En where
  seq : Int
  prev : B32
  kind : Int
  po : Po
  edge : Int
  peer : Int
  n : Int
deriving DecidableEq
def En.zero : En := ⟨0, B32.zero, 0, Po.zero, 0, 0, 0⟩
def cEn (x : En) : List Value := .int .i64 x.seq :: (l32 x.prev ++ [.int .i64 x.kind, .int .i64 x.po.n, .int .i64 x.po.t.e, .int .i64 x.po.t.r, .int .i64 x.edge, .int .i64 x.peer, .int .i64 x.n])
theorem cEn_len (x : En) : (cEn x).length = 40 := rfl
theorem l32_at (b : B32) {i : Nat} (hi : i < 32) : (l32 b)[i]? = some (.int .u8 (u8 (at32 b i))) := by
  rw [l32_range, List.getElem?_map, List.getElem?_range hi]; rfl
section
variable {P : Program} {w : World} {xs ys : Array Value} {f : Field} {fs : List Field} {a b : Value} {r r' : Bool} {dd : Nat} {t e : TypeId}
theorem eqF_nil : (Op.eqFields dd xs ys []).run P w = .ok true w := by simp [Op.eqFields]
theorem eqF_cons (hn : f.name ≠ "_") (ha : (part f.type xs f.offset).run P w = .ok a w) (hb : (part f.type ys f.offset).run P w = .ok b w) (he : (Op.equalIn dd f.type a b).run P w = .ok r w) (hr : (Op.eqFields dd xs ys fs).run P w = .ok r' w) : (Op.eqFields dd xs ys (f :: fs)).run P w = .ok (r && r') w := by
  simp only [Op.eqFields, hn, ne_eq, not_false_eq_true, if_true, Sem.run_bind, ha, hb, he, Result.andThen_ok]
  cases r
  · simp
  · simpa using hr
theorem part_one {off : Nat} (ht : ∃ d, P.underlying t = some d ∧ d.isRow = false) (h : xs[off]? = some a) : (part t xs off).run P w = .ok a w := by
  obtain ⟨d, hd, hr⟩ := ht
  have : (isAgg t).run P w = .ok false w := by
    cases d <;> simp_all [isAgg, run_underlying hd, TypeDesc.isRow]
  simp [part, this, h]
theorem part_agg {off m : Nat} {cs : List Value} (ht : AggTy P t m) (h : (xs.toList.drop off).take m = cs) : (part t xs off).run P w = .ok (.agg (List.toArray cs)) w := by
  obtain ⟨d, hd, hr, hi⟩ := ht
  cases hq : P.info? t with
  | none => simp [hq] at hi
  | some i =>
    simp only [hq, Option.map_some, Option.some.injEq] at hi
    have h1 : (isAgg t).run P w = .ok true w := by
      cases d <;> simp_all [isAgg, run_underlying hd, TypeDesc.isRow]
    have h2 : xs.extract off (off + m) = List.toArray cs := by
      apply Array.ext'
      rw [← h]; simp [List.take_drop]
    simp [part, h1, sizeOf, typeInfo, hq, hi, h2]
theorem eq_int {k : IntKind} {i j : Int} (h : P.underlying t = some (.int k)) : (Op.equalIn (dd + 1) t (.int k i) (.int k j)).run P w = .ok (decide (i = j)) w := by
  rw [run_equalIn_int w dd t k k i j h]
  congr 1
theorem eqI32 (he : P.underlying e = some (.int .u8)) (x y : B32) : ∀ is : List Nat, (∀ i ∈ is, i < 32) → (Op.eqItems (dd + 1) e 1 (List.toArray (l32 x)) (List.toArray (l32 y)) is).run P w = .ok (is.all fun i => decide (at32 x i = at32 y i)) w
  | [], _ => by simp [Op.eqItems]
  | i :: is, h => by
    have hi := h i (by simp)
    have p1 : (part e (List.toArray (l32 x)) i).run P w = .ok (.int .u8 (u8 (at32 x i))) w := part_one ⟨_, he, rfl⟩ (by rw [List.getElem?_toArray]; exact l32_at x hi)
    have p2 : (part e (List.toArray (l32 y)) i).run P w = .ok (.int .u8 (u8 (at32 y i))) w := part_one ⟨_, he, rfl⟩ (by rw [List.getElem?_toArray]; exact l32_at y hi)
    have hb : decide (u8 (at32 x i) = u8 (at32 y i)) = decide (at32 x i = at32 y i) := by
      rw [decide_eq_decide]; exact ⟨u8_inj, fun h => by rw [h]⟩
    have p3 := eq_int (P := P) (w := w) (dd := dd) (i := u8 (at32 x i)) (j := u8 (at32 y i)) he
    rw [hb] at p3
    have ih := eqI32 he x y is (fun j hj => h j (by simp [hj]))
    simp only [Op.eqItems, Nat.mul_one, Sem.run_bind, p1, p2, p3, Result.andThen_ok, List.all_cons]
    cases hc : decide (at32 x i = at32 y i)
    · simp
    · simp [ih]
theorem all32 (x y : B32) : ((List.range 32).all fun i => decide (at32 x i = at32 y i)) = decide (x = y) := by
  rw [Bool.eq_iff_iff, List.all_eq_true, decide_eq_true_iff]
  refine ⟨fun h => B32.ext' (List.ext_getElem (by rw [x.h, y.h]) fun i h1 h2 => ?_), fun h i _ => by rw [h]; simp⟩
  have := h i (List.mem_range.2 (by rw [← x.h]; exact h1))
  simpa [at32, List.getD_eq_getElem?_getD, List.getElem?_eq_getElem h1, List.getElem?_eq_getElem h2] using this
theorem eqA32 (ht : P.underlying t = some (.array 32 e)) (he : P.underlying e = some (.int .u8)) (hi : (P.info? e).map (·.size) = some 1) (hc : P.cellsOf e = 1) (x y : B32) : (Op.equalIn (dd + 2) t (.agg (List.toArray (l32 x))) (.agg (List.toArray (l32 y)))).run P w = .ok (decide (x = y)) w := by
  cases hq : P.info? e with
  | none => simp [hq] at hi
  | some i =>
    rw [run_equalIn_array w (dd + 1) _ _ ht hq, hc, eqI32 he x y _ (fun i hi => List.mem_range.1 hi), all32]
end
section
variable {P : Program} {o : Oper} {a : Act} {x y lo hi : Operand} {v : Value} {w : World} {t e ty : TypeId} {g off n N l h j : Nat} {cs : Array Value} {b : B32} {i : Int} {k : IntKind} {A L : List UInt8}
theorem pu_sliceF (ho : o.op = .slice t x none none none) (hx : a.eval x = .pointer (some ⟨g, off, none⟩)) {e : TypeId} (hu : P.underlying t = some (.array 32 e)) (hi : (P.info? e).map (·.size) = some 1) : Pure P o a (.slice (some ⟨g, off, none⟩) 32 32) := fun w' => by
  cases hq : P.info? e with
  | none => simp [hq] at hi
  | some inf =>
    have hs : inf.size = 1 := by simpa [hq] using hi
    simp only [execOp, ho, hx]
    simp [Instr.sliceAt, Instr.sureAddr, Instr.sliceBounds, run_underlying hu, sizeOf, typeInfo, hq, addr_add]
theorem arr_rdv (hb : Blk w g t cs) (hc : (cs.toList.drop off).take 32 = l32 b) : RdV w 1 (.slice (some ⟨g, off, none⟩) 32 32) 32 (cU b.l) := by
  rw [l32_eq] at hc
  refine ⟨by rw [cU_len, b.h], _, _, rfl, Nat.le_refl _, by decide, fun _ => ⟨g, off, rfl, hb.lt, fun j u hj => ?_⟩⟩
  rw [← hc, List.getElem?_take, List.getElem?_drop] at hj
  split at hj
  · rw [hb.cell]; simpa using hj
  · cases hj
end
section
variable {P : Program} {ops rest : List Oper} {o : Oper} {a : Act} {n : Nat} {L : List (Nat × Value)} {Q : Exit → Act → World → Prop} {R : List Nat} {w w0 : World} {B : List Ent} {x y : Operand} {t ty : TypeId} {i g k m : Nat} {cs : Array Value} {ys : List Value}
theorem sq_stP (F : Fr a n L) (M : Mm R w0 w B) (hw : Region.wanted o (yielded ops.toArray a.tmps) = true) (ho : o.op = .store ty x y) (hx : a.eval x = .pointer (some ⟨g, k, none⟩)) (hy : a.eval y = .agg (List.toArray ys))
    (hi : B[i]? = some (.blk g t cs)) (hT : AggTy P ty m) (hm : ys.length = m) (hk : k + m ≤ cs.size) (h1 : ∀ v ∈ ys, v.oneCell' = true) (hd : o.dst = none)
    (h : ∀ w', Mm R w0 w' (B.set i (.blk g t (List.toArray (cs.toList.take k ++ ys ++ cs.toList.drop (k + m))))) → wpList P ops.toArray Q rest a w') : wpList P ops.toArray Q (o :: rest) a w := by
  obtain ⟨d, hu, hr, hs⟩ := hT
  cases hq : P.info? ty with
  | none => simp [hq] at hs
  | some inf =>
    simp only [hq, Option.map_some, Option.some.injEq] at hs
    have hst := run_storeCells_at P g k t ys 0 cs w (M.at hi) (by omega) h1
    simp only [Nat.add_zero, hm] at hst
    refine sq_run0 (v := undef) (w' := w.setRow g (cs.toList.take k ++ ys ++ cs.toList.drop (k + m)).toArray) F hw (.inr ?_) (M.setRow hi _) hd h
    simp only [execOp, ho, hx, hy]
    simp [Instr.storeAt, Instr.sureAddr, storeVar, sizeOf, typeInfo, hq, hs, Value.cells, hm, hst]
end
def cEn2 (p : En × En) : List Value := cEn p.1 ++ cEn p.2
theorem l32_ones (b : B32) : ∀ z ∈ l32 b, z.oneCell' = true := by rw [l32_eq]; exact cU_ones _
def encN : Enc En := ⟨40, cEn, En.zero, cEn_len, fun x z hz => by
  simp only [cEn, List.mem_cons, List.mem_append, List.not_mem_nil, or_false] at hz
  rcases hz with rfl | hz | rfl | rfl | rfl | rfl | rfl | rfl | rfl
  · rfl
  · exact l32_ones _ z hz
  all_goals rfl⟩
def cN (L : List En) : List Value := cE encN L
def atN (L : List En) (i : Nat) : En := atE encN L i
theorem cN_at {L : List En} {i : Nat} (h : i < L.length) : ((cN L).drop (i * 40)).take 40 = cEn (atN L i) := cE_at (E := encN) h
theorem cN_app (L K : List En) : cN (L ++ K) = cN L ++ cN K := cE_app L K
theorem cN_ones (L : List En) : ∀ z ∈ cN L, z.oneCell' = true := cE_ones L
abbrev RdN (w : World) (v : Value) (L : List En) : Prop := RdV w 40 v L.length (cN L)
structure Om where
  d : Int
  k : Int
  e : En
def cOm (x : Om) : List Value := .int .i64 x.d :: .int .i64 x.k :: cEn x.e
def encO : Enc Om := ⟨42, cOm, ⟨0, 0, En.zero⟩, fun _ => rfl, fun x z hz => by
  simp only [cOm, List.mem_cons] at hz
  rcases hz with rfl | rfl | hz
  · rfl
  · rfl
  · exact encN.ones _ z hz⟩
def cO (L : List Om) : List Value := cE encO L
def atM (L : List Om) (i : Nat) : Om := atE encO L i
abbrev RdO (w : World) (v : Value) (L : List Om) : Prop := RdV w 42 v L.length (cO L)
end Go.Proofs.YtcnmmnhlhenifaaGreat
namespace Go.Proofs.YtcnmmnhlhenifaaGreat
open Go.RowKit
set_option maxRecDepth 100000
set_option linter.unusedSimpArgs false
set_option linter.unusedVariables false
def evL (L : List (Nat × Value)) : Operand → Option Value
  | .tmp k => look L k
  | .const v => some v
  | .func f => some (.func (.func f) #[] #[])
  | .global _ => none
theorem Fr.evL {a : Act} {n : Nat} {L : List (Nat × Value)} (F : Fr a n L) {x : Operand} {v : Value} (h : evL L x = some v) : a.eval x = v := by
  cases x with
  | tmp k => exact F.ev h
  | const u => injection h
  | func f => injection h
  | global g => cases h
def seenL (n : Nat) (L : List (Nat × Value)) (ops : List Oper) (j : Nat) : Option Value :=
  match ops[j]? with
  | some oj => match oj.dst with
    | some d => match Nat.blt d n with
      | true => look L d
      | false => none
    | none => none
  | none => none
def wantL (n : Nat) (L : List (Nat × Value)) (ops : List Oper) (o : Oper) : Bool :=
  match o.guard with
  | none => true
  | some (j, b) => match seenL n L ops j with
    | some (.bool c) => match b, c with
      | true, true => true
      | false, false => true
      | _, _ => false
    | _ => false
def skipL (n : Nat) (L : List (Nat × Value)) (ops : List Oper) (o : Oper) : Prop :=
  match o.guard with
  | none => False
  | some (j, b) => seenL n L ops j = some (.bool !b) ∨ seenL n L ops j = some undef
theorem seen_some {n : Nat} {L : List (Nat × Value)} {ops : List Oper} {j : Nat} {v : Value} (h : seenL n L ops j = some v) : ∃ oj d, ops[j]? = some oj ∧ oj.dst = some d ∧ Nat.blt d n = true ∧ look L d = some v := by
  unfold seenL at h
  split at h
  · rename_i oj hj
    split at h
    · rename_i d hd
      split at h
      · rename_i hb; exact ⟨oj, d, hj, hd, hb, h⟩
      · cases h
    · cases h
  · cases h
section
variable {P : Program} {ops rest : List Oper} {o : Oper} {a : Act} {n d : Nat} {L : List (Nat × Value)} {Q : Exit → Act → World → Prop} {w : World} {v u : Value} {x y c : Operand} {t t' e s : TypeId} {i j : Int} {k k' : IntKind} {vs : Array Value} {q f g p m N : Nat} {xs : List Value} {cs : Array Value}
theorem wantL_ok (F : Fr a n L) (h : wantL n L ops o = true) : Region.wanted o (yielded ops.toArray a.tmps) = true := by
  unfold wantL at h
  split at h
  · rename_i hg; exact wt0 hg
  · rename_i j b hg
    split at h
    · rename_i c hs
      obtain ⟨oj, d, h1, h2, h3, h4⟩ := seen_some hs
      cases b <;> cases c <;> first | exact wt1 F hg h1 h2 h4 h3 | exact absurd h (by decide)
    · cases h
theorem skipL_ok (F : Fr a n L) (h : skipL n L ops o) : Region.wanted o (yielded ops.toArray a.tmps) = false := by
  unfold skipL at h
  split at h
  · cases h
  · rename_i j b hg
    rcases h with h | h
    · obtain ⟨oj, d, h1, h2, h3, h4⟩ := seen_some h; exact wtn F hg h1 h2 h4 h3
    · obtain ⟨oj, d, h1, h2, h3, h4⟩ := seen_some h; exact wtu F hg h1 h2 h4 h3
theorem puG (hp : ∀ a, Fr a n L → Pure P o a v) (h : ∀ a, Fr a n ((d, v) :: L) → wpList P ops.toArray Q rest a w) (hw : wantL n L ops o = true := by exact rfl) (hd : o.dst = some d := by exact rfl) (hdn : Nat.blt d n = true := by exact rfl) : ∀ a, Fr a n L → wpList P ops.toArray Q (o :: rest) a w :=
  fun a F => sq_pure F (wantL_ok F hw) (hp a F) hd hdn h
theorem rdG (hp : ∀ a, Fr a n L → Rdy P o a (fun w' => w' = w) v) (h : ∀ a, Fr a n ((d, v) :: L) → wpList P ops.toArray Q rest a w) (hw : wantL n L ops o = true := by exact rfl) (hd : o.dst = some d := by exact rfl) (hdn : Nat.blt d n = true := by exact rfl) : ∀ a, Fr a n L → wpList P ops.toArray Q (o :: rest) a w :=
  fun a F => sq_rd F (wantL_ok F hw) (hp a F) hd hdn h
theorem skG (h : ∀ a, Fr a n ((d, undef) :: L) → wpList P ops.toArray Q rest a w) (hd : o.dst = some d := by exact rfl) (hw : skipL n L ops o := by first | exact .inl rfl | exact .inr rfl) (hdn : Nat.blt d n = true := by exact rfl) : ∀ a, Fr a n L → wpList P ops.toArray Q (o :: rest) a w :=
  fun a F => sq_skip F (skipL_ok F hw) hd hdn h
theorem mvG (h : ∀ a, Fr a n ((d, v) :: L) → wpList P ops.toArray Q rest a w) (ho : o.op = .move x := by exact rfl) (hx : evL L x = some v := by exact rfl) (hw : wantL n L ops o = true := by exact rfl) (hd : o.dst = some d := by exact rfl) (hdn : Nat.blt d n = true := by exact rfl) : ∀ a, Fr a n L → wpList P ops.toArray Q (o :: rest) a w :=
  puG (fun _ F => pu_move ho (F.evL hx)) h hw hd hdn
theorem asG (h : ∀ a, Fr a n ((d, v) :: L) → wpList P ops.toArray Q rest a w) (ho : o.op = .assign x := by exact rfl) (hx : evL L x = some v := by exact rfl) (hw : wantL n L ops o = true := by exact rfl) (hd : o.dst = some d := by exact rfl) (hdn : Nat.blt d n = true := by exact rfl) : ∀ a, Fr a n L → wpList P ops.toArray Q (o :: rest) a w :=
  puG (fun _ F => pu_assign ho (F.evL hx)) h hw hd hdn
theorem faG (hf : fieldOff P s f = some q) (h : ∀ a, Fr a n ((d, .pointer (some ⟨g, p + q, none⟩)) :: L) → wpList P ops.toArray Q rest a w) (ho : o.op = .fieldAddr s x f := by exact rfl) (hx : evL L x = some (.pointer (some ⟨g, p, none⟩)) := by exact rfl) (hw : wantL n L ops o = true := by exact rfl) (hd : o.dst = some d := by exact rfl) (hdn : Nat.blt d n = true := by exact rfl) : ∀ a, Fr a n L → wpList P ops.toArray Q (o :: rest) a w :=
  puG (fun _ F => pu_field ho (F.evL hx) hf) h hw hd hdn
theorem exG (h : ∀ a, Fr a n ((d, v) :: L) → wpList P ops.toArray Q rest a w) (ho : o.op = .extract x q := by exact rfl) (hx : evL L x = some (.tuple vs) := by exact rfl) (hv : vs[q]? = some v := by exact rfl) (hw : wantL n L ops o = true := by exact rfl) (hd : o.dst = some d := by exact rfl) (hdn : Nat.blt d n = true := by exact rfl) : ∀ a, Fr a n L → wpList P ops.toArray Q (o :: rest) a w :=
  puG (fun _ F => pu_extract ho (F.evL hx) hv) h hw hd hdn
theorem lsG (h : ∀ a, Fr a n ((d, .bool (decide (i < j))) :: L) → wpList P ops.toArray Q rest a w) (ho : o.op = .binOp .lss t x y t' := by exact rfl) (hx : evL L x = some (.int k i) := by exact rfl) (hy : evL L y = some (.int k j) := by exact rfl) (hw : wantL n L ops o = true := by exact rfl) (hd : o.dst = some d := by exact rfl) (hdn : Nat.blt d n = true := by exact rfl) : ∀ a, Fr a n L → wpList P ops.toArray Q (o :: rest) a w :=
  puG (fun _ F => pu_lss ho (F.evL hx) (F.evL hy)) h hw hd hdn
theorem leG (h : ∀ a, Fr a n ((d, .bool (decide (i ≤ j))) :: L) → wpList P ops.toArray Q rest a w) (ho : o.op = .binOp .leq t x y t' := by exact rfl) (hx : evL L x = some (.int k i) := by exact rfl) (hy : evL L y = some (.int k j) := by exact rfl) (hw : wantL n L ops o = true := by exact rfl) (hd : o.dst = some d := by exact rfl) (hdn : Nat.blt d n = true := by exact rfl) : ∀ a, Fr a n L → wpList P ops.toArray Q (o :: rest) a w :=
  puG (fun _ F => pu_leq ho (F.evL hx) (F.evL hy)) h hw hd hdn
theorem gtG (h : ∀ a, Fr a n ((d, .bool (decide (j < i))) :: L) → wpList P ops.toArray Q rest a w) (ho : o.op = .binOp .gtr t x y t' := by exact rfl) (hx : evL L x = some (.int k i) := by exact rfl) (hy : evL L y = some (.int k j) := by exact rfl) (hw : wantL n L ops o = true := by exact rfl) (hd : o.dst = some d := by exact rfl) (hdn : Nat.blt d n = true := by exact rfl) : ∀ a, Fr a n L → wpList P ops.toArray Q (o :: rest) a w :=
  puG (fun _ F => pu_gtr ho (F.evL hx) (F.evL hy)) h hw hd hdn
theorem geG (h : ∀ a, Fr a n ((d, .bool (decide (j ≤ i))) :: L) → wpList P ops.toArray Q rest a w) (ho : o.op = .binOp .geq t x y t' := by exact rfl) (hx : evL L x = some (.int k i) := by exact rfl) (hy : evL L y = some (.int k j) := by exact rfl) (hw : wantL n L ops o = true := by exact rfl) (hd : o.dst = some d := by exact rfl) (hdn : Nat.blt d n = true := by exact rfl) : ∀ a, Fr a n L → wpList P ops.toArray Q (o :: rest) a w :=
  puG (fun _ F => pu_geq ho (F.evL hx) (F.evL hy)) h hw hd hdn
theorem eqG (h : ∀ a, Fr a n ((d, .bool (decide (i = j))) :: L) → wpList P ops.toArray Q rest a w) (ho : o.op = .binOp .eql t x y t' := by exact rfl) (hx : evL L x = some (.int k i) := by exact rfl) (hy : evL L y = some (.int k j) := by exact rfl) (hw : wantL n L ops o = true := by exact rfl) (hd : o.dst = some d := by exact rfl) (hdn : Nat.blt d n = true := by exact rfl) : ∀ a, Fr a n L → wpList P ops.toArray Q (o :: rest) a w :=
  puG (fun _ F => pu_eqlI ho (F.evL hx) (F.evL hy)) h hw hd hdn
theorem adG (h : ∀ a, Fr a n ((d, .int .i64 (i + j)) :: L) → wpList P ops.toArray Q rest a w) (ho : o.op = .binOp .add t x y t' := by exact rfl) (hx : evL L x = some (.int .i64 i) := by exact rfl) (hy : evL L y = some (.int .i64 j) := by exact rfl) (h1 : -9223372036854775808 ≤ i + j := by omega) (h2 : i + j ≤ 9223372036854775807 := by omega) (hw : wantL n L ops o = true := by exact rfl) (hd : o.dst = some d := by exact rfl) (hdn : Nat.blt d n = true := by exact rfl) : ∀ a, Fr a n L → wpList P ops.toArray Q (o :: rest) a w :=
  puG (fun _ F => pu_add ho (F.evL hx) (F.evL hy) h1 h2) h hw hd hdn
theorem pkT (h : ∀ a, Fr a n ((d, v) :: L) → wpList P ops.toArray Q rest a w) (ho : o.op = .pick c x y := by exact rfl) (hc : evL L c = some (.bool true) := by exact rfl) (hx : evL L x = some v := by exact rfl) (hw : wantL n L ops o = true := by exact rfl) (hd : o.dst = some d := by exact rfl) (hdn : Nat.blt d n = true := by exact rfl) : ∀ a, Fr a n L → wpList P ops.toArray Q (o :: rest) a w :=
  puG (fun _ F => pu_pickt ho (F.evL hc) (F.evL hx)) h hw hd hdn
theorem pkF (h : ∀ a, Fr a n ((d, v) :: L) → wpList P ops.toArray Q rest a w) (ho : o.op = .pick c x y := by exact rfl) (hc : evL L c = some (.bool false) := by exact rfl) (hy : evL L y = some v := by exact rfl) (hw : wantL n L ops o = true := by exact rfl) (hd : o.dst = some d := by exact rfl) (hdn : Nat.blt d n = true := by exact rfl) : ∀ a, Fr a n L → wpList P ops.toArray Q (o :: rest) a w :=
  puG (fun _ F => pu_pickf ho (F.evL hc) (F.evL hy)) h hw hd hdn
theorem lcG {ty : TypeId} {B : List Ent} {R : List Nat} {w0 : World} (M : Mm R w0 w B) (hT : OneTy P ty) {r : Nat} (hb : B[r]? = some (.blk g t cs)) (h : ∀ a, Fr a n ((d, v) :: L) → wpList P ops.toArray Q rest a w) (ho : o.op = .load ty x := by exact rfl) (hx : evL L x = some (.pointer (some ⟨g, p, none⟩)) := by exact rfl) (hc : cs[p]? = some v := by exact rfl) (hw : wantL n L ops o = true := by exact rfl) (hd : o.dst = some d := by exact rfl) (hdn : Nat.blt d n = true := by exact rfl) : ∀ a, Fr a n L → wpList P ops.toArray Q (o :: rest) a w :=
  rdG (fun _ F => ld_cell ho (F.evL hx) hT (M.rd hb) hc) h hw hd hdn
end
section
variable {P : Program} {Q : Exit → Act → World → Prop} {n : Nat} {L : List (Nat × Value)} {w : World} {id : Nat} {l : List Oper} {y : Code} {ops : Array Oper}
theorem rlG (h : ∀ a, Fr a n L → wpList P l.toArray Q l a w) : ∀ a, Fr a n L → (Code.region id l.toArray false).wp P Q a w := fun a F => wp_region_lit (h a F)
theorem srG (h : ∀ a, Fr a n L → wpList P l.toArray (Exit.then (y.wp P Q) Q) l a w) : ∀ a, Fr a n L → (Code.seq (Code.region id l.toArray false) y).wp P Q a w := fun a F => wp_seq (wp_region_lit (h a F))
theorem nxG (h : ∀ a, Fr a n L → y.wp P Q a w) : ∀ a, Fr a n L → wpList P ops (Exit.then (y.wp P Q) Q) [] a w := fun a F => nx (h a F)
end
end Go.Proofs.YtcnmmnhlhenifaaGreat
namespace Go.Proofs.YtcnmmnhlhenifaaGreat
open Go.RowKit
set_option maxRecDepth 100000
set_option linter.unusedSimpArgs false
set_option linter.unusedVariables false
def fpN (v : Value) (n : Nat) : List Nat := if n = 0 then [] else [gof v]
theorem mem_fpN {v : Value} {n g : Nat} : g ∈ fpN v n ↔ 0 < n ∧ g = gof v := by
  unfold fpN
  split
  · constructor
    · intro h; cases h
    · intro h; omega
  · rw [List.mem_singleton]
    exact ⟨fun h => ⟨by omega, h⟩, fun h => h.2⟩
theorem RdV.keep {w w' : World} {m n : Nat} {v : Value} {xs : List Value} (h : RdV w m v n xs) (hk : ∀ g ∈ fpN v n, w'.heap[g]? = w.heap[g]?) : RdV w' m v n xs ∧ ∀ g ∈ fpN v n, g < w.heap.size := by
  obtain ⟨h1, A, c, h2, h3, h4, h5⟩ := h
  refine ⟨⟨h1, A, c, h2, h3, h4, fun hn => ?_⟩, fun g hg => ?_⟩
  · obtain ⟨g, off, e, h6, h7⟩ := h5 hn
    have hg : gof v = g := by rw [h2, e]; rfl
    have hb := hk g (mem_fpN.2 ⟨hn, hg.symm⟩)
    refine ⟨g, off, e, ?_, fun j u hu => ?_⟩
    · rcases Nat.lt_or_ge g w'.heap.size with hl | hl
      · exact hl
      · rw [Array.getElem?_eq_none hl, Array.getElem?_eq_getElem h6] at hb; cases hb
    · have := h7 j u hu
      unfold World.cell? at this ⊢
      simp only at this ⊢
      rw [hb]; exact this
  · obtain ⟨hn, rfl⟩ := mem_fpN.1 hg
    obtain ⟨g, off, e, h6, h7⟩ := h5 hn
    rw [h2, e]; exact h6
def atW (L : List (List Value)) (i : Nat) : List Value := L.getD i []
def at3 (L : List (List (List St))) (i : Nat) : List (List St) := L.getD i []
theorem at3_eq {L : List (List (List St))} {i : Nat} (h : i < L.length) : at3 L i = L[i] := by unfold at3; rw [List.getD_eq_getElem?_getD, List.getElem?_eq_getElem h]; rfl
theorem atR_ext {A B : List (List St)} (hl : A.length = B.length) (h : ∀ j, j < A.length → atR A j = atR B j) : A = B := by
  apply List.ext_getElem hl
  intro j h1 h2
  have := h j h1
  unfold atR at this
  rwa [List.getD_eq_getElem?_getD, List.getD_eq_getElem?_getD, List.getElem?_eq_getElem h1, List.getElem?_eq_getElem h2] at this
def Sm3 (L : List (List (List St))) : Prop := L.length ≤ 1000 ∧ (∀ i, (at3 L i).length ≤ 1000) ∧ ∀ i j, (atR (at3 L i) j).length ≤ 20000000
structure In3 (rs : List Value) (vss : List (List Value)) (L : List (List (List St))) (w : World) : Prop where
  lr : rs.length = L.length
  ls : vss.length = L.length
  lv : ∀ i, i < L.length → (atW vss i).length = (at3 L i).length
  row : ∀ i, i < L.length → RdV w 1 (atV rs i) (at3 L i).length (cV (atW vss i))
  one : ∀ i j, i < L.length → j < (at3 L i).length → RdS w (atV (atW vss i) j) (atR (at3 L i) j)
def fpI (rs : List Value) (vss : List (List Value)) (L : List (List (List St))) : List Nat :=
  (List.range L.length).flatMap fun i => fpN (atV rs i) (at3 L i).length ++ (List.range (at3 L i).length).flatMap fun j => fpN (atV (atW vss i) j) (atR (at3 L i) j).length
theorem mem_fpI {rs : List Value} {vss : List (List Value)} {L : List (List (List St))} {g : Nat} : g ∈ fpI rs vss L ↔ ∃ i, i < L.length ∧ (g ∈ fpN (atV rs i) (at3 L i).length ∨ ∃ j, j < (at3 L i).length ∧ g ∈ fpN (atV (atW vss i) j) (atR (at3 L i) j).length) := by
  unfold fpI
  simp only [List.mem_flatMap, List.mem_range, List.mem_append]
theorem In3.loc (rs : List Value) (vss : List (List Value)) (L : List (List (List St))) : Loc (fpI rs vss L) (In3 rs vss L) := fun w w' hk h => by
  refine ⟨⟨h.lr, h.ls, h.lv, fun i hi => ?_, fun i j hi hj => ?_⟩, fun g hg => ?_⟩
  · exact ((h.row i hi).keep fun g hg => hk g (mem_fpI.2 ⟨i, hi, .inl hg⟩)).1
  · exact (RdV.keep (h.one i j hi hj) fun g hg => hk g (mem_fpI.2 ⟨i, hi, .inr ⟨j, hj, hg⟩⟩)).1
  · obtain ⟨i, hi, h1 | ⟨j, hj, h1⟩⟩ := mem_fpI.1 hg
    · exact ((h.row i hi).keep (w' := w) fun _ _ => rfl).2 g h1
    · exact (RdV.keep (w' := w) (h.one i j hi hj) fun _ _ => rfl).2 g h1
structure Rd3 (v : Value) (rs : List Value) (vss : List (List Value)) (L : List (List (List St))) (w : World) : Prop where
  top : RdV w 1 v L.length (cV rs)
  inn : In3 rs vss L w
def fp3 (v : Value) (rs : List Value) (vss : List (List Value)) (L : List (List (List St))) : List Nat := fpN v L.length ++ fpI rs vss L
theorem Rd3.loc (v : Value) (rs : List Value) (vss : List (List Value)) (L : List (List (List St))) : Loc (fp3 v rs vss L) (Rd3 v rs vss L) := fun w w' hk h => by
  have h1 := h.top.keep (w' := w') fun g hg => hk g (List.mem_append.2 (.inl hg))
  have h2 := In3.loc rs vss L w w' (fun g hg => hk g (List.mem_append.2 (.inr hg))) h.inn
  refine ⟨⟨h1.1, h2.1⟩, fun g hg => ?_⟩
  rcases List.mem_append.1 hg with h3 | h3
  · exact h1.2 g h3
  · exact h2.2 g h3
theorem in3_nil (w : World) : In3 [] [] [] w := ⟨rfl, rfl, fun i h => absurd h (Nat.not_lt_zero i), fun i h => absurd h (Nat.not_lt_zero i), fun i _ h => absurd h (Nat.not_lt_zero i)⟩
theorem rd3_nil (w : World) : Rd3 nilV [] [] [] w := ⟨nil_rd w, in3_nil w⟩
theorem atW_app {L K : List (List Value)} {i : Nat} (h : i < L.length) : atW (L ++ K) i = atW L i := by
  unfold atW; rw [List.getD_eq_getElem?_getD, List.getD_eq_getElem?_getD, List.getElem?_append_left h]
theorem at3_app {L K : List (List (List St))} {i : Nat} (h : i < L.length) : at3 (L ++ K) i = at3 L i := by
  unfold at3; rw [List.getD_eq_getElem?_getD, List.getD_eq_getElem?_getD, List.getElem?_append_left h]
theorem atW_last {L : List (List Value)} {x : List Value} {i : Nat} (h : i = L.length) : atW (L ++ [x]) i = x := by
  subst h; unfold atW; rw [List.getD_eq_getElem?_getD, List.getElem?_append_right (Nat.le_refl _)]; simp
theorem at3_last {L : List (List (List St))} {x : List (List St)} {i : Nat} (h : i = L.length) : at3 (L ++ [x]) i = x := by
  subst h; unfold at3; rw [List.getD_eq_getElem?_getD, List.getElem?_append_right (Nat.le_refl _)]; simp
section
variable {w : World} {rs vs : List Value} {vss : List (List Value)} {L : List (List (List St))} {K : List (List St)} {v : Value}
theorem own_fpN {t : TypeId} {b m n : Nat} {xs : List Value} (h : w.ownsRow b t m v n xs) {g : Nat} (hg : g ∈ fpN v n) : v.ownBlock = some g := by
  obtain ⟨hn, rfl⟩ := mem_fpN.1 hg
  rcases h.2 with h4 | ⟨g', cap, cur, h4, _⟩
  · omega
  · rw [h4]; rfl
end
end Go.Proofs.YtcnmmnhlhenifaaGreat
namespace Go.Proofs.YtcnmmnhlhenifaaGreat
open Go.RowKit
set_option maxRecDepth 100000
set_option linter.unusedSimpArgs false
set_option linter.unusedVariables false
def Run : Int → List Ed → Int → Prop
  | i, [], j => i = j
  | i, x :: r, j => x.f = i ∧ Run x.t r j
def sumW : List Ed → St
  | [] => St.zero
  | x :: r => x.p.add (sumW r)
theorem run_app {a b : List Ed} {j : Int} : ∀ {i : Int}, Run i (a ++ b) j ↔ ∃ k, Run i a k ∧ Run k b j := by
  induction a with
  | nil => intro i; exact ⟨fun h => ⟨i, rfl, h⟩, fun ⟨k, h1, h2⟩ => by cases h1; exact h2⟩
  | cons x r ih =>
    intro i
    show (x.f = i ∧ Run x.t (r ++ b) j) ↔ _
    rw [ih]
    exact ⟨fun ⟨h1, k, h2, h3⟩ => ⟨k, ⟨h1, h2⟩, h3⟩, fun ⟨k, ⟨h1, h2⟩, h3⟩ => ⟨h1, k, h2, h3⟩⟩
theorem sum_app {a b : List Ed} : sumW (a ++ b) = (sumW a).add (sumW b) := by
  induction a with
  | nil => show sumW b = _; rw [St.eq_iff]; simp [St.add, sumW, St.zero]
  | cons x r ih =>
    show x.p.add (sumW (r ++ b)) = (x.p.add (sumW r)).add (sumW b)
    rw [ih, St.eq_iff]
    simp only [St.add]; omega
def Fits (n : Int) (E : List Ed) : Prop := ∀ x ∈ E, fitsB n x = true
theorem fit_t {n : Int} {E : List Ed} (h : Fits n E) {x : Ed} (hx : x ∈ E) : (0 ≤ x.f ∧ x.f < n ∧ 0 ≤ x.t ∧ x.t < n) ∧ 0 ≤ x.p.e ∧ x.p.e ≤ 1000000 ∧ 0 ≤ x.p.r ∧ x.p.r ≤ 1000000 ∧ x.p.rightB = true := by
  have h1 := fits_iff.1 (h x hx)
  have h2 := St.right_iff.1 h1.2
  exact ⟨h1.1, h2.1.1, h2.1.2, h2.2.1, h2.2.2, h1.2⟩
theorem sum_pos {n : Int} {E es : List Ed} (hf : Fits n E) (h : ∀ x ∈ es, x ∈ E) : 0 ≤ (sumW es).e ∧ 0 ≤ (sumW es).r := by
  induction es with
  | nil => exact ⟨Int.le_refl _, Int.le_refl _⟩
  | cons x r ih =>
    have h1 := ih (fun y hy => h y (by simp [hy]))
    have h2 := fit_t hf (h x (by simp))
    simp only [sumW, St.add]; omega
theorem run_in {n : Int} {E es : List Ed} (hf : Fits n E) (h : ∀ x ∈ es, x ∈ E) {i j : Int} (hi : 0 ≤ i ∧ i < n) (hr : Run i es j) : 0 ≤ j ∧ j < n := by
  induction es generalizing i with
  | nil => cases hr; exact hi
  | cons x r ih =>
    have h2 := fit_t hf (h x (by simp))
    exact ih (fun y hy => h y (by simp [hy])) (by omega) hr.2
def WayS (E : List Ed) (i j : Int) (t : St) : Prop := ∃ es : List Ed, (∀ x ∈ es, x ∈ E) ∧ Run i es j ∧ sumW es = t ∧ t.rightB = true
theorem way_nil (E : List Ed) (i : Int) : WayS E i i St.zero := ⟨[], by simp, rfl, rfl, by decide⟩
theorem way_right {E : List Ed} {i j : Int} {t : St} (h : WayS E i j t) : t.rightB = true := by
  obtain ⟨_, _, _, _, h⟩ := h; exact h
theorem way_snoc {E : List Ed} {i : Int} {s : St} {x : Ed} (h : WayS E i x.f s) (hx : x ∈ E) (ha : s.afterB x.p = true) : WayS E i x.t (s.after x.p) := by
  obtain ⟨es, h1, h2, h3, h4⟩ := h
  refine ⟨es ++ [x], fun y hy => ?_, run_app.2 ⟨_, h2, rfl, rfl⟩, ?_, after_right ha⟩
  · rcases List.mem_append.1 hy with hy | hy
    · exact h1 y hy
    · rw [List.mem_singleton.1 hy]; exact hx
  · have := after_t ha
    rw [sum_app, h3, St.eq_iff]
    simp only [sumW, St.add, St.zero]; omega
def nodesW : Int → List Ed → List Int
  | i, [] => [i]
  | i, x :: r => i :: nodesW x.t r
theorem nodes_len {es : List Ed} : ∀ {i : Int}, (nodesW i es).length = es.length + 1 := by
  induction es with
  | nil => intro i; rfl
  | cons x r ih => intro i; show (nodesW x.t r).length + 1 = _; rw [ih]; rfl
theorem nodes_in {n : Int} {E es : List Ed} (hf : Fits n E) (h : ∀ x ∈ es, x ∈ E) {i : Int} (hi : 0 ≤ i ∧ i < n) : ∀ q ∈ nodesW i es, 0 ≤ q ∧ q < n := by
  induction es generalizing i with
  | nil => intro q hq; rw [List.mem_singleton.1 hq]; exact hi
  | cons x r ih =>
    intro q hq
    have h2 := fit_t hf (h x (by simp))
    rcases List.mem_cons.1 hq with rfl | hq
    · exact hi
    · exact ih (fun y hy => h y (by simp [hy])) (by omega) q hq
theorem nodup_small : ∀ (n : Nat) (l : List Int), l.Nodup → (∀ q ∈ l, 0 ≤ q ∧ q < (n : Int)) → l.length ≤ n
  | 0, l, _, h => by
    cases l with
    | nil => simp
    | cons x r => have := h x (by simp); omega
  | n + 1, l, hn, h => by
    by_cases hm : (n : Int) ∈ l
    · have h1 := nodup_small n (l.erase (n : Int)) (hn.erase _) (fun q hq => by
        have h2 := (hn.mem_erase_iff).1 hq
        have h3 := h q h2.2
        have h4 : q ≠ (n : Int) := h2.1
        omega)
      rw [List.length_erase_of_mem hm] at h1
      omega
    · have h1 := nodup_small n l hn (fun q hq => by
        have h3 := h q hq
        have h4 : q ≠ (n : Int) := fun e => hm (e ▸ hq)
        omega)
      omega
theorem run_at {es : List Ed} {j k : Int} : ∀ {i : Int}, Run i es j → k ∈ nodesW i es → ∃ a b, es = a ++ b ∧ Run i a k ∧ Run k b j := by
  induction es with
  | nil => intro i h hk; rw [List.mem_singleton.1 hk]; exact ⟨[], [], rfl, rfl, h⟩
  | cons x r ih =>
    intro i h hk
    rcases List.mem_cons.1 hk with rfl | hk
    · exact ⟨[], x :: r, rfl, rfl, h⟩
    · obtain ⟨a, b, h1, h2, h3⟩ := ih h.2 hk
      exact ⟨x :: a, b, by rw [h1]; rfl, ⟨h.1, h2⟩, h3⟩
theorem run_loop {es : List Ed} {j : Int} : ∀ {i : Int}, Run i es j → ¬ (nodesW i es).Nodup → ∃ a b c k, es = a ++ b ++ c ∧ b ≠ [] ∧ Run i a k ∧ Run k b k ∧ Run k c j := by
  induction es with
  | nil => intro i h hd; exact absurd (by simp [nodesW]) hd
  | cons x r ih =>
    intro i h hd
    by_cases hi : i ∈ nodesW x.t r
    · obtain ⟨a, b, h1, h2, h3⟩ := run_at h.2 hi
      exact ⟨[], x :: a, b, i, by rw [h1]; rfl, by simp, rfl, ⟨h.1, h2⟩, h3⟩
    · have h2 : ¬ (nodesW x.t r).Nodup := fun h3 => hd (List.nodup_cons.2 ⟨hi, h3⟩)
      obtain ⟨a, b, c, k, h3, h4, h5, h6, h7⟩ := ih h.2 h2
      exact ⟨x :: a, b, c, k, by rw [h3]; rfl, h4, ⟨h.1, h5⟩, h6, h7⟩
theorem run_short {n : Nat} {E : List Ed} (hf : Fits (n : Int) E) {i j : Int} (hi : 0 ≤ i ∧ i < (n : Int)) : ∀ (m : Nat) (es : List Ed), es.length ≤ m → (∀ x ∈ es, x ∈ E) → Run i es j → ∃ fs : List Ed, fs.length < n ∧ (∀ x ∈ fs, x ∈ E) ∧ Run i fs j ∧ (sumW fs).leB (sumW es) = true
  | 0, es, hl, he, hr => ⟨es, by omega, he, hr, St.le_refl _⟩
  | m + 1, es, hl, he, hr => by
    by_cases hd : (nodesW i es).Nodup
    · have h1 := nodup_small n _ hd (nodes_in hf he hi)
      rw [nodes_len] at h1
      exact ⟨es, by omega, he, hr, St.le_refl _⟩
    · obtain ⟨a, b, c, k, rfl, hb, h1, h2, h3⟩ := run_loop hr hd
      have hbl : 0 < b.length := List.length_pos_iff.2 hb
      simp only [List.length_append] at hl
      have hac : ∀ x ∈ a ++ c, x ∈ E := fun x hx => he x (by
        rcases List.mem_append.1 hx with h | h <;> simp [h])
      obtain ⟨fs, f1, f2, f3, f4⟩ := run_short hf hi m (a ++ c) (by rw [List.length_append]; omega) hac (run_app.2 ⟨k, h1, h3⟩)
      refine ⟨fs, f1, f2, f3, St.le_trans f4 ?_⟩
      have hp := sum_pos hf (es := b) (fun x hx => he x (by simp [hx]))
      rw [St.le_iff, sum_app, sum_app, sum_app]
      simp only [St.add]; omega
def fromE (row : List (List St)) (j : Nat) (x : Ed) : List St := if x.t = (j : Int) then sumsP (atR row x.f.toNat) [x.p] else []
def nextR (E : List Ed) (row : List (List St)) (j : Nat) : List St := atR row j ++ E.flatMap (fromE row j)
def rowM (E : List Ed) (n i : Nat) : Nat → List (List St)
  | 0 => (List.replicate n []).set i [St.zero]
  | r + 1 => (List.range n).map fun j => minL (nextR E (rowM E n i r) j)
theorem row_len (E : List Ed) (n i : Nat) : ∀ r, (rowM E n i r).length = n
  | 0 => by simp [rowM]
  | r + 1 => by simp [rowM]
theorem atR_map {n j : Nat} {f : Nat → List St} (hj : j < n) : atR ((List.range n).map f) j = f j := by
  unfold atR
  rw [List.getD_eq_getElem?_getD, List.getElem?_map, List.getElem?_range hj]; rfl
theorem atR_out {L : List (List St)} {j : Nat} (h : L.length ≤ j) : atR L j = [] := by
  unfold atR
  rw [List.getD_eq_getElem?_getD, List.getElem?_eq_none h]; rfl
theorem row_succ {E : List Ed} {n i r j : Nat} (hj : j < n) : atR (rowM E n i (r + 1)) j = minL (nextR E (rowM E n i r) j) := atR_map hj
theorem mem_from {row : List (List St)} {j : Nat} {x : Ed} {t : St} : t ∈ fromE row j x ↔ x.t = (j : Int) ∧ ∃ s ∈ atR row x.f.toNat, s.afterB x.p = true ∧ s.after x.p = t := by
  unfold fromE
  split
  · rename_i e
    rw [mem_sums]
    exact ⟨fun ⟨p, hp, q, hq, h1, h2⟩ => ⟨e, p, hp, by rw [List.mem_singleton.1 hq] at h1 h2; exact ⟨h1, h2⟩⟩, fun ⟨_, p, hp, h1, h2⟩ => ⟨p, hp, x.p, List.mem_singleton.2 rfl, h1, h2⟩⟩
  · rename_i e
    exact ⟨(fun h => by cases h), fun h => absurd h.1 e⟩
theorem mem_next {E : List Ed} {row : List (List St)} {j : Nat} {t : St} : t ∈ nextR E row j ↔ t ∈ atR row j ∨ ∃ x ∈ E, x.t = (j : Int) ∧ ∃ s ∈ atR row x.f.toNat, s.afterB x.p = true ∧ s.after x.p = t := by
  unfold nextR
  rw [List.mem_append, List.mem_flatMap]
  simp only [mem_from]
theorem row_sound {n : Nat} {E : List Ed} (hf : Fits (n : Int) E) {i : Nat} (hi : i < n) : ∀ (r j : Nat), j < n → ∀ t ∈ atR (rowM E n i r) j, WayS E (i : Int) (j : Int) t
  | 0, j, hj, t, ht => by
    have : atR (rowM E n i 0) j = if i = j then [St.zero] else [] := by
      show atR ((List.replicate n []).set i [St.zero]) j = _
      rw [atR_set (by simpa using hi)]
      split
      · rfl
      · unfold atR; rw [List.getD_eq_getElem?_getD, List.getElem?_replicate]; split <;> rfl
    rw [this] at ht
    split at ht
    · rename_i e; subst e; rw [List.mem_singleton.1 ht]; exact way_nil _ _
    · cases ht
  | r + 1, j, hj, t, ht => by
    rw [row_succ hj] at ht
    rcases mem_next.1 (mem_minL.1 ht).1 with h | ⟨x, hx, e, s, hs, h1, h2⟩
    · exact row_sound hf hi r j hj t h
    · have hx' := fit_t hf hx
      have h3 := row_sound hf hi r x.f.toNat (by omega) s hs
      rw [show ((x.f.toNat : Nat) : Int) = x.f by omega] at h3
      rw [← e, ← h2]
      exact way_snoc h3 hx h1
theorem row_least {n : Nat} {E : List Ed} {i r j : Nat} (hj : j < n) {t : St} (ht : t ∈ nextR E (rowM E n i r) j) : covB (atR (rowM E n i (r + 1)) j) t = true := by
  rw [row_succ hj]
  obtain ⟨m, hm, h⟩ := least_of ht
  exact cov_iff.2 ⟨m, hm, h⟩
theorem row_grow {n : Nat} {E : List Ed} {i r j : Nat} (hj : j < n) {t : St} (h : covB (atR (rowM E n i r) j) t = true) : covB (atR (rowM E n i (r + 1)) j) t = true := by
  obtain ⟨m, hm, h1⟩ := cov_iff.1 h
  obtain ⟨k, hk, h2⟩ := cov_iff.1 (row_least hj (mem_next.2 (.inl hm)))
  exact cov_iff.2 ⟨k, hk, St.le_trans h2 h1⟩
theorem row_more {n : Nat} {E : List Ed} {i r j : Nat} (hj : j < n) {t : St} (h : covB (atR (rowM E n i r) j) t = true) : ∀ d, covB (atR (rowM E n i (r + d)) j) t = true
  | 0 => h
  | d + 1 => row_grow hj (row_more hj h d)
theorem row_covers {n : Nat} {E : List Ed} (hf : Fits (n : Int) E) {i : Nat} (hi : i < n) : ∀ (m : Nat) (es : List Ed), es.length = m → (∀ x ∈ es, x ∈ E) → ∀ j : Int, Run (i : Int) es j → (sumW es).rightB = true → covB (atR (rowM E n i m) j.toNat) (sumW es) = true
  | 0, es, hl, he, j, hr, hs => by
    have h0 : es = [] := List.length_eq_zero_iff.1 hl
    subst h0
    have hj : (i : Int) = j := hr
    rw [← hj]
    refine cov_iff.2 ⟨St.zero, ?_, St.le_refl _⟩
    show St.zero ∈ atR ((List.replicate n []).set i [St.zero]) ((i : Int)).toNat
    rw [atR_set (by simpa using hi), if_pos (by omega)]
    exact List.mem_singleton.2 rfl
  | m + 1, es, hl, he, j, hr, hs => by
    rcases List.eq_nil_or_concat es with h0 | ⟨fs, x, h0⟩
    · subst h0; simp at hl
    · rw [List.concat_eq_append] at h0
      subst h0
      obtain ⟨k, h1, h2⟩ := run_app.1 hr
      have h3 : x.f = k := h2.1
      have h4 : x.t = j := h2.2
      have hx := fit_t hf (he x (by simp))
      have hfs : ∀ y ∈ fs, y ∈ E := fun y hy => he y (by simp [hy])
      have hp := sum_pos hf hfs
      have hs' := right_t hs
      have ha : sumW (fs ++ [x]) = (sumW fs).add x.p := by
        rw [sum_app, St.eq_iff]; simp only [sumW, St.add, St.zero]; omega
      have hs1 := St.right_iff.1 hs
      rw [ha] at hs1
      simp only [St.add] at hs1
      have hr1 : (sumW fs).rightB = true := St.right_iff.2 (by omega)
      have ih := row_covers hf hi m fs (by simpa using hl) hfs k h1 hr1
      obtain ⟨q, hq, hle⟩ := cov_iff.1 ih
      have haft : (sumW fs).afterB x.p = true := after_iff.2 (by have := right_t hr1; omega)
      have hqr : q.rightB = true := way_right (row_sound hf hi m k.toNat (by omega) q hq)
      have hm := after_mono hle (St.le_refl x.p) hqr hx.2.2.2.2.2 haft
      have hnext : q.after x.p ∈ nextR E (rowM E n i m) j.toNat := mem_next.2 (.inr ⟨x, he x (by simp), by omega, q, by rw [h3]; exact hq, hm.1, rfl⟩)
      obtain ⟨z, hz, hzl⟩ := cov_iff.1 (row_least (by omega) hnext)
      refine cov_iff.2 ⟨z, hz, St.le_trans hzl (St.le_trans hm.2 ?_)⟩
      have := after_t haft
      rw [ha, St.le_iff]; simp only [St.add]; omega
theorem clo_covers {n : Nat} {E : List Ed} (hf : Fits (n : Int) E) {i : Nat} (hi : i < n) {j : Int} {t : St} (h : WayS E (i : Int) j t) : covB (atR (rowM E n i n) j.toNat) t = true := by
  obtain ⟨es, h1, h2, rfl, h4⟩ := h
  obtain ⟨fs, f1, f2, f3, f4⟩ := run_short hf (by omega) es.length es (Nat.le_refl _) h1 h2
  have hj := run_in hf h1 (by omega) h2
  have hp := sum_pos hf f2
  have hl := le_t f4
  have hr := right_t h4
  have hfr : (sumW fs).rightB = true := St.right_iff.2 (by omega)
  have h5 := row_covers hf hi fs.length fs rfl f2 j f3 hfr
  have h6 := row_more (by omega) h5 (n - fs.length)
  rw [show fs.length + (n - fs.length) = n by omega] at h6
  obtain ⟨q, hq, hle⟩ := cov_iff.1 h6
  exact cov_iff.2 ⟨q, hq, St.le_trans hle f4⟩
theorem clo_sound {n : Nat} {E : List Ed} (hf : Fits (n : Int) E) {i j : Nat} (hi : i < n) (hj : j < n) {t : St} (h : t ∈ atR (rowM E n i n) j) : WayS E (i : Int) (j : Int) t := row_sound hf hi n j hj t h
theorem clo_asc {n : Nat} {E : List Ed} {i j : Nat} (hj : j < n) : Asc (atR (rowM E n i n) j) := by
  cases n with
  | zero => omega
  | succ n => rw [row_succ hj]; exact minL_asc _
theorem clo_anti {n : Nat} {E : List Ed} {i j : Nat} (hj : j < n) {s t : St} (hs : s ∈ atR (rowM E n i n) j) (ht : t ∈ atR (rowM E n i n) j) (h : s.leB t = true) : s = t := by
  cases n with
  | zero => omega
  | succ n =>
    rw [row_succ hj] at hs ht
    exact (mem_minL.1 ht).2 s (mem_minL.1 hs).1 h
theorem clo_uniq {n : Nat} {E : List Ed} (hf : Fits (n : Int) E) {i j : Nat} (hi : i < n) (hj : j < n) {K : List St} (ha : Asc K) (hs : ∀ t ∈ K, WayS E (i : Int) (j : Int) t) (hc : ∀ t, WayS E (i : Int) (j : Int) t → covB K t = true) (hm : ∀ s ∈ K, ∀ t ∈ K, s.leB t = true → s = t) : K = atR (rowM E n i n) j := by
  have hcov : ∀ t, WayS E (i : Int) (j : Int) t → covB (atR (rowM E n i n) j) t = true := fun t ht => by
    have := clo_covers hf hi ht
    rwa [show ((j : Int)).toNat = j by omega] at this
  refine ha.uniq (clo_asc hj) fun t => ⟨fun ht => ?_, fun ht => ?_⟩
  · obtain ⟨q, hq, h1⟩ := cov_iff.1 (hcov t (hs t ht))
    obtain ⟨p, hp, h2⟩ := cov_iff.1 (hc q (clo_sound hf hi hj hq))
    have h3 := hm p hp t ht (St.le_trans h2 h1)
    subst h3
    rw [← St.le_antisymm h1 h2]; exact hq
  · obtain ⟨q, hq, h1⟩ := cov_iff.1 (hc t (clo_sound hf hi hj ht))
    obtain ⟨p, hp, h2⟩ := cov_iff.1 (hcov q (hs q hq))
    have h3 := clo_anti hj hp ht (St.le_trans h2 h1)
    subst h3
    rw [← St.le_antisymm h1 h2]; exact hq
def tab (n : Nat) (f : Nat → List St) : List (List St) := (List.range n).map f
def cpL (row : List (List St)) (n j : Nat) : List (List St) := tab n fun q => if q < j then atR row q else []
def edL (E : List Ed) (row : List (List St)) (n k : Nat) : List (List St) := tab n fun q => atR row q ++ (E.take k).flatMap (fromE row q)
def inL (E : List Ed) (row : List (List St)) (n k m : Nat) : List (List St) := tab n fun q => atR row q ++ (E.take k).flatMap (fromE row q) ++ if (atG E k).t = (q : Int) then sumsP ((atR row (atG E k).f.toNat).take m) [(atG E k).p] else []
def mnL (E : List Ed) (row : List (List St)) (n j : Nat) : List (List St) := tab n fun q => if q < j then minL (nextR E row q) else atR row q
theorem sums_one {A : List St} {p : St} {m : Int} (h0 : 0 ≤ m) (h : m < (A.length : Int)) : sumsP (A.take (m + 1).toNat) [p] = sumsP (A.take m.toNat) [p] ++ if (atS A m.toNat).afterB p = true then [(atS A m.toNat).after p] else [] := by
  rw [← take_snocS h0 h]
  unfold sumsP
  rw [List.flatMap_append, List.flatMap_singleton]
  congr 1
  by_cases ha : (atS A m.toNat).afterB p = true
  · simp [ha]
  · simp [ha]
theorem asc_small : ∀ (m : Nat) (L : List St), Asc L → (∀ s ∈ L, ∀ t ∈ L, s.leB t = true → s = t) → (∀ t ∈ L, t.rightB = true) → (∀ t ∈ L, t.r < (m : Int)) → L.length ≤ m
  | 0, L, _, _, hr, hm => by
    cases L with
    | nil => simp
    | cons x l => have := hm x (by simp); have := right_t (hr x (by simp)); omega
  | m + 1, L, ha, hl, hr, hm => by
    cases L with
    | nil => simp
    | cons x l =>
      have hx : ∀ t ∈ l, t.r < x.r := fun t ht => by
        have h1 := St.ahead_iff.1 (ha.head ht)
        have h2 : ¬ x.r ≤ t.r := fun h => by
          have h3 := hl x (by simp) t (by simp [ht]) (St.le_iff.2 (by omega))
          have h4 := ha.head ht
          rw [h3] at h4
          rw [ahead_irr] at h4; cases h4
        omega
      have h1 := asc_small m l ha.tail (fun s hs t ht => hl s (by simp [hs]) t (by simp [ht])) (fun t ht => hr t (by simp [ht])) (fun t ht => by
        have h2 := hm x (by simp)
        have h3 := hx t ht
        omega)
      simpa using h1
def cloT (E : List Ed) (n i : Nat) : List (List (List St)) := (List.range i).map fun q => rowM E n q n
def cloRows (E : List Ed) (n : Nat) : List (List (List St)) := cloT E n n
theorem cloT_len (E : List Ed) (n i : Nat) : (cloT E n i).length = i := by simp [cloT]
theorem cloT_at {E : List Ed} {n i q : Nat} (h : q < i) : at3 (cloT E n i) q = rowM E n q n := by
  unfold at3 cloT
  rw [List.getD_eq_getElem?_getD, List.getElem?_map, List.getElem?_range h]; rfl
theorem cloT_succ {E : List Ed} {n : Nat} {i : Int} (h0 : 0 ≤ i) : cloT E n i.toNat ++ [rowM E n i.toNat n] = cloT E n (i + 1).toNat := by
  rw [show (i + 1).toNat = i.toNat + 1 by omega]
  unfold cloT
  rw [List.range_succ, List.map_append]; rfl
def cloG (n : Int) (E : List Ed) : List (List (List St)) × Int :=
  if (checkG n E).1 ≠ 0 then ([], (checkG n E).1)
  else if (cloRows E n.toNat).any (fun row => row.any fun l => decide (64 < l.length)) then ([], 10)
  else (cloRows E n.toNat, 0)
theorem check_ok {n : Int} {E : List Ed} (h : (checkG n E).1 = 0) : 1 ≤ n ∧ n ≤ 8 ∧ E.length ≤ 16 ∧ Fits n E ∧ n ≤ ((orderL E n.toNat).length : Int) ∧ checkG n E = (0, -1) := by
  unfold checkG at h ⊢
  split at h
  · simp at h
  · rename_i hb
    rw [if_neg hb]
    split at h
    · simp at h
    · rename_i hx
      have hf : Fits n E := fun x hm => by
        have := List.findIdx?_eq_none_iff.1 hx x hm
        simpa using this
      split at h
      · simp at h
      · rename_i ho
        exact ⟨by omega, by omega, by omega, hf, by omega, if_neg ho⟩
theorem clo_bad {n : Int} {E : List Ed} (h : ¬ (checkG n E).1 = 0) : cloG n E = ([], (checkG n E).1) := if_pos h
theorem clo_full {n : Int} {E : List Ed} {i j : Nat} (h : (checkG n E).1 = 0) (hi : i < n.toNat) (hj : j < n.toNat) (hl : 64 < (atR (rowM E n.toNat i n.toNat) j).length) : cloG n E = ([], 10) := by
  unfold cloG
  rw [if_neg (fun h2 => h2 h), if_pos]
  rw [List.any_eq_true]
  refine ⟨rowM E n.toNat i n.toNat, List.mem_map.2 ⟨i, List.mem_range.2 hi, rfl⟩, List.any_eq_true.2 ⟨atR (rowM E n.toNat i n.toNat) j, ?_, decide_eq_true hl⟩⟩
  have hjl : j < (rowM E n.toNat i n.toNat).length := by rw [row_len]; exact hj
  unfold atR
  rw [List.getD_eq_getElem?_getD, List.getElem?_eq_getElem hjl]
  exact List.getElem_mem hjl
theorem clo_ok {n : Int} {E : List Ed} (h : (checkG n E).1 = 0) (hl : ∀ i, i < n.toNat → ∀ j, j < n.toNat → (atR (rowM E n.toNat i n.toNat) j).length ≤ 64) : cloG n E = (cloT E n.toNat n.toNat, 0) := by
  unfold cloG
  rw [if_neg (fun h2 => h2 h), if_neg]
  · rfl
  · intro h2
    obtain ⟨row, hr, h3⟩ := List.any_eq_true.1 h2
    obtain ⟨i, hi, rfl⟩ := List.mem_map.1 hr
    obtain ⟨l, hm, h4⟩ := List.any_eq_true.1 h3
    obtain ⟨j, hj, rfl⟩ := List.mem_iff_getElem.1 hm
    rw [row_len] at hj
    have h5 := hl i (List.mem_range.1 hi) j hj
    have h6 := of_decide_eq_true h4
    unfold atR at h5
    rw [List.getD_eq_getElem?_getD, List.getElem?_eq_getElem (by rw [row_len]; exact hj)] at h5
    simp only [Option.getD_some] at h5
    omega
theorem clo_cases (n : Int) (E : List Ed) : (cloG n E).1 = [] ∧ (cloG n E).2 ≠ 0 ∨ (1 ≤ n ∧ n ≤ 8 ∧ E.length ≤ 16 ∧ Fits n E ∧ n ≤ ((orderL E n.toNat).length : Int) ∧ checkG n E = (0, -1)) ∧ cloG n E = (cloT E n.toNat n.toNat, 0) ∧ ∀ i, i < n.toNat → ∀ j, (atR (rowM E n.toNat i n.toNat) j).length ≤ 64 := by
  by_cases h : (checkG n E).1 = 0
  · by_cases hl : ∀ i, i < n.toNat → ∀ j, j < n.toNat → (atR (rowM E n.toNat i n.toNat) j).length ≤ 64
    · refine .inr ⟨check_ok h, clo_ok h hl, fun i hi j => ?_⟩
      rcases Nat.lt_or_ge j n.toNat with hj | hj
      · exact hl i hi j hj
      · rw [atR_out (by rw [row_len]; exact hj)]; simp
    · refine .inl ?_
      have : ∃ i, i < n.toNat ∧ ∃ j, j < n.toNat ∧ 64 < (atR (rowM E n.toNat i n.toNat) j).length := by
        apply Classical.byContradiction
        intro h2
        exact hl fun i hi j hj => by
          apply Classical.byContradiction
          intro h3
          exact h2 ⟨i, hi, j, hj, by omega⟩
      obtain ⟨i, hi, j, hj, h3⟩ := this
      rw [clo_full h hi hj h3]; simp
  · refine .inl ?_
    rw [clo_bad h]; exact ⟨rfl, h⟩
theorem at3_out {L : List (List (List St))} {i : Nat} (h : L.length ≤ i) : at3 L i = [] := by
  unfold at3; rw [List.getD_eq_getElem?_getD, List.getElem?_eq_none h]; rfl
theorem clo_sm (n : Int) (E : List Ed) : Sm3 (cloG n E).1 := by
  rcases clo_cases n E with h | ⟨h, e, hs⟩
  · rw [h.1]
    exact ⟨by simp, fun i => by rw [at3_out (by simp)]; simp, fun i j => by rw [at3_out (by simp), atR_out (by simp)]; simp⟩
  · rw [e]
    refine ⟨by rw [cloT_len]; omega, fun i => ?_, fun i j => ?_⟩
    · rcases Nat.lt_or_ge i n.toNat with hi | hi
      · rw [cloT_at hi, row_len]; omega
      · rw [at3_out (by rw [cloT_len]; exact hi)]; simp
    · rcases Nat.lt_or_ge i n.toNat with hi | hi
      · rw [cloT_at hi]; exact Nat.le_trans (hs i hi j) (by omega)
      · rw [at3_out (by rw [cloT_len]; exact hi), atR_out (by simp)]; simp
def ordG (n : Int) (E : List Ed) : List Int := if (checkG n E).1 = 0 then orderL E n.toNat else []
end Go.Proofs.YtcnmmnhlhenifaaGreat
namespace Go.Proofs.YtcnmmnhlhenifaaGreat
open Go.RowKit
set_option maxRecDepth 100000
set_option linter.unusedSimpArgs false
set_option linter.unusedVariables false
structure RowI (E : List Ed) (n : Nat) (s : List Bool × List Int) : Prop where
  told : ∀ k, k < n → (atB s.1 k = true ↔ (k : Int) ∈ s.2)
  nd : s.2.Nodup
  rng : ∀ q ∈ s.2, 0 ≤ q ∧ q < (n : Int)
  bef : ∀ x ∈ E, x.p = St.zero → ∀ a b, s.2 = a ++ x.t :: b → x.f ∈ a
end Go.Proofs.YtcnmmnhlhenifaaGreat
namespace Go.Proofs.YtcnmmnhlhenifaaGreat
open Go.RowKit
set_option maxRecDepth 100000
set_option linter.unusedSimpArgs false
set_option linter.unusedVariables false
def rightC (L : List (List (List St))) (p : Po) : Bool :=
  decide (1 ≤ L.length ∧ L.length ≤ 8) && L.all (fun r => decide (r.length = L.length)) && (decide (0 ≤ p.n ∧ p.n < (L.length : Int)) && p.t.rightB)
def placesC (L : List (List (List St))) (p : Po) (k : Int) : List St :=
  if rightC L p && decide (0 ≤ k ∧ k < (L.length : Int)) then minL (sumsP [p.t] (atR (at3 L p.n.toNat) k.toNat)) else []
def couldC (L : List (List (List St))) (a b : Po) : Bool := rightC L b && covB (placesC L a b.n) b.t
section
variable {L : List (List (List St))} {p a b d : Po} {k : Int}
theorem rightC_iff : rightC L p = true ↔ (1 ≤ L.length ∧ L.length ≤ 8) ∧ (∀ r ∈ L, r.length = L.length) ∧ (0 ≤ p.n ∧ p.n < (L.length : Int)) ∧ p.t.rightB = true := by
  unfold rightC; simp [and_assoc]
theorem rightC_at (h : rightC L p = true) : (1 ≤ L.length ∧ L.length ≤ 8) ∧ (0 ≤ p.n ∧ p.n < (L.length : Int)) ∧ p.t.rightB = true ∧ ∀ i, i < L.length → (at3 L i).length = L.length := by
  have z := rightC_iff.1 h
  exact ⟨z.1, z.2.2.1, z.2.2.2, fun i hi => z.2.1 _ (by rw [at3_eq hi]; exact List.getElem_mem hi)⟩
theorem pl_no (h : rightC L p = false ∨ ¬ (0 ≤ k ∧ k < (L.length : Int))) : placesC L p k = [] := by
  unfold placesC
  rcases h with h | h
  · rw [h]; rfl
  · rw [decide_eq_false h, Bool.and_false]; rfl
theorem pl_yes (h : rightC L p = true) (hk : 0 ≤ k ∧ k < (L.length : Int)) : placesC L p k = minL (sumsP [p.t] (atR (at3 L p.n.toNat) k.toNat)) := by
  unfold placesC; rw [h, decide_eq_true hk]; rfl
theorem mem_sums1 {t : St} {l : List St} {s : St} : s ∈ sumsP [t] l ↔ ∃ q ∈ l, t.afterB q = true ∧ t.after q = s := by
  rw [mem_sums]; simp
theorem aft_len (t : St) (l : List St) (k : Nat) : (partP [t] l 0 k).length ≤ l.length := by
  unfold partP
  simp only [List.take_zero, sumsP, List.flatMap_nil, List.nil_append, List.length_map]
  exact Nat.le_trans (List.length_filter_le _ _) (by rw [List.length_take]; omega)
theorem aft_zero (t : St) (l : List St) : [] = partP [t] l 0 (0 : Int).toNat := by simp [partP, sumsP]
theorem aft_end {t : St} {l : List St} {k : Int} (h : ¬ k < (l.length : Int)) : partP [t] l 0 k.toNat = sumsP [t] l := by
  have e : l.take k.toNat = l := List.take_of_length_le (by omega)
  simp only [partP, List.take_zero, e, sumsP, List.flatMap_nil, List.nil_append, List.flatMap_cons, List.append_nil]
  rfl
end
section
variable {n : Nat} {E : List Ed} {a b d p : Po} {k : Int}
theorem rightC_clo (h1 : 1 ≤ n) (h8 : n ≤ 8) : rightC (cloT E n n) p = true ↔ (0 ≤ p.n ∧ p.n < (n : Int)) ∧ p.t.rightB = true := by
  rw [rightC_iff, cloT_len]
  constructor
  · intro h; exact h.2.2
  · intro h
    refine ⟨⟨h1, h8⟩, fun r hr => ?_, h⟩
    obtain ⟨q, hq, rfl⟩ := List.mem_map.1 hr
    exact row_len E n q n
end
end Go.Proofs.YtcnmmnhlhenifaaGreat
namespace Go.Proofs.YtcnmmnhlhenifaaGreat
open Go.RowKit Go.Sort
set_option maxRecDepth 100000
set_option linter.unusedSimpArgs false
set_option linter.unusedVariables false
section
variable {α : Type} [Inhabited α] (P : Program) (g : Nat) (lb : Array Value) (lt : α → α → Bool) (sf : Nat) (sb : Array Value) (blk t n : Nat) (W0 : World) (cA : Array α → Array Value)
def LessOK : Prop := ∀ (d : Array α) (w : World) (i j : Nat), d.size = n → i < n → j < n → Out [blk] W0 w → Blk w blk t (cA d) →
  Calls P g (#[.int .i64 i, .int .i64 j] ++ lb) w fun e w' => e = .returned (.bool (lt d[i]! d[j]!)) ∧ Below w.heap.size w w'
def SwapOK : Prop := ∀ (d : Array α) (w : World) (i j : Nat), d.size = n → i < n → j < n → Blk w blk t (cA d) →
  ∃ w', (callFunc sf (#[.int .i64 i, .int .i64 j] ++ sb)).run P w = .ok (.value (.tuple #[])) w' ∧ Out [blk] w w' ∧ Blk w' blk t (cA (swp d i j))
def Turns (w : World) (Z : Value → Array α → Prop) (e : Ending) (w' : World) : Prop := ∃ v d', e = .returned v ∧ Out [blk] w w' ∧ Blk w' blk t (cA d') ∧ Z v d'
end
section
variable {α : Type} [Inhabited α] {P : Program} {g : Nat} {lb : Array Value} {lt : α → α → Bool} {sf : Nat} {sb : Array Value} {blk t n : Nat} {W0 w : World} {cA : Array α → Array Value}
theorem LessOK.at (h : LessOK P g lb lt blk t n W0 cA) {d : Array α} {i j : Nat} {ii jj : Int} (hs : d.size = n) (hi : i < n) (hj : j < n) (ei : ii = i) (ej : jj = j) (ho : Out [blk] W0 w) (hb : Blk w blk t (cA d)) :
    Calls P g ([.int .i64 ii, .int .i64 jj].toArray ++ lb) w fun e w' => e = .returned (.bool (lt d[i]! d[j]!)) ∧ Below w.heap.size w w' := by
  subst ei; subst ej
  exact h d w i j hs hi hj ho hb
theorem SwapOK.at (h : SwapOK P sf sb blk t n cA) {d : Array α} {i j : Nat} {ii jj : Int} (hs : d.size = n) (hi : i < n) (hj : j < n) (ei : ii = i) (ej : jj = j) (hb : Blk w blk t (cA d)) :
    ∃ w', (callFunc sf ([.int .i64 ii, .int .i64 jj].toArray ++ sb)).run P w = .ok (.value (.tuple #[])) w' ∧ Out [blk] w w' ∧ Blk w' blk t (cA (swp d i j)) := by
  subst ei; subst ej
  exact h d w i j hs hi hj hb
end
def cOne (d : Array Int) : Array Value := #[.int .i64 d[0]!]
section
variable {P : Program} {o : Oper} {a : Act} {x : Operand}
theorem run_callV {xs : List Operand} {ts : Array TypeId} {args : List Value} {f : Nat} {lb : Array Value} (ho : o.op = .call { callee := .value x, args := xs.toArray, argTypes := ts }) (hx : a.eval x = .func (.func f) #[] lb) (ha : xs.map a.eval = args) (w : World) :
    (execOp a.eval o).run P w = (callFunc f (args.toArray ++ lb)).run P w := by
  simp only [execOp, ho, resolve, hx, List.map_toArray, ha]
  simp [Deferred.ofValue, invoke]
theorem callFunc_enters {f : Nat} (he : enters P f = true) (args : Array Value) (w : World) : (callFunc f args).run P w = .ok (.enter f args) w := by
  unfold enters at he
  cases hf : P.funcs[f]? with
  | none => simp [hf] at he
  | some fn =>
    simp only [hf, Option.any_some, Bool.and_eq_true, Bool.not_eq_true', beq_eq_false_iff_ne, ne_eq] at he
    obtain ⟨h1, h2⟩ := he
    have h2' : fn.body ≠ none := by intro e; rw [e] at h2; simp at h2
    simp [callFunc, program, hf, h1, h2', Sem.run, Sem.run_bind]
end
section
variable {P : Program} {ops rest : List Oper} {o : Oper} {a : Act} {n d : Nat} {L : List (Nat × Value)} {Q : Exit → Act → World → Prop} {R : List Nat} {w w0 : World} {B : List Ent} {v u : Value} {x : Operand}
theorem sq_callV (F : Fr a n L) (M : Mm R w0 w B) (hw : Region.wanted o (yielded ops.toArray a.tmps) = true) {xs : List Operand} {ts : Array TypeId} {args : List Value} {f : Nat} {lb : Array Value} (ho : o.op = .call { callee := .value x, args := xs.toArray, argTypes := ts })
    (hx : a.eval x = .func (.func f) #[] lb) (he : enters P f = true) (ha : xs.map a.eval = args) (hc : Calls P f (args.toArray ++ lb) w fun e w' => e = .returned v ∧ Below w.heap.size w w') (hd : o.dst = some d) (hdn : Nat.blt d n = true)
    (h : ∀ a' w', Fr a' n ((d, v) :: L) → Mm R w0 w' B → wpList P ops.toArray Q rest a' w') : wpList P ops.toArray Q (o :: rest) a w :=
  wpList_step fun K hK => by
    rw [if_pos hw]
    unfold Oper.wp
    rw [run_callV ho hx ha w, callFunc_enters he]
    refine hc.mono fun e w' ⟨h1, h2⟩ => ?_
    subst h1
    exact hK _ _ (by rw [hd]; exact h _ _ (F.put hdn) (M.below h2))
theorem Mm.turned (M : Mm R w0 w B) {i g : Nat} {t : TypeId} {cs cs' : Array Value} {w' : World} (hi : B[i]? = some (.blk g t cs)) (ho : Out [g] w w') (hb : Blk w' g t cs') : Mm R w0 w' (B.set i (.blk g t cs')) :=
  M.swap hi (x' := .blk g t cs') ho hb (fun g h => .inl h) (fun g h => by cases h)
theorem sq_swap (F : Fr a n L) (M : Mm R w0 w B) (hw : Region.wanted o (yielded ops.toArray a.tmps) = true) {xs : List Operand} {ts : Array TypeId} {args : List Value} {f i g : Nat} {lb : Array Value} {t : TypeId} {cs cs' : Array Value} (ho : o.op = .call { callee := .value x, args := xs.toArray, argTypes := ts })
    (hx : a.eval x = .func (.func f) #[] lb) (ha : xs.map a.eval = args) (hi : B[i]? = some (.blk g t cs)) (hc : ∃ w', (callFunc f (args.toArray ++ lb)).run P w = .ok (.value v) w' ∧ Out [g] w w' ∧ Blk w' g t cs') (hd : o.dst = some d) (hdn : Nat.blt d n = true)
    (h : ∀ a' w', Fr a' n ((d, v) :: L) → Mm R w0 w' (B.set i (.blk g t cs')) → wpList P ops.toArray Q rest a' w') : wpList P ops.toArray Q (o :: rest) a w :=
  wpList_step fun K hK => by
    obtain ⟨w', hr, h1, h2⟩ := hc
    rw [if_pos hw]
    unfold Oper.wp
    rw [run_callV ho hx ha w, hr]
    exact hK _ _ (by rw [hd]; exact h _ _ (F.put hdn) (M.turned hi h1 h2))
theorem sq_callX (F : Fr a n L) (M : Mm R w0 w B) (hw : Region.wanted o (yielded ops.toArray a.tmps) = true) {f : FuncId} {xs : List Operand} {ts : Array TypeId} {args : List Value} {i g : Nat} {t : TypeId} {α : Type} {d0 : Array α} {cA : Array α → Array Value} {Z : Value → Array α → Prop} (ho : o.op = .call { callee := .value (.func f), args := xs.toArray, argTypes := ts })
    (he : enters P f = true) (ha : xs.map a.eval = args) (hi : B[i]? = some (.blk g t (cA d0))) (hc : Calls P f args.toArray w (Turns g t cA w Z)) (hd : o.dst = some d) (hdn : Nat.blt d n = true)
    (h : ∀ a' w' v d', Z v d' → Fr a' n ((d, v) :: L) → Mm R w0 w' (B.set i (.blk g t (cA d'))) → wpList P ops.toArray Q rest a' w') : wpList P ops.toArray Q (o :: rest) a w :=
  wpList_step fun K hK => by
    rw [if_pos hw]
    unfold Oper.wp
    rw [run_enter he ho w, List.map_toArray, ha]
    refine hc.mono fun e w' ⟨v, d', h1, h2, h3, h4⟩ => ?_
    subst h1
    exact hK _ _ (by rw [hd]; exact h _ _ _ _ h4 (F.put hdn) (M.turned hi h2 h3))
end
section
variable {α : Type} [Inhabited α] {lt : α → α → Bool} {d : Array α} {a b : Nat}
theorem insOuter_go {i i' : Nat} (h : i < b) (hi : i' = i + 1) : insOuter lt a b i d = insOuter lt a b i' (insInner lt a i d) := by
  subst hi; rw [insOuter]; simp [h]
theorem insOuter_stop {i : Nat} (h : ¬ i < b) : insOuter lt a b i d = d := by
  rw [insOuter]; simp [h]
theorem insInner_stop1 {j : Nat} (h : j ≤ a) : insInner lt a j d = d := by
  cases j with
  | zero => rfl
  | succ j => rw [insInner, if_neg (by simp; omega)]
theorem insInner_stop2 {j j' : Nat} (e : j = j' + 1) (h : lt d[j]! d[j']! = false) : insInner lt a j d = d := by
  subst e; rw [insInner, if_neg (by simp [h])]
theorem insInner_go {j j' : Nat} (e : j = j' + 1) (h1 : a < j) (h2 : lt d[j]! d[j']! = true) : insInner lt a j d = insInner lt a j' (swp d j j') := by
  subst e; rw [insInner, if_pos (by simp [h2]; omega)]
theorem sift_stop {hi first r : Nat} (h : hi ≤ 2 * r + 1) : siftDown lt hi first r d = d := by
  rw [siftDown, dif_pos h]
theorem sift_R {hi first r o p q q' r' : Nat} {z : Bool} (h : 2 * r + 2 < hi) (ep : p = first + (2 * r + 1)) (eq : q = first + (2 * r + 2)) (eq' : q' = first + (2 * r + 2)) (eo : o = first + r) (er : r' = 2 * r + 2) (hl : lt d[p]! d[q]! = true) (hz : lt d[o]! d[q']! = z) :
    siftDown lt hi first r d = if z then siftDown lt hi first r' (swp d o q') else d := by
  subst ep; subst eq; subst eq'; subst eo; subst er
  rw [siftDown, dif_neg (by omega), show first + (2 * r + 1) + 1 = first + (2 * r + 2) by omega, show 2 * r + 1 + 1 = 2 * r + 2 by omega, hl, hz]
  simp only [h, decide_true, Bool.and_self, if_true]
  cases z <;> simp
theorem sift_L {hi first r o p r' : Nat} {z : Bool} (h : 2 * r + 1 < hi) (ep : p = first + (2 * r + 1)) (eo : o = first + r) (er : r' = 2 * r + 1) (hl : hi ≤ 2 * r + 2 ∨ ∃ q, q = first + (2 * r + 2) ∧ lt d[p]! d[q]! = false) (hz : lt d[o]! d[p]! = z) :
    siftDown lt hi first r d = if z then siftDown lt hi first r' (swp d o p) else d := by
  subst ep; subst eo; subst er
  have hc : (decide (2 * r + 1 + 1 < hi) && lt d[first + (2 * r + 1)]! d[first + (2 * r + 1) + 1]!) = false := by
    rcases hl with h1 | ⟨q, rfl, h1⟩
    · simp; omega
    · rw [show first + (2 * r + 1) + 1 = first + (2 * r + 2) by omega, h1]; simp
  rw [siftDown, dif_neg (by omega), hc, hz]
  cases z <;> simp
theorem hbuild_go {hi first i i' : Nat} (e : i = i' + 1) : heapBuild lt hi first i d = heapBuild lt hi first i' (siftDown lt hi first i' d) := by subst e; rfl
theorem hpop_go {first i i' o p : Nat} (e : i = i' + 1) (eo : o = first) (ep : p = first + i') : heapPop lt first i d = heapPop lt first i' (siftDown lt i' first 0 (swp d o p)) := by subst e; subst eo; subst ep; rfl
theorem scanUp_go {p : α → Bool} {j i i' : Nat} (h : i ≤ j) (hp : p d[i]! = true) (e : i' = i + 1) : scanUp p d j i = scanUp p d j i' := by
  subst e; rw [scanUp]; simp [h, hp]
theorem scanUp_stop {p : α → Bool} {j i : Nat} (h : ¬ i ≤ j ∨ p d[i]! = false) : scanUp p d j i = i := by
  rw [scanUp]; rcases h with h | h
  · simp [h]
  · simp [h]
theorem scanDown_go {p : α → Bool} {i j j' : Nat} (h : i ≤ j) (hp : p d[j]! = true) (e : j = j' + 1) : scanDown p d i j = scanDown p d i j' := by
  subst e; rw [scanDown]; simp [h, hp]
theorem scanDown_stop {p : α → Bool} {i j : Nat} (h : ¬ i ≤ j ∨ p d[j]! = false) : scanDown p d i j = j := by
  cases j with
  | zero => rfl
  | succ j =>
    rw [scanDown]; rcases h with h | h
    · simp [h]
    · simp [h]
theorem partLoop_stop {i j i2 j2 : Nat} (hi : scanUp (fun x => lt x d[a]!) d j i = i2) (hj : scanDown (fun x => !lt x d[a]!) d i2 j = j2) (h : j2 < i2) : partLoop lt a i j d = (j2, d) := by
  rw [partLoop]; simp only [hi, hj]; rw [if_pos h]
theorem partLoop_go {i j i2 j2 i3 j3 : Nat} (hi : scanUp (fun x => lt x d[a]!) d j i = i2) (hj : scanDown (fun x => !lt x d[a]!) d i2 j = j2) (h : i2 ≤ j2) (h1 : i ≤ i2) (h2 : j2 ≤ j) (h0 : 0 < j2) (e3 : i3 = i2 + 1) (e4 : j2 = j3 + 1) :
    partLoop lt a i j d = partLoop lt a i3 j3 (swp d i2 j2) := by
  subst e3; subst e4
  rw [partLoop]; simp only [hi, hj]; rw [if_neg (by omega), dif_pos (by omega)]; rfl
theorem partEqLoop_stop {i j i2 j2 : Nat} (hi : scanUp (fun x => !lt d[a]! x) d j i = i2) (hj : scanDown (fun x => lt d[a]! x) d i2 j = j2) (h : j2 < i2) : partEqLoop lt a i j d = (i2, d) := by
  rw [partEqLoop]; simp only [hi, hj]; rw [if_pos h]
theorem partEqLoop_go {i j i2 j2 i3 j3 : Nat} (hi : scanUp (fun x => !lt d[a]! x) d j i = i2) (hj : scanDown (fun x => lt d[a]! x) d i2 j = j2) (h : i2 ≤ j2) (h1 : i ≤ i2) (h2 : j2 ≤ j) (h0 : 0 < j2) (e3 : i3 = i2 + 1) (e4 : j2 = j3 + 1) :
    partEqLoop lt a i j d = partEqLoop lt a i3 j3 (swp d i2 j2) := by
  subst e3; subst e4
  rw [partEqLoop]; simp only [hi, hj]; rw [if_neg (by omega), dif_pos (by omega)]; rfl
theorem rev_go {i j i' j' : Nat} (h : i < j) (e : i' = i + 1) (e' : j' = j - 1) : reverseLoop i j d = reverseLoop i' j' (swp d i j) := by
  subst e; subst e'; rw [reverseLoop]; simp [h]
theorem rev_stop {i j : Nat} (h : ¬ i < j) : reverseLoop i j d = d := by rw [reverseLoop]; simp [h]
theorem scanSorted_go {i i' k : Nat} (h : i < b) (e : i' = i + 1) (ek : i = k + 1) (hl : lt d[i]! d[k]! = false) : scanSorted lt d b i = scanSorted lt d b i' := by
  subst e; subst ek; rw [scanSorted]; simp [h, hl]
theorem scanSorted_stop1 {i : Nat} (h : ¬ i < b) : scanSorted lt d b i = i := by rw [scanSorted]; simp [h]
theorem scanSorted_stop2 {i k : Nat} (ek : i = k + 1) (hl : lt d[i]! d[k]! = true) : scanSorted lt d b i = i := by
  subst ek; rw [scanSorted]; simp [hl]
theorem shiftDown_go {j j' : Nat} (e : j = j' + 1) (hl : lt d[j]! d[j']! = true) : shiftDown lt j d = shiftDown lt j' (swp d j j') := by
  subst e; rw [shiftDown]; simp [hl]
theorem shiftDown_stop1 {j : Nat} (h : ¬ 1 ≤ j) : shiftDown lt j d = d := by
  have : j = 0 := by omega
  subst this; rfl
theorem shiftDown_stop2 {j j' : Nat} (e : j = j' + 1) (hl : lt d[j]! d[j']! = false) : shiftDown lt j d = d := by
  subst e; rw [shiftDown]; simp [hl]
theorem shiftUp_go {j j' k : Nat} (h : j < b) (e : j' = j + 1) (ek : j = k + 1) (hl : lt d[j]! d[k]! = true) : shiftUp lt b j d = shiftUp lt b j' (swp d j k) := by
  subst e; subst ek; rw [shiftUp]; simp [h, hl]
theorem shiftUp_stop1 {j : Nat} (h : ¬ j < b) : shiftUp lt b j d = d := by rw [shiftUp]; simp [h]
theorem shiftUp_stop2 {j k : Nat} (ek : j = k + 1) (hl : lt d[j]! d[k]! = false) : shiftUp lt b j d = d := by
  subst ek; rw [shiftUp]; simp [hl]
theorem partialIns_go {s s' i i2 i1 : Nat} (es : s = s' + 1) (hi : scanSorted lt d b i = i2) (hne : ¬ i2 = b) (h50 : ¬ b - a < 50) (e1 : i2 = i1 + 1) {d2 d3 : Array α} (h2 : d2 = if i2 - a ≥ 2 then shiftDown lt i1 (swp d i2 i1) else swp d i2 i1) (h3 : d3 = if b - i2 ≥ 2 then shiftUp lt b (i2 + 1) d2 else d2) :
    partialIns lt a b s i d = partialIns lt a b s' i2 d3 := by
  subst es; subst e1; subst h3; subst h2
  rw [partialIns]; simp only [hi]; rw [if_neg hne, if_neg h50]; rfl
theorem partialIns_end {s s' i : Nat} (es : s = s' + 1) (hi : scanSorted lt d b i = b) : partialIns lt a b s i d = (d, true) := by
  subst es; rw [partialIns]; simp only [hi]; simp
theorem partialIns_short {s s' i i2 : Nat} (es : s = s' + 1) (hi : scanSorted lt d b i = i2) (hne : ¬ i2 = b) (h50 : b - a < 50) : partialIns lt a b s i d = (d, false) := by
  subst es; rw [partialIns]; simp only [hi]; rw [if_neg hne, if_pos h50]
theorem partialIns_zero {i : Nat} : partialIns lt a b 0 i d = (d, false) := rfl
end
end Go.Proofs.YtcnmmnhlhenifaaGreat
namespace Go.Proofs.YtcnmmnhlhenifaaGreat
open Go.RowKit
set_option maxRecDepth 100000
set_option linter.unusedSimpArgs false
set_option linter.unusedVariables false
def posO (o : List Int) (i : Nat) : List Int := (List.range 8).map fun (q : Nat) => if (q : Int) ∈ o.take i then ((o.idxOf (q : Int) : Nat) : Int) + 1 else 0
theorem pos_len (o : List Int) (i : Nat) : (posO o i).length = 8 := by simp [posO]
def lineE (P : List St) (k : Nat) : List Ed := (List.range k).map fun (i : Nat) => (⟨(i : Int), (i : Int) + 1, atS P i⟩ : Ed)
def lsum (P : List St) (i : Nat) : Nat → St
  | 0 => St.zero
  | d + 1 => (lsum P i d).add (atS P (i + d))
def Small (P : List St) (m : Nat) : Prop := ∀ k, k < m → 0 ≤ (atS P k).e ∧ (atS P k).e ≤ 100000 ∧ 0 ≤ (atS P k).r ∧ (atS P k).r ≤ 100000
end Go.Proofs.YtcnmmnhlhenifaaGreat
namespace Go.Proofs.YtcnmmnhlhenifaaGreat
open Go.RowKit
set_option maxRecDepth 100000
set_option linter.unusedSimpArgs false
set_option linter.unusedVariables false
theorem blk_locS {p : Nat} {t : TypeId} {cs : Array Value} : Loc [p] (fun w => Blk w p t cs) := fun _ _ hk h =>
  ⟨(hk p (by simp)).trans h, fun g hg => by simp only [List.mem_singleton] at hg; subst hg; exact Blk.lt h⟩
def fpSv (B : Nat) (v : Value) : List Nat := B :: v.ownBlock.toList
structure SvV (B : Nat) (t ts : TypeId) (m n : Nat) (xs : List Value) (v : Value) (w : World) : Prop where
  blk : Blk w B t #[v]
  row : w.ownsRow 0 ts m v n xs
  ne : ¬ B ∈ v.ownBlock.toList
section
variable {R : List Nat} {w0 w w' : World} {C : List Ent} {B : Nat} {t ts : TypeId} {m n : Nat} {xs : List Value} {v : Value}
theorem SvV.loc (B : Nat) (t ts : TypeId) (m n : Nat) (xs : List Value) (v : Value) : Loc (fpSv B v) (SvV B t ts m n xs v) := fun w w' hk h => by
  have e1 := blk_locS w w' (fun k hk' => hk k (by simp only [List.mem_singleton] at hk'; simp [fpSv, hk'])) h.blk
  have hlt : ∀ k, v.ownBlock = some k → k < w.heap.size := fun k hk' => (World.ownsRow.lt h.row k hk').2
  refine ⟨⟨e1.1, ⟨h.row.1, ?_⟩, h.ne⟩, fun k hk' => ?_⟩
  · rcases h.row.2 with h4 | ⟨g, cap, cur, h4, h5, h6, h7⟩
    · exact .inl h4
    · exact .inr ⟨g, cap, cur, h4, h5, (hk g (by simp [fpSv, h4, Value.ownBlock])).trans h6, h7⟩
  · rcases List.mem_cons.1 hk' with rfl | h4
    · exact e1.2 k (by simp)
    · exact hlt k (by simpa using h4)
theorem Mm.packSv (M : Mm R w0 w (.row ts m v n xs :: .blk B t #[v] :: C)) : Mm R w0 w (.own (fpSv B v) (SvV B t ts m n xs v) :: C) := by
  have hap := M.apart (i := 1) (j := 0) rfl rfl (by decide)
  refine Mm.recast (X := [.row ts m v n xs, .blk B t #[v]]) (Y := [_]) M (fun y hy => ?_) (fun y hy g hg => ?_) (List.pairwise_singleton _ _) (fun y hy g hg => ?_)
  · rw [List.mem_singleton.1 hy]
    exact ⟨⟨M.at (i := 1) rfl, M.ow (i := 0) rfl, fun h => hap B (by simp [Ent.fp]) (by simpa [Ent.fp] using h)⟩, SvV.loc _ _ _ _ _ _ _⟩
  · rw [List.mem_singleton.1 hy] at hg
    rcases List.mem_cons.1 (show g ∈ B :: v.ownBlock.toList from hg) with rfl | h
    · exact ⟨.blk g t #[v], by simp, by simp [Ent.fp]⟩
    · exact ⟨.row ts m v n xs, by simp, h⟩
  · rw [List.mem_singleton.1 hy] at hg; cases hg
theorem Mm.unpackSv (M : Mm R w0 w (.own (fpSv B v) (SvV B t ts m n xs v) :: C)) : Mm R w0 w (.row ts m v n xs :: .blk B t #[v] :: C) := by
  have h := M.pv (i := 0) rfl
  refine Mm.recast (X := [.own (fpSv B v) (SvV B t ts m n xs v)]) (Y := [.row ts m v n xs, .blk B t #[v]]) M (fun y hy => ?_) (fun y hy g hg => ?_) ?_ (fun y hy g hg => ?_)
  · rcases List.mem_cons.1 hy with rfl | hy
    · exact h.row
    · rw [List.mem_singleton.1 hy]; exact h.blk
  · refine ⟨_, List.mem_singleton.2 rfl, ?_⟩
    show g ∈ B :: v.ownBlock.toList
    rcases List.mem_cons.1 hy with rfl | hy
    · exact List.mem_cons_of_mem _ hg
    · rw [List.mem_singleton.1 hy] at hg; simp only [Ent.fp, List.mem_singleton] at hg; simp [hg]
  · refine List.pairwise_cons.2 ⟨fun y hy g hg hg' => ?_, List.pairwise_singleton _ _⟩
    rw [List.mem_singleton.1 hy] at hg'
    simp only [Ent.fp, List.mem_singleton] at hg'
    subst hg'
    exact h.ne hg
  · rcases List.mem_cons.1 hy with rfl | hy
    · cases hg
    · rw [List.mem_singleton.1 hy] at hg; cases hg
theorem Mm.new1S (M : Mm [] w0 w C) {i : Nat} {x : Ent} (h : C[i]? = some x) : ∀ g ∈ x.fp, w0.heap.size ≤ g := fun g hg => (M.own x (List.mem_of_getElem? h) g hg).resolve_right (by simp)
def SvZ (B : Nat) (t ts : TypeId) (m : Nat) (xs : List Value) (n : Nat) : Value → Ent → Prop := fun u x' => u = .tuple #[] ∧ ∃ v, x' = .own (fpSv B v) (SvV B t ts m n xs v)
theorem Mm.endSv {v0 : Value} {n0 : Nat} {xs0 : List Value} (M : Mm (fpSv B v0) w0 w C) {i : Nat} (hi : C[i]? = some (.own (fpSv B v) (SvV B t ts m n xs v))) :
    TurnsE w0 (.own (fpSv B v0) (SvV B t ts m n0 xs0 v0)) (SvZ B t ts m xs n) (.returned (.tuple #[])) w :=
  ⟨_, .own (fpSv B v) (SvV B t ts m n xs v), rfl, M.out, ⟨M.pv hi, SvV.loc _ _ _ _ _ _ _⟩, fun g hg => (M.own _ (List.mem_of_getElem? hi) g hg).elim .inr .inl, rfl, rfl, v, rfl⟩
end
section
variable {P : Program} {ops rest : List Oper} {o : Oper} {a : Act} {n d : Nat} {L : List (Nat × Value)} {Q : Exit → Act → World → Prop} {R : List Nat} {w w0 : World} {B : List Ent} {x : Operand}
theorem sq_callVT (F : Fr a n L) (M : Mm R w0 w B) (hw : Region.wanted o (yielded ops.toArray a.tmps) = true) {xs : List Operand} {ts : Array TypeId} {args : List Value} {f i : Nat} {lb : Array Value} {y : Ent} {Z : Value → Ent → Prop} (ho : o.op = .call { callee := .value x, args := xs.toArray, argTypes := ts })
    (hx : a.eval x = .func (.func f) #[] lb) (he : enters P f = true) (ha : xs.map a.eval = args) (hi : B[i]? = some y) (hc : Calls P f (args.toArray ++ lb) w (TurnsE w y Z)) (hd : o.dst = some d) (hdn : Nat.blt d n = true)
    (h : ∀ a' w' v x', Z v x' → Fr a' n ((d, v) :: L) → Mm R w0 w' (B.set i x') → wpList P ops.toArray Q rest a' w') : wpList P ops.toArray Q (o :: rest) a w :=
  wpList_step fun K hK => by
    rw [if_pos hw]
    unfold Oper.wp
    rw [run_callV ho hx ha w, callFunc_enters he]
    refine hc.mono fun e w' ⟨v, x', h1, h2, h3, h4, h5, h6⟩ => ?_
    subst h1
    exact hK _ _ (by rw [hd]; exact h _ _ v x' h6 (F.put hdn) (M.swap hi h2 h3 h4 (fun g hg => by rw [h5] at hg; cases hg)))
end
section
variable {P : Program} {w : World} {t e : TypeId} {dd N : Nat}
theorem eqIs (he : P.underlying e = some (.int .i64)) {A B : List Int} (hl : A.length = B.length) : ∀ is : List Nat, (∀ i ∈ is, i < A.length) → (Op.eqItems (dd + 1) e 1 (List.toArray (cI A)) (List.toArray (cI B)) is).run P w = .ok (is.all fun i => decide (atI A i = atI B i)) w
  | [], _ => by simp [Op.eqItems]
  | i :: is, h => by
    have hi := h i (by simp)
    have c1 : (List.toArray (cI A))[i]? = some (.int .i64 (atI A i)) := by have := aI_at (T := A) hi; simpa using this
    have c2 : (List.toArray (cI B))[i]? = some (.int .i64 (atI B i)) := by have := aI_at (T := B) (hl ▸ hi); simpa using this
    have p1 : (part e (List.toArray (cI A)) i).run P w = .ok (.int .i64 (atI A i)) w := by
      have hq : (isAgg e).run P w = .ok false w := by simp [isAgg, run_underlying he, TypeDesc.isRow]
      simp [part, hq, c1]
    have p2 : (part e (List.toArray (cI B)) i).run P w = .ok (.int .i64 (atI B i)) w := by
      have hq : (isAgg e).run P w = .ok false w := by simp [isAgg, run_underlying he, TypeDesc.isRow]
      simp [part, hq, c2]
    have p3 : (Op.equalIn (dd + 1) e (.int .i64 (atI A i)) (.int .i64 (atI B i))).run P w = .ok (decide (atI A i = atI B i)) w := by
      rw [run_equalIn_int w dd e _ _ _ _ he]; congr 1
    have ih := eqIs he hl is (fun j hj => h j (by simp [hj]))
    simp only [Op.eqItems, Nat.mul_one, Sem.run_bind, p1, p2, p3, Result.andThen_ok, List.all_cons]
    cases hc : decide (atI A i = atI B i)
    · simp
    · simp [ih]
theorem eqIa (ht : P.underlying t = some (.array N e)) (he : P.underlying e = some (.int .i64)) (hi : (P.info? e).map (·.size) = some 1) (hc : P.cellsOf e = 1) {A B : List Int} (hA : A.length = N) (hB : B.length = N) : (Op.equalIn (dd + 2) t (.agg (List.toArray (cI A))) (.agg (List.toArray (cI B)))).run P w = .ok (decide (A = B)) w := by
  cases hq : P.info? e with
  | none => simp [hq] at hi
  | some i =>
    rw [run_equalIn_array w (dd + 1) _ _ ht hq, hc, eqIs he (hA.trans hB.symm) _ (fun i hi => by rw [hA]; exact List.mem_range.1 hi)]
    congr 1
    rw [Bool.eq_iff_iff, List.all_eq_true, decide_eq_true_iff]
    refine ⟨fun h => ext_atI (hA.trans hB.symm) fun k hk => ?_, fun h i _ => by rw [h]; simp⟩
    have := h k (List.mem_range.2 (hA ▸ hk))
    simpa using this
end
def upI (f : Nat → Int) (i : Nat) : List Int := (List.range 8).map fun q => if q < i then f q else 0
theorem upI_len (f : Nat → Int) (i : Nat) : (upI f i).length = 8 := by simp [upI]
theorem upI_at {f : Nat → Int} {i q : Nat} (h : q < 8) : atI (upI f i) q = if q < i then f q else 0 := by
  rw [atI_eq (by rw [upI_len]; exact h)]; simp [upI]
theorem upI_zero (f : Nat → Int) : List.replicate 8 0 = upI f (0 : Int).toNat := by
  apply ext_atI
  · rw [upI_len]; simp
  · intro k hk
    have hk8 : k < 8 := by simpa using hk
    rw [upI_at hk8, atI_eq hk, List.getElem_replicate]; simp
theorem upI_step {f : Nat → Int} {i : Int} (h0 : 0 ≤ i) (h8 : i < 8) : (upI f i.toNat).set i.toNat (f i.toNat) = upI f (i + 1).toNat := by
  apply ext_atI
  · rw [List.length_set, upI_len, upI_len]
  · intro k hk
    have hk8 : k < 8 := by rw [List.length_set, upI_len] at hk; exact hk
    rw [atI_set (by rw [upI_len]; omega), upI_at hk8, upI_at hk8, show (i + 1).toNat = i.toNat + 1 by omega]
    split
    · rename_i e; subst e; rw [if_pos (by omega)]
    · rename_i e
      by_cases hlt : k < i.toNat
      · rw [if_pos hlt, if_pos (by omega)]
      · rw [if_neg hlt, if_neg (by omega)]
theorem upI_eq {f g : Nat → Int} {i : Nat} (h8 : i ≤ 8) : upI f i = upI g i ↔ ∀ q, q < i → f q = g q := by
  constructor
  · intro h q hq
    have := congrArg (fun l => atI l q) h
    simp only [upI_at (show q < 8 by omega), if_pos hq] at this
    exact this
  · intro h
    unfold upI
    apply List.map_congr_left
    intro q hq
    split
    · exact h q (by assumption)
    · rfl
def squareB (L : List (List (List St))) : Bool := decide (L.length ≤ 8) && L.all (fun r => decide (r.length = L.length))
theorem sq_big {L : List (List (List St))} (h : 8 < L.length) : squareB L = false := by
  unfold squareB; rw [decide_eq_false (by omega)]; rfl
theorem sq_all {L : List (List (List St))} {i : Int} (h8 : L.length ≤ 8) (h : ¬ i < (L.length : Int)) (h1 : i ≤ (L.length : Int)) :
    decide (upI (fun q => ((at3 L q).length : Int)) i.toNat = upI (fun _ => (L.length : Int)) i.toNat) = squareB L := by
  unfold squareB
  rw [decide_eq_true h8, Bool.true_and, Bool.eq_iff_iff, decide_eq_true_iff, upI_eq (by omega), List.all_eq_true]
  constructor
  · intro z r hr
    obtain ⟨q, hq, e⟩ := List.mem_iff_getElem.1 hr
    have := z q (by omega)
    rw [at3_eq hq, e] at this
    exact decide_eq_true (by omega)
  · intro z q hq
    have := of_decide_eq_true (z (at3 L q) (by rw [at3_eq (show q < L.length by omega)]; exact List.getElem_mem _))
    rw [this]
def nodeB (L : List (List (List St))) (k : Int) : Bool := decide (0 ≤ k ∧ k < (L.length : Int))
theorem node_no {L : List (List (List St))} {k : Int} (h : ¬ (0 ≤ k ∧ k < (L.length : Int))) : nodeB L k = false := decide_eq_false h
theorem node_yes {L : List (List (List St))} {k : Int} (h : 0 ≤ k) : nodeB L k = decide (k < (L.length : Int)) := by unfold nodeB; rw [decide_eq_decide]; omega
theorem right_split (L : List (List (List St))) (p : Po) : rightC L p = (squareB L && (nodeB L p.n && p.t.rightB)) := by
  rw [Bool.eq_iff_iff, rightC_iff]
  unfold squareB nodeB
  simp only [Bool.and_eq_true, decide_eq_true_iff, List.all_eq_true]
  constructor
  · rintro ⟨⟨_, h8⟩, h2, h3, h4⟩; exact ⟨⟨h8, h2⟩, h3, h4⟩
  · rintro ⟨⟨h8, h2⟩, h3, h4⟩; exact ⟨⟨by omega, h8⟩, h2, h3, h4⟩
end Go.Proofs.YtcnmmnhlhenifaaGreat
namespace Go.Proofs.YtcnmmnhlhenifaaGreat
open Go.RowKit
set_option maxRecDepth 100000
set_option linter.unusedSimpArgs false
set_option linter.unusedVariables false
def encP : Enc Nat := ⟨1, fun g => [.pointer (some ⟨g, 0, none⟩)], 0, fun _ => rfl, fun a v h => by
  simp only [List.mem_cons, List.not_mem_nil, or_false] at h; subst h; rfl⟩
def cP (L : List Nat) : List Value := cE encP L
def atP (L : List Nat) (i : Nat) : Nat := atE encP L i
abbrev RdP (w : World) (v : Value) (L : List Nat) : Prop := RdV w 1 v L.length (cP L)
section
variable {α : Type} {fp : α → List Nat} {Φ : α → World → Prop} {L : List α} {w w' : World}
structure ObjsV (fp : α → List Nat) (Φ : α → World → Prop) (L : List α) (w : World) : Prop where
  all : ∀ a ∈ L, Φ a w
  nd : L.Pairwise fun a b => ∀ g ∈ fp a, ¬ g ∈ fp b
theorem ObjsV.loc (hl : ∀ a, Loc (fp a) (Φ a)) (L : List α) : Loc (L.flatMap fp) (ObjsV fp Φ L) := fun w w' hk h => by
  have hin : ∀ a ∈ L, ∀ g ∈ fp a, g ∈ L.flatMap fp := fun a ha g hg => List.mem_flatMap.2 ⟨a, ha, hg⟩
  refine ⟨⟨fun a ha => (hl a w w' (fun g hg => hk g (hin a ha g hg)) (h.all a ha)).1, h.nd⟩, fun g hg => ?_⟩
  obtain ⟨a, ha, hg⟩ := List.mem_flatMap.1 hg
  exact (hl a w w (fun _ _ => rfl) (h.all a ha)).2 g hg
theorem ObjsV.nil (fp : α → List Nat) (Φ : α → World → Prop) (w : World) : ObjsV fp Φ [] w := ⟨fun a ha => (by cases ha), List.Pairwise.nil⟩
theorem ObjsV.apart (h : ObjsV fp Φ L w) {i j : Nat} (hi : i < L.length) (hj : j < L.length) (hne : i ≠ j) : ∀ g ∈ fp L[i], ¬ g ∈ fp L[j] := by
  have hp := List.pairwise_iff_getElem.1 h.nd
  rcases Nat.lt_or_gt_of_ne hne with h1 | h1
  · exact hp i j hi hj h1
  · exact fun g hg hg' => hp j i hj hi h1 g hg' hg
theorem ObjsV.lt (hl : ∀ a, Loc (fp a) (Φ a)) (h : ObjsV fp Φ L w) {a : α} (ha : a ∈ L) : ∀ g ∈ fp a, g < w.heap.size := (hl a w w (fun _ _ => rfl) (h.all a ha)).2
theorem ObjsV.turn (hl : ∀ a, Loc (fp a) (Φ a)) (h : ObjsV fp Φ L w) {i : Nat} (hi : i < L.length) {Z : Value → Ent → Prop} {e : Ending} {Z' : Value → α → Prop}
    (ht : TurnsE w (.own (fp L[i]) (Φ L[i])) (fun u x' => ∃ a', Z' u a' ∧ x' = .own (fp a') (Φ a')) e w') :
    TurnsE w (.own (L.flatMap fp) (ObjsV fp Φ L)) (fun u x' => ∃ a', Z' u a' ∧ x' = .own ((L.set i a').flatMap fp) (ObjsV fp Φ (L.set i a'))) e w' := by
  obtain ⟨v, x', h1, h2, h3, h4, h5, a', h6, rfl⟩ := ht
  have hsub : ∀ g ∈ fp L[i], g ∈ L.flatMap fp := fun g hg => List.mem_flatMap.2 ⟨_, List.getElem_mem hi, hg⟩
  have hother : ∀ j (hj : j < L.length), j ≠ i → Φ L[j] w' ∧ ∀ g ∈ fp L[j], ¬ g ∈ fp a' := fun j hj hne => by
    have hlt := h.lt hl (List.getElem_mem hj)
    have hap := h.apart hj hi hne
    refine ⟨(hl _ w w' (fun g hg => h2.block g (hlt g hg) (hap g hg)) (h.all _ (List.getElem_mem hj))).1, fun g hg hg' => ?_⟩
    rcases h4 g hg' with h7 | h7
    · exact hap g hg h7
    · have := hlt g hg; omega
  refine ⟨v, .own ((L.set i a').flatMap fp) (ObjsV fp Φ (L.set i a')), h1, h2.mono hsub, ⟨⟨fun b hb => ?_, ?_⟩, ObjsV.loc hl _⟩, fun g hg => ?_, rfl, a', h6, rfl⟩
  · obtain ⟨j, hj, rfl⟩ := List.mem_iff_getElem.1 hb
    rw [List.length_set] at hj
    rw [List.getElem_set]
    split
    · exact h3.1
    · rename_i hne; exact (hother j hj (fun e => hne e.symm)).1
  · rw [List.pairwise_iff_getElem]
    intro j k hj hk hjk
    rw [List.length_set] at hj hk
    rw [List.getElem_set, List.getElem_set]
    by_cases e1 : i = j
    · rw [if_pos e1, if_neg (by omega)]
      exact fun g hg hg' => (hother k hk (by omega)).2 g hg' hg
    · rw [if_neg e1]
      by_cases e2 : i = k
      · rw [if_pos e2]; exact (hother j hj (by omega)).2
      · rw [if_neg e2]; exact h.apart hj hk (by omega)
  · obtain ⟨b, hb, hg⟩ := List.mem_flatMap.1 hg
    obtain ⟨j, hj, rfl⟩ := List.mem_iff_getElem.1 hb
    rw [List.length_set] at hj
    rw [List.getElem_set] at hg
    split at hg
    · rcases h4 g hg with h7 | h7
      · exact .inl (hsub g h7)
      · exact .inr h7
    · exact .inl (List.mem_flatMap.2 ⟨_, List.getElem_mem hj, hg⟩)
theorem ObjsV.push (h : ObjsV fp Φ L w) {a : α} (ha : Φ a w) (hd : ∀ g ∈ fp a, ¬ g ∈ L.flatMap fp) : ObjsV fp Φ (L ++ [a]) w := by
  refine ⟨fun b hb => ?_, List.pairwise_append.2 ⟨h.nd, List.pairwise_singleton _ _, fun b hb c hc g hg hg' => ?_⟩⟩
  · rcases List.mem_append.1 hb with hb | hb
    · exact h.all b hb
    · rw [List.mem_singleton.1 hb]; exact ha
  · rw [List.mem_singleton.1 hc] at hg'
    exact hd g hg' (List.mem_flatMap.2 ⟨b, hb, hg⟩)
end
end Go.Proofs.YtcnmmnhlhenifaaGreat
