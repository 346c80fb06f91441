/- Put together: Pt, Gp, Ub, Ur, Gw, Gm, Go, Hm, Fg, Ob, So, Rk, Gr, Gx, Gy, Pn, Sv. -/
import Derived.Test.YtcnmmnhlhenifaaGreatJ2
import Derived.IntWalk
import Derived.Lib.AppendStr
import Derived.Lib.ConvBytes
import Derived.Laws.IdiomStrings
import Derived.Test.YtcnmmnhlhenifaaGreatJ1
import Derived.ChangeKeysEq
import Derived.Laws.StructEq
import Derived.Test.YtcnmmnhlhenifaaGreatFx
import Derived.Sort.AssemblyPlain
import Derived.Recover
import Derived.Laws.Bits64
import Derived.Laws.CopyOwn
import Derived.Lib.AppendZerosOnto
namespace Go.Proofs.YtcnmmnhlhenifaaGreat
open Go.RowKit
set_option maxRecDepth 100000
set_option linter.unusedSimpArgs false
set_option linter.unusedVariables false
def rightsB (L : List St) : Bool := L.all St.rightB && decide (L.length ≤ 64)
def sumsP (A B : List St) : List St := A.flatMap fun p => (B.filter fun q => p.afterB q).map fun q => p.after q
def eachB (A B : List St) : Bool := rightsB A && rightsB B && decide ((minL (sumsP A B)).length ≤ 64)
def eachL (A B : List St) : List St := if eachB A B then minL (sumsP A B) else []
def partP (A B : List St) (i k : Nat) : List St := sumsP (A.take i) B ++ ((B.take k).filter fun q => (atS A i).afterB q).map fun q => (atS A i).after q
theorem each_f {A B : List St} (h : eachB A B = false) : eachL A B = [] := by unfold eachL; rw [h]; rfl
theorem each_t {A B : List St} (h : eachB A B = true) : (rightsB A = true ∧ rightsB B = true ∧ (minL (sumsP A B)).length ≤ 64) ∧ eachL A B = minL (sumsP A B) := by
  refine ⟨?_, by unfold eachL; rw [h]; rfl⟩
  unfold eachB at h
  simp only [Bool.and_eq_true, decide_eq_true_eq] at h
  exact ⟨h.1.1, h.1.2, h.2⟩
theorem eachL_len (A B : List St) : (eachL A B).length ≤ 64 := by
  cases h : eachB A B with
  | true => have := each_t h; rw [this.2]; exact this.1.2.2
  | false => rw [each_f h]; simp
end Go.Proofs.YtcnmmnhlhenifaaGreat
namespace Go.Proofs.YtcnmmnhlhenifaaGreat
open Go.RowKit
set_option maxRecDepth 100000
set_option linter.unusedSimpArgs false
set_option linter.unusedVariables false
structure Ed where
  f : Int
  t : Int
  p : St
deriving DecidableEq
def Ed.zero : Ed := ⟨0, 0, St.zero⟩
def encG : Enc Ed := ⟨4, fun x => [.int .i64 x.f, .int .i64 x.t, .int .i64 x.p.e, .int .i64 x.p.r], Ed.zero, fun _ => rfl, fun a v h => by
  simp only [List.mem_cons, List.not_mem_nil, or_false] at h
  rcases h with rfl | rfl | rfl | rfl <;> rfl⟩
def cG (L : List Ed) : List Value := cE encG L
def atG (L : List Ed) (i : Nat) : Ed := atE encG L i
theorem cG_at {L : List Ed} {i : Nat} (h : i < L.length) : ((cG L).drop (i * 4)).take 4 = [.int .i64 (atG L i).f, .int .i64 (atG L i).t, .int .i64 (atG L i).p.e, .int .i64 (atG L i).p.r] := cE_at (E := encG) h
theorem cG_ones (L : List Ed) : ∀ z ∈ cG L, z.oneCell' = true := cE_ones L
theorem atG_mem {L : List Ed} {i : Nat} (h : i < L.length) : atG L i ∈ L := atE_mem (E := encG) h
theorem at_of_memG {L : List Ed} {x : Ed} (h : x ∈ L) : ∃ i, i < L.length ∧ atG L i = x := at_of_memE (E := encG) h
abbrev RdG (w : World) (v : Value) (L : List Ed) : Prop := RdV w 4 v L.length (cG L)
def fitsB (n : Int) (x : Ed) : Bool := decide (0 ≤ x.f ∧ x.f < n ∧ 0 ≤ x.t ∧ x.t < n) && x.p.rightB
theorem fits_iff {n : Int} {x : Ed} : fitsB n x = true ↔ (0 ≤ x.f ∧ x.f < n ∧ 0 ≤ x.t ∧ x.t < n) ∧ x.p.rightB = true := by unfold fitsB; simp
theorem fits_no {n : Int} {x : Ed} (h : ¬ (0 ≤ x.f ∧ x.f < n ∧ 0 ≤ x.t ∧ x.t < n)) : fitsB n x = false := by rw [← Bool.not_eq_true, fits_iff]; exact fun h2 => h h2.1
theorem fits_yes {n : Int} {x : Ed} (h : 0 ≤ x.f ∧ x.f < n ∧ 0 ≤ x.t ∧ x.t < n) : fitsB n x = x.p.rightB := by rw [Bool.eq_iff_iff, fits_iff]; exact ⟨fun h2 => h2.2, fun h2 => ⟨h, h2⟩⟩
def okE (T : List Bool) (k : Nat) (x : Ed) : Bool := !(decide (x.t = (k : Int)) && decide (x.p = St.zero) && !atB T x.f.toNat)
def freeB (E : List Ed) (T : List Bool) (k : Nat) : Bool := !atB T k && E.all (okE T k)
def nextO (E : List Ed) (T : List Bool) (n : Nat) : Option Nat := (List.range n).find? (freeB E T)
def stepO (E : List Ed) (n : Nat) (s : List Bool × List Int) : List Bool × List Int :=
  match nextO E s.1 n with
  | some k => (s.1.set k true, s.2 ++ [(k : Int)])
  | none => s
def roundsO (E : List Ed) (n : Nat) : Nat → List Bool × List Int
  | 0 => (List.replicate n false, [])
  | r + 1 => stepO E n (roundsO E n r)
def orderL (E : List Ed) (n : Nat) : List Int := (roundsO E n n).2
theorem rounds_len (E : List Ed) (n : Nat) : ∀ r, (roundsO E n r).1.length = n
  | 0 => by simp [roundsO]
  | r + 1 => by
    have ih := rounds_len E n r
    simp only [roundsO, stepO]
    split
    · simpa using ih
    · exact ih
theorem rounds_out (E : List Ed) (n : Nat) : ∀ r, (roundsO E n r).2.length ≤ r
  | 0 => by simp [roundsO]
  | r + 1 => by
    have ih := rounds_out E n r
    simp only [roundsO, stepO]
    split
    · rw [List.length_append, List.length_singleton]; omega
    · omega
theorem find_range {n k : Nat} {p : Nat → Bool} (hk : k < n) (h : p k = true) (hb : ∀ q, q < k → p q = false) : (List.range n).find? p = some k := by
  rw [List.find?_range_eq_some]
  exact ⟨h, List.mem_range.2 hk, fun j hj => by rw [hb j hj]; rfl⟩
theorem round_some {E : List Ed} {n : Nat} {r : Int} {k : Int} (h0 : 0 ≤ r) (hk0 : 0 ≤ k) (hk : k.toNat < n) (h : freeB E (roundsO E n r.toNat).1 k.toNat = true) (hb : ∀ q, q < k.toNat → freeB E (roundsO E n r.toNat).1 q = false) :
    roundsO E n (r + 1).toNat = ((roundsO E n r.toNat).1.set k.toNat true, (roundsO E n r.toNat).2 ++ [k]) := by
  rw [show (r + 1).toNat = r.toNat + 1 by omega]
  simp only [roundsO, stepO]
  rw [show nextO E (roundsO E n r.toNat).1 n = some k.toNat from find_range hk h hb]
  simp only [show ((k.toNat : Nat) : Int) = k by omega]
theorem round_none {E : List Ed} {n : Nat} {r k : Int} (h0 : 0 ≤ r) (hb : ∀ q, q < k.toNat → freeB E (roundsO E n r.toNat).1 q = false) (hk : ¬ k.toNat < n) :
    roundsO E n (r + 1).toNat = roundsO E n r.toNat := by
  rw [show (r + 1).toNat = r.toNat + 1 by omega]
  simp only [roundsO, stepO]
  have : nextO E (roundsO E n r.toNat).1 n = none := List.find?_eq_none.2 fun q hq => by
    rw [hb q (by have := List.mem_range.1 hq; omega)]; simp
  rw [this]
def FreeI (E : List Ed) (T : List Bool) (k i : Nat) (b : Bool) : Prop := b = true ↔ atB T k = false ∧ ∀ q, q < i → okE T k (atG E q) = true
theorem free_start {E : List Ed} {T : List Bool} {k : Nat} {b : Bool} (h : atB T k = b) : FreeI E T k (0 : Int).toNat (!b) := by
  unfold FreeI; rw [h]; cases b <;> simp
theorem free_keep {E : List Ed} {T : List Bool} {k : Nat} {i : Int} {b : Bool} (h0 : 0 ≤ i) (h : FreeI E T k i.toNat b) (hx : okE T k (atG E i.toNat) = true) : FreeI E T k (i + 1).toNat b := by
  unfold FreeI at *
  rw [h]
  refine and_congr_right fun _ => ⟨fun h2 => all_succ h2 h0 hx, fun h2 q hq => h2 q (by omega)⟩
theorem free_drop {E : List Ed} {T : List Bool} {k : Nat} {i : Int} (h0 : 0 ≤ i) (hx : okE T k (atG E i.toNat) = false) : FreeI E T k (i + 1).toNat false := by
  unfold FreeI
  refine ⟨(fun h => by cases h), fun ⟨_, h⟩ => ?_⟩
  rw [h i.toNat (by omega)] at hx; cases hx
theorem free_end {E : List Ed} {T : List Bool} {k : Nat} {i : Int} {b : Bool} (h : FreeI E T k i.toNat b) (hl : i ≤ (E.length : Int)) (hi : ¬ i < (E.length : Int)) : freeB E T k = b := by
  unfold FreeI at h
  unfold freeB
  rw [Bool.eq_iff_iff, h, Bool.and_eq_true, Bool.not_eq_true', List.all_eq_true]
  refine and_congr_right fun _ => ⟨fun h2 q hq => h2 _ (atG_mem (by omega)), fun h2 x hx => ?_⟩
  obtain ⟨q, hq, rfl⟩ := at_of_memG hx
  exact h2 q (by omega)
theorem ok_f {T : List Bool} {k : Int} {x : Ed} (hk : 0 ≤ k) (h1 : x.t = k) (h2 : x.p = St.zero) (h3 : atB T x.f.toNat = false) : okE T k.toNat x = false := by
  unfold okE; simp [h2, h3]; omega
theorem ok_t {T : List Bool} {k : Int} {x : Ed} (hk : 0 ≤ k) (h : ¬ x.t = k ∨ ¬ x.p = St.zero ∨ atB T x.f.toNat = true) : okE T k.toNat x = true := by
  unfold okE
  have e : ((k.toNat : Nat) : Int) = k := by omega
  rw [e]
  rcases h with h | h | h <;> simp [h]
def badE (n : Int) (E : List Ed) : Nat → Option Nat
  | 0 => none
  | i + 1 => match badE n E i with
    | some k => some k
    | none => if fitsB n (atG E i) then none else some i
def checkG (n : Int) (E : List Ed) : Int × Int :=
  if n < 1 ∨ 8 < n ∨ 16 < E.length then (4, -1) else
  match E.findIdx? (fun x => !fitsB n x) with
  | some i => (4, (i : Int))
  | none => if ((orderL E n.toNat).length : Int) < n then (5, -1) else (0, -1)
theorem check_many {n : Int} {E : List Ed} (h : n < 1 ∨ 8 < n ∨ 16 < E.length) : checkG n E = (4, -1) := if_pos h
theorem check_bad {n : Int} {E : List Ed} {i : Int} (h : ¬ (n < 1 ∨ 8 < n ∨ 16 < E.length)) (h0 : 0 ≤ i) (hi : i < (E.length : Int)) (hb : ∀ q, q < i.toNat → fitsB n (atG E q) = true) (hx : fitsB n (atG E i.toNat) = false) : checkG n E = (4, i) := by
  unfold checkG
  rw [if_neg h]
  have : E.findIdx? (fun x => !fitsB n x) = some i.toNat := by
    rw [List.findIdx?_eq_some_iff_getElem]
    refine ⟨by omega, by rw [← show atG E i.toNat = E[i.toNat] from atE_eq (by omega), hx]; rfl, fun j hj => ?_⟩
    rw [← show atG E j = E[j] from atE_eq (by omega), hb j hj]; simp
  rw [this]
  simp only
  rw [show ((i.toNat : Nat) : Int) = i by omega]
theorem check_fit {n : Int} {E : List Ed} {i : Int} (h : ¬ (n < 1 ∨ 8 < n ∨ 16 < E.length)) (hb : ∀ q, q < i.toNat → fitsB n (atG E q) = true) (hi : ¬ i < (E.length : Int)) : (∀ x ∈ E, fitsB n x = true) ∧ checkG n E = if ((orderL E n.toNat).length : Int) < n then (5, -1) else (0, -1) := by
  have hall : ∀ x ∈ E, fitsB n x = true := fun x hx => by
    obtain ⟨q, hq, rfl⟩ := at_of_memG hx
    exact hb q (by omega)
  refine ⟨hall, ?_⟩
  unfold checkG
  rw [if_neg h]
  have : E.findIdx? (fun x => !fitsB n x) = none := by
    rw [List.findIdx?_eq_none_iff]
    intro x hx; rw [hall x hx]; rfl
  rw [this]
end Go.Proofs.YtcnmmnhlhenifaaGreat
namespace Go.Proofs.YtcnmmnhlhenifaaGreat
open Go.RowKit
set_option maxRecDepth 100000
set_option linter.unusedSimpArgs false
set_option linter.unusedVariables false
theorem Fr.re {a : Act} {n d : Nat} {v v' : Value} {L : List (Nat × Value)} (F : Fr a n ((d, v) :: L)) (h : v = v') : Fr a n ((d, v') :: L) := h ▸ F
def u8 (b : UInt8) : Int := (b.toNat : Int)
def byteU (n : Int) : UInt8 := UInt8.ofNat (n % 256).toNat
theorem u8_byte (n : Int) : u8 (byteU n) = n % 256 := by
  unfold u8 byteU
  rw [UInt8.toNat_ofNat']
  omega
theorem wrap8 (n : Int) : IntKind.u8.wrap n = u8 (byteU n) := by
  rw [u8_byte]
  simp [IntKind.wrap, IntKind.signed, IntKind.bits]
def encU : Enc UInt8 := ⟨1, fun b => [.int .u8 (u8 b)], 0, fun _ => rfl, fun a v h => by
  simp only [List.mem_cons, List.not_mem_nil, or_false] at h; subst h; rfl⟩
def cU (L : List UInt8) : List Value := cE encU L
def atU (L : List UInt8) (i : Nat) : UInt8 := atE encU L i
theorem cU_at {L : List UInt8} {i : Nat} (h : i < L.length) : (cU L)[i * 1]? = some (.int .u8 (u8 (atU L i))) := by
  have h1 := cE_at (E := encU) h
  have h2 : ((cU L).drop (i * 1)).take 1 = [.int .u8 (u8 (atU L i))] := h1
  have h3 : (((cU L).drop (i * 1)).take 1)[0]? = some (.int .u8 (u8 (atU L i))) := by rw [h2]; rfl
  rw [List.getElem?_take] at h3
  simpa using h3
theorem cU_app (L K : List UInt8) : cU (L ++ K) = cU L ++ cU K := cE_app L K
theorem cU_ones (L : List UInt8) : ∀ z ∈ cU L, z.oneCell' = true := cE_ones L
theorem cU_len (L : List UInt8) : (cU L).length = L.length := by unfold cU; rw [cE_len]; show L.length * 1 = _; omega
theorem cU_map : ∀ L : List UInt8, cU L = L.map fun b => .int .u8 (u8 b)
  | [] => rfl
  | b :: r => by
    show Value.int .u8 (u8 b) :: cU r = _
    rw [cU_map r]; rfl
theorem atU_eq {L : List UInt8} {i : Nat} (h : i < L.length) : atU L i = L[i] := atE_eq h
abbrev RdU (w : World) (v : Value) (L : List UInt8) : Prop := RdV w 1 v L.length (cU L)
def strV (L : List UInt8) : Value := .string ⟨L.toArray⟩
section
variable {P : Program} {o : Oper} {a : Act} {x y : Operand} {v : Value} {src dst t t' e : TypeId} {n : Int} {b : UInt8} {A B : List UInt8} {C : World → Prop}
theorem pu_cvt8 (ho : o.op = .convert src dst x) (hx : a.eval x = .int .i64 n) (hs : (P.underlying src).isSome = true) (hd : P.underlying dst = some (.int .u8)) : Pure P o a (.int .u8 (u8 (byteU n))) := fun w => by
  have hk : P.intKind dst = .u8 := by simp [Program.intKind, hd]
  have := run_convert_int (P := P) w src dst .i64 n hs (by rw [hk]; exact hd)
  rw [hk, wrap8] at this
  simp only [execOp, ho, hx, Sem.run_bind, this, Result.andThen_ok, Sem.run_pure]
theorem pu_ixN {kd : IntKind} {m n' : Nat} {w : World} {xs : List Value} (q : Nat) (ho : o.op = .indexAddr t x y) (hx : a.eval x = v) (hy : a.eval y = .int kd n) (hT : SlTy P t e m) (hv : RdV w m v n' xs) (hi : n = (q : Int)) (hl : q < n') : Pure P o a (.pointer (some ⟨gof v, oof v + q * m, none⟩)) := by
  have h := pu_ix ho hx hy hT hv (by omega) (by omega)
  rwa [show n.toNat = q by omega] at h
theorem pu_shr {k : Nat} {q : Int} (ho : o.op = .binOp .shr t x y t') (hx : a.eval x = .int .i64 n) (hy : a.eval y = .int .u64 (k : Int)) (hk : k ≤ 63) (hq : q = n / 2 ^ k) : Pure P o a (.int .i64 q) := fun w => by
  subst hq
  simp only [execOp, ho, hx, hy]
  have h0 : ¬ ((k : Int) < 0) := by omega
  have h1 : min ((k : Int)).toNat IntKind.i64.bits = k := by simp [IntKind.bits]; omega
  simp [go_sem, binOp, Op.shift, h0, h1, Int.fdiv_eq_ediv_of_nonneg]
theorem ld_str {m : Nat} (ho : o.op = .convert src dst x) (hx : a.eval x = v) (hs : P.underlying src = some (.slice e)) (he : P.underlying e = some (.int .u8)) (hd : P.underlying dst = some .string) (hr : ∀ w, C w → RdV w 1 v m (cU A)) (hl : A.length = m) : Rdy P o a C (strV A) := fun w hC => by
  subst hl
  obtain ⟨_, ad, c, rfl, h1, h2, h3⟩ := hr w hC
  simp only [execOp, ho, hx]
  rcases Nat.eq_zero_or_pos A.length with h0 | h0
  · have hA : A = [] := List.eq_nil_of_length_eq_zero h0
    subst hA
    have hc : (convert src dst (.slice ad 0 c)).run P w = .ok (.string ⟨#[]⟩) w := by
      rw [run_convert_bytes_string w src dst e ad 0 c hs he hd]
      cases ad with
      | none => simp [Conv.bytesToString]; rfl
      | some q =>
        have := run_bytesToString (P := P) w q 0 c [] (run_loadCells_list (P := P) w q [] (fun j v hj => by simp at hj))
        rw [this]; rfl
    simp only [List.length_nil, Sem.run_bind, hc, Result.andThen_ok, Sem.run_pure, strV]
  · obtain ⟨g, off, rfl, h4, h5⟩ := h3 h0
    have hc := run_convert_bytes_back (P := P) w src dst e ⟨g, off, none⟩ c A hs he hd (fun j hj => by
      rw [addr_add]
      refine h5 j _ ?_
      have := cU_at hj
      rw [Nat.mul_one] at this
      rw [this, atU_eq hj]; rfl)
    simp only [Sem.run_bind, hc, Result.andThen_ok, Sem.run_pure, strV]
end
section
variable {P : Program} {ops rest : List Oper} {o : Oper} {a : Act} {n d : Nat} {L : List (Nat × Value)} {Q : Exit → Act → World → Prop} {R : List Nat} {w w0 : World} {B : List Ent} {v u : Value} {x y : Operand} {t e ty src dst : TypeId} {i g k m : Nat} {A : List UInt8} {xs : List Value}
end
end Go.Proofs.YtcnmmnhlhenifaaGreat
namespace Go.Proofs.YtcnmmnhlhenifaaGreat
open Go.RowKit
set_option maxRecDepth 100000
set_option linter.unusedSimpArgs false
set_option linter.unusedVariables false
structure B32 where
  l : List UInt8
  h : l.length = 32
deriving DecidableEq
def at32 (b : B32) (i : Nat) : UInt8 := b.l.getD i 0
def B32.ofL (L : List UInt8) : B32 := ⟨(L ++ List.replicate 32 0).take 32, by simp⟩
def B32.zero : B32 := ⟨List.replicate 32 0, List.length_replicate⟩
def B32.put (b : B32) (i : Nat) (u : UInt8) : B32 := ⟨b.l.set i u, by rw [List.length_set]; exact b.h⟩
theorem B32.ext' {a b : B32} (h : a.l = b.l) : a = b := by cases a; cases b; simp_all
theorem B32.eq_iff {a b : B32} : a = b ↔ a.l = b.l := ⟨fun h => by rw [h], B32.ext'⟩
def l32 (b : B32) : List Value := [.int .u8 (u8 (at32 b 0)), .int .u8 (u8 (at32 b 1)), .int .u8 (u8 (at32 b 2)), .int .u8 (u8 (at32 b 3)), .int .u8 (u8 (at32 b 4)), .int .u8 (u8 (at32 b 5)), .int .u8 (u8 (at32 b 6)), .int .u8 (u8 (at32 b 7)), .int .u8 (u8 (at32 b 8)), .int .u8 (u8 (at32 b 9)), .int .u8 (u8 (at32 b 10)), .int .u8 (u8 (at32 b 11)), .int .u8 (u8 (at32 b 12)), .int .u8 (u8 (at32 b 13)), .int .u8 (u8 (at32 b 14)), .int .u8 (u8 (at32 b 15)), .int .u8 (u8 (at32 b 16)), .int .u8 (u8 (at32 b 17)), .int .u8 (u8 (at32 b 18)), .int .u8 (u8 (at32 b 19)), .int .u8 (u8 (at32 b 20)), .int .u8 (u8 (at32 b 21)), .int .u8 (u8 (at32 b 22)), .int .u8 (u8 (at32 b 23)), .int .u8 (u8 (at32 b 24)), .int .u8 (u8 (at32 b 25)), .int .u8 (u8 (at32 b 26)), .int .u8 (u8 (at32 b 27)), .int .u8 (u8 (at32 b 28)), .int .u8 (u8 (at32 b 29)), .int .u8 (u8 (at32 b 30)), .int .u8 (u8 (at32 b 31))]
theorem l32_range (b : B32) : l32 b = (List.range 32).map fun i => Value.int .u8 (u8 (at32 b i)) := rfl
theorem l32_eq (b : B32) : l32 b = cU b.l := by
  rw [l32_range, cU_map]
  apply List.ext_getElem
  · simp [b.h]
  · intro i h1 h2
    have hi : i < b.l.length := by simpa using h2
    simp [at32, List.getD_eq_getElem?_getD, List.getElem?_eq_getElem hi]
theorem ofL_nil : B32.ofL [] = B32.zero := B32.ext' (by show (([] : List UInt8) ++ List.replicate 32 0).take 32 = List.replicate 32 (0 : UInt8); simp)
structure Fm where
  kind : Int
  frm : Int
  dst : Int
  org : Int
  seq : Int
  text : List UInt8
  tag : B32
deriving DecidableEq
def Fm.zero : Fm := ⟨0, 0, 0, 0, 0, [], B32.zero⟩
def cFm (x : Fm) : List Value := [.int .i64 x.kind, .int .i64 x.frm, .int .i64 x.dst, .int .i64 x.org, .int .i64 x.seq, strV x.text] ++ l32 x.tag
structure En where
  seq : Int
  prev : B32
  kind : Int
  po : Po
  edge : Int
  peer : Int
  n : Int
deriving DecidableEq
def En.zero : En := ⟨0, B32.zero, 0, Po.zero, 0, 0, 0⟩
def cEn (x : En) : List Value := .int .i64 x.seq :: (l32 x.prev ++ [.int .i64 x.kind, .int .i64 x.po.n, .int .i64 x.po.t.e, .int .i64 x.po.t.r, .int .i64 x.edge, .int .i64 x.peer, .int .i64 x.n])
theorem cEn_len (x : En) : (cEn x).length = 40 := rfl
section
variable {P : Program} {w : World} {xs ys : Array Value} {f : Field} {fs : List Field} {a b : Value} {r r' : Bool} {dd : Nat} {t e : TypeId}
end
section
variable {P : Program} {o : Oper} {a : Act} {x y lo hi : Operand} {v : Value} {w : World} {t e ty : TypeId} {g off n N l h j : Nat} {cs : Array Value} {b : B32} {i : Int} {k : IntKind} {A L : List UInt8}
theorem pu_sliceF (ho : o.op = .slice t x none none none) (hx : a.eval x = .pointer (some ⟨g, off, none⟩)) {e : TypeId} (hu : P.underlying t = some (.array 32 e)) (hi : (P.info? e).map (·.size) = some 1) : Pure P o a (.slice (some ⟨g, off, none⟩) 32 32) := fun w' => by
  cases hq : P.info? e with
  | none => simp [hq] at hi
  | some inf =>
    have hs : inf.size = 1 := by simpa [hq] using hi
    simp only [execOp, ho, hx]
    simp [Instr.sliceAt, Instr.sureAddr, Instr.sliceBounds, run_underlying hu, sizeOf, typeInfo, hq, addr_add]
theorem arr_rdv (hb : Blk w g t cs) (hc : (cs.toList.drop off).take 32 = l32 b) : RdV w 1 (.slice (some ⟨g, off, none⟩) 32 32) 32 (cU b.l) := by
  rw [l32_eq] at hc
  refine ⟨by rw [cU_len, b.h], _, _, rfl, Nat.le_refl _, by decide, fun _ => ⟨g, off, rfl, hb.lt, fun j u hj => ?_⟩⟩
  rw [← hc, List.getElem?_take, List.getElem?_drop] at hj
  split at hj
  · rw [hb.cell]; simpa using hj
  · cases hj
end
section
variable {P : Program} {ops rest : List Oper} {o : Oper} {a : Act} {n : Nat} {L : List (Nat × Value)} {Q : Exit → Act → World → Prop} {R : List Nat} {w w0 : World} {B : List Ent} {x y : Operand} {t ty : TypeId} {i g k m : Nat} {cs : Array Value} {ys : List Value}
end
def cEn2 (p : En × En) : List Value := cEn p.1 ++ cEn p.2
theorem l32_ones (b : B32) : ∀ z ∈ l32 b, z.oneCell' = true := by rw [l32_eq]; exact cU_ones _
def encN : Enc En := ⟨40, cEn, En.zero, cEn_len, fun x z hz => by
  simp only [cEn, List.mem_cons, List.mem_append, List.not_mem_nil, or_false] at hz
  rcases hz with rfl | hz | rfl | rfl | rfl | rfl | rfl | rfl | rfl
  · rfl
  · exact l32_ones _ z hz
  all_goals rfl⟩
def cN (L : List En) : List Value := cE encN L
def atN (L : List En) (i : Nat) : En := atE encN L i
theorem cN_at {L : List En} {i : Nat} (h : i < L.length) : ((cN L).drop (i * 40)).take 40 = cEn (atN L i) := cE_at (E := encN) h
abbrev RdN (w : World) (v : Value) (L : List En) : Prop := RdV w 40 v L.length (cN L)
structure Om where
  d : Int
  k : Int
  e : En
def cOm (x : Om) : List Value := .int .i64 x.d :: .int .i64 x.k :: cEn x.e
def encO : Enc Om := ⟨42, cOm, ⟨0, 0, En.zero⟩, fun _ => rfl, fun x z hz => by
  simp only [cOm, List.mem_cons] at hz
  rcases hz with rfl | rfl | hz
  · rfl
  · rfl
  · exact encN.ones _ z hz⟩
def cO (L : List Om) : List Value := cE encO L
def atM (L : List Om) (i : Nat) : Om := atE encO L i
abbrev RdO (w : World) (v : Value) (L : List Om) : Prop := RdV w 42 v L.length (cO L)
end Go.Proofs.YtcnmmnhlhenifaaGreat
namespace Go.Proofs.YtcnmmnhlhenifaaGreat
open Go.RowKit
set_option maxRecDepth 100000
set_option linter.unusedSimpArgs false
set_option linter.unusedVariables false
def fpN (v : Value) (n : Nat) : List Nat := if n = 0 then [] else [gof v]
theorem mem_fpN {v : Value} {n g : Nat} : g ∈ fpN v n ↔ 0 < n ∧ g = gof v := by
  unfold fpN
  split
  · constructor
    · intro h; cases h
    · intro h; omega
  · rw [List.mem_singleton]
    exact ⟨fun h => ⟨by omega, h⟩, fun h => h.2⟩
theorem RdV.keep {w w' : World} {m n : Nat} {v : Value} {xs : List Value} (h : RdV w m v n xs) (hk : ∀ g ∈ fpN v n, w'.heap[g]? = w.heap[g]?) : RdV w' m v n xs ∧ ∀ g ∈ fpN v n, g < w.heap.size := by
  obtain ⟨h1, A, c, h2, h3, h4, h5⟩ := h
  refine ⟨⟨h1, A, c, h2, h3, h4, fun hn => ?_⟩, fun g hg => ?_⟩
  · obtain ⟨g, off, e, h6, h7⟩ := h5 hn
    have hg : gof v = g := by rw [h2, e]; rfl
    have hb := hk g (mem_fpN.2 ⟨hn, hg.symm⟩)
    refine ⟨g, off, e, ?_, fun j u hu => ?_⟩
    · rcases Nat.lt_or_ge g w'.heap.size with hl | hl
      · exact hl
      · rw [Array.getElem?_eq_none hl, Array.getElem?_eq_getElem h6] at hb; cases hb
    · have := h7 j u hu
      unfold World.cell? at this ⊢
      simp only at this ⊢
      rw [hb]; exact this
  · obtain ⟨hn, rfl⟩ := mem_fpN.1 hg
    obtain ⟨g, off, e, h6, h7⟩ := h5 hn
    rw [h2, e]; exact h6
def atW (L : List (List Value)) (i : Nat) : List Value := L.getD i []
def at3 (L : List (List (List St))) (i : Nat) : List (List St) := L.getD i []
theorem at3_eq {L : List (List (List St))} {i : Nat} (h : i < L.length) : at3 L i = L[i] := by unfold at3; rw [List.getD_eq_getElem?_getD, List.getElem?_eq_getElem h]; rfl
def Sm3 (L : List (List (List St))) : Prop := L.length ≤ 1000 ∧ (∀ i, (at3 L i).length ≤ 1000) ∧ ∀ i j, (atR (at3 L i) j).length ≤ 20000000
structure In3 (rs : List Value) (vss : List (List Value)) (L : List (List (List St))) (w : World) : Prop where
  lr : rs.length = L.length
  ls : vss.length = L.length
  lv : ∀ i, i < L.length → (atW vss i).length = (at3 L i).length
  row : ∀ i, i < L.length → RdV w 1 (atV rs i) (at3 L i).length (cV (atW vss i))
  one : ∀ i j, i < L.length → j < (at3 L i).length → RdS w (atV (atW vss i) j) (atR (at3 L i) j)
def fpI (rs : List Value) (vss : List (List Value)) (L : List (List (List St))) : List Nat :=
  (List.range L.length).flatMap fun i => fpN (atV rs i) (at3 L i).length ++ (List.range (at3 L i).length).flatMap fun j => fpN (atV (atW vss i) j) (atR (at3 L i) j).length
theorem mem_fpI {rs : List Value} {vss : List (List Value)} {L : List (List (List St))} {g : Nat} : g ∈ fpI rs vss L ↔ ∃ i, i < L.length ∧ (g ∈ fpN (atV rs i) (at3 L i).length ∨ ∃ j, j < (at3 L i).length ∧ g ∈ fpN (atV (atW vss i) j) (atR (at3 L i) j).length) := by
  unfold fpI
  simp only [List.mem_flatMap, List.mem_range, List.mem_append]
theorem In3.loc (rs : List Value) (vss : List (List Value)) (L : List (List (List St))) : Loc (fpI rs vss L) (In3 rs vss L) := fun w w' hk h => by
  refine ⟨⟨h.lr, h.ls, h.lv, fun i hi => ?_, fun i j hi hj => ?_⟩, fun g hg => ?_⟩
  · exact ((h.row i hi).keep fun g hg => hk g (mem_fpI.2 ⟨i, hi, .inl hg⟩)).1
  · exact (RdV.keep (h.one i j hi hj) fun g hg => hk g (mem_fpI.2 ⟨i, hi, .inr ⟨j, hj, hg⟩⟩)).1
  · obtain ⟨i, hi, h1 | ⟨j, hj, h1⟩⟩ := mem_fpI.1 hg
    · exact ((h.row i hi).keep (w' := w) fun _ _ => rfl).2 g h1
    · exact (RdV.keep (w' := w) (h.one i j hi hj) fun _ _ => rfl).2 g h1
structure Rd3 (v : Value) (rs : List Value) (vss : List (List Value)) (L : List (List (List St))) (w : World) : Prop where
  top : RdV w 1 v L.length (cV rs)
  inn : In3 rs vss L w
def fp3 (v : Value) (rs : List Value) (vss : List (List Value)) (L : List (List (List St))) : List Nat := fpN v L.length ++ fpI rs vss L
theorem Rd3.loc (v : Value) (rs : List Value) (vss : List (List Value)) (L : List (List (List St))) : Loc (fp3 v rs vss L) (Rd3 v rs vss L) := fun w w' hk h => by
  have h1 := h.top.keep (w' := w') fun g hg => hk g (List.mem_append.2 (.inl hg))
  have h2 := In3.loc rs vss L w w' (fun g hg => hk g (List.mem_append.2 (.inr hg))) h.inn
  refine ⟨⟨h1.1, h2.1⟩, fun g hg => ?_⟩
  rcases List.mem_append.1 hg with h3 | h3
  · exact h1.2 g h3
  · exact h2.2 g h3
section
variable {w : World} {rs vs : List Value} {vss : List (List Value)} {L : List (List (List St))} {K : List (List St)} {v : Value}
theorem own_fpN {t : TypeId} {b m n : Nat} {xs : List Value} (h : w.ownsRow b t m v n xs) {g : Nat} (hg : g ∈ fpN v n) : v.ownBlock = some g := by
  obtain ⟨hn, rfl⟩ := mem_fpN.1 hg
  rcases h.2 with h4 | ⟨g', cap, cur, h4, _⟩
  · omega
  · rw [h4]; rfl
end
end Go.Proofs.YtcnmmnhlhenifaaGreat
namespace Go.Proofs.YtcnmmnhlhenifaaGreat
open Go.RowKit
set_option maxRecDepth 100000
set_option linter.unusedSimpArgs false
set_option linter.unusedVariables false
def Run : Int → List Ed → Int → Prop
  | i, [], j => i = j
  | i, x :: r, j => x.f = i ∧ Run x.t r j
def sumW : List Ed → St
  | [] => St.zero
  | x :: r => x.p.add (sumW r)
def Fits (n : Int) (E : List Ed) : Prop := ∀ x ∈ E, fitsB n x = true
theorem fit_t {n : Int} {E : List Ed} (h : Fits n E) {x : Ed} (hx : x ∈ E) : (0 ≤ x.f ∧ x.f < n ∧ 0 ≤ x.t ∧ x.t < n) ∧ 0 ≤ x.p.e ∧ x.p.e ≤ 1000000 ∧ 0 ≤ x.p.r ∧ x.p.r ≤ 1000000 ∧ x.p.rightB = true := by
  have h1 := fits_iff.1 (h x hx)
  have h2 := St.right_iff.1 h1.2
  exact ⟨h1.1, h2.1.1, h2.1.2, h2.2.1, h2.2.2, h1.2⟩
def WayS (E : List Ed) (i j : Int) (t : St) : Prop := ∃ es : List Ed, (∀ x ∈ es, x ∈ E) ∧ Run i es j ∧ sumW es = t ∧ t.rightB = true
def nodesW : Int → List Ed → List Int
  | i, [] => [i]
  | i, x :: r => i :: nodesW x.t r
def fromE (row : List (List St)) (j : Nat) (x : Ed) : List St := if x.t = (j : Int) then sumsP (atR row x.f.toNat) [x.p] else []
def nextR (E : List Ed) (row : List (List St)) (j : Nat) : List St := atR row j ++ E.flatMap (fromE row j)
def rowM (E : List Ed) (n i : Nat) : Nat → List (List St)
  | 0 => (List.replicate n []).set i [St.zero]
  | r + 1 => (List.range n).map fun j => minL (nextR E (rowM E n i r) j)
def tab (n : Nat) (f : Nat → List St) : List (List St) := (List.range n).map f
def cpL (row : List (List St)) (n j : Nat) : List (List St) := tab n fun q => if q < j then atR row q else []
def edL (E : List Ed) (row : List (List St)) (n k : Nat) : List (List St) := tab n fun q => atR row q ++ (E.take k).flatMap (fromE row q)
def inL (E : List Ed) (row : List (List St)) (n k m : Nat) : List (List St) := tab n fun q => atR row q ++ (E.take k).flatMap (fromE row q) ++ if (atG E k).t = (q : Int) then sumsP ((atR row (atG E k).f.toNat).take m) [(atG E k).p] else []
def mnL (E : List Ed) (row : List (List St)) (n j : Nat) : List (List St) := tab n fun q => if q < j then minL (nextR E row q) else atR row q
def cloT (E : List Ed) (n i : Nat) : List (List (List St)) := (List.range i).map fun q => rowM E n q n
def cloRows (E : List Ed) (n : Nat) : List (List (List St)) := cloT E n n
def cloG (n : Int) (E : List Ed) : List (List (List St)) × Int :=
  if (checkG n E).1 ≠ 0 then ([], (checkG n E).1)
  else if (cloRows E n.toNat).any (fun row => row.any fun l => decide (64 < l.length)) then ([], 10)
  else (cloRows E n.toNat, 0)
theorem check_ok {n : Int} {E : List Ed} (h : (checkG n E).1 = 0) : 1 ≤ n ∧ n ≤ 8 ∧ E.length ≤ 16 ∧ Fits n E ∧ n ≤ ((orderL E n.toNat).length : Int) ∧ checkG n E = (0, -1) := by
  unfold checkG at h ⊢
  split at h
  · simp at h
  · rename_i hb
    rw [if_neg hb]
    split at h
    · simp at h
    · rename_i hx
      have hf : Fits n E := fun x hm => by
        have := List.findIdx?_eq_none_iff.1 hx x hm
        simpa using this
      split at h
      · simp at h
      · rename_i ho
        exact ⟨by omega, by omega, by omega, hf, by omega, if_neg ho⟩
def ordG (n : Int) (E : List Ed) : List Int := if (checkG n E).1 = 0 then orderL E n.toNat else []
end Go.Proofs.YtcnmmnhlhenifaaGreat
namespace Go.Proofs.YtcnmmnhlhenifaaGreat
open Go.RowKit
set_option maxRecDepth 100000
set_option linter.unusedSimpArgs false
set_option linter.unusedVariables false
structure RowI (E : List Ed) (n : Nat) (s : List Bool × List Int) : Prop where
  told : ∀ k, k < n → (atB s.1 k = true ↔ (k : Int) ∈ s.2)
  nd : s.2.Nodup
  rng : ∀ q ∈ s.2, 0 ≤ q ∧ q < (n : Int)
  bef : ∀ x ∈ E, x.p = St.zero → ∀ a b, s.2 = a ++ x.t :: b → x.f ∈ a
end Go.Proofs.YtcnmmnhlhenifaaGreat
namespace Go.Proofs.YtcnmmnhlhenifaaGreat
open Go.RowKit
set_option maxRecDepth 100000
set_option linter.unusedSimpArgs false
set_option linter.unusedVariables false
def rightC (L : List (List (List St))) (p : Po) : Bool :=
  decide (1 ≤ L.length ∧ L.length ≤ 8) && L.all (fun r => decide (r.length = L.length)) && (decide (0 ≤ p.n ∧ p.n < (L.length : Int)) && p.t.rightB)
def placesC (L : List (List (List St))) (p : Po) (k : Int) : List St :=
  if rightC L p && decide (0 ≤ k ∧ k < (L.length : Int)) then minL (sumsP [p.t] (atR (at3 L p.n.toNat) k.toNat)) else []
def couldC (L : List (List (List St))) (a b : Po) : Bool := rightC L b && covB (placesC L a b.n) b.t
section
variable {L : List (List (List St))} {p a b d : Po} {k : Int}
theorem rightC_iff : rightC L p = true ↔ (1 ≤ L.length ∧ L.length ≤ 8) ∧ (∀ r ∈ L, r.length = L.length) ∧ (0 ≤ p.n ∧ p.n < (L.length : Int)) ∧ p.t.rightB = true := by
  unfold rightC; simp [and_assoc]
theorem rightC_at (h : rightC L p = true) : (1 ≤ L.length ∧ L.length ≤ 8) ∧ (0 ≤ p.n ∧ p.n < (L.length : Int)) ∧ p.t.rightB = true ∧ ∀ i, i < L.length → (at3 L i).length = L.length := by
  have z := rightC_iff.1 h
  exact ⟨z.1, z.2.2.1, z.2.2.2, fun i hi => z.2.1 _ (by rw [at3_eq hi]; exact List.getElem_mem hi)⟩
end
section
variable {n : Nat} {E : List Ed} {a b d p : Po} {k : Int}
end
end Go.Proofs.YtcnmmnhlhenifaaGreat
namespace Go.Proofs.YtcnmmnhlhenifaaGreat
open Go.RowKit
set_option maxRecDepth 100000
set_option linter.unusedSimpArgs false
set_option linter.unusedVariables false
def evL (L : List (Nat × Value)) : Operand → Option Value
  | .tmp k => look L k
  | .const v => some v
  | .func f => some (.func (.func f) #[] #[])
  | .global _ => none
theorem Fr.evL {a : Act} {n : Nat} {L : List (Nat × Value)} (F : Fr a n L) {x : Operand} {v : Value} (h : evL L x = some v) : a.eval x = v := by
  cases x with
  | tmp k => exact F.ev h
  | const u => injection h
  | func f => injection h
  | global g => cases h
def seenL (n : Nat) (L : List (Nat × Value)) (ops : List Oper) (j : Nat) : Option Value :=
  match ops[j]? with
  | some oj => match oj.dst with
    | some d => match Nat.blt d n with
      | true => look L d
      | false => none
    | none => none
  | none => none
def wantL (n : Nat) (L : List (Nat × Value)) (ops : List Oper) (o : Oper) : Bool :=
  match o.guard with
  | none => true
  | some (j, b) => match seenL n L ops j with
    | some (.bool c) => match b, c with
      | true, true => true
      | false, false => true
      | _, _ => false
    | _ => false
def skipL (n : Nat) (L : List (Nat × Value)) (ops : List Oper) (o : Oper) : Prop :=
  match o.guard with
  | none => False
  | some (j, b) => seenL n L ops j = some (.bool !b) ∨ seenL n L ops j = some undef
theorem seen_some {n : Nat} {L : List (Nat × Value)} {ops : List Oper} {j : Nat} {v : Value} (h : seenL n L ops j = some v) : ∃ oj d, ops[j]? = some oj ∧ oj.dst = some d ∧ Nat.blt d n = true ∧ look L d = some v := by
  unfold seenL at h
  split at h
  · rename_i oj hj
    split at h
    · rename_i d hd
      split at h
      · rename_i hb; exact ⟨oj, d, hj, hd, hb, h⟩
      · cases h
    · cases h
  · cases h
section
variable {P : Program} {ops rest : List Oper} {o : Oper} {a : Act} {n d : Nat} {L : List (Nat × Value)} {Q : Exit → Act → World → Prop} {w : World} {v u : Value} {x y c : Operand} {t t' e s : TypeId} {i j : Int} {k k' : IntKind} {vs : Array Value} {q f g p m N : Nat} {xs : List Value} {cs : Array Value}
theorem wantL_ok (F : Fr a n L) (h : wantL n L ops o = true) : Region.wanted o (yielded ops.toArray a.tmps) = true := by
  unfold wantL at h
  split at h
  · rename_i hg; exact wt0 hg
  · rename_i j b hg
    split at h
    · rename_i c hs
      obtain ⟨oj, d, h1, h2, h3, h4⟩ := seen_some hs
      cases b <;> cases c <;> first | exact wt1 F hg h1 h2 h4 h3 | exact absurd h (by decide)
    · cases h
theorem skipL_ok (F : Fr a n L) (h : skipL n L ops o) : Region.wanted o (yielded ops.toArray a.tmps) = false := by
  unfold skipL at h
  split at h
  · cases h
  · rename_i j b hg
    rcases h with h | h
    · obtain ⟨oj, d, h1, h2, h3, h4⟩ := seen_some h; exact wtn F hg h1 h2 h4 h3
    · obtain ⟨oj, d, h1, h2, h3, h4⟩ := seen_some h; exact wtu F hg h1 h2 h4 h3
theorem puG (hp : ∀ a, Fr a n L → Pure P o a v) (h : ∀ a, Fr a n ((d, v) :: L) → wpList P ops.toArray Q rest a w) (hw : wantL n L ops o = true := by exact rfl) (hd : o.dst = some d := by exact rfl) (hdn : Nat.blt d n = true := by exact rfl) : ∀ a, Fr a n L → wpList P ops.toArray Q (o :: rest) a w :=
  fun a F => sq_pure F (wantL_ok F hw) (hp a F) hd hdn h
theorem rdG (hp : ∀ a, Fr a n L → Rdy P o a (fun w' => w' = w) v) (h : ∀ a, Fr a n ((d, v) :: L) → wpList P ops.toArray Q rest a w) (hw : wantL n L ops o = true := by exact rfl) (hd : o.dst = some d := by exact rfl) (hdn : Nat.blt d n = true := by exact rfl) : ∀ a, Fr a n L → wpList P ops.toArray Q (o :: rest) a w :=
  fun a F => sq_rd F (wantL_ok F hw) (hp a F) hd hdn h
theorem skG (h : ∀ a, Fr a n ((d, undef) :: L) → wpList P ops.toArray Q rest a w) (hd : o.dst = some d := by exact rfl) (hw : skipL n L ops o := by first | exact .inl rfl | exact .inr rfl) (hdn : Nat.blt d n = true := by exact rfl) : ∀ a, Fr a n L → wpList P ops.toArray Q (o :: rest) a w :=
  fun a F => sq_skip F (skipL_ok F hw) hd hdn h
theorem mvG (h : ∀ a, Fr a n ((d, v) :: L) → wpList P ops.toArray Q rest a w) (ho : o.op = .move x := by exact rfl) (hx : evL L x = some v := by exact rfl) (hw : wantL n L ops o = true := by exact rfl) (hd : o.dst = some d := by exact rfl) (hdn : Nat.blt d n = true := by exact rfl) : ∀ a, Fr a n L → wpList P ops.toArray Q (o :: rest) a w :=
  puG (fun _ F => pu_move ho (F.evL hx)) h hw hd hdn
theorem asG (h : ∀ a, Fr a n ((d, v) :: L) → wpList P ops.toArray Q rest a w) (ho : o.op = .assign x := by exact rfl) (hx : evL L x = some v := by exact rfl) (hw : wantL n L ops o = true := by exact rfl) (hd : o.dst = some d := by exact rfl) (hdn : Nat.blt d n = true := by exact rfl) : ∀ a, Fr a n L → wpList P ops.toArray Q (o :: rest) a w :=
  puG (fun _ F => pu_assign ho (F.evL hx)) h hw hd hdn
theorem faG (hf : fieldOff P s f = some q) (h : ∀ a, Fr a n ((d, .pointer (some ⟨g, p + q, none⟩)) :: L) → wpList P ops.toArray Q rest a w) (ho : o.op = .fieldAddr s x f := by exact rfl) (hx : evL L x = some (.pointer (some ⟨g, p, none⟩)) := by exact rfl) (hw : wantL n L ops o = true := by exact rfl) (hd : o.dst = some d := by exact rfl) (hdn : Nat.blt d n = true := by exact rfl) : ∀ a, Fr a n L → wpList P ops.toArray Q (o :: rest) a w :=
  puG (fun _ F => pu_field ho (F.evL hx) hf) h hw hd hdn
theorem exG (h : ∀ a, Fr a n ((d, v) :: L) → wpList P ops.toArray Q rest a w) (ho : o.op = .extract x q := by exact rfl) (hx : evL L x = some (.tuple vs) := by exact rfl) (hv : vs[q]? = some v := by exact rfl) (hw : wantL n L ops o = true := by exact rfl) (hd : o.dst = some d := by exact rfl) (hdn : Nat.blt d n = true := by exact rfl) : ∀ a, Fr a n L → wpList P ops.toArray Q (o :: rest) a w :=
  puG (fun _ F => pu_extract ho (F.evL hx) hv) h hw hd hdn
theorem lsG (h : ∀ a, Fr a n ((d, .bool (decide (i < j))) :: L) → wpList P ops.toArray Q rest a w) (ho : o.op = .binOp .lss t x y t' := by exact rfl) (hx : evL L x = some (.int k i) := by exact rfl) (hy : evL L y = some (.int k j) := by exact rfl) (hw : wantL n L ops o = true := by exact rfl) (hd : o.dst = some d := by exact rfl) (hdn : Nat.blt d n = true := by exact rfl) : ∀ a, Fr a n L → wpList P ops.toArray Q (o :: rest) a w :=
  puG (fun _ F => pu_lss ho (F.evL hx) (F.evL hy)) h hw hd hdn
theorem leG (h : ∀ a, Fr a n ((d, .bool (decide (i ≤ j))) :: L) → wpList P ops.toArray Q rest a w) (ho : o.op = .binOp .leq t x y t' := by exact rfl) (hx : evL L x = some (.int k i) := by exact rfl) (hy : evL L y = some (.int k j) := by exact rfl) (hw : wantL n L ops o = true := by exact rfl) (hd : o.dst = some d := by exact rfl) (hdn : Nat.blt d n = true := by exact rfl) : ∀ a, Fr a n L → wpList P ops.toArray Q (o :: rest) a w :=
  puG (fun _ F => pu_leq ho (F.evL hx) (F.evL hy)) h hw hd hdn
theorem gtG (h : ∀ a, Fr a n ((d, .bool (decide (j < i))) :: L) → wpList P ops.toArray Q rest a w) (ho : o.op = .binOp .gtr t x y t' := by exact rfl) (hx : evL L x = some (.int k i) := by exact rfl) (hy : evL L y = some (.int k j) := by exact rfl) (hw : wantL n L ops o = true := by exact rfl) (hd : o.dst = some d := by exact rfl) (hdn : Nat.blt d n = true := by exact rfl) : ∀ a, Fr a n L → wpList P ops.toArray Q (o :: rest) a w :=
  puG (fun _ F => pu_gtr ho (F.evL hx) (F.evL hy)) h hw hd hdn
theorem geG (h : ∀ a, Fr a n ((d, .bool (decide (j ≤ i))) :: L) → wpList P ops.toArray Q rest a w) (ho : o.op = .binOp .geq t x y t' := by exact rfl) (hx : evL L x = some (.int k i) := by exact rfl) (hy : evL L y = some (.int k j) := by exact rfl) (hw : wantL n L ops o = true := by exact rfl) (hd : o.dst = some d := by exact rfl) (hdn : Nat.blt d n = true := by exact rfl) : ∀ a, Fr a n L → wpList P ops.toArray Q (o :: rest) a w :=
  puG (fun _ F => pu_geq ho (F.evL hx) (F.evL hy)) h hw hd hdn
theorem eqG (h : ∀ a, Fr a n ((d, .bool (decide (i = j))) :: L) → wpList P ops.toArray Q rest a w) (ho : o.op = .binOp .eql t x y t' := by exact rfl) (hx : evL L x = some (.int k i) := by exact rfl) (hy : evL L y = some (.int k j) := by exact rfl) (hw : wantL n L ops o = true := by exact rfl) (hd : o.dst = some d := by exact rfl) (hdn : Nat.blt d n = true := by exact rfl) : ∀ a, Fr a n L → wpList P ops.toArray Q (o :: rest) a w :=
  puG (fun _ F => pu_eqlI ho (F.evL hx) (F.evL hy)) h hw hd hdn
theorem adG (h : ∀ a, Fr a n ((d, .int .i64 (i + j)) :: L) → wpList P ops.toArray Q rest a w) (ho : o.op = .binOp .add t x y t' := by exact rfl) (hx : evL L x = some (.int .i64 i) := by exact rfl) (hy : evL L y = some (.int .i64 j) := by exact rfl) (h1 : -9223372036854775808 ≤ i + j := by omega) (h2 : i + j ≤ 9223372036854775807 := by omega) (hw : wantL n L ops o = true := by exact rfl) (hd : o.dst = some d := by exact rfl) (hdn : Nat.blt d n = true := by exact rfl) : ∀ a, Fr a n L → wpList P ops.toArray Q (o :: rest) a w :=
  puG (fun _ F => pu_add ho (F.evL hx) (F.evL hy) h1 h2) h hw hd hdn
theorem pkT (h : ∀ a, Fr a n ((d, v) :: L) → wpList P ops.toArray Q rest a w) (ho : o.op = .pick c x y := by exact rfl) (hc : evL L c = some (.bool true) := by exact rfl) (hx : evL L x = some v := by exact rfl) (hw : wantL n L ops o = true := by exact rfl) (hd : o.dst = some d := by exact rfl) (hdn : Nat.blt d n = true := by exact rfl) : ∀ a, Fr a n L → wpList P ops.toArray Q (o :: rest) a w :=
  puG (fun _ F => pu_pickt ho (F.evL hc) (F.evL hx)) h hw hd hdn
theorem pkF (h : ∀ a, Fr a n ((d, v) :: L) → wpList P ops.toArray Q rest a w) (ho : o.op = .pick c x y := by exact rfl) (hc : evL L c = some (.bool false) := by exact rfl) (hy : evL L y = some v := by exact rfl) (hw : wantL n L ops o = true := by exact rfl) (hd : o.dst = some d := by exact rfl) (hdn : Nat.blt d n = true := by exact rfl) : ∀ a, Fr a n L → wpList P ops.toArray Q (o :: rest) a w :=
  puG (fun _ F => pu_pickf ho (F.evL hc) (F.evL hy)) h hw hd hdn
theorem lcG {ty : TypeId} {B : List Ent} {R : List Nat} {w0 : World} (M : Mm R w0 w B) (hT : OneTy P ty) {r : Nat} (hb : B[r]? = some (.blk g t cs)) (h : ∀ a, Fr a n ((d, v) :: L) → wpList P ops.toArray Q rest a w) (ho : o.op = .load ty x := by exact rfl) (hx : evL L x = some (.pointer (some ⟨g, p, none⟩)) := by exact rfl) (hc : cs[p]? = some v := by exact rfl) (hw : wantL n L ops o = true := by exact rfl) (hd : o.dst = some d := by exact rfl) (hdn : Nat.blt d n = true := by exact rfl) : ∀ a, Fr a n L → wpList P ops.toArray Q (o :: rest) a w :=
  rdG (fun _ F => ld_cell ho (F.evL hx) hT (M.rd hb) hc) h hw hd hdn
end
section
variable {P : Program} {Q : Exit → Act → World → Prop} {n : Nat} {L : List (Nat × Value)} {w : World} {id : Nat} {l : List Oper} {y : Code} {ops : Array Oper}
theorem rlG (h : ∀ a, Fr a n L → wpList P l.toArray Q l a w) : ∀ a, Fr a n L → (Code.region id l.toArray false).wp P Q a w := fun a F => wp_region_lit (h a F)
theorem srG (h : ∀ a, Fr a n L → wpList P l.toArray (Exit.then (y.wp P Q) Q) l a w) : ∀ a, Fr a n L → (Code.seq (Code.region id l.toArray false) y).wp P Q a w := fun a F => wp_seq (wp_region_lit (h a F))
theorem nxG (h : ∀ a, Fr a n L → y.wp P Q a w) : ∀ a, Fr a n L → wpList P ops (Exit.then (y.wp P Q) Q) [] a w := fun a F => nx (h a F)
end
end Go.Proofs.YtcnmmnhlhenifaaGreat
namespace Go.Proofs.YtcnmmnhlhenifaaGreat
open Go.RowKit
set_option maxRecDepth 100000
set_option linter.unusedSimpArgs false
set_option linter.unusedVariables false
def encP : Enc Nat := ⟨1, fun g => [.pointer (some ⟨g, 0, none⟩)], 0, fun _ => rfl, fun a v h => by
  simp only [List.mem_cons, List.not_mem_nil, or_false] at h; subst h; rfl⟩
def cP (L : List Nat) : List Value := cE encP L
def atP (L : List Nat) (i : Nat) : Nat := atE encP L i
theorem cP_at {L : List Nat} {i : Nat} (h : i < L.length) : (cP L)[i * 1]? = some (.pointer (some ⟨atP L i, 0, none⟩)) := by
  have h1 := cE_at (E := encP) h
  have h2 : ((cP L).drop (i * 1)).take 1 = [.pointer (some ⟨atP L i, 0, none⟩)] := h1
  have h3 : (((cP L).drop (i * 1)).take 1)[0]? = some (.pointer (some ⟨atP L i, 0, none⟩)) := by rw [h2]; rfl
  rw [List.getElem?_take] at h3
  simpa using h3
theorem cP_app (L K : List Nat) : cP (L ++ K) = cP L ++ cP K := cE_app L K
theorem cP_ones (L : List Nat) : ∀ z ∈ cP L, z.oneCell' = true := cE_ones L
abbrev RdP (w : World) (v : Value) (L : List Nat) : Prop := RdV w 1 v L.length (cP L)
section
variable {α : Type} {fp : α → List Nat} {Φ : α → World → Prop} {L : List α} {w w' : World}
structure ObjsV (fp : α → List Nat) (Φ : α → World → Prop) (L : List α) (w : World) : Prop where
  all : ∀ a ∈ L, Φ a w
  nd : L.Pairwise fun a b => ∀ g ∈ fp a, ¬ g ∈ fp b
theorem ObjsV.loc (hl : ∀ a, Loc (fp a) (Φ a)) (L : List α) : Loc (L.flatMap fp) (ObjsV fp Φ L) := fun w w' hk h => by
  have hin : ∀ a ∈ L, ∀ g ∈ fp a, g ∈ L.flatMap fp := fun a ha g hg => List.mem_flatMap.2 ⟨a, ha, hg⟩
  refine ⟨⟨fun a ha => (hl a w w' (fun g hg => hk g (hin a ha g hg)) (h.all a ha)).1, h.nd⟩, fun g hg => ?_⟩
  obtain ⟨a, ha, hg⟩ := List.mem_flatMap.1 hg
  exact (hl a w w (fun _ _ => rfl) (h.all a ha)).2 g hg
theorem ObjsV.nil (fp : α → List Nat) (Φ : α → World → Prop) (w : World) : ObjsV fp Φ [] w := ⟨fun a ha => (by cases ha), List.Pairwise.nil⟩
theorem ObjsV.apart (h : ObjsV fp Φ L w) {i j : Nat} (hi : i < L.length) (hj : j < L.length) (hne : i ≠ j) : ∀ g ∈ fp L[i], ¬ g ∈ fp L[j] := by
  have hp := List.pairwise_iff_getElem.1 h.nd
  rcases Nat.lt_or_gt_of_ne hne with h1 | h1
  · exact hp i j hi hj h1
  · exact fun g hg hg' => hp j i hj hi h1 g hg' hg
theorem ObjsV.lt (hl : ∀ a, Loc (fp a) (Φ a)) (h : ObjsV fp Φ L w) {a : α} (ha : a ∈ L) : ∀ g ∈ fp a, g < w.heap.size := (hl a w w (fun _ _ => rfl) (h.all a ha)).2
theorem ObjsV.turn (hl : ∀ a, Loc (fp a) (Φ a)) (h : ObjsV fp Φ L w) {i : Nat} (hi : i < L.length) {Z : Value → Ent → Prop} {e : Ending} {Z' : Value → α → Prop}
    (ht : TurnsE w (.own (fp L[i]) (Φ L[i])) (fun u x' => ∃ a', Z' u a' ∧ x' = .own (fp a') (Φ a')) e w') :
    TurnsE w (.own (L.flatMap fp) (ObjsV fp Φ L)) (fun u x' => ∃ a', Z' u a' ∧ x' = .own ((L.set i a').flatMap fp) (ObjsV fp Φ (L.set i a'))) e w' := by
  obtain ⟨v, x', h1, h2, h3, h4, h5, a', h6, rfl⟩ := ht
  have hsub : ∀ g ∈ fp L[i], g ∈ L.flatMap fp := fun g hg => List.mem_flatMap.2 ⟨_, List.getElem_mem hi, hg⟩
  have hother : ∀ j (hj : j < L.length), j ≠ i → Φ L[j] w' ∧ ∀ g ∈ fp L[j], ¬ g ∈ fp a' := fun j hj hne => by
    have hlt := h.lt hl (List.getElem_mem hj)
    have hap := h.apart hj hi hne
    refine ⟨(hl _ w w' (fun g hg => h2.block g (hlt g hg) (hap g hg)) (h.all _ (List.getElem_mem hj))).1, fun g hg hg' => ?_⟩
    rcases h4 g hg' with h7 | h7
    · exact hap g hg h7
    · have := hlt g hg; omega
  refine ⟨v, .own ((L.set i a').flatMap fp) (ObjsV fp Φ (L.set i a')), h1, h2.mono hsub, ⟨⟨fun b hb => ?_, ?_⟩, ObjsV.loc hl _⟩, fun g hg => ?_, rfl, a', h6, rfl⟩
  · obtain ⟨j, hj, rfl⟩ := List.mem_iff_getElem.1 hb
    rw [List.length_set] at hj
    rw [List.getElem_set]
    split
    · exact h3.1
    · rename_i hne; exact (hother j hj (fun e => hne e.symm)).1
  · rw [List.pairwise_iff_getElem]
    intro j k hj hk hjk
    rw [List.length_set] at hj hk
    rw [List.getElem_set, List.getElem_set]
    by_cases e1 : i = j
    · rw [if_pos e1, if_neg (by omega)]
      exact fun g hg hg' => (hother k hk (by omega)).2 g hg' hg
    · rw [if_neg e1]
      by_cases e2 : i = k
      · rw [if_pos e2]; exact (hother j hj (by omega)).2
      · rw [if_neg e2]; exact h.apart hj hk (by omega)
  · obtain ⟨b, hb, hg⟩ := List.mem_flatMap.1 hg
    obtain ⟨j, hj, rfl⟩ := List.mem_iff_getElem.1 hb
    rw [List.length_set] at hj
    rw [List.getElem_set] at hg
    split at hg
    · rcases h4 g hg with h7 | h7
      · exact .inl (hsub g h7)
      · exact .inr h7
    · exact .inl (List.mem_flatMap.2 ⟨_, List.getElem_mem hj, hg⟩)
theorem ObjsV.push (h : ObjsV fp Φ L w) {a : α} (ha : Φ a w) (hd : ∀ g ∈ fp a, ¬ g ∈ L.flatMap fp) : ObjsV fp Φ (L ++ [a]) w := by
  refine ⟨fun b hb => ?_, List.pairwise_append.2 ⟨h.nd, List.pairwise_singleton _ _, fun b hb c hc g hg hg' => ?_⟩⟩
  · rcases List.mem_append.1 hb with hb | hb
    · exact h.all b hb
    · rw [List.mem_singleton.1 hb]; exact ha
  · rw [List.mem_singleton.1 hc] at hg'
    exact hd g hg' (List.mem_flatMap.2 ⟨b, hb, hg⟩)
end
theorem Mm.pushO {α : Type} {fp : α → List Nat} {Φ : α → World → Prop} {L : List α} {a : α} {R : List Nat} {w w0 : World} {B : List Ent} (hl : ∀ a, Loc (fp a) (Φ a)) (M : Mm R w0 w (.own (fp a) (Φ a) :: .own (L.flatMap fp) (ObjsV fp Φ L) :: B)) :
    Mm R w0 w (.own ((L ++ [a]).flatMap fp) (ObjsV fp Φ (L ++ [a])) :: B) := by
  have hap := M.apart (i := 0) (j := 1) rfl rfl (by decide)
  refine Mm.recast (X := [.own (fp a) (Φ a), .own (L.flatMap fp) (ObjsV fp Φ L)]) (Y := [_]) M (fun y hy => ?_) (fun y hy g hg => ?_) (List.pairwise_singleton _ _) (fun y hy g hg => ?_)
  · rw [List.mem_singleton.1 hy]
    exact ⟨(M.pv (i := 1) rfl).push (M.pv (i := 0) rfl) hap, ObjsV.loc hl _⟩
  · rw [List.mem_singleton.1 hy] at hg
    have hg' : g ∈ (L ++ [a]).flatMap fp := hg
    rw [List.flatMap_append, List.mem_append] at hg'
    rcases hg' with h | h
    · exact ⟨.own (L.flatMap fp) (ObjsV fp Φ L), by simp, h⟩
    · exact ⟨.own (fp a) (Φ a), by simp, by simpa [Ent.fp] using h⟩
  · rw [List.mem_singleton.1 hy] at hg; cases hg
end Go.Proofs.YtcnmmnhlhenifaaGreat
namespace Go.Proofs.YtcnmmnhlhenifaaGreat
open Go.RowKit Go.Sort
set_option maxRecDepth 100000
set_option linter.unusedSimpArgs false
set_option linter.unusedVariables false
section
variable {α : Type} [Inhabited α] (P : Program) (g : Nat) (lb : Array Value) (lt : α → α → Bool) (sf : Nat) (sb : Array Value) (blk t n : Nat) (W0 : World) (cA : Array α → Array Value)
def LessOK : Prop := ∀ (d : Array α) (w : World) (i j : Nat), d.size = n → i < n → j < n → Out [blk] W0 w → Blk w blk t (cA d) →
  Calls P g (#[.int .i64 i, .int .i64 j] ++ lb) w fun e w' => e = .returned (.bool (lt d[i]! d[j]!)) ∧ Below w.heap.size w w'
def SwapOK : Prop := ∀ (d : Array α) (w : World) (i j : Nat), d.size = n → i < n → j < n → Blk w blk t (cA d) →
  ∃ w', (callFunc sf (#[.int .i64 i, .int .i64 j] ++ sb)).run P w = .ok (.value (.tuple #[])) w' ∧ Out [blk] w w' ∧ Blk w' blk t (cA (swp d i j))
def Turns (w : World) (Z : Value → Array α → Prop) (e : Ending) (w' : World) : Prop := ∃ v d', e = .returned v ∧ Out [blk] w w' ∧ Blk w' blk t (cA d') ∧ Z v d'
end
section
variable {α : Type} [Inhabited α] {P : Program} {g : Nat} {lb : Array Value} {lt : α → α → Bool} {sf : Nat} {sb : Array Value} {blk t n : Nat} {W0 w : World} {cA : Array α → Array Value}
theorem LessOK.at (h : LessOK P g lb lt blk t n W0 cA) {d : Array α} {i j : Nat} {ii jj : Int} (hs : d.size = n) (hi : i < n) (hj : j < n) (ei : ii = i) (ej : jj = j) (ho : Out [blk] W0 w) (hb : Blk w blk t (cA d)) :
    Calls P g ([.int .i64 ii, .int .i64 jj].toArray ++ lb) w fun e w' => e = .returned (.bool (lt d[i]! d[j]!)) ∧ Below w.heap.size w w' := by
  subst ei; subst ej
  exact h d w i j hs hi hj ho hb
theorem SwapOK.at (h : SwapOK P sf sb blk t n cA) {d : Array α} {i j : Nat} {ii jj : Int} (hs : d.size = n) (hi : i < n) (hj : j < n) (ei : ii = i) (ej : jj = j) (hb : Blk w blk t (cA d)) :
    ∃ w', (callFunc sf ([.int .i64 ii, .int .i64 jj].toArray ++ sb)).run P w = .ok (.value (.tuple #[])) w' ∧ Out [blk] w w' ∧ Blk w' blk t (cA (swp d i j)) := by
  subst ei; subst ej
  exact h d w i j hs hi hj hb
end
def cOne (d : Array Int) : Array Value := #[.int .i64 d[0]!]
section
variable {P : Program} {o : Oper} {a : Act} {x : Operand}
theorem run_callV {xs : List Operand} {ts : Array TypeId} {args : List Value} {f : Nat} {lb : Array Value} (ho : o.op = .call { callee := .value x, args := xs.toArray, argTypes := ts }) (hx : a.eval x = .func (.func f) #[] lb) (ha : xs.map a.eval = args) (w : World) :
    (execOp a.eval o).run P w = (callFunc f (args.toArray ++ lb)).run P w := by
  simp only [execOp, ho, resolve, hx, List.map_toArray, ha]
  simp [Deferred.ofValue, invoke]
theorem callFunc_enters {f : Nat} (he : enters P f = true) (args : Array Value) (w : World) : (callFunc f args).run P w = .ok (.enter f args) w := by
  unfold enters at he
  cases hf : P.funcs[f]? with
  | none => simp [hf] at he
  | some fn =>
    simp only [hf, Option.any_some, Bool.and_eq_true, Bool.not_eq_true', beq_eq_false_iff_ne, ne_eq] at he
    obtain ⟨h1, h2⟩ := he
    have h2' : fn.body ≠ none := by intro e; rw [e] at h2; simp at h2
    simp [callFunc, program, hf, h1, h2', Sem.run, Sem.run_bind]
end
section
variable {P : Program} {ops rest : List Oper} {o : Oper} {a : Act} {n d : Nat} {L : List (Nat × Value)} {Q : Exit → Act → World → Prop} {R : List Nat} {w w0 : World} {B : List Ent} {v u : Value} {x : Operand}
theorem sq_callV (F : Fr a n L) (M : Mm R w0 w B) (hw : Region.wanted o (yielded ops.toArray a.tmps) = true) {xs : List Operand} {ts : Array TypeId} {args : List Value} {f : Nat} {lb : Array Value} (ho : o.op = .call { callee := .value x, args := xs.toArray, argTypes := ts })
    (hx : a.eval x = .func (.func f) #[] lb) (he : enters P f = true) (ha : xs.map a.eval = args) (hc : Calls P f (args.toArray ++ lb) w fun e w' => e = .returned v ∧ Below w.heap.size w w') (hd : o.dst = some d) (hdn : Nat.blt d n = true)
    (h : ∀ a' w', Fr a' n ((d, v) :: L) → Mm R w0 w' B → wpList P ops.toArray Q rest a' w') : wpList P ops.toArray Q (o :: rest) a w :=
  wpList_step fun K hK => by
    rw [if_pos hw]
    unfold Oper.wp
    rw [run_callV ho hx ha w, callFunc_enters he]
    refine hc.mono fun e w' ⟨h1, h2⟩ => ?_
    subst h1
    exact hK _ _ (by rw [hd]; exact h _ _ (F.put hdn) (M.below h2))
theorem Mm.turned (M : Mm R w0 w B) {i g : Nat} {t : TypeId} {cs cs' : Array Value} {w' : World} (hi : B[i]? = some (.blk g t cs)) (ho : Out [g] w w') (hb : Blk w' g t cs') : Mm R w0 w' (B.set i (.blk g t cs')) :=
  M.swap hi (x' := .blk g t cs') ho hb (fun g h => .inl h) (fun g h => by cases h)
theorem sq_swap (F : Fr a n L) (M : Mm R w0 w B) (hw : Region.wanted o (yielded ops.toArray a.tmps) = true) {xs : List Operand} {ts : Array TypeId} {args : List Value} {f i g : Nat} {lb : Array Value} {t : TypeId} {cs cs' : Array Value} (ho : o.op = .call { callee := .value x, args := xs.toArray, argTypes := ts })
    (hx : a.eval x = .func (.func f) #[] lb) (ha : xs.map a.eval = args) (hi : B[i]? = some (.blk g t cs)) (hc : ∃ w', (callFunc f (args.toArray ++ lb)).run P w = .ok (.value v) w' ∧ Out [g] w w' ∧ Blk w' g t cs') (hd : o.dst = some d) (hdn : Nat.blt d n = true)
    (h : ∀ a' w', Fr a' n ((d, v) :: L) → Mm R w0 w' (B.set i (.blk g t cs')) → wpList P ops.toArray Q rest a' w') : wpList P ops.toArray Q (o :: rest) a w :=
  wpList_step fun K hK => by
    obtain ⟨w', hr, h1, h2⟩ := hc
    rw [if_pos hw]
    unfold Oper.wp
    rw [run_callV ho hx ha w, hr]
    exact hK _ _ (by rw [hd]; exact h _ _ (F.put hdn) (M.turned hi h1 h2))
theorem sq_callX (F : Fr a n L) (M : Mm R w0 w B) (hw : Region.wanted o (yielded ops.toArray a.tmps) = true) {f : FuncId} {xs : List Operand} {ts : Array TypeId} {args : List Value} {i g : Nat} {t : TypeId} {α : Type} {d0 : Array α} {cA : Array α → Array Value} {Z : Value → Array α → Prop} (ho : o.op = .call { callee := .value (.func f), args := xs.toArray, argTypes := ts })
    (he : enters P f = true) (ha : xs.map a.eval = args) (hi : B[i]? = some (.blk g t (cA d0))) (hc : Calls P f args.toArray w (Turns g t cA w Z)) (hd : o.dst = some d) (hdn : Nat.blt d n = true)
    (h : ∀ a' w' v d', Z v d' → Fr a' n ((d, v) :: L) → Mm R w0 w' (B.set i (.blk g t (cA d'))) → wpList P ops.toArray Q rest a' w') : wpList P ops.toArray Q (o :: rest) a w :=
  wpList_step fun K hK => by
    rw [if_pos hw]
    unfold Oper.wp
    rw [run_enter he ho w, List.map_toArray, ha]
    refine hc.mono fun e w' ⟨v, d', h1, h2, h3, h4⟩ => ?_
    subst h1
    exact hK _ _ (by rw [hd]; exact h _ _ _ _ h4 (F.put hdn) (M.turned hi h2 h3))
end
section
variable {α : Type} [Inhabited α] {lt : α → α → Bool} {d : Array α} {a b : Nat}
theorem insOuter_go {i i' : Nat} (h : i < b) (hi : i' = i + 1) : insOuter lt a b i d = insOuter lt a b i' (insInner lt a i d) := by
  subst hi; rw [insOuter]; simp [h]
theorem insOuter_stop {i : Nat} (h : ¬ i < b) : insOuter lt a b i d = d := by
  rw [insOuter]; simp [h]
theorem insInner_stop1 {j : Nat} (h : j ≤ a) : insInner lt a j d = d := by
  cases j with
  | zero => rfl
  | succ j => rw [insInner, if_neg (by simp; omega)]
theorem insInner_stop2 {j j' : Nat} (e : j = j' + 1) (h : lt d[j]! d[j']! = false) : insInner lt a j d = d := by
  subst e; rw [insInner, if_neg (by simp [h])]
theorem insInner_go {j j' : Nat} (e : j = j' + 1) (h1 : a < j) (h2 : lt d[j]! d[j']! = true) : insInner lt a j d = insInner lt a j' (swp d j j') := by
  subst e; rw [insInner, if_pos (by simp [h2]; omega)]
theorem sift_stop {hi first r : Nat} (h : hi ≤ 2 * r + 1) : siftDown lt hi first r d = d := by
  rw [siftDown, dif_pos h]
theorem sift_R {hi first r o p q q' r' : Nat} {z : Bool} (h : 2 * r + 2 < hi) (ep : p = first + (2 * r + 1)) (eq : q = first + (2 * r + 2)) (eq' : q' = first + (2 * r + 2)) (eo : o = first + r) (er : r' = 2 * r + 2) (hl : lt d[p]! d[q]! = true) (hz : lt d[o]! d[q']! = z) :
    siftDown lt hi first r d = if z then siftDown lt hi first r' (swp d o q') else d := by
  subst ep; subst eq; subst eq'; subst eo; subst er
  rw [siftDown, dif_neg (by omega), show first + (2 * r + 1) + 1 = first + (2 * r + 2) by omega, show 2 * r + 1 + 1 = 2 * r + 2 by omega, hl, hz]
  simp only [h, decide_true, Bool.and_self, if_true]
  cases z <;> simp
theorem sift_L {hi first r o p r' : Nat} {z : Bool} (h : 2 * r + 1 < hi) (ep : p = first + (2 * r + 1)) (eo : o = first + r) (er : r' = 2 * r + 1) (hl : hi ≤ 2 * r + 2 ∨ ∃ q, q = first + (2 * r + 2) ∧ lt d[p]! d[q]! = false) (hz : lt d[o]! d[p]! = z) :
    siftDown lt hi first r d = if z then siftDown lt hi first r' (swp d o p) else d := by
  subst ep; subst eo; subst er
  have hc : (decide (2 * r + 1 + 1 < hi) && lt d[first + (2 * r + 1)]! d[first + (2 * r + 1) + 1]!) = false := by
    rcases hl with h1 | ⟨q, rfl, h1⟩
    · simp; omega
    · rw [show first + (2 * r + 1) + 1 = first + (2 * r + 2) by omega, h1]; simp
  rw [siftDown, dif_neg (by omega), hc, hz]
  cases z <;> simp
theorem hbuild_go {hi first i i' : Nat} (e : i = i' + 1) : heapBuild lt hi first i d = heapBuild lt hi first i' (siftDown lt hi first i' d) := by subst e; rfl
theorem hpop_go {first i i' o p : Nat} (e : i = i' + 1) (eo : o = first) (ep : p = first + i') : heapPop lt first i d = heapPop lt first i' (siftDown lt i' first 0 (swp d o p)) := by subst e; subst eo; subst ep; rfl
theorem scanUp_go {p : α → Bool} {j i i' : Nat} (h : i ≤ j) (hp : p d[i]! = true) (e : i' = i + 1) : scanUp p d j i = scanUp p d j i' := by
  subst e; rw [scanUp]; simp [h, hp]
theorem scanUp_stop {p : α → Bool} {j i : Nat} (h : ¬ i ≤ j ∨ p d[i]! = false) : scanUp p d j i = i := by
  rw [scanUp]; rcases h with h | h
  · simp [h]
  · simp [h]
theorem scanDown_go {p : α → Bool} {i j j' : Nat} (h : i ≤ j) (hp : p d[j]! = true) (e : j = j' + 1) : scanDown p d i j = scanDown p d i j' := by
  subst e; rw [scanDown]; simp [h, hp]
theorem scanDown_stop {p : α → Bool} {i j : Nat} (h : ¬ i ≤ j ∨ p d[j]! = false) : scanDown p d i j = j := by
  cases j with
  | zero => rfl
  | succ j =>
    rw [scanDown]; rcases h with h | h
    · simp [h]
    · simp [h]
theorem partLoop_stop {i j i2 j2 : Nat} (hi : scanUp (fun x => lt x d[a]!) d j i = i2) (hj : scanDown (fun x => !lt x d[a]!) d i2 j = j2) (h : j2 < i2) : partLoop lt a i j d = (j2, d) := by
  rw [partLoop]; simp only [hi, hj]; rw [if_pos h]
theorem partLoop_go {i j i2 j2 i3 j3 : Nat} (hi : scanUp (fun x => lt x d[a]!) d j i = i2) (hj : scanDown (fun x => !lt x d[a]!) d i2 j = j2) (h : i2 ≤ j2) (h1 : i ≤ i2) (h2 : j2 ≤ j) (h0 : 0 < j2) (e3 : i3 = i2 + 1) (e4 : j2 = j3 + 1) :
    partLoop lt a i j d = partLoop lt a i3 j3 (swp d i2 j2) := by
  subst e3; subst e4
  rw [partLoop]; simp only [hi, hj]; rw [if_neg (by omega), dif_pos (by omega)]; rfl
theorem partEqLoop_stop {i j i2 j2 : Nat} (hi : scanUp (fun x => !lt d[a]! x) d j i = i2) (hj : scanDown (fun x => lt d[a]! x) d i2 j = j2) (h : j2 < i2) : partEqLoop lt a i j d = (i2, d) := by
  rw [partEqLoop]; simp only [hi, hj]; rw [if_pos h]
theorem partEqLoop_go {i j i2 j2 i3 j3 : Nat} (hi : scanUp (fun x => !lt d[a]! x) d j i = i2) (hj : scanDown (fun x => lt d[a]! x) d i2 j = j2) (h : i2 ≤ j2) (h1 : i ≤ i2) (h2 : j2 ≤ j) (h0 : 0 < j2) (e3 : i3 = i2 + 1) (e4 : j2 = j3 + 1) :
    partEqLoop lt a i j d = partEqLoop lt a i3 j3 (swp d i2 j2) := by
  subst e3; subst e4
  rw [partEqLoop]; simp only [hi, hj]; rw [if_neg (by omega), dif_pos (by omega)]; rfl
theorem rev_go {i j i' j' : Nat} (h : i < j) (e : i' = i + 1) (e' : j' = j - 1) : reverseLoop i j d = reverseLoop i' j' (swp d i j) := by
  subst e; subst e'; rw [reverseLoop]; simp [h]
theorem rev_stop {i j : Nat} (h : ¬ i < j) : reverseLoop i j d = d := by rw [reverseLoop]; simp [h]
theorem scanSorted_go {i i' k : Nat} (h : i < b) (e : i' = i + 1) (ek : i = k + 1) (hl : lt d[i]! d[k]! = false) : scanSorted lt d b i = scanSorted lt d b i' := by
  subst e; subst ek; rw [scanSorted]; simp [h, hl]
theorem scanSorted_stop1 {i : Nat} (h : ¬ i < b) : scanSorted lt d b i = i := by rw [scanSorted]; simp [h]
theorem scanSorted_stop2 {i k : Nat} (ek : i = k + 1) (hl : lt d[i]! d[k]! = true) : scanSorted lt d b i = i := by
  subst ek; rw [scanSorted]; simp [hl]
theorem shiftDown_go {j j' : Nat} (e : j = j' + 1) (hl : lt d[j]! d[j']! = true) : shiftDown lt j d = shiftDown lt j' (swp d j j') := by
  subst e; rw [shiftDown]; simp [hl]
theorem shiftDown_stop1 {j : Nat} (h : ¬ 1 ≤ j) : shiftDown lt j d = d := by
  have : j = 0 := by omega
  subst this; rfl
theorem shiftDown_stop2 {j j' : Nat} (e : j = j' + 1) (hl : lt d[j]! d[j']! = false) : shiftDown lt j d = d := by
  subst e; rw [shiftDown]; simp [hl]
theorem shiftUp_go {j j' k : Nat} (h : j < b) (e : j' = j + 1) (ek : j = k + 1) (hl : lt d[j]! d[k]! = true) : shiftUp lt b j d = shiftUp lt b j' (swp d j k) := by
  subst e; subst ek; rw [shiftUp]; simp [h, hl]
theorem shiftUp_stop1 {j : Nat} (h : ¬ j < b) : shiftUp lt b j d = d := by rw [shiftUp]; simp [h]
theorem shiftUp_stop2 {j k : Nat} (ek : j = k + 1) (hl : lt d[j]! d[k]! = false) : shiftUp lt b j d = d := by
  subst ek; rw [shiftUp]; simp [hl]
theorem partialIns_go {s s' i i2 i1 : Nat} (es : s = s' + 1) (hi : scanSorted lt d b i = i2) (hne : ¬ i2 = b) (h50 : ¬ b - a < 50) (e1 : i2 = i1 + 1) {d2 d3 : Array α} (h2 : d2 = if i2 - a ≥ 2 then shiftDown lt i1 (swp d i2 i1) else swp d i2 i1) (h3 : d3 = if b - i2 ≥ 2 then shiftUp lt b (i2 + 1) d2 else d2) :
    partialIns lt a b s i d = partialIns lt a b s' i2 d3 := by
  subst es; subst e1; subst h3; subst h2
  rw [partialIns]; simp only [hi]; rw [if_neg hne, if_neg h50]; rfl
theorem partialIns_end {s s' i : Nat} (es : s = s' + 1) (hi : scanSorted lt d b i = b) : partialIns lt a b s i d = (d, true) := by
  subst es; rw [partialIns]; simp only [hi]; simp
theorem partialIns_short {s s' i i2 : Nat} (es : s = s' + 1) (hi : scanSorted lt d b i = i2) (hne : ¬ i2 = b) (h50 : b - a < 50) : partialIns lt a b s i d = (d, false) := by
  subst es; rw [partialIns]; simp only [hi]; rw [if_neg hne, if_pos h50]
theorem partialIns_zero {i : Nat} : partialIns lt a b 0 i d = (d, false) := rfl
end
end Go.Proofs.YtcnmmnhlhenifaaGreat
namespace Go.Proofs.YtcnmmnhlhenifaaGreat
open Go.RowKit
set_option maxRecDepth 100000
set_option linter.unusedSimpArgs false
set_option linter.unusedVariables false
def pof : Value → Nat
  | .pointer (some a) => a.block
  | _ => 0
section
variable {P : Program} {Q : Exit → Act → World → Prop} {a : Act}
theorem ow_allocB {o : Oper} {R : List Nat} {w0 w : World} {B : List Ent} {K : Act → World → Prop} {t : TypeId} {i m' n' : Nat} {u : Value} {ys : List Value} (M : Mm R w0 w B) (ho : o.op = .alloc t) {cs : Array Value} (hz : (P.info? t).map (fun i => i.zero.map (·.cells)) = some (some cs)) (hi : B[i]? = some (.arg m' u n' ys))
    (h : ∀ x w', x = .pointer (some ⟨pof x, 0, none⟩) → Mm R w0 w' (B.set i (.blk (pof x) t cs)) → K (a.put o.dst x) w') : o.wp P a w K Q := by
  have hr : (execOp a.eval o).run P w = .ok (.value (.pointer (some ⟨w.heap.size, 0, none⟩))) (w.alloc (.cells cs t)) := by
    cases hq : P.info? t with
    | none => simp [hq] at hz
    | some i =>
      simp only [hq, Option.map_some, Option.some.injEq] at hz
      obtain ⟨z, hz1, hz2⟩ := Option.map_eq_some_iff.1 hz
      simp [execOp, ho, Instr.alloc, zeroValue, typeInfo, hq, hz1, newVar, newRow, go_sem]
      rw [← hz2]
      rfl
  unfold Oper.wp
  rw [hr]
  exact h (.pointer (some ⟨w.heap.size, 0, none⟩)) _ rfl (M.swap hi (x' := .blk w.heap.size t cs) (Below.out (bel1 _ _) _) (Blk.new _ _ _) (fun g hg => by simp only [Ent.fp, List.mem_singleton] at hg; exact .inr (by omega)) (fun g hg => by cases hg))
theorem ow_stA {o : Oper} {R : List Nat} {w0 w : World} {B : List Ent} {K : Act → World → Prop} {t ty : TypeId} {g i : Nat} {cs cs' : Array Value} {x y : Operand} (M : Mm R w0 w B) (ho : o.op = .store ty x y) (hx : a.eval x = .pointer (some ⟨g, 0, none⟩)) (hy : a.eval y = .agg cs')
    (hi : B[i]? = some (.blk g t cs)) {m : Nat} (hT : AggTy P ty m) (hm : cs.size = m) (hm' : cs'.size = m) (h1 : cs'.toList.all (·.oneCell') = true) (hd : o.dst = none)
    (h : ∀ x w', Mm R w0 w' (B.set i (.blk g t cs')) → K (a.put o.dst x) w') : o.wp P a w K Q := by
  obtain ⟨_, _, _, hi'⟩ := hT
  exact wp_store_row ty x y ho g cs' hx hy t cs (M.at hi) (by rw [hi', hm']) (by rw [hm, hm']) (by simpa using h1) (h undef _ (M.setRow hi cs'))
theorem ow_callT {o : Oper} {R : List Nat} {w0 w : World} {B : List Ent} {K : Act → World → Prop} {f : FuncId} {xs : List Operand} {ts : Array TypeId} {args : List Value} {i : Nat} {x : Ent} {Z : Value → Ent → Prop} (M : Mm R w0 w B) (ho : o.op = .call { callee := .value (.func f), args := xs.toArray, argTypes := ts })
    (he : enters P f = true) (ha : xs.map a.eval = args) (hi : B[i]? = some x) (hc : Calls P f args.toArray w fun e w' => ∃ v x', e = .returned v ∧ Out x.fp w w' ∧ x'.at w' ∧ (∀ g ∈ x'.fp, g ∈ x.fp ∨ w.heap.size ≤ g) ∧ x'.base = [] ∧ Z v x')
    (h : ∀ v x' w', Z v x' → Mm R w0 w' (B.set i x') → K (a.put o.dst v) w') : o.wp P a w K Q :=
  ow_callZ (Z := fun v w' => ∃ x', Z v x' ∧ Mm R w0 w' (B.set i x')) ho he ha (hc.mono fun e w' ⟨v, x', h1, h2, h3, h4, h5, h6⟩ => ⟨v, h1, x', h6, M.swap hi h2 h3 h4 (fun g hg => by rw [h5] at hg; cases hg)⟩) (fun v w' ⟨x', h1, h2⟩ => h v x' w' h1 h2)
section
variable {o : Oper} {x y : Operand}
theorem pu_eqlNN {t t' e : TypeId} (ho : o.op = .binOp .eql t x y t') (hx : a.eval x = .pointer none) (hy : a.eval y = .pointer none) (ht : P.underlying t = some (.pointer e)) : Pure P o a (.bool true) := fun w => by
  simp only [execOp, ho, hx, hy]; simp [go_sem, ht]
theorem pu_neqNN {t t' e : TypeId} (ho : o.op = .binOp .neq t x y t') (hx : a.eval x = .pointer none) (hy : a.eval y = .pointer none) (ht : P.underlying t = some (.pointer e)) : Pure P o a (.bool false) := fun w => by
  simp only [execOp, ho, hx, hy]; simp [go_sem, ht]
end
theorem pu_lit {o : Oper} {b c : Bool} (h : Pure P o a (.bool b)) (e : b = c) : Pure P o a (.bool c) := e ▸ h
end
end Go.Proofs.YtcnmmnhlhenifaaGreat
namespace Go.Proofs.YtcnmmnhlhenifaaGreat
open Go.RowKit
set_option maxRecDepth 100000
set_option linter.unusedSimpArgs false
set_option linter.unusedVariables false
def posO (o : List Int) (i : Nat) : List Int := (List.range 8).map fun (q : Nat) => if (q : Int) ∈ o.take i then ((o.idxOf (q : Int) : Nat) : Int) + 1 else 0
def lineE (P : List St) (k : Nat) : List Ed := (List.range k).map fun (i : Nat) => (⟨(i : Int), (i : Int) + 1, atS P i⟩ : Ed)
def lsum (P : List St) (i : Nat) : Nat → St
  | 0 => St.zero
  | d + 1 => (lsum P i d).add (atS P (i + d))
def Small (P : List St) (m : Nat) : Prop := ∀ k, k < m → 0 ≤ (atS P k).e ∧ (atS P k).e ≤ 100000 ∧ 0 ≤ (atS P k).r ∧ (atS P k).r ≤ 100000
end Go.Proofs.YtcnmmnhlhenifaaGreat
namespace Go.Proofs.YtcnmmnhlhenifaaGreat
open Go.RowKit
set_option maxRecDepth 100000
set_option linter.unusedSimpArgs false
set_option linter.unusedVariables false
def ixI (K : List Int) (x : Int) : Int :=
  match K.findIdx? (fun y => decide (x = y)) with
  | some i => (i : Int)
  | none => -1
theorem ix_hit {K : List Int} {x i : Int} (h0 : 0 ≤ i) (hi : i < (K.length : Int)) (hb : ∀ p, p < i.toNat → ¬ x = atI K p) (h : x = atI K i.toNat) : ixI K x = i := by
  unfold ixI
  have : K.findIdx? (fun y => decide (x = y)) = some i.toNat := by
    rw [List.findIdx?_eq_some_iff_getElem]
    refine ⟨by omega, by rw [← atI_eq (by omega)]; exact decide_eq_true h, fun j hj => ?_⟩
    have := hb j hj
    rw [atI_eq (by omega)] at this
    simpa using this
  rw [this]; simp only; omega
theorem ix_miss {K : List Int} {x i : Int} (hb : ∀ p, p < i.toNat → ¬ x = atI K p) (hi : ¬ i < (K.length : Int)) : ixI K x = -1 := by
  unfold ixI
  have : K.findIdx? (fun y => decide (x = y)) = none := by
    rw [List.findIdx?_eq_none_iff]
    intro y hy
    obtain ⟨j, hj, rfl⟩ := List.mem_iff_getElem.1 hy
    have := hb j (by omega)
    rw [atI_eq hj] at this
    simpa using this
  rw [this]
def memI (K : List Int) (x : Int) : Bool := decide (0 ≤ ixI K x)
theorem memI_iff {K : List Int} {x : Int} : memI K x = true ↔ x ∈ K := by
  unfold memI ixI
  rw [decide_eq_true_iff]
  cases h : K.findIdx? (fun y => decide (x = y)) with
  | none =>
    rw [List.findIdx?_eq_none_iff] at h
    constructor
    · intro h2; simp only at h2; omega
    · intro h2; have := h x h2; simp at this
  | some i =>
    rw [List.findIdx?_eq_some_iff_getElem] at h
    obtain ⟨h1, h2, _⟩ := h
    constructor
    · intro _; rw [of_decide_eq_true h2]; exact List.getElem_mem h1
    · intro _; simp only; omega
def waitE (K : List Int) (k : Int) (x : Ed) : Bool := decide (x.t = k) && decide (x.p = St.zero) && !memI K x.f
def waitsB (E : List Ed) (K : List Int) (k : Int) : Bool := E.any (waitE K k)
theorem waits_hit {E : List Ed} {K : List Int} {k i : Int} (h0 : 0 ≤ i) (hi : i < (E.length : Int)) (h : waitE K k (atG E i.toNat) = true) : waitsB E K k = true :=
  List.any_eq_true.2 ⟨_, atG_mem (by omega), h⟩
theorem waits_miss {E : List Ed} {K : List Int} {k i : Int} (hb : ∀ p, p < i.toNat → waitE K k (atG E p) = false) (hi : ¬ i < (E.length : Int)) : waitsB E K k = false := by
  rw [← Bool.not_eq_true]
  intro h
  obtain ⟨x, hx, h1⟩ := List.any_eq_true.1 h
  obtain ⟨q, hq, rfl⟩ := at_of_memG hx
  rw [hb q (by omega)] at h1; cases h1
theorem wait_t {K : List Int} {k : Int} {x : Ed} (h1 : x.t = k) (h2 : x.p = St.zero) (h3 : memI K x.f = false) : waitE K k x = true := by
  unfold waitE; rw [decide_eq_true h1, decide_eq_true h2, h3]; rfl
theorem wait_f {K : List Int} {k : Int} {x : Ed} (h : ¬ x.t = k ∨ ¬ x.p = St.zero ∨ memI K x.f = true) : waitE K k x = false := by
  unfold waitE
  rcases h with h | h | h <;> simp [h]
def inN (n i : Int) : Bool := decide (0 ≤ i ∧ i < n)
theorem in_no {n i : Int} (h : ¬ (0 ≤ i ∧ i < n)) : inN n i = false := decide_eq_false h
theorem in_yes {n i : Int} (h : 0 ≤ i) : inN n i = decide (i < n) := by unfold inN; rw [decide_eq_decide]; omega
theorem fits_in (n : Int) (x : Ed) : fitsB n x = (inN n x.f && inN n x.t && x.p.rightB) := by
  unfold fitsB inN
  rw [← Bool.decide_and]
  congr 1
  rw [decide_eq_decide]; omega
theorem rounds_mem {E : List Ed} {n : Nat} : ∀ (r : Nat) {q : Nat}, q < n → memI (roundsO E n r).2 (q : Int) = atB (roundsO E n r).1 q
  | 0, q, hq => by
    have : atB (List.replicate n false) q = false := by
      unfold atB atE; rw [List.getD_eq_getElem?_getD, List.getElem?_replicate, if_pos hq]; rfl
    show memI [] (q : Int) = atB (List.replicate n false) q
    rw [this]; rfl
  | r + 1, q, hq => by
    have ih := rounds_mem (E := E) (n := n) r hq
    have hl := rounds_len E n r
    simp only [roundsO, stepO]
    split
    · rename_i k hk
      have hkn := List.mem_range.1 (List.mem_of_find?_eq_some hk)
      rw [atB_set (by omega), Bool.eq_iff_iff, memI_iff, List.mem_append, List.mem_singleton, ← memI_iff, ih]
      by_cases e : k = q
      · subst e; simp
      · rw [if_neg e]
        constructor
        · rintro (h | h)
          · exact h
          · omega
        · exact .inl
    · exact ih
theorem free_of {E : List Ed} {n r k : Nat} (hF : ∀ x ∈ E, fitsB (n : Int) x = true) (hk : k < n) : freeB E (roundsO E n r).1 k = (!memI (roundsO E n r).2 (k : Int) && !waitsB E (roundsO E n r).2 (k : Int)) := by
  unfold freeB waitsB
  rw [rounds_mem r hk]
  congr 1
  rw [List.all_eq_not_any_not]
  congr 1
  rw [Bool.eq_iff_iff, List.any_eq_true, List.any_eq_true]
  have key : ∀ x ∈ E, (!okE (roundsO E n r).1 k x) = waitE (roundsO E n r).2 (k : Int) x := fun x hx => by
    have hf := (fits_iff.1 (hF x hx)).1
    have := rounds_mem (E := E) (n := n) r (q := x.f.toNat) (by omega)
    rw [show ((x.f.toNat : Nat) : Int) = x.f by omega] at this
    unfold okE waitE
    rw [Bool.not_not, this]
  exact ⟨fun ⟨x, hx, h⟩ => ⟨x, hx, by rw [← key x hx]; exact h⟩, fun ⟨x, hx, h⟩ => ⟨x, hx, by rw [key x hx]; exact h⟩⟩
theorem free_no {E : List Ed} {n : Nat} {r k : Int} (hF : ∀ x ∈ E, fitsB (n : Int) x = true) (h0 : 0 ≤ k) (hk : k < (n : Int)) (h : memI (roundsO E n r.toNat).2 k = true ∨ waitsB E (roundsO E n r.toNat).2 k = true) : freeB E (roundsO E n r.toNat).1 k.toNat = false := by
  rw [free_of hF (by omega), show ((k.toNat : Nat) : Int) = k by omega]
  rcases h with h | h <;> rw [h] <;> simp
theorem free_yes {E : List Ed} {n : Nat} {r k : Int} (hF : ∀ x ∈ E, fitsB (n : Int) x = true) (h0 : 0 ≤ k) (hk : k < (n : Int)) (h : memI (roundsO E n r.toNat).2 k = false) (h' : waitsB E (roundsO E n r.toNat).2 k = false) : freeB E (roundsO E n r.toNat).1 k.toNat = true := by
  rw [free_of hF (by omega), show ((k.toNat : Nat) : Int) = k by omega, h, h']; rfl
theorem rounds_stop {E : List Ed} {n r : Nat} (hb : ∀ q, q < n → freeB E (roundsO E n r).1 q = false) : ∀ d, roundsO E n (r + d) = roundsO E n r
  | 0 => rfl
  | d + 1 => by
    have ih := rounds_stop hb d
    show stepO E n (roundsO E n (r + d)) = _
    rw [ih]
    unfold stepO
    have : nextO E (roundsO E n r).1 n = none := List.find?_eq_none.2 fun q hq => by rw [hb q (List.mem_range.1 hq)]; simp
    rw [this]
theorem order_stop {E : List Ed} {n : Nat} {r k : Int} (hr : r ≤ (n : Int)) (hb : ∀ q, q < k.toNat → freeB E (roundsO E n r.toNat).1 q = false) (hk : ¬ k < (n : Int)) : (roundsO E n r.toNat).2 = orderL E n := by
  unfold orderL
  rw [show n = r.toNat + (n - r.toNat) by omega]
  have := rounds_stop (E := E) (n := r.toNat + (n - r.toNat)) (r := r.toNat) (fun q hq => by
    have := hb q (by omega)
    rwa [show r.toNat + (n - r.toNat) = n by omega]) (n - r.toNat)
  rw [this]
theorem order_full {E : List Ed} {n : Nat} {r : Int} (hr : r ≤ (n : Int)) (h : ¬ r < (n : Int)) : (roundsO E n r.toNat).2 = orderL E n := by
  rw [show r.toNat = n by omega]; rfl
theorem rounds_one {E : List Ed} {n : Nat} {r k : Int} (h0 : 0 ≤ r) (hk0 : 0 ≤ k) (hk : k.toNat < n) (h : freeB E (roundsO E n r.toNat).1 k.toNat = true) (hb : ∀ q, q < k.toNat → freeB E (roundsO E n r.toNat).1 q = false) :
    (roundsO E n r.toNat).2 ++ [k] = (roundsO E n (r + 1).toNat).2 := by rw [round_some h0 hk0 hk h hb]
def edgeR (row : List (List St)) (x : Ed) : List (List St) := row.set x.t.toNat (minL (atR row x.t.toNat ++ sumsP (atR row x.f.toNat) [x.p]))
def rowE (E : List Ed) (row : List (List St)) (k : Nat) : List (List St) := (E.take k).foldl edgeR row
def rowP (E : List Ed) (n i : Nat) : Nat → List (List St)
  | 0 => (List.replicate n []).set i [St.zero]
  | r + 1 => rowE E (rowP E n i r) E.length
structure RowOK (E : List Ed) (n i : Nat) (row : List (List St)) : Prop where
  len : row.length = n
  way : ∀ j, j < n → ∀ t ∈ atR row j, WayS E (i : Int) (j : Int) t
  asc : ∀ j, Asc (atR row j)
  anti : ∀ j, ∀ s ∈ atR row j, ∀ t ∈ atR row j, s.leB t = true → s = t
def overB (L : List (List St)) : Bool := L.any fun l => decide (64 < l.length)
def ixO (L : List (List St)) : Int :=
  match L.findIdx? (fun l => decide (64 < l.length)) with
  | some i => (i : Int)
  | none => -1
end Go.Proofs.YtcnmmnhlhenifaaGreat
namespace Go.Proofs.YtcnmmnhlhenifaaGreat
open Go.RowKit
set_option maxRecDepth 100000
set_option linter.unusedSimpArgs false
set_option linter.unusedVariables false
abbrev winV (g o n : Nat) : Value := .slice (some ⟨g, o, none⟩) n n
section
variable {P : Program} {ops rest : List Oper} {o : Oper} {a : Act} {n d : Nat} {L : List (Nat × Value)} {Q : Exit → Act → World → Prop} {R : List Nat} {w w0 : World} {B : List Ent} {v : Value} {x y lo hi mx : Operand} {t e ty : TypeId} {i g k s N c m : Nat} {k1 k2 k3 : IntKind} {i1 i2 i3 : Int} {A V C X : List Value}
theorem win_rdv (h : Blk w g t (List.toArray (cV X))) (hX : (X.drop s).take n = V) (hV : V.length = n) (hn : n ≤ 1000000000) : RdV w 1 (winV g s n) n (cV V) :=
  ⟨by show V.length = n * 1; omega, _, _, rfl, Nat.le_refl _, by unfold maxLen; omega, fun _ => ⟨g, s, rfl, h.lt, fun j u hj => by
    rw [h.cell, List.getElem?_toArray]
    have hj' : V[j]? = some u := hj
    rw [← hX, List.getElem?_take, List.getElem?_drop] at hj'
    split at hj'
    · exact hj'
    · cases hj'⟩⟩
theorem mid_win (hA : A.length = s) (hV : V.length = n) : ((A ++ V ++ C).drop s).take n = V := by
  rw [List.append_assoc, ← hA, List.drop_left, ← hV, List.take_left]
end
structure TabV (t ty : TypeId) (g : Nat) (A V C : List Value) (L : List (List St)) (w : World) : Prop where
  blk : Blk w g t (List.toArray (cV (A ++ V ++ C)))
  rows : RowsV ty V L w
  ne : ¬ g ∈ fpR V
theorem TabV.loc (t ty : TypeId) (g : Nat) (A V C : List Value) (L : List (List St)) : Loc (g :: fpR V) (TabV t ty g A V C L) := fun w w' hk h => by
  have h2 := RowsV.loc ty V L w w' (fun q hq => hk q (List.mem_cons_of_mem _ hq)) h.rows
  refine ⟨⟨(hk g (List.mem_cons_self ..)).trans h.blk, h2.1, h.ne⟩, fun q hq => ?_⟩
  rcases List.mem_cons.1 hq with rfl | hq
  · exact h.blk.lt
  · exact h2.2 q hq
section
variable {R : List Nat} {w0 w : World} {B : List Ent} {t ty t2 : TypeId} {g g2 n m s i k : Nat} {A V C X : List Value} {K : List (List St)} {vss : List (List Value)} {L : List (List (List St))}
theorem TabV.rd (h : TabV t ty g A V C K w) (hA : A.length = s) (hV : V.length = n) (hn : n ≤ 1000000000) : RdV w 1 (winV g s n) n (cV V) := win_rdv h.blk (mid_win hA hV) hV hn
structure DoneV (vss : List (List Value)) (L : List (List (List St))) (w : World) : Prop where
  len : vss.length = L.length
  lv : ∀ i, i < L.length → (atW vss i).length = (at3 L i).length
  one : ∀ i j, i < L.length → j < (at3 L i).length → RdS w (atV (atW vss i) j) (atR (at3 L i) j)
def fpD (vss : List (List Value)) (L : List (List (List St))) : List Nat :=
  (List.range L.length).flatMap fun i => (List.range (at3 L i).length).flatMap fun j => fpN (atV (atW vss i) j) (atR (at3 L i) j).length
theorem mem_fpD {q : Nat} : q ∈ fpD vss L ↔ ∃ i, i < L.length ∧ ∃ j, j < (at3 L i).length ∧ q ∈ fpN (atV (atW vss i) j) (atR (at3 L i) j).length := by
  unfold fpD
  simp only [List.mem_flatMap, List.mem_range]
theorem DoneV.loc (vss : List (List Value)) (L : List (List (List St))) : Loc (fpD vss L) (DoneV vss L) := fun w w' hk h => by
  refine ⟨⟨h.len, h.lv, fun i j hi hj => ?_⟩, fun q hq => ?_⟩
  · exact (RdV.keep (h.one i j hi hj) fun q hq => hk q (mem_fpD.2 ⟨i, hi, j, hj, hq⟩)).1
  · obtain ⟨i, hi, j, hj, h1⟩ := mem_fpD.1 hq
    exact (RdV.keep (w' := w) (h.one i j hi hj) fun _ _ => rfl).2 q h1
def rsF (g n k : Nat) : List Value := (List.range n).map fun q => if q < k then winV g (q * n) n else nilV
end
end Go.Proofs.YtcnmmnhlhenifaaGreat
namespace Go.Proofs.YtcnmmnhlhenifaaGreat
open Go.RowKit
set_option maxRecDepth 100000
set_option linter.unusedSimpArgs false
set_option linter.unusedVariables false
def PanE (T : TypeId) (n : Int) : List PanicEntry := [{ v := .iface T (.int .i64 n), recovered := false }]
section
variable {P : Program} {a : Act} {o : Oper} {x : Operand}
theorem run_callVp {xs : List Operand} {ts : Array TypeId} {args : List Value} {f : Nat} {lb : Array Value} (ho : o.op = .call { callee := .value x, args := xs.toArray, argTypes := ts }) (hx : a.eval x = .func (.func f) #[] lb) (ha : xs.map a.eval = args) (w : World) :
    (execOp a.eval o).run P w = (callFunc f (args.toArray ++ lb)).run P w := by
  simp only [execOp, ho, resolve, hx, List.map_toArray, ha]
  simp [Deferred.ofValue, invoke]
theorem callFunc_entersP {f : Nat} (he : enters P f = true) (args : Array Value) (w : World) : (callFunc f args).run P w = .ok (.enter f args) w := by
  unfold enters at he
  cases hf : P.funcs[f]? with
  | none => simp [hf] at he
  | some fn =>
    simp only [hf, Option.any_some, Bool.and_eq_true, Bool.not_eq_true', beq_eq_false_iff_ne, ne_eq] at he
    obtain ⟨h1, h2⟩ := he
    have h2' : fn.body ≠ none := by intro e; rw [e] at h2; simp at h2
    simp [callFunc, program, hf, h1, h2', Sem.run, Sem.run_bind]
end
section
variable {P : Program} {Q : Exit → Act → World → Prop} {K J : Act → World → Prop} {c : List PanicEntry} {a : Act} {w w0 : World} {n d : Nat} {L : List (Nat × Value)} {fn : Func} {R : Ending → World → Prop}
theorem npT (h : Q (.panic c) a w) : Exit.then K Q (.panic c) a w := h
theorem rt_panic (F : Fr a n L) (hR : R (.panicked c) w) : bodyPost P fn R (.panic c) a w := ⟨F.defers, hR⟩
variable {ops rest : List Oper} {o : Oper} {Z : List Nat} {B : List Ent} {x y : Operand} {v u : Value} {t e ty : TypeId} {i g k m : Nat} {f : FuncId} {xs : List Operand} {ts : Array TypeId} {args : List Value} {cs cs' : Array Value}
theorem sq_panic (hw : Region.wanted o (yielded ops.toArray a.tmps) = true) (ho : o.op = .panic x) (hx : a.eval x = .iface t v) (h : Q (.panic [{ v := .iface t v, recovered := false }]) a w) : wpList P ops.toArray Q (o :: rest) a w :=
  wpList_step fun K hK => by
    rw [if_pos hw]
    unfold Oper.wp
    simp only [execOp, ho, hx]
    exact h
theorem ow_callPn {K : Act → World → Prop} (ho : o.op = .call { callee := .value (.func f), args := xs.toArray, argTypes := ts }) (he : enters P f = true) (ha : xs.map a.eval = args) (hc : Calls P f args.toArray w fun e w' => e = .panicked c ∧ Out Z w w') (h : ∀ w', Out Z w w' → Q (.panic c) a w') : o.wp P a w K Q := by
  unfold Oper.wp
  rw [run_enter he ho w, List.map_toArray, ha]
  refine hc.mono fun e w' ⟨h1, h2⟩ => ?_
  subst h1
  exact h _ h2
theorem sq_callPn (M : Mm Z w0 w B) (hw : Region.wanted o (yielded ops.toArray a.tmps) = true) (ho : o.op = .call { callee := .value (.func f), args := xs.toArray, argTypes := ts }) (he : enters P f = true) (ha : xs.map a.eval = args) (hc : Calls P f args.toArray w fun e w' => e = .panicked c ∧ Out [] w w') (h : ∀ w', Out Z w0 w' → Q (.panic c) a w') : wpList P ops.toArray Q (o :: rest) a w :=
  wpList_step fun K hK => by
    rw [if_pos hw]
    exact ow_callPn ho he ha hc fun w' h1 => h w' (M.out.trans h1 (fun g hg => by cases hg))
end
def addD (a : Act) (ds : List Deferred) : Act := { a with defers := a.defers ++ ds }
section
variable {P : Program} {ops : Array Oper} {Q : Exit → Act → World → Prop} {ds : List Deferred}
theorem put_addD (a : Act) (d : Option Nat) (v : Value) : (addD a ds).put d v = addD (a.put d v) ds := by cases d <;> rfl
theorem upon_addD {o : Oper} {a : Act} {K K' : Act → World → Prop} (hK : ∀ a w, K a w → K' (addD a ds) w) {r : Result Next} (h : o.upon P a K (fun e a' w' => Q e (addD a' ds) w') r) : o.upon P (addD a ds) K' Q r := by
  unfold Oper.upon at h ⊢
  split at h
  · rw [put_addD]; exact hK _ _ h
  · rw [put_addD]; exact hK _ _ h
  · rename_i d w'
    have := hK _ _ h
    rw [← put_addD] at this
    exact this
  · refine Calls.mono h fun e w'' hR => ?_
    cases e with
    | returned v => simp only at hR ⊢; rw [put_addD]; exact hK _ _ hR
    | panicked c => exact hR
    | outgrown => obtain ⟨a1, w1, h1⟩ := hR; exact ⟨_, w1, h1⟩
  · rename_i row args w'
    rw [show (fun v w'' => K' ((addD a ds).put o.dst v) w'') = fun v w'' => K' (addD (a.put o.dst v) ds) w'' from by funext v w''; rw [put_addD]]
    intro b cs
    obtain ⟨v, w'', h1, h2⟩ := h b cs
    exact ⟨v, w'', hK _ _ h1, h2⟩
  · exact h
  · exact h.elim
theorem wpList_addD : ∀ (l : List Oper) (a : Act) (w : World), wpList P ops (fun e a' w' => Q e (addD a' ds) w') l a w → wpList P ops Q l (addD a ds) w
  | [], _, _, h => h
  | o :: rest, a, w, h => by
    unfold wpList at h ⊢
    show if Region.wanted o (yielded ops a.tmps) = true then _ else _
    split
    · rename_i hw
      rw [if_pos hw] at h
      rcases h with h | ⟨h1, a1, w1, h2⟩
      · exact .inl (upon_addD (fun a w hk => wpList_addD rest a w hk) h)
      · exact .inr ⟨h1, _, w1, h2⟩
    · rename_i hw
      rw [if_neg hw] at h
      rw [put_addD]
      exact wpList_addD rest _ _ h
end
section
variable {P : Program} {Q : Exit → Act → World → Prop} {a : Act} {w w0 : World} {n d : Nat} {L : List (Nat × Value)} {ops rest : List Oper} {o : Oper} {Z : List Nat} {B : List Ent} {x y : Operand} {v : Value} {f : FuncId} {lb : Array Value} {vs : List Value} {R : Ending → World → Prop} {c : Code} {fn : Func}
theorem enterD (hf : P.funcs[f]? = some fn) (hb : fn.body = some c) (n : Nat) (hn : fn.ntmps = n) (vs : List Value) (hlen : Nat.ble vs.length n = true) (L : List (Nat × Value)) (hL : argL 0 vs = L)
    (h : ∀ a, Fr a n L → c.wp P (bodyPostD P fn R) a w) : Calls P f vs.toArray w R := by
  subst hL
  have hlen' : vs.length ≤ n := Nat.le_of_ble_eq_true hlen
  refine calls_of_wp_defers hf hb (h _ ⟨by simp [hn]; omega, rfl, fun {k v} hk => ?_⟩)
  obtain ⟨_, h2⟩ := look_argL vs 0 k v hk
  have hk' : k < vs.length := by
    rcases Nat.lt_or_ge k vs.length with h | h
    · exact h
    · rw [Nat.sub_zero, List.getElem?_eq_none h] at h2; cases h2
  rw [Nat.sub_zero, List.getElem?_eq_getElem hk'] at h2
  injection h2 with h2
  simp only [Array.getD_eq_getD_getElem?]
  rw [Array.getElem?_append_left (by simpa using hk')]
  simp [hk', h2]
theorem sq_defer (F : Fr a n L) (hw : Region.wanted o (yielded ops.toArray a.tmps) = true) (ho : o.op = .defer { callee := .value x, args := #[], argTypes := #[] }) (hx : a.eval x = .func (.func f) #[] lb) (hd : o.dst = none)
    (h : Q .normal (addD a [⟨.fn (.func f) lb, #[]⟩]) w) : wpList P ops.toArray Q [o] a w :=
  wpList_step fun K hK => by
    rw [if_pos hw]
    unfold Oper.wp
    have hr : (execOp a.eval o).run P w = .ok (.defer ⟨.fn (.func f) lb, #[]⟩) w := by
      simp only [execOp, ho, resolve, hx]
      simp [Deferred.ofValue]
    rw [hr, Oper.upon_defer]
    refine hK _ _ (wpList_nil ?_)
    rw [hd]
    have e : ({ a with defers := ⟨.fn (.func f) lb, #[]⟩ :: a.defers }.put none undef : Act) = addD a [⟨.fn (.func f) lb, #[]⟩] := by
      unfold addD
      rw [F.defers]; rfl
    rw [e]
    exact h
theorem sq_callVR (hw : Region.wanted o (yielded ops.toArray a.tmps) = true) (ho : o.op = .call { callee := .value x, args := #[], argTypes := #[] })
    (hx : a.eval x = .func (.func f) #[] lb) (he : enters P f = true) (hd : o.dst = some d) {Y : Ending → World → Prop} (hc : Calls P f lb w Y)
    (h1 : ∀ v w', Y (.returned v) w' → wpList P ops.toArray Q rest (a.put (some d) v) w') (h2 : ∀ c w', Y (.panicked c) w' → Q (.panic c) a w') (h3 : ∀ w', ¬ Y .outgrown w') : wpList P ops.toArray Q (o :: rest) a w :=
  wpList_step fun K hK => by
    rw [if_pos hw]
    unfold Oper.wp
    rw [run_callVp (xs := []) (args := []) ho hx rfl w, callFunc_entersP he]
    rw [show (#[] : Array Value) ++ lb = lb by simp]
    refine hc.mono fun e w' hY => ?_
    cases e with
    | returned v => exact hK _ _ (by rw [hd]; exact h1 v w' hY)
    | panicked c => exact h2 c w' hY
    | outgrown => exact absurd hY (h3 w')
end
section
variable {P : Program} {a : Act} {w w0 : World} {n : Nat} {L : List (Nat × Value)} {R : Ending → World → Prop} {fn : Func} {ds : List Deferred} {c : List PanicEntry} {Z : List Nat} {B : List Ent} {i i' k j g g' m : Nat} {ty ty' t t' : TypeId} {v x : Value} {cs : Array Value}
theorem lv_ret (F : Fr a n L) (h : Leaves P fn a.tmps R ds .returning w) : bodyPostD P fn R .ret (addD a ds) w := by
  show Leaves P fn a.tmps R (a.defers ++ ds) .returning w
  rw [F.defers]; exact h
theorem lv_panic (F : Fr a n L) (h : Leaves P fn a.tmps R ds (.panicking c) w) : bodyPostD P fn R (.panic c) (addD a ds) w := by
  show Leaves P fn a.tmps R (a.defers ++ ds) (.panicking c) w
  rw [F.defers]; exact h
theorem out_setCell (hB : Blk w g t #[x]) (v : Value) : Out [g] w (w.setCell ⟨g, 0, none⟩ v) ∧ Blk (w.setCell ⟨g, 0, none⟩ v) g t #[v] :=
  ⟨⟨rfl, rfl, rfl, by simp, fun j _ hj => heap_setCell_other w ⟨g, 0, none⟩ j v (fun e => hj (by rw [e]; simp))⟩, hB.set_ _ _⟩
theorem run_one (hB : Blk w g t #[x]) (hT : OneTy P ty) : (loadVar ty ⟨g, 0, none⟩).run P w = .ok x w := by
  obtain ⟨d, hu, hd⟩ := hT
  have hagg : (isAgg ty).run P w = .ok false w := by
    unfold isAgg
    rw [Sem.run_bind, run_underlying hu w]
    cases d <;> simp_all
  have hc : w.cell? ⟨g, 0, none⟩ = some x := by rw [hB.cell]; rfl
  simp [loadVar, hagg, hc]
theorem rs_tmp_one (F : Fr a n L) (hr : fn.results = #[.tmp k, .cell j ty]) (hv : look L k = some v) (hp : look L j = some (.pointer (some ⟨g, 0, none⟩))) (hB : Blk w g t #[x]) (hT : OneTy P ty) : (results fn a.tmps).run P w = .ok (.tuple #[v, x]) w := by
  have h1 := F.get hv
  have h2 : a.tmps[k]?.getD undef = v := by simpa using h1
  have h3 := F.get hp
  have h4 : a.tmps[j]?.getD undef = .pointer (some ⟨g, 0, none⟩) := by simpa using h3
  simp [results, hr, h2, h4, asAddr, run_one hB hT]
theorem lv_end {tmps : Array Value} (h1 : (results fn tmps).run P w = .ok v w) (h2 : R (.returned v) w) : Leaves P fn tmps R [] (settle .returning) w := ⟨v, h1, h2⟩
theorem lv_endP {tmps : Array Value} {pv : Value} (h1 : (results fn tmps).run P w = .ok v w) (h2 : R (.returned v) w) : Leaves P fn tmps R [] (settle (.panicking [{ v := pv, recovered := true }])) w := ⟨v, h1, h2⟩
theorem Mm.outNew (M : Mm [] w0 w B) (hi : B[i]? = some (.blk g t cs)) {w' : World} (h : Out [g] w w') : Out [] w0 w' :=
  M.out.trans h (fun g' hg => by
    simp only [List.mem_singleton] at hg
    subst hg
    exact .inl (M.newer hi (by simp)))
end
def restV (v : Value) (n : Nat) : List Nat → Value
  | [] => v
  | j :: js => subS 1 j (n - js.sum) (restV v n js)
section
variable {w : World} {v : Value} {n j : Nat} {L : List UInt8}
end
def numB (L : List UInt8) : Int := L.foldl (fun a b => a * 256 + u8 b) 0
section
variable {P : Program} {o : Oper} {a : Act} {x y : Operand} {i j : Int} {t t' : TypeId}
end
theorem zcU (k : Nat) : Builtin.zeroCells (Value.int .u8 0).cells k = (cU (List.replicate k 0)).toArray := by
  have h : cU (List.replicate k 0) = List.replicate k (.int .u8 0) := by rw [cU_map]; simp [u8]
  rw [h]
  unfold Builtin.zeroCells
  apply Array.ext
  · simp [Value.cells]
  · intro i h1 h2
    simp [Value.cells, Nat.mod_one]
section
variable {P : Program} {ops rest : List Oper} {o : Oper} {a : Act} {n d : Nat} {L : List (Nat × Value)} {Q : Exit → Act → World → Prop} {R : List Nat} {w w0 : World} {B : List Ent} {v u : Value} {x y : Operand} {t tn e : TypeId} {i k c : Nat} {xs : List Value}
theorem appZ_run (M : Mm R w0 w B) (ho : o.op = .call { callee := .builtin .append, args := #[x, y], argTypes := #[t, tn] }) (ht : P.underlying t = some (.slice e)) (htn : P.underlying tn = some (.int .i64)) (hE : (P.info? e).map (fun i => (i.zero, i.size, i.bytes)) = some (some (.int .u8 0), 1, 1))
    (hx : a.eval x = v) (hi : B[i]? = some (.row e 1 v k xs)) (hy : a.eval y = .int .i64 (c : Int)) (hk : 0 < k) (hc : 0 < c) (hmax : k + c ≤ 1000000000) :
    ∃ v' w', (execOp a.eval o).run P w = .ok (.value v') w' ∧ Mm R w0 w' (B.set i (.row e 1 v' (k + c) (xs ++ cU (List.replicate c 0)))) := by
  have hown : w.ownsRow 0 e 1 v k xs := M.get hi
  cases hq : P.info? e with
  | none => simp [hq] at hE
  | some inf =>
    simp only [hq, Option.map_some, Option.some.injEq, Prod.mk.injEq] at hE
    obtain ⟨hz, hs, hby⟩ := hE
    have hw : IntKind.i64.wrap (c : Int) = c := by rw [IntKind.wrap_i64]; omega
    have hneg : ¬ ((c : Int) < 0) := by omega
    have h48i : ¬ (281474976710656 < (c : Int)) := by omega
    have hc0 : c ≠ 0 := by omega
    have hlen : (cU (List.replicate c 0)).length = c := by rw [cU_len, List.length_replicate]
    have hxl : xs.length = k := by have := hown.1; omega
    have hrun : ∃ v' w', (Builtin.append_ #[t, tn] o.type #[v, .int .i64 (c : Int)]).run P w = .ok v' w' ∧ w'.ownsRow 0 e 1 v' (k + c) (xs ++ cU (List.replicate c 0)) ∧ w.grownBy w' v.ownBlock ∧ (v'.ownBlock = v.ownBlock ∨ v'.ownBlock = some w.heap.size) := by
      rcases hown.2 with ⟨rfl, hn⟩ | ⟨g, cap, cur, rfl, hbg, hg, hnc, hcm, hcs, htake⟩
      · omega
      · by_cases hroom : k + c ≤ cap
        · have hst := run_storeCells_at P g k e (cU (List.replicate c 0)) 0 cur w hg (by rw [hcs, hlen]; omega) (cU_ones _)
          simp only [Nat.add_zero] at hst
          refine ⟨.slice (some ⟨g, 0, none⟩) (k + c) cap, w.setRow g (cur.toList.take k ++ cU (List.replicate c 0) ++ cur.toList.drop (k + (cU (List.replicate c 0)).length)).toArray, ?_, ?_, ⟨rfl, rfl, rfl, by simp, fun j _ hj => setRow_other w g j _ (fun e => hj (by simp [Value.ownBlock, e]))⟩, .inl rfl⟩
          · simp [Builtin.append_, run_underlying ht, run_underlying htn, sizeOf, typeInfo, zeroValue, hq, hz, hs, hby, asInt, asIntOf, hw, hneg, h48i, hc0, hroom, zcU, Addr.add_lit, hst]
          · refine ⟨by rw [List.length_append, hlen, hxl]; omega, .inr ⟨g, cap, _, rfl, hbg, setRow_heap w g cur _ e _ hg, hroom, hcm, ?_, ?_⟩⟩
            · simp only [List.size_toArray, List.length_append, List.length_take, List.length_drop, Array.length_toList, hlen]
              omega
            · rw [Nat.mul_one] at htake
              rw [htake, Nat.mul_one]
              have : (xs ++ cU (List.replicate c 0)).length = k + c := by rw [List.length_append, hlen, hxl]
              rw [← this]
              exact List.take_left
        · have holds : ∀ j u, xs[j]? = some u → w.drew.cell? ((⟨g, 0, none⟩ : Addr).add j) = some u := hown.cells (g := g) rfl
          have hfc := run_firstCells_some (P := P) w.drew inf.size k ⟨g, 0, none⟩ k cap xs (by rw [hs, hxl]; omega) holds
          have hr := Lib.run_append_grow_zeros (P := P) w t tn o.type e inf (.int .u8 0) .i64 .i64 ht htn hq hz (some ⟨g, 0, none⟩) k cap xs hfc c (by omega) (by omega) (by omega) (by omega) (by rw [hby]; omega) (growslice_fits (by omega) (by rw [hby]; omega))
          have hge := grownCap_ge w (k + c) cap e
          have hcm' : grownCap w (k + c) cap e ≤ maxLen := grownCap_le_maxLen w (k + c) cap e (by unfold maxLen; omega)
          refine ⟨_, _, hr, ?_, ⟨rfl, rfl, rfl, by simp, fun j hj _ => Below.heap_alloc w.drew _ j hj⟩, .inr rfl⟩
          rw [zcU c]
          refine ⟨by rw [List.length_append, hlen, hxl]; omega, .inr ⟨w.heap.size, _, _, rfl, Nat.zero_le _, heap_alloc_new w.drew _, hge, hcm', ?_, ?_⟩⟩
          · simp only [Array.size_append, List.size_toArray, size_zeroCells, hlen, hxl, Value.cells]
            simp
            omega
          · simp only [Array.toList_append, List.append_assoc]
            rw [← List.append_assoc, Nat.mul_one]
            have : (xs ++ cU (List.replicate c 0)).length = k + c := by rw [List.length_append, hlen, hxl]
            rw [← this]
            exact List.take_left
    obtain ⟨v', w', hr, h2, h3, h5⟩ := hrun
    have hexec : (execOp a.eval o).run P w = .ok (.value v') w' := by
      simp only [execOp, ho, resolve, invoke, builtin, Sem.run_bind, Sem.run_pure, Result.andThen_ok, List.map_toArray, List.map_cons, List.map_nil, hx, hy, hr]
    refine ⟨v', w', hexec, M.swap hi (x' := .row e 1 v' (k + c) (xs ++ cU (List.replicate c 0))) (Out.of_grown h3) h2 (fun g hg => ?_) (fun g hg => by cases hg)⟩
    simp only [Ent.fp] at hg ⊢
    rcases h5 with h6 | h6
    · exact .inl (by rw [← h6]; exact hg)
    · rw [h6] at hg; simp only [Option.toList_some, List.mem_singleton] at hg; exact .inr (by omega)
theorem sq_appZ (F : Fr a n L) (M : Mm R w0 w B) (hw : Region.wanted o (yielded ops.toArray a.tmps) = true) (ho : o.op = .call { callee := .builtin .append, args := #[x, y], argTypes := #[t, tn] }) (ht : P.underlying t = some (.slice e)) (htn : P.underlying tn = some (.int .i64)) (hE : (P.info? e).map (fun i => (i.zero, i.size, i.bytes)) = some (some (.int .u8 0), 1, 1))
    (hx : a.eval x = v) (hi : B[i]? = some (.row e 1 v k xs)) (hy : a.eval y = .int .i64 (c : Int)) (hk : 0 < k) (hc : 0 < c) (hmax : k + c ≤ 1000000000) (hd : o.dst = some d) (hdn : Nat.blt d n = true)
    (h : ∀ a' w' v', Fr a' n ((d, v') :: L) → Mm R w0 w' (B.set i (.row e 1 v' (k + c) (xs ++ cU (List.replicate c 0)))) → wpList P ops.toArray Q rest a' w') : wpList P ops.toArray Q (o :: rest) a w := by
  obtain ⟨v', w', hexec, hM⟩ := appZ_run M ho ht htn hE hx hi hy hk hc hmax
  exact sq_run F hw hexec hM hd hdn (fun a' w' F' M' => h a' w' v' F' M')
theorem sq_callA (F : Fr a n L) (M : Mm R w0 w B) (hw : Region.wanted o (yielded ops.toArray a.tmps) = true) {f : FuncId} {zs : List Operand} {ts : Array TypeId} {args : List Value} {m k' : Nat} {ys : List Value} (ho : o.op = .call { callee := .value (.func f), args := zs.toArray, argTypes := ts })
    (he : enters P f = true) (ha : zs.map a.eval = args) (hi : B[i]? = some (.row t m v k xs)) (hc : Calls P f args.toArray w fun e w' => ∃ x, e = .returned x ∧ Out v.ownBlock.toList w w' ∧ w'.ownsRow 0 t m x k' ys ∧ ∀ g ∈ x.ownBlock.toList, g ∈ v.ownBlock.toList ∨ w.heap.size ≤ g) (hd : o.dst = some d) (hdn : Nat.blt d n = true)
    (h : ∀ a' w' x, Fr a' n ((d, x) :: L) → Mm R w0 w' (B.set i (.row t m x k' ys)) → wpList P ops.toArray Q rest a' w') : wpList P ops.toArray Q (o :: rest) a w :=
  sq_callR F hw ho he ha hc hd hdn fun e w' hR => by
    obtain ⟨x, h1, h2, h3, h4⟩ := hR
    exact ⟨x, h1, fun a' F' => h a' w' x F' (M.swap hi (x' := .row t m x k' ys) h2 h3 h4 (fun g hg => by cases hg))⟩
theorem Mm.owns {m : Nat} (M : Mm v.ownBlock.toList w0 w B) (hi : B[i]? = some (.row t m u k xs)) : Out v.ownBlock.toList w0 w ∧ w.ownsRow 0 t m u k xs ∧ ∀ g ∈ u.ownBlock.toList, g ∈ v.ownBlock.toList ∨ w0.heap.size ≤ g :=
  ⟨M.out, M.ow hi, fun g hg => (M.own _ (List.mem_of_getElem? hi) g hg).symm⟩
end
end Go.Proofs.YtcnmmnhlhenifaaGreat
namespace Go.Proofs.YtcnmmnhlhenifaaGreat
open Go.RowKit
set_option maxRecDepth 100000
set_option linter.unusedSimpArgs false
set_option linter.unusedVariables false
theorem blk_locS {p : Nat} {t : TypeId} {cs : Array Value} : Loc [p] (fun w => Blk w p t cs) := fun _ _ hk h =>
  ⟨(hk p (by simp)).trans h, fun g hg => by simp only [List.mem_singleton] at hg; subst hg; exact Blk.lt h⟩
def fpSv (B : Nat) (v : Value) : List Nat := B :: v.ownBlock.toList
structure SvV (B : Nat) (t ts : TypeId) (m n : Nat) (xs : List Value) (v : Value) (w : World) : Prop where
  blk : Blk w B t #[v]
  row : w.ownsRow 0 ts m v n xs
  ne : ¬ B ∈ v.ownBlock.toList
section
variable {R : List Nat} {w0 w w' : World} {C : List Ent} {B : Nat} {t ts : TypeId} {m n : Nat} {xs : List Value} {v : Value}
theorem SvV.loc (B : Nat) (t ts : TypeId) (m n : Nat) (xs : List Value) (v : Value) : Loc (fpSv B v) (SvV B t ts m n xs v) := fun w w' hk h => by
  have e1 := blk_locS w w' (fun k hk' => hk k (by simp only [List.mem_singleton] at hk'; simp [fpSv, hk'])) h.blk
  have hlt : ∀ k, v.ownBlock = some k → k < w.heap.size := fun k hk' => (World.ownsRow.lt h.row k hk').2
  refine ⟨⟨e1.1, ⟨h.row.1, ?_⟩, h.ne⟩, fun k hk' => ?_⟩
  · rcases h.row.2 with h4 | ⟨g, cap, cur, h4, h5, h6, h7⟩
    · exact .inl h4
    · exact .inr ⟨g, cap, cur, h4, h5, (hk g (by simp [fpSv, h4, Value.ownBlock])).trans h6, h7⟩
  · rcases List.mem_cons.1 hk' with rfl | h4
    · exact e1.2 k (by simp)
    · exact hlt k (by simpa using h4)
theorem Mm.new1S (M : Mm [] w0 w C) {i : Nat} {x : Ent} (h : C[i]? = some x) : ∀ g ∈ x.fp, w0.heap.size ≤ g := fun g hg => (M.own x (List.mem_of_getElem? h) g hg).resolve_right (by simp)
def SvZ (B : Nat) (t ts : TypeId) (m : Nat) (xs : List Value) (n : Nat) : Value → Ent → Prop := fun u x' => u = .tuple #[] ∧ ∃ v, x' = .own (fpSv B v) (SvV B t ts m n xs v)
end
section
variable {P : Program} {ops rest : List Oper} {o : Oper} {a : Act} {n d : Nat} {L : List (Nat × Value)} {Q : Exit → Act → World → Prop} {R : List Nat} {w w0 : World} {B : List Ent} {x : Operand}
end
section
variable {P : Program} {w : World} {t e : TypeId} {dd N : Nat}
end
def upI (f : Nat → Int) (i : Nat) : List Int := (List.range 8).map fun q => if q < i then f q else 0
def squareB (L : List (List (List St))) : Bool := decide (L.length ≤ 8) && L.all (fun r => decide (r.length = L.length))
def nodeB (L : List (List (List St))) (k : Int) : Bool := decide (0 ≤ k ∧ k < (L.length : Int))
end Go.Proofs.YtcnmmnhlhenifaaGreat
