/- Casts in a row, some of them nil: in memory, and in the theorem among all. Any seat with layer 14's laws in it. -/
import Derived.Test.YtcnkakahhekobaaBt
import Derived.Test.YtcnkakahhekobaaCs
import Derived.Test.YtcnkakahhekobaaOb
import Derived.Test.YtcnkakahhekobaaPk
import Derived.Test.YtcnkakahhekobaaPz
import Derived.Test.YtcnkakahhekobaaGv
import Derived.Lib.SliceRun
namespace Go.Proofs.Ytcnkakahhekobaa
open Go.RowKit
set_option maxRecDepth 100000
set_option linter.unusedSimpArgs false
set_option linter.unusedVariables false

/-! ### Pointers that may be nil, as elements -/
def pvO (o : Option Nat) : Value := .pointer (o.map fun g => ⟨g, 0, none⟩)
def encZ : Enc (Option Nat) := ⟨1, fun o => [pvO o], none, fun _ => rfl, fun a v h => by
  simp only [List.mem_cons, List.not_mem_nil, or_false] at h; subst h; rfl⟩
def cZ (L : List (Option Nat)) : List Value := cE encZ L
def atZ (L : List (Option Nat)) (i : Nat) : Option Nat := atE encZ L i
theorem cZ_at {L : List (Option Nat)} {i : Nat} (h : i < L.length) : (cZ L)[i * 1]? = some (pvO (atZ L i)) := by
  have h1 := cE_at (E := encZ) h
  have h2 : ((cZ L).drop (i * 1)).take 1 = [pvO (atZ L i)] := h1
  have h3 : (((cZ L).drop (i * 1)).take 1)[0]? = some (pvO (atZ L i)) := by rw [h2]; rfl
  rw [List.getElem?_take] at h3
  simpa using h3
theorem cZ_app (L K : List (Option Nat)) : cZ (L ++ K) = cZ L ++ cZ K := cE_app L K
theorem cZ_ones (L : List (Option Nat)) : ∀ z ∈ cZ L, z.oneCell' = true := cE_ones L
theorem cZ_get {L : List (Option Nat)} {i : Nat} {o : Option Nat} (h : L[i]? = some o) : (cZ L)[i * 1]? = some (pvO o) := by
  obtain ⟨h1, h2⟩ := List.getElem?_eq_some_iff.1 h
  rw [cZ_at h1, show atZ L i = L[i] from atE_eq (E := encZ) h1, h2]
theorem zR32 : (Try.prog.info? 32).map (fun i => i.zero.map (·.cells)) = some (some (List.toArray (cSy Sy.zero))) := by kernel_rfl
/-! ### Casts -/
structure Oc where
  r : Nat
  fp : List Nat
  S : Cs
def fpO : Option Oc → List Nat
  | none => []
  | some o => o.fp
def ΦO : Option Oc → World → Prop
  | none => fun _ => True
  | some o => CasV o.r o.fp o.S
theorem locO : ∀ a, Loc (fpO a) (ΦO a)
  | none => fun _ _ _ _ => ⟨trivial, fun g hg => by cases hg⟩
  | some o => CasV.loc o.r o.fp o.S
def ptrsO (W : List (Option Oc)) : List (Option Nat) := W.map fun a => a.map Oc.r
section
variable {W : List (Option Oc)} {j : Nat} {o : Oc} {w w' : World} {e : Ending} {n f k : Int} {ps : List (Option Nat)} {Wm : Int → Cs} {S : Cs}
theorem ObjsV.cast (h : ObjsV fpO ΦO W w) (hj : W[j]? = some (some o)) : CasV o.r o.fp o.S w := h.all _ (List.mem_of_getElem? hj)
/-- One of them takes. -/
theorem ObjsV.turnN {t : TypeId} {m : Nat} {cs : List Value} {c : Nat} (h : ObjsV fpO ΦO W w) (hj : W[j]? = some (some o))
    (ht : TurnsN w (.own o.fp (CasV o.r o.fp o.S)) (fun x' => ∃ fp', x' = .own fp' (CasV o.r fp' S)) t m cs c e w') :
    TurnsN w (.own (W.flatMap fpO) (ObjsV fpO ΦO W)) (fun x' => ∃ fp', x' = .own ((W.set j (some ⟨o.r, fp', S⟩)).flatMap fpO) (ObjsV fpO ΦO (W.set j (some ⟨o.r, fp', S⟩)))) t m cs c e w' := by
  obtain ⟨v, x', h1, h2, h3, h4, h5, ⟨fp', rfl⟩, h6, h7⟩ := ht
  obtain ⟨hj1, hj2⟩ := List.getElem?_eq_some_iff.1 hj
  have T : TurnsE w (.own (fpO W[j]) (ΦO W[j])) (fun u x' => ∃ a', (a' = some ⟨o.r, fp', S⟩) ∧ x' = .own (fpO a') (ΦO a')) e w' := by
    rw [hj2]
    exact ⟨v, _, h1, h2, h3, h4, rfl, some ⟨o.r, fp', S⟩, rfl, rfl⟩
  obtain ⟨v2, x2, g1, g2, g3, g4, g5, a', rfl, rfl⟩ := h.turn locO hj1 (Z := fun _ _ => True) (Z' := fun _ a' => a' = some ⟨o.r, fp', S⟩) T
  rw [h1] at g1
  injection g1 with g1
  subst g1
  refine ⟨v, _, h1, g2, g3, g4, rfl, ⟨fp', rfl⟩, h6, fun g hg => ⟨(h7 g hg).1.imp (fun z => List.mem_flatMap.2 ⟨_, List.mem_of_getElem? hj, z⟩) id, fun hg' => ?_⟩⟩
  obtain ⟨b, hb, hgb⟩ := List.mem_flatMap.1 (show g ∈ (W.set j (some ⟨o.r, fp', S⟩)).flatMap fpO from hg')
  obtain ⟨i, hi, rfl⟩ := List.mem_iff_getElem.1 hb
  rw [List.length_set] at hi
  rw [List.getElem_set] at hgb
  split at hgb
  · exact (h7 g hg).2 hgb
  · rename_i hne
    rcases (h7 g hg).1 with z | z
    · have := h.apart hj1 hi hne g (by rw [hj2]; exact z); exact this hgb
    · have q1 := h.lt locO (List.getElem_mem hi) g hgb
      omega
theorem casts_take (h : ObjsV fpO ΦO W w) (hj : W[j]? = some (some o)) (kind frm : Int) (t : Tx) : Calls Try.prog 13 #[.pointer (some ⟨o.r, 0, none⟩), .int .i64 kind, .int .i64 frm, strV t] w (TurnsN w (.own (W.flatMap fpO) (ObjsV fpO ΦO W)) (fun x' => ∃ fp', x' = .own ((W.set j (some ⟨o.r, fp', takeS o.S kind frm t⟩)).flatMap fpO) (ObjsV fpO ΦO (W.set j (some ⟨o.r, fp', takeS o.S kind frm t⟩)))) 41 38 (cF (frmL (tellF o.S kind frm t))) (frmL (tellF o.S kind frm t)).length) :=
  (cas_take o.r o.fp o.S kind frm t w (h.cast hj)).mono fun _ _ q => h.turnN hj q
/-! ### Which of them are nil, and what the others know -/
structure CsOK (n f : Int) (ps : List (Option Nat)) (W : List (Option Oc)) (Wm : Int → Cs) : Prop where
  f0 : 0 ≤ f
  len : (W.length : Int) = n
  ptr : ptrsO W = ps
  lo : ∀ j : Nat, j < W.length → (j : Int) < f → W[j]? = some none
  hi : ∀ j : Nat, j < W.length → f ≤ (j : Int) → ∃ o, W[j]? = some (some o) ∧ o.S = Wm j
theorem CsOK.pl (h : CsOK n f ps W Wm) : (ps.length : Int) = n := by rw [← h.ptr]; unfold ptrsO; rw [List.length_map]; exact h.len
theorem CsOK.nil (h : CsOK n f ps W Wm) (h0 : 0 ≤ k) (h1 : k < n) (hk : ¬ f ≤ k) : (cZ ps)[k.toNat * 1]? = some (.pointer none) := by
  have h2 := h.len
  have h3 := h.lo k.toNat (by omega) (by omega)
  refine cZ_get (o := none) ?_
  rw [← h.ptr]; unfold ptrsO
  rw [List.getElem?_map, h3]; rfl
theorem CsOK.cast (h : CsOK n f ps W Wm) (h1 : k < n) (hk : f ≤ k) : ∃ o : Oc, W[k.toNat]? = some (some o) ∧ o.S = Wm k ∧ (cZ ps)[k.toNat * 1]? = some (.pointer (some ⟨o.r, 0, none⟩)) := by
  have h2 := h.len
  have h0 := h.f0
  obtain ⟨o, h3, h4⟩ := h.hi k.toNat (by omega) (by omega)
  rw [show ((k.toNat : Nat) : Int) = k by omega] at h4
  refine ⟨o, h3, h4, cZ_get (o := some o.r) ?_⟩
  rw [← h.ptr]; unfold ptrsO
  rw [List.getElem?_map, h3]; rfl
theorem CsOK.turn (h : CsOK n f ps W Wm) (h1 : k < n) (hk : f ≤ k) (hj : W[k.toNat]? = some (some o)) (fp' : List Nat) (S : Cs) : CsOK n f ps (W.set k.toNat (some ⟨o.r, fp', S⟩)) (updW Wm k S) := by
  have h2 := h.len
  have h0 := h.f0
  obtain ⟨hj1, hj2⟩ := List.getElem?_eq_some_iff.1 hj
  refine ⟨h0, by rw [List.length_set]; exact h2, ?_, fun j hl hf => ?_, fun j hl hf => ?_⟩
  · rw [← h.ptr]; unfold ptrsO
    apply List.ext_getElem
    · simp
    · intro i q1 q2
      simp only [List.getElem_map, List.getElem_set]
      split
      · rename_i e; subst e; simp [hj2]
      · rfl
  · rw [List.length_set] at hl
    rw [List.getElem?_set_ne (by omega)]
    exact h.lo j hl hf
  · rw [List.length_set] at hl
    by_cases e : k.toNat = j
    · subst e
      refine ⟨⟨o.r, fp', S⟩, List.getElem?_set_self hj1, ?_⟩
      rw [show ((k.toNat : Nat) : Int) = k by omega, upd_at]
    · obtain ⟨o', q1, q2⟩ := h.hi j hl hf
      exact ⟨o', by rw [List.getElem?_set_ne e]; exact q1, by rw [q2, upd_ne _ _ (by omega)]⟩
/-- They are made one by one. -/
structure MkOK (n f : Int) (k : Int) (ps : List (Option Nat)) (W : List (Option Oc)) : Prop where
  f0 : 0 ≤ f
  len : (W.length : Int) = k
  ptr : ptrsO W = ps
  lo : ∀ j : Nat, j < W.length → (j : Int) < f → W[j]? = some none
  hi : ∀ j : Nat, j < W.length → f ≤ (j : Int) → ∃ o, W[j]? = some (some o) ∧ o.S = cnewS n f
theorem MkOK.pl (h : MkOK n f k ps W) : (ps.length : Int) = k := by rw [← h.ptr]; unfold ptrsO; rw [List.length_map]; exact h.len
theorem MkOK.zero (n : Int) (h0 : 0 ≤ f) : MkOK n f 0 [] [] := ⟨h0, rfl, rfl, fun j h => (by cases h), fun j h => (by cases h)⟩
theorem MkOK.none (h : MkOK n f k ps W) (hk : k < f) : MkOK n f (k + 1) (ps ++ [Option.none]) (W ++ [Option.none]) := by
  have h1 := h.len
  refine ⟨h.f0, by rw [List.length_append]; simp; omega, by rw [← h.ptr]; simp [ptrsO], fun j hl hf => ?_, fun j hl hf => ?_⟩
  · rw [List.length_append, List.length_singleton] at hl
    by_cases e : j < W.length
    · rw [List.getElem?_append_left e]; exact h.lo j e hf
    · rw [List.getElem?_append_right (by omega), show j - W.length = 0 by omega]; rfl
  · rw [List.length_append, List.length_singleton] at hl
    rw [List.getElem?_append_left (by omega)]; exact h.hi j (by omega) hf
theorem MkOK.some (h : MkOK n f k ps W) (hk : f ≤ k) (r : Nat) (fp : List Nat) : MkOK n f (k + 1) (ps ++ [Option.some r]) (W ++ [Option.some (⟨r, fp, cnewS n f⟩ : Oc)]) := by
  have h1 := h.len
  refine ⟨h.f0, by rw [List.length_append]; simp; omega, by rw [← h.ptr]; simp [ptrsO], fun j hl hf => ?_, fun j hl hf => ?_⟩
  · rw [List.length_append, List.length_singleton] at hl
    rw [List.getElem?_append_left (by omega)]; exact h.lo j (by omega) hf
  · rw [List.length_append, List.length_singleton] at hl
    by_cases e : j < W.length
    · rw [List.getElem?_append_left e]; exact h.hi j e hf
    · rw [List.getElem?_append_right (by omega), show j - W.length = 0 by omega]; exact ⟨_, rfl, rfl⟩
theorem MkOK.done (h : MkOK n f n ps W) : CsOK n f ps W (fun _ => cnewS n f) := ⟨h.f0, h.len, h.ptr, h.lo, h.hi⟩
theorem Mm.pushN {R : List Nat} {w0 : World} {B : List Ent} (M : Mm R w0 w (.own (W.flatMap fpO) (ObjsV fpO ΦO W) :: B)) : Mm R w0 w (.own ((W ++ [none]).flatMap fpO) (ObjsV fpO ΦO (W ++ [none])) :: B) :=
  Mm.pushO locO (M.addOwn (Below.refl _ _) (fp := fpO none) (Φ := ΦO none) trivial (locO none) (fun g hg => by cases hg))
theorem Mm.pushC {R : List Nat} {w0 : World} {B : List Ent} {r : Nat} {fp : List Nat} {S : Cs} (M : Mm R w0 w (.own fp (CasV r fp S) :: .own (W.flatMap fpO) (ObjsV fpO ΦO W) :: B)) : Mm R w0 w (.own ((W ++ [some (⟨r, fp, S⟩ : Oc)]).flatMap fpO) (ObjsV fpO ΦO (W ++ [some (⟨r, fp, S⟩ : Oc)])) :: B) :=
  Mm.pushO (a := some ⟨r, fp, S⟩) locO M
theorem Mm.newC {R : List Nat} {w0 : World} {B : List Ent} (M : Mm R w0 w B) : Mm R w0 w (.own (([] : List (Option Oc)).flatMap fpO) (ObjsV fpO ΦO []) :: B) :=
  M.addOwn (Below.refl _ _) (ObjsV.nil _ _ _) (ObjsV.loc locO []) (fun g hg => by cases hg)
/-- A call's end: of what it turned one thing is told. -/
theorem Mm.oneTurns {R : List Nat} {w0 : World} {B : List Ent} {i : Nat} {fp fq : List Nat} {Φ Ψ : World → Prop} {v : Value} {Z : Value → Ent → Prop} (M : Mm R w0 w B) (hi : B[i]? = some (.own fp Φ)) (hR : R = fq) (hz : Z v (.own fp Φ)) : TurnsE w0 (.own fq Ψ) Z (.returned v) w := by
  subst hR
  exact ⟨v, .own fp Φ, rfl, M.out, M.get hi, fun g hg => (M.own _ (List.mem_of_getElem? hi) g hg).symm, rfl, hz⟩
end
/-! ### A frame's sendings, some of them -/
def sentP (k n : Int) (out : List (Int × Tx)) (i t : Nat) : List Sy := toAll k n (out.take i) ++ ((rngI n).take t).map fun m => ⟨(atF (frmL out) i).kind, k, m, (atF (frmL out) i).text⟩
section
variable {k n : Int} {out : List (Int × Tx)} {i t : Nat}
theorem sentP_zero (k n : Int) (out : List (Int × Tx)) (i : Nat) : sentP k n out i 0 = toAll k n (out.take i) := by simp [sentP]
theorem sentP_step (h : t < n.toNat) : sentP k n out i t ++ [⟨(atF (frmL out) i).kind, k, (t : Int), (atF (frmL out) i).text⟩] = sentP k n out i (t + 1) := by
  unfold sentP
  have hl : t < (rngI n).length := by rw [rng_len]; exact h
  rw [List.take_succ_eq_append_getElem hl, List.map_append, List.append_assoc]
  congr 2
  simp [rngI]
theorem sentP_row (hi : i < out.length) : sentP k n out i n.toNat = toAll k n (out.take (i + 1)) := by
  unfold sentP
  rw [List.take_of_length_le (l := rngI n) (by rw [rng_len]; exact Nat.le_refl _), List.take_succ_eq_append_getElem hi, frm_at hi]
  unfold toAll
  rw [List.flatMap_append]
  simp only [List.flatMap_cons, List.flatMap_nil, List.append_nil]
theorem sentP_len (hi : i < out.length) (ht : t ≤ n.toNat) : (sentP k n out i t).length ≤ (toAll k n out).length := by
  unfold sentP
  simp only [List.length_append, toAll_len, List.length_map, List.length_take, rng_len]
  have h1 : (i + 1) * n.toNat ≤ out.length * n.toNat := Nat.mul_le_mul_right _ hi
  rw [Nat.succ_mul] at h1
  have h2 : min i out.length = i := by omega
  rw [h2]
  omega
end
/-! ### A slice and nil -/
/-! ### What the two laws ask -/
section
variable {R : List Nat} {w0 w : World} {B : List Ent} {i j m k : Nat} {t : TypeId} {v : Value} {xs : List Value} {y : Ent} {n f z : Int} {Lb : List Bool} {S : Cs} {tx : Tx} {Q : List Sy}
theorem dn_get (h : S.dn.isSome = true) : S.dn = some (S.dn.getD []) := by
  obtain ⟨u, hu⟩ := Option.isSome_iff_exists.1 h
  rw [hu]; rfl
theorem dn_not (h : S.dn.isSome = false) : S.dn = none := by
  cases hq : S.dn with
  | none => rfl
  | some u => rw [hq] at h; cases h
def BadOK (n z : Int) (Lb : List Bool) : Prop := (Lb.length : Int) = n ∧ ∀ j : Nat, j < Lb.length → atB Lb j = decide ((j : Int) < z)
theorem bad_zero (h : 0 ≤ n) : BadOK n 0 (List.replicate n.toNat false) := by
  refine ⟨by rw [List.length_replicate]; omega, fun j hj => ?_⟩
  rw [List.length_replicate] at hj
  rw [show atB (List.replicate n.toNat false) j = (List.replicate n.toNat false)[j]'(by rw [List.length_replicate]; exact hj) from atE_eq (E := encB) (by rw [List.length_replicate]; exact hj), List.getElem_replicate]
  exact (decide_eq_false (by omega)).symm
theorem bad_step (h : BadOK n z Lb) (h0 : 0 ≤ z) (hz : z < n) : BadOK n (z + 1) (Lb.set z.toNat true) := by
  obtain ⟨h1, h2⟩ := h
  refine ⟨by rw [List.length_set]; exact h1, fun j hj => ?_⟩
  rw [List.length_set] at hj
  rw [show atB (Lb.set z.toNat true) j = (Lb.set z.toNat true)[j]'(by rw [List.length_set]; exact hj) from atE_eq (E := encB) (by rw [List.length_set]; exact hj), List.getElem_set]
  split
  · rename_i e; exact (decide_eq_true (by omega)).symm
  · rename_i e
    rw [show Lb[j] = atB Lb j from (atE_eq (E := encB) hj).symm, h2 j hj, decide_eq_decide]
    omega
def initT (n : Int) (tx : Tx) (t : Nat) : List Sy := ((rngI n).take t).map fun m => ⟨1, n - 1, m, tx⟩
theorem init_zero (n : Int) (tx : Tx) : initT n tx 0 = [] := rfl
theorem init_step (h : k < n.toNat) : initT n tx k ++ [⟨1, n - 1, (k : Int), tx⟩] = initT n tx (k + 1) := by
  unfold initT
  have hl : k < (rngI n).length := by rw [rng_len]; exact h
  rw [List.take_succ_eq_append_getElem hl, List.map_append]
  congr 1
  simp [rngI]
theorem init_len : (initT n tx k).length ≤ k := by unfold initT; rw [List.length_map]; exact List.length_take_le _ _
theorem mem_init {s : Sy} (h : s ∈ initT n tx k) : s.kind = 1 ∧ s.frm = n - 1 ∧ s.text = tx := by
  unfold initT at h
  obtain ⟨m, _, rfl⟩ := List.mem_map.1 h
  exact ⟨rfl, rfl, rfl⟩
theorem init_mem (h0 : 0 ≤ z) (h1 : z < n) : (⟨1, n - 1, z, tx⟩ : Sy) ∈ initT n tx n.toNat := by
  unfold initT
  rw [List.take_of_length_le (by rw [rng_len]; exact Nat.le_refl _)]
  exact List.mem_map.2 ⟨z, mem_rng.2 ⟨h0, h1⟩, rfl⟩
theorem start_lies (h1 : 1 ≤ n) (h0 : 0 ≤ f) (h3 : 3 * f < n) (hq : ∀ s ∈ Q, 0 ≤ s.frm ∧ s.frm < f) : Sim n f none Q.length (fun _ => cnewS n f) Q 0 :=
  Sim.start h1 h0 h3 (fun s hs => by have := hq s hs; omega) (fun s hs hf => by have := hq s hs; omega) (fun o t h => by cases h)
theorem start_origin (h1 : 1 ≤ n) (h0 : 0 ≤ f) (h3 : 3 * f < n) (hq : ∀ s ∈ Q, 0 ≤ s.frm ∧ s.frm < f ∧ s.kind ≠ 1) : Sim n f (some (n - 1, tx)) (Q ++ initT n tx n.toNat).length (fun _ => cnewS n f) (Q ++ initT n tx n.toNat) 0 := by
  refine Sim.start h1 h0 h3 (fun s hs => ?_) (fun s hs hf => ?_) (fun o t h => ?_)
  · rcases List.mem_append.1 hs with h | h
    · have := hq s h; omega
    · have := mem_init h; omega
  · rcases List.mem_append.1 hs with h | h
    · have := hq s h; omega
    · obtain ⟨a, b, c⟩ := mem_init h; exact ⟨a, by rw [b, c]⟩
  · injection h with h; injection h with ho ht; subst ho ht
    refine ⟨fun s hs hk => ?_, fun m hm0 hm1 => List.mem_append.2 (.inr (init_mem hm0 hm1)), ⟨by omega, by omega⟩⟩
    rcases List.mem_append.1 hs with h | h
    · exact absurd hk (hq s h).2.2
    · exact (mem_init h).2.2
theorem lies_more {p : Sy → Prop} (h : ∀ s ∈ Q, p s) {s : Sy} (hs : p s) : ∀ x ∈ Q ++ [s], p x := fun x hx => by
  rcases List.mem_append.1 hx with h1 | h1
  · exact h x h1
  · rw [List.mem_singleton.1 h1]; exact hs
end
end Go.Proofs.Ytcnkakahhekobaa
