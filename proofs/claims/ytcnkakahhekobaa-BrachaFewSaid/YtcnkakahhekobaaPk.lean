/- Things put together: what a call's end makes one thing of, and what a call's start takes apart again. Any seat. -/
import Derived.Test.YtcnkakahhekobaaMq
import Derived.Test.YtcnkakahhekobaaCt
namespace Go.Proofs.Ytcnkakahhekobaa
open Go.RowKit
set_option maxRecDepth 100000
set_option linter.unusedSimpArgs false
set_option linter.unusedVariables false

def fpE (B : List Ent) : List Nat := B.flatMap Ent.fp
theorem mem_fpE {B : List Ent} {g : Nat} : g ∈ fpE B ↔ ∃ x ∈ B, g ∈ x.fp := by unfold fpE; rw [List.mem_flatMap]
/-- All of B, apart from one another. -/
structure PkV (B : List Ent) (w : World) : Prop where
  has : ∀ x ∈ B, x.at w
  base : ∀ x ∈ B, x.base = []
  nd : B.Pairwise (fun x y => ∀ g ∈ x.fp, ¬ g ∈ y.fp)
theorem Ent.loc {x : Ent} (hb : x.base = []) : Loc x.fp (fun w => x.at w) := fun w w' hk h => by
  refine ⟨?_, Ent.lt h⟩
  cases x with
  | blk g t cs => exact (blk_loc w w' hk h).1
  | row t m v n xs =>
    have h : w.ownsRow 0 t m v n xs := h
    refine ⟨h.1, ?_⟩
    rcases h.2 with h4 | ⟨g, cap, cur, h4, h5, h6, h7⟩
    · exact .inl h4
    · exact .inr ⟨g, cap, cur, h4, h5, (hk g (by simp [Ent.fp, h4, Value.ownBlock])).trans h6, h7⟩
  | arg m v n xs =>
    have h : RdV w m v n xs := h
    have hn : n = 0 := by
      by_cases h0 : n = 0
      · exact h0
      · rw [show (Ent.arg m v n xs).base = [gof v] from if_neg h0] at hb; cases hb
    obtain ⟨h0, A, c, rfl, h1, h2, h3⟩ := h
    exact ⟨h0, A, c, rfl, h1, h2, fun hn' => by omega⟩
  | got m v n xs =>
    have h : RdV w m v n xs := h
    obtain ⟨h0, A, c, rfl, h1, h2, h3⟩ := h
    refine ⟨h0, A, c, rfl, h1, h2, fun hn' => ?_⟩
    obtain ⟨g, off, rfl, h4, h5⟩ := h3 hn'
    have hg := hk g (by rw [show (Ent.got m (.slice (some ⟨g, off, none⟩) n c) n xs).fp = [g] from if_neg (by omega)]; simp)
    refine ⟨g, off, rfl, ?_, fun j u hj => by rw [World.cell?_of_block hg]; exact h5 j u hj⟩
    have h6 : w.heap[g]? = some w.heap[g] := Array.getElem?_eq_getElem h4
    rw [← hg] at h6
    exact (Array.getElem?_eq_some_iff.1 h6).1
  | own fp Φ => exact ⟨(h.2 w w' hk h.1).1, h.2⟩
  | ext fp Φ =>
    have hb : fp = [] := hb
    subst hb
    exact ⟨(h.2 w w' (fun g hg => by cases hg) h.1).1, h.2⟩
section
variable {R : List Nat} {w0 w w' : World} {B C X : List Ent}
theorem PkV.loc (B : List Ent) : Loc (fpE B) (PkV B) := fun w w' hk h =>
  ⟨⟨fun x hx => (Ent.loc (h.base x hx) w w' (fun g hg => hk g (mem_fpE.2 ⟨x, hx, hg⟩)) (h.has x hx)).1, h.base, h.nd⟩, fun g hg => by
    obtain ⟨x, hx, hg⟩ := mem_fpE.1 hg
    exact Ent.lt (h.has x hx) g hg⟩
/-- A walk starts with all of it apart. -/
theorem PkV.start (h : PkV B w) : Mm (fpE B) w w B := ⟨Out.refl _ _, h.has, fun x hx g hg => .inr (mem_fpE.2 ⟨x, hx, hg⟩), fun x hx g hg => (by rw [h.base x hx] at hg; cases hg), h.nd⟩
theorem Mm.pkv (M : Mm R w0 w B) (hb : ∀ x ∈ B, x.base = []) : PkV B w := ⟨M.has, hb, M.nd⟩
/-- A call's end: what was turned is put together again. -/
theorem Mm.pkTurns {v : Value} {Φ : World → Prop} {fp : List Nat} {Z : Value → Ent → Prop} (M : Mm R w0 w B) (hR : R = fp) (hb : ∀ x ∈ B, x.base = []) {Ψ : World → Prop} (hΨ : Ψ w) (hl : Loc (fpE B) Ψ) (hz : Z v (.own (fpE B) Ψ)) :
    TurnsE w0 (.own fp Φ) Z (.returned v) w :=
  ⟨v, .own (fpE B) Ψ, rfl, hR ▸ M.out, ⟨hΨ, hl⟩, fun g hg => by
    obtain ⟨x, hx, hg⟩ := mem_fpE.1 (show g ∈ fpE B from hg)
    rcases M.own x hx g hg with h | h
    · exact .inr h
    · exact .inl (hR ▸ h), rfl, hz⟩
/-- A call's end: what was made is put together. -/
theorem Mm.pkMakes {v : Value} {Z : Value → Ent → Prop} (M : Mm [] w0 w B) {Ψ : World → Prop} (hΨ : Ψ w) (hl : Loc (fpE B) Ψ) (hz : Z v (.own (fpE B) Ψ)) : MakesE w0 Z (.returned v) w :=
  ⟨v, .own (fpE B) Ψ, rfl, M.bel, ⟨hΨ, hl⟩, fun g hg => by
    obtain ⟨x, hx, hg⟩ := mem_fpE.1 (show g ∈ fpE B from hg)
    exact (M.own x hx g hg).elim id (fun z => by cases z), rfl, hz⟩
/-- What lies at the head is put together. -/
theorem Mm.pack (M : Mm R w0 w (X ++ C)) (hb : ∀ x ∈ X, x.base = []) : Mm R w0 w (.own (fpE X) (PkV X) :: C) := by
  refine Mm.recast (X := X) (Y := [.own (fpE X) (PkV X)]) M (fun y hy => ?_) (fun y hy g hg => ?_) (List.pairwise_singleton _ _) (fun y hy g hg => ?_)
  · rw [List.mem_singleton.1 hy]
    exact ⟨⟨fun x hx => M.has x (List.mem_append.2 (.inl hx)), hb, (List.pairwise_append.1 M.nd).1⟩, PkV.loc _⟩
  · rw [List.mem_singleton.1 hy] at hg; exact mem_fpE.1 hg
  · rw [List.mem_singleton.1 hy] at hg; cases hg
/-- .. and taken apart. -/
theorem Mm.unpack (M : Mm R w0 w (.own (fpE X) (PkV X) :: C)) : Mm R w0 w (X ++ C) := by
  have h := M.pv (i := 0) rfl
  refine Mm.recast (X := [.own (fpE X) (PkV X)]) (Y := X) M h.has (fun y hy g hg => ⟨_, List.mem_singleton.2 rfl, mem_fpE.2 ⟨y, hy, hg⟩⟩) h.nd (fun y hy g hg => ?_)
  rw [h.base y hy] at hg; cases hg
theorem PkV.get (h : PkV B w) {i : Nat} {x : Ent} (hi : B[i]? = some x) : x.at w := h.has x (List.mem_of_getElem? hi)
theorem PkV.pv (h : PkV B w) {i : Nat} {fp : List Nat} {Φ : World → Prop} (hi : B[i]? = some (.own fp Φ)) : Φ w := (show Φ w ∧ Loc fp Φ from h.get hi).1
theorem PkV.blk (h : PkV B w) {i g : Nat} {t : TypeId} {cs : Array Value} (hi : B[i]? = some (.blk g t cs)) : Blk w g t cs := h.get hi
theorem PkV.apart (h : PkV B w) {i j : Nat} {x y : Ent} (hi : B[i]? = some x) (hj : B[j]? = some y) (hne : i ≠ j) : ∀ g ∈ x.fp, ¬ g ∈ y.fp := by
  have hp := List.pairwise_iff_getElem.1 h.nd
  obtain ⟨hi', rfl⟩ := List.getElem?_eq_some_iff.1 hi
  obtain ⟨hj', rfl⟩ := List.getElem?_eq_some_iff.1 hj
  rcases Nat.lt_or_gt_of_ne hne with h1 | h1
  · exact hp i j hi' hj' h1
  · exact fun g hg hg' => hp j i hj' hi' h1 g hg' hg
/-- Entries chosen among those that are known. -/
theorem Mm.pick (M : Mm R w0 w B) (is : List Nat) (hn : is.Nodup) {X : List Ent} (h : is.map (fun i => B[i]?) = X.map some) : Mm R w0 w X := by
  have hl : is.length = X.length := by have := congrArg List.length h; simpa using this
  have hat : ∀ k (hk : k < X.length), B[is[k]'(by omega)]? = some X[k] := fun k hk => by
    have := congrArg (fun l => l[k]?) h
    simpa [List.getElem?_eq_getElem hk, List.getElem?_eq_getElem (show k < is.length by omega)] using this
  have hm : ∀ x ∈ X, x ∈ B := fun x hx => by
    obtain ⟨k, hk, rfl⟩ := List.mem_iff_getElem.1 hx
    exact List.mem_of_getElem? (hat k hk)
  refine ⟨M.out, fun x hx => M.has x (hm x hx), fun x hx => M.own x (hm x hx), fun x hx => M.far x (hm x hx), ?_⟩
  rw [List.pairwise_iff_getElem]
  intro a b ha hb hab
  refine M.apart (hat a ha) (hat b hb) fun e => ?_
  exact (List.pairwise_iff_getElem.1 hn) a b (by omega) (by omega) hab e
end
section
variable {R : List Nat} {w0 w : World} {B : List Ent} {i j : Nat} {fp fp' : List Nat} {Φ Ψ : World → Prop} {v : Value}
/-- A call's end: what was turned stands as one thing. -/
theorem Mm.endOwn {Z : Value → Ent → Prop} (M : Mm R w0 w B) (hi : B[i]? = some (.own fp' Ψ)) (hR : R = fp) (hz : Z v (.own fp' Ψ)) : TurnsE w0 (.own fp Φ) Z (.returned v) w :=
  ⟨v, .own fp' Ψ, rfl, hR ▸ M.out, M.get hi, fun g hg => by
    rcases M.own _ (List.mem_of_getElem? hi) g hg with h | h
    · exact .inr h
    · exact .inl (hR ▸ h), rfl, hz⟩
theorem Mm.farGt {m n : Nat} {xs : List Value} (M : Mm R w0 w B) (hi : B[i]? = some (.got m v n xs)) (hj : B[j]? = some (.own fp Φ)) : 0 < n → ¬ gof v ∈ fp := fun hn hm => by
  have hne : i ≠ j := fun e => by subst e; rw [hi] at hj; cases hj
  exact M.apart hi hj hne (gof v) (by rw [show (Ent.got m v n xs).fp = [gof v] from if_neg (by omega)]; simp) hm
theorem Mm.farRw {m n : Nat} {t : TypeId} {u : Value} {xs : List Value} (M : Mm R w0 w B) (hi : B[i]? = some (.row t m u n xs)) (hj : B[j]? = some (.own fp Φ)) : 0 < n → ¬ gof u ∈ fp := fun hn hm => by
  have hne : i ≠ j := fun e => by subst e; rw [hi] at hj; cases hj
  have h1 := (own_spot (M.ow hi) hn).1
  exact M.apart hi hj hne (gof u) (by simp [Ent.fp, h1]) hm
theorem Mm.farAg {m n : Nat} {u : Value} {xs : List Value} (M : Mm R w0 w B) (hi : B[i]? = some (.arg m u n xs)) (hj : B[j]? = some (.own fp Φ)) : 0 < n → ¬ gof u ∈ fp := fun hn hm => by
  have h1 := M.far _ (List.mem_of_getElem? hi) (gof u) (by simp only [Ent.base]; rw [if_neg (by omega)]; simp)
  rcases M.own _ (List.mem_of_getElem? hj) (gof u) hm with h2 | h2
  · omega
  · exact h1.2 h2
end
end Go.Proofs.Ytcnkakahhekobaa
