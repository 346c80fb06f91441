/- Frames and memory told by lists: a logic in which the frame and the world are variables. Any seat. -/
import Derived.Test.YtcobpabmmbcjcaaJ1
import Derived.IntWalk
import Derived.Scope
import Derived.Deep.MidRow
import Derived.Maps.AppendAt
import Derived.Laws.OwnMore
namespace Go.Proofs.Ytcobpabmmbcjcaa
open Go.RowKit
set_option maxRecDepth 100000
set_option linter.unusedSimpArgs false
set_option linter.unusedVariables false
def look : List (Nat × Value) → Nat → Option Value
  | [], _ => none
  | (j, u) :: r, k => cond (Nat.beq j k) (some u) (look r k)
structure Fr (a : Act) (n : Nat) (L : List (Nat × Value)) : Prop where
  size : a.tmps.size = n
  defers : a.defers = []
  get : ∀ {k : Nat} {v : Value}, look L k = some v → a.tmps.getD k undef = v
section
variable {a : Act} {n : Nat} {L : List (Nat × Value)}
theorem Fr.ev (F : Fr a n L) {k : Nat} {v : Value} (h : look L k = some v) : a.eval (.tmp k) = v := F.get h
theorem Fr.nil (F : Fr a n L) : Fr a n [] := ⟨F.size, F.defers, fun h => by cases h⟩
theorem Fr.cons (F : Fr a n L) {k : Nat} {v : Value} (h : a.tmps.getD k undef = v) : Fr a n ((k, v) :: L) := ⟨F.size, F.defers, fun {j u} hj => by
  simp only [look] at hj
  cases hb : Nat.beq k j
  · rw [hb] at hj; exact F.get hj
  · rw [hb] at hj
    have := Nat.eq_of_beq_eq_true hb
    subst this
    injection hj with hj
    rw [h, hj]⟩
theorem Fr.put (F : Fr a n L) {d : Nat} {v : Value} (hd : Nat.blt d n = true) : Fr (a.put (some d) v) n ((d, v) :: L) := by
  have hlt : d < n := Nat.le_of_ble_eq_true hd
  refine ⟨by simp [Act.put, F.size], by simp [Act.put, F.defers], fun {j u} hj => ?_⟩
  simp only [look] at hj
  cases hb : Nat.beq d j
  · rw [hb] at hj
    have hne : d ≠ j := fun e => by subst e; simp at hb
    have := F.get hj
    simp only [Act.put, Array.getD_eq_getD_getElem?, Array.getElem?_setIfInBounds, hne, if_false] at this ⊢
    exact this
  · rw [hb] at hj
    have := Nat.eq_of_beq_eq_true hb
    subst this
    injection hj with hj
    subst hj
    simp [Act.put, F.size, hlt]
def selL (L : List (Nat × Value)) : List Nat → List (Nat × Value)
  | [] => []
  | k :: r => (k, (look L k).getD undef) :: selL L r
theorem Fr.sel (F : Fr a n L) : ∀ ks : List Nat, ks.all (fun k => (look L k).isSome) = true → Fr a n (selL L ks)
  | [], _ => F.nil
  | k :: r, h => by
    rw [List.all_cons, Bool.and_eq_true] at h
    obtain ⟨v, hv⟩ := Option.isSome_iff_exists.1 h.1
    refine (F.sel r h.2).cons ?_
    rw [F.get hv, hv]; rfl
def argL : Nat → List Value → List (Nat × Value)
  | _, [] => []
  | i, v :: r => (i, v) :: argL (i + 1) r
theorem look_argL : ∀ (vs : List Value) (i k : Nat) (v : Value), look (argL i vs) k = some v → i ≤ k ∧ vs[k - i]? = some v
  | [], _, _, _, h => by cases h
  | u :: r, i, k, v, h => by
    simp only [argL, look] at h
    cases hb : Nat.beq i k
    · rw [hb] at h
      obtain ⟨h1, h2⟩ := look_argL r (i + 1) k v h
      refine ⟨by omega, ?_⟩
      rw [show k - i = (k - (i + 1)) + 1 from by omega]
      simpa using h2
    · rw [hb] at h
      have := Nat.eq_of_beq_eq_true hb
      subst this
      simpa using h
theorem enterF {P : Program} {f : FuncId} {fn : Func} {c : Code} {w : World} {R : Ending → World → Prop} (hf : P.funcs[f]? = some fn) (hb : fn.body = some c) (n : Nat) (hn : fn.ntmps = n) (vs : List Value) (hlen : Nat.ble vs.length n = true) (L : List (Nat × Value)) (hL : argL 0 vs = L)
    (h : ∀ a, Fr a n L → c.wp P (bodyPost P fn R) a w) : Calls P f vs.toArray w R := by
  subst hL
  have hlen' : vs.length ≤ n := Nat.le_of_ble_eq_true hlen
  refine calls_of_wp hf hb (h _ ⟨by simp [hn]; omega, rfl, fun {k v} hk => ?_⟩)
  obtain ⟨_, h2⟩ := look_argL vs 0 k v hk
  have hk' : k < vs.length := by
    rcases Nat.lt_or_ge k vs.length with h | h
    · exact h
    · rw [Nat.sub_zero, List.getElem?_eq_none h] at h2; cases h2
  rw [Nat.sub_zero, List.getElem?_eq_getElem hk'] at h2
  injection h2 with h2
  simp only [Array.getD_eq_getD_getElem?]
  rw [Array.getElem?_append_left (by simpa using hk')]
  simp [hk', h2]
end
def gof : Value → Nat
  | .slice (some a) _ _ => a.block
  | _ => 0
def oof : Value → Nat
  | .slice (some a) _ _ => a.off
  | _ => 0
def slen : Value → Option Nat
  | .slice _ n _ => some n
  | _ => none
def RdV (w : World) (m : Nat) (v : Value) (n : Nat) (xs : List Value) : Prop :=
  xs.length = n * m ∧ ∃ A c, v = .slice A n c ∧ n ≤ c ∧ c ≤ maxLen ∧ (0 < n → ∃ g off, A = some ⟨g, off, none⟩ ∧ g < w.heap.size ∧ ∀ j u, xs[j]? = some u → w.cell? ⟨g, off + j, none⟩ = some u)
structure Out (R : List Nat) (w w' : World) : Prop where
  os : w'.os = w.os
  tape : w'.tape = w.tape
  output : w'.output = w.output
  size : w.heap.size ≤ w'.heap.size
  block : ∀ k, k < w.heap.size → ¬ k ∈ R → w'.heap[k]? = w.heap[k]?
def Loc (fp : List Nat) (Φ : World → Prop) : Prop := ∀ w w' : World, (∀ g ∈ fp, w'.heap[g]? = w.heap[g]?) → Φ w → Φ w' ∧ ∀ g ∈ fp, g < w.heap.size
inductive Ent where
  | blk (g : Nat) (t : TypeId) (cs : Array Value)
  | row (t : TypeId) (m : Nat) (v : Value) (n : Nat) (xs : List Value)
  | arg (m : Nat) (v : Value) (n : Nat) (xs : List Value)
  | got (m : Nat) (v : Value) (n : Nat) (xs : List Value)
  | own (fp : List Nat) (Φ : World → Prop)
  | ext (fp : List Nat) (Φ : World → Prop)
def Ent.fp : Ent → List Nat
  | .blk g _ _ => [g]
  | .row _ _ v _ _ => v.ownBlock.toList
  | .arg _ _ _ _ => []
  | .got _ v n _ => if n = 0 then [] else [gof v]
  | .own fp _ => fp
  | .ext _ _ => []
def Ent.base : Ent → List Nat
  | .arg _ v n _ => if n = 0 then [] else [gof v]
  | .ext fp _ => fp
  | _ => []
def Ent.at (w : World) : Ent → Prop
  | .blk g t cs => Blk w g t cs
  | .row t m v n xs => w.ownsRow 0 t m v n xs
  | .arg m v n xs => RdV w m v n xs
  | .got m v n xs => RdV w m v n xs
  | .own fp Φ => Φ w ∧ Loc fp Φ
  | .ext fp Φ => Φ w ∧ Loc fp Φ
structure Mm (R : List Nat) (w0 w : World) (B : List Ent) : Prop where
  out : Out R w0 w
  has : ∀ x ∈ B, x.at w
  own : ∀ x ∈ B, ∀ g ∈ x.fp, w0.heap.size ≤ g ∨ g ∈ R
  far : ∀ x ∈ B, ∀ g ∈ x.base, g < w0.heap.size ∧ ¬ g ∈ R
  nd : B.Pairwise (fun x y => ∀ g ∈ x.fp, ¬ g ∈ y.fp)
section
variable {R T : List Nat} {w0 w w' w2 : World} {B : List Ent} {m n : Nat} {v : Value} {xs : List Value} {fp : List Nat} {Φ : World → Prop}
theorem Out.refl (R : List Nat) (w : World) : Out R w w := ⟨rfl, rfl, rfl, Nat.le_refl _, fun _ _ _ => rfl⟩
theorem Out.below (h : Out [] w w') : Below w.heap.size w w' := ⟨h.os, h.tape, h.output, h.size, fun k hk => h.block k hk (by simp)⟩
theorem Below.out (hb : Below w.heap.size w w') (R : List Nat) : Out R w w' := ⟨hb.os, hb.tape, hb.output, hb.size, fun k hk _ => hb.block k hk⟩
theorem Out.mono {R' : List Nat} (h : Out R w w') (hr : ∀ g ∈ R, g ∈ R') : Out R' w w' := ⟨h.os, h.tape, h.output, h.size, fun k hk hn => h.block k hk (fun e => hn (hr k e))⟩
theorem Out.of_grown {row : Option Nat} (hg : w.grownBy w' row) : Out row.toList w w' := ⟨hg.os, hg.tape, hg.output, hg.size, fun k hk hn => hg.block k hk (fun e => hn (by rw [← e]; simp))⟩
theorem Out.trans {R' : List Nat} (h : Out R w0 w) (h' : Out R' w w') (hr : ∀ g ∈ R', w0.heap.size ≤ g ∨ g ∈ R) : Out R w0 w' :=
  ⟨by rw [h'.os, h.os], by rw [h'.tape, h.tape], by rw [h'.output, h.output], Nat.le_trans h.size h'.size, fun k hk hR => by
    rw [h'.block k (Nat.lt_of_lt_of_le hk h.size) (fun e => by rcases hr k e with h1 | h1; omega; exact hR h1), h.block k hk hR]⟩
theorem Out.grownBy {g : Nat} (h : Out [g] w w') : w.grownBy w' (some g) := ⟨h.os, h.tape, h.output, h.size, fun k hk hne => h.block k hk (fun e => hne (by simpa using e))⟩
theorem RdV.len (h : RdV w m v n xs) : slen v = some n := by
  obtain ⟨_, A, c, rfl, _⟩ := h
  rfl
theorem RdV.form (h : RdV w m v n xs) (hn : 0 < n) : ∃ c, v = .slice (some ⟨gof v, oof v, none⟩) n c ∧ n ≤ c ∧ c ≤ maxLen ∧ gof v < w.heap.size ∧ ∀ j u, xs[j]? = some u → w.cell? ⟨gof v, oof v + j, none⟩ = some u := by
  obtain ⟨_, A, c, rfl, h1, h2, h3⟩ := h
  obtain ⟨g, off, rfl, h4, h5⟩ := h3 hn
  exact ⟨c, rfl, h1, h2, h4, h5⟩
theorem RdV.out (h : RdV w m v n xs) (hg : Out T w w') (hr : 0 < n → ¬ gof v ∈ T) : RdV w' m v n xs := by
  obtain ⟨h0, A, c, rfl, h1, h2, h3⟩ := h
  refine ⟨h0, A, c, rfl, h1, h2, fun hn => ?_⟩
  obtain ⟨g, off, rfl, h4, h5⟩ := h3 hn
  exact ⟨g, off, rfl, Nat.lt_of_lt_of_le h4 hg.size, fun j u hj => by rw [World.cell?_of_block (hg.block g h4 (hr hn))]; exact h5 j u hj⟩
theorem RdV.below (h : RdV w m v n xs) (hb : Below w.heap.size w w') : RdV w' m v n xs := h.out (Below.out hb []) (fun _ => by simp)
theorem own_rdv {t : TypeId} {b : Nat} (h : w.ownsRow b t m v n xs) : RdV w m v n xs := by
  refine ⟨h.1, ?_⟩
  rcases h.2 with ⟨rfl, rfl⟩ | ⟨g, cap, cur, rfl, _, hg, hc, hm, hs, ht⟩
  · exact ⟨none, 0, rfl, Nat.le_refl _, Nat.zero_le _, fun h => absurd h (by omega)⟩
  · refine ⟨some ⟨g, 0, none⟩, cap, rfl, hc, hm, fun _ => ⟨g, 0, rfl, (Array.getElem?_eq_some_iff.1 hg).1, fun j u hj => ?_⟩⟩
    have := h.cells (g := g) rfl j u hj
    have e : (⟨g, 0, none⟩ : Addr).add j = ⟨g, 0 + j, none⟩ := by unfold Addr.add; split <;> simp_all
    rwa [e] at this
theorem own_spot {t : TypeId} {b : Nat} (h : w.ownsRow b t m v n xs) (hn : 0 < n) : v.ownBlock = some (gof v) ∧ oof v = 0 := by
  rcases h.2 with ⟨rfl, rfl⟩ | ⟨g, cap, cur, rfl, _⟩
  · omega
  · exact ⟨rfl, rfl⟩
theorem own_zero {t : TypeId} {b : Nat} (h : w.ownsRow b t m v n xs) : w.ownsRow 0 t m v n xs := by
  refine ⟨h.1, ?_⟩
  rcases h.2 with h1 | ⟨g, cap, cur, h1, _, h2⟩
  · exact .inl h1
  · exact .inr ⟨g, cap, cur, h1, Nat.zero_le _, h2⟩
theorem row_out {t : TypeId} {b : Nat} (h : w.ownsRow b t m v n xs) (hg : Out T w w') (hr : ∀ g, v.ownBlock = some g → ¬ g ∈ T) : w'.ownsRow b t m v n xs := by
  refine ⟨h.1, ?_⟩
  rcases h.2 with h1 | ⟨g, cap, cur, h1, h2, h3, h4⟩
  · exact .inl h1
  · exact .inr ⟨g, cap, cur, h1, h2, (hg.block g (Array.getElem?_eq_some_iff.1 h3).1 (hr g (by rw [h1]; rfl))).trans h3, h4⟩
theorem Loc.out (hL : Loc fp Φ) (h : Φ w) (hg : Out T w w') (hf : ∀ g ∈ fp, ¬ g ∈ T) : Φ w' :=
  (hL w w' (fun g hgm => hg.block g ((hL w w (fun _ _ => rfl) h).2 g hgm) (hf g hgm)) h).1
theorem Loc.lt (hL : Loc fp Φ) (h : Φ w) : ∀ g ∈ fp, g < w.heap.size := (hL w w (fun _ _ => rfl) h).2
theorem Ent.lt {x : Ent} (h : x.at w) : ∀ g ∈ x.fp, g < w.heap.size := by
  intro g hg
  cases x with
  | blk g' t cs =>
    simp only [Ent.fp, List.mem_singleton] at hg
    subst hg
    exact Blk.lt h
  | row t m v n xs =>
    simp only [Ent.fp, Option.mem_toList] at hg
    exact (World.ownsRow.lt (show w.ownsRow 0 t m v n xs from h) g hg).2
  | arg m v n xs => cases hg
  | got m v n xs =>
    simp only [Ent.fp] at hg
    split at hg
    · cases hg
    · simp only [List.mem_singleton] at hg
      subst hg
      obtain ⟨_, _, _, _, h1, _⟩ := RdV.form (show RdV w m v n xs from h) (by omega)
      exact h1
  | own fp Φ => exact Loc.lt h.2 h.1 g hg
  | ext fp Φ => cases hg
theorem Ent.kept {x : Ent} (h : x.at w) (hg : Out T w w') (hne : ∀ g ∈ x.fp, ¬ g ∈ T) (hb : ∀ g ∈ x.base, ¬ g ∈ T) : x.at w' := by
  cases x with
  | blk g t cs => exact (hg.block g (Blk.lt h) (hne g (by simp [Ent.fp]))).trans h
  | row t m v n xs => exact row_out (show w.ownsRow 0 t m v n xs from h) hg (fun g e => hne g (by simp [Ent.fp, e]))
  | arg m v n xs => exact RdV.out (show RdV w m v n xs from h) hg (fun hn => hb _ (by rw [show (Ent.arg m v n xs).base = [gof v] from if_neg (by omega)]; simp))
  | got m v n xs => exact RdV.out (show RdV w m v n xs from h) hg (fun hn => hne _ (by rw [show (Ent.got m v n xs).fp = [gof v] from if_neg (by omega)]; simp))
  | own fp Φ => exact ⟨Loc.out h.2 h.1 hg hne, h.2⟩
  | ext fp Φ => exact ⟨Loc.out h.2 h.1 hg hb, h.2⟩
theorem Mm.start (R : List Nat) (w : World) : Mm R w w [] := ⟨Out.refl _ _, by simp, by simp, by simp, by simp⟩
theorem Mm.bel (M : Mm [] w0 w B) : Below w0.heap.size w0 w := M.out.below
theorem Mm.size (M : Mm R w0 w B) : w0.heap.size ≤ w.heap.size := M.out.size
theorem Mm.get (M : Mm R w0 w B) {i : Nat} {x : Ent} (h : B[i]? = some x) : x.at w := M.has _ (List.mem_of_getElem? h)
theorem Mm.at (M : Mm R w0 w B) {i g : Nat} {t : TypeId} {cs : Array Value} (h : B[i]? = some (.blk g t cs)) : Blk w g t cs := M.get h
theorem Mm.ow (M : Mm R w0 w B) {i : Nat} {t : TypeId} (h : B[i]? = some (.row t m v n xs)) : w.ownsRow 0 t m v n xs := M.get h
theorem Mm.rv (M : Mm R w0 w B) {i : Nat} {t : TypeId} (h : B[i]? = some (.row t m v n xs)) : RdV w m v n xs := own_rdv (M.ow h)
theorem Mm.av (M : Mm R w0 w B) {i : Nat} (h : B[i]? = some (.arg m v n xs)) : RdV w m v n xs := M.get h
theorem Mm.pv (M : Mm R w0 w B) {i : Nat} (h : B[i]? = some (.own fp Φ)) : Φ w := (show Φ w ∧ Loc fp Φ from M.get h).1
theorem Mm.pl (M : Mm R w0 w B) {i : Nat} (h : B[i]? = some (.own fp Φ)) : Loc fp Φ := (show Φ w ∧ Loc fp Φ from M.get h).2
theorem Mm.xv (M : Mm R w0 w B) {i : Nat} (h : B[i]? = some (.ext fp Φ)) : Φ w := (show Φ w ∧ Loc fp Φ from M.get h).1
theorem Mm.pvE (M : Mm R w0 w B) {i : Nat} (h : B[i]? = some (.own fp Φ)) : ∀ w', w' = w → Φ w' := fun _ e => e ▸ M.pv h
theorem Mm.pvB (M : Mm R w0 w B) {i : Nat} (h : B[i]? = some (.own fp Φ)) : ∀ w', Below w.heap.size w w' → Φ w' := fun _ e => (M.pl h).out (M.pv h) (Below.out e []) (by simp)
theorem Mm.xvE (M : Mm R w0 w B) {i : Nat} (h : B[i]? = some (.ext fp Φ)) : ∀ w', w' = w → Φ w' := fun _ e => e ▸ M.xv h
theorem Mm.xvB (M : Mm R w0 w B) {i : Nat} (h : B[i]? = some (.ext fp Φ)) : ∀ w', Below w.heap.size w w' → Φ w' := fun _ e => (show Φ w ∧ Loc fp Φ from M.get h).2.out (M.xv h) (Below.out e []) (by simp)
theorem Mm.below (M : Mm R w0 w B) (hb : Below w.heap.size w w') : Mm R w0 w' B :=
  ⟨M.out.trans (Below.out hb []) (fun _ h => by cases h), fun x hx => Ent.kept (M.has x hx) (Below.out hb []) (fun _ _ h => by cases h) (fun _ _ h => by cases h), M.own, M.far, M.nd⟩
theorem Mm.add (M : Mm R w0 w B) (hb : Below w.heap.size w w') {x : Ent} (hx : x.at w') (hs : ∀ g ∈ x.fp, w.heap.size ≤ g) (ha : ∀ g ∈ x.base, g < w0.heap.size ∧ ¬ g ∈ R) : Mm R w0 w' (x :: B) := by
  have M' := M.below hb
  refine ⟨M'.out, fun y hy => ?_, fun y hy g hg => ?_, fun y hy g hg => ?_, List.pairwise_cons.2 ⟨fun y hy => ?_, M.nd⟩⟩
  · rcases List.mem_cons.1 hy with rfl | h
    · exact hx
    · exact M'.has y h
  · rcases List.mem_cons.1 hy with rfl | h
    · exact .inl (Nat.le_trans M.size (hs g hg))
    · exact M.own y h g hg
  · rcases List.mem_cons.1 hy with rfl | h
    · exact ha g hg
    · exact M.far y h g hg
  · intro g hg hy'
    have h1 := hs g hg
    have h2 := Ent.lt (M.has y hy) g hy'
    omega
theorem Mm.alloc (M : Mm R w0 w B) (t : TypeId) (cs : Array Value) : Mm R w0 (w.alloc (.cells cs t)) (.blk w.heap.size t cs :: B) :=
  M.add (bel1 _ _) (x := .blk w.heap.size t cs) (Blk.new _ _ _) (fun g h => by simp only [Ent.fp, List.mem_singleton] at h; omega) (fun g h => by cases h)
theorem Mm.swap (M : Mm R w0 w B) {i : Nat} {x x' : Ent} (h : B[i]? = some x) (hg : Out x.fp w w') (hx : x'.at w') (hs : ∀ g ∈ x'.fp, g ∈ x.fp ∨ w.heap.size ≤ g) (hba : ∀ g ∈ x'.base, g < w0.heap.size ∧ ¬ g ∈ R) : Mm R w0 w' (B.set i x') := by
  have hi : i < B.length := by
    rcases Nat.lt_or_ge i B.length with h1 | h1
    · exact h1
    · rw [List.getElem?_eq_none h1] at h; cases h
  have hxi : B[i] = x := by rw [List.getElem?_eq_getElem hi] at h; injection h
  have hxm : x ∈ B := List.mem_of_getElem? h
  have hpw := List.pairwise_iff_getElem.1 M.nd
  have hfar : ∀ j (hj : j < B.length), j ≠ i → ∀ g ∈ B[j].fp, ¬ g ∈ x.fp := by
    intro j hj hne g h1 h2
    rcases Nat.lt_or_gt_of_ne hne with hlt | hlt
    · have := hpw j i hj hi hlt g h1
      rw [hxi] at this
      exact this h2
    · have := hpw i j hi hj hlt g (by rw [hxi]; exact h2)
      exact this h1
  have hbase : ∀ y ∈ B, ∀ g ∈ y.base, ¬ g ∈ x.fp := fun y hy g h1 h2 => by
    have h3 := M.far y hy g h1
    rcases M.own x hxm g h2 with h4 | h4
    · omega
    · exact h3.2 h4
  have hnew : ∀ j (hj : j < B.length), j ≠ i → ∀ g ∈ B[j].fp, ¬ g ∈ x'.fp := fun j hj hne g h1 h2 => by
    rcases hs g h2 with h3 | h3
    · exact hfar j hj hne g h1 h3
    · have := Ent.lt (M.has _ (List.getElem_mem hj)) g h1
      omega
  refine ⟨M.out.trans hg (fun g hg => M.own x hxm g hg), fun y hy => ?_, fun y hy g hyg => ?_, fun y hy g hyg => ?_, ?_⟩
  · obtain ⟨j, hj, rfl⟩ := List.mem_iff_getElem.1 hy
    rw [List.getElem_set]
    split
    · exact hx
    · rename_i hne
      simp only [List.length_set] at hj
      exact Ent.kept (M.has _ (List.getElem_mem hj)) hg (hfar j hj (fun e => hne e.symm)) (hbase _ (List.getElem_mem hj))
  · obtain ⟨j, hj, rfl⟩ := List.mem_iff_getElem.1 hy
    rw [List.getElem_set] at hyg
    split at hyg
    · rcases hs g hyg with h1 | h1
      · exact M.own x hxm g h1
      · exact .inl (Nat.le_trans M.size h1)
    · simp only [List.length_set] at hj
      exact M.own _ (List.getElem_mem hj) g hyg
  · obtain ⟨j, hj, rfl⟩ := List.mem_iff_getElem.1 hy
    rw [List.getElem_set] at hyg
    split at hyg
    · exact hba g hyg
    · simp only [List.length_set] at hj
      exact M.far _ (List.getElem_mem hj) g hyg
  · rw [List.pairwise_iff_getElem]
    intro j k hj hk hlt
    simp only [List.length_set] at hj hk
    rw [List.getElem_set, List.getElem_set]
    split
    · rename_i e1
      subst e1
      rw [if_neg (by omega)]
      exact fun g h1 h2 => hnew k hk (by omega) g h2 h1
    · split
      · rename_i e2
        subst e2
        exact hnew j hj (by omega)
      · exact hpw j k hj hk hlt
theorem Mm.recast {X Y : List Ent} (M : Mm R w0 w (X ++ B)) (h : ∀ y ∈ Y, y.at w) (hf : ∀ y ∈ Y, ∀ g ∈ y.fp, ∃ x ∈ X, g ∈ x.fp) (hn : Y.Pairwise (fun x y => ∀ g ∈ x.fp, ¬ g ∈ y.fp)) (hb : ∀ y ∈ Y, ∀ g ∈ y.base, ∃ x ∈ X, g ∈ x.base) : Mm R w0 w (Y ++ B) := by
  have hpw := List.pairwise_append.1 M.nd
  refine ⟨M.out, fun y hy => ?_, fun y hy g hg => ?_, fun y hy g hg => ?_, List.pairwise_append.2 ⟨hn, hpw.2.1, fun y hy z hz g hg hgz => ?_⟩⟩
  · rcases List.mem_append.1 hy with h1 | h1
    · exact h y h1
    · exact M.has y (List.mem_append.2 (.inr h1))
  · rcases List.mem_append.1 hy with h1 | h1
    · obtain ⟨x, hx, hgx⟩ := hf y h1 g hg
      exact M.own x (List.mem_append.2 (.inl hx)) g hgx
    · exact M.own y (List.mem_append.2 (.inr h1)) g hg
  · rcases List.mem_append.1 hy with h1 | h1
    · obtain ⟨x, hx, hgx⟩ := hb y h1 g hg
      exact M.far x (List.mem_append.2 (.inl hx)) g hgx
    · exact M.far y (List.mem_append.2 (.inr h1)) g hg
  · obtain ⟨x, hx, hgx⟩ := hf y hy g hg
    exact hpw.2.2 x hx z hz g hgx hgz
theorem Mm.perm {B' : List Ent} (M : Mm R w0 w B) (hp : B.Perm B') : Mm R w0 w B' :=
  ⟨M.out, fun x hx => M.has x (hp.mem_iff.2 hx), fun x hx => M.own x (hp.mem_iff.2 hx), fun x hx => M.far x (hp.mem_iff.2 hx), (hp.pairwise_iff (fun {x y} h g h1 h2 => h g h2 h1)).1 M.nd⟩
theorem Mm.setRow (M : Mm R w0 w B) {i g : Nat} {t : TypeId} {cs : Array Value} (h : B[i]? = some (.blk g t cs)) (cs' : Array Value) : Mm R w0 (w.setRow g cs') (B.set i (.blk g t cs')) :=
  M.swap h (x' := .blk g t cs') ⟨rfl, rfl, rfl, by simp, fun k _ hk => by
    have hne : g ≠ k := fun e => hk (by rw [e]; simp [Ent.fp])
    simp [World.setRow, Array.getElem?_modify, hne]⟩ ((M.at h).row _) (fun g h => .inl h) (fun g h => by cases h)
theorem Mm.addArg (M : Mm R w w B) (h : RdV w m v n xs) (hf : 0 < n → ¬ gof v ∈ R) : Mm R w w (.arg m v n xs :: B) :=
  M.add (Below.refl _ _) (x := .arg m v n xs) h (fun g hg => by cases hg) (fun g hg => by
    simp only [Ent.base] at hg
    split at hg
    · cases hg
    · simp only [List.mem_singleton] at hg
      subst hg
      obtain ⟨_, _, _, _, h1, _⟩ := h.form (by omega)
      exact ⟨h1, hf (by omega)⟩)
theorem Mm.addExt (M : Mm R w w B) (h : Φ w) (hL : Loc fp Φ) (hf : ∀ g ∈ fp, ¬ g ∈ R) : Mm R w w (.ext fp Φ :: B) :=
  M.add (Below.refl _ _) (x := .ext fp Φ) ⟨h, hL⟩ (fun g hg => by cases hg) (fun g hg => ⟨hL.lt h g hg, hf g hg⟩)
theorem Mm.addR (M : Mm R w w B) {x : Ent} (h : x.at w) (hg : ∀ g ∈ x.fp, g ∈ R) (hb : x.base = []) (hn : ∀ y ∈ B, ∀ g ∈ x.fp, ¬ g ∈ y.fp) : Mm R w w (x :: B) := by
  refine ⟨M.out, fun y hy => ?_, fun y hy g' hg' => ?_, fun y hy g' hg' => ?_, List.pairwise_cons.2 ⟨fun y hy => hn y hy, M.nd⟩⟩
  · rcases List.mem_cons.1 hy with rfl | h'
    · exact h
    · exact M.has y h'
  · rcases List.mem_cons.1 hy with rfl | h'
    · exact .inr (hg g' hg')
    · exact M.own y h' g' hg'
  · rcases List.mem_cons.1 hy with rfl | h'
    · rw [hb] at hg'; cases hg'
    · exact M.far y h' g' hg'
theorem Mm.addX (M : Mm R w w B) {g : Nat} {t : TypeId} {cs : Array Value} (h : Blk w g t cs) (hg : g ∈ R) (hn : ∀ x ∈ B, ¬ g ∈ x.fp) : Mm R w w (.blk g t cs :: B) :=
  M.addR (x := .blk g t cs) h (fun k hk => by simp only [Ent.fp, List.mem_singleton] at hk; exact hk ▸ hg) rfl (fun y hy k hk => by simp only [Ent.fp, List.mem_singleton] at hk; exact hk ▸ hn y hy)
theorem Mm.addOwn (M : Mm R w0 w B) (hb : Below w.heap.size w w') (h : Φ w') (hL : Loc fp Φ) (hf : ∀ g ∈ fp, w.heap.size ≤ g) : Mm R w0 w' (.own fp Φ :: B) :=
  M.add hb (x := .own fp Φ) ⟨h, hL⟩ hf (fun g hg => by cases hg)
theorem Out.blk {g : Nat} {t : TypeId} {cs : Array Value} (h : Out R w w') (hb : Blk w g t cs) (hg : ¬ g ∈ R) : Blk w' g t cs := (h.block g hb.lt hg).trans hb
theorem Mm.drew (M : Mm R w0 w B) : Mm R w0 w.drew B := M.below (Below.refl _ _).drew
theorem Mm.sub (M : Mm R w0 w B) {B' : List Ent} (h : B'.Sublist B) : Mm R w0 w B' := ⟨M.out, fun x hx => M.has x (h.subset hx), fun x hx => M.own x (h.subset hx), fun x hx => M.far x (h.subset hx), M.nd.sublist h⟩
end
section
variable {P : Program} {ops : List Oper} {o oj : Oper} {a : Act} {n : Nat} {L : List (Nat × Value)}
theorem wt0 {ops : Array Oper} (h : o.guard = none) : Region.wanted o (yielded ops a.tmps) = true := by simp [Region.wanted, h]
theorem wt1 (F : Fr a n L) {j d : Nat} {b : Bool} (hg : o.guard = some (j, b)) (hj : ops[j]? = some oj) (hd : oj.dst = some d) (hv : look L d = some (.bool b)) (hn : Nat.blt d n = true) : Region.wanted o (yielded ops.toArray a.tmps) = true := by
  have hlt : d < n := Nat.le_of_ble_eq_true hn
  have hs := F.size
  have ht := F.get hv
  simp only [Array.getD_eq_getD_getElem?] at ht
  rw [Array.getElem?_eq_getElem (by omega)] at ht
  simp only [Option.getD_some] at ht
  simp [Region.wanted, hg, yielded, hj, hd, Array.getElem?_eq_getElem (show d < a.tmps.size by omega), ht]
theorem wtn (F : Fr a n L) {j d : Nat} {b : Bool} (hg : o.guard = some (j, b)) (hj : ops[j]? = some oj) (hd : oj.dst = some d) (hv : look L d = some (.bool !b)) (hn : Nat.blt d n = true) : Region.wanted o (yielded ops.toArray a.tmps) = false := by
  have hlt : d < n := Nat.le_of_ble_eq_true hn
  have hs := F.size
  have ht := F.get hv
  simp only [Array.getD_eq_getD_getElem?] at ht
  rw [Array.getElem?_eq_getElem (by omega)] at ht
  simp only [Option.getD_some] at ht
  simp [Region.wanted, hg, yielded, hj, hd, Array.getElem?_eq_getElem (show d < a.tmps.size by omega), ht]
theorem wtu (F : Fr a n L) {j d : Nat} {b : Bool} (hg : o.guard = some (j, b)) (hj : ops[j]? = some oj) (hd : oj.dst = some d) (hv : look L d = some undef) (hn : Nat.blt d n = true) : Region.wanted o (yielded ops.toArray a.tmps) = false := by
  have hlt : d < n := Nat.le_of_ble_eq_true hn
  have hs := F.size
  have ht := F.get hv
  simp only [Array.getD_eq_getD_getElem?] at ht
  rw [Array.getElem?_eq_getElem (by omega)] at ht
  simp only [Option.getD_some] at ht
  simp [Region.wanted, hg, yielded, hj, hd, Array.getElem?_eq_getElem (show d < a.tmps.size by omega), ht, undef]
end
def Pure (P : Program) (o : Oper) (a : Act) (v : Value) : Prop := ∀ w, (execOp a.eval o).run P w = .ok (.value v) w
section
variable {P : Program} {o : Oper} {a : Act} {x y c : Operand} {v u : Value}
theorem pu_move (ho : o.op = .move x) (hx : a.eval x = v) : Pure P o a v := fun w => by simp [execOp, ho, hx]
theorem pu_assign (ho : o.op = .assign x) (hx : a.eval x = v) : Pure P o a v := fun w => by simp [execOp, ho, hx]
theorem pu_pickt (ho : o.op = .pick c x y) (hc : a.eval c = .bool true) (hx : a.eval x = v) : Pure P o a v := fun w => by simp only [execOp, ho, hx, hc]; simp [go_sem]
theorem pu_pickf (ho : o.op = .pick c x y) (hc : a.eval c = .bool false) (hy : a.eval y = v) : Pure P o a v := fun w => by simp only [execOp, ho, hy, hc]; simp [go_sem]
theorem pu_not {t : TypeId} {b : Bool} (ho : o.op = .unOp .not t x) (hx : a.eval x = .bool b) : Pure P o a (.bool !b) := fun w => by simp only [execOp, ho, hx]; simp [go_sem]
section
variable {t t' : TypeId} {k : IntKind} {i j : Int}
theorem pu_lss (ho : o.op = .binOp .lss t x y t') (hx : a.eval x = .int k i) (hy : a.eval y = .int k j) : Pure P o a (.bool (decide (i < j))) := fun w => by simp only [execOp, ho, hx, hy]; simp [go_sem]
theorem pu_leq (ho : o.op = .binOp .leq t x y t') (hx : a.eval x = .int k i) (hy : a.eval y = .int k j) : Pure P o a (.bool (decide (i ≤ j))) := fun w => by simp only [execOp, ho, hx, hy]; simp [go_sem]
theorem pu_gtr (ho : o.op = .binOp .gtr t x y t') (hx : a.eval x = .int k i) (hy : a.eval y = .int k j) : Pure P o a (.bool (decide (j < i))) := fun w => by simp only [execOp, ho, hx, hy]; simp [go_sem]
theorem pu_geq (ho : o.op = .binOp .geq t x y t') (hx : a.eval x = .int k i) (hy : a.eval y = .int k j) : Pure P o a (.bool (decide (j ≤ i))) := fun w => by simp only [execOp, ho, hx, hy]; simp [go_sem]
theorem pu_eqlI (ho : o.op = .binOp .eql t x y t') (hx : a.eval x = .int k i) (hy : a.eval y = .int k j) : Pure P o a (.bool (decide (i = j))) := fun w => by simp only [execOp, ho, hx, hy]; simp [go_sem]; rfl
theorem pu_neqI (ho : o.op = .binOp .neq t x y t') (hx : a.eval x = .int k i) (hy : a.eval y = .int k j) : Pure P o a (.bool (!decide (i = j))) := fun w => by simp only [execOp, ho, hx, hy]; simp [go_sem]; rfl
theorem pu_add (ho : o.op = .binOp .add t x y t') (hx : a.eval x = .int .i64 i) (hy : a.eval y = .int .i64 j) (h1 : -9223372036854775808 ≤ i + j) (h2 : i + j ≤ 9223372036854775807) : Pure P o a (.int .i64 (i + j)) := fun w => by
  simp only [execOp, ho, hx, hy]; simp [go_sem, IntWalk.i64_in _ ⟨h1, h2⟩]
theorem pu_sub (ho : o.op = .binOp .sub t x y t') (hx : a.eval x = .int .i64 i) (hy : a.eval y = .int .i64 j) (h1 : -9223372036854775808 ≤ i - j) (h2 : i - j ≤ 9223372036854775807) : Pure P o a (.int .i64 (i - j)) := fun w => by
  simp only [execOp, ho, hx, hy]; simp [go_sem, IntWalk.i64_in _ ⟨h1, h2⟩]
end
theorem pu_eqlB {t t' : TypeId} {b b' : Bool} (ho : o.op = .binOp .eql t x y t') (hx : a.eval x = .bool b) (hy : a.eval y = .bool b') (ht : P.underlying t = some .bool) : Pure P o a (.bool (b == b')) := fun w => by
  simp only [execOp, ho, hx, hy]; simp [go_sem, ht]
theorem pu_eqlP {t t' e : TypeId} {ad : Addr} (ho : o.op = .binOp .eql t x y t') (hx : a.eval x = .pointer (some ad)) (hy : a.eval y = .pointer none) (ht : P.underlying t = some (.pointer e)) : Pure P o a (.bool false) := fun w => by
  simp only [execOp, ho, hx, hy]; simp [go_sem, ht]
theorem pu_neqP {t t' e : TypeId} {ad : Addr} (ho : o.op = .binOp .neq t x y t') (hx : a.eval x = .pointer (some ad)) (hy : a.eval y = .pointer none) (ht : P.underlying t = some (.pointer e)) : Pure P o a (.bool true) := fun w => by
  simp only [execOp, ho, hx, hy]; simp [go_sem, ht]
theorem pu_neqB {t t' : TypeId} {b b' : Bool} (ho : o.op = .binOp .neq t x y t') (hx : a.eval x = .bool b) (hy : a.eval y = .bool b') (ht : P.underlying t = some .bool) : Pure P o a (.bool (b != b')) := fun w => by
  simp only [execOp, ho, hx, hy]; simp [go_sem, ht]; cases b <;> cases b' <;> rfl
theorem pu_eqlA {t t' : TypeId} {xs ys : Array Value} {b : Bool} (ho : o.op = .binOp .eql t x y t') (hx : a.eval x = .agg xs) (hy : a.eval y = .agg ys) (hg : P.eqGuardType P.depth t = false) (he : ∀ w, (Op.equalIn 10000 t (.agg xs) (.agg ys)).run P w = .ok b w) : Pure P o a (.bool b) := fun w => by
  simp only [execOp, ho, hx, hy]; simp [go_sem, hg, he]
theorem pu_neqA {t t' : TypeId} {xs ys : Array Value} {b : Bool} (ho : o.op = .binOp .neq t x y t') (hx : a.eval x = .agg xs) (hy : a.eval y = .agg ys) (hg : P.eqGuardType P.depth t = false) (he : ∀ w, (Op.equalIn 10000 t (.agg xs) (.agg ys)).run P w = .ok b w) : Pure P o a (.bool !b) := fun w => by
  simp only [execOp, ho, hx, hy]; simp [go_sem, hg, he]
def fieldOff (P : Program) (s : TypeId) (f : Nat) : Option Nat :=
  match P.underlying s with
  | some (.struct fs) => match fs[f]? with
    | some fd => match P.info? fd.type with
      | some i => if i.size = 0 then none else some fd.offset
      | none => none
    | none => none
  | _ => none
theorem pu_field {s : TypeId} {f g k q : Nat} (ho : o.op = .fieldAddr s x f) (hx : a.eval x = .pointer (some ⟨g, k, none⟩)) (hf : fieldOff P s f = some q) : Pure P o a (.pointer (some ⟨g, k + q, none⟩)) := fun w => by
  unfold fieldOff at hf
  split at hf
  · rename_i fs hs
    split at hf
    · rename_i fd hfd
      split at hf
      · rename_i i hi
        split at hf
        · cases hf
        · rename_i hz
          injection hf with hf
          simp only [execOp, ho, hx]; simp [go_sem, Instr.fieldAt, run_underlying hs, hfd, sizeOf, typeInfo, hi, hz, hf]
      · cases hf
    · cases hf
  · cases hf
theorem pu_nilCheck {ad : Addr} (ho : o.op = .nilCheck x) (hx : a.eval x = .pointer (some ad)) : Pure P o a (.pointer (some ad)) := fun w => by
  simp only [execOp, ho, hx]; simp
theorem pu_extract {vs : Array Value} {i : Nat} (ho : o.op = .extract x i) (hx : a.eval x = .tuple vs) (hv : vs[i]? = some v) : Pure P o a v := fun w => by simp only [execOp, ho, hx]; simp [go_sem, Instr.extract, hv]
end
def Rdy (P : Program) (o : Oper) (a : Act) (C : World → Prop) (v : Value) : Prop := ∀ w, C w → (execOp a.eval o).run P w = .ok (.value v) w
def AggTy (P : Program) (ty : TypeId) (m : Nat) : Prop := ∃ d, P.underlying ty = some d ∧ d.isRow = true ∧ (P.info? ty).map (·.size) = some m
def OneTy (P : Program) (ty : TypeId) : Prop := ∃ d, P.underlying ty = some d ∧ (match d with | .struct _ | .array _ _ => true | _ => false) = false
section
variable {P : Program} {o : Oper} {a : Act} {x y : Operand} {v : Value} {C : World → Prop} {ty t : TypeId} {g k m : Nat} {cs : Array Value}
theorem Pure.rdy (h : Pure P o a v) : Rdy P o a C v := fun w _ => h w
theorem Mm.rd {R : List Nat} {w0 w : World} {B : List Ent} (M : Mm R w0 w B) {i : Nat} (h : B[i]? = some (.blk g t cs)) : ∀ w', w' = w → Blk w' g t cs := fun _ e => e ▸ M.at h
theorem Mm.rdB {R : List Nat} {w0 w : World} {B : List Ent} (M : Mm R w0 w B) {i : Nat} (h : B[i]? = some (.blk g t cs)) : ∀ w', Below w.heap.size w w' → Blk w' g t cs := fun _ e => (M.at h).below e (M.at h).lt
theorem ld_agg (ho : o.op = .load ty x) (hx : a.eval x = .pointer (some ⟨g, 0, none⟩)) (hT : AggTy P ty m) (hb : ∀ w, C w → Blk w g t cs) (hm : cs.size = m) : Rdy P o a C (.agg cs) := fun w hC => by
  obtain ⟨d, hu, hd, hi⟩ := hT
  have hc : w.rangeAt g 0 cs.toList := fun j v hv => by
    rw [Nat.zero_add, (hb w hC).cell]
    simpa using hv
  simp only [execOp, ho, hx]
  simp only [Sem.run_bind, run_loadAt_mid w g 0 ty cs.toList d hc hu hd (by rw [hi]; simp [hm])]
  simp
theorem ld_at (ho : o.op = .load ty x) {p : Addr} (hx : a.eval x = .pointer (some p)) (hT : OneTy P ty) (hc : ∀ w, C w → w.cell? p = some v) : Rdy P o a C v := fun w hC => by
  obtain ⟨d, hu, hd⟩ := hT
  have hagg : (isAgg ty).run P w = .ok false w := by
    unfold isAgg
    rw [Sem.run_bind, run_underlying hu w]
    cases d <;> simp_all
  simp only [execOp, ho, hx]
  simp [Instr.loadAt, Instr.sureAddr, loadVar, hagg, hc w hC]
theorem ld_cell (ho : o.op = .load ty x) (hx : a.eval x = .pointer (some ⟨g, k, none⟩)) (hT : OneTy P ty) (hb : ∀ w, C w → Blk w g t cs) (hc : cs[k]? = some v) : Rdy P o a C v :=
  ld_at ho hx hT fun w hC => by rw [(hb w hC).cell, hc]
end
section
variable {P : Program} {ops rest : List Oper} {o : Oper} {a : Act} {n d : Nat} {L : List (Nat × Value)} {Q : Exit → Act → World → Prop} {R : List Nat} {w w0 : World} {B : List Ent} {v : Value} {x y : Operand}
theorem sq_rd (F : Fr a n L) (hw : Region.wanted o (yielded ops.toArray a.tmps) = true) (hp : Rdy P o a (fun w' => w' = w) v) (hd : o.dst = some d) (hdn : Nat.blt d n = true)
    (h : ∀ a', Fr a' n ((d, v) :: L) → wpList P ops.toArray Q rest a' w) : wpList P ops.toArray Q (o :: rest) a w :=
  wpList_step fun K hK => by
    rw [if_pos hw]
    unfold Oper.wp
    rw [hp w rfl]
    exact hK _ _ (by rw [hd]; exact h _ (F.put hdn))
theorem sq_pure (F : Fr a n L) (hw : Region.wanted o (yielded ops.toArray a.tmps) = true) (hp : Pure P o a v) (hd : o.dst = some d) (hdn : Nat.blt d n = true)
    (h : ∀ a', Fr a' n ((d, v) :: L) → wpList P ops.toArray Q rest a' w) : wpList P ops.toArray Q (o :: rest) a w := sq_rd F hw hp.rdy hd hdn h
theorem sq_skip (F : Fr a n L) (hw : Region.wanted o (yielded ops.toArray a.tmps) = false) (hd : o.dst = some d) (hdn : Nat.blt d n = true)
    (h : ∀ a', Fr a' n ((d, undef) :: L) → wpList P ops.toArray Q rest a' w) : wpList P ops.toArray Q (o :: rest) a w :=
  wpList_step fun K hK => by
    rw [if_neg (by rw [hw]; decide)]
    exact hK _ _ (by rw [hd]; exact h _ (F.put hdn))
theorem sq_call (F : Fr a n L) (M : Mm R w0 w B) (hw : Region.wanted o (yielded ops.toArray a.tmps) = true) {f : FuncId} {xs : List Operand} {ts : Array TypeId} {args : List Value} (ho : o.op = .call { callee := .value (.func f), args := xs.toArray, argTypes := ts })
    (he : enters P f = true) (ha : xs.map a.eval = args) (hc : Calls P f args.toArray w fun e w' => e = .returned v ∧ Below w.heap.size w w') (hd : o.dst = some d) (hdn : Nat.blt d n = true)
    (h : ∀ a' w', Fr a' n ((d, v) :: L) → Mm R w0 w' B → wpList P ops.toArray Q rest a' w') : wpList P ops.toArray Q (o :: rest) a w :=
  wpList_step fun K hK => by
    rw [if_pos hw]
    unfold Oper.wp
    rw [run_enter he ho w, List.map_toArray, ha]
    refine hc.mono fun e w' ⟨h1, h2⟩ => ?_
    subst h1
    exact hK _ _ (by rw [hd]; exact h _ _ (F.put hdn) (M.below h2))
theorem sq_callR (F : Fr a n L) (hw : Region.wanted o (yielded ops.toArray a.tmps) = true) {f : FuncId} {xs : List Operand} {ts : Array TypeId} {args : List Value} {R : Ending → World → Prop} (ho : o.op = .call { callee := .value (.func f), args := xs.toArray, argTypes := ts })
    (he : enters P f = true) (ha : xs.map a.eval = args) (hc : Calls P f args.toArray w R) (hd : o.dst = some d) (hdn : Nat.blt d n = true)
    (h : ∀ e w', R e w' → ∃ v, e = .returned v ∧ ∀ a', Fr a' n ((d, v) :: L) → wpList P ops.toArray Q rest a' w') : wpList P ops.toArray Q (o :: rest) a w :=
  wpList_step fun K hK => by
    rw [if_pos hw]
    unfold Oper.wp
    rw [run_enter he ho w, List.map_toArray, ha]
    refine hc.mono fun e w' hR => ?_
    obtain ⟨v, rfl, h2⟩ := h e w' hR
    exact hK _ _ (by rw [hd]; exact h2 _ (F.put hdn))
theorem sq_callE (F : Fr a n L) (M : Mm R w0 w B) (hw : Region.wanted o (yielded ops.toArray a.tmps) = true) {f : FuncId} {xs : List Operand} {ts : Array TypeId} {args : List Value} {Z : Value → World → Prop} (ho : o.op = .call { callee := .value (.func f), args := xs.toArray, argTypes := ts })
    (he : enters P f = true) (ha : xs.map a.eval = args) (hc : Calls P f args.toArray w fun e w' => ∃ v, e = .returned v ∧ Below w.heap.size w w' ∧ Z v w') (hd : o.dst = some d) (hdn : Nat.blt d n = true)
    (h : ∀ a' w' v, Below w.heap.size w w' → Z v w' → Fr a' n ((d, v) :: L) → Mm R w0 w' B → wpList P ops.toArray Q rest a' w') : wpList P ops.toArray Q (o :: rest) a w :=
  sq_callR F hw ho he ha hc hd hdn fun e w' hR => by
    obtain ⟨v, h1, h2, h3⟩ := hR
    exact ⟨v, h1, fun a' F' => h a' w' v h2 h3 F' (M.below h2)⟩
theorem Mm.addRow (M : Mm R w0 w B) {w' : World} (hb : Below w.heap.size w w') {t : TypeId} {m k : Nat} {xs : List Value} (h : w'.ownsRow w.heap.size t m v k xs) : Mm R w0 w' (.row t m v k xs :: B) :=
  M.add hb (x := .row t m v k xs) (own_zero h) (fun g hg => (World.ownsRow.lt h g (by simpa [Ent.fp] using hg)).1) (fun g hg => by cases hg)
theorem Mm.owB (M : Mm [] w0 w B) {i : Nat} {t : TypeId} {m k : Nat} {xs : List Value} (h : B[i]? = some (.row t m v k xs)) : w.ownsRow w0.heap.size t m v k xs := by
  have h1 := M.ow h
  refine ⟨h1.1, ?_⟩
  rcases h1.2 with h2 | ⟨g, cap, cur, h2, _, h3⟩
  · exact .inl h2
  · refine .inr ⟨g, cap, cur, h2, ?_, h3⟩
    rcases M.own _ (List.mem_of_getElem? h) g (by subst h2; simp [Ent.fp, Value.ownBlock]) with h4 | h4
    · exact h4
    · cases h4
theorem sq_callN (F : Fr a n L) (M : Mm R w0 w B) (hw : Region.wanted o (yielded ops.toArray a.tmps) = true) {f : FuncId} {xs : List Operand} {ts : Array TypeId} {args : List Value} {t : TypeId} {m k : Nat} {cs : List Value} (ho : o.op = .call { callee := .value (.func f), args := xs.toArray, argTypes := ts })
    (he : enters P f = true) (ha : xs.map a.eval = args) (hc : Calls P f args.toArray w fun e w' => ∃ v, e = .returned v ∧ Below w.heap.size w w' ∧ w'.ownsRow w.heap.size t m v k cs) (hd : o.dst = some d) (hdn : Nat.blt d n = true)
    (h : ∀ a' w' v, Fr a' n ((d, v) :: L) → Mm R w0 w' (.row t m v k cs :: B) → wpList P ops.toArray Q rest a' w') : wpList P ops.toArray Q (o :: rest) a w :=
  sq_callR F hw ho he ha hc hd hdn fun e w' hR => by
    obtain ⟨v, h1, h2, h3⟩ := hR
    exact ⟨v, h1, fun a' F' => h a' w' v F' (M.addRow h2 h3)⟩
theorem sq_callO (F : Fr a n L) (M : Mm R w0 w B) (hw : Region.wanted o (yielded ops.toArray a.tmps) = true) {f : FuncId} {xs : List Operand} {ts : Array TypeId} {args : List Value} {Z : Value → Ent → Prop} (ho : o.op = .call { callee := .value (.func f), args := xs.toArray, argTypes := ts })
    (he : enters P f = true) (ha : xs.map a.eval = args) (hc : Calls P f args.toArray w fun e w' => ∃ v x, e = .returned v ∧ Below w.heap.size w w' ∧ x.at w' ∧ (∀ g ∈ x.fp, w.heap.size ≤ g) ∧ x.base = [] ∧ Z v x) (hd : o.dst = some d) (hdn : Nat.blt d n = true)
    (h : ∀ a' w' v x, Z v x → Fr a' n ((d, v) :: L) → Mm R w0 w' (x :: B) → wpList P ops.toArray Q rest a' w') : wpList P ops.toArray Q (o :: rest) a w :=
  sq_callR F hw ho he ha hc hd hdn fun e w' hR => by
    obtain ⟨v, x, h1, h2, h3, h4, h5, h6⟩ := hR
    exact ⟨v, h1, fun a' F' => h a' w' v x h6 F' (M.add h2 h3 h4 (fun g hg => by rw [h5] at hg; cases hg))⟩
theorem sq_callT (F : Fr a n L) (M : Mm R w0 w B) (hw : Region.wanted o (yielded ops.toArray a.tmps) = true) {f : FuncId} {xs : List Operand} {ts : Array TypeId} {args : List Value} {i : Nat} {x : Ent} {Z : Value → Ent → Prop} (ho : o.op = .call { callee := .value (.func f), args := xs.toArray, argTypes := ts })
    (he : enters P f = true) (ha : xs.map a.eval = args) (hi : B[i]? = some x) (hc : Calls P f args.toArray w fun e w' => ∃ v x', e = .returned v ∧ Out x.fp w w' ∧ x'.at w' ∧ (∀ g ∈ x'.fp, g ∈ x.fp ∨ w.heap.size ≤ g) ∧ x'.base = [] ∧ Z v x') (hd : o.dst = some d) (hdn : Nat.blt d n = true)
    (h : ∀ a' w' v x', Z v x' → Fr a' n ((d, v) :: L) → Mm R w0 w' (B.set i x') → wpList P ops.toArray Q rest a' w') : wpList P ops.toArray Q (o :: rest) a w :=
  sq_callR F hw ho he ha hc hd hdn fun e w' hR => by
    obtain ⟨v, x', h1, h2, h3, h4, h5, h6⟩ := hR
    exact ⟨v, h1, fun a' F' => h a' w' v x' h6 F' (M.swap hi h2 h3 h4 (fun g hg => by rw [h5] at hg; cases hg))⟩
theorem sq_box (F : Fr a n L) (M : Mm R w0 w B) (hw : Region.wanted o (yielded ops.toArray a.tmps) = true) {t : TypeId} (ho : o.op = .box t x) (hx : a.eval x = v) {cs : Array Value} (hcs : v.cells = cs) (hd : o.dst = some d) (hdn : Nat.blt d n = true)
    (h : ∀ a' w' g, Fr a' n ((d, .pointer (some ⟨g, 0, none⟩)) :: L) → Mm R w0 w' (.blk g t cs :: B) → wpList P ops.toArray Q rest a' w') : wpList P ops.toArray Q (o :: rest) a w :=
  wpList_step fun K hK => by
    rw [if_pos hw]
    have hr : (execOp a.eval o).run P w = .ok (.value (.pointer (some ⟨w.heap.size, 0, none⟩))) (w.alloc (.cells cs t)) := by
      simp only [execOp, ho, hx]
      simp [Instr.box, newVar, newRow, go_sem]
      rw [← hcs]
      rfl
    unfold Oper.wp
    rw [hr]
    exact hK _ _ (by rw [hd]; exact h _ _ _ (F.put hdn) (M.alloc t cs))
theorem sq_alloc (F : Fr a n L) (M : Mm R w0 w B) (hw : Region.wanted o (yielded ops.toArray a.tmps) = true) {t : TypeId} (ho : o.op = .alloc t) {cs : Array Value} (hz : (P.info? t).map (fun i => i.zero.map (·.cells)) = some (some cs)) (hd : o.dst = some d) (hdn : Nat.blt d n = true)
    (h : ∀ a' w' g, Fr a' n ((d, .pointer (some ⟨g, 0, none⟩)) :: L) → Mm R w0 w' (.blk g t cs :: B) → wpList P ops.toArray Q rest a' w') : wpList P ops.toArray Q (o :: rest) a w :=
  wpList_step fun K hK => by
    rw [if_pos hw]
    have hr : (execOp a.eval o).run P w = .ok (.value (.pointer (some ⟨w.heap.size, 0, none⟩))) (w.alloc (.cells cs t)) := by
      cases hq : P.info? t with
      | none => simp [hq] at hz
      | some i =>
        simp only [hq, Option.map_some, Option.some.injEq] at hz
        obtain ⟨z, hz1, hz2⟩ := Option.map_eq_some_iff.1 hz
        simp [execOp, ho, Instr.alloc, zeroValue, typeInfo, hq, hz1, newVar, newRow, go_sem]
        rw [← hz2]
        rfl
    unfold Oper.wp
    rw [hr]
    exact hK _ _ (by rw [hd]; exact h _ _ _ (F.put hdn) (M.alloc t cs))
theorem sq_stA (F : Fr a n L) (M : Mm R w0 w B) (hw : Region.wanted o (yielded ops.toArray a.tmps) = true) {t ty : TypeId} {g i : Nat} {cs cs' : Array Value} (ho : o.op = .store ty x y) (hx : a.eval x = .pointer (some ⟨g, 0, none⟩)) (hy : a.eval y = .agg cs')
    (hi : B[i]? = some (.blk g t cs)) {m : Nat} (hT : AggTy P ty m) (hm : cs.size = m) (hm' : cs'.size = m) (h1 : cs'.toList.all (·.oneCell') = true) (hd : o.dst = none)
    (h : ∀ w', Mm R w0 w' (B.set i (.blk g t cs')) → wpList P ops.toArray Q rest a w') : wpList P ops.toArray Q (o :: rest) a w :=
  wpList_step fun K hK => by
    rw [if_pos hw]
    obtain ⟨_, _, _, hi'⟩ := hT
    have _ := F.size
    exact wp_store_row ty x y ho g cs' hx hy t cs (M.at hi) (by rw [hi', hm']) (by rw [hm, hm']) (by simpa using h1) (hK _ _ (by rw [hd]; exact h _ (M.setRow hi cs')))
end
section
variable {P : Program} {ops rest : List Oper} {o : Oper} {a : Act} {n d : Nat} {L : List (Nat × Value)} {Q : Act → Prop} {C : World → Prop} {v : Value}
theorem qt_rd (F : Fr a n L) (hw : Region.wanted o (yielded ops.toArray a.tmps) = true) (hp : Rdy P o a C v) (hd : o.dst = some d) (hdn : Nat.blt d n = true)
    (h : ∀ a', Fr a' n ((d, v) :: L) → wpQuiet P ops.toArray C Q rest a') : wpQuiet P ops.toArray C Q (o :: rest) a :=
  wpQuiet_step fun K hK => by
    rw [if_pos hw]
    refine ⟨v, fun w hC => ?_, hK _ (by rw [hd]; exact h _ (F.put hdn))⟩
    unfold Oper.quietAt
    rw [hp w hC]
    exact ⟨rfl, rfl⟩
theorem qt_pure (F : Fr a n L) (hw : Region.wanted o (yielded ops.toArray a.tmps) = true) (hp : Pure P o a v) (hd : o.dst = some d) (hdn : Nat.blt d n = true)
    (h : ∀ a', Fr a' n ((d, v) :: L) → wpQuiet P ops.toArray C Q rest a') : wpQuiet P ops.toArray C Q (o :: rest) a := qt_rd F hw hp.rdy hd hdn h
theorem qt_skip (F : Fr a n L) (hw : Region.wanted o (yielded ops.toArray a.tmps) = false) (hd : o.dst = some d) (hdn : Nat.blt d n = true)
    (h : ∀ a', Fr a' n ((d, undef) :: L) → wpQuiet P ops.toArray C Q rest a') : wpQuiet P ops.toArray C Q (o :: rest) a :=
  wpQuiet_step fun K hK => by
    rw [if_neg (by rw [hw]; decide)]
    exact hK _ (by rw [hd]; exact h _ (F.put hdn))
theorem qt_call (F : Fr a n L) (hw : Region.wanted o (yielded ops.toArray a.tmps) = true) {f : FuncId} {xs : List Operand} {ts : Array TypeId} {args : List Value} (ho : o.op = .call { callee := .value (.func f), args := xs.toArray, argTypes := ts })
    (he : enters P f = true) (ha : xs.map a.eval = args) (hc : ∀ w, C w → Calls P f args.toArray w fun e w' => e = .returned v ∧ C w') (hd : o.dst = some d) (hdn : Nat.blt d n = true)
    (h : ∀ a', Fr a' n ((d, v) :: L) → wpQuiet P ops.toArray C Q rest a') : wpQuiet P ops.toArray C Q (o :: rest) a :=
  q_call hw f xs ts ho he args ha v hc (by rw [hd]; exact h _ (F.put hdn))
end
section
variable {P : Program} {a : Act} {n : Nat} {L : List (Nat × Value)} {Q : Exit → Act → World → Prop} {Rl : List Nat} {w w0 : World} {B : List Ent}
theorem rg_quiet {id : Nat} {l : List Oper} (M : Mm Rl w0 w B) (hm : P.follows .mixedOrders = true) (hB : Region.lexB .any l.toArray = true)
    (h : wpQuiet P l.toArray (fun w' => Below w.heap.size w w') (fun a' => ∀ w', Mm Rl w0 w' B → Q .normal a' w') l a) : (Code.region id l.toArray true).wp P Q a w :=
  wp_region_quiet (C := fun w' => Below w.heap.size w w') hm hB (show Below w.heap.size w w.drew from (Below.refl _ _).drew) (by
    have hq : ∀ (rest : List Oper) (a : Act), wpQuiet P l.toArray (fun w' => Below w.heap.size w w') (fun a' => ∀ w', Mm Rl w0 w' B → Q .normal a' w') rest a → wpQuiet P l.toArray (fun w' => Below w.heap.size w w') (fun a' => ∀ w', Below w.heap.size w w' → Q .normal a' w') rest a := by
      intro rest
      induction rest with
      | nil => exact fun a h w' hb => h w' (M.below hb)
      | cons o r ih =>
        intro a h
        unfold wpQuiet at h ⊢
        split
        · rename_i hw
          rw [if_pos hw] at h
          exact Oper.quiet_mono ih h
        · rename_i hw
          rw [if_neg hw] at h
          exact ih _ h
    simpa using hq l a h)
variable {fn : Func} {R : Ending → World → Prop} {k j g m i : Nat} {ty t : TypeId} {v u : Value} {cs : Array Value}
theorem rt_tmp (F : Fr a n L) (hr : fn.results = #[.tmp k]) (hv : look L k = some v) (hR : R (.returned v) w) : bodyPost P fn R .ret a w :=
  bodyPost_ret (by rw [results_tmp hr, F.get hv]) F.defers hR
theorem run_cell (M : Mm Rl w0 w B) (hi : B[i]? = some (.blk g t cs)) (hT : AggTy P ty m) (hm : cs.size = m) : (loadVar ty ⟨g, 0, none⟩).run P w = .ok (.agg cs) w := by
  obtain ⟨d, hu, hd, hz⟩ := hT
  exact run_loadVar_row w g t ty cs (0, 0) d (M.at hi) hu (by cases d <;> simp_all [TypeDesc.isRow]) (by rw [hz, hm])
theorem rt_cell (F : Fr a n L) (M : Mm Rl w0 w B) (hr : fn.results = #[.cell k ty]) (hv : look L k = some (.pointer (some ⟨g, 0, none⟩))) (hi : B[i]? = some (.blk g t cs)) (hT : AggTy P ty m) (hm : cs.size = m) (hR : R (.returned (.agg cs)) w) : bodyPost P fn R .ret a w :=
  bodyPost_ret (by
    have h1 := F.get hv
    have h2 : a.tmps[k]?.getD undef = .pointer (some ⟨g, 0, none⟩) := by simpa using h1
    simp [results, hr, h2, asAddr, run_cell M hi hT hm]) F.defers hR
theorem rt_cell_tmp (F : Fr a n L) (M : Mm Rl w0 w B) (hr : fn.results = #[.cell k ty, .tmp j]) (hv : look L k = some (.pointer (some ⟨g, 0, none⟩))) (hu : look L j = some u) (hi : B[i]? = some (.blk g t cs)) (hT : AggTy P ty m) (hm : cs.size = m) (hR : R (.returned (.tuple #[.agg cs, u])) w) : bodyPost P fn R .ret a w :=
  bodyPost_ret (by
    have h1 := F.get hv
    have h2 : a.tmps[k]?.getD undef = .pointer (some ⟨g, 0, none⟩) := by simpa using h1
    have h3 := F.get hu
    have h4 : a.tmps[j]?.getD undef = u := by simpa using h3
    simp [results, hr, h2, h4, asAddr, run_cell M hi hT hm]) F.defers hR
end
def SlTy (P : Program) (t e : TypeId) (m : Nat) : Prop := P.underlying t = some (.slice e) ∧ (P.info? e).map (·.size) = some m
def ElTy (P : Program) (e : TypeId) (m bytes : Nat) : Prop := 0 < m ∧ ∃ z : Value, z.cells.size = m ∧ (P.info? e).map (fun i => (i.zero, i.size, i.bytes)) = some (some z, m, bytes)
section
variable {P : Program} {o : Oper} {a : Act} {x y : Operand} {v u : Value} {C : World → Prop} {R : List Nat} {w w0 : World} {t e ty : TypeId} {m n k s i : Nat} {xs vs : List Value} {B : List Ent}
theorem pu_len (ho : o.op = .call { callee := .builtin .len, args := #[x], argTypes := #[t] }) (hx : a.eval x = v) (hT : SlTy P t e m) (hv : RdV w m v n xs) : Pure P o a (.int .i64 (n : Int)) := fun w' => by
  obtain ⟨_, A, c, rfl, _⟩ := hv
  simp only [execOp, ho, resolve, invoke, builtin, List.map_toArray, List.map, hx]
  simp [Builtin.len_, run_underlying hT.1, goInt]
theorem addr_add (g off j : Nat) : (⟨g, off, none⟩ : Addr).add j = ⟨g, off + j, none⟩ := by unfold Addr.add; split <;> simp_all
theorem pu_ix {kd : IntKind} {i : Int} (ho : o.op = .indexAddr t x y) (hx : a.eval x = v) (hy : a.eval y = .int kd i) (hT : SlTy P t e m) (hv : RdV w m v n xs) (h0 : 0 ≤ i) (h1 : i < n) : Pure P o a (.pointer (some ⟨gof v, oof v + i.toNat * m, none⟩)) := fun w' => by
  obtain ⟨c, hv', _⟩ := hv.form (by omega)
  obtain ⟨hu, hi⟩ := hT
  cases hq : P.info? e with
  | none => simp [hq] at hi
  | some inf =>
    have hs : inf.size = m := by simpa [hq] using hi
    rw [hv'] at hx
    simp only [execOp, ho, hx, hy]
    simp [Instr.indexAt, asIntOf, run_underlying hu, sizeOf, typeInfo, hq, hs, h0, h1, addr_add]
theorem ld_el (ho : o.op = .load ty x) (hx : a.eval x = .pointer (some ⟨gof v, oof v + k, none⟩)) (hT : AggTy P ty s) (hr : ∀ w, C w → RdV w m v n xs) (hn : 0 < n) (hv : (xs.drop k).take s = vs) (hl : vs.length = s) : Rdy P o a C (.agg vs.toArray) := fun w hC => by
  obtain ⟨d, hu, hd, hi⟩ := hT
  obtain ⟨c, _, _, _, _, hcell⟩ := (hr w hC).form hn
  have hc : w.rangeAt (gof v) (oof v + k) vs := fun j u hj => by
    have hj' : j < s := by
      rcases Nat.lt_or_ge j s with h | h
      · exact h
      · rw [List.getElem?_eq_none (by omega)] at hj; cases hj
    have h2 : xs[k + j]? = some u := by
      rw [← hv] at hj
      simpa [hj'] using hj
    rw [Nat.add_assoc]
    exact hcell (k + j) u h2
  simp only [execOp, ho, hx]
  simp only [Sem.run_bind, run_loadAt_mid w (gof v) (oof v + k) ty vs d hc hu hd (by rw [hi, hl])]
  simp
theorem ld_elP {q s' : Nat} {us : List Value} (ho : o.op = .load ty x) (hx : a.eval x = .pointer (some ⟨gof v, oof v + k + q, none⟩)) (hT : AggTy P ty s) (hr : ∀ w, C w → RdV w m v n xs) (hn : 0 < n) (hv : (xs.drop k).take s' = us) (hq : q + s ≤ s') (hp : (us.drop q).take s = vs) (hl : vs.length = s) : Rdy P o a C (.agg vs.toArray) :=
  ld_el (k := k + q) ho (by rw [hx, Nat.add_assoc]) hT hr hn (by rw [← hp, ← hv, List.drop_take, List.take_take, List.drop_drop, Nat.min_eq_left (by omega)]) hl
theorem ld_el1 (ho : o.op = .load ty x) (hx : a.eval x = .pointer (some ⟨gof v, oof v + k, none⟩)) (hT : OneTy P ty) (hr : ∀ w, C w → RdV w m v n xs) (hn : 0 < n) (hu : xs[k]? = some u) : Rdy P o a C u :=
  ld_at ho hx hT fun w hC => by
    obtain ⟨c, _, _, _, _, hcell⟩ := (hr w hC).form hn
    exact hcell k u hu
theorem ld_elP1 {q s' : Nat} {us : List Value} (ho : o.op = .load ty x) (hx : a.eval x = .pointer (some ⟨gof v, oof v + k + q, none⟩)) (hT : OneTy P ty) (hr : ∀ w, C w → RdV w m v n xs) (hn : 0 < n) (hv : (xs.drop k).take s' = us) (hp : us[q]? = some u) : Rdy P o a C u :=
  ld_el1 (k := k + q) ho (by rw [hx, Nat.add_assoc]) hT hr hn (by
    rw [← hv, List.getElem?_take, List.getElem?_drop] at hp
    split at hp
    · exact hp
    · cases hp)
end
section
variable {P : Program} {ops rest : List Oper} {o : Oper} {a : Act} {n d : Nat} {L : List (Nat × Value)} {Q : Exit → Act → World → Prop} {R : List Nat} {w w0 : World} {B : List Ent} {v u : Value} {x y : Operand} {t e : TypeId} {m k i c : Nat} {xs news : List Value}
theorem app_run (M : Mm R w0 w B) (ho : o.op = .call { callee := .builtin .append, args := #[x, y], argTypes := #[t, t] }) (ht : P.underlying t = some (.slice e)) {bytes : Nat} (hE : ElTy P e m bytes)
    (hx : a.eval x = v) (hi : B[i]? = some (.row e m v k xs)) (hy : a.eval y = u) (hu : RdV w m u c news) (h1 : ∀ z ∈ news, z.oneCell' = true) (hmax : k + c ≤ 140737488355328) (hby : (k + c) * bytes ≤ 140737488355328) :
    ∃ v' w', (execOp a.eval o).run P w = .ok (.value v') w' ∧ Mm R w0 w' (B.set i (.row e m v' (k + c) (xs ++ news))) := by
  have hown : w.ownsRow 0 e m v k xs := M.get hi
  obtain ⟨hm, z, hz, hinf⟩ := hE
  cases hq : P.info? e with
  | none => simp [hq] at hinf
  | some inf =>
    simp only [hq, Option.map_some, Option.some.injEq, Prod.mk.injEq] at hinf
    have hrun : ∃ v' w', (Builtin.append_ #[t, t] o.type #[v, u]).run P w = .ok v' w' ∧ w'.ownsRow 0 e m v' (k + c) (xs ++ news) ∧ w.grownBy w' v.ownBlock ∧ (v'.ownBlock = v.ownBlock ∨ v'.ownBlock = some w.heap.size) := by
      rcases Nat.eq_zero_or_pos c with h0 | h0
      · subst h0
        obtain ⟨hl, A, c', rfl, _, _, _⟩ := hu
        have hn0 : news = [] := List.eq_nil_of_length_eq_zero (by simpa using hl)
        subst hn0
        rw [Nat.add_zero, List.append_nil]
        cases A with
        | none =>
          refine ⟨v, w, ?_, hown, World.grownBy.refl w _, .inl rfl⟩
          rcases hown.2 with ⟨rfl, _⟩ | ⟨g, cap, cur, rfl, _, _, hnc, _⟩
          · simp [Builtin.append_, run_underlying ht, sizeOf, typeInfo, hq, Builtin.lenOf, Builtin.firstCells]
          · simp [Builtin.append_, run_underlying ht, sizeOf, typeInfo, hq, Builtin.lenOf, Builtin.firstCells, hnc, storeCells]
        | some ad =>
          obtain ⟨v', w', hr, h2, h3, _, h5⟩ := run_append_own_at (P := P) w 0 t o.type e inf z m bytes ht hq hinf.1 hinf.2.1 hinf.2.2 hz hm v k xs hown ad 0 c' [] (by simp) (fun j u hj => by simp at hj) (by simp) (by unfold maxLen; omega) hby (Nat.zero_le _)
          exact ⟨v', w', hr, by simpa using h2, h3, h5⟩
      · obtain ⟨c', hu', _, _, _, hcell⟩ := hu.form h0
        obtain ⟨v', w', hr, h2, h3, _, h5⟩ := run_append_own_at (P := P) w 0 t o.type e inf z m bytes ht hq hinf.1 hinf.2.1 hinf.2.2 hz hm v k xs hown ⟨gof u, oof u, none⟩ c c' news hu.1 (fun j u hj => by rw [addr_add]; exact hcell j u hj) h1 (by unfold maxLen; omega) hby (Nat.zero_le _)
        rw [hu']
        exact ⟨v', w', hr, h2, h3, h5⟩
    obtain ⟨v', w', hr, h2, h3, h5⟩ := hrun
    have hexec : (execOp a.eval o).run P w = .ok (.value v') w' := by
      simp only [execOp, ho, resolve, invoke, builtin, Sem.run_bind, Sem.run_pure, Result.andThen_ok, List.map_toArray, List.map_cons, List.map_nil, hx, hy, hr]
    refine ⟨v', w', hexec, M.swap hi (x' := .row e m v' (k + c) (xs ++ news)) (Out.of_grown h3) h2 (fun g hg => ?_) (fun g hg => by cases hg)⟩
    simp only [Ent.fp] at hg ⊢
    rcases h5 with h6 | h6
    · exact .inl (by rw [← h6]; exact hg)
    · rw [h6] at hg; simp only [Option.toList_some, List.mem_singleton] at hg; exact .inr (by omega)
theorem sq_app (F : Fr a n L) (M : Mm R w0 w B) (hw : Region.wanted o (yielded ops.toArray a.tmps) = true) (ho : o.op = .call { callee := .builtin .append, args := #[x, y], argTypes := #[t, t] }) (ht : P.underlying t = some (.slice e)) {bytes : Nat} (hE : ElTy P e m bytes)
    (hx : a.eval x = v) (hi : B[i]? = some (.row e m v k xs)) (hy : a.eval y = u) (hu : RdV w m u c news) (h1 : ∀ z ∈ news, z.oneCell' = true) (hmax : k + c ≤ 1000000000) (hby : bytes ≤ 1000) (hd : o.dst = some d) (hdn : Nat.blt d n = true)
    (h : ∀ a' w' v', Fr a' n ((d, v') :: L) → Mm R w0 w' (B.set i (.row e m v' (k + c) (xs ++ news))) → wpList P ops.toArray Q rest a' w') : wpList P ops.toArray Q (o :: rest) a w :=
  wpList_step fun K hK => by
    rw [if_pos hw]
    obtain ⟨v', w', hexec, hM⟩ := app_run M ho ht hE hx hi hy hu h1 (by omega) (by have := Nat.mul_le_mul hmax hby; omega)
    unfold Oper.wp
    rw [hexec]
    refine hK _ _ ?_
    rw [hd]
    exact h _ _ _ (F.put hdn) hM
theorem sq_bs (F : Fr a n L) (M : Mm R w0 w B) (hw : Region.wanted o (yielded ops.toArray a.tmps) = true) {parts : Array (Nat × Operand)} {cs : Array Value} (hr : (execOp a.eval o).run P w = .ok (.value (.slice (some ⟨w.heap.size, 0, none⟩) k k)) (w.alloc (.cells cs e))) (hk : k ≤ 1000000) (hc : cs.size = k * m) (hd : o.dst = some d) (hdn : Nat.blt d n = true)
    (h : ∀ a' w' g, Fr a' n ((d, .slice (some ⟨g, 0, none⟩) k k) :: L) → Mm R w0 w' (.row e m (.slice (some ⟨g, 0, none⟩) k k) k cs.toList :: B) → wpList P ops.toArray Q rest a' w') : wpList P ops.toArray Q (o :: rest) a w :=
  wpList_step fun K hK => by
    rw [if_pos hw]
    unfold Oper.wp
    rw [hr]
    have _ := parts
    refine hK _ _ ?_
    rw [hd]
    exact h _ _ _ (F.put hdn) (M.add (bel1 _ _) (x := .row e m (.slice (some ⟨w.heap.size, 0, none⟩) k k) k cs.toList) (World.ownsRow_lit w cs k (Nat.zero_le _) (by unfold maxLen; omega) hc) (fun g hg => by simp only [Ent.fp, Value.ownBlock, Option.toList_some, List.mem_singleton] at hg; omega) (fun g hg => by cases hg))
end
def subS (m l h : Nat) : Value → Value
  | .slice a _ c => .slice (if c = l then a else a.map (·.add (l * m))) (h - l) (c - l)
  | v => v
section
variable {P : Program} {o : Oper} {a : Act} {x lo hi : Operand} {v : Value} {w : World} {t e : TypeId} {m n l h : Nat} {xs : List Value} {k k' : IntKind} {i j : Int}
theorem sub_rdv (hr : RdV w m v n xs) (hl : l ≤ h) (hh : h ≤ n) : RdV w m (subS m l h v) (h - l) ((xs.drop (l * m)).take ((h - l) * m)) := by
  obtain ⟨h0, A, c, rfl, h1, h2, h3⟩ := hr
  have hlen : ((xs.drop (l * m)).take ((h - l) * m)).length = (h - l) * m := by
    rw [List.length_take, List.length_drop, h0]
    have : (h - l) * m ≤ n * m - l * m := by rw [← Nat.sub_mul]; exact Nat.mul_le_mul_right _ (by omega)
    omega
  refine ⟨hlen, _, _, rfl, by omega, by omega, fun hn => ?_⟩
  obtain ⟨g, off, rfl, h4, h5⟩ := h3 (by omega)
  refine ⟨g, off + l * m, ?_, h4, fun q u hq => ?_⟩
  · rw [if_neg (by omega)]
    simp only [Option.map_some, addr_add]
  · have hq' : q < (h - l) * m := by
      rcases Nat.lt_or_ge q ((h - l) * m) with h6 | h6
      · exact h6
      · rw [List.getElem?_eq_none (by omega)] at hq; cases hq
    have h7 : xs[l * m + q]? = some u := by simpa [hq'] using hq
    rw [Nat.add_assoc]
    exact h5 _ u h7
theorem pu_slice1 (ho : o.op = .slice t x (some lo) none none) (hx : a.eval x = v) (hlo : a.eval lo = .int k i) (hT : SlTy P t e m) (hv : RdV w m v n xs) (h1 : 0 ≤ i) (h2 : i ≤ n) : Pure P o a (subS m i.toNat n v) := fun w' => by
  obtain ⟨_, A, c, rfl, hc, _, _⟩ := hv
  obtain ⟨hu, hi'⟩ := hT
  cases hq : P.info? e with
  | none => simp [hq] at hi'
  | some inf =>
    have hs : inf.size = m := by simpa [hq] using hi'
    simp only [execOp, ho, hx, Option.map_some, Option.map_none, hlo]
    have e1 : (Instr.sliceBounds true n c (some (.int k i)) none none).run P w' = .ok (i.toNat, n, c) w' := by
      simp only [Instr.sliceBounds, Sem.run_bind, Sem.run_pure, Result.andThen_ok]
      rw [run_sliceBound _ _ _ _ _ h1 (by omega)]
      rfl
    simp [Instr.sliceAt, Instr.slice, run_underlying hu, e1, sizeOf, typeInfo, hq, hs, subS]
theorem pu_slice0 (ho : o.op = .slice t x none (some hi) none) (hx : a.eval x = v) (hhi : a.eval hi = .int k' j) (hT : SlTy P t e m) (hv : RdV w m v n xs) (h2 : 0 ≤ j) (h3 : j ≤ n) : Pure P o a (subS m 0 j.toNat v) := fun w' => by
  obtain ⟨_, A, c, rfl, hc, _, _⟩ := hv
  obtain ⟨hu, hi'⟩ := hT
  cases hq : P.info? e with
  | none => simp [hq] at hi'
  | some inf =>
    have hs : inf.size = m := by simpa [hq] using hi'
    simp only [execOp, ho, hx, Option.map_some, Option.map_none, hhi]
    have e1 : (Instr.sliceBounds true n c none (some (.int k' j)) none).run P w' = .ok (0, j.toNat, c) w' := by
      simp only [Instr.sliceBounds, Sem.run_bind, Sem.run_pure, Result.andThen_ok, run_sliceBound _ _ _ _ _ (show 0 ≤ j by omega) (show j ≤ (c : Int) by omega)]
    simp [Instr.sliceAt, Instr.slice, run_underlying hu, e1, sizeOf, typeInfo, hq, hs, subS]
end
section
variable {P : Program} {o : Oper} {a : Act} {x y : Operand} {t t' : TypeId} {i j : Int} {g k m N : Nat} {e : TypeId}
theorem pu_mul (ho : o.op = .binOp .mul t x y t') (hx : a.eval x = .int .i64 i) (hy : a.eval y = .int .i64 j) (h1 : -9223372036854775808 ≤ i * j) (h2 : i * j ≤ 9223372036854775807) : Pure P o a (.int .i64 (i * j)) := fun w => by
  simp only [execOp, ho, hx, hy]; simp [go_sem, IntWalk.i64_in _ ⟨h1, h2⟩]
theorem pu_quo (ho : o.op = .binOp .quo t x y t') (hx : a.eval x = .int .i64 i) (hy : a.eval y = .int .i64 j) (h1 : 0 ≤ i) (_h3 : i ≤ 9223372036854775807) (h2 : 0 < j) : Pure P o a (.int .i64 (i / j)) := fun w => by
  have h4 : 0 ≤ i / j := Int.ediv_nonneg h1 (by omega)
  have h5 : i / j ≤ i := Int.ediv_le_self j h1
  simp only [execOp, ho, hx, hy]
  simp [go_sem, show j ≠ 0 by omega, Int.tdiv_eq_ediv_of_nonneg h1, IntWalk.i64_in (i / j) ⟨by omega, by omega⟩]
def ArTy (P : Program) (t e : TypeId) (N m : Nat) : Prop := P.underlying t = some (.array N e) ∧ (P.info? e).map (·.size) = some m
end
section
variable {P : Program} {ops rest : List Oper} {o : Oper} {a : Act} {n : Nat} {L : List (Nat × Value)} {Q : Exit → Act → World → Prop} {R : List Nat} {w w0 : World} {B : List Ent} {v : Value} {x y : Operand} {t ty : TypeId} {g k i : Nat} {cs : Array Value}
theorem Mm.setCell (M : Mm R w0 w B) (h : B[i]? = some (.blk g t cs)) (v : Value) : Mm R w0 (w.setCell ⟨g, k, none⟩ v) (B.set i (.blk g t (cs.setIfInBounds k v))) :=
  M.swap h (x' := .blk g t (cs.setIfInBounds k v)) ⟨rfl, rfl, rfl, by simp, fun j _ hj => heap_setCell_other w ⟨g, k, none⟩ j v (fun e => hj (by rw [e]; simp [Ent.fp]))⟩ ((M.at h).set_ _ _) (fun g h => .inl h) (fun g h => by cases h)
theorem sq_stC (F : Fr a n L) (M : Mm R w0 w B) (hw : Region.wanted o (yielded ops.toArray a.tmps) = true) (ho : o.op = .store ty x y) (hx : a.eval x = .pointer (some ⟨g, k, none⟩)) (hy : a.eval y = v)
    (hi : B[i]? = some (.blk g t cs)) (hk : k < cs.size) (hT : (P.info? ty).map (·.size) = some 1) (h1 : v.oneCell' = true) (hv : v.cells = #[v]) (hd : o.dst = none)
    (h : ∀ w', Mm R w0 w' (B.set i (.blk g t (cs.setIfInBounds k v))) → wpList P ops.toArray Q rest a w') : wpList P ops.toArray Q (o :: rest) a w :=
  wpList_step fun K hK => by
    rw [if_pos hw]
    have _ := F.size
    have hb := M.at hi
    have hr : (execOp a.eval o).run P w = .ok .skip (w.setCell ⟨g, k, none⟩ v) := by
      cases hq : P.info? ty with
      | none => simp [hq] at hT
      | some inf =>
        have hs : inf.size = 1 := by simpa [hq] using hT
        have hc : w.cell? ⟨g, k, none⟩ = some cs[k] := by rw [hb.cell, Array.getElem?_eq_getElem hk]
        simp only [execOp, ho, hx, hy]
        simp [Instr.storeAt, Instr.sureAddr, storeVar, sizeOf, typeInfo, hq, hs, hv, storeCells, addr_add, run_store P _ _ _ _ h1, hc, hb.frozen]
    unfold Oper.wp
    rw [hr]
    exact hK _ _ (by rw [hd]; exact h _ (M.setCell hi v))
end
section
variable {P : Program} {o : Oper} {a : Act} {x : Operand} {R : List Nat} {w w0 : World} {t e : TypeId} {g m n N : Nat} {cs : Array Value} {B : List Ent}
theorem blk_rdv (h : Blk w g t cs) (hs : cs.size = n * m) (hn : n ≤ 1000000000) : RdV w m (.slice (some ⟨g, 0, none⟩) n n) n cs.toList :=
  ⟨by simpa using hs, _, _, rfl, Nat.le_refl _, by unfold maxLen; omega, fun _ => ⟨g, 0, rfl, h.lt, fun j u hj => by rw [Nat.zero_add, h.cell]; simpa using hj⟩⟩
theorem Mm.nilRow (M : Mm R w0 w B) (t : TypeId) (m : Nat) : Mm R w0 w (.row t m (.slice none 0 0) 0 [] :: B) :=
  M.add (Below.refl _ _) (x := .row t m (.slice none 0 0) 0 []) (World.ownsRow_nil _ _ _ _) (fun g hg => by cases hg) (fun g hg => by cases hg)
end
theorem least (p : Nat → Prop) (h : ∃ k, p k) : ∃ k, p k ∧ ∀ k', p k' → k ≤ k' := by
  obtain ⟨k, hk⟩ := h
  induction k using Nat.strongRecOn with
  | ind k ih =>
    by_cases hc : ∃ j, j < k ∧ p j
    · obtain ⟨j, h1, h2⟩ := hc
      exact ih j h1 h2
    · exact ⟨k, hk, fun k' hk' => Nat.le_of_not_lt fun hlt => hc ⟨k', hlt, hk'⟩⟩
theorem lp {P : Program} {c : Code} {Q : Exit → Act → World → Prop} {σ : Type} (I : σ → Act → World → Prop) (μ : σ → Nat) (s0 : σ) {a : Act} {w : World} (h0 : I s0 a w)
    (round : ∀ s a w, I s a w → c.wp P (Exit.then (fun a' w' => ∃ s', μ s' < μ s ∧ I s' a' w') Q) a w) : (Code.loop c).wp P Q a w := by
  classical
  have hl := fun a w => least (fun k => ∃ s, μ s = k ∧ I s a w)
  have : ∃ ν : Act → World → Nat, ∀ a w, (∃ k s, μ s = k ∧ I s a w) → (∃ s, μ s = ν a w ∧ I s a w) ∧ ∀ s, I s a w → ν a w ≤ μ s := by
    refine ⟨fun a w => if h : ∃ k s, μ s = k ∧ I s a w then (hl a w h).choose else 0, fun a w h => ?_⟩
    simp only [dif_pos h]
    have hs := (hl a w h).choose_spec
    exact ⟨hs.1, fun s h1 => hs.2 _ ⟨s, rfl, h1⟩⟩
  obtain ⟨ν, hν⟩ := this
  refine wp_loop (fun a w => ∃ s, I s a w) ν ⟨s0, h0⟩ ?_
  rintro a w ⟨s, hs⟩
  obtain ⟨⟨s1, h1, h2⟩, _⟩ := hν a w ⟨_, s, rfl, hs⟩
  refine Code.wp_mono (fun ex a' w' hq => ?_) (round s1 a w h2)
  cases ex <;> try exact hq
  obtain ⟨s', hlt, hI⟩ := hq
  refine ⟨⟨s', hI⟩, ?_⟩
  have := (hν a' w' ⟨_, s', rfl, hI⟩).2 s' hI
  show ν a' w' < ν a w
  omega
theorem nx {P : Program} {ops : Array Oper} {y : Code} {Q : Exit → Act → World → Prop} {a : Act} {w : World} (h : y.wp P Q a w) : wpList P ops (Exit.then (y.wp P Q) Q) [] a w := h
theorem nxq {P : Program} {y : Code} {Q : Exit → Act → World → Prop} {a : Act} {w : World} (h : y.wp P Q a w) : Exit.then (y.wp P Q) Q .normal a w := h
theorem nxb {id : Nat} {Q : Exit → Act → World → Prop} {a : Act} {w : World} (h : Q .normal a w) : Exit.inBlock id Q .normal a w := h
theorem nxe {id : Nat} {K : Act → World → Prop} {Q : Exit → Act → World → Prop} {a : Act} {w : World} (h : Q (.exit id) a w) : Exit.then K Q (.exit id) a w := h
theorem nxm {id : Nat} {Q : Exit → Act → World → Prop} {a : Act} {w : World} (h : Q .normal a w) : Exit.inBlock id Q (.exit id) a w := by simpa [Exit.inBlock] using h
theorem nxr {K : Act → World → Prop} {Q : Exit → Act → World → Prop} {a : Act} {w : World} (h : Q .ret a w) : Exit.then K Q .ret a w := h
theorem nxrb {id : Nat} {Q : Exit → Act → World → Prop} {a : Act} {w : World} (h : Q .ret a w) : Exit.inBlock id Q .ret a w := h
def cutQ (J : Act → World → Prop) (Q : Exit → Act → World → Prop) : Exit → Act → World → Prop
  | .normal, a, w => J a w
  | e, a, w => Q e a w
theorem wp_cut {P : Program} {c : Code} {Q : Exit → Act → World → Prop} {a : Act} {w : World} (J : Act → World → Prop) (h : c.wp P (cutQ J Q) a w) (hJ : ∀ a w, J a w → Q .normal a w) : c.wp P Q a w :=
  Code.wp_mono (fun ex a' w' hq => by cases ex <;> first | exact hJ _ _ hq | exact hq) h
theorem nxcR {J : Act → World → Prop} {Q : Exit → Act → World → Prop} {a : Act} {w : World} (h : Q .ret a w) : cutQ J Q .ret a w := h
theorem evk {a : Act} {v : Value} : a.eval (.const v) = v := rfl
theorem evn {a : Act} : ([] : List Operand).map a.eval = [] := rfl
theorem evc {a : Act} {x : Operand} {v : Value} {xs : List Operand} {vs : List Value} (h : a.eval x = v) (ht : xs.map a.eval = vs) : (x :: xs).map a.eval = v :: vs := by rw [List.map_cons, h, ht]
end Go.Proofs.Ytcobpabmmbcjcaa
