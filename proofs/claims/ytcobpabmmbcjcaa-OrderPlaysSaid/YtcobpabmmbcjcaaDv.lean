/- The reference's orders in memory (layer 15): all broadcasts that were begun, in the order in which they were. Any seat with layer 15's reference in it. -/
import Derived.Test.YtcobpabmmbcjcaaJ3
import Derived.Test.YtcobpabmmbcjcaaCq
import Derived.Test.YtcobpabmmbcjcaaJ4
import Derived.Test.YtcobpabmmbcjcaaJ5
namespace Go.Proofs.Ytcobpabmmbcjcaa
open Go.RowKit
set_option maxRecDepth 100000
set_option linter.unusedSimpArgs false
set_option linter.unusedVariables false
def ΦJ (c : Nat) (a : Sl) : World → Prop := RCaV a.r a.fp a.S c
theorem locJ (c : Nat) : ∀ a : Sl, Loc a.fp (ΦJ c a) := fun a => RCaV.loc a.r a.fp a.S c
theorem RCaV.more {r : Nat} {fp : List Nat} {S : Cs} {c d : Nat} {w : World} (h : RCaV r fp S c w) (hc : c ≤ d) : RCaV r fp S d w := by
  obtain ⟨iv, lv, I, Q, e, h1, h2, h3⟩ := h
  exact ⟨iv, lv, I, Q, e, h1, h2, by omega⟩
def rowsW (W : List Sl) : List (List (Int × Nat)) := (List.range 7).map fun (i : Nat) => rowJ W (i : Int)
section
variable {W : List Sl} {k s : Int} {a : Sl} {i j r : Nat} {fp : List Nat} {S : Cs}
theorem rowsW_len : (rowsW W).length = 7 := by unfold rowsW; rw [List.length_map, List.length_range]
theorem rowsW_at (h0 : 0 ≤ k) (h1 : k < 7) : atRJ (rowsW W) k.toNat = rowJ W k := by
  unfold atRJ rowsW
  rw [List.getD_eq_getElem?_getD, List.getElem?_map, List.getElem?_range (by omega)]
  simp only [Option.map_some, Option.getD_some]
  rw [show ((k.toNat : Nat) : Int) = k by omega]
theorem rowsW_app (h0 : 0 ≤ k) (h1 : k < 7) : (rowsW W).set k.toNat (atRJ (rowsW W) k.toNat ++ [(s, r)]) = rowsW (W ++ [⟨k, s, r, fp, S⟩]) := by
  apply List.ext_getElem
  · rw [List.length_set, rowsW_len, rowsW_len]
  · intro q hq hq2
    rw [List.length_set, rowsW_len] at hq
    rw [List.getElem_set]
    unfold rowsW at hq2 ⊢
    simp only [List.getElem_map, List.getElem_range]
    rw [rowJ_app]
    simp only
    split
    · rename_i e
      rw [show ((q : Nat) : Int) = k by omega, if_pos rfl]
      have := rowsW_at (W := W) h0 h1
      unfold rowsW at this
      rw [this]
    · rw [if_neg (by omega)]
theorem rowsW_turn (h : W[i]? = some a) : rowsW (W.set i (a.upd fp S)) = rowsW W := by
  unfold rowsW
  exact List.map_congr_left fun q _ => rowJ_turn h
theorem rowJ_found (hj : j < (rowJ W k).length) (hs : (atJ (rowJ W k) j).1 = s) : ∃ (i : Nat) (a : Sl), W[i]? = some a ∧ a.o = k ∧ a.s = s ∧ a.r = (atJ (rowJ W k) j).2 := by
  rw [atJ_eq hj] at hs ⊢
  have hm : (rowJ W k)[j] ∈ rowJ W k := List.getElem_mem hj
  generalize (rowJ W k)[j] = p at hm hs ⊢
  unfold rowJ at hm
  obtain ⟨a, ha, rfl⟩ := List.mem_map.1 hm
  obtain ⟨ha1, ha2⟩ := List.mem_filter.1 ha
  obtain ⟨i, hi, rfl⟩ := List.mem_iff_getElem.1 ha1
  exact ⟨i, W[i], List.getElem?_eq_getElem hi, by simpa using ha2, hs, rfl⟩
theorem rowJ_none (h : ∀ j, j < (rowJ W k).length → ¬ (atJ (rowJ W k) j).1 = s) : ∀ a ∈ W, ¬ (a.o = k ∧ a.s = s) := fun a ha hk => by
  have hm : (a.s, a.r) ∈ rowJ W k := List.mem_map.2 ⟨a, List.mem_filter.2 ⟨ha, by simpa using hk.1⟩, rfl⟩
  obtain ⟨j, hj, e⟩ := List.mem_iff_getElem.1 hm
  refine h j hj ?_
  rw [atJ_eq hj, e]; exact hk.2
end
structure WOK (n f : Int) (C : Int → Int → Cs) (W : List Sl) : Prop where
  at_ : ∀ a ∈ W, C a.o a.s = a.S
  no : ∀ o s, (∀ a ∈ W, ¬ (a.o = o ∧ a.s = s)) → C o s = cnewS n f
  nd : W.Pairwise fun a b => ¬ (a.o = b.o ∧ a.s = b.s)
section
variable {n f : Int} {C : Int → Int → Cs} {W : List Sl} {k s : Int} {a : Sl} {i r : Nat} {fp : List Nat} {S : Cs}
theorem WOK.nil : WOK n f (fun _ _ => cnewS n f) [] := ⟨fun a ha => (by cases ha), fun _ _ _ => rfl, List.Pairwise.nil⟩
theorem WOK.push (h : WOK n f C W) (hn : ∀ a ∈ W, ¬ (a.o = k ∧ a.s = s)) : WOK n f C (W ++ [⟨k, s, r, fp, cnewS n f⟩]) := by
  refine ⟨fun a ha => ?_, fun o s hh => h.no o s fun a ha => hh a (List.mem_append.2 (.inl ha)), List.pairwise_append.2 ⟨h.nd, List.pairwise_singleton _ _, fun a ha b hb => ?_⟩⟩
  · rcases List.mem_append.1 ha with ha | ha
    · exact h.at_ a ha
    · rw [List.mem_singleton.1 ha]; exact h.no k s hn
  · rw [List.mem_singleton.1 hb]; exact hn a ha
theorem WOK.cast (h : WOK n f C W) (hi : W[i]? = some a) (ho : a.o = k) (hs : a.s = s) : a.S = C k s := by
  rw [← ho, ← hs]; exact (h.at_ a (List.mem_of_getElem? hi)).symm
theorem WOK.turn (h : WOK n f C W) (hi : W[i]? = some a) : WOK n f (setCs C a.o a.s S) (W.set i (a.upd fp S)) := by
  obtain ⟨hil, hia⟩ := List.getElem?_eq_some_iff.1 hi
  have hp := List.pairwise_iff_getElem.1 h.nd
  have hu : ∀ j (hj : j < W.length), j ≠ i → ¬ (W[j].o = a.o ∧ W[j].s = a.s) := fun j hj hne => by
    rcases Nat.lt_or_gt_of_ne hne with z | z
    · have := hp j i hj hil z; rw [hia] at this; exact this
    · have := hp i j hil hj z; rw [hia] at this; exact fun q => this ⟨q.1.symm, q.2.symm⟩
  refine ⟨fun b hb => ?_, fun o s hh => ?_, ?_⟩
  · obtain ⟨j, hj, rfl⟩ := List.mem_iff_getElem.1 hb
    rw [List.length_set] at hj
    rw [List.getElem_set]
    split
    · exact setC_at
    · rename_i hne
      rw [setC_ne (hu j hj (fun e => hne e.symm))]; exact h.at_ _ (List.getElem_mem hj)
  · have hne : ¬ (o = a.o ∧ s = a.s) := fun z => hh (a.upd fp S) (List.mem_iff_getElem.2 ⟨i, by rw [List.length_set]; exact hil, by rw [List.getElem_set, if_pos rfl]⟩) ⟨z.1.symm, z.2.symm⟩
    rw [setC_ne hne]
    refine h.no o s fun b hb => ?_
    obtain ⟨j, hj, rfl⟩ := List.mem_iff_getElem.1 hb
    by_cases e : j = i
    · subst e; rw [hia]; exact fun z => hne ⟨z.1.symm, z.2.symm⟩
    · have := hh (W[j]) (List.mem_iff_getElem.2 ⟨j, by rw [List.length_set]; exact hj, by rw [List.getElem_set, if_neg (fun z => e z.symm)]⟩)
      exact this
  · rw [List.pairwise_iff_getElem]
    intro p q hp' hq' hlt
    rw [List.length_set] at hp' hq'
    rw [List.getElem_set, List.getElem_set]
    by_cases e1 : i = p
    · rw [if_pos e1, if_neg (by omega)]
      exact fun z => hu q hq' (by omega) ⟨z.1.symm, z.2.symm⟩
    · rw [if_neg e1]
      by_cases e2 : i = q
      · rw [if_pos e2]; exact hu p hp' (fun z => e1 z.symm)
      · rw [if_neg e2]; exact hp p q hp' hq' hlt
end
def ordA (n f me : Int) (vs : List Value) (nx : Int → Int) (sd : Int) (tw : Int → Bool) : Array Value :=
  #[.int .i64 n, .int .i64 f, .int .i64 me, atV vs 0, atV vs 1, atV vs 2, atV vs 3, atV vs 4, atV vs 5, atV vs 6, .int .i64 (nx 0), .int .i64 (nx 1), .int .i64 (nx 2), .int .i64 (nx 3), .int .i64 (nx 4), .int .i64 (nx 5), .int .i64 (nx 6), .int .i64 sd,
    .bool (tw 0), .bool (tw 1), .bool (tw 2), .bool (tw 3), .bool (tw 4), .bool (tw 5), .bool (tw 6)]
section
variable {n f me sd k x : Int} {vs : List Value} {nx : Int → Int} {tw : Int → Bool} {v : Value}
theorem ordA_v (h0 : 0 ≤ k) (h1 : k < 7) : (ordA n f me vs nx sd tw)[3 + k.toNat * 1]? = some (atV vs k.toNat) := by
  rcases seven h0 h1 with rfl | rfl | rfl | rfl | rfl | rfl | rfl <;> rfl
theorem ordA_n (h0 : 0 ≤ k) (h1 : k < 7) : (ordA n f me vs nx sd tw)[10 + k.toNat * 1]? = some (.int .i64 (nx k)) := by
  rcases seven h0 h1 with rfl | rfl | rfl | rfl | rfl | rfl | rfl <;> rfl
theorem ordA_t (h0 : 0 ≤ k) (h1 : k < 7) : (ordA n f me vs nx sd tw)[18 + k.toNat * 1]? = some (.bool (tw k)) := by
  rcases seven h0 h1 with rfl | rfl | rfl | rfl | rfl | rfl | rfl <;> rfl
theorem ordA_size : (ordA n f me vs nx sd tw).size = 25 := rfl
theorem ordA_setV (h0 : 0 ≤ k) (h1 : k < 7) (hl : vs.length = 7) : (ordA n f me vs nx sd tw).setIfInBounds (3 + k.toNat * 1) v = ordA n f me (vs.set k.toNat v) nx sd tw := by
  match vs, hl with
  | [a, b, c, d, e, g, h], _ => rcases seven h0 h1 with rfl | rfl | rfl | rfl | rfl | rfl | rfl <;> rfl
theorem ordA_setN (h0 : 0 ≤ k) (h1 : k < 7) : (ordA n f me vs nx sd tw).setIfInBounds (10 + k.toNat * 1) (.int .i64 x) = ordA n f me vs (fun y => if y = k then x else nx y) sd tw := by
  rcases seven h0 h1 with rfl | rfl | rfl | rfl | rfl | rfl | rfl <;> rfl
theorem ordA_setT {b : Bool} (h0 : 0 ≤ k) (h1 : k < 7) : (ordA n f me vs nx sd tw).setIfInBounds (18 + k.toNat * 1) (.bool b) = ordA n f me vs nx sd (fun y => if y = k then b else tw y) := by
  rcases seven h0 h1 with rfl | rfl | rfl | rfl | rfl | rfl | rfl <;> rfl
end
def ordL (r : Nat) (n f me : Int) (vs : List Value) (nx : Int → Int) (sd : Int) (tw : Int → Bool) (W : List Sl) (c : Nat) : List Ent :=
  [.blk r 71 (ordA n f me vs nx sd tw), .own (fpR vs) (RowsJ 97 vs (rowsW W)), .own (W.flatMap Sl.fp) (ObjsV Sl.fp (ΦJ c) W)]
def ROrdV (r : Nat) (fp : List Nat) (O : Od) (c : Int) (w : World) : Prop :=
  ∃ vs W, fp = fpE (ordL r O.n O.f O.me vs O.nx O.sd O.tw W c.toNat) ∧ PkV (ordL r O.n O.f O.me vs O.nx O.sd O.tw W c.toNat) w ∧ WOK O.n O.f O.C W ∧ (W.length : Int) ≤ 34 * c ∧ bnewE O.n O.f = 0
theorem ROrdV.loc (r : Nat) (fp : List Nat) (O : Od) (c : Int) : Loc fp (ROrdV r fp O c) := fun w w' hk ⟨vs, W, e, h, h1, h2, h3⟩ => by
  subst e
  have := PkV.loc _ w w' hk h
  exact ⟨⟨vs, W, rfl, this.1, h1, h2, h3⟩, this.2⟩
theorem ordL_base {r : Nat} {n f me : Int} {vs : List Value} {nx : Int → Int} {sd : Int} {tw : Int → Bool} {W : List Sl} {c : Nat} : ∀ x ∈ ordL r n f me vs nx sd tw W c, x.base = [] := by simp [ordL, Ent.base]
section
variable {W : List Sl} {i c : Nat} {a : Sl} {w w' : World} {e : Ending} {S : Cs}
theorem ObjsV.slot (h : ObjsV Sl.fp (ΦJ c) W w) (hi : W[i]? = some a) : RCaV a.r a.fp a.S c w := h.all a (List.mem_of_getElem? hi)
theorem ObjsV.moreJ {d : Nat} (h : ObjsV Sl.fp (ΦJ c) W w) (hc : c ≤ d) : ObjsV Sl.fp (ΦJ d) W w := ⟨fun a ha => (show RCaV a.r a.fp a.S c w from h.all a ha).more hc, h.nd⟩
theorem ObjsV.turnJ {t : TypeId} {m : Nat} {cs : List Value} {k : Nat} (h : ObjsV Sl.fp (ΦJ c) W w) (hi : W[i]? = some a)
    (ht : TurnsN w (.own a.fp (RCaV a.r a.fp a.S c)) (fun x' => ∃ fp', x' = .own fp' (RCaV a.r fp' S (c + 1))) t m cs k e w') :
    TurnsN w (.own (W.flatMap Sl.fp) (ObjsV Sl.fp (ΦJ c) W)) (fun x' => ∃ fp', x' = .own ((W.set i (a.upd fp' S)).flatMap Sl.fp) (ObjsV Sl.fp (ΦJ (c + 1)) (W.set i (a.upd fp' S)))) t m cs k e w' := by
  obtain ⟨v, x', h1, h2, h3, h4, h5, ⟨fp', rfl⟩, h6, h7⟩ := ht
  obtain ⟨hi1, hi2⟩ := List.getElem?_eq_some_iff.1 hi
  have h0 := h.moreJ (Nat.le_succ c)
  have hpre : (ΦJ (c + 1)) W[i] w := h0.all _ (List.getElem_mem hi1)
  have T : TurnsE w (.own W[i].fp (ΦJ (c + 1) W[i])) (fun u x' => ∃ a', (a' = (a.upd fp' S)) ∧ x' = .own a'.fp (ΦJ (c + 1) a')) e w' := by
    rw [hi2]
    exact ⟨v, _, h1, h2, h3, h4, rfl, (a.upd fp' S), rfl, rfl⟩
  obtain ⟨v2, x2, g1, g2, g3, g4, g5, a', rfl, rfl⟩ := h0.turn (locJ (c + 1)) hi1 (Z := fun _ _ => True) (Z' := fun _ a' => a' = (a.upd fp' S)) T
  rw [h1] at g1
  injection g1 with g1
  subst g1
  refine ⟨v, _, h1, g2, g3, g4, rfl, ⟨fp', rfl⟩, h6, fun g hg => ⟨(h7 g hg).1.imp (fun z => List.mem_flatMap.2 ⟨a, List.mem_of_getElem? hi, z⟩) id, fun hg' => ?_⟩⟩
  obtain ⟨b, hb, hgb⟩ := List.mem_flatMap.1 (show g ∈ (W.set i (a.upd fp' S)).flatMap Sl.fp from hg')
  obtain ⟨j, hj, rfl⟩ := List.mem_iff_getElem.1 hb
  rw [List.length_set] at hj
  rw [List.getElem_set] at hgb
  split at hgb
  · exact (h7 g hg).2 hgb
  · rename_i hne
    rcases (h7 g hg).1 with z | z
    · have := h.apart hi1 hj hne g (by rw [hi2]; exact z); exact this hgb
    · have q1 := h.lt (locJ c) (List.getElem_mem hj) g hgb
      omega
end
def Sl.zero : Sl := ⟨0, 0, 0, [], cnewS 0 0⟩
abbrev SlY := List Value × List Sl × Nat × Sl
def SlotP (r : Nat) (n f me : Int) (nx : Int → Int) (sd : Int) (tw : Int → Bool) (c : Nat) (C : Int → Int → Cs) (k s : Int) (l : Nat) (y : SlY) (w : World) : Prop :=
  PkV (ordL r n f me y.1 nx sd tw y.2.1 c) w ∧ (y.2.1[y.2.2.1]? = some y.2.2.2 ∧ y.2.2.2.o = k ∧ y.2.2.2.s = s ∧ WOK n f C y.2.1 ∧ y.2.1.length ≤ l + 1)
theorem SlotP.loc (r : Nat) (n f me : Int) (nx : Int → Int) (sd : Int) (tw : Int → Bool) (c : Nat) (C : Int → Int → Cs) (k s : Int) (l : Nat) (y : SlY) : Loc (fpE (ordL r n f me y.1 nx sd tw y.2.1 c)) (SlotP r n f me nx sd tw c C k s l y) := fun w w' hk h => by
  have := PkV.loc _ w w' hk h.1
  exact ⟨⟨this.1, h.2⟩, this.2⟩
theorem SlotP.slots {r : Nat} {n f me : Int} {nx : Int → Int} {sd : Int} {tw : Int → Bool} {c : Nat} {C : Int → Int → Cs} {k s : Int} {l : Nat} {y : SlY} {w : World} (h : SlotP r n f me nx sd tw c C k s l y w) : RCaV y.2.2.2.r y.2.2.2.fp y.2.2.2.S c w :=
  ObjsV.slot (h.1.pv (i := 2) rfl) h.2.1
theorem SlotP.cast {r : Nat} {n f me : Int} {nx : Int → Int} {sd : Int} {tw : Int → Bool} {c : Nat} {C : Int → Int → Cs} {k s : Int} {l : Nat} {y : SlY} {w : World} (h : SlotP r n f me nx sd tw c C k s l y w) : y.2.2.2.S = C k s :=
  h.2.2.2.2.1.cast h.2.1 h.2.2.1 h.2.2.2.1
section
variable {R : List Nat} {w w0 : World} {B : List Ent}
theorem Mm.ordNew {r : Nat} {n f me : Int} (M : Mm R w0 w (.blk r 71 (ordA n f me (List.replicate 7 nilV) (fun _ => 0) 0 (fun _ => false)) :: B)) : Mm R w0 w (ordL r n f me (List.replicate 7 nilV) (fun _ => 0) 0 (fun _ => false) [] 0) := by
  have M1 := M.sub (B' := [.blk r 71 (ordA n f me (List.replicate 7 nilV) (fun _ => 0) 0 (fun _ => false))]) (.cons_cons _ (List.nil_sublist _))
  have M2 := M1.rowsNewJ 97 7
  have M3 := M2.addOwn (fp := ([] : List Sl).flatMap Sl.fp) (Below.refl _ _) (ObjsV.nil Sl.fp (ΦJ 0) w) (ObjsV.loc (locJ 0) []) (fun g hg => by cases hg)
  exact M3.pick [2, 1, 0] (by decide) rfl
end
end Go.Proofs.Ytcobpabmmbcjcaa
