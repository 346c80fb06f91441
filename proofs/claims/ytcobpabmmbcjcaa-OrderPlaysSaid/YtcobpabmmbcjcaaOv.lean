/- Package order in memory (as landed at 2b21915): the broadcasts of each origin in a map by their numbers, the maps in an array. Any seat with package order in it. -/
import Derived.Test.YtcobpabmmbcjcaaJ5
import Derived.Test.YtcobpabmmbcjcaaJ3
import Derived.Test.YtcobpabmmbcjcaaJ2
import Derived.Test.YtcobpabmmbcjcaaBt
namespace Go.Proofs.Ytcobpabmmbcjcaa
open Go.RowKit Go.MapKept
set_option maxRecDepth 100000
set_option linter.unusedSimpArgs false
set_option linter.unusedVariables false
def nuV (k : Int) : Value := .int .i64 k
def ptV (g : Nat) : Value := .pointer (some ⟨g, 0, none⟩)
theorem mtOrd : MapEn Try.prog 60 3 57 nuV ptV (.pointer none) :=
  ⟨Try.underlying60, ⟨_, keyOK_plain Try.underlying3, fun a => (rfl : IntKind.i64 = IntKind.i64)⟩, fun a b h => by unfold nuV at h; injection h, fun w => by kernel_rfl⟩
def delO (W : List Sl) (k s : Int) : List Sl := W.filter fun a => !decide (a.o = k ∧ a.s = s)
section
variable {W : List Sl} {k s x : Int}
theorem look_yes (h : (getM (rowJ W k) s).isSome = true) : ∃ (i : Nat) (a : Sl), W[i]? = some a ∧ a.o = k ∧ a.s = s ∧ getM (rowJ W k) s = some a.r := by
  obtain ⟨r, hr⟩ := Option.isSome_iff_exists.1 h
  have hm := getM_mem hr
  unfold rowJ at hm
  obtain ⟨a, ha, e⟩ := List.mem_map.1 hm
  obtain ⟨ha1, ha2⟩ := List.mem_filter.1 ha
  obtain ⟨i, hi, rfl⟩ := List.mem_iff_getElem.1 ha1
  injection e with e1 e2
  exact ⟨i, W[i], List.getElem?_eq_getElem hi, by simpa using ha2, e1, by rw [hr, e2]⟩
theorem look_no (h : (getM (rowJ W k) s).isSome = false) : ∀ a ∈ W, ¬ (a.o = k ∧ a.s = s) := fun a ha hk => by
  have hm : (a.s, a.r) ∈ rowJ W k := List.mem_map.2 ⟨a, List.mem_filter.2 ⟨ha, by simpa using hk.1⟩, rfl⟩
  unfold getM at h
  rw [Option.isSome_map, List.find?_isSome.2 ⟨(a.s, a.r), hm, by simpa using hk.2⟩] at h
  cases h
theorem rowJ_del : rowJ (delO W k s) k = delM (rowJ W k) s := by
  unfold rowJ delO delM
  induction W with
  | nil => rfl
  | cons a r ih =>
    by_cases h1 : a.o = k <;> by_cases h2 : a.s = s <;> simp_all [List.filter_cons]
theorem rowJ_del_ne (h : x ≠ k) : rowJ (delO W k s) x = rowJ W x := by
  unfold rowJ delO
  induction W with
  | nil => rfl
  | cons a r ih =>
    by_cases h1 : a.o = k
    · have h3 : ¬ a.o = x := fun e => h (by rw [← e, h1])
      have h4 : ¬ k = x := fun e => h e.symm
      by_cases h2 : a.s = s <;> simp_all [List.filter_cons]
    · by_cases h2 : a.o = x <;> simp_all [List.filter_cons]
theorem row_put {r : Nat} {fp : List Nat} {S : Cs} (h : ∀ a ∈ W, ¬ (a.o = k ∧ a.s = s)) : ((s, r) :: delM (rowJ W k) s).Perm (rowJ (W ++ [⟨k, s, r, fp, S⟩]) k) := by
  rw [rowJ_app, if_pos rfl]
  have e : delM (rowJ W k) s = rowJ W k := List.filter_eq_self.2 fun p hp => by
    obtain ⟨a, ha, rfl⟩ := List.mem_map.1 hp
    obtain ⟨ha1, ha2⟩ := List.mem_filter.1 ha
    have h1 : a.o = k := by simpa using ha2
    have h2 : a.s ≠ s := fun e => h a ha1 ⟨h1, e⟩
    simp [h2]
  rw [e]
  exact (List.perm_append_singleton _ _).symm
theorem row_else {r : Nat} {fp : List Nat} {S : Cs} (h : x ≠ k) : rowJ (W ++ [⟨k, s, r, fp, S⟩]) x = rowJ W x := by rw [rowJ_app, if_neg (fun e => h e.symm)]
end
theorem none_of {W : List Sl} {k s : Int} (h : (getM (rowJ W k) s).isSome = false) : getM (rowJ W k) s = none := by
  cases hq : getM (rowJ W k) s with
  | none => rfl
  | some r => rw [hq] at h; cases h
theorem look_el {W : List Sl} {k s : Int} {r : Nat} (h : getM (rowJ W k) s = some r) : (getM (rowJ W k) s).elim (.pointer none) ptV = .pointer (some ⟨r, 0, none⟩) := by rw [h]; rfl
theorem look_ne {W : List Sl} {k s : Int} (h : (getM (rowJ W k) s).isSome = false) : (getM (rowJ W k) s).elim (.pointer none) ptV = .pointer none := by rw [none_of h]; rfl
def ΦP (a : Sl) : World → Prop := CasV a.r a.fp a.S
theorem locP : ∀ a : Sl, Loc a.fp (ΦP a) := fun a => CasV.loc a.r a.fp a.S
structure WOP (n f : Int) (nx : Int → Int) (C : Int → Int → Cs) (W : List Sl) : Prop where
  at_ : ∀ a ∈ W, C a.o a.s = a.S
  no : ∀ o s, nx o ≤ s → (∀ a ∈ W, ¬ (a.o = o ∧ a.s = s)) → C o s = cnewS n f
  nd : W.Pairwise fun a b => ¬ (a.o = b.o ∧ a.s = b.s)
section
variable {n f : Int} {nx nx' : Int → Int} {C : Int → Int → Cs} {W : List Sl} {k s : Int} {a : Sl} {i r : Nat} {fp : List Nat} {S : Cs}
theorem WOP.nil : WOP n f nx (fun _ _ => cnewS n f) [] := ⟨fun a ha => (by cases ha), fun _ _ _ _ => rfl, List.Pairwise.nil⟩
theorem WOP.push (h : WOP n f nx C W) (hs : nx k ≤ s) (hn : ∀ a ∈ W, ¬ (a.o = k ∧ a.s = s)) : WOP n f nx C (W ++ [⟨k, s, r, fp, cnewS n f⟩]) := by
  refine ⟨fun a ha => ?_, fun o s h1 hh => h.no o s h1 fun a ha => hh a (List.mem_append.2 (.inl ha)), List.pairwise_append.2 ⟨h.nd, List.pairwise_singleton _ _, fun a ha b hb => ?_⟩⟩
  · rcases List.mem_append.1 ha with ha | ha
    · exact h.at_ a ha
    · rw [List.mem_singleton.1 ha]; exact h.no k s hs hn
  · rw [List.mem_singleton.1 hb]; exact hn a ha
theorem WOP.cast (h : WOP n f nx C W) (hi : W[i]? = some a) (ho : a.o = k) (hs : a.s = s) : a.S = C k s := by
  rw [← ho, ← hs]; exact (h.at_ a (List.mem_of_getElem? hi)).symm
theorem WOP.turn (h : WOP n f nx C W) (hi : W[i]? = some a) : WOP n f nx (setCs C a.o a.s S) (W.set i (a.upd fp S)) := by
  obtain ⟨hil, hia⟩ := List.getElem?_eq_some_iff.1 hi
  have hp := List.pairwise_iff_getElem.1 h.nd
  have hu : ∀ j (hj : j < W.length), j ≠ i → ¬ (W[j].o = a.o ∧ W[j].s = a.s) := fun j hj hne => by
    rcases Nat.lt_or_gt_of_ne hne with z | z
    · have := hp j i hj hil z; rw [hia] at this; exact this
    · have := hp i j hil hj z; rw [hia] at this; exact fun q => this ⟨q.1.symm, q.2.symm⟩
  refine ⟨fun b hb => ?_, fun o s h1 hh => ?_, ?_⟩
  · obtain ⟨j, hj, rfl⟩ := List.mem_iff_getElem.1 hb
    rw [List.length_set] at hj
    rw [List.getElem_set]
    split
    · exact setC_at
    · rename_i hne
      rw [setC_ne (hu j hj (fun e => hne e.symm))]; exact h.at_ _ (List.getElem_mem hj)
  · have hne : ¬ (o = a.o ∧ s = a.s) := fun z => hh (a.upd fp S) (List.mem_iff_getElem.2 ⟨i, by rw [List.length_set]; exact hil, by rw [List.getElem_set, if_pos rfl]⟩) ⟨z.1.symm, z.2.symm⟩
    rw [setC_ne hne]
    refine h.no o s h1 fun b hb => ?_
    obtain ⟨j, hj, rfl⟩ := List.mem_iff_getElem.1 hb
    by_cases e : j = i
    · subst e; rw [hia]; exact fun z => hne ⟨z.1.symm, z.2.symm⟩
    · exact hh (W[j]) (List.mem_iff_getElem.2 ⟨j, by rw [List.length_set]; exact hj, by rw [List.getElem_set, if_neg (fun z => e z.symm)]⟩)
  · rw [List.pairwise_iff_getElem]
    intro p q hp' hq' hlt
    rw [List.length_set] at hp' hq'
    rw [List.getElem_set, List.getElem_set]
    by_cases e1 : i = p
    · rw [if_pos e1, if_neg (by omega)]
      exact fun z => hu q hq' (by omega) ⟨z.1.symm, z.2.symm⟩
    · rw [if_neg e1]
      by_cases e2 : i = q
      · rw [if_pos e2]; exact hu p hp' (fun z => e1 z.symm)
      · rw [if_neg e2]; exact hp p q hp' hq' hlt
theorem WOP.del (h : WOP n f nx C W) (h1 : ∀ o s', nx' o ≤ s' → nx o ≤ s' ∧ ¬ (o = k ∧ s' = s)) : WOP n f nx' C (delO W k s) := by
  refine ⟨fun a ha => h.at_ a (List.mem_filter.1 ha).1, fun o s' h2 hh => ?_, h.nd.filter _⟩
  obtain ⟨h3, h4⟩ := h1 o s' h2
  refine h.no o s' h3 fun a ha hk => hh a (List.mem_filter.2 ⟨ha, ?_⟩) hk
  have : ¬ (a.o = k ∧ a.s = s) := fun z => h4 ⟨by rw [← hk.1, z.1], by rw [← hk.2, z.2]⟩
  simp only [this, decide_false, Bool.not_false]
end
section
variable {W : List Sl} {i : Nat} {a : Sl} {w w' : World} {e : Ending} {S : Cs}
theorem ObjsV.slotP (h : ObjsV Sl.fp ΦP W w) (hi : W[i]? = some a) : CasV a.r a.fp a.S w := h.all a (List.mem_of_getElem? hi)
theorem ObjsV.turnP {t : TypeId} {m : Nat} {cs : List Value} {k : Nat} (h : ObjsV Sl.fp ΦP W w) (hi : W[i]? = some a)
    (ht : TurnsN w (.own a.fp (CasV a.r a.fp a.S)) (fun x' => ∃ fp', x' = .own fp' (CasV a.r fp' S)) t m cs k e w') :
    TurnsN w (.own (W.flatMap Sl.fp) (ObjsV Sl.fp ΦP W)) (fun x' => ∃ fp', x' = .own ((W.set i (a.upd fp' S)).flatMap Sl.fp) (ObjsV Sl.fp ΦP (W.set i (a.upd fp' S)))) t m cs k e w' := by
  obtain ⟨v, x', h1, h2, h3, h4, h5, ⟨fp', rfl⟩, h6, h7⟩ := ht
  obtain ⟨hi1, hi2⟩ := List.getElem?_eq_some_iff.1 hi
  have T : TurnsE w (.own W[i].fp (ΦP W[i])) (fun u x' => ∃ a', (a' = (a.upd fp' S)) ∧ x' = .own a'.fp (ΦP a')) e w' := by
    rw [hi2]
    exact ⟨v, _, h1, h2, h3, h4, rfl, (a.upd fp' S), rfl, rfl⟩
  obtain ⟨v2, x2, g1, g2, g3, g4, g5, a', rfl, rfl⟩ := h.turn locP hi1 (Z := fun _ _ => True) (Z' := fun _ a' => a' = (a.upd fp' S)) T
  rw [h1] at g1
  injection g1 with g1
  subst g1
  refine ⟨v, _, h1, g2, g3, g4, rfl, ⟨fp', rfl⟩, h6, fun g hg => ⟨(h7 g hg).1.imp (fun z => List.mem_flatMap.2 ⟨a, List.mem_of_getElem? hi, z⟩) id, fun hg' => ?_⟩⟩
  obtain ⟨b, hb, hgb⟩ := List.mem_flatMap.1 (show g ∈ (W.set i (a.upd fp' S)).flatMap Sl.fp from hg')
  obtain ⟨j, hj, rfl⟩ := List.mem_iff_getElem.1 hb
  rw [List.length_set] at hj
  rw [List.getElem_set] at hgb
  split at hgb
  · exact (h7 g hg).2 hgb
  · rename_i hne
    rcases (h7 g hg).1 with z | z
    · have := h.apart hi1 hj hne g (by rw [hi2]; exact z); exact this hgb
    · have q1 := h.lt locP (List.getElem_mem hj) g hgb
      omega
theorem Mm.letP {R : List Nat} {w0 : World} {B : List Ent} (M : Mm R w0 w B) (hi : B[i]? = some (.own (W.flatMap Sl.fp) (ObjsV Sl.fp ΦP W))) (p : Sl → Bool) : Mm R w0 w (B.set i (.own ((W.filter p).flatMap Sl.fp) (ObjsV Sl.fp ΦP (W.filter p)))) :=
  M.swap hi (Out.refl _ _) ⟨⟨fun a ha => (M.pv hi).all a (List.mem_filter.1 ha).1, (M.pv hi).nd.filter _⟩, ObjsV.loc locP _⟩
    (fun g hg => .inl (by
      obtain ⟨a, ha, hg⟩ := List.mem_flatMap.1 (show g ∈ (W.filter p).flatMap Sl.fp from hg)
      exact List.mem_flatMap.2 ⟨a, (List.mem_filter.1 ha).1, hg⟩)) (fun g hg => by cases hg)
end
def mG (k : Int) (G : Int → Nat) (i : Int) : Value := .map (if i < k then some (G i) else none)
def ordB (n f me sd k : Int) (G : Int → Nat) (nx : Int → Int) (tw : Int → Bool) : Array Value :=
  #[.int .i64 n, .int .i64 f, .int .i64 me, .int .i64 sd, mG k G 0, mG k G 1, mG k G 2, mG k G 3, mG k G 4, mG k G 5, mG k G 6, .int .i64 (nx 0), .int .i64 (nx 1), .int .i64 (nx 2), .int .i64 (nx 3), .int .i64 (nx 4), .int .i64 (nx 5), .int .i64 (nx 6),
    .bool (tw 0), .bool (tw 1), .bool (tw 2), .bool (tw 3), .bool (tw 4), .bool (tw 5), .bool (tw 6)]
def putG (G : Int → Nat) (k : Int) (g : Nat) : Int → Nat := fun x => if x = k then g else G x
section
variable {n f me sd k i x : Int} {G : Int → Nat} {nx : Int → Int} {tw : Int → Bool} {g : Nat}
theorem ordB_m (h0 : 0 ≤ i) (h1 : i < 7) (h2 : i < k) : (ordB n f me sd k G nx tw)[4 + i.toNat * 1]? = some (.map (some (G i))) := by
  have e : mG k G i = .map (some (G i)) := by unfold mG; rw [if_pos h2]
  rw [← e]
  rcases seven h0 h1 with rfl | rfl | rfl | rfl | rfl | rfl | rfl <;> rfl
theorem ordB_n (h0 : 0 ≤ i) (h1 : i < 7) : (ordB n f me sd k G nx tw)[11 + i.toNat * 1]? = some (.int .i64 (nx i)) := by
  rcases seven h0 h1 with rfl | rfl | rfl | rfl | rfl | rfl | rfl <;> rfl
theorem ordB_t (h0 : 0 ≤ i) (h1 : i < 7) : (ordB n f me sd k G nx tw)[18 + i.toNat * 1]? = some (.bool (tw i)) := by
  rcases seven h0 h1 with rfl | rfl | rfl | rfl | rfl | rfl | rfl <;> rfl
theorem ordB_size : (ordB n f me sd k G nx tw).size = 25 := rfl
theorem ordB_setM (h0 : 0 ≤ k) (h1 : k < 7) : (ordB n f me sd k G nx tw).setIfInBounds (4 + k.toNat * 1) (.map (some g)) = ordB n f me sd (k + 1) (putG G k g) nx tw := by
  rcases seven h0 h1 with rfl | rfl | rfl | rfl | rfl | rfl | rfl <;> simp [ordB, mG, putG]
theorem ordB_setN (h0 : 0 ≤ i) (h1 : i < 7) : (ordB n f me sd k G nx tw).setIfInBounds (11 + i.toNat * 1) (.int .i64 x) = ordB n f me sd k G (fun y => if y = i then x else nx y) tw := by
  rcases seven h0 h1 with rfl | rfl | rfl | rfl | rfl | rfl | rfl <;> rfl
theorem ordB_setT {b : Bool} (h0 : 0 ≤ i) (h1 : i < 7) : (ordB n f me sd k G nx tw).setIfInBounds (18 + i.toNat * 1) (.bool b) = ordB n f me sd k G nx (fun y => if y = i then b else tw y) := by
  rcases seven h0 h1 with rfl | rfl | rfl | rfl | rfl | rfl | rfl <;> rfl
theorem ordB_start : ordB n f me 0 0 G (fun _ => 0) (fun _ => false) = #[.int .i64 n, .int .i64 f, .int .i64 me, .int .i64 0, .map none, .map none, .map none, .map none, .map none, .map none, .map none, .int .i64 0, .int .i64 0, .int .i64 0, .int .i64 0, .int .i64 0, .int .i64 0, .int .i64 0,
    .bool false, .bool false, .bool false, .bool false, .bool false, .bool false, .bool false] := by simp [ordB, mG]
end
def fpG (k : Int) (G : Int → Nat) : List Nat := (rngI k).map G
structure MapsV (k : Int) (G : Int → Nat) (E : Int → List (Int × Nat)) (w : World) : Prop where
  at_ : ∀ i, 0 ≤ i → i < k → MpV (G i) (encM nuV ptV (E i)) w
  inj : ∀ i j, 0 ≤ i → i < k → 0 ≤ j → j < k → G i = G j → i = j
section
variable {k i : Int} {G : Int → Nat} {E E' : Int → List (Int × Nat)} {w w' : World} {g : Nat}
theorem mem_fpG : g ∈ fpG k G ↔ ∃ i, 0 ≤ i ∧ i < k ∧ G i = g := by
  unfold fpG
  rw [List.mem_map]
  exact ⟨fun ⟨i, h1, h2⟩ => ⟨i, (mem_rng.1 h1).1, (mem_rng.1 h1).2, h2⟩, fun ⟨i, h1, h2, h3⟩ => ⟨i, mem_rng.2 ⟨h1, h2⟩, h3⟩⟩
theorem MapsV.loc (k : Int) (G : Int → Nat) (E : Int → List (Int × Nat)) : Loc (fpG k G) (MapsV k G E) := fun w w' hk h =>
  ⟨⟨fun i h0 h1 => (MpV.loc _ _ w w' (fun g hg => hk g (by rw [List.mem_singleton.1 hg]; exact mem_fpG.2 ⟨i, h0, h1, rfl⟩)) (h.at_ i h0 h1)).1, h.inj⟩, fun g hg => by
    obtain ⟨i, h0, h1, rfl⟩ := mem_fpG.1 hg
    exact (MpV.loc _ _ w w (fun _ _ => rfl) (h.at_ i h0 h1)).2 _ (by simp)⟩
theorem MapsV.set (h : MapsV k G E w) (ho : Out [G i] w w') (h0 : 0 ≤ i) (h1 : i < k) (hm : MpV (G i) (encM nuV ptV (E' i)) w') (hE : ∀ x, x ≠ i → E' x = E x) : MapsV k G E' w' := by
  refine ⟨fun x x0 x1 => ?_, h.inj⟩
  by_cases e : x = i
  · rw [e]; exact hm
  · rw [hE x e]
    have hx := h.at_ x x0 x1
    refine (MpV.loc _ _ w w' (fun g hg => ?_) hx).1
    have hlt := (MpV.loc _ _ w w (fun _ _ => rfl) hx).2 (G x) (by simp)
    rw [List.mem_singleton.1 hg]
    exact ho.block _ hlt (fun z => e (h.inj x i x0 x1 h0 h1 (List.mem_singleton.1 z)))
theorem MapsV.same (h : MapsV k G E w) (hE : ∀ x, E' x = E x) : MapsV k G E' w := ⟨fun i h0 h1 => by rw [hE]; exact h.at_ i h0 h1, h.inj⟩
end
section
variable {R : List Nat} {w w0 : World} {B : List Ent} {k : Int} {G : Int → Nat} {g : Nat}
theorem Mm.newG (M : Mm R w0 w B) (G : Int → Nat) : Mm R w0 w (.own (fpG 0 G) (MapsV 0 G fun _ => []) :: B) :=
  M.addOwn (Below.refl _ _) (fp := fpG 0 G) ⟨fun i h0 h1 => by omega, fun i j h0 h1 => by omega⟩ (MapsV.loc 0 G fun _ => []) (fun g hg => by cases hg)
theorem Mm.addG (M : Mm R w0 w (.own [g] (MpV g []) :: .own (fpG k G) (MapsV k G fun _ => []) :: B)) (hk : 0 ≤ k) : Mm R w0 w (.own (fpG (k + 1) (putG G k g)) (MapsV (k + 1) (putG G k g) fun _ => []) :: B) := by
  have h1 : MpV g [] w := M.pv (i := 0) rfl
  have h2 : MapsV k G (fun _ => []) w := M.pv (i := 1) rfl
  have hap := M.apart (i := 0) (j := 1) rfl rfl (by decide) g (by simp [Ent.fp])
  have hG : ∀ i, 0 ≤ i → i < k → G i ≠ g := fun i h0 h1 e => hap (show g ∈ fpG k G from mem_fpG.2 ⟨i, h0, h1, e⟩)
  have hat : ∀ i, 0 ≤ i → i < k → putG G k g i = G i := fun i h0 h1 => if_neg (by omega)
  have hk' : putG G k g k = g := if_pos rfl
  refine Mm.recast (X := [.own [g] (MpV g []), .own (fpG k G) (MapsV k G fun _ => [])]) (Y := [_]) M (fun y hy => ?_) (fun y hy q hq => ?_) (List.pairwise_singleton _ _) (fun y hy q hq => ?_)
  · rw [List.mem_singleton.1 hy]
    refine ⟨⟨fun i h0 h3 => ?_, fun i j h0 h3 h4 h5 e => ?_⟩, MapsV.loc _ _ _⟩
    · by_cases e : i = k
      · rw [e, hk']; exact h1
      · rw [hat i h0 (by omega)]; exact h2.at_ i h0 (by omega)
    · by_cases e1 : i = k <;> by_cases e2 : j = k
      · omega
      · rw [e1, hk', hat j h4 (by omega)] at e; exact absurd e.symm (hG j h4 (by omega))
      · rw [e2, hk', hat i h0 (by omega)] at e; exact absurd e (hG i h0 (by omega))
      · rw [hat i h0 (by omega), hat j h4 (by omega)] at e; exact h2.inj i j h0 (by omega) h4 (by omega) e
  · rw [List.mem_singleton.1 hy] at hq
    obtain ⟨i, h0, h3, rfl⟩ := mem_fpG.1 (show q ∈ fpG (k + 1) (putG G k g) from hq)
    by_cases e : i = k
    · rw [e, hk']; exact ⟨.own [g] (MpV g []), by simp, (show g ∈ [g] from List.mem_singleton.2 rfl)⟩
    · rw [hat i h0 (by omega)]; exact ⟨.own (fpG k G) (MapsV k G fun _ => []), by simp, mem_fpG.2 ⟨i, h0, by omega, rfl⟩⟩
  · rw [List.mem_singleton.1 hy] at hq; cases hq
end
section
variable {ops rest : List Oper} {o : Oper} {a : Act} {n : Nat} {L : List (Nat × Value)} {Q : Exit → Act → World → Prop} {R : List Nat} {w w0 : World} {B : List Ent} {x y z : Operand} {i r : Nat} {k q s : Int} {G : Int → Nat} {E E' : Int → List (Int × Nat)}
theorem sq_updG (F : Fr a n L) (M : Mm R w0 w B) (hw : Region.wanted o (yielded ops.toArray a.tmps) = true) (ho : o.op = .mapUpdate 60 x y z) (hx : a.eval x = .map (some (G q))) (hy : a.eval y = nuV s) (hz : a.eval z = ptV r)
    (hi : B[i]? = some (.own (fpG k G) (MapsV k G E))) (h0 : 0 ≤ q) (h1 : q < k) (hC : ((s, r) :: delM (E q) s).Perm (E' q)) (hE : ∀ x, x ≠ q → E' x = E x) (hd : o.dst = none)
    (h : ∀ w', Mm R w0 w' (B.set i (.own (fpG k G) (MapsV k G E'))) → wpList Try.prog ops.toArray Q rest a w') : wpList Try.prog ops.toArray Q (o :: rest) a w := by
  obtain ⟨K, hK, hk⟩ := mtOrd.keys
  obtain ⟨w', hr, h1', h2'⟩ := update_run hK hk mtOrd.inj mtOrd.ty ((M.pv hi).at_ q h0 h1) hC
  exact sq_run0 F hw (v := undef) (.inr (by simp only [execOp, ho, hx, hy, hz]; simp [hr])) (M.swap hi (x' := .own (fpG k G) (MapsV k G E')) (h1'.mono (fun g hg => by rw [List.mem_singleton.1 hg]; exact mem_fpG.2 ⟨q, h0, h1, rfl⟩)) ⟨(M.pv hi).set h1' h0 h1 h2' hE, MapsV.loc _ _ _⟩ (fun g hg => .inl hg) (fun g hg => by cases hg)) hd h
theorem sq_delG (F : Fr a n L) (M : Mm R w0 w B) (hw : Region.wanted o (yielded ops.toArray a.tmps) = true) (ho : o.op = .call { callee := .builtin .delete, args := #[x, y], argTypes := #[60, 3] }) (hx : a.eval x = .map (some (G q))) (hy : a.eval y = nuV s)
    (hi : B[i]? = some (.own (fpG k G) (MapsV k G E))) (h0 : 0 ≤ q) (h1 : q < k) (hC : delM (E q) s = E' q) (hE : ∀ x, x ≠ q → E' x = E x) (hd : o.dst = none)
    (h : ∀ w', Mm R w0 w' (B.set i (.own (fpG k G) (MapsV k G E'))) → wpList Try.prog ops.toArray Q rest a w') : wpList Try.prog ops.toArray Q (o :: rest) a w := by
  obtain ⟨K, hK, hk⟩ := mtOrd.keys
  obtain ⟨w', hr, h1', h2'⟩ := delete_run (ty := o.type) hK hk mtOrd.inj mtOrd.ty ((M.pv hi).at_ q h0 h1) (List.Perm.of_eq hC)
  exact sq_run0 F hw (v := .tuple #[]) (.inl (by simp only [execOp, ho, resolve, invoke, builtin, List.map_toArray, List.map, hx, hy]; simp [hr])) (M.swap hi (x' := .own (fpG k G) (MapsV k G E')) (h1'.mono (fun g hg => by rw [List.mem_singleton.1 hg]; exact mem_fpG.2 ⟨q, h0, h1, rfl⟩)) ⟨(M.pv hi).set h1' h0 h1 h2' hE, MapsV.loc _ _ _⟩ (fun g hg => .inl hg) (fun g hg => by cases hg)) hd h
end
def ordQ (r : Nat) (n f me sd : Int) (G : Int → Nat) (nx : Int → Int) (tw : Int → Bool) (W : List Sl) : List Ent :=
  [.blk r 64 (ordB n f me sd n G nx tw), .own (fpG n G) (MapsV n G (rowJ W)), .own (W.flatMap Sl.fp) (ObjsV Sl.fp ΦP W)]
theorem ordQ_base {r : Nat} {n f me sd : Int} {G : Int → Nat} {nx : Int → Int} {tw : Int → Bool} {W : List Sl} : ∀ x ∈ ordQ r n f me sd G nx tw W, x.base = [] := by simp [ordQ, Ent.base]
def OrdV (r : Nat) (fp : List Nat) (O : Od) (w : World) : Prop :=
  ∃ G W, fp = fpE (ordQ r O.n O.f O.me O.sd G O.nx O.tw W) ∧ PkV (ordQ r O.n O.f O.me O.sd G O.nx O.tw W) w ∧ WOP O.n O.f O.nx O.C W ∧ bnewE O.n O.f = 0
theorem OrdV.loc (r : Nat) (fp : List Nat) (O : Od) : Loc fp (OrdV r fp O) := fun w w' hk ⟨G, W, e, h, h1, h2⟩ => by
  subst e
  have := PkV.loc _ w w' hk h
  exact ⟨⟨G, W, rfl, this.1, h1, h2⟩, this.2⟩
abbrev CaY := List Sl × Nat × Sl
def CastP (r : Nat) (n f me sd : Int) (G : Int → Nat) (nx : Int → Int) (tw : Int → Bool) (C : Int → Int → Cs) (k s : Int) (y : CaY) (w : World) : Prop :=
  PkV (ordQ r n f me sd G nx tw y.1) w ∧ (y.1[y.2.1]? = some y.2.2 ∧ y.2.2.o = k ∧ y.2.2.s = s ∧ WOP n f nx C y.1)
theorem CastP.loc (r : Nat) (n f me sd : Int) (G : Int → Nat) (nx : Int → Int) (tw : Int → Bool) (C : Int → Int → Cs) (k s : Int) (y : CaY) : Loc (fpE (ordQ r n f me sd G nx tw y.1)) (CastP r n f me sd G nx tw C k s y) := fun w w' hk h => by
  have := PkV.loc _ w w' hk h.1
  exact ⟨⟨this.1, h.2⟩, this.2⟩
theorem CastP.cast {r : Nat} {n f me sd : Int} {G : Int → Nat} {nx : Int → Int} {tw : Int → Bool} {C : Int → Int → Cs} {k s : Int} {y : CaY} {w : World} (h : CastP r n f me sd G nx tw C k s y w) : y.2.2.S = C k s :=
  h.2.2.2.2.cast h.2.1 h.2.2.1 h.2.2.2.1
section
variable {R : List Nat} {w w0 : World} {B : List Ent}
theorem Mm.endP {t : TypeId} {m k : Nat} {v : Value} {cs : List Value} {Φ Ψ : World → Prop} {fp : List Nat} {Z : Ent → Prop} (M : Mm R w0 w (B ++ [.row t m v k cs])) (hR : R = fp) (hb : ∀ x ∈ B, x.base = []) (hΨ : PkV B w → Ψ w) (hl : Loc (fpE B) Ψ) (hz : Z (.own (fpE B) Ψ)) :
    TurnsN w0 (.own fp Φ) Z t m cs k (.returned v) w := by
  have M1 : Mm R w0 w B := M.sub (List.sublist_append_left _ _)
  have hp := List.pairwise_append.1 M.nd
  have hr1 : (Ent.row t m v k cs) ∈ B ++ [.row t m v k cs] := by simp
  have ho : ∀ y, y ∈ B ++ [.row t m v k cs] → ∀ g ∈ y.fp, g ∈ fp ∨ w0.heap.size ≤ g := fun y hy g hg => (M.own y hy g hg).elim .inr (fun z => .inl (hR ▸ z))
  refine ⟨v, .own (fpE B) Ψ, rfl, hR ▸ M.out, ⟨hΨ (M1.pkv hb), hl⟩, fun g hg => ?_, rfl, hz, M.has _ hr1, fun g hg => ⟨ho _ hr1 g (by simpa [Ent.fp] using hg), fun hg' => ?_⟩⟩
  · obtain ⟨x, hx, hgx⟩ := mem_fpE.1 (show g ∈ fpE B from hg)
    exact ho x (List.mem_append.2 (.inl hx)) g hgx
  · obtain ⟨x, hx, hgx⟩ := mem_fpE.1 (show g ∈ fpE B from hg')
    exact hp.2.2 x hx _ (by simp) g hgx (show g ∈ (Ent.row t m v k cs).fp by simpa [Ent.fp] using hg)
theorem Mm.ordNewB {r : Nat} {n f me sd : Int} {G : Int → Nat} {nx : Int → Int} {tw : Int → Bool} (M : Mm R w0 w (.blk r 64 (ordB n f me sd n G nx tw) :: .own (fpG n G) (MapsV n G fun _ => []) :: B)) : Mm R w0 w (ordQ r n f me sd G nx tw []) := by
  have M1 := M.conv (i := 1) (Ψ := MapsV n G (rowJ [])) rfl (fun h => h.same fun _ => rfl) (MapsV.loc _ _ _)
  have M3 := M1.addOwn (fp := ([] : List Sl).flatMap Sl.fp) (Below.refl _ _) (ObjsV.nil Sl.fp ΦP w) (ObjsV.loc locP []) (fun g hg => by cases hg)
  exact M3.pick [1, 2, 0] (by decide) rfl
end
theorem SmS.dnl {S : Cs} (h : SmS S) : (S.dn.getD []).length ≤ 400 := by
  cases hq : S.dn with
  | none => exact Nat.zero_le _
  | some t => exact h.dn t hq
section
variable {P : Program} {ops rest : List Oper} {o : Oper} {a : Act} {n : Nat} {Z : List (Nat × Value)} {Q : Exit → Act → World → Prop} {R : List Nat} {w w0 : World} {B : List Ent} {x y : Operand} {t ty : TypeId} {i j k m q : Nat} {v u : Value} {xs : List Value}
theorem stF_run (M : Mm R w0 w B) (ho : o.op = .store ty x y) (hx : a.eval x = .pointer (some ⟨gof v, oof v + j * m + q, none⟩)) (hy : a.eval y = u)
    (hi : B[i]? = some (.row t m v k xs)) (hT : (P.info? ty).map (·.size) = some 1) (hk : j < k) (hq : q < m) (h1' : u.oneCell' = true) (hv' : u.cells = #[u]) {ys : List Value} (he : xs.set (j * m + q) u = ys) :
    ∃ w', (execOp a.eval o).run P w = .ok .skip w' ∧ Mm R w0 w' (B.set i (.row t m v k ys)) := by
  subst he
  have h1 : ∀ z ∈ [u], z.oneCell' = true := fun z hz => by rw [List.mem_singleton.1 hz]; exact h1'
  have hown : w.ownsRow 0 t m v k xs := M.get hi
  have hjm : j * m + q + 1 ≤ k * m := by
    have := Nat.mul_le_mul_right m (show j + 1 ≤ k by omega)
    rw [Nat.add_mul, Nat.one_mul] at this
    omega
  generalize hp : j * m + q = p at hjm
  rcases hown.2 with ⟨rfl, rfl⟩ | ⟨g, cap, cur, rfl, hbg, hg, hnc, hcm, hcs, htake⟩
  · omega
  · have hcap : k * m ≤ cap * m := Nat.mul_le_mul_right m hnc
    cases hqq : P.info? ty with
    | none => simp [hqq] at hT
    | some inf =>
      have hs : inf.size = 1 := by simpa [hqq] using hT
      have hst := run_storeCells_at P g p t [u] 0 cur w hg (by simp; omega) h1
      simp only [Nat.add_zero, List.length_singleton] at hst
      have hxl := hown.1
      have hnew : (cur.toList.take p ++ [u] ++ cur.toList.drop (p + 1)).length = cur.size := by simp; omega
      refine ⟨w.setRow g (cur.toList.take p ++ [u] ++ cur.toList.drop (p + 1)).toArray, ?_, M.swap hi (x' := .row t m (.slice (some ⟨g, 0, none⟩) k cap) k (xs.set p u)) ⟨rfl, rfl, rfl, by simp, fun q' _ hq' => ?_⟩ ?_ (fun g h => .inl h) (fun g h => by cases h)⟩
      · have hx' : a.eval x = .pointer (some ⟨g, p, none⟩) := by rw [hx, ← hp]; simp [gof, oof]
        simp only [execOp, ho, hx', hy]
        simp [Instr.storeAt, Instr.sureAddr, storeVar, sizeOf, typeInfo, hqq, hs, hv', hst]
      · have hne : g ≠ q' := fun e => hq' (by rw [e]; simp [Ent.fp, Value.ownBlock])
        simp [World.setRow, Array.getElem?_modify, hne]
      · refine ⟨by rw [List.length_set]; exact hxl, .inr ⟨g, cap, _, rfl, hbg, Blk.row hg _, hnc, hcm, ?_, ?_⟩⟩
        · rw [List.size_toArray, hnew]; exact hcs
        · rw [← htake]
          apply List.ext_getElem?
          intro z
          simp only [List.getElem?_take, List.getElem?_append, List.getElem?_drop, List.length_append, List.length_take, List.length_drop, List.length_singleton, List.getElem?_set]
          grind
theorem sq_stF (F : Fr a n Z) (M : Mm R w0 w B) (hw : Region.wanted o (yielded ops.toArray a.tmps) = true) (ho : o.op = .store ty x y) (hx : a.eval x = .pointer (some ⟨gof v, oof v + j * m + q, none⟩)) (hy : a.eval y = u)
    (hi : B[i]? = some (.row t m v k xs)) (hT : (P.info? ty).map (·.size) = some 1) (hk : j < k) (hq : q < m) (h1' : u.oneCell' = true) (hv' : u.cells = #[u]) {ys : List Value} (he : xs.set (j * m + q) u = ys) (hd : o.dst = none)
    (h : ∀ w', Mm R w0 w' (B.set i (.row t m v k ys)) → wpList P ops.toArray Q rest a w') : wpList P ops.toArray Q (o :: rest) a w := by
  obtain ⟨w', hr, M'⟩ := stF_run M ho hx hy hi hT hk hq h1' hv' he
  exact sq_run0 F hw (v := undef) (.inr hr) M' hd h
theorem ow_stF {K : Act → World → Prop} (M : Mm R w0 w B) (ho : o.op = .store ty x y) (hx : a.eval x = .pointer (some ⟨gof v, oof v + j * m + q, none⟩)) (hy : a.eval y = u)
    (hi : B[i]? = some (.row t m v k xs)) (hT : (P.info? ty).map (·.size) = some 1) (hk : j < k) (hq : q < m) (h1' : u.oneCell' = true) (hv' : u.cells = #[u]) {ys : List Value} (he : xs.set (j * m + q) u = ys) (hd : o.dst = none)
    (h : ∀ x w', Mm R w0 w' (B.set i (.row t m v k ys)) → K (a.put o.dst x) w') : o.wp P a w K Q := by
  obtain ⟨w', hr, M'⟩ := stF_run M ho hx hy hi hT hk hq h1' hv' he
  unfold Oper.wp
  rw [hr]
  exact h _ _ M'
end
theorem cF_put {L : List Fm} {j q : Nat} {v : Value} {fm : Fm} (hj : j < L.length) (hq : q < 38) (h : (cFm (atF L j)).set q v = cFm fm) : (cF L).set (j * 38 + q) v = cF (L.set j fm) := by
  rw [atF_eq hj] at h
  induction L generalizing j with
  | nil => cases hj
  | cons b r ih =>
    have hb : (cFm b).length = 38 := cFm_len b
    cases j with
    | zero =>
      show (cFm b ++ cF r).set (0 * 38 + q) v = cFm fm ++ cF r
      rw [Nat.zero_mul, Nat.zero_add, List.set_append_left _ _ (by omega)]
      congr 1
    | succ j =>
      show (cFm b ++ cF r).set ((j + 1) * 38 + q) v = cFm b ++ cF (r.set j fm)
      rw [List.set_append_right _ _ (by omega), show (j + 1) * 38 + q - (cFm b).length = j * 38 + q by omega, ih (by simpa using hj) h]
theorem cF_put2 {L : List Fm} {j q : Nat} {v : Value} {fm fn : Fm} (hj : j < L.length) (hq : q < 38) (h : (cFm fn).set q v = cFm fm) : (cF (L.set j fn)).set (j * 38 + q) v = cF (L.set j fm) := by
  rw [cF_put (fm := fm) (by rw [List.length_set]; exact hj) hq (by rw [atF_eq (by rw [List.length_set]; exact hj), List.getElem_set_self]; exact h), List.set_set]
def tellH (O : Od) (m : Fm) (l : List Fm) (i : Nat) : List Fm := tellG O m (l.take i) ++ l.drop i
section
variable {O : Od} {m : Fm} {L : List (Int × Tx)} {i : Nat}
theorem tellH_len : (tellH O m (frmL L) i).length = L.length := by
  unfold tellH tellG
  rw [List.length_append, List.length_map, List.length_take, List.length_drop, frm_len]; omega
theorem tellH_zero : tellH O m (frmL L) 0 = frmL L := by simp [tellH, tellG]
theorem tellH_end (hm : okF O m = true) (hi : i = (tellF (O.C m.org m.seq) m.kind m.frm m.text).length) : tellH O m (frmL (tellF (O.C m.org m.seq) m.kind m.frm m.text)) i = tellO O m := by
  unfold tellH
  rw [List.take_of_length_le (by rw [frm_len]; omega), List.drop_of_length_le (by rw [frm_len]; omega), List.append_nil]
  exact tellG_end hm
theorem tellH_at (hi : i < L.length) : atF (tellH O m (frmL L) i) i = atF (frmL L) i := by
  have h1 : i < (frmL L).length := by rw [frm_len]; exact hi
  rw [atF_eq (by rw [tellH_len]; exact hi), atF_eq h1]
  unfold tellH
  rw [List.getElem_append_right (by unfold tellG; rw [List.length_map, List.length_take]; omega)]
  have e : (tellG O m ((frmL L).take i)).length = i := by unfold tellG; rw [List.length_map, List.length_take]; omega
  simp only [e, List.getElem_drop]
  congr 1; omega
theorem tellH_step (hi : i < L.length) (fm : Fm) (hf : fm = ⟨(atF (frmL L) i).kind, O.me, (atF (frmL L) i).dst, m.org, m.seq, (atF (frmL L) i).text, (atF (frmL L) i).tag⟩) : (tellH O m (frmL L) i).set i fm = tellH O m (frmL L) (i + 1) := by
  have h1 : i < (frmL L).length := by rw [frm_len]; exact hi
  have e0 : atF (frmL L) i = ⟨L[i].1, 0, 0, 0, 0, L[i].2, B32.zero⟩ := by rw [atF_eq h1]; simp [frmL]
  subst hf
  unfold tellH
  have e : (tellG O m ((frmL L).take i)).length = i := by unfold tellG; rw [List.length_map, List.length_take]; omega
  rw [List.set_append_right _ _ (by omega), e, Nat.sub_self, List.drop_eq_getElem_cons h1, List.set_cons_zero, List.take_succ_eq_append_getElem h1]
  unfold tellG
  rw [List.map_append, List.append_assoc]
  congr 1
  rw [← atF_eq h1, e0]; rfl
end
end Go.Proofs.Ytcobpabmmbcjcaa
