/- slices.SortFunc at points, by the order of package match: the shelf's contract at this program. Any seat with match's Off in it. -/
import Derived.Test.YtoadlnnhlnhkjaaLf
import Derived.Test.YtoadlnnhlnhkjaaMv
import Derived.Sort.Grow
import Derived.Shelf.SlSortCmp.NoneTotal
namespace Go.Proofs.Ytoadlnnhlnhkjaa
open Go.RowKit Go.Sort
set_option maxRecDepth 100000
set_option linter.unusedSimpArgs false
set_option linter.unusedVariables false

/-! ### The comparison, world by world -/
abbrev Laid (W w' : World) : Prop := ∃ (q : Nat) (os' : Array Obj), w' = grow (W.drewN q) os'
theorem Laid.trans {a b c : World} (h1 : Laid a b) (h2 : Laid b c) : Laid a c := by
  obtain ⟨q, os, rfl⟩ := h1
  obtain ⟨q', os', rfl⟩ := h2
  refine ⟨q + q', os ++ os', ?_⟩
  rw [← grow_grow]
  show grow (grow ((a.drewN q).drewN q') os) os' = _
  congr 2
  simp [World.drewN, Nat.add_assoc]
theorem laid2 (W : World) (a b : Obj) : Laid W ((W.alloc a).alloc b) := ⟨0, _, by rw [alloc_eq_grow, alloc_eq_grow, grow_grow]; rfl⟩
set_option maxHeartbeats 1000000 in
theorem cmpS_laid (a b : St) (w : World) : Calls Try.prog 24 #[.agg #[.int .i64 a.e, .int .i64 a.r], .agg #[.int .i64 b.e, .int .i64 b.r]] w fun e w' => e = .returned (.int .i64 (a.cmp b)) ∧ Laid w w' := by
  have E := fun W => eqS28 a b W
  go_enter Try.func24, Try.ntmps24
  go_wp2
  all_goals (clear E; go_ret; refine ⟨?_, laid2 _ _ _⟩; unfold St.cmp)
  all_goals (first
    | (rw [if_pos (by assumption)]; rfl)
    | (rw [if_neg (by assumption), if_pos (St.ahead_iff.2 (by omega))]; rfl)
    | (rw [if_neg (by assumption), if_neg (fun h => by have := St.ahead_iff.1 h; omega)]; rfl))
/-- By node, then by stamp. -/
def cmpP (x y : Po) : Int := if x.n = y.n then x.t.cmp y.t else Lib.compareInt x.n y.n
set_option maxHeartbeats 1000000 in
theorem byNode_laid (x y : Po) (w : World) : Calls Try.prog 19 #[.agg #[.int .i64 x.n, .int .i64 x.t.e, .int .i64 x.t.r], .agg #[.int .i64 y.n, .int .i64 y.t.e, .int .i64 y.t.r]] w fun e w' => e = .returned (.int .i64 (cmpP x y)) ∧ Laid w w' := by
  by_cases hn : x.n = y.n
  · have hs := fun W' => cmpS_laid x.t y.t W'
    unfold cmpP
    rw [if_pos hn]
    generalize x.t.cmp y.t = s at hs ⊢
    obtain ⟨xn, xt⟩ := x
    obtain ⟨yn, yt⟩ := y
    simp only at hn hs ⊢
    subst hn
    go_enter Try.func19, Try.ntmps19
    go_wp2_with (go_at_call 24; refine (hs _).mono ?_; rintro e w' ⟨rfl, q, os', rfl⟩)
    all_goals go_ret
    all_goals first
      | (rename_i z; exact absurd z (by simp))
      | exact ⟨rfl, (laid2 _ _ _).trans ⟨_, _, rfl⟩⟩
  · have hb : (x.n != y.n) = true := by simpa using hn
    have hc := fun W' => AnyG.cmp_Compare_int Try.ci5 x.n y.n W'
    change ∀ W', Calls Try.prog 23 _ _ _ at hc
    unfold cmpP
    rw [if_neg hn]
    generalize Lib.compareInt x.n y.n = r at hc ⊢
    go_enter Try.func19, Try.ntmps19
    go_wp2_with (go_at_call 23; refine (hc _).mono ?_; rintro e w' ⟨rfl, rfl⟩)
    all_goals go_ret
    all_goals first
      | exact ⟨rfl, laid2 _ _ _⟩
      | (exfalso; simp_all; done)
theorem cmpP_lt (x y : Po) : ltOf cmpP x y = aheadP x y := by
  rw [Bool.eq_iff_iff, aheadP_iff]
  unfold ltOf cmpP
  rw [decide_eq_true_iff]
  by_cases h : x.n = y.n
  · rw [if_pos h]
    unfold St.cmp
    by_cases e : x.t = y.t
    · rw [if_pos e, e]
      constructor
      · intro z; omega
      · rintro (z | ⟨_, z⟩)
        · omega
        · rw [ahead_irr] at z; cases z
    · rw [if_neg e]
      by_cases ha : x.t.aheadB y.t = true
      · rw [if_pos ha]; exact ⟨fun _ => .inr ⟨h, ha⟩, fun _ => by omega⟩
      · rw [if_neg ha]
        constructor
        · intro z; omega
        · rintro (z | ⟨_, z⟩)
          · omega
          · exact absurd z ha
  · rw [if_neg h]
    unfold Lib.compareInt
    by_cases h1 : x.n < y.n
    · simp [h1]
    · by_cases h2 : y.n < x.n
      · simp [h1, h2]; omega
      · omega
theorem cmpP_swo : SWO (ltOf cmpP) where
  irrefl x := by
    rw [cmpP_lt]
    cases h : aheadP x x with
    | false => rfl
    | true =>
      rw [aheadP_iff] at h
      rcases h with h | ⟨_, h⟩
      · omega
      · rw [ahead_irr] at h; cases h
  trans x y z h1 h2 := by rw [cmpP_lt] at *; exact aheadP_trans h1 h2
  ntrans x y z h1 h2 := by
    rw [cmpP_lt] at *
    cases h : aheadP x z with
    | false => rfl
    | true =>
      by_cases e : x = y
      · rw [e] at h; rw [h] at h2; cases h2
      · have h3 := aheadP_tri h1 e
        have h4 := aheadP_trans h3 h
        rw [h4] at h2; cases h2
/-! ### Points as cells -/
instance : Inhabited Po := ⟨⟨0, St.zero⟩⟩
def encPo (p : Po) : List Value := [.int .i64 p.n, .int .i64 p.t.e, .int .i64 p.t.r]
theorem encPo_one : ∀ x, ∀ v ∈ encPo x, v.oneCell' = true := fun x v hv => by
  simp only [encPo, List.mem_cons, List.not_mem_nil, or_false] at hv
  rcases hv with rfl | rfl | rfl <;> rfl
theorem flat_cQ (L : List Po) : flatK encPo 3 L.toArray = (cQ L).toArray := by
  have hl : (cQ L).length = L.length * 3 := cE_len (E := encQ) L
  refine ext_get! (by simp [hl]) fun i hi => ?_
  have hi' : i < L.length * 3 := by simpa using hi
  rw [get_flatK _ _ _ _ (by simpa using hi')]
  have hc := cQ_at (L := L) (i := i / 3) (by omega)
  have hg : ∀ j, j < 3 → (cQ L)[i / 3 * 3 + j]? = [Value.int .i64 (atQ L (i / 3)).n, .int .i64 (atQ L (i / 3)).t.e, .int .i64 (atQ L (i / 3)).t.r][j]? := fun j hj => by
    rw [← hc]; simp [hj]
  have h2 := hg (i % 3) (Nat.mod_lt _ (by omega))
  rw [show i / 3 * 3 + i % 3 = i by omega] at h2
  have h3 : L.toArray[i / 3]! = atQ L (i / 3) := by
    rw [atQ_eq (by omega)]; simp [show i / 3 < L.length by omega]
  have hlt : i < (cQ L).toArray.size := by simpa [hl] using hi'
  rw [getElem!_pos (cQ L).toArray i hlt, h3]
  have h4 : (cQ L).toArray[i] = (cQ L)[i]'(by simpa using hlt) := by simp
  rw [h4]
  rw [List.getElem?_eq_getElem (by simpa using hlt)] at h2
  have hm : i % 3 < 3 := Nat.mod_lt _ (by omega)
  unfold encPo
  rcases (show i % 3 = 0 ∨ i % 3 = 1 ∨ i % 3 = 2 by omega) with h5 | h5 | h5 <;> (rw [h5] at h2 ⊢; simpa using h2.symm)
/-! ### The sort -/
section
variable {w : World} {g t n : Nat}
/-- A slice's cells in its block. -/
theorem row_holds {cap : Nat} {L : List Po} (h : w.ownsRow 0 t 3 (.slice (some ⟨g, 0, none⟩) L.length cap) L.length (cQ L)) : HoldsK encPo 3 w g 0 L.toArray := by
  unfold HoldsK Holds
  rw [flat_cQ]
  intro j hj
  have hj' : j < (cQ L).length := by simpa using hj
  have h1 := h.cells (g := g) rfl j _ (List.getElem?_eq_getElem hj')
  have e : (⟨g, 0, none⟩ : Addr).add j = ⟨g, 0 + j, none⟩ := by unfold Addr.add; split <;> simp_all
  rw [e] at h1
  refine ⟨by rw [h1, getElem!_pos (cQ L).toArray j hj]; simp, ?_⟩
  rcases h.2 with ⟨h2, _⟩ | ⟨g', cap', cur', h2, _, h3, _⟩
  · cases h2
  · injection h2 with h2; injection h2 with h2; injection h2 with h2
    subst h2
    simp [World.frozen?, h3]
end
theorem sort_end {α : Type} [Inhabited α] {enc : α → List Value} {k g : Nat} {w : World} {n : Nat} {d' : Array α} {os : Array Obj} : Out [g] w (sortWorldK enc k w g 0 n d' os) := by
  have h0 : Out [g] w (Sort.ahead w n) := ⟨rfl, rfl, rfl, Nat.le_refl _, fun _ _ _ => rfl⟩
  have h1 : Out [g] (Sort.ahead w n) (putRow id (Sort.ahead w n) g 0 (flatK enc k d')) := ⟨rfl, rfl, rfl, by simp, fun k _ hk => by
    unfold putRow mapBlock
    simp only [Array.getElem?_modify]
    rw [if_neg (fun e => hk (by simp [e]))]⟩
  have h2 : Out [g] (putRow id (Sort.ahead w n) g 0 (flatK enc k d')) (sortWorldK enc k w g 0 n d' os) := ⟨rfl, rfl, rfl, by simp [sortWorldK, grow, putRowK], fun k hk _ => by
    simp only [sortWorldK, grow, putRowK]
    rw [Array.getElem?_append_left hk]⟩
  exact (h0.trans h1 (fun _ h => .inr h)).trans h2 (fun _ h => .inr h)
theorem sort_row {g t cap : Nat} {w : World} {L L' : List Po} (hl : L'.length = L.length) (h : w.ownsRow 0 t 3 (.slice (some ⟨g, 0, none⟩) L.length cap) L.length (cQ L)) {n : Nat} {os : Array Obj} :
    (sortWorldK encPo 3 w g 0 n L'.toArray os).ownsRow 0 t 3 (.slice (some ⟨g, 0, none⟩) L.length cap) L'.length (cQ L') := by
  obtain ⟨h1, h2⟩ := h
  have hq : ∀ K : List Po, (cQ K).length = K.length * 3 := fun K => cE_len (E := encQ) K
  refine ⟨hq L', ?_⟩
  rcases h2 with ⟨h2, _⟩ | ⟨g', cap', cur, h2, h3, h4, h5, h6, h7, h8⟩
  · cases h2
  · injection h2 with h2 h9 h10
    injection h2 with h2
    injection h2 with h2
    subst h2; subst h10
    have hsz : (flatK encPo 3 L'.toArray).size = L.length * 3 := by rw [flat_cQ]; simp [hq, hl]
    refine .inr ⟨g, cap, putCells id 0 (flatK encPo 3 L'.toArray) cur, by rw [hl], Nat.zero_le _, ?_, by omega, h6, by simp [putCells, h7], ?_⟩
    · have hlt : g < w.heap.size := (Array.getElem?_eq_some_iff.1 h4).1
      simp only [sortWorldK, grow, putRowK, putRow, mapBlock]
      rw [Array.getElem?_append_left (by simpa using hlt), Array.getElem?_modify, if_pos rfl, show (Sort.ahead w n).heap[g]? = some (Obj.cells cur t) from h4]
      rfl
    · have hct : cur.toList.length = cap * 3 := by simpa using h7
      refine List.ext_getElem (by simp only [List.length_take, putCells, Array.length_toList, Array.size_mapIdx, h7, hq]; omega) fun i hi1 hi2 => ?_
      have hi3 : i < L'.length * 3 := by rw [hq] at hi2; exact hi2
      rw [List.getElem_take]
      simp only [putCells, Array.getElem_toList, Array.getElem_mapIdx, Nat.zero_le, true_and, Nat.zero_add, Nat.sub_zero, id_eq]
      rw [if_pos (by rw [hsz, ← hl]; exact hi3), getElem!_pos _ i (by rw [hsz, ← hl]; exact hi3)]
      simp only [flat_cQ]
      simp
/-- What a sort leaves of a slice of points. -/
theorem pdq_list {L : List Po} {d' : Array Po} (hp : PermIn 0 L.toArray.size L.toArray d') (hs : SortedIn (ltOf cmpP) 0 L.toArray.size d') : ∃ L' : List Po, d' = L'.toArray ∧ L'.Perm L ∧ L'.Pairwise fun a b => aheadP b a = false := by
  refine ⟨d'.toList, by simp, ?_, ?_⟩
  · obtain ⟨h1, _, h2⟩ := hp
    have e1 : d'.extract 0 L.toArray.size = d' := by rw [← h1]; simp
    have e2 : L.toArray.extract 0 L.toArray.size = L.toArray := by simp
    rw [e1, e2] at h2
    simpa using h2
  · rw [List.pairwise_iff_getElem]
    intro i j hi hj hij
    have hsz : d'.size = L.toArray.size := hp.1
    have hj' : j < d'.size := by simpa using hj
    have := hs i j (Nat.zero_le _) hij (by omega)
    rw [cmpP_lt, getElem!_pos d' i (by omega), getElem!_pos d' j hj'] at this
    simpa using this
/-- slices.SortFunc of a slice of points. -/
theorem psort_any (L : List Po) (v : Value) (w : World) (h : w.ownsRow 0 30 3 v L.length (cQ L)) (hl : L.length ≤ 1000000) :
    Calls Try.prog 18 #[v, .func (.func 19) #[] #[]] w (TurnsE w (.row 30 3 v L.length (cQ L)) (fun u x' => ∃ L' : List Po, u = .tuple #[] ∧ (L'.Perm L ∧ L'.Pairwise fun a b => aheadP b a = false) ∧ x' = .row 30 3 v L'.length (cQ L'))) := by
  have eg : ∀ args w, (callFunc 19 args).run Try.prog w = .ok (.enter 19 args) w := enters_of Try.func19 (by kernel_rfl) rfl
  rcases h.2 with ⟨h1, h2⟩ | ⟨g, cap, cur, h1, h2, h3, h4⟩
  · have hn : L = [] := List.eq_nil_of_length_eq_zero h2
    subst hn
    subst h1
    have hc := AnyF.slices_SortFunc_none { Try.sf6 with } none 0 (.func (.func 19) #[] #[]) w
    refine Calls.mono hc ?_
    rintro e w' ⟨rfl, rfl⟩
    exact ⟨_, .row 30 3 (.slice none 0 0) 0 (cQ []), rfl, Out.refl _ _, h, fun g hg => .inl hg, rfl, [], rfl, ⟨List.Perm.refl _, List.Pairwise.nil⟩, rfl⟩
  · subst h1
    have hlt : g < w.heap.size := (Array.getElem?_eq_some_iff.1 h3).1
    have hc := AnyQ.slices_SortFunc Try.sf6 3 (fun w => by kernel_rfl) (fun w => by kernel_rfl) encPo (fun _ => rfl) encPo_one cmpP cmpP_swo 19 #[] g 0 cap L.toArray w eg (fun _ _ _ _ x y => byNode_laid x y _) (row_holds h) hlt (by simp; omega)
    refine Calls.mono (show Calls Try.prog 18 #[.slice (some ⟨g, 0, none⟩) L.length cap, .func (.func 19) #[] #[]] w _ from hc) ?_
    rintro e w' ⟨rfl, d', n, os, hp, hs, rfl⟩
    obtain ⟨L', rfl, h5, h6⟩ := pdq_list hp hs
    have hr := sort_row (t := 30) (n := n) (os := os) h5.length_eq h
    rw [← h5.length_eq] at hr
    refine ⟨_, .row 30 3 (.slice (some ⟨g, 0, none⟩) L.length cap) L'.length (cQ L'), rfl, sort_end.mono (by simp [Ent.fp, Value.ownBlock]), ?_, fun g hg => .inl hg, rfl, L', rfl, ⟨h5, h6⟩, rfl⟩
    rw [h5.length_eq] at hr
    show World.ownsRow _ 0 _ 3 _ L'.length (cQ L')
    rw [h5.length_eq]
    exact hr
end Go.Proofs.Ytoadlnnhlnhkjaa
