/- Rows of rows of rows that are read: slices of slices of slices of stamps. Any seat. -/
import Derived.Test.YtoadlnnhlnhkjaaGv
namespace Go.Proofs.Ytoadlnnhlnhkjaa
open Go.RowKit
set_option maxRecDepth 100000
set_option linter.unusedSimpArgs false
set_option linter.unusedVariables false

def fpN (v : Value) (n : Nat) : List Nat := if n = 0 then [] else [gof v]
theorem mem_fpN {v : Value} {n g : Nat} : g ∈ fpN v n ↔ 0 < n ∧ g = gof v := by
  unfold fpN
  split
  · constructor
    · intro h; cases h
    · intro h; omega
  · rw [List.mem_singleton]
    exact ⟨fun h => ⟨by omega, h⟩, fun h => h.2⟩
theorem RdV.keep {w w' : World} {m n : Nat} {v : Value} {xs : List Value} (h : RdV w m v n xs) (hk : ∀ g ∈ fpN v n, w'.heap[g]? = w.heap[g]?) : RdV w' m v n xs ∧ ∀ g ∈ fpN v n, g < w.heap.size := by
  obtain ⟨h1, A, c, h2, h3, h4, h5⟩ := h
  refine ⟨⟨h1, A, c, h2, h3, h4, fun hn => ?_⟩, fun g hg => ?_⟩
  · obtain ⟨g, off, e, h6, h7⟩ := h5 hn
    have hg : gof v = g := by rw [h2, e]; rfl
    have hb := hk g (mem_fpN.2 ⟨hn, hg.symm⟩)
    refine ⟨g, off, e, ?_, fun j u hu => ?_⟩
    · rcases Nat.lt_or_ge g w'.heap.size with hl | hl
      · exact hl
      · rw [Array.getElem?_eq_none hl, Array.getElem?_eq_getElem h6] at hb; cases hb
    · have := h7 j u hu
      unfold World.cell? at this ⊢
      simp only at this ⊢
      rw [hb]; exact this
  · obtain ⟨hn, rfl⟩ := mem_fpN.1 hg
    obtain ⟨g, off, e, h6, h7⟩ := h5 hn
    rw [h2, e]; exact h6
def atW (L : List (List Value)) (i : Nat) : List Value := L.getD i []
def at3 (L : List (List (List St))) (i : Nat) : List (List St) := L.getD i []
theorem at3_eq {L : List (List (List St))} {i : Nat} (h : i < L.length) : at3 L i = L[i] := by unfold at3; rw [List.getD_eq_getElem?_getD, List.getElem?_eq_getElem h]; rfl
theorem atR_ext {A B : List (List St)} (hl : A.length = B.length) (h : ∀ j, j < A.length → atR A j = atR B j) : A = B := by
  apply List.ext_getElem hl
  intro j h1 h2
  have := h j h1
  unfold atR at this
  rwa [List.getD_eq_getElem?_getD, List.getD_eq_getElem?_getD, List.getElem?_eq_getElem h1, List.getElem?_eq_getElem h2] at this
theorem at3_ext {A B : List (List (List St))} (hl : A.length = B.length) (h : ∀ j, j < A.length → at3 A j = at3 B j) : A = B := by
  apply List.ext_getElem hl
  intro j h1 h2
  have := h j h1
  rwa [at3_eq h1, at3_eq h2] at this
/-- How large rows of rows of rows may be. -/
def Sm3 (L : List (List (List St))) : Prop := L.length ≤ 1000 ∧ (∀ i, (at3 L i).length ≤ 1000) ∧ ∀ i j, (atR (at3 L i) j).length ≤ 20000000
structure In3 (rs : List Value) (vss : List (List Value)) (L : List (List (List St))) (w : World) : Prop where
  lr : rs.length = L.length
  ls : vss.length = L.length
  lv : ∀ i, i < L.length → (atW vss i).length = (at3 L i).length
  row : ∀ i, i < L.length → RdV w 1 (atV rs i) (at3 L i).length (cV (atW vss i))
  one : ∀ i j, i < L.length → j < (at3 L i).length → RdS w (atV (atW vss i) j) (atR (at3 L i) j)
def fpI (rs : List Value) (vss : List (List Value)) (L : List (List (List St))) : List Nat :=
  (List.range L.length).flatMap fun i => fpN (atV rs i) (at3 L i).length ++ (List.range (at3 L i).length).flatMap fun j => fpN (atV (atW vss i) j) (atR (at3 L i) j).length
theorem mem_fpI {rs : List Value} {vss : List (List Value)} {L : List (List (List St))} {g : Nat} : g ∈ fpI rs vss L ↔ ∃ i, i < L.length ∧ (g ∈ fpN (atV rs i) (at3 L i).length ∨ ∃ j, j < (at3 L i).length ∧ g ∈ fpN (atV (atW vss i) j) (atR (at3 L i) j).length) := by
  unfold fpI
  simp only [List.mem_flatMap, List.mem_range, List.mem_append]
theorem In3.loc (rs : List Value) (vss : List (List Value)) (L : List (List (List St))) : Loc (fpI rs vss L) (In3 rs vss L) := fun w w' hk h => by
  refine ⟨⟨h.lr, h.ls, h.lv, fun i hi => ?_, fun i j hi hj => ?_⟩, fun g hg => ?_⟩
  · exact ((h.row i hi).keep fun g hg => hk g (mem_fpI.2 ⟨i, hi, .inl hg⟩)).1
  · exact (RdV.keep (h.one i j hi hj) fun g hg => hk g (mem_fpI.2 ⟨i, hi, .inr ⟨j, hj, hg⟩⟩)).1
  · obtain ⟨i, hi, h1 | ⟨j, hj, h1⟩⟩ := mem_fpI.1 hg
    · exact ((h.row i hi).keep (w' := w) fun _ _ => rfl).2 g h1
    · exact (RdV.keep (w' := w) (h.one i j hi hj) fun _ _ => rfl).2 g h1
structure Rd3 (v : Value) (rs : List Value) (vss : List (List Value)) (L : List (List (List St))) (w : World) : Prop where
  top : RdV w 1 v L.length (cV rs)
  inn : In3 rs vss L w
def fp3 (v : Value) (rs : List Value) (vss : List (List Value)) (L : List (List (List St))) : List Nat := fpN v L.length ++ fpI rs vss L
theorem Rd3.loc (v : Value) (rs : List Value) (vss : List (List Value)) (L : List (List (List St))) : Loc (fp3 v rs vss L) (Rd3 v rs vss L) := fun w w' hk h => by
  have h1 := h.top.keep (w' := w') fun g hg => hk g (List.mem_append.2 (.inl hg))
  have h2 := In3.loc rs vss L w w' (fun g hg => hk g (List.mem_append.2 (.inr hg))) h.inn
  refine ⟨⟨h1.1, h2.1⟩, fun g hg => ?_⟩
  rcases List.mem_append.1 hg with h3 | h3
  · exact h1.2 g h3
  · exact h2.2 g h3
theorem in3_nil (w : World) : In3 [] [] [] w := ⟨rfl, rfl, fun i h => absurd h (Nat.not_lt_zero i), fun i h => absurd h (Nat.not_lt_zero i), fun i _ h => absurd h (Nat.not_lt_zero i)⟩
theorem rd3_nil (w : World) : Rd3 nilV [] [] [] w := ⟨nil_rd w, in3_nil w⟩
theorem atV_app {L K : List Value} {i : Nat} (h : i < L.length) : atV (L ++ K) i = atV L i := by
  unfold atV; rw [List.getD_eq_getElem?_getD, List.getD_eq_getElem?_getD, List.getElem?_append_left h]
theorem atW_app {L K : List (List Value)} {i : Nat} (h : i < L.length) : atW (L ++ K) i = atW L i := by
  unfold atW; rw [List.getD_eq_getElem?_getD, List.getD_eq_getElem?_getD, List.getElem?_append_left h]
theorem at3_app {L K : List (List (List St))} {i : Nat} (h : i < L.length) : at3 (L ++ K) i = at3 L i := by
  unfold at3; rw [List.getD_eq_getElem?_getD, List.getD_eq_getElem?_getD, List.getElem?_append_left h]
theorem atV_last {L : List Value} {x : Value} {i : Nat} (h : i = L.length) : atV (L ++ [x]) i = x := by
  subst h; unfold atV; rw [List.getD_eq_getElem?_getD, List.getElem?_append_right (Nat.le_refl _)]; simp
theorem atW_last {L : List (List Value)} {x : List Value} {i : Nat} (h : i = L.length) : atW (L ++ [x]) i = x := by
  subst h; unfold atW; rw [List.getD_eq_getElem?_getD, List.getElem?_append_right (Nat.le_refl _)]; simp
theorem at3_last {L : List (List (List St))} {x : List (List St)} {i : Nat} (h : i = L.length) : at3 (L ++ [x]) i = x := by
  subst h; unfold at3; rw [List.getD_eq_getElem?_getD, List.getElem?_append_right (Nat.le_refl _)]; simp
section
variable {w : World} {rs vs : List Value} {vss : List (List Value)} {L : List (List (List St))} {K : List (List St)} {v : Value}
theorem in3_push (h : In3 rs vss L w) (hv : RdV w 1 v K.length (cV vs)) (hl : vs.length = K.length) (ho : ∀ j, j < K.length → RdS w (atV vs j) (atR K j)) : In3 (rs ++ [v]) (vss ++ [vs]) (L ++ [K]) w := by
  have hr := h.lr
  have hs := h.ls
  refine ⟨by simp [hr], by simp [hs], fun i hi => ?_, fun i hi => ?_, fun i j hi hj => ?_⟩
  · simp only [List.length_append, List.length_singleton] at hi
    rcases Nat.lt_or_ge i L.length with h1 | h1
    · rw [atW_app (by omega), at3_app h1]; exact h.lv i h1
    · rw [atW_last (by omega), at3_last (by omega)]; exact hl
  · simp only [List.length_append, List.length_singleton] at hi
    rcases Nat.lt_or_ge i L.length with h1 | h1
    · rw [atV_app (by omega), atW_app (by omega), at3_app h1]; exact h.row i h1
    · rw [atV_last (by omega), atW_last (by omega), at3_last (by omega)]; exact hv
  · simp only [List.length_append, List.length_singleton] at hi
    rcases Nat.lt_or_ge i L.length with h1 | h1
    · rw [at3_app h1] at hj ⊢
      rw [atW_app (by omega)]; exact h.one i j h1 hj
    · rw [at3_last (by omega)] at hj ⊢
      rw [atW_last (by omega)]; exact ho j hj
theorem fp_push (hr : rs.length = L.length) (hs : vss.length = L.length) {g : Nat} (hg : g ∈ fpI (rs ++ [v]) (vss ++ [vs]) (L ++ [K])) : g ∈ fpI rs vss L ∨ g ∈ fpN v K.length ∨ ∃ j, j < K.length ∧ g ∈ fpN (atV vs j) (atR K j).length := by
  obtain ⟨i, hi, h⟩ := mem_fpI.1 hg
  simp only [List.length_append, List.length_singleton] at hi
  rcases Nat.lt_or_ge i L.length with h1 | h1
  · rw [atV_app (by omega), atW_app (by omega), at3_app h1] at h
    exact .inl (mem_fpI.2 ⟨i, h1, h⟩)
  · rw [atV_last (by omega), atW_last (by omega), at3_last (by omega)] at h
    exact .inr h
theorem own_fpN {t : TypeId} {b m n : Nat} {xs : List Value} (h : w.ownsRow b t m v n xs) {g : Nat} (hg : g ∈ fpN v n) : v.ownBlock = some g := by
  obtain ⟨hn, rfl⟩ := mem_fpN.1 hg
  rcases h.2 with h4 | ⟨g', cap, cur, h4, _⟩
  · omega
  · rw [h4]; rfl
/-- A block of rows of the call's own goes into the rows of rows. -/
theorem Mm.push3 {R : List Nat} {w0 : World} {B : List Ent} {g t : Nat} {ty : TypeId} {n : Nat} (M : Mm R w0 w (.own (fpI rs vss L) (In3 rs vss L) :: .blk g t (List.toArray (cV vs)) :: .own (fpR vs) (RowsV ty vs K) :: B)) (hn : vs.length = n) (hb : n ≤ 1000000000) :
    Mm R w0 w (.own (fpI (rs ++ [.slice (some ⟨g, 0, none⟩) n n]) (vss ++ [vs]) (L ++ [K])) (In3 (rs ++ [.slice (some ⟨g, 0, none⟩) n n]) (vss ++ [vs]) (L ++ [K])) :: B) := by
  have h1 : In3 rs vss L w := M.pv (i := 0) rfl
  have h2 : Blk w g t (List.toArray (cV vs)) := M.at (i := 1) rfl
  have h3 : RowsV ty vs K w := M.pv (i := 2) rfl
  have hl := h3.len
  have hv : RdV w 1 (.slice (some ⟨g, 0, none⟩) n n) n (cV vs) := by
    have := blk_rdv (m := 1) h2 (by simp [cV, hn]) hb
    simpa using this
  have hp : In3 (rs ++ [.slice (some ⟨g, 0, none⟩) n n]) (vss ++ [vs]) (L ++ [K]) w := in3_push h1 (by rw [← hl, hn]; exact hv) hl (fun j hj => h3.rd (by omega))
  have hfp : ∀ q ∈ fpI (rs ++ [.slice (some ⟨g, 0, none⟩) n n]) (vss ++ [vs]) (L ++ [K]), q ∈ fpI rs vss L ∨ q = g ∨ q ∈ fpR vs := fun q hq => by
    rcases fp_push h1.lr h1.ls hq with h | h | ⟨j, hj, h⟩
    · exact .inl h
    · exact .inr (.inl (mem_fpN.1 h).2)
    · exact .inr (.inr (mem_fpR.2 ⟨j, by omega, own_fpN (h3.row j (by omega)) h⟩))
  have hnd := List.pairwise_cons.1 M.nd
  have hnd2 := List.pairwise_cons.1 hnd.2
  have hnd3 := List.pairwise_cons.1 hnd2.2
  refine ⟨M.out, fun y hy => ?_, fun y hy q hq => ?_, fun y hy q hq => ?_, List.pairwise_cons.2 ⟨fun y hy q hq hqy => ?_, hnd3.2⟩⟩
  · rcases List.mem_cons.1 hy with rfl | h
    · exact ⟨hp, In3.loc _ _ _⟩
    · exact M.has y (by simp [h])
  · rcases List.mem_cons.1 hy with rfl | h
    · rcases hfp q hq with h | h | h
      · exact M.own _ (by simp) q (show q ∈ (Ent.own (fpI rs vss L) (In3 rs vss L)).fp from h)
      · exact M.own (.blk g t (List.toArray (cV vs))) (by simp) q (by simp [Ent.fp, h])
      · exact M.own (.own (fpR vs) (RowsV ty vs K)) (by simp) q h
    · exact M.own y (by simp [h]) q hq
  · rcases List.mem_cons.1 hy with rfl | h
    · cases hq
    · exact M.far y (by simp [h]) q hq
  · rcases hfp q hq with h | h | h
    · exact hnd.1 y (by simp [hy]) q h hqy
    · exact hnd2.1 y (by simp [hy]) q (by simp [Ent.fp, h]) hqy
    · exact hnd3.1 y hy q h hqy
theorem Mm.push3o {R : List Nat} {w0 : World} {B : List Ent} {c : Ent} {g t : Nat} {ty : TypeId} {n : Nat} (M : Mm R w0 w (.own (fpR vs) (RowsV ty vs K) :: .blk g t (List.toArray (cV vs)) :: c :: .own (fpI rs vss L) (In3 rs vss L) :: B)) (hn : vs.length = n) (hb : n ≤ 1000000000) :
    Mm R w0 w (c :: .own (fpI (rs ++ [.slice (some ⟨g, 0, none⟩) n n]) (vss ++ [vs]) (L ++ [K])) (In3 (rs ++ [.slice (some ⟨g, 0, none⟩) n n]) (vss ++ [vs]) (L ++ [K])) :: B) := by
  have h1 := M.perm ((List.Perm.cons _ (List.Perm.cons _ (List.Perm.swap _ _ _))).trans ((List.Perm.cons _ (List.Perm.swap _ _ _)).trans ((List.Perm.swap _ _ _).trans (List.Perm.cons _ (List.Perm.swap _ _ _)))))
  exact (h1.push3 hn hb).perm (List.Perm.swap _ _ _)
theorem Mm.nil3 {R : List Nat} {w0 : World} {B : List Ent} (M : Mm R w0 w B) : Mm R w0 w (.own (fpI [] [] []) (In3 [] [] []) :: B) :=
  M.addOwn (Below.refl _ _) (in3_nil w) (In3.loc _ _ _) (fun g hg => by cases hg)
/-- The whole: its top and what lies in it. -/
theorem rd3_of {R : List Nat} {w0 : World} {B : List Ent} {t : TypeId} (M : Mm R w0 w B) {i k : Nat} (hi : B[i]? = some (.row t 1 v rs.length (cV rs))) (hk : B[k]? = some (.own (fpI rs vss L) (In3 rs vss L))) : Rd3 v rs vss L w ∧ ∀ g ∈ fp3 v rs vss L, w0.heap.size ≤ g ∨ g ∈ R := by
  have h1 : In3 rs vss L w := M.pv hk
  have h2 := M.ow hi
  refine ⟨⟨by rw [← h1.lr]; exact own_rdv h2, h1⟩, fun g hg => ?_⟩
  rcases List.mem_append.1 hg with h | h
  · rw [← h1.lr] at h
    exact M.own _ (List.mem_of_getElem? hi) g (by simp [Ent.fp, own_fpN h2 h])
  · exact M.own _ (List.mem_of_getElem? hk) g h
end
end Go.Proofs.Ytoadlnnhlnhkjaa
