/- A table of rows in one block, and windows of it; rows that are done; slices with a bound of their own. Any seat with package graph in it. -/
import Derived.Test.YtlgeodnbkndciaaGx
import Derived.Test.YtlgeodnbkndciaaSo
namespace Go.Proofs.Ytlgeodnbkndciaa
open Go.RowKit
set_option maxRecDepth 100000
set_option linter.unusedSimpArgs false
set_option linter.unusedVariables false

theorem evfn {a : Act} {f : FuncId} : a.eval (.func f) = .func (.func f) #[] #[] := rfl
abbrev winV (g o n : Nat) : Value := .slice (some ⟨g, o, none⟩) n n
section
variable {P : Program} {ops rest : List Oper} {o : Oper} {a : Act} {n d : Nat} {L : List (Nat × Value)} {Q : Exit → Act → World → Prop} {R : List Nat} {w w0 : World} {B : List Ent} {v : Value} {x y lo hi mx : Operand} {t e ty : TypeId} {i g k s N c m : Nat} {k1 k2 k3 : IntKind} {i1 i2 i3 : Int} {A V C X : List Value}
/-- places[lo:hi:hi] -/
theorem pu_slice3 (ho : o.op = .slice t x (some lo) (some hi) (some mx)) (hx : a.eval x = .slice (some ⟨g, 0, none⟩) N c) (hlo : a.eval lo = .int k1 i1) (hhi : a.eval hi = .int k2 i2) (hmx : a.eval mx = .int k3 i3) (hT : SlTy P t e 1)
    (h0 : 0 ≤ i1) (e1 : i1.toNat = s) (e2 : i2.toNat = s + m) (e3 : i3 = i2) (hm : 0 < m) (hc : s + m ≤ c) : Pure P o a (winV g s m) := fun w' => by
  obtain ⟨hu, hi'⟩ := hT
  subst e3
  cases hq : P.info? e with
  | none => simp [hq] at hi'
  | some inf =>
    have hs : inf.size = 1 := by simpa [hq] using hi'
    simp only [execOp, ho, hx, Option.map_some, hlo, hhi, hmx]
    have e9 : (Instr.sliceBounds true N c (some (.int k1 i1)) (some (.int k2 i3)) (some (.int k3 i3))).run P w' = .ok (i1.toNat, i3.toNat, i3.toNat) w' := by
      simp only [Instr.sliceBounds, Sem.run_bind, Sem.run_pure, Result.andThen_ok, run_sliceBound _ _ _ _ _ (show 0 ≤ i3 by omega) (show i3 ≤ (c : Int) by omega)]
      rw [run_sliceBound _ _ _ _ _ (show 0 ≤ i3 by omega) (show i3 ≤ ((i3.toNat : Nat) : Int) by omega)]
      simp only [Result.andThen_ok]
      rw [run_sliceBound _ _ _ _ _ h0 (show i1 ≤ ((i3.toNat : Nat) : Int) by omega)]
      rfl
    simp [Instr.sliceAt, Instr.slice, run_underlying hu, e9, sizeOf, typeInfo, hq, hs, addr_add]
    exact ⟨by rw [if_neg (by omega), e1], by omega⟩
/-- A window of a block reads. -/
theorem win_rdv (h : Blk w g t (List.toArray (cV X))) (hX : (X.drop s).take n = V) (hV : V.length = n) (hn : n ≤ 1000000000) : RdV w 1 (winV g s n) n (cV V) :=
  ⟨by show V.length = n * 1; omega, _, _, rfl, Nat.le_refl _, by unfold maxLen; omega, fun _ => ⟨g, s, rfl, h.lt, fun j u hj => by
    rw [h.cell, List.getElem?_toArray]
    have hj' : V[j]? = some u := hj
    rw [← hX, List.getElem?_take, List.getElem?_drop] at hj'
    split at hj'
    · exact hj'
    · cases hj'⟩⟩
theorem mid_win (hA : A.length = s) (hV : V.length = n) : ((A ++ V ++ C).drop s).take n = V := by
  rw [List.append_assoc, ← hA, List.drop_left, ← hV, List.take_left]
theorem mid_set {j : Nat} (hA : A.length = s) (hj : j < V.length) : (A ++ V ++ C).set (s + j) v = A ++ V.set j v ++ C := by
  rw [List.append_assoc, List.set_append_right _ _ (by omega), show s + j - A.length = j by omega, List.set_append_left _ _ (by omega), List.append_assoc]
/-- A store into a window. -/
theorem sq_stW {j : Nat} (F : Fr a n L) (M : Mm R w0 w B) (hw : Region.wanted o (yielded ops.toArray a.tmps) = true) (ho : o.op = .store ty x y) (hx : a.eval x = .pointer (some ⟨g, s + j * 1, none⟩)) (hy : a.eval y = v)
    (hi : B[i]? = some (.blk g t (List.toArray (cV (A ++ V ++ C))))) (hA : A.length = s) (hj : j < V.length) (hT : (P.info? ty).map (·.size) = some 1) (h1 : v.oneCell' = true) (hv : v.cells = #[v]) (hd : o.dst = none)
    (h : ∀ w', Mm R w0 w' (B.set i (.blk g t (List.toArray (cV (A ++ V.set j v ++ C))))) → wpList P ops.toArray Q rest a w') : wpList P ops.toArray Q (o :: rest) a w :=
  sq_st1 (j := s + j) F M hw ho (by rw [hx]; simp) hy hi (by simp only [cV, List.length_append]; omega) hT h1 hv hd (fun w' M' => h w' (by
    have e1 : (cV (A ++ V ++ C)).set (s + j) v = cV (A ++ V.set j v ++ C) := mid_set hA hj
    rwa [e1] at M'))
end
/-! ### A window with its rows -/
theorem fpR_rep (n : Nat) : fpR (List.replicate n nilV) = [] := by
  unfold fpR
  rw [List.flatMap_eq_nil_iff]
  intro v hv
  rw [(List.mem_replicate.1 hv).2]; rfl
structure TabV (t ty : TypeId) (g : Nat) (A V C : List Value) (L : List (List St)) (w : World) : Prop where
  blk : Blk w g t (List.toArray (cV (A ++ V ++ C)))
  rows : RowsV ty V L w
  ne : ¬ g ∈ fpR V
theorem TabV.loc (t ty : TypeId) (g : Nat) (A V C : List Value) (L : List (List St)) : Loc (g :: fpR V) (TabV t ty g A V C L) := fun w w' hk h => by
  have h2 := RowsV.loc ty V L w w' (fun q hq => hk q (List.mem_cons_of_mem _ hq)) h.rows
  refine ⟨⟨(hk g (List.mem_cons_self ..)).trans h.blk, h2.1, h.ne⟩, fun q hq => ?_⟩
  rcases List.mem_cons.1 hq with rfl | hq
  · exact h.blk.lt
  · exact h2.2 q hq
theorem TabV.loc0 (t ty : TypeId) (g n : Nat) (A C : List Value) (L : List (List St)) : Loc [g] (TabV t ty g A (List.replicate n nilV) C L) := by
  have := TabV.loc t ty g A (List.replicate n nilV) C L
  rwa [fpR_rep] at this
section
variable {R : List Nat} {w0 w : World} {B : List Ent} {t ty t2 : TypeId} {g g2 n m s i k : Nat} {A V C X : List Value} {K : List (List St)} {vss : List (List Value)} {L : List (List (List St))}
theorem TabV.rd (h : TabV t ty g A V C K w) (hA : A.length = s) (hV : V.length = n) (hn : n ≤ 1000000000) : RdV w 1 (winV g s n) n (cV V) := win_rdv h.blk (mid_win hA hV) hV hn
theorem Mm.tabIn (M : Mm R w0 w B) (h : B[k]? = some (.blk g t (List.toArray (cV X)))) (ty : TypeId) (hX : X = A ++ List.replicate n nilV ++ C) : Mm R w0 w (B.set k (.own [g] (TabV t ty g A (List.replicate n nilV) C (List.replicate n [])))) := by
  subst hX
  exact M.swap h (x' := .own [g] (TabV t ty g A (List.replicate n nilV) C (List.replicate n []))) (Out.refl _ _) ⟨⟨M.at h, rows_rep ty n w, by rw [fpR_rep]; simp⟩, TabV.loc0 _ _ _ _ _ _ _⟩ (fun q hq => .inl (by simpa [Ent.fp] using hq)) (fun q hq => by cases hq)
theorem tab_post {Φ : World → Prop} (M : Mm [g] w0 w B) (hb : B[k]? = some (.blk g t (List.toArray (cV (A ++ V ++ C))))) (hr : B[i]? = some (.own (fpR V) (RowsV ty V K))) (hne : k ≠ i) (hV : V.length = n) :
    TurnsE w0 (.own [g] Φ) (fun u x' => u = .tuple #[] ∧ ∃ V', V'.length = n ∧ x' = .own (g :: fpR V') (TabV t ty g A V' C K)) (.returned (.tuple #[])) w := by
  refine ⟨_, .own (g :: fpR V) (TabV t ty g A V C K), rfl, M.out, ⟨⟨M.at hb, M.pv hr, fun hg => M.apart hb hr hne g (by simp [Ent.fp]) hg⟩, TabV.loc _ _ _ _ _ _ _⟩, fun q hq => ?_, rfl, rfl, V, hV, rfl⟩
  rcases List.mem_cons.1 hq with rfl | hq
  · exact .inl (by simp [Ent.fp])
  · rcases M.own _ (List.mem_of_getElem? hr) q hq with h | h
    · exact .inr h
    · exact .inl h
/-! ### Rows that are done -/
structure DoneV (vss : List (List Value)) (L : List (List (List St))) (w : World) : Prop where
  len : vss.length = L.length
  lv : ∀ i, i < L.length → (atW vss i).length = (at3 L i).length
  one : ∀ i j, i < L.length → j < (at3 L i).length → RdS w (atV (atW vss i) j) (atR (at3 L i) j)
def fpD (vss : List (List Value)) (L : List (List (List St))) : List Nat :=
  (List.range L.length).flatMap fun i => (List.range (at3 L i).length).flatMap fun j => fpN (atV (atW vss i) j) (atR (at3 L i) j).length
theorem mem_fpD {q : Nat} : q ∈ fpD vss L ↔ ∃ i, i < L.length ∧ ∃ j, j < (at3 L i).length ∧ q ∈ fpN (atV (atW vss i) j) (atR (at3 L i) j).length := by
  unfold fpD
  simp only [List.mem_flatMap, List.mem_range]
theorem DoneV.loc (vss : List (List Value)) (L : List (List (List St))) : Loc (fpD vss L) (DoneV vss L) := fun w w' hk h => by
  refine ⟨⟨h.len, h.lv, fun i j hi hj => ?_⟩, fun q hq => ?_⟩
  · exact (RdV.keep (h.one i j hi hj) fun q hq => hk q (mem_fpD.2 ⟨i, hi, j, hj, hq⟩)).1
  · obtain ⟨i, hi, j, hj, h1⟩ := mem_fpD.1 hq
    exact (RdV.keep (w' := w) (h.one i j hi hj) fun _ _ => rfl).2 q h1
theorem done_push (h : DoneV vss L w) (hl : V.length = K.length) (ho : ∀ j, j < K.length → RdS w (atV V j) (atR K j)) : DoneV (vss ++ [V]) (L ++ [K]) w := by
  have hs := h.len
  refine ⟨by simp [hs], fun i hi => ?_, fun i j hi hj => ?_⟩
  · simp only [List.length_append, List.length_singleton] at hi
    rcases Nat.lt_or_ge i L.length with h1 | h1
    · rw [atW_app (by omega), at3_app h1]; exact h.lv i h1
    · rw [atW_last (by omega), at3_last (by omega)]; exact hl
  · simp only [List.length_append, List.length_singleton] at hi
    rcases Nat.lt_or_ge i L.length with h1 | h1
    · rw [at3_app h1] at hj ⊢
      rw [atW_app (by omega)]; exact h.one i j h1 hj
    · rw [at3_last (by omega)] at hj ⊢
      rw [atW_last (by omega)]; exact ho j hj
theorem fpD_push (hs : vss.length = L.length) {q : Nat} (hq : q ∈ fpD (vss ++ [V]) (L ++ [K])) : q ∈ fpD vss L ∨ ∃ j, j < K.length ∧ q ∈ fpN (atV V j) (atR K j).length := by
  obtain ⟨i, hi, j, hj, h⟩ := mem_fpD.1 hq
  simp only [List.length_append, List.length_singleton] at hi
  rcases Nat.lt_or_ge i L.length with h1 | h1
  · rw [at3_app h1] at hj h
    rw [atW_app (by omega)] at h
    exact .inl (mem_fpD.2 ⟨i, h1, j, hj, h⟩)
  · rw [at3_last (by omega)] at hj h
    rw [atW_last (by omega)] at h
    exact .inr ⟨j, hj, h⟩
/-- The window's rows are done: the block by itself, the rows among the others. -/
theorem Mm.tabOut (M : Mm R w0 w (.own (g :: fpR V) (TabV t ty g A V C K) :: .own (fpD vss L) (DoneV vss L) :: B)) :
    Mm R w0 w (.blk g t (List.toArray (cV (A ++ V ++ C))) :: .own (fpD (vss ++ [V]) (L ++ [K])) (DoneV (vss ++ [V]) (L ++ [K])) :: B) := by
  have h1 : TabV t ty g A V C K w := M.pv (i := 0) rfl
  have h2 : DoneV vss L w := M.pv (i := 1) rfl
  have hl := h1.rows.len
  have hp : DoneV (vss ++ [V]) (L ++ [K]) w := done_push h2 hl (fun j hj => h1.rows.rd (by omega))
  have hfp : ∀ q ∈ fpD (vss ++ [V]) (L ++ [K]), q ∈ fpD vss L ∨ q ∈ fpR V := fun q hq => by
    rcases fpD_push h2.len hq with h | ⟨j, hj, h⟩
    · exact .inl h
    · exact .inr (mem_fpR.2 ⟨j, by omega, own_fpN (h1.rows.row j (by omega)) h⟩)
  have hnd := List.pairwise_cons.1 M.nd
  refine M.recast (X := [.own (g :: fpR V) (TabV t ty g A V C K), .own (fpD vss L) (DoneV vss L)]) (Y := [.blk g t (List.toArray (cV (A ++ V ++ C))), .own (fpD (vss ++ [V]) (L ++ [K])) (DoneV (vss ++ [V]) (L ++ [K]))]) (fun y hy => ?_) (fun y hy q hq => ?_) ?_ (fun y hy q hq => ?_)
  · rcases List.mem_cons.1 hy with rfl | hy
    · exact h1.blk
    · rw [List.mem_singleton.1 hy]; exact ⟨hp, DoneV.loc _ _⟩
  · rcases List.mem_cons.1 hy with rfl | hy
    · exact ⟨_, List.mem_cons_self .., by simp only [Ent.fp, List.mem_singleton] at hq; simp [Ent.fp, hq]⟩
    · rw [List.mem_singleton.1 hy] at hq
      rcases hfp q hq with h | h
      · exact ⟨.own (fpD vss L) (DoneV vss L), by simp, h⟩
      · exact ⟨.own (g :: fpR V) (TabV t ty g A V C K), by simp, by simp [Ent.fp, h]⟩
  · refine List.pairwise_cons.2 ⟨fun y hy q hq hq2 => ?_, List.pairwise_singleton _ _⟩
    rw [List.mem_singleton.1 hy] at hq2
    simp only [Ent.fp, List.mem_singleton] at hq
    subst hq
    rcases hfp q hq2 with h | h
    · exact hnd.1 (.own (fpD vss L) (DoneV vss L)) (by simp) q (by simp [Ent.fp]) h
    · exact h1.ne h
  · rcases List.mem_cons.1 hy with rfl | hy
    · cases hq
    · rw [List.mem_singleton.1 hy] at hq; cases hq
theorem done_nil (w : World) : DoneV [] [] w := ⟨rfl, fun i h => absurd h (Nat.not_lt_zero i), fun i _ h => absurd h (Nat.not_lt_zero i)⟩
/-- The start: the table's rows are nil yet, none is done. -/
theorem Mm.done0 {x y z : Ent} (M : Mm R w0 w (x :: y :: z :: B)) : Mm R w0 w (z :: .own (fpD [] []) (DoneV [] []) :: x :: B) := by
  have M1 := M.sub (B' := x :: z :: B) (.cons_cons _ (.cons _ (List.Sublist.refl _)))
  have M2 := M1.addOwn (Below.refl _ _) (done_nil w) (DoneV.loc _ _) (fun q hq => by cases hq)
  exact M2.perm ((List.Perm.cons _ (List.Perm.swap _ _ _)).trans (List.Perm.swap _ _ _))
/-! ### The rows' headers -/
def rsF (g n k : Nat) : List Value := (List.range n).map fun q => if q < k then winV g (q * n) n else nilV
theorem rsF_len (g n k : Nat) : (rsF g n k).length = n := by simp [rsF]
theorem rsF_at {q : Nat} (hk : q < k) (hn : q < n) : atV (rsF g n k) q = winV g (q * n) n := by
  rw [atV_eq (by rw [rsF_len]; exact hn)]; simp [rsF, hk]
theorem rsF_zero (g n : Nat) : List.replicate n nilV = rsF g n (0 : Int).toNat := by
  apply List.ext_getElem
  · simp [rsF_len]
  · intro j h1 h2; simp [rsF]
theorem rsF_set {i : Int} (h0 : 0 ≤ i) (hi : i.toNat < n) : (rsF g n i.toNat).set i.toNat (winV g (i.toNat * n) n) = rsF g n (i + 1).toNat := by
  apply List.ext_getElem
  · simp [rsF_len]
  · intro j h1 h2
    rw [List.getElem_set]
    split
    · rename_i e; subst e; simp only [rsF, List.getElem_map, List.getElem_range]; rw [if_pos (by omega)]
    · simp only [rsF, List.getElem_map, List.getElem_range]
      by_cases e : j < i.toNat
      · rw [if_pos e, if_pos (by omega)]
      · rw [if_neg e, if_neg (by omega)]
theorem flat_len : ∀ {vss : List (List Value)}, (∀ u ∈ vss, u.length = n) → vss.flatten.length = vss.length * n
  | [], _ => by simp
  | u :: r, h => by
    rw [List.flatten_cons, List.length_append, flat_len (fun x hx => h x (by simp [hx])), h u (by simp), List.length_cons, Nat.succ_mul]; omega
theorem flat_at : ∀ {vss : List (List Value)} {i : Nat}, (∀ u ∈ vss, u.length = n) → i < vss.length → (vss.flatten.drop (i * n)).take n = atW vss i
  | u :: r, 0, h, _ => by
    rw [List.flatten_cons, Nat.zero_mul, List.drop_zero, ← h u (by simp), List.take_left]; rfl
  | u :: r, i + 1, h, hi => by
    have e : u.length = n := h u (by simp)
    rw [List.flatten_cons, show (i + 1) * n = u.length + i * n by rw [Nat.succ_mul]; omega, List.drop_append, List.drop_of_length_le (by omega), List.nil_append, show u.length + i * n - u.length = i * n by omega]
    exact flat_at (fun x hx => h x (by simp [hx])) (by simpa using hi)
theorem rep_split {i : Nat} (hi : i < n) : List.replicate ((n - i) * n) nilV = List.replicate n nilV ++ List.replicate ((n - (i + 1)) * n) nilV := by
  rw [List.replicate_append_replicate, show n - i = (n - (i + 1)) + 1 by omega, Nat.succ_mul, Nat.add_comm]
theorem rep_splitI {i : Int} (h0 : 0 ≤ i) (hi : i.toNat < n) : List.replicate ((n - i.toNat) * n) nilV = List.replicate n nilV ++ List.replicate ((n - (i + 1).toNat) * n) nilV := by
  rw [show (i + 1).toNat = i.toNat + 1 by omega]; exact rep_split hi
theorem flat_push (vss : List (List Value)) (V C : List Value) : vss.flatten ++ V ++ C = (vss ++ [V]).flatten ++ C := by simp
theorem all_push (h : ∀ u ∈ vss, u.length = n) (hV : V.length = n) : ∀ u ∈ vss ++ [V], u.length = n := fun u hu => by
  rcases List.mem_append.1 hu with h1 | h1
  · exact h u h1
  · rw [List.mem_singleton.1 h1]; exact hV
theorem arg_apart {v : Value} {xs fp : List _} {Φ : World → Prop} (M : Mm [] w0 w B) (hi : B[i]? = some (.arg m v n xs)) (hk : B[k]? = some (.own fp Φ)) (hg : g ∈ fp) (hn : 0 < n) : ¬ gof v ∈ [g] := fun h => by
  have h1 := M.far _ (List.mem_of_getElem? hi) (gof v) (by rw [show (Ent.arg m v n xs).base = [gof v] from if_neg (by omega)]; simp)
  rcases M.own _ (List.mem_of_getElem? hk) g hg with h2 | h2
  · rw [List.mem_singleton.1 h] at h1; omega
  · cases h2
theorem mul_toNat {a b : Int} (ha : 0 ≤ a) (hb : 0 ≤ b) : (a * b).toNat = a.toNat * b.toNat := by
  obtain ⟨x, rfl⟩ := Int.eq_ofNat_of_zero_le ha
  obtain ⟨y, rfl⟩ := Int.eq_ofNat_of_zero_le hb
  rw [← Int.natCast_mul, Int.toNat_natCast, Int.toNat_natCast, Int.toNat_natCast]
theorem mul_small {a b : Int} (ha : 0 ≤ a) (ha8 : a ≤ 8) (hb : 0 ≤ b) (hb8 : b ≤ 8) : 0 ≤ a * b ∧ a * b ≤ 64 := by
  refine ⟨Int.mul_nonneg ha hb, ?_⟩
  have := Int.mul_le_mul ha8 hb8 hb (by omega : (0 : Int) ≤ 8)
  omega
/-- The whole, when all rows are done. -/
theorem rd3_tab (M : Mm R w0 w (.blk g t (List.toArray (cV (vss.flatten ++ C))) :: .own (fpD vss L) (DoneV vss L) :: .blk g2 t2 (List.toArray (cV (rsF g n n))) :: B)) (hu : ∀ u ∈ vss, u.length = n) (hL : L.length = n) (hn : n ≤ 1000) :
    Rd3 (.slice (some ⟨g2, 0, none⟩) n n) (rsF g n n) vss L w ∧ ∀ q ∈ fp3 (.slice (some ⟨g2, 0, none⟩) n n) (rsF g n n) vss L, w0.heap.size ≤ q ∨ q ∈ R := by
  have h1 : Blk w g t (List.toArray (cV (vss.flatten ++ C))) := M.at (i := 0) rfl
  have h2 : DoneV vss L w := M.pv (i := 1) rfl
  have h3 : Blk w g2 t2 (List.toArray (cV (rsF g n n))) := M.at (i := 2) rfl
  have hv := h2.len
  have hrow : ∀ i, i < L.length → (at3 L i).length = n := fun i hi => by
    rw [← h2.lv i hi]
    have e : atW vss i = vss[i]'(by omega) := by unfold atW; rw [List.getD_eq_getElem?_getD, List.getElem?_eq_getElem (by omega)]; rfl
    rw [e]; exact hu _ (List.getElem_mem _)
  have htop : RdV w 1 (.slice (some ⟨g2, 0, none⟩) n n) L.length (cV (rsF g n n)) := by
    rw [hL]
    exact win_rdv (s := 0) h3 (by rw [List.drop_zero, List.take_of_length_le (by rw [rsF_len]; omega)]) (rsF_len _ _ _) (by omega)
  refine ⟨⟨htop, ⟨by rw [rsF_len, hL], hv, h2.lv, fun i hi => ?_, h2.one⟩⟩, fun q hq => ?_⟩
  · rw [rsF_at (by omega) (by omega), hrow i hi]
    refine win_rdv h1 ?_ (by rw [h2.lv i hi, hrow i hi]) (by omega)
    have hfl := flat_len hu
    have h5 : i * n + n ≤ vss.flatten.length := by
      rw [hfl, ← Nat.succ_mul]; exact Nat.mul_le_mul_right _ (by omega)
    rw [List.drop_append, List.take_append_of_le_length (by rw [List.length_drop]; omega)]
    exact flat_at hu (by omega)
  · have hown := M.own
    rcases List.mem_append.1 hq with h | h
    · exact hown (.blk g2 t2 (List.toArray (cV (rsF g n n)))) (by simp) q (by
        have := (mem_fpN.1 h).2
        simp only [Ent.fp, List.mem_singleton]; exact this)
    · obtain ⟨i, hi, h4 | ⟨j, hj, h4⟩⟩ := mem_fpI.1 h
      · rw [rsF_at (by omega) (by omega)] at h4
        exact hown (.blk g t (List.toArray (cV (vss.flatten ++ C)))) (by simp) q (by
          have := (mem_fpN.1 h4).2
          simp only [Ent.fp, List.mem_singleton]; exact this)
      · exact hown (.own (fpD vss L) (DoneV vss L)) (by simp) q (mem_fpD.2 ⟨i, hi, j, hj, h4⟩)
/-- Another row of a table from which one is taken. -/
theorem rows_other {vs : List Value} {L : List (List St)} {j q : Nat} (h : RowsV ty (vs.set j nilV) (L.set j []) w) (hq : q < vs.length) (hl : vs.length = L.length) (hj : j < vs.length) (hne : ¬ j = q) : RdS w (atV vs q) (atR L q) := by
  have := h.rd (j := q) (by simpa using hq)
  rwa [atV_set hj, if_neg hne, atR_set (by omega), if_neg hne] at this
end
end Go.Proofs.Ytlgeodnbkndciaa
