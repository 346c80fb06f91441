/- sort.Slice at a slice of stamps, by any comparison that leaves what was there; copy; make. Any seat. -/
import Derived.Test.YtlgeodnbkndciaaSw
import Derived.Test.YtlgeodnbkndciaaLy
import Derived.Shelf.GgSortFunc.SmallK
import Derived.Shelf.GgSortFunc.Tiny
import Derived.Laws.MakeOwn
import Derived.Laws.CopyRow
namespace Go.Proofs.Ytlgeodnbkndciaa
open Go.RowKit Go.Sort
set_option maxRecDepth 100000
set_option linter.unusedSimpArgs false
set_option linter.unusedVariables false

section
variable {α : Type} [Inhabited α] {lt : α → α → Bool} {g : Nat} {lb : Array Value} {sf : Nat} {sb : Array Value} {blk t n : Nat} {W0 : World} {cA : Array α → Array Value}
theorem pdq_all (eg : enters Try.prog g = true) (hL : LessOK Try.prog g lb lt blk t n W0 cA) (hS : SwapOK Try.prog sf sb blk t n cA) (hn : n ≤ 1000000000) (hO : SWO lt)
    (hBP : ∀ (a b : Nat) (d : Array α) (w : World), d.size = n → a ≤ b → b ≤ n → Blk w blk t (cA d) → Calls Try.prog 84 #[.agg #[.func (.func g) #[] lb, .func (.func sf) #[] sb], .int .i64 a, .int .i64 b] w (Turns blk t cA w fun v d' => v = .tuple #[] ∧ d'.size = n ∧ PermIn a b d d')) :
    ∀ m, PdqIH m lt n W0 blk t cA (.agg #[.func (.func g) #[] lb, .func (.func sf) #[] sb]) := by
  intro m
  induction m with
  | zero => intro a b l d w h; omega
  | succ m ih =>
    intro a b l d w hm hs hab hb hl hBl hW hB
    exact pdq_step eg hL hS hn hO hBP a b l (fun a' b' l' d' w' h' => ih a' b' l' d' w' (by omega)) d hs hab hb hl hBl _ _ _ rfl rfl rfl w hW hB
end
/-! ### Worlds -/
section
variable {P : Program} {w w' : World} {g t : Nat}
theorem out_setCells : ∀ (vs : List Value) (s : Nat) (w : World), Out [g] w (w.setCells g s vs)
  | [], _, _ => Out.refl _ _
  | v :: r, s, w => by
    have h1 : Out [g] w (w.setCell ⟨g, s, none⟩ v) := ⟨rfl, rfl, rfl, by simp, fun k _ hk => heap_setCell_other w ⟨g, s, none⟩ k v (fun e => hk (by simpa using e))⟩
    exact h1.trans (out_setCells r (s + 1) _) (fun _ h => .inr h)
theorem blk_setCells : ∀ (vs : List Value) (s : Nat) (w : World) (F : Array Value), Blk w g t F → Blk (w.setCells g s vs) g t (setMany F s vs)
  | [], _, _, _, h => h
  | v :: r, s, _, _, h => blk_setCells r (s + 1) _ _ (h.set_ s v)
end
/-! ### Stamps -/
instance : Inhabited St := ⟨St.zero⟩
def encS (s : St) : List Value := [.int .i64 s.e, .int .i64 s.r]
abbrev fA (d : Array St) : Array Value := flatK encS 2 d
theorem encS_one : ∀ x, ∀ v ∈ encS x, v.oneCell' = true := fun x v hv => by
  simp only [encS, List.mem_cons, List.not_mem_nil, or_false] at hv
  rcases hv with rfl | rfl <;> rfl
theorem fA_eq (L : List St) : fA L.toArray = (cS L).toArray := by
  refine ext_get! (by simp [cS_len]) fun i hi => ?_
  have hi' : i < L.length * 2 := by simpa using hi
  rw [get_flatK _ _ _ _ (by simpa using hi')]
  have hc := cS_at (L := L) (i := i / 2) (by omega)
  have hg : ∀ j, j < 2 → (cS L)[i / 2 * 2 + j]? = [Value.int .i64 (atS L (i / 2)).e, .int .i64 (atS L (i / 2)).r][j]? := fun j hj => by
    rw [← hc]; simp [hj]
  have h2 := hg (i % 2) (Nat.mod_lt _ (by omega))
  rw [show i / 2 * 2 + i % 2 = i by omega] at h2
  have h3 : L.toArray[i / 2]! = atS L (i / 2) := by
    rw [atS_eq (by omega)]; simp [show i / 2 < L.length by omega]
  have hlt : i < (cS L).toArray.size := by simpa [cS_len] using hi'
  rw [getElem!_pos (cS L).toArray i hlt, h3]
  have h4 : (cS L).toArray[i] = (cS L)[i]'(by simpa using hlt) := by simp
  rw [h4]
  rw [List.getElem?_eq_getElem (by simpa using hlt)] at h2
  have hm : i % 2 < 2 := Nat.mod_lt _ (by omega)
  unfold encS
  rcases (show i % 2 = 0 ∨ i % 2 = 1 by omega) with h5 | h5
  · rw [h5] at h2 ⊢; simpa using h2.symm
  · rw [h5] at h2 ⊢; simpa using h2.symm
theorem holds_blk {w : World} {g t : Nat} {d : Array St} (h : Blk w g t (fA d)) : HoldsK encS 2 w g 0 d := fun j hj => by
  rw [Nat.zero_add]
  exact ⟨by rw [h.cell, getElem!_pos (flatK encS 2 d) j hj, Array.getElem?_eq_getElem hj]; rfl, h.frozen _⟩
noncomputable def eInf : TypeInfo := (Try.prog.info? 24).get (by kernel_rfl)
noncomputable def sInf : TypeInfo := (Try.prog.info? 30).get (by kernel_rfl)
theorem eInf_is : Try.prog.info? 24 = some eInf := by kernel_rfl
theorem sInf_is : Try.prog.info? 30 = some sInf := by kernel_rfl
theorem swK (n : Nat) (h2 : 2 ≤ n) : Lib.swapperK n eInf 25 = 9 := by
  have a : eInf.hasPointers = false := by kernel_rfl
  have b : eInf.bytes = 16 := by kernel_rfl
  have c : (n == 0) = false := by simp; omega
  have d : (n == 1) = false := by simp; omega
  simp [Lib.swapperK, a, b, c, d]
theorem swap_ok (blk n c : Nat) : SwapOK Try.prog 79 #[.slice (some ⟨blk, 0, none⟩) n c, typeHandle Try.prog 24] blk 24 n fA := by
  intro d w i j hs hi hj hB
  have h := swapSwapsK_of_literal (P := Try.prog) false 79 (fun args W => run_callFunc_extern Try.func79 (by kernel_rfl) (by kernel_rfl) (by kernel_rfl) (e := Extern.ReflectliteSwapper.swap false) (by kernel_rfl) args W)
    24 eInf eInf_is encS 2 (fun _ => rfl) (by kernel_rfl) (fun _ => by kernel_rfl) encS_one blk 0 n c w d (holds_blk hB) hs i j hi hj
  refine ⟨_, h, ?_, ?_⟩
  · exact (out_setCells _ _ _).trans (out_setCells _ _ _) (fun _ h => .inr h)
  · have := blk_setCells (encS d[i]!) (0 + j * 2) _ _ (blk_setCells (encS d[j]!) (0 + i * 2) w _ hB)
    rw [Nat.zero_add, Nat.zero_add, setMany_swp encS 2 (fun _ => rfl) d i j (by omega) (by omega)] at this
    rw [Nat.zero_add, Nat.zero_add]
    exact this
theorem blk_putRow {w : World} {g t : Nat} {F F' : Array Value} (h : Blk w g t F) (hs : F'.size = F.size) : Blk (putRow id w g 0 F') g t F' := by
  unfold putRow mapBlock Blk
  unfold Blk at h
  simp only [Array.getElem?_modify, if_true, h, Option.map_some, onCells]
  congr 2
  apply Array.ext
  · simp [putCells, hs]
  · intro i h1 h2
    simp only [putCells, Array.getElem_mapIdx, Nat.zero_le, true_and, Nat.zero_add, h2, if_true, Nat.sub_zero, id_eq]
    exact getElem!_pos F' i h2
theorem out_putRow {w : World} {g : Nat} {F' : Array Value} : Out [g] w (putRow id w g 0 F') := ⟨rfl, rfl, rfl, by simp, fun k _ hk => by
  unfold putRow mapBlock
  simp only [Array.getElem?_modify]
  rw [if_neg (fun e => hk (by simp [e]))]⟩
theorem out_grow (R : List Nat) (w : World) (os : Array Obj) : Out R w (grow w os) := ⟨rfl, rfl, rfl, by simp [grow], fun k hk _ => by
  simp only [grow]
  rw [Array.getElem?_append_left hk]⟩
theorem out_sort {w : World} {g t n : Nat} {d d' : Array St} {os : Array Obj} (hB : Blk w g t (fA d)) (hs : d'.size = d.size) : Out [g] w (sortWorldK encS 2 w g 0 n d' os) ∧ Blk (sortWorldK encS 2 w g 0 n d' os) g t (fA d') := by
  have h0 : Out [g] w (Sort.ahead w n) := ⟨rfl, rfl, rfl, Nat.le_refl _, fun _ _ _ => rfl⟩
  have h1 : Out [g] w (putRow id (Sort.ahead w n) g 0 (fA d')) := h0.trans out_putRow (fun _ h => .inr h)
  have hb : Blk (putRow id (Sort.ahead w n) g 0 (fA d')) g t (fA d') := blk_putRow (show Blk (Sort.ahead w n) g t (fA d) from hB) (by simp [hs])
  refine ⟨h1.trans (out_grow [] _ os) (fun _ h => by cases h), ?_⟩
  exact (out_grow [] _ os).blk hb (by simp)
theorem break_ok (blk c n : Nat) (lf : Fn) (lb : Array Value) (hn : n ≤ 1000000000) (a b : Nat) (d : Array St) (w : World) (hs : d.size = n) (hab : a ≤ b) (hb : b ≤ n) (hB : Blk w blk 24 (fA d)) :
    Calls Try.prog 84 #[.agg #[.func lf #[] lb, .func (.func 79) #[] #[.slice (some ⟨blk, 0, none⟩) n c, typeHandle Try.prog 24]], .int .i64 a, .int .i64 b] w (Turns blk 24 fA w fun v d' => v = .tuple #[] ∧ d'.size = n ∧ PermIn a b d d') := by
  subst hs
  have hsw := swapSwapsK_of_literal (P := Try.prog) false 79 (fun args W => run_callFunc_extern Try.func79 (by kernel_rfl) (by kernel_rfl) (by kernel_rfl) (e := Extern.ReflectliteSwapper.swap false) (by kernel_rfl) args W)
    24 eInf eInf_is encS 2 (fun _ => rfl) (by kernel_rfl) (fun _ => by kernel_rfl) encS_one blk 0 d.size c
  have h := Any.breakPatterns_func_cells_w (P := Try.prog) { Try.sl6 with } encS 2 (fun _ => rfl) lf #[] lb 79 #[.slice (some ⟨blk, 0, none⟩) d.size c, typeHandle Try.prog 24] blk 0 a b d w hsw (holds_blk hB) hB.lt hab (by omega) (by omega)
  refine Calls.mono h ?_
  rintro e w' ⟨rfl, m, os, rfl⟩
  have hp := breakPatterns_holds d a b hab (by omega)
  have h2 := out_sort (n := m) (d' := breakPatterns d a b) (os := os) hB hp.1
  exact ⟨_, _, rfl, h2.1, h2.2, rfl, hp.1, hp⟩
/-- sort.Slice. -/
theorem sortS (g : Nat) (lb : Array Value) (lt : St → St → Bool) (hO : SWO lt) (eg : enters Try.prog g = true) (blk c : Nat) (d : Array St) (w : World) (hn : d.size ≤ 20000000) (hB : Blk w blk 24 (fA d)) (hL : LessOK Try.prog g lb lt blk 24 d.size w fA) :
    Calls Try.prog 51 #[.iface 30 (.slice (some ⟨blk, 0, none⟩) d.size c), .func (.func g) #[] lb] w (Turns blk 24 fA w fun v d' => v = .tuple #[] ∧ d'.size = d.size ∧ PermIn 0 d.size d d' ∧ SortedIn lt 0 d.size d') := by
  rcases Nat.lt_or_ge d.size 2 with h1 | h2
  · have ht : ∃ f, Try.prog.funcs.findIdx? (·.name == "internal/reflectlite" ++ ".Swapper$" ++ toString (Lib.swapperK d.size eInf 25)) = some f := by
      rcases (show d.size = 0 ∨ d.size = 1 by omega) with e | e
      · rw [e]; exact ⟨71, by kernel_rfl⟩
      · rw [e]; exact ⟨72, by kernel_rfl⟩
    obtain ⟨f, hf⟩ := ht
    refine Calls.mono (Any.sort_Slice_tiny (P := Try.prog) Try.sl6 30 24 sInf eInf sInf_is (by kernel_rfl) (by kernel_rfl) eInf_is 25 (fun _ => by kernel_rfl) (some ⟨blk, 0, none⟩) d.size c (by omega) f hf (.func g) #[] lb w) ?_
    rintro e w' ⟨rfl, os, rfl⟩
    exact ⟨_, d, rfl, out_grow _ _ _, (out_grow [] _ os).blk hB (by simp), rfl, rfl, permIn_refl _ _ _, fun i j h3 h4 h5 => by omega⟩
  · have hK : Try.prog.funcs.findIdx? (·.name == "internal/reflectlite" ++ ".Swapper$" ++ toString (Lib.swapperK d.size eInf 25)) = some 79 := by rw [swK _ h2]; kernel_rfl
    refine Calls.mono (Any.sort_Slice_of_pdq (P := Try.prog) Try.sl6 30 24 sInf eInf sInf_is (by kernel_rfl) (by kernel_rfl) eInf_is 25 (fun _ => by kernel_rfl) (some ⟨blk, 0, none⟩) d.size c (by omega) 79 hK (.func g) #[] lb w
      (fun w' => ∃ d', Out [blk] w w' ∧ Blk w' blk 24 (fA d') ∧ d'.size = d.size ∧ PermIn 0 d.size d d' ∧ SortedIn lt 0 d.size d') ?_) ?_
    · have hb2 : Below w.heap.size w (sliceWorld Try.prog Try.sl6_ren 30 (some ⟨blk, 0, none⟩) d.size c w) := bel2 _ _ _
      have ho := Below.out hb2 [blk]
      have hlim : Lib.bitLen d.size ≤ 1000 := Nat.le_trans (Lib.bitLen_le d.size 62 (by omega) (by omega)) (by omega)
      have hsb : sliceBound Try.prog 24 eInf 25 (some ⟨blk, 0, none⟩) d.size c = #[.slice (some ⟨blk, 0, none⟩) d.size c, typeHandle Try.prog 24] := by
        unfold sliceBound; rw [if_neg (swapperK_gt _ _ _ h2)]
      rw [hsb]
      have hp := pdq_all eg hL (swap_ok blk d.size c) (by omega) hO (fun a b d' w' h3 h4 h5 h6 => break_ok blk c d.size (.func g) lb (by omega) a b d' w' h3 h4 h5 h6) (d.size + 1)
        0 d.size (Lib.bitLen d.size) d _ (by omega) rfl (Nat.zero_le _) (Nat.le_refl _) hlim (Or.inl rfl) ho (hB.below hb2 hB.lt)
      refine Calls.mono hp ?_
      rintro e w' ⟨v, d', rfl, h3, h4, rfl, h5, h6, h7⟩
      exact ⟨rfl, d', ho.trans h3 (fun _ h => .inr h), h4, h5, h6, h7⟩
    · rintro e w' ⟨rfl, d', h3, h4, h5, h6, h7⟩
      exact ⟨_, d', rfl, h3, h4, rfl, h5, h6, h7⟩
end Go.Proofs.Ytlgeodnbkndciaa
