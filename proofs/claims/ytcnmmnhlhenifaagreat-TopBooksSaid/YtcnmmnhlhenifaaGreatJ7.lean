/- Put together: Sp, El, Am, Mk, Bm, Bv, Bk, Bo, Em, Er, Es, Tb. -/
import Derived.Test.YtcnmmnhlhenifaaGreatSw
import Derived.Test.YtcnmmnhlhenifaaGreatJ1
import Derived.Shelf.GgSortFunc.SmallK
import Derived.Shelf.GgSortFunc.Tiny
import Derived.Laws.MakeOwn
import Derived.Laws.CopyRow
import Derived.Test.YtcnmmnhlhenifaaGreatJ2
import Derived.Test.YtcnmmnhlhenifaaGreatJ5
import Derived.Test.YtcnmmnhlhenifaaGreatWn
import Derived.Test.YtcnmmnhlhenifaaGreatJ3
import Derived.Test.YtcnmmnhlhenifaaGreatJ4
import Derived.Deep.MidRow
import Derived.Test.YtcnmmnhlhenifaaGreatWr
namespace Go.Proofs.YtcnmmnhlhenifaaGreat
open Go.RowKit Go.Sort
set_option maxRecDepth 100000
set_option linter.unusedSimpArgs false
set_option linter.unusedVariables false
section
variable {α : Type} [Inhabited α] {lt : α → α → Bool} {g : Nat} {lb : Array Value} {sf : Nat} {sb : Array Value} {blk t n : Nat} {W0 : World} {cA : Array α → Array Value}
theorem pdq_all (eg : enters Tryz.prog g = true) (hL : LessOK Tryz.prog g lb lt blk t n W0 cA) (hS : SwapOK Tryz.prog sf sb blk t n cA) (hn : n ≤ 1000000000) (hO : SWO lt)
    (hBP : ∀ (a b : Nat) (d : Array α) (w : World), d.size = n → a ≤ b → b ≤ n → Blk w blk t (cA d) → Calls Tryz.prog 144 #[.agg #[.func (.func g) #[] lb, .func (.func sf) #[] sb], .int .i64 a, .int .i64 b] w (Turns blk t cA w fun v d' => v = .tuple #[] ∧ d'.size = n ∧ PermIn a b d d')) :
    ∀ m, PdqIH m lt n W0 blk t cA (.agg #[.func (.func g) #[] lb, .func (.func sf) #[] sb]) := by
  intro m
  induction m with
  | zero => intro a b l d w h; omega
  | succ m ih =>
    intro a b l d w hm hs hab hb hl hBl hW hB
    exact pdq_step eg hL hS hn hO hBP a b l (fun a' b' l' d' w' h' => ih a' b' l' d' w' (by omega)) d hs hab hb hl hBl _ _ _ rfl rfl rfl w hW hB
end
section
variable {P : Program} {w w' : World} {g t : Nat}
theorem out_setCells : ∀ (vs : List Value) (s : Nat) (w : World), Out [g] w (w.setCells g s vs)
  | [], _, _ => Out.refl _ _
  | v :: r, s, w => by
    have h1 : Out [g] w (w.setCell ⟨g, s, none⟩ v) := ⟨rfl, rfl, rfl, by simp, fun k _ hk => heap_setCell_other w ⟨g, s, none⟩ k v (fun e => hk (by simpa using e))⟩
    exact h1.trans (out_setCells r (s + 1) _) (fun _ h => .inr h)
theorem blk_setCells : ∀ (vs : List Value) (s : Nat) (w : World) (F : Array Value), Blk w g t F → Blk (w.setCells g s vs) g t (setMany F s vs)
  | [], _, _, _, h => h
  | v :: r, s, _, _, h => blk_setCells r (s + 1) _ _ (h.set_ s v)
end
instance : Inhabited St := ⟨St.zero⟩
def encS (s : St) : List Value := [.int .i64 s.e, .int .i64 s.r]
abbrev fA (d : Array St) : Array Value := flatK encS 2 d
theorem encS_one : ∀ x, ∀ v ∈ encS x, v.oneCell' = true := fun x v hv => by
  simp only [encS, List.mem_cons, List.not_mem_nil, or_false] at hv
  rcases hv with rfl | rfl <;> rfl
theorem fA_eq (L : List St) : fA L.toArray = (cS L).toArray := by
  refine ext_get! (by simp [cS_len]) fun i hi => ?_
  have hi' : i < L.length * 2 := by simpa using hi
  rw [get_flatK _ _ _ _ (by simpa using hi')]
  have hc := cS_at (L := L) (i := i / 2) (by omega)
  have hg : ∀ j, j < 2 → (cS L)[i / 2 * 2 + j]? = [Value.int .i64 (atS L (i / 2)).e, .int .i64 (atS L (i / 2)).r][j]? := fun j hj => by
    rw [← hc]; simp [hj]
  have h2 := hg (i % 2) (Nat.mod_lt _ (by omega))
  rw [show i / 2 * 2 + i % 2 = i by omega] at h2
  have h3 : L.toArray[i / 2]! = atS L (i / 2) := by
    rw [atS_eq (by omega)]; simp [show i / 2 < L.length by omega]
  have hlt : i < (cS L).toArray.size := by simpa [cS_len] using hi'
  rw [getElem!_pos (cS L).toArray i hlt, h3]
  have h4 : (cS L).toArray[i] = (cS L)[i]'(by simpa using hlt) := by simp
  rw [h4]
  rw [List.getElem?_eq_getElem (by simpa using hlt)] at h2
  have hm : i % 2 < 2 := Nat.mod_lt _ (by omega)
  unfold encS
  rcases (show i % 2 = 0 ∨ i % 2 = 1 by omega) with h5 | h5
  · rw [h5] at h2 ⊢; simpa using h2.symm
  · rw [h5] at h2 ⊢; simpa using h2.symm
theorem holds_blk {w : World} {g t : Nat} {d : Array St} (h : Blk w g t (fA d)) : HoldsK encS 2 w g 0 d := fun j hj => by
  rw [Nat.zero_add]
  exact ⟨by rw [h.cell, getElem!_pos (flatK encS 2 d) j hj, Array.getElem?_eq_getElem hj]; rfl, h.frozen _⟩
noncomputable def eInf : TypeInfo := (Tryz.prog.info? 37).get (by kernel_rfl)
noncomputable def sInf : TypeInfo := (Tryz.prog.info? 101).get (by kernel_rfl)
theorem eInf_is : Tryz.prog.info? 37 = some eInf := by kernel_rfl
theorem sInf_is : Tryz.prog.info? 101 = some sInf := by kernel_rfl
theorem swK (n : Nat) (h2 : 2 ≤ n) : Lib.swapperK n eInf 25 = 9 := by
  have a : eInf.hasPointers = false := by kernel_rfl
  have b : eInf.bytes = 16 := by kernel_rfl
  have c : (n == 0) = false := by simp; omega
  have d : (n == 1) = false := by simp; omega
  simp [Lib.swapperK, a, b, c, d]
theorem swap_ok (blk n c : Nat) : SwapOK Tryz.prog 139 #[.slice (some ⟨blk, 0, none⟩) n c, typeHandle Tryz.prog 37] blk 37 n fA := by
  intro d w i j hs hi hj hB
  have h := swapSwapsK_of_literal (P := Tryz.prog) false 139 (fun args W => run_callFunc_extern Tryz.func139 (by kernel_rfl) (by kernel_rfl) (by kernel_rfl) (e := Extern.ReflectliteSwapper.swap false) (by kernel_rfl) args W)
    37 eInf eInf_is encS 2 (fun _ => rfl) (by kernel_rfl) (fun _ => by kernel_rfl) encS_one blk 0 n c w d (holds_blk hB) hs i j hi hj
  refine ⟨_, h, ?_, ?_⟩
  · exact (out_setCells _ _ _).trans (out_setCells _ _ _) (fun _ h => .inr h)
  · have := blk_setCells (encS d[i]!) (0 + j * 2) _ _ (blk_setCells (encS d[j]!) (0 + i * 2) w _ hB)
    rw [Nat.zero_add, Nat.zero_add, setMany_swp encS 2 (fun _ => rfl) d i j (by omega) (by omega)] at this
    rw [Nat.zero_add, Nat.zero_add]
    exact this
theorem blk_putRow {w : World} {g t : Nat} {F F' : Array Value} (h : Blk w g t F) (hs : F'.size = F.size) : Blk (putRow id w g 0 F') g t F' := by
  unfold putRow mapBlock Blk
  unfold Blk at h
  simp only [Array.getElem?_modify, if_true, h, Option.map_some, onCells]
  congr 2
  apply Array.ext
  · simp [putCells, hs]
  · intro i h1 h2
    simp only [putCells, Array.getElem_mapIdx, Nat.zero_le, true_and, Nat.zero_add, h2, if_true, Nat.sub_zero, id_eq]
    exact getElem!_pos F' i h2
theorem out_putRow {w : World} {g : Nat} {F' : Array Value} : Out [g] w (putRow id w g 0 F') := ⟨rfl, rfl, rfl, by simp, fun k _ hk => by
  unfold putRow mapBlock
  simp only [Array.getElem?_modify]
  rw [if_neg (fun e => hk (by simp [e]))]⟩
theorem out_grow (R : List Nat) (w : World) (os : Array Obj) : Out R w (grow w os) := ⟨rfl, rfl, rfl, by simp [grow], fun k hk _ => by
  simp only [grow]
  rw [Array.getElem?_append_left hk]⟩
theorem out_sort {w : World} {g t n : Nat} {d d' : Array St} {os : Array Obj} (hB : Blk w g t (fA d)) (hs : d'.size = d.size) : Out [g] w (sortWorldK encS 2 w g 0 n d' os) ∧ Blk (sortWorldK encS 2 w g 0 n d' os) g t (fA d') := by
  have h0 : Out [g] w (Sort.ahead w n) := ⟨rfl, rfl, rfl, Nat.le_refl _, fun _ _ _ => rfl⟩
  have h1 : Out [g] w (putRow id (Sort.ahead w n) g 0 (fA d')) := h0.trans out_putRow (fun _ h => .inr h)
  have hb : Blk (putRow id (Sort.ahead w n) g 0 (fA d')) g t (fA d') := blk_putRow (show Blk (Sort.ahead w n) g t (fA d) from hB) (by simp [hs])
  refine ⟨h1.trans (out_grow [] _ os) (fun _ h => by cases h), ?_⟩
  exact (out_grow [] _ os).blk hb (by simp)
theorem break_ok (blk c n : Nat) (lf : Fn) (lb : Array Value) (hn : n ≤ 1000000000) (a b : Nat) (d : Array St) (w : World) (hs : d.size = n) (hab : a ≤ b) (hb : b ≤ n) (hB : Blk w blk 37 (fA d)) :
    Calls Tryz.prog 144 #[.agg #[.func lf #[] lb, .func (.func 139) #[] #[.slice (some ⟨blk, 0, none⟩) n c, typeHandle Tryz.prog 37]], .int .i64 a, .int .i64 b] w (Turns blk 37 fA w fun v d' => v = .tuple #[] ∧ d'.size = n ∧ PermIn a b d d') := by
  subst hs
  have hsw := swapSwapsK_of_literal (P := Tryz.prog) false 139 (fun args W => run_callFunc_extern Tryz.func139 (by kernel_rfl) (by kernel_rfl) (by kernel_rfl) (e := Extern.ReflectliteSwapper.swap false) (by kernel_rfl) args W)
    37 eInf eInf_is encS 2 (fun _ => rfl) (by kernel_rfl) (fun _ => by kernel_rfl) encS_one blk 0 d.size c
  have h := Any.breakPatterns_func_cells_w (P := Tryz.prog) { Tryz.sl6 with } encS 2 (fun _ => rfl) lf #[] lb 139 #[.slice (some ⟨blk, 0, none⟩) d.size c, typeHandle Tryz.prog 37] blk 0 a b d w hsw (holds_blk hB) hB.lt hab (by omega) (by omega)
  refine Calls.mono h ?_
  rintro e w' ⟨rfl, m, os, rfl⟩
  have hp := breakPatterns_holds d a b hab (by omega)
  have h2 := out_sort (n := m) (d' := breakPatterns d a b) (os := os) hB hp.1
  exact ⟨_, _, rfl, h2.1, h2.2, rfl, hp.1, hp⟩
theorem sortS (g : Nat) (lb : Array Value) (lt : St → St → Bool) (hO : SWO lt) (eg : enters Tryz.prog g = true) (blk c : Nat) (d : Array St) (w : World) (hn : d.size ≤ 20000000) (hB : Blk w blk 37 (fA d)) (hL : LessOK Tryz.prog g lb lt blk 37 d.size w fA) :
    Calls Tryz.prog 104 #[.iface 101 (.slice (some ⟨blk, 0, none⟩) d.size c), .func (.func g) #[] lb] w (Turns blk 37 fA w fun v d' => v = .tuple #[] ∧ d'.size = d.size ∧ PermIn 0 d.size d d' ∧ SortedIn lt 0 d.size d') := by
  rcases Nat.lt_or_ge d.size 2 with h1 | h2
  · have ht : ∃ f, Tryz.prog.funcs.findIdx? (·.name == "internal/reflectlite" ++ ".Swapper$" ++ toString (Lib.swapperK d.size eInf 25)) = some f := by
      rcases (show d.size = 0 ∨ d.size = 1 by omega) with e | e
      · rw [e]; exact ⟨131, by kernel_rfl⟩
      · rw [e]; exact ⟨132, by kernel_rfl⟩
    obtain ⟨f, hf⟩ := ht
    refine Calls.mono (Any.sort_Slice_tiny (P := Tryz.prog) Tryz.sl6 101 37 sInf eInf sInf_is (by kernel_rfl) (by kernel_rfl) eInf_is 25 (fun _ => by kernel_rfl) (some ⟨blk, 0, none⟩) d.size c (by omega) f hf (.func g) #[] lb w) ?_
    rintro e w' ⟨rfl, os, rfl⟩
    exact ⟨_, d, rfl, out_grow _ _ _, (out_grow [] _ os).blk hB (by simp), rfl, rfl, permIn_refl _ _ _, fun i j h3 h4 h5 => by omega⟩
  · have hK : Tryz.prog.funcs.findIdx? (·.name == "internal/reflectlite" ++ ".Swapper$" ++ toString (Lib.swapperK d.size eInf 25)) = some 139 := by rw [swK _ h2]; kernel_rfl
    refine Calls.mono (Any.sort_Slice_of_pdq (P := Tryz.prog) Tryz.sl6 101 37 sInf eInf sInf_is (by kernel_rfl) (by kernel_rfl) eInf_is 25 (fun _ => by kernel_rfl) (some ⟨blk, 0, none⟩) d.size c (by omega) 139 hK (.func g) #[] lb w
      (fun w' => ∃ d', Out [blk] w w' ∧ Blk w' blk 37 (fA d') ∧ d'.size = d.size ∧ PermIn 0 d.size d d' ∧ SortedIn lt 0 d.size d') ?_) ?_
    · have hb2 : Below w.heap.size w (sliceWorld Tryz.prog Tryz.sl6_ren 101 (some ⟨blk, 0, none⟩) d.size c w) := bel2 _ _ _
      have ho := Below.out hb2 [blk]
      have hlim : Lib.bitLen d.size ≤ 1000 := Nat.le_trans (Lib.bitLen_le d.size 62 (by omega) (by omega)) (by omega)
      have hsb : sliceBound Tryz.prog 37 eInf 25 (some ⟨blk, 0, none⟩) d.size c = #[.slice (some ⟨blk, 0, none⟩) d.size c, typeHandle Tryz.prog 37] := by
        unfold sliceBound; rw [if_neg (swapperK_gt _ _ _ h2)]
      rw [hsb]
      have hp := pdq_all eg hL (swap_ok blk d.size c) (by omega) hO (fun a b d' w' h3 h4 h5 h6 => break_ok blk c d.size (.func g) lb (by omega) a b d' w' h3 h4 h5 h6) (d.size + 1)
        0 d.size (Lib.bitLen d.size) d _ (by omega) rfl (Nat.zero_le _) (Nat.le_refl _) hlim (Or.inl rfl) ho (hB.below hb2 hB.lt)
      refine Calls.mono hp ?_
      rintro e w' ⟨v, d', rfl, h3, h4, rfl, h5, h6, h7⟩
      exact ⟨rfl, d', ho.trans h3 (fun _ h => .inr h), h4, h5, h6, h7⟩
    · rintro e w' ⟨rfl, d', h3, h4, h5, h6, h7⟩
      exact ⟨_, d', rfl, h3, h4, rfl, h5, h6, h7⟩
end Go.Proofs.YtcnmmnhlhenifaaGreat
namespace Go.Proofs.YtcnmmnhlhenifaaGreat
open Go.RowKit Go.Sort
set_option maxRecDepth 100000
set_option linter.unusedSimpArgs false
set_option linter.unusedVariables false
theorem setMany_cS : ∀ (L : List St) (i : Nat) (x : St), i < L.length → setMany (cL L) (i * 2) (encS x) = cL (L.set i x) := by
  intro L i x hi
  refine ext_get! (by simp [cL_size]) fun j hj => ?_
  have hj' : j < L.length * 2 := by simpa [cL_size] using hj
  rw [get_setMany _ _ _ j (by rw [cL_size]; exact hj')]
  have hl : ∀ (K : List St), K.length = L.length → (cL K)[j]! = [Value.int .i64 (atS K (j / 2)).e, .int .i64 (atS K (j / 2)).r][j % 2]! := fun K hK => by
    have h0 : cL K = fA K.toArray := (fA_eq K).symm
    rw [h0, get_flatK _ _ _ _ (by simp [hK]; omega)]
    have h3 : K.toArray[j / 2]! = atS K (j / 2) := by rw [atS_eq (by omega)]; simp [show j / 2 < K.length by omega]
    rw [h3]; rfl
  rw [hl (L.set i x) (by simp), hl L rfl]
  have hm : j % 2 < 2 := Nat.mod_lt _ (by omega)
  by_cases hc : i * 2 ≤ j ∧ j < i * 2 + (encS x).length
  · rw [if_pos hc]
    have h2 : (encS x).length = 2 := rfl
    have : j / 2 = i := by omega
    rw [show atS (L.set i x) (j / 2) = x by rw [this, atS_eq (by simpa using hi)]; simp]
    rw [show j - i * 2 = j % 2 by omega]; rfl
  · rw [if_neg hc]
    have h2 : (encS x).length = 2 := rfl
    have : ¬ i = j / 2 := by omega
    rw [show atS (L.set i x) (j / 2) = atS L (j / 2) by rw [atS_eq (by simp; omega), atS_eq (by omega)]; simp [this]]
section
variable {P : Program} {ops rest : List Oper} {o : Oper} {a : Act} {n d : Nat} {L : List (Nat × Value)} {Q : Exit → Act → World → Prop} {R : List Nat} {w w0 : World} {B : List Ent} {v u : Value} {x y : Operand} {t e ty : TypeId} {i g k m : Nat} {K K' : List St}
theorem copy_run {c1 : Nat} (hu : P.underlying t = some (.slice e)) (hs : (P.info? e).map (·.size) = some 2) {cs : Array Value} (hb : Blk w g ty cs) (hz : cs.size = k * 2) (hr : RdV w 2 u k (cS K)) :
    (Builtin.copy_ #[t, t] o.type #[.slice (some ⟨g, 0, none⟩) k c1, u]).run P w = .ok (goInt k) (w.setRow g (cL K)) := by
  obtain ⟨hl, A, c, rfl, h1, h2, h3⟩ := hr
  have hKl : K.length = k := by rw [cS_len] at hl; omega
  have hself : w.setRow g cs = w := setRow_self w g cs ty (0, 0) hb
  cases hq : P.info? e with
  | none => simp [hq] at hs
  | some inf =>
    have hi : inf.size = 2 := by simpa [hq] using hs
    rcases Nat.eq_zero_or_pos k with h0 | h0
    · subst h0
      have hK0 : K = [] := List.eq_nil_of_length_eq_zero hKl
      subst hK0
      have hcs : cs = cL [] := by
        have : cs.size = 0 := by simpa using hz
        rw [Array.eq_empty_of_size_eq_zero this]; rfl
      rw [← hcs, hself]
      cases A with
      | none => simp [Builtin.copy_, run_underlying hu, Builtin.lenOf, Builtin.firstCells, sizeOf, typeInfo, hq, storeCells, goInt]
      | some ad => simp [Builtin.copy_, run_underlying hu, Builtin.lenOf, Builtin.firstCells, sizeOf, typeInfo, hq, loadCells, loadCellsFrom, storeCells, goInt]
    · obtain ⟨g', off, rfl, h4, h5⟩ := h3 h0
      have hl2 := run_loadCells_list (P := P) w ⟨g', off, none⟩ (cS K) (fun j v hj => by rw [addr_add]; exact h5 j v hj)
      have hst := run_storeCells_at P g 0 ty (cS K) 0 cs w hb (by rw [hz, hl]; omega) (cS_ones K)
      have hcl : (cs.toList.take (0 + 0) ++ cS K ++ cs.toList.drop (0 + 0 + (cS K).length)).toArray = cL K := by
        rw [List.drop_eq_nil_of_le (by simp [hz, hl])]
        simp [cL]
      rw [hcl] at hst
      simp [Builtin.copy_, run_underlying hu, Builtin.lenOf, Builtin.firstCells, sizeOf, typeInfo, hq, hi, ← hl, hl2, hst, goInt]
theorem sq_copy (F : Fr a n L) (M : Mm R w0 w B) (hw : Region.wanted o (yielded ops.toArray a.tmps) = true) {c1 : Nat} {cs : Array Value} (ho : o.op = .call { callee := .builtin .copy, args := #[x, y], argTypes := #[t, t] }) (hx : a.eval x = .slice (some ⟨g, 0, none⟩) k c1) (hy : a.eval y = u)
    (hi : B[i]? = some (.blk g ty cs)) (hz : cs.size = k * 2) (hr : RdV w 2 u k (cS K)) (hT : SlTy P t e 2) (hd : o.dst = some d) (hdn : Nat.blt d n = true)
    (h : ∀ a' w', Fr a' n ((d, .int .i64 k) :: L) → Mm R w0 w' (B.set i (.blk g ty (cL K))) → wpList P ops.toArray Q rest a' w') : wpList P ops.toArray Q (o :: rest) a w :=
  wpList_step fun K' hK => by
    rw [if_pos hw]
    have hrun := copy_run (P := P) (o := o) (c1 := c1) hT.1 hT.2 (M.at hi) hz hr
    have hexec : (execOp a.eval o).run P w = .ok (.value (goInt k)) (w.setRow g (cL K)) := by
      simp only [execOp, ho, resolve, invoke, builtin, Sem.run_bind, Sem.run_pure, Result.andThen_ok, List.map_toArray, List.map_cons, List.map_nil, hx, hy, hrun]
    unfold Oper.wp
    rw [hexec]
    refine hK _ _ ?_
    rw [hd]
    exact h _ _ (F.put hdn) (M.setRow hi _)
theorem sq_stL (F : Fr a n L) (M : Mm R w0 w B) (hw : Region.wanted o (yielded ops.toArray a.tmps) = true) {s : St} {j : Nat} (ho : o.op = .store ty x y) (hx : a.eval x = .pointer (some ⟨g, 0 + j * 2, none⟩)) (hy : a.eval y = .agg #[.int .i64 s.e, .int .i64 s.r])
    (hi : B[i]? = some (.blk g t (cL K))) (hj : j < K.length) (hT : AggTy P ty 2) (hd : o.dst = none)
    (h : ∀ w', Mm R w0 w' (B.set i (.blk g t (cL (K.set j s)))) → wpList P ops.toArray Q rest a w') : wpList P ops.toArray Q (o :: rest) a w :=
  wpList_step fun K' hK => by
    rw [if_pos hw]
    have _ := F.size
    obtain ⟨dd, hu, hdd, hsz⟩ := hT
    have hb := M.at hi
    have hth : w.there g (0 + j * 2) (#[Value.int .i64 s.e, .int .i64 s.r] : Array Value).size := fun q hq => by
      have hq2 : q < 2 := hq
      refine ⟨?_, hb.frozen _⟩
      rw [hb.cell, Array.getElem?_eq_getElem (by rw [cL_size]; omega)]; rfl
    have hrun := run_storeAt_mid (P := P) w g (0 + j * 2) ty #[.int .i64 s.e, .int .i64 s.r] hth (by rw [hsz]; rfl) (by simp [Value.oneCell'])
    have hexec : (execOp a.eval o).run P w = .ok .skip (w.setCells g (0 + j * 2) (encS s)) := by
      simp only [execOp, ho, hx, hy]
      simp only [Sem.run_bind, hrun, Result.andThen_ok, Sem.run_pure]
      rfl
    unfold Oper.wp
    rw [hexec]
    refine hK _ _ ?_
    rw [hd]
    have hb2 := blk_setCells (encS s) (0 + j * 2) w _ hb
    rw [Nat.zero_add, setMany_cS K j s hj] at hb2
    rw [Nat.zero_add]
    exact h _ (M.turned hi (out_setCells _ _ _) hb2)
theorem sq_clear (F : Fr a n L) (M : Mm R w0 w B) (hw : Region.wanted o (yielded ops.toArray a.tmps) = true) {c1 : Nat} (ho : o.op = .call { callee := .builtin .clear, args := #[x], argTypes := #[t] }) (hx : a.eval x = subS 2 k m (.slice (some ⟨g, 0, none⟩) m c1))
    (hi : B[i]? = some (.blk g ty (cL K))) (hk : k ≤ m) (hc1 : m ≤ c1) (hz : K.length = m) (hT : SlTy P t e 2) {bytes : Nat} (hE : (P.info? e).map (fun i => (i.zero, i.size, i.bytes)) = some (some (.agg #[.int .i64 0, .int .i64 0]), 2, bytes)) (hd : o.dst = none)
    (h : ∀ w', Mm R w0 w' (B.set i (.blk g ty (cL (K.take k ++ List.replicate (m - k) St.zero)))) → wpList P ops.toArray Q rest a w') : wpList P ops.toArray Q (o :: rest) a w :=
  wpList_step fun K' hK => by
    rw [if_pos hw]
    have _ := F.size
    have hb := M.at hi
    have hrun : (Builtin.clear_ #[t] o.type #[subS 2 k m (.slice (some ⟨g, 0, none⟩) m c1)]).run P w = .ok (.tuple #[]) (w.setRow g (cL (K.take k ++ List.replicate (m - k) St.zero))) := by
      have hzc : ∀ q, (Builtin.zeroCells #[Value.int .i64 0, .int .i64 0] q).toList = cS (List.replicate q St.zero) := fun q => by
        apply List.ext_getElem
        · simp [Builtin.zeroCells, cS_len]
        · intro j h1 h2
          have hj : j < q * 2 := by simpa [cS_len] using h2
          have hc := cS_at (L := List.replicate q St.zero) (i := j / 2) (by simp; omega)
          have hg : (cS (List.replicate q St.zero))[j / 2 * 2 + j % 2]? = [Value.int .i64 (atS (List.replicate q St.zero) (j / 2)).e, .int .i64 (atS (List.replicate q St.zero) (j / 2)).r][j % 2]? := by
            rw [← hc]; simp [Nat.mod_lt j (show 0 < 2 by omega)]
          rw [show j / 2 * 2 + j % 2 = j by omega, List.getElem?_eq_getElem h2] at hg
          have ha : atS (List.replicate q St.zero) (j / 2) = St.zero := by rw [atS_eq (by simp; omega)]; simp
          rw [ha] at hg
          simp only [Builtin.zeroCells]
          rcases (show j % 2 = 0 ∨ j % 2 = 1 by omega) with h5 | h5
          · rw [h5] at hg
            have hg' := Option.some.inj hg
            rw [hg']
            simp [St.zero, h5]
          · rw [h5] at hg
            have hg' := Option.some.inj hg
            rw [hg']
            simp [St.zero, h5]
      have hke : cL (K.take k ++ List.replicate (m - k) St.zero) = ((cL K).toList.take (k * 2 + 0) ++ cS (List.replicate (m - k) St.zero) ++ (cL K).toList.drop (k * 2 + 0 + (cS (List.replicate (m - k) St.zero)).length)).toArray := by
        rw [List.drop_eq_nil_of_le (by simp [cL_size, cS_len]; omega)]
        simp [cL, cS_app, ← cS_take]
      cases hq : P.info? e with
      | none => simp [hq] at hE
      | some inf =>
        simp only [hq, Option.map_some, Option.some.injEq, Prod.mk.injEq] at hE
        rcases Nat.eq_zero_or_pos (m - k) with h0 | h0
        · have hkm : k = m := by omega
          rw [h0, show K.take k = K by rw [hkm, ← hz, List.take_length]]
          simp only [List.replicate_zero, List.append_nil]
          rw [setRow_self w g (cL K) ty (0, 0) hb]
          simp only [subS, h0]
          split <;> simp [Builtin.clear_, run_underlying hT.1]
        · have hst := run_storeCells_at P g (k * 2) ty (cS (List.replicate (m - k) St.zero)) 0 (cL K) w hb (by rw [cL_size, cS_len, List.length_replicate]; omega) (cS_ones _)
          rw [← hke] at hst
          have hne : m - k ≠ 0 := by omega
          obtain ⟨q, hq2⟩ : ∃ q, m - k = q + 1 := ⟨m - k - 1, by omega⟩
          have e0 : subS 2 k m (.slice (some ⟨g, 0, none⟩) m c1) = .slice (if c1 = k then some ⟨g, 0, none⟩ else some ⟨g, k * 2, none⟩) (m - k) (c1 - k) := by
            simp only [subS, Option.map_some, addr_add, Nat.zero_add]
          rw [e0]
          split
          · rename_i hck
            omega
          · rw [hq2] at hst ⊢
            simp [Builtin.clear_, run_underlying hT.1, zeroValue, typeInfo, hq, hE.1, Value.cells, hzc, hst]
    have hexec : (execOp a.eval o).run P w = .ok (.value (.tuple #[])) (w.setRow g (cL (K.take k ++ List.replicate (m - k) St.zero))) := by
      simp only [execOp, ho, resolve, invoke, builtin, Sem.run_bind, Sem.run_pure, Result.andThen_ok, List.map_toArray, List.map_cons, List.map_nil, hx, hrun]
    unfold Oper.wp
    rw [hexec]
    refine hK _ _ ?_
    rw [hd]
    exact h _ (M.setRow hi _)
end
end Go.Proofs.YtcnmmnhlhenifaaGreat
namespace Go.Proofs.YtcnmmnhlhenifaaGreat
open Go.RowKit Go.Sort
set_option maxRecDepth 100000
set_option linter.unusedSimpArgs false
set_option linter.unusedVariables false
structure CInv (L K : List St) (k0 k2 k : Nat) : Prop where
  len : K.length = L.length
  h1 : 1 ≤ k2
  h2 : k0 + k2 ≤ L.length
  h3 : 1 ≤ k
  h4 : k + 1 ≤ k0 + k2
  same : ∀ p, k0 + k2 - 1 ≤ p → atS K p = atS L p
  asc : ∀ j, j + 1 < k → (atS K j).aheadB (atS K (j + 1)) = true
  last : atS K (k - 1) = atS L (k0 + k2 - 1)
  mem : ∀ t, (∃ j, j < k ∧ atS K j = t) ↔ (∃ j, j < k0 + k2 ∧ atS L j = t)
def Ord (L : List St) : Prop := ∀ i, i + 1 < L.length → atS L i = atS L (i + 1) ∨ (atS L i).aheadB (atS L (i + 1)) = true
theorem CInv.start {L : List St} {k : Nat} (hk : 1 ≤ k) (hl : k < L.length) (ha : ∀ j, j + 1 < k → (atS L j).aheadB (atS L (j + 1)) = true) (he : atS L k = atS L (k - 1)) : CInv L L k 1 k :=
  ⟨rfl, Nat.le_refl _, by omega, hk, Nat.le_refl _, fun _ _ => rfl, ha, by rw [Nat.add_sub_cancel, he], fun t => ⟨fun ⟨j, h1, h2⟩ => ⟨j, by omega, h2⟩, fun ⟨j, h1, h2⟩ => by
    rcases (show j < k ∨ j = k by omega) with h3 | h3
    · exact ⟨j, h3, h2⟩
    · exact ⟨k - 1, by omega, by rw [← he, ← h3, h2]⟩⟩⟩
theorem CInv.skip {L K : List St} {k0 k2 k : Nat} (h : CInv L K k0 k2 k) (hl : k0 + k2 < L.length) (he : atS K (k0 + k2) = atS K (k0 + (k2 - 1))) : CInv L K k0 (k2 + 1) k := by
  have := h.h1
  have e1 := h.same (k0 + k2) (by omega)
  have e2 := h.same (k0 + k2 - 1) (by omega)
  rw [show k0 + (k2 - 1) = k0 + k2 - 1 by omega] at he
  refine ⟨h.len, by omega, by omega, h.h3, by have := h.h4; omega, fun p hp => h.same p (by omega), h.asc, ?_, fun t => ?_⟩
  · rw [h.last, show k0 + (k2 + 1) - 1 = k0 + k2 by omega, ← e1, he, e2]
  · rw [h.mem]
    constructor
    · rintro ⟨j, h1, h2⟩; exact ⟨j, by omega, h2⟩
    · rintro ⟨j, h1, h2⟩
      rcases (show j < k0 + k2 ∨ j = k0 + k2 by omega) with h3 | h3
      · exact ⟨j, h3, h2⟩
      · exact ⟨k0 + k2 - 1, by omega, by rw [← e2, ← he, e1, ← h3, h2]⟩
theorem CInv.put {L K : List St} {k0 k2 k : Nat} (h : CInv L K k0 k2 k) (hs : Ord L) (hl : k0 + k2 < L.length) (he : ¬ atS K (k0 + k2) = atS K (k0 + (k2 - 1))) : CInv L (K.set k (atS K (k0 + k2))) k0 (k2 + 1) (k + 1) := by
  have g1 := h.h1
  have g4 := h.h4
  have g3 := h.h3
  have g2 := h.h2
  have e1 := h.same (k0 + k2) (by omega)
  have e2 := h.same (k0 + k2 - 1) (by omega)
  rw [show k0 + (k2 - 1) = k0 + k2 - 1 by omega] at he
  have hk : k < K.length := by rw [h.len]; omega
  refine ⟨by simp [h.len], by omega, by omega, by omega, by omega, fun p hp => ?_, fun j hj => ?_, ?_, fun t => ?_⟩
  · rw [atS_set hk, if_neg (by omega)]; exact h.same p (by omega)
  · rw [atS_set hk, atS_set hk, if_neg (by omega)]
    rcases (show j + 1 < k ∨ j + 1 = k by omega) with h5 | h5
    · rw [if_neg (by omega)]; exact h.asc j h5
    · rw [if_pos h5.symm, show j = k - 1 by omega, h.last]
      have := hs (k0 + k2 - 1) (by omega)
      rw [show k0 + k2 - 1 + 1 = k0 + k2 by omega] at this
      rcases this with h6 | h6
      · exact absurd (by rw [e1, e2, h6]) he
      · rw [e1]; exact h6
  · rw [atS_set hk, if_pos (by omega), show k0 + (k2 + 1) - 1 = k0 + k2 by omega, e1]
  · constructor
    · rintro ⟨j, h5, h6⟩
      rw [atS_set hk] at h6
      split at h6
      · exact ⟨k0 + k2, by omega, by rw [← e1]; exact h6⟩
      · obtain ⟨j', h7, h8⟩ := (h.mem t).1 ⟨j, by omega, h6⟩
        exact ⟨j', by omega, h8⟩
    · rintro ⟨j, h5, h6⟩
      rcases (show j < k0 + k2 ∨ j = k0 + k2 by omega) with h7 | h7
      · obtain ⟨j', h8, h9⟩ := (h.mem t).2 ⟨j, h7, h6⟩
        exact ⟨j', by omega, by rw [atS_set hk, if_neg (by omega)]; exact h9⟩
      · exact ⟨k, by omega, by rw [atS_set hk, if_pos rfl, e1, ← h7, h6]⟩
theorem CInv.fin {L K : List St} {k0 k2 k : Nat} (h : CInv L K k0 k2 k) (he : L.length ≤ k0 + k2) : Asc (K.take k) ∧ ∀ t, t ∈ K.take k ↔ t ∈ L := by
  have g2 := h.h2
  have g4 := h.h4
  have hl : (K.take k).length = k := by rw [List.length_take, h.len]; omega
  refine ⟨fun i hi => ?_, fun t => ?_⟩
  · rw [hl] at hi
    rw [atS_take (by omega), atS_take (by omega)]; exact h.asc i hi
  · rw [mem_at, mem_at, hl, show L.length = k0 + k2 by omega]
    rw [← h.mem]
    constructor
    · rintro ⟨j, h5, h6⟩; exact ⟨j, h5, by rw [← atS_take h5]; exact h6⟩
    · rintro ⟨j, h5, h6⟩; exact ⟨j, h5, by rw [atS_take h5]; exact h6⟩
theorem asc_of {L : List St} (h : ∀ j, j + 1 < L.length → (atS L j).aheadB (atS L (j + 1)) = true) : Asc L := h
theorem asc_short {L : List St} (h : L.length < 2) : Asc L := fun i hi => by omega
theorem ord_go {L : List St} {k : Int} (hs : Ord L) (h0 : 1 ≤ k) (hl : k < L.length) (ha : ∀ j, j + 1 < k.toNat → (atS L j).aheadB (atS L (j + 1)) = true) (he : ¬ atS L k.toNat = atS L (k - 1).toNat) : ∀ j, j + 1 < (k + 1).toNat → (atS L j).aheadB (atS L (j + 1)) = true := fun j hj => by
  rcases (show j + 1 < k.toNat ∨ j + 1 = k.toNat by omega) with h | h
  · exact ha j h
  · rcases hs j (by omega) with h1 | h1
    · exact absurd (by rw [← h, show (k - 1).toNat = j by omega, h1]) he
    · exact h1
theorem ord_of_sorted {d : Array St} (h : SortedIn St.aheadB 0 d.size d) : Ord d.toList := fun i hi => by
  have hi' : i + 1 < d.size := by simpa using hi
  have h1 := h i (i + 1) (by omega) (by omega) hi'
  have e : ∀ k, k < d.size → atS d.toList k = d[k]! := fun k hk => by rw [atS_eq (by simpa using hk)]; simp [hk]
  rw [e i (by omega), e (i + 1) hi']
  cases hq : (d[i]!).aheadB (d[i + 1]!) with
  | true => exact .inr rfl
  | false => exact .inl (ahead_tri hq h1)
theorem gof_sub {m l h n c g o : Nat} {v : Value} (e : v = .slice (some ⟨g, o, none⟩) n c) : gof (subS m l h v) = g := by
  subst e
  simp only [subS, Option.map_some, addr_add]
  split <;> rfl
section
variable {R : List Nat} {w0 w : World} {B : List Ent} {i n p j : Nat} {t m : Nat} {v : Value} {xs : List Value} {K : List St}
theorem Mm.toGot (M : Mm R w0 w B) (h : B[i]? = some (.row t m v n xs)) : Mm R w0 w (B.set i (.got m v n xs)) := by
  refine M.swap h (x' := .got m v n xs) (Out.refl _ _) (M.rv h) (fun g hg => ?_) (fun g hg => by cases hg)
  simp only [Ent.fp] at hg ⊢
  split at hg
  · cases hg
  · rw [(own_spot (M.ow h) (by omega)).1]
    exact .inl (by simpa using hg)
theorem Mm.subGot (M : Mm R w0 w B) (h : B[i]? = some (.got 2 v (n - p) (cS (K.drop p)))) (hK : K.length = n) (hj : p + j ≤ n) : Mm R w0 w (B.set i (.got 2 (subS 2 j (n - p) v) (n - (p + j)) (cS (K.drop (p + j))))) := by
  have hr := M.gv h
  have hs := sub_rv (k := j) hr (by rw [List.length_drop, hK]) (by omega)
  rw [List.drop_drop, show n - p - j = n - (p + j) by omega] at hs
  refine M.swap h (x' := .got 2 (subS 2 j (n - p) v) (n - (p + j)) (cS (K.drop (p + j)))) (Out.refl _ _) hs (fun g hg => ?_) (fun g hg => by cases hg)
  simp only [Ent.fp] at hg ⊢
  split at hg
  · cases hg
  · obtain ⟨c, hv, _⟩ := hr.form (by omega)
    rw [if_neg (by omega)]
    rw [gof_sub hv] at hg
    exact .inl hg
end
theorem own_whole {w : World} {g t n : Nat} {L : List St} (h : Blk w g t (cL L)) (hz : L.length = n) (hn : n ≤ 1000000000) : w.ownsRow 0 t 2 (.slice (some ⟨g, 0, none⟩) n n) n (cS L) :=
  ⟨by rw [cS_len, hz], .inr ⟨g, n, _, rfl, Nat.zero_le _, h, Nat.le_refl _, by unfold maxLen; omega, by rw [cL_size, hz], by simp only [cL]; rw [List.take_of_length_le (by rw [cS_len, hz]; omega)]⟩⟩
theorem own_first {w : World} {g t n k : Nat} {K Z : List St} (h : Blk w g t (cL (K ++ Z))) (hz : (K ++ Z).length = n) (hk : K.length = k) (hn : n ≤ 1000000000) : w.ownsRow 0 t 2 (subS 2 0 k (.slice (some ⟨g, 0, none⟩) n n)) k (cS K) := by
  have e : subS 2 0 k (.slice (some ⟨g, 0, none⟩) n n) = .slice (some ⟨g, 0, none⟩) k n := by
    simp only [subS, Option.map_some, addr_add, Nat.zero_mul, Nat.add_zero, Nat.sub_zero, ite_self]
  have hkn : k ≤ n := by rw [← hz, ← hk, List.length_append]; omega
  rw [e]
  exact ⟨by rw [cS_len, hk], .inr ⟨g, n, _, rfl, Nat.zero_le _, h, hkn, by unfold maxLen; omega, by rw [cL_size, hz], by simp only [cL, cS_app]; rw [List.take_left' (by rw [cS_len, hk])]⟩⟩
theorem fA_cL (d : Array St) : fA d = cL d.toList := by have := fA_eq d.toList; simpa [cL] using this
theorem swo_ahead : SWO St.aheadB where
  irrefl := fun x => ahead_irr
  trans := fun x y z h1 h2 => ahead_trans h1 h2
  ntrans := fun x y z h1 h2 => by
    rw [← Bool.not_eq_true, St.ahead_iff] at *; omega
theorem cmp_lt (a b : St) : decide (a.cmp b < 0) = a.aheadB b := by
  rw [Bool.eq_iff_iff, decide_eq_true_eq, St.ahead_iff]
  have := cmp_spec a b
  omega
theorem mem_perm {d d' : Array St} (h : PermIn 0 d.size d d') (t : St) : t ∈ d'.toList ↔ t ∈ d.toList := by
  have h3 := h.2.2
  have e1 : d'.extract 0 d.size = d' := by rw [← h.1]; simp
  rw [e1] at h3
  have e2 : d.extract 0 d.size = d := by simp
  rw [e2] at h3
  exact h3.mem_iff
theorem first_spot (g k n : Nat) : (subS 2 0 k (.slice (some ⟨g, 0, none⟩) n n)).ownBlock = some g := by
  simp only [subS, Option.map_some, addr_add, Nat.zero_mul, Nat.add_zero, ite_self]
  rfl
end Go.Proofs.YtcnmmnhlhenifaaGreat
namespace Go.Proofs.YtcnmmnhlhenifaaGreat
open Go.RowKit
set_option maxRecDepth 100000
set_option linter.unusedSimpArgs false
set_option linter.unusedVariables false
theorem made_two (n : Nat) : madeCells #[.int .i64 0, .int .i64 0] (n * 2) = cL (List.replicate n St.zero) := by
  apply Array.ext
  · rw [cL_size, List.length_replicate]; simp [madeCells]
  · intro j h1 h2
    have hj : j < n * 2 := by simpa [madeCells] using h1
    have hc := cS_at (L := List.replicate n St.zero) (i := j / 2) (by simp; omega)
    have hg : (cS (List.replicate n St.zero))[j / 2 * 2 + j % 2]? = [Value.int .i64 (atS (List.replicate n St.zero) (j / 2)).e, .int .i64 (atS (List.replicate n St.zero) (j / 2)).r][j % 2]? := by
      rw [← hc]; simp [Nat.mod_lt j (show 0 < 2 by omega)]
    have hl : j < (cS (List.replicate n St.zero)).length := by rw [cS_len, List.length_replicate]; exact hj
    rw [show j / 2 * 2 + j % 2 = j by omega, List.getElem?_eq_getElem hl] at hg
    have ha : atS (List.replicate n St.zero) (j / 2) = St.zero := by rw [atS_eq (by simp; omega)]; simp
    rw [ha] at hg
    simp only [madeCells, cL, List.getElem_toArray]
    rcases (show j % 2 = 0 ∨ j % 2 = 1 by omega) with h5 | h5
    · rw [h5] at hg
      rw [Option.some.inj hg]
      simp [St.zero, h5]
    · rw [h5] at hg
      rw [Option.some.inj hg]
      simp [St.zero, h5]
section
variable {P : Program} {ops rest : List Oper} {o : Oper} {a : Act} {n d : Nat} {L : List (Nat × Value)} {Q : Exit → Act → World → Prop} {R : List Nat} {w w0 : World} {B : List Ent} {x y : Operand} {t e : TypeId} {i g k : Nat} {K : List St}
theorem sq_makeS (F : Fr a n L) (M : Mm R w0 w B) (hw : Region.wanted o (yielded ops.toArray a.tmps) = true) {kc kl : IntKind} (ho : o.op = .makeSlice t x y) (hx : a.eval x = .int kl ((k : Nat) : Int)) (hy : a.eval y = .int kc ((k : Nat) : Int)) (ht : P.underlying t = some (.slice e))
    (hE : (P.info? e).map (fun i => (i.zero, i.size, i.bytes)) = some (some (.agg #[.int .i64 0, .int .i64 0]), 2, 16))
    (hk : k ≤ 20000000) (hd : o.dst = some d) (hdn : Nat.blt d n = true)
    (h : ∀ a' w' g, Fr a' n ((d, .slice (some ⟨g, 0, none⟩) k k) :: L) → Mm R w0 w' (.blk g e (cL (List.replicate k St.zero)) :: B) → wpList P ops.toArray Q rest a' w') : wpList P ops.toArray Q (o :: rest) a w := by
  cases hq : P.info? e with
  | none => simp [hq] at hE
  | some inf =>
    simp only [hq, Option.map_some, Option.some.injEq, Prod.mk.injEq] at hE
    have hb' : (inf.bytes : Int) * ((k : Nat) : Int) ≤ 281474976710656 := by
      rw [hE.2.2]; omega
    have hr := run_make (P := P) w t e inf (.agg #[.int .i64 0, .int .i64 0]) ht hq hE.1 kl kc ((k : Nat) : Int) ((k : Nat) : Int) (by omega) (Int.le_refl _) hb' (by omega)
    rw [hE.2.1] at hr
    simp only [Int.toNat_natCast] at hr
    rw [show (Value.agg #[.int .i64 0, .int .i64 0]).cells = #[Value.int .i64 0, .int .i64 0] from rfl, made_two] at hr
    exact sq_run F hw (v := .slice (some ⟨w.heap.size, 0, none⟩) k k) (by simp only [execOp, ho, hx, hy, Sem.run_bind, hr, Result.andThen_ok, Sem.run_pure]) (M.alloc e _) hd hdn (fun a' w' F' M' => h a' w' _ F' M')
theorem Mm.blkRow (M : Mm R w0 w B) (h : B[i]? = some (.blk g t (cL K))) (hz : K.length = k) (hn : k ≤ 1000000000) : Mm R w0 w (B.set i (.row t 2 (.slice (some ⟨g, 0, none⟩) k k) K.length (cS K))) :=
  M.swap h (x' := .row t 2 (.slice (some ⟨g, 0, none⟩) k k) K.length (cS K)) (Out.refl _ _) (by rw [hz]; exact own_whole (M.at h) hz hn) (fun g' hg => .inl (by simpa [Ent.fp, Value.ownBlock] using hg)) (fun g hg => by cases hg)
end
theorem set_same {K L : List St} {i : Nat} (hz : K.length = L.length) (hi : i < L.length) (h : ∀ k, k < i → atS K k = atS L k) : ∀ k, k < i + 1 → atS (K.set i (atS L i)) k = atS L k := fun k hk => by
  rcases Nat.lt_or_ge k i with h1 | h1
  · rw [← h k h1]; unfold atS; simp only [List.getD_eq_getElem?_getD]; rw [List.getElem?_set_ne (by omega)]
  · have e : k = i := by omega
    subst e
    unfold atS; rw [List.getD_eq_getElem?_getD, List.getElem?_set_self (by omega), List.getD_eq_getElem?_getD, List.getElem?_eq_getElem hi]; rfl
theorem eq_of_at {K L : List St} {i : Nat} (hz : K.length = L.length) (hi : ¬ i < L.length) (h : ∀ k, k < i → atS K k = atS L k) : K = L := by
  apply List.ext_getElem hz
  intro k h1 h2
  have e := h k (by omega)
  rwa [atS_eq h1, atS_eq h2] at e
end Go.Proofs.YtcnmmnhlhenifaaGreat
namespace Go.Proofs.YtcnmmnhlhenifaaGreat
open Go.RowKit
set_option maxRecDepth 100000
set_option linter.unusedSimpArgs false
set_option linter.unusedVariables false
def heldB (C : List Ct) (p t : St) : Bool := C.any fun c => decide (0 < c.2) && (c.1.afterB p && (c.1.after p).leB t)
def overI (m k : Int) : Int := if 1000000000 < m + k then 9 else 0
def mayI (n : Int) (E : List Ed) (B : Bags) (x : En) : Int :=
  if rightN x = false ∨ n ≤ x.po.n then 2
  else if (x.kind = 3 ∨ x.kind = 4) ∧ ((E.length : Int) ≤ x.edge ∨ (atG E x.edge.toNat).t ≠ x.po.n) then 2
  else if x.kind = 5 then (if x.seq ≠ 0 ∨ x.po.n ≠ 0 then 8 else overI (ofC (atK B x.po.n.toNat) x.po.t) x.n)
  else if x.kind = 1 then (if heldB (atK B x.po.n.toNat) St.zero x.po.t = false then 8 else overI (ofC (atK B x.po.n.toNat) x.po.t) x.n)
  else if x.kind = 3 then (if heldB (atK B (atG E x.edge.toNat).f.toNat) (atG E x.edge.toNat).p x.po.t = false then 8 else 0)
  else if x.kind = 2 then (if ofC (atK B x.po.n.toNat) x.po.t < x.n then 9 else 0)
  else overI (ofC (atK B x.po.n.toNat) x.po.t) x.n
def signN (x : En) : Int := if x.kind = 2 then -x.n else x.n
def entB (n : Int) (E : List Ed) (B : Bags) (x : En) : Bags :=
  if mayI n E B x ≠ 0 ∨ x.kind = 3 then B else B.set x.po.n.toNat (addC (atK B x.po.n.toNat) x.po.t (signN x))
theorem pu_negW {P : Program} {o : Oper} {a : Act} {x : Operand} {t : TypeId} {i : Int} (ho : o.op = .unOp .neg t x) (hx : a.eval x = .int .i64 i) : Pure P o a (.int .i64 (IntKind.i64.wrap (-i))) := fun w => by
  simp only [execOp, ho, hx]; simp [go_sem]
theorem wrap_neg {i : Int} (h : -9223372036854775807 ≤ i ∧ i ≤ 9223372036854775807) : IntKind.i64.wrap (-i) = -i := IntWalk.i64_in _ (by omega)
def moveI (x : En) : Int := if x.kind = 1 ∨ x.kind = 3 ∨ x.kind = 5 then x.n else if x.kind = 2 then IntKind.i64.wrap (-x.n) else 0
section
variable {n : Int} {E : List Ed} {B : Bags} {x : En}
theorem may_right (h : mayI n E B x = 0) : rightN x = true ∧ x.po.n < n := by
  unfold mayI at h
  split at h
  · omega
  · rename_i z
    refine ⟨by cases hr : rightN x with | true => rfl | false => exact absurd (.inl hr) z, ?_⟩
    exact Int.not_le.1 fun h1 => z (.inr h1)
theorem ent_no (h : ¬ mayI n E B x = 0) : entB n E B x = B := if_pos (.inl h)
theorem ent_send (h : x.kind = 3) : entB n E B x = B := if_pos (.inr h)
theorem ent_yes (h : mayI n E B x = 0) (hk : ¬ x.kind = 3) : entB n E B x = B.set x.po.n.toNat (addC (atK B x.po.n.toNat) x.po.t (signN x)) := if_neg (fun z => z.elim (fun z => z h) hk)
theorem ent_len : (entB n E B x).length = B.length := by unfold entB; split <;> simp
end
def GoodE (n : Int) (E : List Ed) (x : En) : Prop := rightN x = true ∧ x.po.n < n ∧ ((x.kind = 3 ∨ x.kind = 4) → x.edge < (E.length : Int) ∧ (atG E x.edge.toNat).t = x.po.n)
section
variable {n : Int} {E : List Ed} {B : Bags} {x : En}
theorem may_bad1 (h : rightN x = false ∨ n ≤ x.po.n) : mayI n E B x = 2 := if_pos h
theorem may_bad2 (h : rightN x = true) (hk : x.kind = 3 ∨ x.kind = 4) (he : (E.length : Int) ≤ x.edge ∨ (atG E x.edge.toNat).t ≠ x.po.n) : mayI n E B x = 2 := by
  unfold mayI
  split
  · rfl
  · rw [if_pos ⟨hk, he⟩]
theorem may_good (h : GoodE n E x) : mayI n E B x = if x.kind = 5 then (if x.seq ≠ 0 ∨ x.po.n ≠ 0 then 8 else overI (ofC (atK B x.po.n.toNat) x.po.t) x.n)
    else if x.kind = 1 then (if heldB (atK B x.po.n.toNat) St.zero x.po.t = false then 8 else overI (ofC (atK B x.po.n.toNat) x.po.t) x.n)
    else if x.kind = 3 then (if heldB (atK B (atG E x.edge.toNat).f.toNat) (atG E x.edge.toNat).p x.po.t = false then 8 else 0)
    else if x.kind = 2 then (if ofC (atK B x.po.n.toNat) x.po.t < x.n then 9 else 0)
    else overI (ofC (atK B x.po.n.toNat) x.po.t) x.n := by
  obtain ⟨h1, h2, h3⟩ := h
  unfold mayI
  rw [if_neg (by rw [h1]; simp; omega), if_neg]
  rintro ⟨hk, he⟩
  have := h3 hk
  rcases he with he | he
  · omega
  · exact he this.2
theorem may_feed8 (h : GoodE n E x) (hk : x.kind = 5) (hx : x.seq ≠ 0 ∨ x.po.n ≠ 0) : mayI n E B x = 8 := by rw [may_good h, if_pos hk, if_pos hx]
theorem may_feed (h : GoodE n E x) (hk : x.kind = 5) (h1 : x.seq = 0) (h2 : x.po.n = 0) : mayI n E B x = overI (ofC (atK B x.po.n.toNat) x.po.t) x.n := by rw [may_good h, if_pos hk, if_neg (by omega)]
theorem may_hold (h : GoodE n E x) (hk : x.kind = 1) : mayI n E B x = if heldB (atK B x.po.n.toNat) St.zero x.po.t = false then 8 else overI (ofC (atK B x.po.n.toNat) x.po.t) x.n := by rw [may_good h, if_neg (by omega), if_pos hk]
theorem may_send (h : GoodE n E x) (hk : x.kind = 3) : mayI n E B x = if heldB (atK B (atG E x.edge.toNat).f.toNat) (atG E x.edge.toNat).p x.po.t = false then 8 else 0 := by rw [may_good h, if_neg (by omega), if_neg (by omega), if_pos hk]
theorem may_drop (h : GoodE n E x) (hk : x.kind = 2) : mayI n E B x = if ofC (atK B x.po.n.toNat) x.po.t < x.n then 9 else 0 := by rw [may_good h, if_neg (by omega), if_neg (by omega), if_neg (by omega), if_pos hk]
theorem may_take (h : GoodE n E x) (h1 : x.kind ≠ 1) (h2 : x.kind ≠ 2) (h3 : x.kind ≠ 3) (h5 : x.kind ≠ 5) : mayI n E B x = overI (ofC (atK B x.po.n.toNat) x.po.t) x.n := by rw [may_good h, if_neg h5, if_neg h1, if_neg h3, if_neg h2]
theorem over_t {m k : Int} (h : 1000000000 < m + k) : overI m k = 9 := if_pos h
theorem over_f {m k : Int} (h : ¬ 1000000000 < m + k) : overI m k = 0 := if_neg h
theorem over_zero {m k : Int} (h : overI m k = 0) : m + k ≤ 1000000000 := by unfold overI at h; split at h <;> omega
theorem may_ok (h : mayI n E B x = 0) : GoodE n E x ∧ (x.kind = 5 → x.seq = 0 ∧ x.po.n = 0) ∧ (x.kind = 1 → heldB (atK B x.po.n.toNat) St.zero x.po.t = true) ∧ (x.kind = 3 → heldB (atK B (atG E x.edge.toNat).f.toNat) (atG E x.edge.toNat).p x.po.t = true) ∧ (x.kind = 2 → x.n ≤ ofC (atK B x.po.n.toNat) x.po.t) ∧ (x.kind ≠ 2 → x.kind ≠ 3 → ofC (atK B x.po.n.toNat) x.po.t + x.n ≤ 1000000000) := by
  have hG : GoodE n E x := by
    unfold mayI at h
    split at h
    · omega
    · rename_i h1
      split at h
      · omega
      · rename_i h2
        refine ⟨by cases hr : rightN x with | true => rfl | false => exact absurd (.inl hr) h1, by omega, fun hk => ?_⟩
        by_cases he : (E.length : Int) ≤ x.edge
        · exact absurd ⟨hk, .inl he⟩ h2
        · refine ⟨by omega, ?_⟩
          by_cases ht : (atG E x.edge.toNat).t = x.po.n
          · exact ht
          · exact absurd ⟨hk, .inr ht⟩ h2
  rw [may_good hG] at h
  refine ⟨hG, fun hk => ?_, fun hk => ?_, fun hk => ?_, fun hk => ?_, fun h2 h3 => ?_⟩
  · rw [if_pos hk] at h; split at h <;> omega
  · rw [if_neg (by omega), if_pos hk] at h
    split at h
    · omega
    · rename_i z; exact (Bool.not_eq_false _).mp z
  · rw [if_neg (by omega), if_neg (by omega), if_pos hk] at h
    split at h
    · omega
    · rename_i z; exact (Bool.not_eq_false _).mp z
  · rw [if_neg (by omega), if_neg (by omega), if_neg (by omega), if_pos hk] at h
    split at h <;> omega
  · rw [if_neg h3, if_neg h2] at h
    split at h
    · split at h
      · omega
      · exact over_zero h
    · split at h
      · split at h
        · omega
        · exact over_zero h
      · exact over_zero h
theorem sign_ok (hk : ∀ i, i < B.length → BagOK (atK B i)) (hl : (B.length : Int) = n) (h : mayI n E B x = 0) (h3 : x.kind ≠ 3) : x.po.n.toNat < B.length ∧ addE (atK B x.po.n.toNat) x.po.t (signN x) = 0 ∧ ofC (atK B x.po.n.toNat) x.po.t + signN x = ofC (atK B x.po.n.toNat) x.po.t + (if x.kind = 2 then -x.n else x.n) := by
  obtain ⟨hG, _, _, _, hd, ho⟩ := may_ok h
  have hr := rightN_iff.1 hG.1
  have hi : x.po.n.toNat < B.length := by have := hG.2.1; omega
  have hb := (hk _ hi).bound x.po.t
  refine ⟨hi, ?_, rfl⟩
  unfold signN
  split
  · rename_i h2
    have := hd h2
    exact addE_ok hr.2.2.2.1 (by omega)
  · rename_i h2
    have := ho h2 h3
    exact addE_ok hr.2.2.2.1 (by omega)
end
end Go.Proofs.YtcnmmnhlhenifaaGreat
namespace Go.Proofs.YtcnmmnhlhenifaaGreat
open Go.RowKit Go.MapKept
set_option maxRecDepth 100000
set_option linter.unusedSimpArgs false
set_option linter.unusedVariables false
theorem keyOK_plain {P : Program} {k : TypeId} {d : TypeDesc} (hk : P.underlying k = some d) : KeyOK P k (fun v => IsKey d v) :=
  ⟨fun w em _ h => run_checkKey hk h em 9999, fun w x hx es hes => by
    rcases findNow_spec hx es 0 hes with ⟨h1, h2⟩ | ⟨j, e0, h1, h2, h3⟩
    · exact .inl ⟨run_findKey hk h1, h2⟩
    · exact .inr ⟨j, e0, by simpa using run_findKey hk h1, h2, h3⟩, fun w _ h => run_keyThatStays h⟩
def idV (v : Value) : Value := v
theorem mtCond : MapEn Tryz.prog 80 3 87 iV idV .nilFunc :=
  ⟨Tryz.underlying80, ⟨_, keyOK_plain Tryz.underlying3, fun a => (rfl : IntKind.i64 = IntKind.i64)⟩, fun a b h => by unfold iV at h; injection h, fun w => by kernel_rfl⟩
section
variable {P : Program} {ops rest : List Oper} {o : Oper} {a : Act} {n d : Nat} {L : List (Nat × Value)} {Q : Exit → Act → World → Prop} {R : List Nat} {w w0 : World} {B : List Ent} {zv v : Value} {x y z : Operand} {t k e : TypeId} {i g : Nat} {κ ν : Type} [DecidableEq κ] {ek : κ → Value} {ev : ν → Value} {D D' : List (κ × ν)} {kx : κ} {vx : ν} {C : World → Prop}
theorem sq_insert (E : MapEn P t k e ek ev zv) (F : Fr a n L) (M : Mm R w0 w B) (hw : Region.wanted o (yielded ops.toArray a.tmps) = true) (ho : o.op = .insert t x y z) (hx : a.eval x = .map (some g)) (hy : a.eval y = ek kx) (hz : a.eval z = ev vx)
    (hi : B[i]? = some (.own [g] (MpV g (encM ek ev D)))) (hC : ((kx, vx) :: delM D kx).Perm D') (hd : o.dst = none)
    (h : ∀ w', Mm R w0 w' (B.set i (.own [g] (MpV g (encM ek ev D')))) → wpList P ops.toArray Q rest a w') : wpList P ops.toArray Q (o :: rest) a w := by
  obtain ⟨K, hK, hk⟩ := E.keys
  obtain ⟨w', hr, h1, h2⟩ := update_run hK hk E.inj E.ty (M.pv hi) hC
  exact sq_run0 F hw (v := undef) (.inr (by simp only [execOp, ho, hx, hy, hz]; simp [hr])) (M.swap hi (x' := .own [g] (MpV g (encM ek ev D'))) h1 ⟨h2, MpV.loc _ _⟩ (fun g hg => .inl hg) (fun g hg => by cases hg)) hd h
end
section
variable {P : Program} {ops rest : List Oper} {o : Oper} {a : Act} {n d : Nat} {L : List (Nat × Value)} {Q : Act → Prop} {C : World → Prop} {v : Value} {x : Operand}
theorem qt_callV (F : Fr a n L) (hw : Region.wanted o (yielded ops.toArray a.tmps) = true) {xs : List Operand} {ts : Array TypeId} {args : List Value} {f : Nat} {lb : Array Value} (ho : o.op = .call { callee := .value x, args := xs.toArray, argTypes := ts })
    (hx : a.eval x = .func (.func f) #[] lb) (he : enters P f = true) (ha : xs.map a.eval = args) (hc : ∀ w, C w → Calls P f (args.toArray ++ lb) w fun e w' => e = .returned v ∧ C w') (hd : o.dst = some d) (hdn : Nat.blt d n = true)
    (h : ∀ a', Fr a' n ((d, v) :: L) → wpQuiet P ops.toArray C Q rest a') : wpQuiet P ops.toArray C Q (o :: rest) a :=
  wpQuiet_step fun K hK => by
    rw [if_pos hw]
    refine ⟨v, fun w hC => ?_, hK _ (by rw [hd]; exact h _ (F.put hdn))⟩
    unfold Oper.quietAt
    rw [run_callV ho hx ha w, callFunc_enters he]
    exact ⟨rfl, hc w hC⟩
def nilS : Value → Bool
  | .slice none _ _ => true
  | _ => false
theorem eqlSN_in (w : World) (d : Nat) {t e : TypeId} (A : Option Addr) (n c : Nat) (h : P.underlying t = some (.slice e)) : (Op.equalIn (d + 1) t (.slice A n c) (.slice none 0 0)).run P w = .ok A.isNone w := by
  cases A <;> simp [Op.equalIn, run_underlying h]
theorem eqlSN_run (w : World) {t e : TypeId} (A : Option Addr) (n c : Nat) (h : P.underlying t = some (.slice e)) : (binOp .eql t (.slice A n c) (.slice none 0 0)).run P w = .ok (.bool A.isNone) w := by
  simp only [binOp]
  simp [Op.equal, Op.maxDepth, eqlSN_in w 9999 A n c h]
theorem pu_eqlSN {w : World} {m n : Nat} {xs : List Value} {u : Value} {y : Operand} {t t' e : TypeId} (ho : o.op = .binOp .eql t x y t') (hx : a.eval x = u) (hv : RdV w m u n xs) (hy : a.eval y = .slice none 0 0) (ht : P.underlying t = some (.slice e)) : Pure P o a (.bool (nilS u)) := fun w' => by
  obtain ⟨_, A, c, rfl, _, _, _⟩ := hv
  simp only [execOp, ho, hx, hy]
  cases A <;> simp [go_sem, ht, eqlSN_run w' _ _ _ ht, nilS]
theorem nil_len {w : World} {m n : Nat} {xs : List Value} {u : Value} (hv : RdV w m u n xs) (h : nilS u = true) : n = 0 := by
  obtain ⟨_, A, c, rfl, _, _, h3⟩ := hv
  rcases Nat.eq_zero_or_pos n with h0 | h0
  · exact h0
  · obtain ⟨g, off, rfl, _, _⟩ := h3 h0
    cases h
end
structure Cd where
  gm : Nat
  be : Nat
  bh : Nat
  ba : Nat
  br : Nat
def cdL (c : Cd) : List (Int × Value) :=
  [(2, .func (.func 69) #[] #[.pointer (some ⟨c.bh, 0, none⟩)]), (4, .func (.func 68) #[] #[.pointer (some ⟨c.ba, 0, none⟩), .pointer (some ⟨c.br, 0, none⟩)]),
   (3, .func (.func 67) #[] #[.pointer (some ⟨c.ba, 0, none⟩), .pointer (some ⟨c.be, 0, none⟩), .pointer (some ⟨c.bh, 0, none⟩)]), (1, .func (.func 65) #[] #[.pointer (some ⟨c.bh, 0, none⟩), .pointer (some ⟨c.br, 0, none⟩)]),
   (5, .func (.func 64) #[] #[.pointer (some ⟨c.br, 0, none⟩)])]
def cdEnts (c : Cd) (v : Value) (K : List (Nat × Nat)) : List Ent :=
  [.own [c.gm] (MpV c.gm (encM iV idV (cdL c))), .blk c.be 22 #[v], .blk c.bh 74 (arr8 K).toArray, .blk c.ba 88 #[.func (.func 62) #[] #[.pointer (some ⟨c.be, 0, none⟩)]], .blk c.br 34 #[.func (.func 63) #[] #[.pointer (some ⟨c.bh, 0, none⟩)]]]
theorem cdEnts_base (c : Cd) (v : Value) (K : List (Nat × Nat)) : ∀ x ∈ cdEnts c v K, x.base = [] := fun x hx => by
  simp only [cdEnts, List.mem_cons, List.not_mem_nil, or_false] at hx
  rcases hx with rfl | rfl | rfl | rfl | rfl <;> rfl
def bkCells (n : Int) (K : List (Nat × Nat)) (c : Cd) : Array Value := #[.int .i64 n, .pointer (pad K 0), .pointer (pad K 1), .pointer (pad K 2), .pointer (pad K 3), .pointer (pad K 4), .pointer (pad K 5), .pointer (pad K 6), .pointer (pad K 7), .map (some c.gm)]
def bkEnts (r : Nat) (n : Int) (E : List Ed) (K : List (Nat × Nat)) (B : Bags) (c : Cd) (v : Value) : List Ent :=
  [.blk r 83 (bkCells n K c), .own (fpK K) (BgsV K B), .own (fpE (cdEnts c v K)) (PkV (cdEnts c v K)), .row 79 4 v E.length (cG E)]
theorem bkEnts_base (r : Nat) (n : Int) (E : List Ed) (K : List (Nat × Nat)) (B : Bags) (c : Cd) (v : Value) : ∀ x ∈ bkEnts r n E K B c v, x.base = [] := fun x hx => by
  simp only [bkEnts, List.mem_cons, List.not_mem_nil, or_false] at hx
  rcases hx with rfl | rfl | rfl | rfl <;> rfl
structure BkS (n : Int) (E : List Ed) (B : Bags) : Prop where
  len : (B.length : Int) = n
  n1 : 1 ≤ n
  n8 : n ≤ 8
  fits : ∀ i : Nat, i < E.length → 0 ≤ (atG E i).f ∧ (atG E i).f < n
  edges : E.length ≤ 20000000
def BokV (r : Nat) (fp : List Nat) (n : Int) (E : List Ed) (B : Bags) (w : World) : Prop :=
  ∃ K c v, fp = fpE (bkEnts r n E K B c v) ∧ PkV (bkEnts r n E K B c v) w ∧ BkS n E B
theorem BokV.loc (r : Nat) (fp : List Nat) (n : Int) (E : List Ed) (B : Bags) : Loc fp (BokV r fp n E B) := fun w w' hk ⟨K, c, v, e, h, hs⟩ => by
  subst e
  have z := PkV.loc _ w w' hk h
  exact ⟨⟨K, c, v, rfl, z.1, hs⟩, z.2⟩
theorem Mm.bokTurns {w0 w : World} {r : Nat} {n : Int} {E : List Ed} {K : List (Nat × Nat)} {B B' : Bags} {c : Cd} {v : Value} {fp : List Nat} {u : Value} {Z : Value → Ent → Prop} (M : Mm fp w0 w (bkEnts r n E K B' c v)) (e : fp = fpE (bkEnts r n E K B c v)) (hs : BkS n E B') (hz : Z u (.own fp (BokV r fp n E B'))) :
    TurnsE w0 (.own fp (BokV r fp n E B)) Z (.returned u) w := by
  have e' : fp = fpE (bkEnts r n E K B' c v) := e
  have hb := bkEnts_base r n E K B' c v
  have hv : BokV r fp n E B' w := ⟨K, c, v, e', M.pkv hb, hs⟩
  exact M.pkTurns rfl hb (Ψ := BokV r fp n E B') hv (e' ▸ BokV.loc r fp n E B') (e' ▸ hz)
theorem Mm.bokMakes {w0 w : World} {r : Nat} {n : Int} {E : List Ed} {K : List (Nat × Nat)} {B : Bags} {c : Cd} {v : Value} {u : Value} {Z : Value → Ent → Prop} (M : Mm [] w0 w (bkEnts r n E K B c v)) (hs : BkS n E B) (hz : ∀ fp, Z u (.own fp (BokV r fp n E B))) : MakesE w0 Z (.returned u) w :=
  M.pkMakes (Ψ := BokV r (fpE (bkEnts r n E K B c v)) n E B) ⟨K, c, v, rfl, M.pkv (bkEnts_base _ _ _ _ _ _ _), hs⟩ (BokV.loc _ _ _ _ _) (hz _)
theorem le_after {s c p t : St} (hs : s.rightB = true) (hl : s.leB c = true) (ha : c.afterB p = true) (h : (c.after p).leB t = true) : s.afterB p = true ∧ (s.after p).leB t = true := by
  have h1 := after_t ha
  have h2 := right_t hs
  have h3 := le_t hl
  have h4 := le_t h
  have h5 : s.afterB p = true := by
    unfold St.afterB
    rw [Bool.and_eq_true, Bool.and_eq_true]
    have hp : p.rightB = true := St.right_iff.2 (by omega)
    refine ⟨⟨hs, hp⟩, St.right_iff.2 ?_⟩
    have e := after_yes ha
    rw [e] at h1 h4
    simp only [St.add] at h1 ⊢
    omega
  refine ⟨h5, St.le_iff.2 ?_⟩
  rw [after_yes h5]
  rw [after_yes ha] at h4
  simp only [St.add] at h4 ⊢
  omega
section
variable {C : List Ct} {p t : St}
theorem lead_at {i : Nat} (hi : i < (minL (posL C)).length) (h1 : (atS (minL (posL C)) i).afterB p = true) (h2 : ((atS (minL (posL C)) i).after p).leB t = true) : heldB C p t = true := by
  obtain ⟨c, hc, h0, e⟩ := mem_posL.1 (mem_minL.1 (atS_mem hi)).1
  refine List.any_eq_true.2 ⟨c, hc, ?_⟩
  rw [e, h1, h2]
  simpa using h0
theorem lead_none {i : Int} (hk : BagOK C) (hall : ∀ k, k < i.toNat → ¬ ((atS (minL (posL C)) k).afterB p = true ∧ ((atS (minL (posL C)) k).after p).leB t = true)) (hi : ¬ i < ((minL (posL C)).length : Int)) : heldB C p t = false := by
  cases h : heldB C p t with
  | false => rfl
  | true =>
    obtain ⟨c, hc, h1⟩ := List.any_eq_true.1 h
    simp only [Bool.and_eq_true, decide_eq_true_eq] at h1
    have hcov : covB (minL (posL C)) c.1 = true := by
      rw [min_cov]
      exact List.any_eq_true.2 ⟨c.1, mem_posL.2 ⟨c, hc, h1.1, rfl⟩, St.le_refl _⟩
    obtain ⟨s, hs, hsl⟩ := List.any_eq_true.1 hcov
    obtain ⟨d, hd, _, e⟩ := mem_posL.1 (mem_minL.1 hs).1
    have hsr : s.rightB = true := by rw [← e]; exact (hk.ok d hd).2.2.2
    obtain ⟨j, hj, rfl⟩ := at_of_mem hs
    exact absurd (le_after hsr hsl h1.2.1 h1.2.2) (hall j (by omega))
end
def arrB (E : List Ed) (x : En) : Bool := decide (x.edge < (E.length : Int)) && decide ((atG E x.edge.toNat).t = x.po.n)
theorem arr_yes {E : List Ed} {x : En} (h : arrB E x = true) : x.edge < (E.length : Int) ∧ (atG E x.edge.toNat).t = x.po.n := by
  unfold arrB at h
  rw [Bool.and_eq_true, decide_eq_true_iff, decide_eq_true_iff] at h; exact h
theorem arr_no {E : List Ed} {x : En} (h : arrB E x = false) : (E.length : Int) ≤ x.edge ∨ (atG E x.edge.toNat).t ≠ x.po.n := by
  unfold arrB at h
  by_cases h1 : x.edge < (E.length : Int)
  · right; intro e; rw [decide_eq_true h1, decide_eq_true e] at h; cases h
  · left; omega
theorem bk_right (x : En) : decide (entryE x = 0) = rightN x := by
  unfold entryE
  cases rightN x <;> rfl
end Go.Proofs.YtcnmmnhlhenifaaGreat
namespace Go.Proofs.YtcnmmnhlhenifaaGreat
open Go.RowKit
set_option maxRecDepth 100000
set_option linter.unusedSimpArgs false
set_option linter.unusedVariables false
structure RBkV (r : Nat) (n : Int) (ev bv : Value) (Q : List RB) (w : World) : Prop where
  top : Blk w r 50 #[.int .i64 n, ev, bv]
  row : RdP w bv (Q.map (·.1))
  bags : ObjsV fpRB RBV Q w
  a1 : ¬ r ∈ Q.flatMap fpRB
  a3 : 0 < (Q.map (·.1)).length → ¬ gof bv ∈ Q.flatMap fpRB
  len : Q.length = n.toNat
  n1 : 1 ≤ n
  n8 : n ≤ 8
def fpR11 (r : Nat) (n : Int) (ev bv : Value) (Q : List RB) : List Nat := r :: (fpN bv (Q.map (·.1)).length ++ Q.flatMap fpRB)
section
variable {r : Nat} {n : Int} {ev bv : Value} {Q : List RB} {w w' : World}
theorem RBkV.loc (r : Nat) (n : Int) (ev bv : Value) (Q : List RB) : Loc (fpR11 r n ev bv Q) (RBkV r n ev bv Q) := fun w w' hk h => by
  have h1 := blk_loc w w' (fun g hg => hk g (by simp only [List.mem_singleton] at hg; simp [fpR11, hg])) h.top
  have h3 := h.row.keep (w' := w') (fun g hg => hk g (by simp only [fpR11, List.mem_cons, List.mem_append]; exact .inr (.inl hg)))
  have h4 := ObjsV.loc RBV.loc Q w w' (fun g hg => hk g (by simp only [fpR11, List.mem_cons, List.mem_append]; exact .inr (.inr hg))) h.bags
  refine ⟨⟨h1.1, h3.1, h4.1, h.a1, h.a3, h.len, h.n1, h.n8⟩, fun g hg => ?_⟩
  simp only [fpR11, List.mem_cons, List.mem_append] at hg
  rcases hg with rfl | hg | hg
  · exact h1.2 _ (by simp)
  · exact h3.2 g hg
  · exact h4.2 g hg
theorem RBkV.turn (h : RBkV r n ev bv Q w) {Z : Value → List RB → Prop} {e : Ending} (hz : ∀ v Q', Z v Q' → Q'.map (·.1) = Q.map (·.1))
    (ht : TurnsE w (.own (Q.flatMap fpRB) (ObjsV fpRB RBV Q)) (fun v x' => ∃ Q', Z v Q' ∧ x' = .own (Q'.flatMap fpRB) (ObjsV fpRB RBV Q')) e w') :
    TurnsE w (.own (fpR11 r n ev bv Q) (RBkV r n ev bv Q)) (fun v x' => ∃ Q', Z v Q' ∧ x' = .own (fpR11 r n ev bv Q') (RBkV r n ev bv Q')) e w' := by
  obtain ⟨v, x', h1, h2, h3, h4, h5, Q', h6, rfl⟩ := ht
  have hp := hz v Q' h6
  have hl : Q'.length = Q.length := by have := congrArg List.length hp; simpa using this
  have hr := (blk_loc w w (fun _ _ => rfl) h.top).2 r (by simp)
  have hb := (h.row.keep (w' := w) (fun _ _ => rfl)).2
  have h4' : ∀ g ∈ Q'.flatMap fpRB, g ∈ Q.flatMap fpRB ∨ w.heap.size ≤ g := h4
  have keep : ∀ g, g < w.heap.size → ¬ g ∈ Q.flatMap fpRB → w'.heap[g]? = w.heap[g]? := fun g h7 h8 => h2.block g h7 h8
  have gb : ∀ g ∈ fpN bv (Q.map (·.1)).length, ¬ g ∈ Q.flatMap fpRB := fun g hg => by
    obtain ⟨h7, rfl⟩ := mem_fpN.1 hg; exact h.a3 h7
  refine ⟨v, .own (fpR11 r n ev bv Q') (RBkV r n ev bv Q'), h1, h2.mono (fun g hg => by simp only [Ent.fp, fpR11, List.mem_cons, List.mem_append]; exact .inr (.inr hg)), ⟨⟨?_, ?_, h3.1, ?_, ?_, by rw [hl]; exact h.len, h.n1, h.n8⟩, RBkV.loc _ _ _ _ _⟩, fun g hg => ?_, rfl, Q', h6, rfl⟩
  · exact (blk_loc w w' (fun g hg => by simp only [List.mem_singleton] at hg; subst hg; exact keep _ hr h.a1) h.top).1
  · rw [hp]; exact (h.row.keep (w' := w') fun g hg => keep g (hb g hg) (gb g hg)).1
  · intro h7
    rcases h4' r h7 with h8 | h8
    · exact h.a1 h8
    · omega
  · intro h9 h7
    rw [hp] at h9
    rcases h4' _ h7 with h8 | h8
    · exact h.a3 h9 h8
    · have := hb (gof bv) (mem_fpN.2 ⟨h9, rfl⟩); omega
  · simp only [Ent.fp, fpR11, List.mem_cons, List.mem_append] at hg ⊢
    rcases hg with hg | hg | hg
    · exact .inl (.inl hg)
    · rw [hp] at hg; exact .inl (.inr (.inl hg))
    · rcases h4' g hg with h8 | h8
      · exact .inl (.inr (.inr h8))
      · exact .inr h8
end
theorem RBkV.ok {r : Nat} {n : Int} {ev bv : Value} {Q : List RB} {w : World} (h : RBkV r n ev bv Q w) : OKs (bagsR Q) := fun i hi => by
  rw [bagsR_len] at hi
  rw [atK_bagsR]; exact (objs_ref h.bags hi).2.2
end Go.Proofs.YtcnmmnhlhenifaaGreat
namespace Go.Proofs.YtcnmmnhlhenifaaGreat
open Go.RowKit
set_option maxRecDepth 100000
set_option linter.unusedSimpArgs false
set_option linter.unusedVariables false
def RBk (r : Nat) (fp : List Nat) (n : Int) (ev : Value) (B : Bags) (w : World) : Prop := ∃ bv Q, fp = fpR11 r n ev bv Q ∧ RBkV r n ev bv Q w ∧ bagsR Q = B
theorem RBk.loc (r : Nat) (fp : List Nat) (n : Int) (ev : Value) (B : Bags) : Loc fp (RBk r fp n ev B) := fun w w' hk ⟨bv, Q, e, h, hb⟩ => by
  subst e
  have z := RBkV.loc r n ev bv Q w w' hk h
  exact ⟨⟨bv, Q, rfl, z.1, hb⟩, z.2⟩
theorem fits_f {n : Int} {E : List Ed} (h : (checkG n E).1 = 0) : ∀ i : Nat, i < E.length → 0 ≤ (atG E i).f ∧ (atG E i).f < n := fun i hi => by
  have := fit_t (check_ok h).2.2.2.1 (atG_mem (i := i) hi)
  omega
theorem holds_len {B : Bags} {m : Nat} {k : Int} (h : SmB B m) : (atT B k).length ≤ m := by
  unfold atT; split
  · exact h _
  · simp
theorem smB_lit {B : Bags} {m : Nat} (h : ∀ C ∈ B, C.length ≤ m) : SmB B m := fun i => by
  rcases Nat.lt_or_ge i B.length with hi | hi
  · rw [atK_eq hi]; exact h _ (List.getElem_mem hi)
  · rw [atK_out hi]; simp
section
variable {n : Int} {E : List Ed} {B : Bags} {x : En} {m : Nat}
theorem smB_ent (h : SmB B m) (x : En) : SmB (entB n E B x) (m + 1) := fun i => by
  unfold entB
  split
  · have := h i; omega
  · by_cases hb : x.po.n.toNat < B.length
    · rw [atK_set hb]
      split
      · have := addC_len (atK B x.po.n.toNat) x.po.t (signN x); have := h x.po.n.toNat; omega
      · have := h i; omega
    · rw [List.set_eq_of_length_le (by omega)]; have := h i; omega
theorem ok_ent (h : OKs B) (x : En) : OKs (entB n E B x) := fun i hi => by
  rw [ent_len] at hi
  unfold entB
  split
  · exact h i hi
  · by_cases hb : x.po.n.toNat < B.length
    · rw [atK_set hb]
      split
      · rename_i e; subst e; exact (h _ hb).add _ _
      · exact h i hi
    · rw [List.set_eq_of_length_le (by omega)]; exact h i hi
def PosB (B : Bags) : Prop := ∀ i, i < B.length → ∀ c ∈ atK B i, 0 < c.2
def exH (L : List (List (List St))) (B : Bags) (p : Po) (i j : Nat) : Prop := (∃ m, m < i ∧ ∃ c ∈ atK B m, couldC L ⟨(m : Int), c.1⟩ p = true) ∨ ∃ c ∈ (atK B i).take j, couldC L ⟨(i : Int), c.1⟩ p = true
end
section
variable {L : List (List (List St))} {B : Bags} {p : Po}
end
def totC (C : List Ct) : Int := (C.map (·.2)).sum
def totB (B : Bags) : Int := (B.map totC).sum
section
variable {n : Int} {E : List Ed} {B : Bags} {x : En}
def leftB (B : Bags) (i j : Nat) : Int := totC ((atK B i).drop j) + totB (B.drop (i + 1))
end
section
variable {t : St} {x y : Int}
end
end Go.Proofs.YtcnmmnhlhenifaaGreat
namespace Go.Proofs.YtcnmmnhlhenifaaGreat
open Go.RowKit
set_option maxRecDepth 100000
set_option linter.unusedSimpArgs false
set_option linter.unusedVariables false
section
variable {w : World} {v : Value} {n k : Nat} {L : List En}
theorem take_rvN (h : RdV w 40 v n (cN L)) (_hz : L.length = n) (hk : k ≤ n) : RdV w 40 (subS 40 0 k v) k (cN (L.take k)) := by
  have h' : RdV w encN.m v n (cE encN L) := h
  have := sub_rdv h' (Nat.zero_le k) hk
  rw [Nat.zero_mul, List.drop_zero, Nat.sub_zero, cE_take] at this
  exact this
end
section
variable {P : Program} {ops rest : List Oper} {o : Oper} {a : Act} {n : Nat} {Z : List (Nat × Value)} {Q : Exit → Act → World → Prop} {R : List Nat} {w w0 : World} {B : List Ent} {x y : Operand} {t ty : TypeId} {i j k m : Nat} {v : Value} {xs ys : List Value}
end
theorem atN_take {L : List En} {k i : Nat} (h : i < k) : atN (L.take k) i = atN L i := by
  unfold atN atE
  rw [List.getD_eq_getElem?_getD, List.getElem?_take, if_pos h, ← List.getD_eq_getElem?_getD]
def headB (L : List En) : B32 := if L.length = 0 then B32.zero else sumB (entryL (atN L (L.length - 1)))
theorem head_nil {L : List En} (h : L.length = 0) : headB L = B32.zero := if_pos h
theorem head_some {L : List En} (h : ¬ L.length = 0) : headB L = sumB (entryL (atN L (((L.length : Nat) : Int) - 1).toNat)) := by
  rw [headB, if_neg h, show (((L.length : Nat) : Int) - 1).toNat = L.length - 1 by omega]
def chkF (L : List En) : Nat → Nat → Int × Int
  | _, 0 => (0, -1)
  | i, k + 1 => if rightN (atN L i) = false then (2, (i : Int)) else if (atN L i).seq ≠ (i : Int) then (6, (i : Int)) else if (atN L i).prev ≠ headB (L.take i) then (7, (i : Int)) else chkF L (i + 1) k
def chkL (L : List En) : Int × Int := chkF L 0 L.length
def chkE (L : List En) : Int := (chkL L).1
def chkI (L : List En) : Int := (chkL L).2
def ChkTo (L : List En) (i : Nat) : Prop := chkL L = chkF L i (L.length - i)
theorem chk_zero {L : List En} : ChkTo L (0 : Int).toNat := rfl
section
variable {L : List En} {i : Int}
theorem chk_at (h : ChkTo L i.toNat) (h0 : 0 ≤ i) (hi : i < (L.length : Int)) : chkL L = if rightN (atN L i.toNat) = false then (2, i) else if (atN L i.toNat).seq ≠ i then (6, i) else if (atN L i.toNat).prev ≠ headB (L.take i.toNat) then (7, i) else chkF L (i.toNat + 1) (L.length - (i.toNat + 1)) := by
  unfold ChkTo at h
  rw [h, show L.length - i.toNat = (L.length - (i.toNat + 1)) + 1 by omega, chkF, show ((i.toNat : Nat) : Int) = i by omega]
theorem chk_end (h : ChkTo L i.toNat) (hi : ¬ i < (L.length : Int)) : chkE L = 0 ∧ chkI L = -1 := by
  unfold ChkTo at h
  unfold chkE chkI
  rw [h, show L.length - i.toNat = 0 by omega]
  exact ⟨rfl, rfl⟩
theorem chk_wrong (h : ChkTo L i.toNat) (h0 : 0 ≤ i) (hi : i < (L.length : Int)) (hr : rightN (atN L i.toNat) = false) : chkE L = 2 ∧ chkI L = i := by
  unfold chkE chkI
  rw [chk_at h h0 hi, if_pos hr]
  exact ⟨rfl, rfl⟩
theorem chk_seq (h : ChkTo L i.toNat) (h0 : 0 ≤ i) (hi : i < (L.length : Int)) (hr : rightN (atN L i.toNat) = true) (hs : ¬ (atN L i.toNat).seq = i) : chkE L = 6 ∧ chkI L = i := by
  unfold chkE chkI
  rw [chk_at h h0 hi, if_neg (by rw [hr]; simp), if_pos hs]
  exact ⟨rfl, rfl⟩
theorem chk_prev (h : ChkTo L i.toNat) (h0 : 0 ≤ i) (hi : i < (L.length : Int)) (hr : rightN (atN L i.toNat) = true) (hs : (atN L i.toNat).seq = i) (hp : ¬ (atN L i.toNat).prev = headB (L.take i.toNat)) : chkE L = 7 ∧ chkI L = i := by
  unfold chkE chkI
  rw [chk_at h h0 hi, if_neg (by rw [hr]; simp), if_neg (by simpa using hs), if_pos hp]
  exact ⟨rfl, rfl⟩
theorem chk_step (h : ChkTo L i.toNat) (h0 : 0 ≤ i) (hi : i < (L.length : Int)) (hr : rightN (atN L i.toNat) = true) (hs : (atN L i.toNat).seq = i) (hp : (atN L i.toNat).prev = headB (L.take i.toNat)) : ChkTo L (i + 1).toNat := by
  unfold ChkTo
  rw [chk_at h h0 hi, if_neg (by rw [hr]; simp), if_neg (by simpa using hs), if_neg (by simpa using hp), show (i + 1).toNat = i.toNat + 1 by omega]
end
def nextN (L : List En) (en : En) : En := { en with seq := ((L.length : Nat) : Int), prev := headB L }
def nextL (L : List En) (en : En) : En := if rightN (nextN L en) = true then nextN L en else En.zero
def nextE (L : List En) (en : En) : Int := if rightN (nextN L en) = true then 0 else 2
theorem next_ok {L : List En} {en : En} (h : rightN (nextN L en) = true) : nextL L en = nextN L en ∧ nextE L en = 0 := ⟨if_pos h, if_pos h⟩
theorem next_no {L : List En} {en : En} (h : rightN (nextN L en) = false) : nextL L en = En.zero ∧ nextE L en = 2 := ⟨if_neg (by rw [h]; simp), if_neg (by rw [h]; simp)⟩
theorem next_is {L : List En} {en : En} (h : nextE L en = 0) : rightN (nextN L en) = true ∧ nextL L en = nextN L en := by
  unfold nextE at h
  split at h
  · rename_i z; exact ⟨z, (next_ok z).1⟩
  · omega
def Good (L : List En) (i : Nat) : Prop := rightN (atN L i) = true ∧ (atN L i).seq = (i : Int) ∧ (atN L i).prev = headB (L.take i)
section
variable {L K : List En} {en : En} {i k : Nat}
theorem chkTo_of (hg : ∀ j, j < i → Good L j) (hi : i ≤ L.length) : ChkTo L i := by
  induction i with
  | zero => exact chk_zero
  | succ i ih =>
    obtain ⟨h1, h2, h3⟩ := hg i (by omega)
    exact chk_step (i := (i : Int)) (ih (fun j hj => hg j (by omega)) (by omega)) (by omega) (by omega) h1 h2 h3
theorem chk_all (hg : ∀ j, j < L.length → Good L j) : chkE L = 0 ∧ chkI L = -1 :=
  chk_end (i := (L.length : Int)) (chkTo_of hg (Nat.le_refl _)) (by omega)
theorem good_of (h : chkE L = 0) : ∀ j, j < L.length → Good L j := by
  intro j
  induction j using Nat.strongRecOn with
  | ind j ih =>
    intro hj
    have ht : ChkTo L (j : Int).toNat := chkTo_of (fun i hi => ih i hi (by omega)) (by omega)
    by_cases h1 : rightN (atN L j) = true
    · by_cases h2 : (atN L j).seq = (j : Int)
      · by_cases h3 : (atN L j).prev = headB (L.take j)
        · exact ⟨h1, h2, h3⟩
        · have := (chk_prev ht (by omega) (by omega) h1 h2 h3).1; omega
      · have := (chk_seq ht (by omega) (by omega) h1 h2).1; omega
    · have := (chk_wrong ht (by omega) (by omega) (by simpa using h1)).1; omega
theorem good_congr (ha : atN K i = atN L i) (ht : K.take i = L.take i) (h : Good L i) : Good K i := by
  unfold Good; rw [ha, ht]; exact h
theorem atN_left (h : i < L.length) : atN (L ++ K) i = atN L i := by
  unfold atN atE
  rw [List.getD_eq_getElem?_getD, List.getElem?_append_left h, ← List.getD_eq_getElem?_getD]
theorem atN_last : atN (L ++ [en]) L.length = en := by
  unfold atN atE
  rw [List.getD_eq_getElem?_getD, List.getElem?_append_right (Nat.le_refl _)]
  simp
theorem chk_grow (h : chkE L = 0) (hr : rightN (nextN L en) = true) : chkE (L ++ [nextN L en]) = 0 ∧ chkI (L ++ [nextN L en]) = -1 :=
  chk_all fun j hj => by
    rw [List.length_append, List.length_singleton] at hj
    by_cases hjl : j < L.length
    · exact good_congr (atN_left hjl) (by rw [List.take_append_of_le_length (by omega)]) (good_of h j hjl)
    · obtain rfl : j = L.length := by omega
      refine ⟨by rw [atN_last]; exact hr, by rw [atN_last]; rfl, ?_⟩
      rw [atN_last, List.take_left]
      rfl
end
end Go.Proofs.YtcnmmnhlhenifaaGreat
namespace Go.Proofs.YtcnmmnhlhenifaaGreat
open Go.RowKit
set_option maxRecDepth 100000
set_option linter.unusedSimpArgs false
set_option linter.unusedVariables false
end Go.Proofs.YtcnmmnhlhenifaaGreat
namespace Go.Proofs.YtcnmmnhlhenifaaGreat
open Go.RowKit
set_option maxRecDepth 100000
set_option linter.unusedSimpArgs false
set_option linter.unusedVariables false
def subC (h : Nat) : Value → Value
  | .slice a _ _ => .slice a h h
  | v => v
section
variable {P : Program} {o : Oper} {a : Act} {x hi mx : Operand} {v : Value} {w : World} {t e : TypeId} {m n h : Nat} {xs : List Value} {k k' : IntKind} {i j : Int} {L : List En}
theorem pu_slice03 (ho : o.op = .slice t x none (some hi) (some mx)) (hx : a.eval x = v) (hhi : a.eval hi = .int k i) (hmx : a.eval mx = .int k' j) (hT : SlTy P t e m) (hv : RdV w m v n xs) (hj : j = i) (h1 : 0 ≤ i) (h2 : i ≤ n) : Pure P o a (subC i.toNat v) := fun w' => by
  obtain ⟨_, A, c, rfl, hc, _, _⟩ := hv
  obtain ⟨hu, hi'⟩ := hT
  subst hj
  cases hq : P.info? e with
  | none => simp [hq] at hi'
  | some inf =>
    have hs : inf.size = m := by simpa [hq] using hi'
    simp only [execOp, ho, hx, Option.map_some, Option.map_none, hhi, hmx]
    have e1 : (Instr.sliceBounds true n c none (some (.int k j)) (some (.int k' j))).run P w' = .ok (0, j.toNat, j.toNat) w' := by
      simp only [Instr.sliceBounds, Sem.run_bind, Sem.run_pure, Result.andThen_ok, run_sliceBound _ _ _ _ _ (show 0 ≤ j by omega) (show j ≤ (c : Int) by omega)]
      rw [run_sliceBound _ _ _ _ _ (show 0 ≤ j by omega) (show j ≤ ((j.toNat : Nat) : Int) by omega)]
      rfl
    simp [Instr.sliceAt, Instr.slice, run_underlying hu, e1, sizeOf, typeInfo, hq, hs, subC]
    intro _
    cases A with
    | none => rfl
    | some b => simp [Addr.add]
theorem take_rvC (hr : RdV w 40 v n (cN L)) (_hz : L.length = n) (hk : h ≤ n) : RdV w 40 (subC h v) h (cN (L.take h)) := by
  have h' := take_rvN hr _hz hk
  obtain ⟨h0, A, c, rfl, h1, h2, h3⟩ := hr
  obtain ⟨g0, A', c', e', g1, g2, g3⟩ := h'
  refine ⟨g0, A, h, rfl, Nat.le_refl _, by omega, fun hp => ?_⟩
  obtain ⟨g, o, ha, hl, hc⟩ := h3 (by omega)
  refine ⟨g, o, ha, hl, fun j u hj => ?_⟩
  refine hc j u ?_
  have e1 : cN (L.take h) = (cN L).take (h * 40) := by
    have := cE_take (E := encN) L h
    exact this.symm
  rw [e1, List.getElem?_take] at hj
  split at hj
  · exact hj
  · cases hj
end
def folE (L : List En) (en : En) : Int := if rightN en = false then 2 else if ¬ en.seq = ((L.length : Nat) : Int) then 6 else if ¬ en.prev = headB L then 7 else 0
theorem right_entryE (en : En) : decide (entryE en = 0) = rightN en := by
  unfold entryE
  cases rightN en <;> rfl
theorem fol_form {L : List En} {en : En} (h : rightN en = false) : folE L en = 2 := if_pos h
theorem fol_seq {L : List En} {en : En} (h : rightN en = true) (hs : ¬ en.seq = ((L.length : Nat) : Int)) : folE L en = 6 := by unfold folE; rw [if_neg (by rw [h]; simp), if_pos hs]
theorem fol_prev {L : List En} {en : En} (h : rightN en = true) (hs : en.seq = ((L.length : Nat) : Int)) (hp : ¬ en.prev = headB L) : folE L en = 7 := by unfold folE; rw [if_neg (by rw [h]; simp), if_neg (by simp [hs]), if_pos hp]
theorem fol_ok {L : List En} {en : En} (h : rightN en = true) (hs : en.seq = ((L.length : Nat) : Int)) (hp : en.prev = headB L) : folE L en = 0 := by unfold folE; rw [if_neg (by rw [h]; simp), if_neg (by simp [hs]), if_neg (by simp [hp])]
section
variable {L : List En} {i : Int}
theorem take_lenI (h0 : 0 ≤ i) (hi : i < (L.length : Int)) : (((L.take i.toNat).length : Nat) : Int) = i := by rw [List.length_take]; omega
theorem chk_fault (h : ChkTo L i.toNat) (h0 : 0 ≤ i) (hi : i < (L.length : Int)) (hf : ¬ folE (L.take i.toNat) (atN L i.toNat) = 0) : chkE L = folE (L.take i.toNat) (atN L i.toNat) ∧ chkI L = i := by
  have hl := take_lenI h0 hi
  cases hr : rightN (atN L i.toNat) with
  | false => rw [fol_form hr]; exact chk_wrong h h0 hi hr
  | true =>
    by_cases hs : (atN L i.toNat).seq = i
    · by_cases hp : (atN L i.toNat).prev = headB (L.take i.toNat)
      · exact absurd (fol_ok hr (by rw [hl]; exact hs) hp) hf
      · rw [fol_prev hr (by rw [hl]; exact hs) hp]; exact chk_prev h h0 hi hr hs hp
    · rw [fol_seq hr (by rw [hl]; exact hs)]; exact chk_seq h h0 hi hr hs
theorem chk_on (h : ChkTo L i.toNat) (h0 : 0 ≤ i) (hi : i < (L.length : Int)) (hf : folE (L.take i.toNat) (atN L i.toNat) = 0) : ChkTo L (i + 1).toNat := by
  have hl := take_lenI h0 hi
  cases hr : rightN (atN L i.toNat) with
  | false => rw [fol_form hr] at hf; cases hf
  | true =>
    by_cases hs : (atN L i.toNat).seq = i
    · by_cases hp : (atN L i.toNat).prev = headB (L.take i.toNat)
      · exact chk_step h h0 hi hr hs hp
      · rw [fol_prev hr (by rw [hl]; exact hs) hp] at hf; cases hf
    · rw [fol_seq hr (by rw [hl]; exact hs)] at hf; cases hf
end
end Go.Proofs.YtcnmmnhlhenifaaGreat
namespace Go.Proofs.YtcnmmnhlhenifaaGreat
open Go.RowKit
set_option maxRecDepth 100000
set_option linter.unusedSimpArgs false
set_option linter.unusedVariables false
def sgnS (x : En) (p : Po) : Int := if x.po = p ∧ x.kind = 3 then x.n else if x.po = p ∧ x.kind = 4 then -x.n else 0
def sentI (O : List En) (p : Po) : Int := (O.map fun x => sgnS x p).sum
def RightO (O : List En) : Prop := ∀ i, i < O.length → rightN (atN O i) = true
section
variable {O : List En} {p : Po} {x : En}
theorem sent_zero : (0 : Int) = sentI (O.take (0 : Int).toNat) p := by simp [sentI]
theorem sent_app : sentI (O ++ [x]) p = sentI O p + sgnS x p := by simp [sentI]
theorem sent_step {i : Int} (h0 : 0 ≤ i) (h : i < (O.length : Int)) : sentI (O.take (i + 1).toNat) p = sentI (O.take i.toNat) p + sgnS (atN O i.toNat) p := by
  rw [show (i + 1).toNat = i.toNat + 1 by omega, List.take_succ_eq_append_getElem (by omega), sent_app, show O[i.toNat] = atN O i.toNat from (atE_eq (E := encN) (by omega)).symm]
theorem sgn_right (h : rightN x = true) : -1000000 ≤ sgnS x p ∧ sgnS x p ≤ 1000000 := by
  have hr := rightN_iff.1 h
  unfold sgnS; split
  · omega
  · split <;> omega
theorem sent_bound {n : Nat} (h : RightO O) (hn : O.length ≤ n) : -1000000 * (n : Int) ≤ sentI O p ∧ sentI O p ≤ 1000000 * (n : Int) := by
  induction O generalizing n with
  | nil => simp [sentI]; omega
  | cons a r ih =>
    have h1 := ih (n := n - 1) (fun i hi => h (i + 1) (by simpa using hi)) (by simp at hn; omega)
    have h2 := sgn_right (p := p) (h 0 (by simp))
    have h3 : atN (a :: r) 0 = a := rfl
    rw [h3] at h2
    have h4 : sentI (a :: r) p = sgnS a p + sentI r p := by simp [sentI]
    simp at hn
    omega
theorem right_take {i : Nat} (h : RightO O) (hi : i ≤ O.length) : RightO (O.take i) := fun j hj => by
  rw [List.length_take] at hj
  rw [atN_take (by omega)]; exact h j (by omega)
theorem sent_part {i : Int} (h : RightO O) (h0 : 0 ≤ i) (hi : i ≤ (O.length : Int)) : -1000000 * i ≤ sentI (O.take i.toNat) p ∧ sentI (O.take i.toNat) p ≤ 1000000 * i := by
  have z := sent_bound (p := p) (n := i.toNat) (right_take h (i := i.toNat) (by omega)) (by rw [List.length_take]; omega)
  omega
theorem sent_end {i : Int} (h : ¬ i < (O.length : Int)) : sentI (O.take i.toNat) p = sentI O p := by rw [List.take_of_length_le (by omega)]
theorem sgn_send (h : x.po = p) (hk : x.kind = 3) : sgnS x p = x.n := if_pos ⟨h, hk⟩
theorem sgn_take (h : x.po = p) (hk : x.kind = 4) : sgnS x p = -x.n := by unfold sgnS; rw [if_neg (by omega), if_pos ⟨h, hk⟩]
theorem sgn_else (h : ¬ x.po = p ∨ (¬ x.kind = 3 ∧ ¬ x.kind = 4)) : sgnS x p = 0 := by
  unfold sgnS
  rw [if_neg (fun z => h.elim (fun y => y z.1) (fun y => y.1 z.2)), if_neg (fun z => h.elim (fun y => y z.1) (fun y => y.2 z.2))]
theorem of_first {C : List Ct} {t : St} {i : Int} (hall : ∀ k, k < i.toNat → ¬ (atC C k).1 = t) (h0 : 0 ≤ i) (h : i < (C.length : Int)) (he : (atC C i.toNat).1 = t) : ofC C t = (atC C i.toNat).2 := by
  unfold ofC getM
  have : C.find? (fun p => decide (p.1 = t)) = some (atC C i.toNat) := by
    rw [List.find?_eq_some_iff_getElem]
    refine ⟨decide_eq_true he, i.toNat, by omega, (atE_eq (E := encC) (by omega)).symm, fun j hj => ?_⟩
    have := hall j hj
    rw [show atC C j = C[j] from atE_eq (E := encC) (by omega)] at this
    simpa using this
  rw [this]; rfl
theorem of_none {C : List Ct} {t : St} {i : Int} (hall : ∀ k, k < i.toNat → ¬ (atC C k).1 = t) (h : ¬ i < (C.length : Int)) : ofC C t = 0 := of_not fun p hp => by
  obtain ⟨k, hk, rfl⟩ := at_of_memE (E := encC) hp
  exact hall k (by omega)
structure TBk (n : Int) (E : List Ed) (B T : Bags) (O : List En) : Prop where
  okB : OKs B
  okT : OKs T
  lB : (B.length : Int) = n
  lT : (T.length : Int) = n
  eq : ∀ q : Po, 0 ≤ q.n ∧ q.n < n → ofT T q = ofT B q + sentI O q
  bd : ∀ q : Po, 0 ≤ q.n ∧ q.n < n → -1000000 * (O.length : Int) ≤ ofT T q ∧ ofT T q ≤ 1000000 * (O.length : Int)
end
section
variable {n : Int} {E : List Ed} {B T : Bags} {O : List En} {x : En} {q : Po}
theorem of_ent (hk : OKs B) (hl : (B.length : Int) = n) (h : mayI n E B x = 0) (hq : 0 ≤ q.n ∧ q.n < n) : ofT (entB n E B x) q = if q = x.po ∧ ¬ x.kind = 3 then ofT B q + signN x else ofT B q := by
  by_cases h3 : x.kind = 3
  · rw [ent_send h3, if_neg (fun z => z.2 h3)]
  · obtain ⟨hb, ha, _⟩ := sign_ok (E := E) hk hl h h3
    have hr := rightN_iff.1 (may_ok h).1.1
    unfold ofT
    rw [ent_yes h h3, atK_set hb]
    by_cases hn : x.po.n.toNat = q.n.toNat
    · rw [if_pos hn, of_add (hk _ hb).asc]
      by_cases ht : q.t = x.po.t
      · have e : q = x.po := by
          cases q; cases hx : x.po; rw [hx] at hn ht hr; simp only at hn ht hq hr; simp only [Po.mk.injEq]; exact ⟨by omega, ht⟩
        rw [if_pos ⟨ht, ha⟩, if_pos ⟨e, h3⟩, ← hn, ht]
      · rw [if_neg (fun z => ht z.1), if_neg (fun z => ht (by rw [z.1])), hn]
    · rw [if_neg hn, if_neg (fun z => hn (by rw [z.1]))]
theorem move_right (h : rightN x = true) : moveI x = if x.kind = 1 ∨ x.kind = 3 ∨ x.kind = 5 then x.n else if x.kind = 2 then -x.n else 0 := by
  have hr := rightN_iff.1 h
  unfold moveI
  rw [wrap_neg (by omega)]
theorem clo_right (hz : (cloG n E).2 = 0) {p : Po} : rightC (cloG n E).1 p = true ↔ (0 ≤ p.n ∧ p.n < n) ∧ p.t.rightB = true := by
  obtain ⟨⟨h1, h8, _, hF, _⟩, hc, _⟩ := (clo_cases n E).resolve_left fun z => z.2 hz
  rw [hc, rightC_clo (by omega) (by omega), show ((n.toNat : Nat) : Int) = n by omega]
theorem TBk.start (hn : 0 ≤ n) : TBk n E (List.replicate n.toNat []) (List.replicate n.toNat []) [] :=
  ⟨ok_new _, ok_new _, by rw [List.length_replicate]; omega, by rw [List.length_replicate]; omega, fun q _ => by rw [new_of]; simp [sentI], fun q _ => by rw [new_of]; simp⟩
theorem TBk.grow (h : TBk n E B T O) (hz : (cloG n E).2 = 0) (ho : O.length ≤ 100) (hm : mayI n E B x = 0) : addTE (cloG n E).1 T x.po (moveI x) = 0 ∧ TBk n E (entB n E B x) (addTB (cloG n E).1 T x.po (moveI x)) (O ++ [x]) := by
  have hG := (may_ok hm).1
  have hr := rightN_iff.1 hG.1
  have hmv := move_right hG.1
  have hxn : 0 ≤ x.po.n ∧ x.po.n < n := ⟨hr.2.2.1.1, hG.2.1⟩
  have hc : rightC (cloG n E).1 x.po = true := (clo_right hz).2 ⟨hxn, hr.2.2.2.1⟩
  have hmb : -1000000 ≤ moveI x ∧ moveI x ≤ 1000000 := by rw [hmv]; split <;> (try split) <;> omega
  have hb := h.bd x.po hxn
  have h0 : addTE (cloG n E).1 T x.po (moveI x) = 0 := addT_iff.2 ⟨hc, by omega⟩
  have hL : (cloG n E).1.length = T.length := by have := (clo_len hz).1; have := h.lT; have := (clo_len hz).2.1; omega
  have hof : ∀ q : Po, 0 ≤ q.n ∧ q.n < n → ofT (addTB (cloG n E).1 T x.po (moveI x)) q = if q = x.po then ofT T q + moveI x else ofT T q := fun q hq => by
    rw [of_addT hL h.okT (by have := h.lT; omega)]
    by_cases e : q = x.po
    · rw [if_pos ⟨e, h0⟩, if_pos e, e]
    · rw [if_neg (fun z => e z.1), if_neg e]
  refine ⟨h0, ok_ent h.okB x, ok_add h.okT _ _, by rw [ent_len]; exact h.lB, by rw [addT_len]; exact h.lT, fun q hq => ?_, fun q hq => ?_⟩
  · rw [hof q hq, of_ent h.okB h.lB hm hq, sent_app]
    have he := h.eq q hq
    by_cases e : q = x.po
    · subst e
      rw [if_pos rfl]
      rcases show x.kind = 1 ∨ x.kind = 2 ∨ x.kind = 3 ∨ x.kind = 4 ∨ x.kind = 5 by omega with k | k | k | k | k
      · rw [if_pos ⟨rfl, by omega⟩, hmv, if_pos (by omega), show signN x = x.n from if_neg (by omega), sgn_else (.inr (by omega))]; omega
      · rw [if_pos ⟨rfl, by omega⟩, hmv, if_neg (by omega), if_pos k, show signN x = -x.n from if_pos k, sgn_else (.inr (by omega))]; omega
      · rw [if_neg (fun z => z.2 k), hmv, if_pos (by omega), sgn_send rfl k]; omega
      · rw [if_pos ⟨rfl, by omega⟩, hmv, if_neg (by omega), if_neg (by omega), show signN x = x.n from if_neg (by omega), sgn_take rfl k]; omega
      · rw [if_pos ⟨rfl, by omega⟩, hmv, if_pos (by omega), show signN x = x.n from if_neg (by omega), sgn_else (.inr (by omega))]; omega
    · rw [if_neg e, if_neg (fun z => e z.1), sgn_else (.inl fun z => e z.symm)]; omega
  · have hq' := h.bd q hq
    rw [hof q hq, List.length_append, List.length_singleton]
    split <;> omega
theorem right_grow {O : List En} {en : En} (h : chkE O = 0) : RightO O := fun i hi => (good_of h i hi).1
theorem TBk.at (h : TBk n E B T O) {k : Int} (hk : 0 ≤ k ∧ k < n) (s : St) : ofC (atT T k) s = ofC (atT B k) s + sentI O (Po.mk k s) := by
  rw [at_yes (by have := h.lT; omega), at_yes (by have := h.lB; omega)]
  exact h.eq ⟨k, s⟩ hk
theorem TBk.bound (h : TBk n E B T O) (k : Int) (s : St) : -1000000000 ≤ ofC (atT B k) s ∧ ofC (atT B k) s ≤ 1000000000 := by
  by_cases hk : 0 ≤ k ∧ k < (B.length : Int)
  · rw [at_yes hk]; exact (h.okB _ (by omega)).bound s
  · rw [at_no hk, of_nil]; omega
end
end Go.Proofs.YtcnmmnhlhenifaaGreat
