/- Texts, what is said, frames: as elements of slices (layer 14 on). Any seat with layer 14 in it. -/
import Derived.Test.YtcobpabmmbcjcaaJ2
import Derived.Test.YtcobpabmmbcjcaaCn
import Derived.Test.YtcobpabmmbcjcaaJ4
namespace Go.Proofs.Ytcobpabmmbcjcaa
open Go.RowKit
set_option maxRecDepth 100000
set_option linter.unusedSimpArgs false
set_option linter.unusedVariables false
def encT : Enc Tx := ⟨1, fun t => [strV t], [], fun _ => rfl, fun a v h => by
  simp only [List.mem_cons, List.not_mem_nil, or_false] at h; subst h; rfl⟩
def cT (L : List Tx) : List Value := cE encT L
def atTx (L : List Tx) (i : Nat) : Tx := atE encT L i
theorem cT_at {L : List Tx} {i : Nat} (h : i < L.length) : (cT L)[i * 1]? = some (strV (atTx L i)) := by
  have h1 := cE_at (E := encT) h
  have h2 : ((cT L).drop (i * 1)).take 1 = [strV (atTx L i)] := h1
  have h3 : (((cT L).drop (i * 1)).take 1)[0]? = some (strV (atTx L i)) := by rw [h2]; rfl
  rw [List.getElem?_take] at h3
  simpa using h3
theorem cT_app (L K : List Tx) : cT (L ++ K) = cT L ++ cT K := cE_app L K
theorem cT_ones (L : List Tx) : ∀ z ∈ cT L, z.oneCell' = true := cE_ones L
theorem atTx_eq {L : List Tx} {i : Nat} (h : i < L.length) : atTx L i = L[i] := atE_eq h
structure Qs where
  kind : Int
  frm : Int
  text : Tx
def Qs.zero : Qs := ⟨0, 0, []⟩
def cQs (x : Qs) : List Value := [.int .i64 x.kind, .int .i64 x.frm, strV x.text]
def encQs : Enc Qs := ⟨3, cQs, ⟨0, 0, []⟩, fun _ => rfl, fun x z hz => by
  simp only [cQs, List.mem_cons, List.not_mem_nil, or_false] at hz
  rcases hz with rfl | rfl | rfl <;> rfl⟩
def cX (L : List Qs) : List Value := cE encQs L
def atX (L : List Qs) (i : Nat) : Qs := atE encQs L i
theorem cX_at {L : List Qs} {i : Nat} (h : i < L.length) : ((cX L).drop (i * 3)).take 3 = cQs (atX L i) := cE_at (E := encQs) h
theorem cX_app (L K : List Qs) : cX (L ++ K) = cX L ++ cX K := cE_app L K
theorem cX_ones (L : List Qs) : ∀ z ∈ cX L, z.oneCell' = true := cE_ones L
theorem atX_eq {L : List Qs} {i : Nat} (h : i < L.length) : atX L i = L[i] := atE_eq (E := encQs) h
def Sy.zero : Sy := ⟨0, 0, 0, []⟩
def cSy (x : Sy) : List Value := [.int .i64 x.kind, .int .i64 x.frm, .int .i64 x.dst, strV x.text]
def encSy : Enc Sy := ⟨4, cSy, ⟨0, 0, 0, []⟩, fun _ => rfl, fun x z hz => by
  simp only [cSy, List.mem_cons, List.not_mem_nil, or_false] at hz
  rcases hz with rfl | rfl | rfl | rfl <;> rfl⟩
def cY (L : List Sy) : List Value := cE encSy L
def atY (L : List Sy) (i : Nat) : Sy := atE encSy L i
def encFm : Enc Fm := ⟨38, cFm, Fm.zero, cFm_len, fun x z hz => by
  simp only [cFm, List.mem_cons, List.mem_append, List.not_mem_nil, or_false] at hz
  rcases hz with (rfl | rfl | rfl | rfl | rfl | rfl) | hz
  all_goals first | rfl | exact l32_ones _ z hz⟩
def cF (L : List Fm) : List Value := cE encFm L
def atF (L : List Fm) (i : Nat) : Fm := atE encFm L i
theorem cF_at {L : List Fm} {i : Nat} (h : i < L.length) : ((cF L).drop (i * 38)).take 38 = cFm (atF L i) := cE_at (E := encFm) h
theorem cF_app (L K : List Fm) : cF (L ++ K) = cF L ++ cF K := cE_app L K
theorem cF_ones (L : List Fm) : ∀ z ∈ cF L, z.oneCell' = true := cE_ones L
theorem atF_eq {L : List Fm} {i : Nat} (h : i < L.length) : atF L i = L[i] := atE_eq (E := encFm) h
def frmL (l : List (Int × Tx)) : List Fm := l.map fun o => ⟨o.1, 0, 0, 0, 0, o.2, B32.zero⟩
theorem frm_len (l : List (Int × Tx)) : (frmL l).length = l.length := by simp [frmL]
theorem frm_app (l k : List (Int × Tx)) : frmL (l ++ k) = frmL l ++ frmL k := by simp [frmL]
theorem less_eq : ∀ a b : Tx, Op.bytesLess a b = ltT a b
  | [], [] => rfl
  | [], _ :: _ => rfl
  | _ :: _, [] => rfl
  | a :: x, b :: y => by
    show (decide (a < b) || (a == b && Op.bytesLess x y)) = (decide (a < b) || (decide (a = b) && ltT x y))
    rw [less_eq x y]; rfl
section
variable {P : Program} {o : Oper} {a : Act} {x y : Operand} {t t' : TypeId} {A B : Tx}
theorem pu_lssS (ho : o.op = .binOp .lss t x y t') (hx : a.eval x = strV A) (hy : a.eval y = strV B) : Pure P o a (.bool (ltT A B)) := fun w => by
  simp only [execOp, ho, hx, hy, strV]
  simp [go_sem, less_eq]
end
section
variable {P : Program} {ops rest : List Oper} {o : Oper} {a : Act} {n d : Nat} {L : List (Nat × Value)} {Q : Exit → Act → World → Prop} {R : List Nat} {w w0 : World} {B : List Ent}
def TurnsN (w : World) (x : Ent) (Z : Ent → Prop) (t : TypeId) (m : Nat) (cs : List Value) (k : Nat) (e : Ending) (w' : World) : Prop :=
  ∃ v x', e = .returned v ∧ Out x.fp w w' ∧ x'.at w' ∧ (∀ g ∈ x'.fp, g ∈ x.fp ∨ w.heap.size ≤ g) ∧ x'.base = [] ∧ Z x' ∧ w'.ownsRow 0 t m v k cs ∧ ∀ g ∈ v.ownBlock.toList, (g ∈ x.fp ∨ w.heap.size ≤ g) ∧ ¬ g ∈ x'.fp
theorem Mm.addNew (M : Mm R w0 w B) {x : Ent} (hx : x.at w) (hs : ∀ g ∈ x.fp, w0.heap.size ≤ g ∨ g ∈ R) (hb : x.base = []) (hn : ∀ y ∈ B, ∀ g ∈ x.fp, ¬ g ∈ y.fp) : Mm R w0 w (x :: B) := by
  refine ⟨M.out, fun y hy => ?_, fun y hy g hg => ?_, fun y hy g hg => ?_, List.pairwise_cons.2 ⟨hn, M.nd⟩⟩
  · rcases List.mem_cons.1 hy with rfl | h
    · exact hx
    · exact M.has y h
  · rcases List.mem_cons.1 hy with rfl | h
    · exact hs g hg
    · exact M.own y h g hg
  · rcases List.mem_cons.1 hy with rfl | h
    · rw [hb] at hg; cases hg
    · exact M.far y h g hg
theorem Mm.turnN (M : Mm R w0 w B) {i : Nat} {x x' : Ent} {w' : World} {t : TypeId} {m k : Nat} {v : Value} {cs : List Value} (hi : B[i]? = some x) (h1 : Out x.fp w w') (h2 : x'.at w') (h3 : ∀ g ∈ x'.fp, g ∈ x.fp ∨ w.heap.size ≤ g) (h4 : x'.base = []) (h5 : w'.ownsRow 0 t m v k cs) (h6 : ∀ g ∈ v.ownBlock.toList, (g ∈ x.fp ∨ w.heap.size ≤ g) ∧ ¬ g ∈ x'.fp) :
    Mm R w0 w' (.row t m v k cs :: B.set i x') := by
  have M1 := M.swap hi h1 h2 h3 (fun g hg => by rw [h4] at hg; cases hg)
  have hxm : x ∈ B := List.mem_of_getElem? hi
  have hi' : i < B.length := by
    rcases Nat.lt_or_ge i B.length with h | h
    · exact h
    · rw [List.getElem?_eq_none h] at hi; cases hi
  have hxi : B[i] = x := by rw [List.getElem?_eq_getElem hi'] at hi; injection hi
  refine M1.addNew (x := .row t m v k cs) h5 (fun g hg => ?_) rfl (fun y hy g hg hgy => ?_)
  · rcases (h6 g hg).1 with z | z
    · exact M.own x hxm g z
    · exact .inl (Nat.le_trans M.size z)
  · obtain ⟨j, hj, rfl⟩ := List.mem_iff_getElem.1 hy
    rw [List.getElem_set] at hgy
    split at hgy
    · exact (h6 g hg).2 hgy
    · rename_i hne
      simp only [List.length_set] at hj
      rcases (h6 g hg).1 with z | z
      · have hp := List.pairwise_iff_getElem.1 M.nd
        rcases Nat.lt_or_gt_of_ne hne with hlt | hlt
        · have := hp i j hi' hj hlt g (by rw [hxi]; exact z); exact this hgy
        · have := hp j i hj hi' hlt g hgy; rw [hxi] at this; exact this z
      · have := Ent.lt (M.has _ (List.getElem_mem hj)) g hgy
        omega
theorem sq_callTN (F : Fr a n L) (M : Mm R w0 w B) (hw : Region.wanted o (yielded ops.toArray a.tmps) = true) {f : FuncId} {xs : List Operand} {ts : Array TypeId} {args : List Value} {i : Nat} {x : Ent} {Z : Ent → Prop} {t : TypeId} {m k : Nat} {cs : List Value} (ho : o.op = .call { callee := .value (.func f), args := xs.toArray, argTypes := ts })
    (he : enters P f = true) (ha : xs.map a.eval = args) (hi : B[i]? = some x) (hc : Calls P f args.toArray w (TurnsN w x Z t m cs k)) (hd : o.dst = some d) (hdn : Nat.blt d n = true)
    (h : ∀ a' w' v x', Z x' → Fr a' n ((d, v) :: L) → Mm R w0 w' (.row t m v k cs :: B.set i x') → wpList P ops.toArray Q rest a' w') : wpList P ops.toArray Q (o :: rest) a w :=
  sq_callR F hw ho he ha hc hd hdn fun e w' hR => by
    obtain ⟨v, x', h1, h2, h3, h4, h5, h6, h7, h8⟩ := hR
    exact ⟨v, h1, fun a' F' => h a' w' v x' h6 F' (M.turnN hi h2 h3 h4 h5 h7 h8)⟩
end
theorem TurnsN.pack {w w' : World} {x : Ent} {Φ' : List Nat → World → Prop} {t : TypeId} {m k : Nat} {cs : List Value} {e : Ending} (h : TurnsN w x (fun x' => ∃ fp', x' = .own fp' (Φ' fp')) t m cs k e w') :
    TurnsE w x (fun v x' => ∃ y : List Nat × Value, v = y.2 ∧ x' = .own (fpE [.row t m y.2 k cs, .own y.1 (Φ' y.1)]) (PkV [.row t m y.2 k cs, .own y.1 (Φ' y.1)])) e w' := by
  obtain ⟨v, x', h1, h2, h3, h4, h5, ⟨fp', rfl⟩, h6, h7⟩ := h
  refine ⟨v, .own _ (PkV [.row t m v k cs, .own fp' (Φ' fp')]), h1, h2, ⟨⟨fun y hy => ?_, fun y hy => ?_, ?_⟩, PkV.loc _⟩, fun g hg => ?_, rfl, (fp', v), rfl, rfl⟩
  · simp only [List.mem_cons, List.not_mem_nil, or_false] at hy
    rcases hy with rfl | rfl
    · exact h6
    · exact h3
  · simp only [List.mem_cons, List.not_mem_nil, or_false] at hy
    rcases hy with rfl | rfl <;> rfl
  · refine List.pairwise_cons.2 ⟨fun y hy g hg => ?_, List.pairwise_singleton _ _⟩
    rw [List.mem_singleton.1 hy]
    exact (h7 g (by simpa [Ent.fp] using hg)).2
  · obtain ⟨y, hy, hgy⟩ := mem_fpE.1 (show g ∈ fpE [.row t m v k cs, .own fp' (Φ' fp')] from hg)
    simp only [List.mem_cons, List.not_mem_nil, or_false] at hy
    rcases hy with rfl | rfl
    · exact (h7 g (by simpa [Ent.fp] using hgy)).1
    · exact h4 g hgy
end Go.Proofs.Ytcobpabmmbcjcaa
