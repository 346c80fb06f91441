/- Put together: Pk, Sc, Uw, Ue, Pz. -/
import Derived.Test.YtcobpabmmbcjcaaJ2
import Derived.Test.YtcobpabmmbcjcaaCt
import Derived.Test.YtcobpabmmbcjcaaFc
import Derived.Test.YtcobpabmmbcjcaaJ1
import Derived.Test.YtcobpabmmbcjcaaJ3
import Derived.Lib.SliceRun
namespace Go.Proofs.Ytcobpabmmbcjcaa
open Go.RowKit
set_option maxRecDepth 100000
set_option linter.unusedSimpArgs false
set_option linter.unusedVariables false
def fpE (B : List Ent) : List Nat := B.flatMap Ent.fp
theorem mem_fpE {B : List Ent} {g : Nat} : g ∈ fpE B ↔ ∃ x ∈ B, g ∈ x.fp := by unfold fpE; rw [List.mem_flatMap]
structure PkV (B : List Ent) (w : World) : Prop where
  has : ∀ x ∈ B, x.at w
  base : ∀ x ∈ B, x.base = []
  nd : B.Pairwise (fun x y => ∀ g ∈ x.fp, ¬ g ∈ y.fp)
theorem Ent.loc {x : Ent} (hb : x.base = []) : Loc x.fp (fun w => x.at w) := fun w w' hk h => by
  refine ⟨?_, Ent.lt h⟩
  cases x with
  | blk g t cs => exact (blk_loc w w' hk h).1
  | row t m v n xs =>
    have h : w.ownsRow 0 t m v n xs := h
    refine ⟨h.1, ?_⟩
    rcases h.2 with h4 | ⟨g, cap, cur, h4, h5, h6, h7⟩
    · exact .inl h4
    · exact .inr ⟨g, cap, cur, h4, h5, (hk g (by simp [Ent.fp, h4, Value.ownBlock])).trans h6, h7⟩
  | arg m v n xs =>
    have h : RdV w m v n xs := h
    have hn : n = 0 := by
      by_cases h0 : n = 0
      · exact h0
      · rw [show (Ent.arg m v n xs).base = [gof v] from if_neg h0] at hb; cases hb
    obtain ⟨h0, A, c, rfl, h1, h2, h3⟩ := h
    exact ⟨h0, A, c, rfl, h1, h2, fun hn' => by omega⟩
  | got m v n xs =>
    have h : RdV w m v n xs := h
    obtain ⟨h0, A, c, rfl, h1, h2, h3⟩ := h
    refine ⟨h0, A, c, rfl, h1, h2, fun hn' => ?_⟩
    obtain ⟨g, off, rfl, h4, h5⟩ := h3 hn'
    have hg := hk g (by rw [show (Ent.got m (.slice (some ⟨g, off, none⟩) n c) n xs).fp = [g] from if_neg (by omega)]; simp)
    refine ⟨g, off, rfl, ?_, fun j u hj => by rw [World.cell?_of_block hg]; exact h5 j u hj⟩
    have h6 : w.heap[g]? = some w.heap[g] := Array.getElem?_eq_getElem h4
    rw [← hg] at h6
    exact (Array.getElem?_eq_some_iff.1 h6).1
  | own fp Φ => exact ⟨(h.2 w w' hk h.1).1, h.2⟩
  | ext fp Φ =>
    have hb : fp = [] := hb
    subst hb
    exact ⟨(h.2 w w' (fun g hg => by cases hg) h.1).1, h.2⟩
section
variable {R : List Nat} {w0 w w' : World} {B C X : List Ent}
theorem PkV.loc (B : List Ent) : Loc (fpE B) (PkV B) := fun w w' hk h =>
  ⟨⟨fun x hx => (Ent.loc (h.base x hx) w w' (fun g hg => hk g (mem_fpE.2 ⟨x, hx, hg⟩)) (h.has x hx)).1, h.base, h.nd⟩, fun g hg => by
    obtain ⟨x, hx, hg⟩ := mem_fpE.1 hg
    exact Ent.lt (h.has x hx) g hg⟩
theorem PkV.start (h : PkV B w) : Mm (fpE B) w w B := ⟨Out.refl _ _, h.has, fun x hx g hg => .inr (mem_fpE.2 ⟨x, hx, hg⟩), fun x hx g hg => (by rw [h.base x hx] at hg; cases hg), h.nd⟩
theorem Mm.pkv (M : Mm R w0 w B) (hb : ∀ x ∈ B, x.base = []) : PkV B w := ⟨M.has, hb, M.nd⟩
theorem Mm.pkTurns {v : Value} {Φ : World → Prop} {fp : List Nat} {Z : Value → Ent → Prop} (M : Mm R w0 w B) (hR : R = fp) (hb : ∀ x ∈ B, x.base = []) {Ψ : World → Prop} (hΨ : Ψ w) (hl : Loc (fpE B) Ψ) (hz : Z v (.own (fpE B) Ψ)) :
    TurnsE w0 (.own fp Φ) Z (.returned v) w :=
  ⟨v, .own (fpE B) Ψ, rfl, hR ▸ M.out, ⟨hΨ, hl⟩, fun g hg => by
    obtain ⟨x, hx, hg⟩ := mem_fpE.1 (show g ∈ fpE B from hg)
    rcases M.own x hx g hg with h | h
    · exact .inr h
    · exact .inl (hR ▸ h), rfl, hz⟩
theorem Mm.pkMakes {v : Value} {Z : Value → Ent → Prop} (M : Mm [] w0 w B) {Ψ : World → Prop} (hΨ : Ψ w) (hl : Loc (fpE B) Ψ) (hz : Z v (.own (fpE B) Ψ)) : MakesE w0 Z (.returned v) w :=
  ⟨v, .own (fpE B) Ψ, rfl, M.bel, ⟨hΨ, hl⟩, fun g hg => by
    obtain ⟨x, hx, hg⟩ := mem_fpE.1 (show g ∈ fpE B from hg)
    exact (M.own x hx g hg).elim id (fun z => by cases z), rfl, hz⟩
theorem Mm.pack (M : Mm R w0 w (X ++ C)) (hb : ∀ x ∈ X, x.base = []) : Mm R w0 w (.own (fpE X) (PkV X) :: C) := by
  refine Mm.recast (X := X) (Y := [.own (fpE X) (PkV X)]) M (fun y hy => ?_) (fun y hy g hg => ?_) (List.pairwise_singleton _ _) (fun y hy g hg => ?_)
  · rw [List.mem_singleton.1 hy]
    exact ⟨⟨fun x hx => M.has x (List.mem_append.2 (.inl hx)), hb, (List.pairwise_append.1 M.nd).1⟩, PkV.loc _⟩
  · rw [List.mem_singleton.1 hy] at hg; exact mem_fpE.1 hg
  · rw [List.mem_singleton.1 hy] at hg; cases hg
theorem Mm.unpack (M : Mm R w0 w (.own (fpE X) (PkV X) :: C)) : Mm R w0 w (X ++ C) := by
  have h := M.pv (i := 0) rfl
  refine Mm.recast (X := [.own (fpE X) (PkV X)]) (Y := X) M h.has (fun y hy g hg => ⟨_, List.mem_singleton.2 rfl, mem_fpE.2 ⟨y, hy, hg⟩⟩) h.nd (fun y hy g hg => ?_)
  rw [h.base y hy] at hg; cases hg
theorem PkV.get (h : PkV B w) {i : Nat} {x : Ent} (hi : B[i]? = some x) : x.at w := h.has x (List.mem_of_getElem? hi)
theorem PkV.pv (h : PkV B w) {i : Nat} {fp : List Nat} {Φ : World → Prop} (hi : B[i]? = some (.own fp Φ)) : Φ w := (show Φ w ∧ Loc fp Φ from h.get hi).1
theorem PkV.blk (h : PkV B w) {i g : Nat} {t : TypeId} {cs : Array Value} (hi : B[i]? = some (.blk g t cs)) : Blk w g t cs := h.get hi
theorem PkV.apart (h : PkV B w) {i j : Nat} {x y : Ent} (hi : B[i]? = some x) (hj : B[j]? = some y) (hne : i ≠ j) : ∀ g ∈ x.fp, ¬ g ∈ y.fp := by
  have hp := List.pairwise_iff_getElem.1 h.nd
  obtain ⟨hi', rfl⟩ := List.getElem?_eq_some_iff.1 hi
  obtain ⟨hj', rfl⟩ := List.getElem?_eq_some_iff.1 hj
  rcases Nat.lt_or_gt_of_ne hne with h1 | h1
  · exact hp i j hi' hj' h1
  · exact fun g hg hg' => hp j i hj' hi' h1 g hg' hg
theorem Mm.pick (M : Mm R w0 w B) (is : List Nat) (hn : is.Nodup) {X : List Ent} (h : is.map (fun i => B[i]?) = X.map some) : Mm R w0 w X := by
  have hl : is.length = X.length := by have := congrArg List.length h; simpa using this
  have hat : ∀ k (hk : k < X.length), B[is[k]'(by omega)]? = some X[k] := fun k hk => by
    have := congrArg (fun l => l[k]?) h
    simpa [List.getElem?_eq_getElem hk, List.getElem?_eq_getElem (show k < is.length by omega)] using this
  have hm : ∀ x ∈ X, x ∈ B := fun x hx => by
    obtain ⟨k, hk, rfl⟩ := List.mem_iff_getElem.1 hx
    exact List.mem_of_getElem? (hat k hk)
  refine ⟨M.out, fun x hx => M.has x (hm x hx), fun x hx => M.own x (hm x hx), fun x hx => M.far x (hm x hx), ?_⟩
  rw [List.pairwise_iff_getElem]
  intro a b ha hb hab
  refine M.apart (hat a ha) (hat b hb) fun e => ?_
  exact (List.pairwise_iff_getElem.1 hn) a b (by omega) (by omega) hab e
end
section
variable {R : List Nat} {w0 w : World} {B : List Ent} {i j : Nat} {fp fp' : List Nat} {Φ Ψ : World → Prop} {v : Value}
end
end Go.Proofs.Ytcobpabmmbcjcaa
namespace Go.Proofs.Ytcobpabmmbcjcaa
open Go.RowKit
set_option maxRecDepth 100000
set_option linter.unusedSimpArgs false
set_option linter.unusedVariables false
end Go.Proofs.Ytcobpabmmbcjcaa
namespace Go.Proofs.Ytcobpabmmbcjcaa
open Go.RowKit
set_option maxRecDepth 100000
set_option linter.unusedSimpArgs false
set_option linter.unusedVariables false
theorem en39 : enters Try.prog 39 = true := by kernel_rfl
set_option maxRecDepth 100000 in
set_option maxHeartbeats 1000000 in
theorem slclone_any (t : List UInt8) (w : World) (ht : t.length ≤ 1000000) :
    Calls Try.prog 39 #[strV t] w (fun e w' => e = .returned (strV t) ∧ Below w.heap.size w w') := by
  refine enterF Try.func39 rfl 18 Try.ntmps39 [strV t] rfl [(0, strV t)] rfl ?_; intro φ F; have M := Mm.start [] w; revert φ; refine srG ?_; refine asG ?_; intro φ F; refine nx ?_; refine wp_seq ?_; revert φ; refine srG ?_; refine mvG ?_; refine puG (fun _ F => pu_lenS (A := t) rfl (F.ev rfl) Try.underlying9) ?_; refine eqG ?_; intro φ F; refine nx ?_; cases hs1 : (decide (((t.length : Nat) : Int) = 0))
  · rw [hs1] at F; have hs1i := of_decide_eq_false hs1; refine wp_cond_false (F.ev rfl) ?_; refine wp_skip ?_; refine nxq ?_; revert φ; refine srG ?_; refine mvG ?_; refine puG (fun _ F => pu_lenS (A := t) rfl (F.ev rfl) Try.underlying9) ?_; intro φ F; refine sq_make1 F M (wt0 rfl) rfl (F.ev rfl) (F.ev rfl) sl55.1 (.int .u8 0) rfl mk5 (by omega) (by omega) (by omega) rfl rfl ?_; clear F M; intro φ ω g1 F M; rw [← cU_rep] at M; revert φ; refine asG ?_; refine nxG ?_; refine srG ?_; refine mvG ?_; refine mvG ?_; intro φ F; refine sq_copyS (A := t) F M (wt0 rfl) rfl (F.ev rfl) (F.ev rfl) (i := 0) rfl (by rw [List.size_toArray, cU_len, List.length_replicate]) (by omega) Try.underlying55 (by kernel_rfl) rfl rfl ?_; clear F M; intro φ ω F M; replace M : Mm [] w ω [.blk g1 5 (List.toArray (cU t))] := M; refine nx ?_; revert φ; refine srG ?_; refine mvG ?_; refine puG (fun _ F => pu_ixN 0 rfl (F.ev rfl) (evk) sl55 (blk_rdv (m := 1) (M.at (i := 0) rfl) (by first | rfl | (simp only [List.size_toArray, cB_len, cU_len, cV, List.length_set, List.length_replicate, Nat.mul_one]; first | done | rfl | assumption | omega)) (by omega)) rfl (by omega)) ?_; refine mvG ?_; refine puG (fun _ F => pu_len rfl (F.ev rfl) sl55 (blk_rdv (m := 1) (M.at (i := 0) rfl) (by first | rfl | (simp only [List.size_toArray, cB_len, cU_len, cV, List.length_set, List.length_replicate, Nat.mul_one]; first | done | rfl | assumption | omega)) (by omega))) ?_; intro φ F; refine sq_ustr (A := t) F M (wt0 rfl) rfl Try.underlying107 (by kernel_rfl) (F.ev rfl) (F.ev rfl) (i := 0) rfl (by omega) (by omega) (by omega) rfl rfl ?_; clear F M; intro φ ω F M; replace M : Mm [] w ω [.arg 1 (.slice none 0 0) 0 []] := M; revert φ; refine asG ?_; intro φ F; refine nx ?_; refine wp_ret ?_; refine rt_tmp F rfl rfl ?_; exact ⟨rfl, M.bel⟩
  · rw [hs1] at F; have hs1i := of_decide_eq_true hs1; refine wp_cond_true (F.ev rfl) ?_; revert φ; refine srG ?_; refine asG ?_; intro φ F; refine nx ?_; refine wp_ret ?_; refine nxr ?_; refine rt_tmp F rfl rfl ?_; obtain rfl : t = [] := List.eq_nil_of_length_eq_zero (by omega); exact ⟨rfl, M.bel⟩
set_option maxRecDepth 100000 in
set_option maxHeartbeats 1000000 in
theorem clone_any (t : List UInt8) (w : World) (ht : t.length ≤ 1000000) :
    Calls Try.prog 26 #[strV t] w (fun e w' => e = .returned (strV t) ∧ Below w.heap.size w w') := by
  refine enterF Try.func26 rfl 5 Try.ntmps26 [strV t] rfl [(0, strV t)] rfl ?_; intro φ F; have M := Mm.start [] w; revert φ; refine srG ?_; refine asG ?_; refine nxG ?_; refine srG ?_; refine mvG ?_; intro φ F; refine sq_call F M (wt0 rfl) rfl en39 (evc (F.ev rfl) evn) (slclone_any t _ (by omega)) rfl rfl ?_; clear F M; intro φ ω F M; revert φ; refine asG ?_; intro φ F; refine nx ?_; refine wp_ret ?_; refine rt_tmp F rfl rfl ?_; exact ⟨rfl, M.bel⟩
end Go.Proofs.Ytcobpabmmbcjcaa
namespace Go.Proofs.Ytcobpabmmbcjcaa
open Go.RowKit
set_option maxRecDepth 100000
set_option linter.unusedSimpArgs false
set_option linter.unusedVariables false
theorem eqB {dd : Nat} (a b : B32) (w : World) : (Op.equalIn (dd + 2) 32 (.agg (List.toArray (l32 a))) (.agg (List.toArray (l32 b)))).run Try.prog w = .ok (decide (a = b)) w := eqA32 Try.underlying32 Try.underlying5 (by kernel_rfl) (by kernel_rfl) a b
theorem ag32 : AggTy Try.prog 32 32 := ⟨_, Try.underlying32, rfl, by kernel_rfl⟩
theorem zR34 : (Try.prog.info? 34).map (fun i => i.zero.map (·.cells)) = some (some (List.toArray (cFm Fm.zero))) := z34
theorem eqFm {dd : Nat} (a b : Fm) (w : World) : (Op.equalIn (dd + 4) 34 (.agg (List.toArray (cFm a))) (.agg (List.toArray (cFm b)))).run Try.prog w = .ok (decide (a = b)) w := by
  have h : decide (a = b) = (decide (a.kind = b.kind) && (decide (a.frm = b.frm) && (decide (a.dst = b.dst) && (decide (a.org = b.org) && (decide (a.seq = b.seq) && (decide (a.text = b.text) && (decide (a.tag = b.tag) && true))))))) := by rw [Bool.eq_iff_iff]; cases a; cases b; simp
  rw [h, run_equalIn_struct w (dd + 3) 34 _ _ (by kernel_rfl) (by kernel_rfl), show (Try.prog.fieldsOf 34).toList = _ from by unfold Program.fieldsOf; rw [Try.underlying34]]; exact (eqF_cons (by decide) (part_one ⟨_, Try.underlying3, rfl⟩ rfl) (part_one ⟨_, Try.underlying3, rfl⟩ rfl) (eq_int (dd := dd + 2) Try.underlying3) (eqF_cons (by decide) (part_one ⟨_, Try.underlying3, rfl⟩ rfl) (part_one ⟨_, Try.underlying3, rfl⟩ rfl) (eq_int (dd := dd + 2) Try.underlying3) (eqF_cons (by decide) (part_one ⟨_, Try.underlying3, rfl⟩ rfl) (part_one ⟨_, Try.underlying3, rfl⟩ rfl) (eq_int (dd := dd + 2) Try.underlying3) (eqF_cons (by decide) (part_one ⟨_, Try.underlying3, rfl⟩ rfl) (part_one ⟨_, Try.underlying3, rfl⟩ rfl) (eq_int (dd := dd + 2) Try.underlying3) (eqF_cons (by decide) (part_one ⟨_, Try.underlying3, rfl⟩ rfl) (part_one ⟨_, Try.underlying3, rfl⟩ rfl) (eq_int (dd := dd + 2) Try.underlying3) (eqF_cons (by decide) (part_one ⟨_, Try.underlying9, rfl⟩ rfl) (part_one ⟨_, Try.underlying9, rfl⟩ rfl) (eq_str (dd := dd + 2) Try.underlying9) (eqF_cons (by decide) (part_agg ag32 (cs := (l32 a.tag)) rfl) (part_agg ag32 (cs := (l32 b.tag)) rfl) (eqB (dd := dd + 1) a.tag b.tag w) eqF_nil)))))))
theorem eqR34 (a b : Fm) (w : World) : (Op.equalIn 10000 34 (.agg (List.toArray (cFm a))) (.agg (List.toArray (cFm b)))).run Try.prog w = .ok (decide (a = b)) w := eqFm a b w
end Go.Proofs.Ytcobpabmmbcjcaa
namespace Go.Proofs.Ytcobpabmmbcjcaa
open Go.RowKit
set_option maxRecDepth 100000
set_option linter.unusedSimpArgs false
set_option linter.unusedVariables false
section
variable {P : Program} {o : Oper} {a : Act} {x y : Operand} {t t' e : TypeId} {v : Value}
theorem pu_eqlZ {w : World} {m n : Nat} {xs : List Value} (ho : o.op = .binOp .eql t x y t') (hx : a.eval x = v) (hy : a.eval y = .slice none 0 0) (ht : P.underlying t = some (.slice e)) (hr : RdV w m v n xs) (hn : 0 < n) : Pure P o a (.bool false) := fun w' => by
  obtain ⟨c, hv, _⟩ := hr.form hn
  rw [hv] at hx
  have hq := Lib.run_eql_slice_nil (P := P) w' t e (some ⟨gof v, oof v, none⟩) n c 0 0 ht
  simp only [execOp, ho, hx, hy]
  simp [go_sem, ht, hq]
end
section
variable {R : List Nat} {w w0 : World} {B : List Ent} {i j m k : Nat} {t : TypeId} {v : Value} {xs : List Value} {y : Ent}
theorem Mm.rowFar (M : Mm R w0 w B) (hi : B[i]? = some (.row t m v k xs)) (hj : B[j]? = some y) (hne : i ≠ j) : 0 < k → ¬ gof v ∈ y.fp := fun h =>
  M.apart hi hj hne (gof v) (by show gof v ∈ v.ownBlock.toList; rw [(own_spot (M.ow hi) h).1]; simp)
end
end Go.Proofs.Ytcobpabmmbcjcaa
