/- Put together: Kp, Ue. -/
import Derived.Test.YtcnmmnhlhenifaaGreatJ5
import Derived.Test.YtcnmmnhlhenifaaGreatJ3
namespace Go.Proofs.YtcnmmnhlhenifaaGreat
open Go.RowKit
set_option maxRecDepth 100000
set_option linter.unusedSimpArgs false
set_option linter.unusedVariables false
def LdV (bc br : Nat) (u : Value) (K : List (Nat × Nat)) (w : World) : Prop := Blk w bc 52 #[u] ∧ Blk w br 104 (arr8 K).toArray ∧ bc ≠ br
theorem LdV.loc (bc br : Nat) (u : Value) (K : List (Nat × Nat)) : Loc [bc, br] (LdV bc br u K) := fun w w' hk ⟨h1, h2, h3⟩ => by
  have e1 := blk_loc w w' (fun k hk' => hk k (by simp only [List.mem_singleton] at hk'; simp [hk'])) h1
  have e2 := blk_loc w w' (fun k hk' => hk k (by simp only [List.mem_singleton] at hk'; simp [hk'])) h2
  refine ⟨⟨e1.1, e2.1, h3⟩, fun k hk' => ?_⟩
  simp only [List.mem_cons, List.not_mem_nil, or_false] at hk'
  rcases hk' with rfl | rfl
  · exact e1.2 k (by simp)
  · exact e2.2 k (by simp)
theorem Mm.toLd {R : List Nat} {w0 w : World} {C : List Ent} {bc br : Nat} {u : Value} {K : List (Nat × Nat)} (M : Mm R w0 w (.blk br 104 (arr8 K).toArray :: .blk bc 52 #[u] :: C)) : Mm R w0 w (.own [bc, br] (LdV bc br u K) :: C) := by
  have hap := M.apart (i := 0) (j := 1) rfl rfl (by decide)
  refine Mm.recast (X := [.blk br 104 (arr8 K).toArray, .blk bc 52 #[u]]) (Y := [_]) M (fun y hy => ?_) (fun y hy q hq => ?_) (List.pairwise_singleton _ _) (fun y hy q hq => ?_)
  · rw [List.mem_singleton.1 hy]
    exact ⟨⟨M.at (i := 1) rfl, M.at (i := 0) rfl, fun e => hap br (by simp [Ent.fp]) (by simp [Ent.fp, e])⟩, LdV.loc _ _ _ _⟩
  · rw [List.mem_singleton.1 hy] at hq
    simp only [Ent.fp, List.mem_cons, List.not_mem_nil, or_false] at hq
    rcases hq with rfl | rfl
    · exact ⟨.blk q 52 #[u], by simp, by simp [Ent.fp]⟩
    · exact ⟨.blk q 104 (arr8 K).toArray, by simp, by simp [Ent.fp]⟩
  · rw [List.mem_singleton.1 hy] at hq; cases hq
def tkCells (u : Value) (Kc Kr : List (Nat × Nat)) (bc br : Nat) : Array Value := #[u, .pointer (pad Kc 0), .pointer (pad Kc 1), .pointer (pad Kc 2), .pointer (pad Kc 3), .pointer (pad Kc 4), .pointer (pad Kc 5), .pointer (pad Kc 6), .pointer (pad Kc 7), .pointer (pad Kr 0), .pointer (pad Kr 1), .pointer (pad Kr 2), .pointer (pad Kr 3), .pointer (pad Kr 4), .pointer (pad Kr 5), .pointer (pad Kr 6), .pointer (pad Kr 7), .func (.func 88) #[] #[.pointer (some ⟨bc, 0, none⟩), .pointer (some ⟨br, 0, none⟩)]]
def tkEnts (r : Nat) (u : Value) (ru : List Value) (su : List (List Value)) (L : List (List (List St))) (Kc : List (Nat × Nat)) (B : Bags) (Kr : List (Nat × Nat)) (Rb : Bags) (bc br : Nat) : List Ent :=
  [.blk r 108 (tkCells u Kc Kr bc br), .own (fp3 u ru su L) (Rd3 u ru su L), .own (fpK Kc) (BgsV Kc B), .own (fpK Kr) (BgsV Kr Rb), .own [bc, br] (LdV bc br u Kr)]
theorem tkEnts_base (r : Nat) (u : Value) (ru : List Value) (su : List (List Value)) (L : List (List (List St))) (Kc : List (Nat × Nat)) (B : Bags) (Kr : List (Nat × Nat)) (Rb : Bags) (bc br : Nat) : ∀ x ∈ tkEnts r u ru su L Kc B Kr Rb bc br, x.base = [] := fun x hx => by
  simp only [tkEnts, List.mem_cons, List.not_mem_nil, or_false] at hx
  rcases hx with rfl | rfl | rfl | rfl | rfl <;> rfl
def TrkV (r : Nat) (fp : List Nat) (L : List (List (List St))) (B : Bags) (w : World) : Prop :=
  ∃ u ru su Kc Kr Rb bc br, fp = fpE (tkEnts r u ru su L Kc B Kr Rb bc br) ∧ PkV (tkEnts r u ru su L Kc B Kr Rb bc br) w ∧ L.length = B.length ∧ Sm3 L ∧ Sm64 L ∧ InvR L B Rb
theorem TrkV.loc (r : Nat) (fp : List Nat) (L : List (List (List St))) (B : Bags) : Loc fp (TrkV r fp L B) := fun w w' hk ⟨u, ru, su, Kc, Kr, Rb, bc, br, e, h, h1, h2, h3, h4⟩ => by
  subst e
  have z := PkV.loc _ w w' hk h
  exact ⟨⟨u, ru, su, Kc, Kr, Rb, bc, br, rfl, z.1, h1, h2, h3, h4⟩, z.2⟩
theorem Mm.trkTurns {w0 w : World} {r : Nat} {u : Value} {ru : List Value} {su : List (List Value)} {L : List (List (List St))} {Kc Kr : List (Nat × Nat)} {B B' Rb Rb' : Bags} {bc br : Nat} {fp : List Nat} {v : Value} {Z : Value → Ent → Prop} (M : Mm fp w0 w (tkEnts r u ru su L Kc B' Kr Rb' bc br)) (e : fp = fpE (tkEnts r u ru su L Kc B Kr Rb bc br)) (hl : L.length = B'.length) (hs : Sm3 L) (h64 : Sm64 L) (hI : InvR L B' Rb') (hz : Z v (.own fp (TrkV r fp L B'))) :
    TurnsE w0 (.own fp (TrkV r fp L B)) Z (.returned v) w := by
  have e' : fp = fpE (tkEnts r u ru su L Kc B' Kr Rb' bc br) := e
  have hb := tkEnts_base r u ru su L Kc B' Kr Rb' bc br
  have hv : TrkV r fp L B' w := ⟨u, ru, su, Kc, Kr, Rb', bc, br, e', M.pkv hb, hl, hs, h64, hI⟩
  exact M.pkTurns rfl hb (Ψ := TrkV r fp L B') hv (e' ▸ TrkV.loc r fp L B') (e' ▸ hz)
theorem Mm.trkMakes {w0 w : World} {r : Nat} {u : Value} {ru : List Value} {su : List (List Value)} {L : List (List (List St))} {Kc Kr : List (Nat × Nat)} {B Rb : Bags} {bc br : Nat} {v : Value} {Z : Value → Ent → Prop} (M : Mm [] w0 w (tkEnts r u ru su L Kc B Kr Rb bc br)) (hl : L.length = B.length) (hs : Sm3 L) (h64 : Sm64 L) (hI : InvR L B Rb) (hz : ∀ fp, Z v (.own fp (TrkV r fp L B))) : MakesE w0 Z (.returned v) w :=
  M.pkMakes (Ψ := TrkV r (fpE (tkEnts r u ru su L Kc B Kr Rb bc br)) L B) ⟨u, ru, su, Kc, Kr, Rb, bc, br, rfl, M.pkv (tkEnts_base _ _ _ _ _ _ _ _ _ _ _), hl, hs, h64, hI⟩ (TrkV.loc _ _ _ _) (hz _)
section
variable {L : List (List (List St))} {R : Bags} {p : Po} {x i j : Int}
def leadP (L : List (List (List St))) (R : Bags) (p : Po) (x i j : Int) : Bags := (leadR L R p x i.toNat).set i.toNat (leadC (atK (leadR L R p x i.toNat) i.toNat) ((placesC L p i).take j.toNat) x)
theorem set_self {B : Bags} {k : Nat} : B.set k (atK B k) = B := by
  apply List.ext_getElem (by simp)
  intro a h1 h2
  rw [List.getElem_set]
  split
  · rename_i e; subst e; rw [atK_eq h2]
  · rfl
theorem leadP_zero : leadR L R p x i.toNat = leadP L R p x i 0 := by unfold leadP; simp [leadC, set_self]
theorem leadP_step (h0 : 0 ≤ j) (h : j < ((placesC L p i).length : Int)) (hi : i.toNat < R.length) : (leadP L R p x i j).set i.toNat (addC (atK (leadP L R p x i j) i.toNat) (atS (placesC L p i) j.toNat) x) = leadP L R p x i (j + 1) := by
  unfold leadP
  rw [atK_set (by rw [leadR_len]; exact hi), if_pos rfl, List.set_set, show (j + 1).toNat = j.toNat + 1 by omega, List.take_succ_eq_append_getElem (by omega), leadC_snoc, atS_eq (by omega)]
theorem leadP_end (h0 : 0 ≤ i) (hj : ¬ j < ((placesC L p i).length : Int)) : leadP L R p x i j = leadR L R p x (i + 1).toNat := by
  unfold leadP
  rw [List.take_of_length_le (by omega), show (i + 1).toNat = i.toNat + 1 by omega, leadR, show ((i.toNat : Nat) : Int) = i by omega]
end
end Go.Proofs.YtcnmmnhlhenifaaGreat
namespace Go.Proofs.YtcnmmnhlhenifaaGreat
open Go.RowKit
set_option maxRecDepth 100000
set_option linter.unusedSimpArgs false
set_option linter.unusedVariables false
theorem eqB {dd : Nat} (a b : B32) (w : World) : (Op.equalIn (dd + 2) 35 (.agg (List.toArray (l32 a))) (.agg (List.toArray (l32 b)))).run Tryz.prog w = .ok (decide (a = b)) w := eqA32 Tryz.underlying35 Tryz.underlying5 (by kernel_rfl) (by kernel_rfl) a b
theorem eqR35 (a b : B32) (w : World) : (Op.equalIn 10000 35 (.agg (List.toArray (l32 a))) (.agg (List.toArray (l32 b)))).run Tryz.prog w = .ok (decide (a = b)) w := eqB a b w
theorem ag37 : AggTy Tryz.prog 37 2 := ⟨_, Tryz.underlying37, rfl, by kernel_rfl⟩
theorem eqSt {dd : Nat} (a b : St) (w : World) : (Op.equalIn (dd + 2) 37 (.agg (List.toArray [.int .i64 a.e, .int .i64 a.r])) (.agg (List.toArray [.int .i64 b.e, .int .i64 b.r]))).run Tryz.prog w = .ok (decide (a = b)) w := by
  have h : decide (a = b) = (decide (a.e = b.e) && (decide (a.r = b.r) && true)) := by rw [Bool.eq_iff_iff]; cases a; cases b; simp
  rw [h, run_equalIn_struct w (dd + 1) 37 _ _ (by kernel_rfl) (by kernel_rfl), show (Tryz.prog.fieldsOf 37).toList = _ from by unfold Program.fieldsOf; rw [Tryz.underlying37]]; exact (eqF_cons (by decide) (part_one ⟨_, Tryz.underlying3, rfl⟩ rfl) (part_one ⟨_, Tryz.underlying3, rfl⟩ rfl) (eq_int (dd := dd + 0) Tryz.underlying3) (eqF_cons (by decide) (part_one ⟨_, Tryz.underlying3, rfl⟩ rfl) (part_one ⟨_, Tryz.underlying3, rfl⟩ rfl) (eq_int (dd := dd + 0) Tryz.underlying3) eqF_nil))
theorem eqPo {dd : Nat} (a b : Po) (w : World) : (Op.equalIn (dd + 3) 39 (.agg (List.toArray [.int .i64 a.n, .int .i64 a.t.e, .int .i64 a.t.r])) (.agg (List.toArray [.int .i64 b.n, .int .i64 b.t.e, .int .i64 b.t.r]))).run Tryz.prog w = .ok (decide (a = b)) w := by
  have h : decide (a = b) = (decide (a.n = b.n) && (decide (a.t = b.t) && true)) := by rw [Bool.eq_iff_iff]; cases a; cases b; simp
  rw [h, run_equalIn_struct w (dd + 2) 39 _ _ (by kernel_rfl) (by kernel_rfl), show (Tryz.prog.fieldsOf 39).toList = _ from by unfold Program.fieldsOf; rw [Tryz.underlying39]]; exact (eqF_cons (by decide) (part_one ⟨_, Tryz.underlying3, rfl⟩ rfl) (part_one ⟨_, Tryz.underlying3, rfl⟩ rfl) (eq_int (dd := dd + 1) Tryz.underlying3) (eqF_cons (by decide) (part_agg ag37 (cs := [.int .i64 a.t.e, .int .i64 a.t.r]) rfl) (part_agg ag37 (cs := [.int .i64 b.t.e, .int .i64 b.t.r]) rfl) (eqSt (dd := dd + 0) a.t b.t w) eqF_nil))
theorem zR41 : (Tryz.prog.info? 41).map (fun i => i.zero.map (·.cells)) = some (some (List.toArray (cEn En.zero))) := z41
theorem zR35 : (Tryz.prog.info? 35).map (fun i => i.zero.map (·.cells)) = some (some (List.toArray (l32 B32.zero))) := z35
end Go.Proofs.YtcnmmnhlhenifaaGreat
