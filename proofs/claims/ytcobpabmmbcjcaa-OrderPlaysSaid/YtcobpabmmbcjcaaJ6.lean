/- Put together: Oz, Dr, Dt, Du, Oc, Of, OWindow. -/
import Derived.Test.YtcobpabmmbcjcaaOt
import Derived.Test.YtcobpabmmbcjcaaJ4
import Derived.Test.YtcobpabmmbcjcaaJ2
import Derived.Test.YtcobpabmmbcjcaaJ3
import Derived.Lib.SliceRun
import Derived.Test.YtcobpabmmbcjcaaJ5
import Derived.Test.YtcobpabmmbcjcaaGf
import Derived.Test.YtcobpabmmbcjcaaCs
namespace Go.Proofs.Ytcobpabmmbcjcaa
open Go.RowKit
set_option maxRecDepth 100000
set_option linter.unusedSimpArgs false
set_option linter.unusedVariables false
set_option maxRecDepth 100000 in
set_option maxHeartbeats 4000000 in
theorem awake_any  (w : World) :
    Calls Try.prog 8 #[] w (fun e w' => e = .returned (.bool true) ∧ Below w.heap.size w w') := by
  refine enterF Try.func8 rfl 66 Try.ntmps8 [] rfl [] rfl ?_; intro φ F; have M := Mm.start [] w; revert φ; refine srG ?_; refine asG ?_; intro φ F; refine nx ?_; refine wp_seq ?_; refine wp_region_lit ?_; refine sq_callO (Z := (fun v x => ∃ r fp, v = .tuple #[.pointer (some ⟨r, 0, none⟩), .int .i64 0] ∧ x = .own fp (OrdV r fp (onew 1 0 0)))) F M (wt0 rfl) rfl en9 (evc (evk) (evc (evk) (evc (evk) evn))) (ord_new 1 0 0 _ (of_decide_eq_true (show decide (onewE 1 0 0 = 0) = true from by decide +kernel))) rfl rfl ?_; clear F M; rintro φ ω _ _ ⟨op1, of1, rfl, rfl⟩ F M; replace M : Mm [] w ω [.own of1 (OrdV op1 of1 (onew 1 0 0))] := M; revert φ; refine mvG ?_; refine exG ?_; refine exG ?_; refine asG ?_; refine asG ?_; intro φ F; refine nx ?_; refine wp_seq ?_; revert φ; refine srG ?_; refine mvG ?_; refine puG (fun _ F => pu_eqlP rfl (F.ev rfl) (evk) Try.underlying25) ?_; refine mvG ?_; refine mvG ?_; refine puG (fun _ F => pu_neqI rfl (F.ev rfl) (evk)) ?_; intro φ F; rw [show (!decide ((0 : Int) = 0)) = false from rfl] at F; revert φ; refine pkF ?_; intro φ F; refine nx ?_; refine wp_cond_false (F.ev rfl) ?_; refine wp_skip ?_; refine nxq ?_; revert φ; refine srG ?_; refine mvG ?_; intro φ F; refine sq_callT (Z := (fun v x' => v = .tuple #[.agg (cFm (sayM (onew 1 0 0) ([120] : List UInt8))).toArray, .int .i64 (sayE (onew 1 0 0) ([120] : List UInt8))] ∧ ∃ fp', x' = .own fp' (OrdV op1 fp' (sayO (onew 1 0 0) ([120] : List UInt8))))) F M (wt0 rfl) rfl en11 (evc (F.ev rfl) (evc (evk) evn)) (i := 0) rfl (ord_say op1 of1 (onew 1 0 0) ([120] : List UInt8) _ (M.pv (i := 0) rfl) (onew_B' (of_decide_eq_true (show decide (onewE 1 0 0 = 0) = true from by decide +kernel))) (by omega)) rfl rfl ?_; clear F M; rintro φ ω _ _ ⟨rfl, ov1, rfl⟩ F M; replace M : Mm [] w ω [.own ov1 (OrdV op1 ov1 (sayO (onew 1 0 0) ([120] : List UInt8)))] := M; revert φ; refine mvG ?_; refine exG ?_; refine exG ?_; intro φ F; refine sq_alloc F M (wt0 rfl) rfl zR34 rfl rfl ?_; clear F M; intro φ ω g1 F M; refine sq_stA F M (wt0 rfl) rfl (F.ev rfl) (F.ev rfl) (i := 0) rfl agg34 rfl rfl rfl rfl ?_; clear M; intro ω M; revert φ; refine asG ?_; intro φ F; refine nx ?_; refine wp_seq ?_; revert φ; refine srG ?_; refine asG ?_; intro φ F; refine nx ?_; refine wp_block ?_
  refine lp (σ := Int) (fun k φ' w' => ∃ fq : List Nat, ∃ Oq : Od, ∃ mq : Fm, Fr φ' 66 [(1, .pointer (some ⟨op1, 0, none⟩)), (2, .int .i64 0), (3, .pointer (some ⟨g1, 0, none⟩)), (4, .int .i64 (sayE (onew 1 0 0) ([120] : List UInt8))), (5, .int .i64 k)] ∧ Mm [] w w' [.blk g1 34 (List.toArray (cFm mq)), .own fq (OrdV op1 fq Oq)] ∧ (0 ≤ k) ∧ (k ≤ 2) ∧ (OdB Oq k) ∧ ((Oq = (if k = 0 then (sayO (onew 1 0 0) [120]) else if k = 1 then takeO (sayO (onew 1 0 0) [120]) (sayM (onew 1 0 0) [120]) else takeO (takeO (sayO (onew 1 0 0) [120]) (sayM (onew 1 0 0) [120])) ⟨2, 0, 0, 0, 0, [120], B32.zero⟩) ∧ mq = (if k = 0 then (sayM (onew 1 0 0) [120]) else if k = 1 then ⟨2, 0, 0, 0, 0, [120], B32.zero⟩ else ⟨3, 0, 0, 0, 0, [120], B32.zero⟩)))) (fun k => (2 - k).toNat) (0) ⟨ov1, (sayO (onew 1 0 0) ([120] : List UInt8)), (sayM (onew 1 0 0) ([120] : List UInt8)), F.sel [1, 2, 3, 4, 5] rfl, M, Int.le_refl _, by omega, (OdB.say (t := ([120] : List UInt8)) (onew_B' (of_decide_eq_true (show decide (onewE 1 0 0 = 0) = true from by decide +kernel)))), ⟨rfl, rfl⟩⟩ ?_; clear F M; rintro k φ ω ⟨fq, Oq, mq, F, M, hp1_0, hp1_1, hp1_2, hp1_3⟩; refine wp_seq ?_; refine wp_seq ?_; have hBq := hp1_2; have hmq : mq.seq ≤ 9223372036854775807 := by rw [hp1_3.2]; split; decide +kernel; split <;> decide +kernel
  revert φ; refine rlG ?_; refine mvG ?_; refine lsG ?_; intro φ F; refine nx ?_; cases hs2 : (decide (k < 2))
  · rw [hs2] at F; have hs2i := of_decide_eq_false hs2; refine wp_cond_false (F.ev rfl) ?_; refine wp_exit ?_; refine nxe ?_; refine nxe ?_; refine nxm ?_; refine nxq ?_; refine wp_seq ?_; have hk2 : k = 2 := by omega
    obtain rfl : Oq = (takeO (takeO (sayO (onew 1 0 0) [120]) (sayM (onew 1 0 0) [120])) ⟨2, 0, 0, 0, 0, [120], B32.zero⟩) := by rw [hp1_3.1, hk2]; rfl
    obtain rfl : mq = ⟨3, 0, 0, 0, 0, [120], B32.zero⟩ := by rw [hp1_3.2, hk2]; rfl
    replace M : Mm [] w ω [.blk g1 34 (List.toArray (cFm (⟨3, 0, 0, 0, 0, [120], B32.zero⟩))), .own fq (OrdV op1 fq (takeO (takeO (sayO (onew 1 0 0) [120]) (sayM (onew 1 0 0) [120])) ⟨2, 0, 0, 0, 0, [120], B32.zero⟩))] := M; revert φ; refine rlG ?_; refine mvG ?_; refine rdG (fun _ F => ld_agg rfl (F.ev rfl) agg34 (M.rd (i := 0) rfl) rfl) ?_; intro φ F; replace F := F.re (v' := .agg (List.toArray (cFm (⟨3, 0, 0, 0, 0, [120], B32.zero⟩)))) rfl; refine sq_callTM (Z := (fun x' => ∃ fp', x' = .own fp' (OrdV op1 fp' (takeO (takeO (takeO (sayO (onew 1 0 0) [120]) (sayM (onew 1 0 0) [120])) ⟨2, 0, 0, 0, 0, [120], B32.zero⟩) (⟨3, 0, 0, 0, 0, [120], B32.zero⟩))))) F M (wt0 rfl) rfl en13 (evc (F.ev rfl) (evc (F.ev rfl) evn)) (i := 1) rfl (ord_take op1 fq (takeO (takeO (sayO (onew 1 0 0) [120]) (sayM (onew 1 0 0) [120])) ⟨2, 0, 0, 0, 0, [120], B32.zero⟩) (⟨3, 0, 0, 0, 0, [120], B32.zero⟩) _ (M.pv (i := 1) rfl) hBq (by omega) (by first | omega | assumption | exact seq_at (by assumption) | (dsimp only; omega))) rfl rfl ?_; clear F M; rintro φ ω v3 v4 _ ⟨ov2, rfl⟩ F M; replace M : Mm [] w ω [.row 34 38 v3 ((tellO (takeO (takeO (sayO (onew 1 0 0) [120]) (sayM (onew 1 0 0) [120])) ⟨2, 0, 0, 0, 0, [120], B32.zero⟩) (⟨3, 0, 0, 0, 0, [120], B32.zero⟩)).length) (cF (tellO (takeO (takeO (sayO (onew 1 0 0) [120]) (sayM (onew 1 0 0) [120])) ⟨2, 0, 0, 0, 0, [120], B32.zero⟩) (⟨3, 0, 0, 0, 0, [120], B32.zero⟩))), .row 34 38 v4 ((overO (takeO (takeO (sayO (onew 1 0 0) [120]) (sayM (onew 1 0 0) [120])) ⟨2, 0, 0, 0, 0, [120], B32.zero⟩) (⟨3, 0, 0, 0, 0, [120], B32.zero⟩)).length) (cF (overO (takeO (takeO (sayO (onew 1 0 0) [120]) (sayM (onew 1 0 0) [120])) ⟨2, 0, 0, 0, 0, [120], B32.zero⟩) (⟨3, 0, 0, 0, 0, [120], B32.zero⟩))), .blk g1 34 (List.toArray (cFm (⟨3, 0, 0, 0, 0, [120], B32.zero⟩))), .own ov2 (OrdV op1 ov2 (takeO (takeO (takeO (sayO (onew 1 0 0) [120]) (sayM (onew 1 0 0) [120])) ⟨2, 0, 0, 0, 0, [120], B32.zero⟩) (⟨3, 0, 0, 0, 0, [120], B32.zero⟩)))] := M; revert φ; refine mvG ?_; refine exG ?_; refine exG ?_; refine asG ?_; refine asG ?_; intro φ F; refine nx ?_; refine wp_seq ?_; have hl1 : (overO (takeO (takeO (sayO (onew 1 0 0) [120]) (sayM (onew 1 0 0) [120])) ⟨2, 0, 0, 0, 0, [120], B32.zero⟩) (⟨3, 0, 0, 0, 0, [120], B32.zero⟩)).length = 1 := by decide +kernel
    revert φ; refine rlG ?_; refine mvG ?_; refine eqG ?_; intro φ F; rw [(show decide ((sayE (onew 1 0 0) ([120] : List UInt8)) = 0) = true from by first | rfl | decide +kernel)] at F; revert φ; refine mvG ?_; refine mvG ?_; refine puG (fun _ F => pu_len rfl (F.ev rfl) sl23 (M.rv (i := 1) rfl)) ?_; refine eqG ?_; intro φ F; rw [(show decide ((((overO (takeO (takeO (sayO (onew 1 0 0) [120]) (sayM (onew 1 0 0) [120])) ⟨2, 0, 0, 0, 0, [120], B32.zero⟩) (⟨3, 0, 0, 0, 0, [120], B32.zero⟩)).length : Nat) : Int) = 1) = true from by first | rfl | decide +kernel)] at F; revert φ; refine pkT ?_; refine mvG ?_; refine mvG ?_; refine puG (fun _ F => pu_ixN 0 rfl (F.ev rfl) (evk) sl23 (M.rv (i := 1) rfl) rfl (by omega)) ?_; refine faG fo34_5 ?_; refine rdG (fun _ F => ld_elP1 (q := 5) (k := 0 * 38) rfl (F.ev rfl) one9 (fun _ e => e ▸ (M.rv (i := 1) rfl)) (by omega) (cF_at (by first | omega | (simp; done) | (simp; omega))) rfl) ?_; refine puG (fun _ F => pu_eqlS (A := ((atF (overO (takeO (takeO (sayO (onew 1 0 0) [120]) (sayM (onew 1 0 0) [120])) ⟨2, 0, 0, 0, 0, [120], B32.zero⟩) (⟨3, 0, 0, 0, 0, [120], B32.zero⟩)) 0).text)) (B := ([120] : List UInt8)) rfl (F.ev rfl) (evk)) ?_; intro φ F; rw [(show decide ((atF (overO (takeO (takeO (sayO (onew 1 0 0) [120]) (sayM (onew 1 0 0) [120])) ⟨2, 0, 0, 0, 0, [120], B32.zero⟩) (⟨3, 0, 0, 0, 0, [120], B32.zero⟩)) 0).text = ([120] : List UInt8)) = true from by first | rfl | decide +kernel)] at F; revert φ; refine pkT ?_; refine mvG ?_; refine mvG ?_; intro φ F; refine sq_call F M (wt1 F rfl rfl rfl rfl rfl) rfl en16 (evc (F.ev rfl) (evc (evk) evn)) (ord_next op1 ov2 (takeO (takeO (takeO (sayO (onew 1 0 0) [120]) (sayM (onew 1 0 0) [120])) ⟨2, 0, 0, 0, 0, [120], B32.zero⟩) (⟨3, 0, 0, 0, 0, [120], B32.zero⟩)) 0 _ (M.pv (i := 3) rfl)) rfl rfl ?_; clear F M; intro φ ω F M; revert φ; refine eqG ?_; intro φ F; rw [(show decide ((nextD (takeO (takeO (takeO (sayO (onew 1 0 0) [120]) (sayM (onew 1 0 0) [120])) ⟨2, 0, 0, 0, 0, [120], B32.zero⟩) (⟨3, 0, 0, 0, 0, [120], B32.zero⟩)) 0) = 1) = true from by first | rfl | decide +kernel)] at F; revert φ; refine pkT ?_; refine asG ?_; intro φ F; refine nx ?_; refine wp_ret ?_; refine rt_tmp F rfl rfl ?_; exact ⟨rfl, M.bel⟩
  · rw [hs2] at F; have hs2i := of_decide_eq_true hs2; refine wp_cond_true (F.ev rfl) ?_; refine wp_skip ?_; refine nxq ?_; refine wp_seq ?_; refine wp_block ?_; revert φ; refine srG ?_; refine mvG ?_; refine rdG (fun _ F => ld_agg rfl (F.ev rfl) agg34 (M.rd (i := 0) rfl) rfl) ?_; intro φ F; replace F := F.re (v' := .agg (List.toArray (cFm mq))) rfl; refine sq_callTM (Z := (fun x' => ∃ fp', x' = .own fp' (OrdV op1 fp' (takeO Oq mq)))) F M (wt0 rfl) rfl en13 (evc (F.ev rfl) (evc (F.ev rfl) evn)) (i := 1) rfl (ord_take op1 fq Oq mq _ (M.pv (i := 1) rfl) hBq (by omega) (by first | omega | assumption | exact seq_at (by assumption) | (dsimp only; omega))) rfl rfl ?_; clear F M; rintro φ ω v6 v7 _ ⟨ov5, rfl⟩ F M; replace M : Mm [] w ω [.row 34 38 v6 ((tellO Oq mq).length) (cF (tellO Oq mq)), .row 34 38 v7 ((overO Oq mq).length) (cF (overO Oq mq)), .blk g1 34 (List.toArray (cFm mq)), .own ov5 (OrdV op1 ov5 (takeO Oq mq))] := M; revert φ; refine mvG ?_; refine exG ?_; refine exG ?_; refine asG ?_; refine asG ?_; intro φ F; refine nx ?_; refine wp_seq ?_; refine wp_seq ?_; have htl : tellO Oq mq = [⟨(k + 2), 0, 0, 0, 0, [120], B32.zero⟩] := by rcases (show k = 0 ∨ k = 1 by omega) with h | h <;> subst h <;> rw [hp1_3.1, hp1_3.2] <;> decide +kernel
    have htn : (tellO Oq mq).length = 1 := by rw [htl]; rfl
    revert φ; refine rlG ?_; refine mvG ?_; refine puG (fun _ F => pu_len rfl (F.ev rfl) sl23 (M.rv (i := 0) rfl)) ?_; refine puG (fun _ F => pu_neqI rfl (F.ev rfl) (evk)) ?_; intro φ F; rw [(show decide ((((tellO Oq mq).length : Nat) : Int) = 1) = true from by rw [htn]; rfl), show (!true) = false from rfl] at F; refine nx ?_; refine wp_cond_false (F.ev rfl) ?_; refine wp_skip ?_; refine nxq ?_; revert φ; refine rlG ?_; refine mvG ?_; refine puG (fun _ F => pu_ixN 0 rfl (F.ev rfl) (evk) sl23 (M.rv (i := 0) rfl) rfl (by omega)) ?_; refine rdG (fun _ F => ld_el rfl (F.ev rfl) agg34 (fun _ e => e ▸ (M.rv (i := 0) rfl)) (by omega) (cF_at (by first | omega | (simp; done) | (simp; omega))) rfl) ?_; intro φ F; refine sq_stA F M (wt0 rfl) rfl (F.ev rfl) (F.ev rfl) (i := 2) rfl agg34 rfl rfl rfl rfl ?_; clear M; intro ω M; refine wpList_nil ?_; refine nxb ?_; refine nxq ?_; revert φ; refine rlG ?_; refine mvG ?_; refine adG ?_; refine asG ?_; intro φ F; refine wpList_nil ?_; exact ⟨k + 1, by omega, ov5, (takeO Oq mq), (atF (tellO Oq mq) 0), F.sel [1, 2, 3, 4, 5] rfl, (M.sub (.cons _ (.cons _ (.cons_cons _ (.cons_cons _ (.slnil)))))), by omega, by omega, (OdB.take (m := mq) hBq), (by rcases (show k = 0 ∨ k = 1 by omega) with h | h <;> subst h <;> rw [htl, hp1_3.1, hp1_3.2] <;> exact ⟨rfl, by decide +kernel⟩)⟩
end Go.Proofs.Ytcobpabmmbcjcaa
namespace Go.Proofs.Ytcobpabmmbcjcaa
open Go.RowKit
set_option maxRecDepth 100000
set_option linter.unusedSimpArgs false
set_option linter.unusedVariables false
structure Oo where
  r : Nat
  fp : List Nat
  O : Od
def fpOd (o : Oo) : List Nat := o.fp
def ΦD (o : Oo) : World → Prop := OrdV o.r o.fp o.O
theorem locD : ∀ a, Loc (fpOd a) (ΦD a) := fun o => OrdV.loc o.r o.fp o.O
section
variable {W : List Oo} {j : Nat} {o : Oo} {w w' : World} {e : Ending} {n f k c : Int} {ps : List Nat} {Wm : Int → Od} {O : Od}
theorem ObjsV.ordr (h : ObjsV fpOd ΦD W w) (hj : W[j]? = some o) : OrdV o.r o.fp o.O w := h.all _ (List.mem_of_getElem? hj)
theorem ObjsV.turnM {t : TypeId} {m : Nat} {cs cs2 : List Value} {c c2 : Nat} (h : ObjsV fpOd ΦD W w) (hj : W[j]? = some o)
    (ht : TurnsM w (.own o.fp (OrdV o.r o.fp o.O)) (fun x' => ∃ fp', x' = .own fp' (OrdV o.r fp' O)) t m cs c cs2 c2 e w') :
    TurnsM w (.own (W.flatMap fpOd) (ObjsV fpOd ΦD W)) (fun x' => ∃ fp', x' = .own ((W.set j ⟨o.r, fp', O⟩).flatMap fpOd) (ObjsV fpOd ΦD (W.set j ⟨o.r, fp', O⟩))) t m cs c cs2 c2 e w' := by
  obtain ⟨v, v2, x', h1, h2, h3, h4, h5, ⟨fp', rfl⟩, h6, h6', h7, h7', h8⟩ := ht
  obtain ⟨hj1, hj2⟩ := List.getElem?_eq_some_iff.1 hj
  have T : TurnsE w (.own (fpOd W[j]) (ΦD W[j])) (fun u x' => ∃ a', (a' = ⟨o.r, fp', O⟩) ∧ x' = .own (fpOd a') (ΦD a')) e w' := by
    rw [hj2]
    exact ⟨_, _, h1, h2, h3, h4, rfl, ⟨o.r, fp', O⟩, rfl, rfl⟩
  obtain ⟨u, x2, g1, g2, g3, g4, g5, a', rfl, rfl⟩ := h.turn locD hj1 (Z := fun _ _ => True) (Z' := fun _ a' => a' = ⟨o.r, fp', O⟩) T
  have apart : ∀ u : Value, (∀ g ∈ u.ownBlock.toList, (g ∈ o.fp ∨ w.heap.size ≤ g) ∧ ¬ g ∈ fp') → ∀ g ∈ u.ownBlock.toList, (g ∈ W.flatMap fpOd ∨ w.heap.size ≤ g) ∧ ¬ g ∈ (W.set j ⟨o.r, fp', O⟩).flatMap fpOd := fun u hu g hg => by
    refine ⟨(hu g hg).1.imp (fun z => List.mem_flatMap.2 ⟨_, List.mem_of_getElem? hj, z⟩) id, fun hg' => ?_⟩
    obtain ⟨b, hb, hgb⟩ := List.mem_flatMap.1 hg'
    obtain ⟨i, hi, rfl⟩ := List.mem_iff_getElem.1 hb
    rw [List.length_set] at hi
    rw [List.getElem_set] at hgb
    split at hgb
    · exact (hu g hg).2 hgb
    · rename_i hne
      rcases (hu g hg).1 with z | z
      · have := h.apart hj1 hi hne g (by rw [hj2]; exact z); exact this hgb
      · have q1 := h.lt locD (List.getElem_mem hi) g hgb
        omega
  exact ⟨v, v2, _, h1, g2, g3, g4, rfl, ⟨fp', rfl⟩, h6, h6', apart v h7, apart v2 h7', h8⟩
structure OsOK (n : Int) (ps : List Nat) (W : List Oo) (Wm : Int → Od) : Prop where
  len : (W.length : Int) = n
  ptr : W.map Oo.r = ps
  at_ : ∀ j : Nat, j < W.length → ∃ o, W[j]? = some o ∧ o.O = Wm j
theorem OsOK.pl (h : OsOK n ps W Wm) : (ps.length : Int) = n := by rw [← h.ptr, List.length_map]; exact h.len
theorem OsOK.one (h : OsOK n ps W Wm) (h0 : 0 ≤ k) (h1 : k < n) : ∃ o : Oo, W[k.toNat]? = some o ∧ o.O = Wm k ∧ ps[k.toNat]? = some o.r := by
  have h2 := h.len
  obtain ⟨o, h3, h4⟩ := h.at_ k.toNat (by omega)
  rw [show ((k.toNat : Nat) : Int) = k by omega] at h4
  refine ⟨o, h3, h4, ?_⟩
  rw [← h.ptr, List.getElem?_map, h3]; rfl
theorem OsOK.turn (h : OsOK n ps W Wm) (h0 : 0 ≤ k) (h1 : k < n) (hj : W[k.toNat]? = some o) (fp' : List Nat) (O : Od) : OsOK n ps (W.set k.toNat ⟨o.r, fp', O⟩) (updO Wm k O) := by
  have h2 := h.len
  obtain ⟨hj1, hj2⟩ := List.getElem?_eq_some_iff.1 hj
  refine ⟨by rw [List.length_set]; exact h2, ?_, fun j hl => ?_⟩
  · rw [← h.ptr]
    apply List.ext_getElem
    · simp
    · intro i q1 q2
      simp only [List.getElem_map, List.getElem_set]
      split
      · rename_i e; subst e; simp [hj2]
      · rfl
  · rw [List.length_set] at hl
    by_cases e : k.toNat = j
    · subst e
      refine ⟨⟨o.r, fp', O⟩, List.getElem?_set_self hj1, ?_⟩
      rw [show ((k.toNat : Nat) : Int) = k by omega, updO_at]
    · obtain ⟨o', q1, q2⟩ := h.at_ j hl
      exact ⟨o', by rw [List.getElem?_set_ne e]; exact q1, by rw [q2, updO_ne (by omega)]⟩
theorem OsOK.zero : OsOK 0 [] [] Wm := ⟨rfl, rfl, fun j h => (by cases h)⟩
theorem OsOK.push (h : OsOK k ps W Wm) (r : Nat) (fp : List Nat) : OsOK (k + 1) (ps ++ [r]) (W ++ [(⟨r, fp, Wm k⟩ : Oo)]) Wm := by
  have h1 := h.len
  refine ⟨by rw [List.length_append]; simp; omega, by rw [← h.ptr]; simp, fun j hl => ?_⟩
  rw [List.length_append, List.length_singleton] at hl
  by_cases e : j < W.length
  · rw [List.getElem?_append_left e]; exact h.at_ j e
  · rw [List.getElem?_append_right (by omega), show j - W.length = 0 by omega]
    exact ⟨_, rfl, by rw [show ((j : Nat) : Int) = k by omega]⟩
theorem Mm.pushD {R : List Nat} {w0 : World} {B : List Ent} {r : Nat} {fp : List Nat} {O : Od} (M : Mm R w0 w (.own fp (OrdV r fp O) :: .own (W.flatMap fpOd) (ObjsV fpOd ΦD W) :: B)) : Mm R w0 w (.own ((W ++ [(⟨r, fp, O⟩ : Oo)]).flatMap fpOd) (ObjsV fpOd ΦD (W ++ [(⟨r, fp, O⟩ : Oo)])) :: B) :=
  Mm.pushO (a := ⟨r, fp, O⟩) locD M
theorem Mm.newD {R : List Nat} {w0 : World} {B : List Ent} (M : Mm R w0 w B) : Mm R w0 w (.own (([] : List Oo).flatMap fpOd) (ObjsV fpOd ΦD []) :: B) :=
  M.addOwn (Below.refl _ _) (ObjsV.nil _ _ _) (ObjsV.loc locD []) (fun g hg => by cases hg)
end
def ofL (L : List Fm) (o : Int) : List Fm := L.filter fun x => decide (x.org = o)
theorem of_zero (L : List Fm) (o : Int) : ofL (L.take (0 : Int).toNat) o = [] := by rw [show (0 : Int).toNat = 0 from rfl, List.take_zero]; rfl
theorem of_yes {L : List Fm} {o i : Int} (h0 : 0 ≤ i) (h : i.toNat < L.length) (e : (atF L i.toNat).org = o) : ofL (L.take (i + 1).toNat) o = ofL (L.take i.toNat) o ++ [atF L i.toNat] := by
  unfold ofL
  rw [show (i + 1).toNat = i.toNat + 1 by omega, List.take_succ_eq_append_getElem h, List.filter_append, ← atF_eq h, List.filter_cons, if_pos (by simpa using e)]; rfl
theorem of_no {L : List Fm} {o i : Int} (h0 : 0 ≤ i) (h : i.toNat < L.length) (e : ¬ (atF L i.toNat).org = o) : ofL (L.take (i + 1).toNat) o = ofL (L.take i.toNat) o := by
  unfold ofL
  rw [show (i + 1).toNat = i.toNat + 1 by omega, List.take_succ_eq_append_getElem h, List.filter_append, ← atF_eq h, List.filter_cons, if_neg (by simpa using e)]; simp
theorem of_le (L : List Fm) (o : Int) (i : Nat) : (ofL (L.take i) o).length ≤ i := Nat.le_trans (List.length_filter_le _ _) (by rw [List.length_take]; omega)
end Go.Proofs.Ytcobpabmmbcjcaa
namespace Go.Proofs.Ytcobpabmmbcjcaa
open Go.RowKit
set_option maxRecDepth 100000
set_option linter.unusedSimpArgs false
set_option linter.unusedVariables false
structure OutOK (n f i : Int) (Wm : Int → Od) (vs : List Value) (L : List (List Fm)) : Prop where
  f0 : 0 ≤ f
  vl : vs.length = 7
  ll : L.length = 7
  bs : ∀ k, 0 ≤ k → k < n → OdB (Wm k) i
  sz : ∀ j : Nat, j < 7 → ((atRF L j).length : Int) ≤ 32 * i
  ex : ∀ k, hon n f k → ∀ o, ofL (atRF L k.toNat) o = dlv (Wm k) o
section
variable {n f i j k o : Int} {Wm : Int → Od} {vs : List Value} {L : List (List Fm)} {v : Value} {m : Fm} {T : List Fm} {t : Nat}
theorem OutOK.start (hf : 0 ≤ f) (hB : ∀ k, 0 ≤ k → k < n → OdB (Wm k) 0) (h0 : ∀ k, hon n f k → ∀ o, (Wm k).nx o = 0) : OutOK n f 0 Wm (List.replicate 7 nilV) (List.replicate 7 []) :=
  ⟨hf, rfl, rfl, hB, fun j hj => by rw [show atRF (List.replicate 7 []) j = [] by unfold atRF; rw [List.getD_eq_getElem?_getD, List.getElem?_replicate]; split <;> rfl]; exact Int.le_refl _, fun k hk o => by
    rw [show atRF (List.replicate 7 []) k.toNat = [] by unfold atRF; rw [List.getD_eq_getElem?_getD, List.getElem?_replicate]; split <;> rfl]
    unfold dlv; rw [h0 k hk o]; rfl⟩
theorem OutOK.pass (h : OutOK n f i Wm vs L) (h0 : 0 ≤ i) : OutOK n f (i + 1) Wm vs L := ⟨h.f0, h.vl, h.ll, fun k a b => (h.bs k a b).more (by omega), fun j hj => by have := h.sz j hj; omega, h.ex⟩
theorem OutOK.step (h : OutOK n f i Wm vs L) (hi : 0 ≤ i) (h0 : 0 ≤ j) (h1 : j < n) (h7 : n ≤ 7) (v : Value) (m : Fm) : OutOK n f (i + 1) (updO Wm j (takeO (Wm j) m)) (vs.set j.toNat v) (L.set j.toNat (atRF L j.toNat ++ overO (Wm j) m)) := by
  have hl := h.ll
  have hf := h.f0
  refine ⟨hf, by rw [List.length_set]; exact h.vl, by rw [List.length_set]; exact hl, fun k a b => ?_, fun q hq => ?_, fun k hk o => ?_⟩
  · by_cases e : k = j
    · subst e; rw [updO_at]; exact (h.bs k a b).take
    · rw [updO_ne e]; exact (h.bs k a b).more (by omega)
  · rw [atRF_set (by omega)]
    split
    · rename_i e
      have a1 := h.sz j.toNat (by omega)
      have a2 := over_le (O := Wm j) (m := m)
      rw [List.length_append]; omega
    · have := h.sz q hq; omega
  · have hk0 : 0 ≤ k ∨ k < 0 := by omega
    by_cases e : k = j
    · subst e
      rw [updO_at, atRF_set (by omega), if_pos rfl, dlv_take (h.bs k h0 h1).ok]
      unfold ofL
      rw [List.filter_append]
      have := h.ex k hk o
      unfold ofL at this
      rw [this]
    · rw [updO_ne e, atRF_set (by omega)]
      split
      · rename_i e2
        exact absurd (by have := hk.1; omega) e
      · exact h.ex k hk o
end
def sentQ (f n : Int) (T : List Fm) (i t : Nat) : List Sn := tellQ f n (T.take i) ++ ((rngF f n).take t).map fun j => ⟨j, atF T i⟩
section
variable {f n : Int} {T : List Fm} {i t : Nat}
theorem sentQ_zero : sentQ f n T i 0 = tellQ f n (T.take i) := by simp [sentQ]
theorem sentQ_start (f n : Int) (T : List Fm) (i : Nat) : sentQ f n T i (f - f).toNat = tellQ f n (T.take i) := by rw [show (f - f).toNat = 0 by omega]; exact sentQ_zero
theorem sentQ_step (h : t < (n - f).toNat) : sentQ f n T i t ++ [⟨f + (t : Int), atF T i⟩] = sentQ f n T i (t + 1) := by
  unfold sentQ
  have hl : t < (rngF f n).length := by rw [rngF_len]; exact h
  rw [List.take_succ_eq_append_getElem hl, List.map_append, List.append_assoc]
  congr 2
  simp [rngF]
theorem sentQ_row (hi : i < T.length) : sentQ f n T i (n - f).toNat = tellQ f n (T.take (i + 1)) := by
  unfold sentQ
  rw [List.take_of_length_le (l := rngF f n) (by rw [rngF_len]; exact Nat.le_refl _), List.take_succ_eq_append_getElem hi, ← atF_eq hi]
  unfold tellQ
  rw [List.flatMap_append]
  simp only [List.flatMap_cons, List.flatMap_nil, List.append_nil]
theorem tellQ_len (f n : Int) (T : List Fm) : (tellQ f n T).length = T.length * (n - f).toNat := by
  unfold tellQ
  rw [List.length_flatMap]
  induction T with
  | nil => simp
  | cons a r ih => simp only [List.map_cons, List.sum_cons, List.length_map, rngF_len, List.length_cons] at ih ⊢; rw [ih, Nat.succ_mul]; omega
theorem sentQ_len (hi : i < T.length) (ht : t ≤ (n - f).toNat) : (sentQ f n T i t).length ≤ (tellQ f n T).length := by
  unfold sentQ
  rw [List.length_append, tellQ_len, tellQ_len, List.length_map, List.length_take, List.length_take, rngF_len]
  have : (min i T.length) * (n - f).toNat + (n - f).toNat ≤ T.length * (n - f).toNat := by
    rw [← Nat.succ_mul]; exact Nat.mul_le_mul_right _ (by omega)
  omega
theorem tell_le {O : Od} {m : Fm} (h : OdOK O) : (tellO O m).length ≤ 2 := by
  unfold tellO
  split
  · rw [List.length_map]
    exact take_len (by rw [(h.nf _ _).1]; have := h.n1; omega) (by rw [(h.nf _ _).2]; exact h.f0)
  · exact Nat.zero_le _
end
theorem sn_seq {Q : List Sn} {i : Nat} (h : ∀ s ∈ Q, s.fr.seq ≤ 9223372036854775807) : (atSn Q i).fr.seq ≤ 9223372036854775807 := by
  rcases Nat.lt_or_ge i Q.length with h1 | h1
  · rw [atW_eq h1]; exact h _ (List.getElem_mem h1)
  · rw [show atSn Q i = encSn.z from by show Q.getD i encSn.z = _; rw [List.getD_eq_getElem?_getD, List.getElem?_eq_none h1]; rfl]; decide
theorem tellQ_seq {f n : Int} {T : List Fm} (h : ∀ x ∈ T, x.seq ≤ 9223372036854775807) : ∀ s ∈ tellQ f n T, s.fr.seq ≤ 9223372036854775807 := fun s hs => by
  unfold tellQ at hs
  obtain ⟨m, hm, hs⟩ := List.mem_flatMap.1 hs
  obtain ⟨j, _, rfl⟩ := List.mem_map.1 hs
  exact h m hm
theorem seq_app {Q K : List Sn} (h : ∀ s ∈ Q, s.fr.seq ≤ 9223372036854775807) (hk : ∀ s ∈ K, s.fr.seq ≤ 9223372036854775807) : ∀ s ∈ Q ++ K, s.fr.seq ≤ 9223372036854775807 := fun s hs => (List.mem_append.1 hs).elim (h s) (hk s)
theorem said_seq {f n : Int} {ts : List Tx} {c : Nat} (hc : c ≤ 1000) : ∀ s ∈ saidQ f n ts c, s.fr.seq ≤ 9223372036854775807 := fun s hs => by
  obtain ⟨i, hi, _, e⟩ := mem_saidQ.1 hs
  rw [e]; show (i : Int) ≤ _; omega
theorem cP_get {L : List Nat} {i r : Nat} (h : L[i]? = some r) : (cP L)[i * 1]? = some (.pointer (some ⟨r, 0, none⟩)) := by
  obtain ⟨h1, h2⟩ := List.getElem?_eq_some_iff.1 h
  rw [cP_at h1, show atP L i = L[i] from atE_eq (E := encP) h1, h2]
theorem orders_take {W : List Oo} {w : World} {j : Nat} {o : Oo} {c : Int} (h : ObjsV fpOd ΦD W w) (hj : W[j]? = some o) (m : Fm) (hB : OdB o.O c) (hc : c ≤ 100000) (hq : m.seq ≤ 9223372036854775807) : Calls Try.prog 13 #[.pointer (some ⟨o.r, 0, none⟩), .agg (cFm m).toArray] w (TurnsM w (.own (W.flatMap fpOd) (ObjsV fpOd ΦD W)) (fun x' => ∃ fp', x' = .own ((W.set j ⟨o.r, fp', takeO o.O m⟩).flatMap fpOd) (ObjsV fpOd ΦD (W.set j ⟨o.r, fp', takeO o.O m⟩))) 34 38 (cF (tellO o.O m)) (tellO o.O m).length (cF (overO o.O m)) (overO o.O m).length) :=
  (ord_take o.r o.fp o.O m w (h.ordr hj) hB hc hq).mono fun _ _ q => h.turnM hj q
theorem TurnsM.pack {w w' : World} {x : Ent} {α : Type} {G : α → List Nat} {Φ' : α → World → Prop} {t : TypeId} {m k k2 : Nat} {cs cs2 : List Value} {e : Ending} (h : TurnsM w x (fun x' => ∃ a, x' = .own (G a) (Φ' a)) t m cs k cs2 k2 e w') :
    TurnsE w x (fun v x' => ∃ y : α × (Value × Value), v = .tuple #[y.2.1, y.2.2] ∧ x' = .own (fpE [.row t m y.2.1 k cs, .row t m y.2.2 k2 cs2, .own (G y.1) (Φ' y.1)]) (PkV [.row t m y.2.1 k cs, .row t m y.2.2 k2 cs2, .own (G y.1) (Φ' y.1)])) e w' := by
  obtain ⟨v, v2, x', h1, h2, h3, h4, h5, ⟨fp', rfl⟩, h6, h6', h7, h7', h8⟩ := h
  refine ⟨_, .own _ (PkV [.row t m v k cs, .row t m v2 k2 cs2, .own (G fp') (Φ' fp')]), h1, h2, ⟨⟨fun y hy => ?_, fun y hy => ?_, ?_⟩, PkV.loc _⟩, fun g hg => ?_, rfl, (fp', v, v2), rfl, rfl⟩
  · simp only [List.mem_cons, List.not_mem_nil, or_false] at hy
    rcases hy with rfl | rfl | rfl
    · exact h6
    · exact h6'
    · exact h3
  · simp only [List.mem_cons, List.not_mem_nil, or_false] at hy
    rcases hy with rfl | rfl | rfl <;> rfl
  · refine List.pairwise_cons.2 ⟨fun y hy g hg => ?_, List.pairwise_cons.2 ⟨fun y hy g hg => ?_, List.pairwise_singleton _ _⟩⟩
    · simp only [List.mem_cons, List.not_mem_nil, or_false] at hy
      rcases hy with rfl | rfl
      · exact h8 g (by simpa [Ent.fp] using hg)
      · exact (h7 g (by simpa [Ent.fp] using hg)).2
    · rw [List.mem_singleton.1 hy]
      exact (h7' g (by simpa [Ent.fp] using hg)).2
  · obtain ⟨y, hy, hgy⟩ := mem_fpE.1 (show g ∈ fpE [.row t m v k cs, .row t m v2 k2 cs2, .own (G fp') (Φ' fp')] from hg)
    simp only [List.mem_cons, List.not_mem_nil, or_false] at hy
    rcases hy with rfl | rfl | rfl
    · exact (h7 g (by simpa [Ent.fp] using hgy)).1
    · exact (h7' g (by simpa [Ent.fp] using hgy)).1
    · exact h4 g hgy
theorem Mm.spread {R : List Nat} {w0 w : World} {B : List Ent} {i : Nat} {X : List Ent} (M : Mm R w0 w B) (hi : B[i]? = some (.own (fpE X) (PkV X))) : Mm R w0 w (X ++ B.set i (.arg 1 (.slice none 0 0) 0 [])) := by
  have hP : PkV X w := M.pv hi
  have hB : ∀ y ∈ B.set i (.arg 1 (.slice none 0 0) 0 []), y = .arg 1 (.slice none 0 0) 0 [] ∨ ∃ (q : Nat) (hq : q < B.length), q ≠ i ∧ y = B[q] := fun y hy => by
    obtain ⟨q, hq, rfl⟩ := List.mem_iff_getElem.1 hy
    rw [List.getElem_set]
    split
    · exact .inl rfl
    · rename_i hne
      rw [List.length_set] at hq
      exact .inr ⟨q, hq, fun e => hne e.symm, rfl⟩
  refine ⟨M.out, fun y hy => ?_, fun y hy g hg => ?_, fun y hy g hg => ?_, List.pairwise_append.2 ⟨hP.nd, ?_, fun x hx y hy g hg hgy => ?_⟩⟩
  · rcases List.mem_append.1 hy with h | h
    · exact hP.has y h
    · rcases hB y h with rfl | ⟨q, hq, _, rfl⟩
      · exact ⟨rfl, none, 0, rfl, Nat.le_refl _, Nat.zero_le _, fun h => absurd h (by omega)⟩
      · exact M.has _ (List.getElem_mem hq)
  · rcases List.mem_append.1 hy with h | h
    · exact M.own _ (List.mem_of_getElem? hi) g (mem_fpE.2 ⟨y, h, hg⟩)
    · rcases hB y h with rfl | ⟨q, hq, _, rfl⟩
      · cases hg
      · exact M.own _ (List.getElem_mem hq) g hg
  · rcases List.mem_append.1 hy with h | h
    · rw [hP.base y h] at hg; cases hg
    · rcases hB y h with rfl | ⟨q, hq, _, rfl⟩
      · cases hg
      · exact M.far _ (List.getElem_mem hq) g hg
  · rw [List.pairwise_iff_getElem]
    intro p q hp hq hlt g hg hgq
    rw [List.length_set] at hp hq
    rw [List.getElem_set] at hg hgq
    split at hg
    · cases hg
    · split at hgq
      · cases hgq
      · exact M.apart (List.getElem?_eq_getElem hp) (List.getElem?_eq_getElem hq) (by omega) g hg hgq
  · rcases hB y hy with rfl | ⟨q, hq, hne, rfl⟩
    · cases hgy
    · exact M.apart hi (List.getElem?_eq_getElem hq) (fun e => hne e.symm) g (mem_fpE.2 ⟨x, hx, hg⟩) hgy
end Go.Proofs.Ytcobpabmmbcjcaa
namespace Go.Proofs.Ytcobpabmmbcjcaa
open Go.RowKit
set_option maxRecDepth 100000
set_option linter.unusedSimpArgs false
set_option linter.unusedVariables false
theorem all_more {α : Type} {p : α → Prop} {Q : List α} {x : α} (h : ∀ s ∈ Q, p s) (hx : p x) : ∀ s ∈ Q ++ [x], p s := fun s hs => by
  rcases List.mem_append.1 hs with hs | hs
  · exact h s hs
  · rw [List.mem_singleton.1 hs]; exact hx
def wmS (n f i : Int) : Int → Od := fun k => { onew n f k with sd := if k = n - 1 then i else 0 }
section
variable {n f i k : Int} {t : Tx} {ts : List Tx}
theorem wmS_zero : wmS n f 0 = fun k => onew n f k := by funext k; unfold wmS; split <;> rfl
theorem wmS_e (h : i < 32) : sayE (wmS n f i (n - 1)) t = if 400 < t.length then 1 else 0 := by
  unfold sayE wmS
  simp only [if_true, onew]
  split
  · rfl
  · rw [if_neg (by omega)]
theorem wmS_say (h : i < 32) (ht : ¬ 400 < t.length) : sayM (wmS n f i (n - 1)) t = saidF n i t ∧ updO (wmS n f i) (n - 1) (sayO (wmS n f i (n - 1)) t) = wmS n f (i + 1) := by
  have he : sayE (wmS n f i (n - 1)) t = 0 := by rw [wmS_e h, if_neg ht]
  unfold sayM sayO
  rw [if_pos he, if_pos he]
  refine ⟨?_, ?_⟩
  · simp [wmS, onew, saidF]
  · funext x
    unfold updO
    split
    · rename_i e; subst e; simp [wmS, onew]
    · rename_i e; simp [wmS, e]
theorem wmS_B (h1 : 1 ≤ n) (h7 : n ≤ 7) (h0 : 0 ≤ f) (hi : 0 ≤ i ∧ i ≤ 32) (k0 : 0 ≤ k) (k1 : k < n) : OdB (wmS n f i k) 0 := by
  have ho := onew_ok (n := n) (f := f) (me := k) h1 h0
  refine ⟨⟨ho.n1, ho.f0, ho.nx0, ho.far, ho.low, ho.nf, ho.stop, ho.past, ho.sm⟩, h7, ⟨k0, k1⟩, fun _ => Int.le_refl _, ?_, Int.le_refl _⟩
  show 0 ≤ (if k = n - 1 then i else 0) ∧ (if k = n - 1 then i else 0) ≤ (0 : Int) + 32
  split <;> omega
theorem wmS_W : ∀ k, (wmS n f i k).n = n ∧ (wmS n f i k).f = f ∧ (wmS n f i k).me = k ∧ (wmS n f i k).C = (fun _ _ => cnewS n f) ∧ (wmS n f i k).nx = fun _ => 0 := fun _ => ⟨rfl, rfl, rfl, rfl, rfl⟩
theorem wmS_out (h1 : 1 ≤ n) (h7 : n ≤ 7) (h0 : 0 ≤ f) (hi : 0 ≤ i ∧ i ≤ 32) : OutOK n f 0 (wmS n f i) (List.replicate 7 nilV) (List.replicate 7 []) :=
  OutOK.start h0 (fun k a b => wmS_B h1 h7 h0 hi a b) (fun _ _ _ => rfl)
def saidP (f n : Int) (ts : List Tx) (i t : Nat) : List Sn := saidQ f n ts i ++ ((rngF f n).take t).map fun j => ⟨j, saidF n (i : Int) (ts.getD i [])⟩
theorem saidP_start (f n : Int) (ts : List Tx) (i : Nat) : saidP f n ts i (f - f).toNat = saidQ f n ts i := by rw [show (f - f).toNat = 0 by omega]; simp [saidP]
theorem saidP_step {i t : Nat} (h : t < (n - f).toNat) : saidP f n ts i t ++ [⟨f + (t : Int), saidF n (i : Int) (ts.getD i [])⟩] = saidP f n ts i (t + 1) := by
  unfold saidP
  have hl : t < (rngF f n).length := by rw [rngF_len]; exact h
  rw [List.take_succ_eq_append_getElem hl, List.map_append, List.append_assoc]
  congr 2
  simp [rngF]
theorem saidP_row {i : Nat} : saidP f n ts i (n - f).toNat = saidQ f n ts (i + 1) := by
  unfold saidP
  rw [List.take_of_length_le (l := rngF f n) (by rw [rngF_len]; exact Nat.le_refl _), saidQ_succ]
theorem saidP_len {i t : Nat} (ht : t ≤ (n - f).toNat) : (saidP f n ts i t).length ≤ (i + 1) * (n - f).toNat := by
  unfold saidP
  rw [List.length_append, saidQ_len, List.length_map, List.length_take, rngF_len, Nat.succ_mul]
  omega
end
theorem orders_say {W : List Oo} {w : World} {j : Nat} {o : Oo} {c : Int} (h : ObjsV fpOd ΦD W w) (hj : W[j]? = some o) (t : Tx) (hB : OdB o.O c) (hc : c ≤ 100000) : Calls Try.prog 11 #[.pointer (some ⟨o.r, 0, none⟩), strV t] w (TurnsE w (.own (W.flatMap fpOd) (ObjsV fpOd ΦD W)) (fun v x' => ∃ fp' : List Nat, v = .tuple #[.agg (cFm (sayM o.O t)).toArray, .int .i64 (sayE o.O t)] ∧ x' = .own ((W.set j ⟨o.r, fp', sayO o.O t⟩).flatMap fpOd) (ObjsV fpOd ΦD (W.set j ⟨o.r, fp', sayO o.O t⟩)))) :=
  (ord_say o.r o.fp o.O t w (h.ordr hj) hB hc).mono fun e w' q => by
    obtain ⟨hj1, hj2⟩ := List.getElem?_eq_some_iff.1 hj
    obtain ⟨v, x', h1, h2, h3, h4, h5, h6, fp', rfl⟩ := q
    have T : TurnsE w (.own (fpOd W[j]) (ΦD W[j])) (fun u x' => ∃ a', (u = .tuple #[.agg (cFm (sayM o.O t)).toArray, .int .i64 (sayE o.O t)] ∧ a' = ⟨o.r, fp', sayO o.O t⟩) ∧ x' = .own (fpOd a') (ΦD a')) e w' := by
      rw [hj2]
      exact ⟨_, _, h1, h2, h3, h4, rfl, ⟨o.r, fp', sayO o.O t⟩, ⟨h6, rfl⟩, rfl⟩
    obtain ⟨u, x2, g1, g2, g3, g4, g5, g6⟩ := h.turn locD hj1 (Z := fun u _ => u = .tuple #[.agg (cFm (sayM o.O t)).toArray, .int .i64 (sayE o.O t)]) (Z' := fun u a' => u = .tuple #[.agg (cFm (sayM o.O t)).toArray, .int .i64 (sayE o.O t)] ∧ a' = ⟨o.r, fp', sayO o.O t⟩) T
    obtain ⟨a', ⟨hu, rfl⟩, rfl⟩ := g6
    exact ⟨u, _, g1, g2, g3, g4, rfl, fp', hu, rfl⟩
end Go.Proofs.Ytcobpabmmbcjcaa
namespace Go.Proofs.Ytcobpabmmbcjcaa
open Go.RowKit
set_option maxRecDepth 100000
set_option linter.unusedSimpArgs false
set_option linter.unusedVariables false
set_option maxRecDepth 100000 in
set_option maxHeartbeats 4000000 in
theorem crew_any (n f : Int) (w : World) (hz0 : bnewE n f = 0) :
    Calls Try.prog 20 #[.int .i64 n, .int .i64 f] w (MakesE w (fun v x => ∃ ps W, x = .own (fpE [.row 25 1 v ps.length (cP ps), .own (W.flatMap fpOd) (ObjsV fpOd ΦD W)]) (PkV [.row 25 1 v ps.length (cP ps), .own (W.flatMap fpOd) (ObjsV fpOd ΦD W)]) ∧ OsOK n ps W (fun k => onew n f k))) := by
  have hbn := bnew_ok hz0; refine enterF Try.func20 rfl 32 Try.ntmps20 [.int .i64 n, .int .i64 f] rfl [(0, .int .i64 n), (1, .int .i64 f)] rfl ?_; intro φ F; have M := Mm.start [] w; revert φ; refine srG ?_; refine asG ?_; refine nxG ?_; refine srG ?_; refine asG ?_; intro φ F; refine nx ?_; refine wp_seq ?_; revert φ; refine srG ?_; refine asG ?_; intro φ F; refine nx ?_; refine wp_block ?_; refine lp (σ := Int) (fun k φ' w' => ∃ vq : Value, ∃ ps : List Nat, ∃ Wq : List Oo, Fr φ' 32 [(0, .int .i64 n), (1, .int .i64 f), (5, vq), (6, .int .i64 k)] ∧ Mm [] w w' [.row 25 1 vq ps.length (cP ps), .own (Wq.flatMap fpOd) (ObjsV fpOd ΦD Wq)] ∧ (0 ≤ k) ∧ (k ≤ n) ∧ (OsOK k ps Wq (fun k => onew n f k))) (fun k => (n - k).toNat) (0) ⟨(.slice none 0 0), [], [], F.sel [0, 1, 5, 6] rfl, (M.newD.nilRow 25 1), Int.le_refl _, by omega, OsOK.zero⟩ ?_; clear F M; rintro k φ ω ⟨vq, ps, Wq, F, M, hp1_0, hp1_1, hp1_2⟩; refine wp_seq ?_; revert φ; refine srG ?_; refine mvG ?_; refine mvG ?_; refine lsG ?_; intro φ F; refine nx ?_; cases hs2 : (decide (k < n))
  · rw [hs2] at F; have hs2i := of_decide_eq_false hs2; refine wp_cond_false (F.ev rfl) ?_; refine wp_exit ?_; refine nxe ?_; refine nxe ?_; refine nxm ?_; refine nxq ?_; revert φ; refine srG ?_; refine mvG ?_; refine asG ?_; intro φ F; refine nx ?_; refine wp_ret ?_; refine rt_tmp F rfl rfl ?_; have hkn : k = n := by omega
    have hos : OsOK n ps Wq (fun k => onew n f k) := by have z := hp1_2; rw [hkn] at z; exact z
    have M2 := (M.pick [0, 1] (by decide) (X := [_, _]) rfl); exact M2.pkMakes (M2.pkv (by simp [Ent.base])) (PkV.loc _) ⟨ps, Wq, rfl, hos⟩
  · rw [hs2] at F; have hs2i := of_decide_eq_true hs2; refine wp_cond_true (F.ev rfl) ?_; refine wp_skip ?_; refine nxq ?_; refine wp_seq ?_; refine wp_block ?_; refine wp_seq ?_; have hpl := hp1_2.pl; revert φ; refine rlG ?_; refine mvG ?_; refine mvG ?_; refine mvG ?_; intro φ F; cases hs3 : (decide (onewE n f k = 0))
    · have hs3i := of_decide_eq_false hs3; refine sq_call F M (wt0 rfl) rfl en9 (evc (F.ev rfl) (evc (F.ev rfl) (evc (F.ev rfl) evn))) (ordnew_no n f k _ (of_decide_eq_false hs3)) rfl rfl ?_; clear F M; intro φ ω F M; revert φ; refine mvG ?_; refine exG ?_; refine exG ?_; refine asG ?_; refine asG ?_; intro φ F; refine nx ?_; refine wp_seq ?_; revert φ; refine srG ?_; refine mvG ?_; refine puG (fun _ F => pu_neqI rfl (F.ev rfl) (evk)) ?_; intro φ F; rw [show (!decide ((1 : Int) = 0)) = true from rfl] at F; revert φ; refine mvG ?_; refine skG ?_; refine skG ?_; refine pkT ?_; intro φ F; refine nx ?_; refine wp_cond_true (F.ev rfl) ?_; revert φ; refine srG ?_; refine asG ?_; intro φ F; refine nx ?_; refine wp_ret ?_; refine nxr ?_; refine nxrb ?_; refine nxr ?_; refine nxr ?_; refine nxrb ?_; refine nxr ?_; refine rt_tmp F rfl rfl ?_; exfalso; have z := onew_yes (me := k) hz0 (by omega) (by omega); omega
    · have hs3i := of_decide_eq_true hs3; refine sq_callO (Z := (fun v x => ∃ r fp, v = .tuple #[.pointer (some ⟨r, 0, none⟩), .int .i64 0] ∧ x = .own fp (OrdV r fp (onew n f k)))) F M (wt0 rfl) rfl en9 (evc (F.ev rfl) (evc (F.ev rfl) (evc (F.ev rfl) evn))) (ord_new n f k _ (of_decide_eq_true hs3)) rfl rfl ?_; clear F M; rintro φ ω _ _ ⟨op5, of5, rfl, rfl⟩ F M; replace M : Mm [] w ω [.own of5 (OrdV op5 of5 (onew n f k)), .row 25 1 vq ps.length (cP ps), .own (Wq.flatMap fpOd) (ObjsV fpOd ΦD Wq)] := M; revert φ; refine mvG ?_; refine exG ?_; refine exG ?_; refine asG ?_; refine asG ?_; intro φ F; refine nx ?_; refine wp_seq ?_; revert φ; refine srG ?_; refine mvG ?_; refine puG (fun _ F => pu_neqI rfl (F.ev rfl) (evk)) ?_; intro φ F; rw [show (!decide ((0 : Int) = 0)) = false from rfl] at F; revert φ; refine mvG ?_; refine mvG ?_; refine puG (fun _ F => pu_eqlP rfl (F.ev rfl) (evk) Try.underlying25) ?_; refine pkF ?_; intro φ F; refine nx ?_; refine wp_cond_false (F.ev rfl) ?_; refine wp_skip ?_; refine nxq ?_; revert φ; refine rlG ?_; refine mvG ?_; refine mvG ?_; intro φ F; refine sq_bs (e := 25) (m := 1) (k := 1) (parts := #[]) (cs := #[.pointer (some ⟨op5, 0, none⟩)]) F M (wt0 rfl) (bs47_1 rfl (F.ev rfl) rfl _) (by omega) rfl rfl rfl ?_; clear F M; intro φ ω g1 F M; replace M : Mm [] w ω [.row 25 1 (.slice (some ⟨g1, 0, none⟩) 1 1) 1 (cP [op5]), .own of5 (OrdV op5 of5 (onew n f k)), .row 25 1 vq ps.length (cP ps), .own (Wq.flatMap fpOd) (ObjsV fpOd ΦD Wq)] := M; refine sq_app F M (wt0 rfl) rfl sl47.1 el25 (F.ev rfl) (i := 2) rfl (F.ev rfl) (M.rv (i := 0) rfl) (cP_ones _) (by first | omega | (simp only [List.length_append, List.length_cons, List.length_nil, List.length_singleton]; omega)) (by omega) rfl rfl ?_; clear F M; intro φ ω v1 F M; replace M : Mm [] w ω [.row 25 1 (.slice (some ⟨g1, 0, none⟩) 1 1) 1 (cP [op5]), .own of5 (OrdV op5 of5 (onew n f k)), .row 25 1 v1 (ps.length + 1) ((cP ps) ++ (cP [op5])), .own (Wq.flatMap fpOd) (ObjsV fpOd ΦD Wq)] := M; rw [← cP_app, show ps.length + 1 = (ps ++ [op5]).length from by first | exact (B32.h _).symm | rfl | (simp; done) | (simp; omega)] at M; revert φ; refine asG ?_; intro φ F; refine wpList_nil ?_; refine nxb ?_; refine nxq ?_; revert φ; refine rlG ?_; refine mvG ?_; refine adG ?_; refine asG ?_; intro φ F; refine wpList_nil ?_; exact ⟨k + 1, by omega, v1, (ps ++ [op5]), (Wq ++ [⟨op5, of5, onew n f k⟩]), F.sel [0, 1, 5, 6] rfl, (Mm.pick (Mm.pushD (M.pick [1, 3, 2] (by decide) (X := [_, _, _]) rfl)) [1, 0] (by decide) rfl), by omega, by omega, (hp1_2.push op5 of5)⟩
end Go.Proofs.Ytcobpabmmbcjcaa
namespace Go.Proofs.Ytcobpabmmbcjcaa
open Go.RowKit
set_option maxRecDepth 100000
set_option linter.unusedSimpArgs false
set_option linter.unusedVariables false
set_option maxRecDepth 100000 in
set_option maxHeartbeats 4000000 in
theorem of_any (lv : Value) (L : List Fm) (o : Int) (w : World) (hl : RdV w 38 lv L.length (cF L)) (hL : L.length ≤ 100000) :
    Calls Try.prog 22 #[lv, .int .i64 o] w (fun e w' => ∃ v, e = .returned v ∧ Below w.heap.size w w' ∧ w'.ownsRow w.heap.size 34 38 v (ofL L o).length (cF (ofL L o))) := by
  refine enterF Try.func22 rfl 28 Try.ntmps22 [lv, .int .i64 o] rfl [(0, lv), (1, .int .i64 o)] rfl ?_; intro φ F; have M := Mm.start [] w; replace M := M.addArg (hl) (fun h_ => by first | (simp; done) | assumption | exact d3 h_ | (simp_all; done)); revert φ; refine srG ?_; refine asG ?_; refine nxG ?_; refine srG ?_; refine asG ?_; intro φ F; refine nx ?_; refine wp_seq ?_; revert φ; refine srG ?_; refine asG ?_; intro φ F; refine nx ?_; refine wp_block ?_; refine lp (σ := Int) (fun i φ' w' => ∃ vq : Value, Fr φ' 28 [(0, lv), (1, .int .i64 o), (5, vq), (6, .int .i64 i)] ∧ Mm [] w w' [.row 34 38 vq ((ofL (L.take i.toNat) o).length) (cF (ofL (L.take i.toNat) o)), .arg 38 lv L.length (cF L)] ∧ (0 ≤ i) ∧ (i ≤ (L.length : Int))) (fun i => ((L.length : Int) - i).toNat) (0) ⟨(.slice none 0 0), F.sel [0, 1, 5, 6] rfl, (by have M9 := M.nilRow 34 38; rw [of_zero]; exact M9), Int.le_refl _, by omega⟩ ?_; clear F M; rintro i φ ω ⟨vq, F, M, hp1_0, hp1_1⟩; refine wp_seq ?_; revert φ; refine srG ?_; refine mvG ?_; refine mvG ?_; refine puG (fun _ F => pu_len rfl (F.ev rfl) sl23 (M.av (i := 1) rfl)) ?_; refine lsG ?_; intro φ F; refine nx ?_; cases hs2 : (decide (i < ((L.length : Nat) : Int)))
  · rw [hs2] at F; have hs2i := of_decide_eq_false hs2; refine wp_cond_false (F.ev rfl) ?_; refine wp_exit ?_; refine nxe ?_; refine nxe ?_; refine nxm ?_; refine nxq ?_; revert φ; refine srG ?_; refine mvG ?_; refine asG ?_; intro φ F; refine nx ?_; refine wp_ret ?_; refine rt_tmp F rfl rfl ?_; rw [show L.take i.toNat = L from List.take_of_length_le (by omega)] at M; exact ⟨_, rfl, M.bel, M.owB (i := 0) rfl⟩
  · rw [hs2] at F; have hs2i := of_decide_eq_true hs2; refine wp_cond_true (F.ev rfl) ?_; refine wp_skip ?_; refine nxq ?_; refine wp_seq ?_; refine wp_block ?_; revert φ; refine srG ?_; refine mvG ?_; refine mvG ?_; refine puG (fun _ F => pu_ix rfl (F.ev rfl) (F.ev rfl) sl23 (M.av (i := 1) rfl) (by omega) (by omega)) ?_; refine faG fo34_3 ?_; refine rdG (fun _ F => ld_elP1 (q := 3) (k := i.toNat * 38) rfl (F.ev rfl) one3 (fun _ e => e ▸ (M.av (i := 1) rfl)) (by omega) (cF_at (by first | omega | (simp; done) | (simp; omega))) rfl) ?_; refine mvG ?_; refine eqG ?_; intro φ F; refine nx ?_; cases hs3 : (decide ((atF L i.toNat).org = o))
    · rw [hs3] at F; have hs3i := of_decide_eq_false hs3; refine wp_cond_false (F.ev rfl) ?_; refine wp_skip ?_; refine nxb ?_; refine nxq ?_; revert φ; refine rlG ?_; refine mvG ?_; refine adG ?_; refine asG ?_; intro φ F; refine wpList_nil ?_; exact ⟨i + 1, by omega, vq, F.sel [0, 1, 5, 6] rfl, (by have M9 := (M.pick [0, 1] (by decide) (X := [_, _]) rfl); rw [of_no hp1_0 (by omega) hs3i]; exact M9), by omega, by omega⟩
    · rw [hs3] at F; have hs3i := of_decide_eq_true hs3; refine wp_cond_true (F.ev rfl) ?_; have hle := of_le L o i.toNat; revert φ; refine rlG ?_; refine mvG ?_; refine mvG ?_; refine mvG ?_; refine puG (fun _ F => pu_ix rfl (F.ev rfl) (F.ev rfl) sl23 (M.av (i := 1) rfl) (by omega) (by omega)) ?_; refine rdG (fun _ F => ld_el rfl (F.ev rfl) agg34 (fun _ e => e ▸ (M.av (i := 1) rfl)) (by omega) (cF_at (by first | omega | (simp; done) | (simp; omega))) rfl) ?_; intro φ F; refine sq_bs (e := 34) (m := 38) (k := 1) (parts := #[]) (cs := #[.int .i64 ((atF L i.toNat).kind), .int .i64 ((atF L i.toNat).frm), .int .i64 ((atF L i.toNat).dst), .int .i64 ((atF L i.toNat).org), .int .i64 ((atF L i.toNat).seq), strV ((atF L i.toNat).text), .int .u8 (u8 (at32 ((atF L i.toNat).tag) 0)), .int .u8 (u8 (at32 ((atF L i.toNat).tag) 1)), .int .u8 (u8 (at32 ((atF L i.toNat).tag) 2)), .int .u8 (u8 (at32 ((atF L i.toNat).tag) 3)), .int .u8 (u8 (at32 ((atF L i.toNat).tag) 4)), .int .u8 (u8 (at32 ((atF L i.toNat).tag) 5)), .int .u8 (u8 (at32 ((atF L i.toNat).tag) 6)), .int .u8 (u8 (at32 ((atF L i.toNat).tag) 7)), .int .u8 (u8 (at32 ((atF L i.toNat).tag) 8)), .int .u8 (u8 (at32 ((atF L i.toNat).tag) 9)), .int .u8 (u8 (at32 ((atF L i.toNat).tag) 10)), .int .u8 (u8 (at32 ((atF L i.toNat).tag) 11)), .int .u8 (u8 (at32 ((atF L i.toNat).tag) 12)), .int .u8 (u8 (at32 ((atF L i.toNat).tag) 13)), .int .u8 (u8 (at32 ((atF L i.toNat).tag) 14)), .int .u8 (u8 (at32 ((atF L i.toNat).tag) 15)), .int .u8 (u8 (at32 ((atF L i.toNat).tag) 16)), .int .u8 (u8 (at32 ((atF L i.toNat).tag) 17)), .int .u8 (u8 (at32 ((atF L i.toNat).tag) 18)), .int .u8 (u8 (at32 ((atF L i.toNat).tag) 19)), .int .u8 (u8 (at32 ((atF L i.toNat).tag) 20)), .int .u8 (u8 (at32 ((atF L i.toNat).tag) 21)), .int .u8 (u8 (at32 ((atF L i.toNat).tag) 22)), .int .u8 (u8 (at32 ((atF L i.toNat).tag) 23)), .int .u8 (u8 (at32 ((atF L i.toNat).tag) 24)), .int .u8 (u8 (at32 ((atF L i.toNat).tag) 25)), .int .u8 (u8 (at32 ((atF L i.toNat).tag) 26)), .int .u8 (u8 (at32 ((atF L i.toNat).tag) 27)), .int .u8 (u8 (at32 ((atF L i.toNat).tag) 28)), .int .u8 (u8 (at32 ((atF L i.toNat).tag) 29)), .int .u8 (u8 (at32 ((atF L i.toNat).tag) 30)), .int .u8 (u8 (at32 ((atF L i.toNat).tag) 31))]) F M (wt0 rfl) (bs23_1 rfl (F.ev rfl) _) (by omega) rfl rfl rfl ?_; clear F M; intro φ ω g1 F M; replace M : Mm [] w ω [.row 34 38 (.slice (some ⟨g1, 0, none⟩) 1 1) 1 (cF [(atF L i.toNat)]), .row 34 38 vq ((ofL (L.take i.toNat) o).length) (cF (ofL (L.take i.toNat) o)), .arg 38 lv L.length (cF L)] := M; refine sq_app F M (wt0 rfl) rfl sl23.1 el34 (F.ev rfl) (i := 1) rfl (F.ev rfl) (M.rv (i := 0) rfl) (cF_ones _) (by first | omega | (simp only [List.length_append, List.length_cons, List.length_nil, List.length_singleton]; omega)) (by omega) rfl rfl ?_; clear F M; intro φ ω v1 F M
      replace M : Mm [] w ω [.row 34 38 (.slice (some ⟨g1, 0, none⟩) 1 1) 1 (cF [(atF L i.toNat)]), .row 34 38 v1 (((ofL (L.take i.toNat) o).length) + 1) ((cF (ofL (L.take i.toNat) o)) ++ (cF [(atF L i.toNat)])), .arg 38 lv L.length (cF L)] := M; rw [← cF_app, show ((ofL (L.take i.toNat) o).length) + 1 = ((ofL (L.take i.toNat) o) ++ [(atF L i.toNat)]).length from by first | exact (B32.h _).symm | rfl | (simp; done) | (simp; omega)] at M; revert φ; refine asG ?_; intro φ F; refine wpList_nil ?_; refine nxb ?_; refine nxq ?_; revert φ; refine rlG ?_; refine mvG ?_; refine adG ?_; refine asG ?_; intro φ F; refine wpList_nil ?_; exact ⟨i + 1, by omega, v1, F.sel [0, 1, 5, 6] rfl, (by have M9 := (M.pick [1, 2] (by decide) (X := [_, _]) rfl); rw [of_yes hp1_0 (by omega) hs3i]; exact M9), by omega, by omega⟩
end Go.Proofs.Ytcobpabmmbcjcaa
namespace Go.Proofs.Ytcobpabmmbcjcaa
open Go.RowKit
set_option maxRecDepth 100000
set_option linter.unusedSimpArgs false
set_option linter.unusedVariables false
set_option maxRecDepth 100000 in
set_option maxHeartbeats 4000000 in
theorem orderWindow_walk (seq kind : Int) (hsr : -9223372036854775808 ≤ seq ∧ seq ≤ 9223372036854775807) (hkr : -9223372036854775808 ≤ kind ∧ kind ≤ 9223372036854775807) (w : World) :
    Calls Try.prog 7 #[.int .i64 seq, .int .i64 kind] w (fun e w' => e = .returned (.bool true) ∧ Below w.heap.size w w') := by
  refine enterF Try.func7 rfl 63 Try.ntmps7 [.int .i64 seq, .int .i64 kind] rfl [(0, .int .i64 seq), (1, .int .i64 kind)] rfl ?_; intro φ F; have M := Mm.start [] w; revert φ; refine srG ?_; refine asG ?_; intro φ F; refine nx ?_; refine wp_seq ?_; refine wp_region_lit ?_; refine sq_call F M (wt0 rfl) rfl en8 evn (awake_any _) rfl rfl ?_; clear F M; intro φ ω F M; revert φ; refine asG ?_; intro φ F; refine nx ?_; refine wp_seq ?_; refine wp_region_lit ?_; refine sq_callO (Z := (fun v x => ∃ r fp, v = .tuple #[.pointer (some ⟨r, 0, none⟩), .int .i64 0] ∧ x = .own fp (OrdV r fp (onew 4 1 3)))) F M (wt0 rfl) rfl en9 (evc (evk) (evc (evk) (evc (evk) evn))) (ord_new 4 1 3 _ (of_decide_eq_true (show decide (onewE 4 1 3 = 0) = true from by decide +kernel))) rfl rfl ?_; clear F M; rintro φ ω _ _ ⟨op2, of2, rfl, rfl⟩ F M; replace M : Mm [] w ω [.own of2 (OrdV op2 of2 (onew 4 1 3))] := M; revert φ; refine mvG ?_; refine exG ?_; refine exG ?_; refine asG ?_; refine asG ?_; intro φ F; refine nx ?_; refine wp_seq ?_; revert φ; refine srG ?_; refine mvG ?_; refine puG (fun _ F => pu_eqlP rfl (F.ev rfl) (evk) Try.underlying25) ?_; refine mvG ?_; refine mvG ?_; refine puG (fun _ F => pu_neqI rfl (F.ev rfl) (evk)) ?_; intro φ F; rw [show (!decide ((0 : Int) = 0)) = false from rfl] at F; revert φ; refine pkF ?_; intro φ F; refine nx ?_; refine wp_cond_false (F.ev rfl) ?_; refine wp_skip ?_; refine nxq ?_; revert φ; refine srG ?_; refine mvG ?_; refine mvG ?_; refine mvG ?_; refine puG (fun _ F => bu34_0_1_3_4_5 rfl (F.ev rfl) (evk) (evk) (F.ev rfl) (evk) rfl) ?_; intro φ F; replace F := F.re (v' := .agg (List.toArray (cFm (Fm.mk kind 1 0 1 seq ([120] : List UInt8) B32.zero)))) rfl; refine sq_callTM (Z := (fun x' => ∃ fp', x' = .own fp' (OrdV op2 fp' (takeO (onew 4 1 3) (Fm.mk kind 1 0 1 seq ([120] : List UInt8) B32.zero))))) F M (wt0 rfl) rfl en13 (evc (F.ev rfl) (evc (F.ev rfl) evn)) (i := 0) rfl (ord_take op2 of2 (onew 4 1 3) (Fm.mk kind 1 0 1 seq ([120] : List UInt8) B32.zero) _ (M.pv (i := 0) rfl) (onew_B' (of_decide_eq_true (show decide (onewE 4 1 3 = 0) = true from by decide +kernel))) (by omega) (by first | omega | assumption | exact seq_at (by assumption) | (dsimp only; omega))) rfl rfl ?_; clear F M; rintro φ ω v2 v3 _ ⟨ov1, rfl⟩ F M; replace M : Mm [] w ω [.row 34 38 v2 ((tellO (onew 4 1 3) (Fm.mk kind 1 0 1 seq ([120] : List UInt8) B32.zero)).length) (cF (tellO (onew 4 1 3) (Fm.mk kind 1 0 1 seq ([120] : List UInt8) B32.zero))), .row 34 38 v3 ((overO (onew 4 1 3) (Fm.mk kind 1 0 1 seq ([120] : List UInt8) B32.zero)).length) (cF (overO (onew 4 1 3) (Fm.mk kind 1 0 1 seq ([120] : List UInt8) B32.zero))), .own ov1 (OrdV op2 ov1 (takeO (onew 4 1 3) (Fm.mk kind 1 0 1 seq ([120] : List UInt8) B32.zero)))] := M; revert φ; refine mvG ?_; refine exG ?_; refine exG ?_; refine asG ?_; refine asG ?_; intro φ F; refine nx ?_; refine wp_seq ?_
  obtain ⟨hw1, hw2, hw3⟩ := win_facts seq kind; revert φ; refine rlG ?_; refine mvG ?_; refine geG ?_; refine mvG ?_; intro φ F; cases hs1 : (decide (0 ≤ seq))
  · rw [hs1] at F; have hs1i := of_decide_eq_false hs1; revert φ; refine skG ?_; refine skG ?_; refine pkF ?_; refine mvG ?_; refine skG ?_; refine skG ?_; refine pkF ?_; refine asG ?_; refine nxG ?_; refine srG ?_; refine mvG ?_; refine mvG ?_; refine mvG ?_; refine puG (fun _ F => pu_len rfl (F.ev rfl) sl23 (M.rv (i := 1) rfl)) ?_; refine eqG ?_; refine pkT ?_; refine mvG ?_; intro φ F; cases hs2 : (decide ((((overO (onew 4 1 3) (Fm.mk kind 1 0 1 seq ([120] : List UInt8) B32.zero)).length : Nat) : Int) = 0))
    · rw [hs2] at F; have hs2i := of_decide_eq_false hs2; revert φ; refine skG ?_; refine skG ?_; refine skG ?_; refine skG ?_; refine skG ?_; refine pkF ?_; refine mvG ?_; refine skG ?_; refine skG ?_; refine skG ?_; refine pkF ?_; refine mvG ?_; refine skG ?_; refine skG ?_; refine skG ?_; refine pkF ?_; refine asG ?_; intro φ F; refine nx ?_; refine wp_ret ?_; refine rt_tmp F rfl rfl ?_; exfalso; clear F M; first | omega | (simp_all; done) | (simp_all; omega)
    · rw [hs2] at F; have hs2i := of_decide_eq_true hs2; revert φ; refine mvG ?_; refine puG (fun _ F => pu_len rfl (F.ev rfl) sl23 (M.rv (i := 0) rfl)) ?_; refine eqG ?_; refine mvG ?_; intro φ F; cases hs3 : (decide ((((tellO (onew 4 1 3) (Fm.mk kind 1 0 1 seq ([120] : List UInt8) B32.zero)).length : Nat) : Int) = 1))
      · rw [hs3] at F; have hs3i := of_decide_eq_false hs3; revert φ; refine puG (fun _ F => pu_eqlB rfl (F.ev rfl) (F.ev rfl) Try.underlying4) ?_; intro φ F; rw [show (false == false) = true from rfl] at F; revert φ; refine pkT ?_; refine mvG ?_; refine mvG ?_; refine puG (fun _ F => pu_len rfl (F.ev rfl) sl23 (M.rv (i := 0) rfl)) ?_; refine leG ?_; refine pkT ?_; refine mvG ?_; intro φ F; cases hs4 : (decide ((((tellO (onew 4 1 3) (Fm.mk kind 1 0 1 seq ([120] : List UInt8) B32.zero)).length : Nat) : Int) ≤ 1))
        · rw [hs4] at F; have hs4i := of_decide_eq_false hs4; revert φ; refine skG ?_; refine skG ?_; refine skG ?_; refine pkF ?_; refine asG ?_; intro φ F; refine nx ?_; refine wp_ret ?_; refine rt_tmp F rfl rfl ?_; exfalso; clear F M; first | omega | (simp_all; done) | (simp_all; omega)
        · rw [hs4] at F; have hs4i := of_decide_eq_true hs4; revert φ; refine mvG ?_; intro φ F; refine sq_call F M (wt1 F rfl rfl rfl rfl rfl) rfl en16 (evc (F.ev rfl) (evc (evk) evn)) (ord_next op2 ov1 (takeO (onew 4 1 3) (Fm.mk kind 1 0 1 seq ([120] : List UInt8) B32.zero)) 1 _ (M.pv (i := 2) rfl)) rfl rfl ?_; clear F M; intro φ ω F M; revert φ; refine eqG ?_; refine pkT ?_; refine asG ?_; intro φ F; refine nx ?_; cases hs5 : (decide ((nextD (takeO (onew 4 1 3) (Fm.mk kind 1 0 1 seq ([120] : List UInt8) B32.zero)) 1) = 0))
          · rw [hs5] at F; have hs5i := of_decide_eq_false hs5; refine wp_ret ?_; refine rt_tmp F rfl rfl ?_; exfalso; clear F M; first | omega | (simp_all; done) | (simp_all; omega)
          · rw [hs5] at F; have hs5i := of_decide_eq_true hs5; refine wp_ret ?_; refine rt_tmp F rfl rfl ?_; exact ⟨rfl, M.bel⟩
      · rw [hs3] at F; have hs3i := of_decide_eq_true hs3; revert φ; refine puG (fun _ F => pu_eqlB rfl (F.ev rfl) (F.ev rfl) Try.underlying4) ?_; intro φ F; rw [show (true == false) = false from rfl] at F; revert φ; refine pkT ?_; refine mvG ?_; refine skG ?_; refine skG ?_; refine skG ?_; refine pkF ?_; refine mvG ?_; refine skG ?_; refine skG ?_; refine skG ?_; refine pkF ?_; refine asG ?_; intro φ F; refine nx ?_; refine wp_ret ?_; refine rt_tmp F rfl rfl ?_; exfalso; clear F M; first | omega | (simp_all; done) | (simp_all; omega)
  · rw [hs1] at F; have hs1i := of_decide_eq_true hs1; revert φ; refine mvG ?_; refine lsG ?_; refine pkT ?_; refine mvG ?_; intro φ F; cases hs6 : (decide (seq < 32))
    · rw [hs6] at F; have hs6i := of_decide_eq_false hs6; revert φ; refine skG ?_; refine skG ?_; refine pkF ?_; refine asG ?_; refine nxG ?_; refine srG ?_; refine mvG ?_; refine mvG ?_; refine mvG ?_; refine puG (fun _ F => pu_len rfl (F.ev rfl) sl23 (M.rv (i := 1) rfl)) ?_; refine eqG ?_; refine pkT ?_; refine mvG ?_; intro φ F; cases hs7 : (decide ((((overO (onew 4 1 3) (Fm.mk kind 1 0 1 seq ([120] : List UInt8) B32.zero)).length : Nat) : Int) = 0))
      · rw [hs7] at F; have hs7i := of_decide_eq_false hs7; revert φ; refine skG ?_; refine skG ?_; refine skG ?_; refine skG ?_; refine skG ?_; refine pkF ?_; refine mvG ?_; refine skG ?_; refine skG ?_; refine skG ?_; refine pkF ?_; refine mvG ?_; refine skG ?_; refine skG ?_; refine skG ?_; refine pkF ?_; refine asG ?_; intro φ F; refine nx ?_; refine wp_ret ?_; refine rt_tmp F rfl rfl ?_; exfalso; clear F M; first | omega | (simp_all; done) | (simp_all; omega)
      · rw [hs7] at F; have hs7i := of_decide_eq_true hs7; revert φ; refine mvG ?_; refine puG (fun _ F => pu_len rfl (F.ev rfl) sl23 (M.rv (i := 0) rfl)) ?_; refine eqG ?_; refine mvG ?_; intro φ F; cases hs8 : (decide ((((tellO (onew 4 1 3) (Fm.mk kind 1 0 1 seq ([120] : List UInt8) B32.zero)).length : Nat) : Int) = 1))
        · rw [hs8] at F; have hs8i := of_decide_eq_false hs8; revert φ; refine puG (fun _ F => pu_eqlB rfl (F.ev rfl) (F.ev rfl) Try.underlying4) ?_; intro φ F; rw [show (false == false) = true from rfl] at F; revert φ; refine pkT ?_; refine mvG ?_; refine mvG ?_; refine puG (fun _ F => pu_len rfl (F.ev rfl) sl23 (M.rv (i := 0) rfl)) ?_; refine leG ?_; refine pkT ?_; refine mvG ?_; intro φ F; cases hs9 : (decide ((((tellO (onew 4 1 3) (Fm.mk kind 1 0 1 seq ([120] : List UInt8) B32.zero)).length : Nat) : Int) ≤ 1))
          · rw [hs9] at F; have hs9i := of_decide_eq_false hs9; revert φ; refine skG ?_; refine skG ?_; refine skG ?_; refine pkF ?_; refine asG ?_; intro φ F; refine nx ?_; refine wp_ret ?_; refine rt_tmp F rfl rfl ?_; exfalso; clear F M; first | omega | (simp_all; done) | (simp_all; omega)
          · rw [hs9] at F; have hs9i := of_decide_eq_true hs9; revert φ; refine mvG ?_; intro φ F; refine sq_call F M (wt1 F rfl rfl rfl rfl rfl) rfl en16 (evc (F.ev rfl) (evc (evk) evn)) (ord_next op2 ov1 (takeO (onew 4 1 3) (Fm.mk kind 1 0 1 seq ([120] : List UInt8) B32.zero)) 1 _ (M.pv (i := 2) rfl)) rfl rfl ?_; clear F M; intro φ ω F M; revert φ; refine eqG ?_; refine pkT ?_; refine asG ?_; intro φ F; refine nx ?_; cases hs10 : (decide ((nextD (takeO (onew 4 1 3) (Fm.mk kind 1 0 1 seq ([120] : List UInt8) B32.zero)) 1) = 0))
            · rw [hs10] at F; have hs10i := of_decide_eq_false hs10; refine wp_ret ?_; refine rt_tmp F rfl rfl ?_; exfalso; clear F M; first | omega | (simp_all; done) | (simp_all; omega)
            · rw [hs10] at F; have hs10i := of_decide_eq_true hs10; refine wp_ret ?_; refine rt_tmp F rfl rfl ?_; exact ⟨rfl, M.bel⟩
        · rw [hs8] at F; have hs8i := of_decide_eq_true hs8; revert φ; refine puG (fun _ F => pu_eqlB rfl (F.ev rfl) (F.ev rfl) Try.underlying4) ?_; intro φ F; rw [show (true == false) = false from rfl] at F; revert φ; refine pkT ?_; refine mvG ?_; refine skG ?_; refine skG ?_; refine skG ?_; refine pkF ?_; refine mvG ?_; refine skG ?_; refine skG ?_; refine skG ?_; refine pkF ?_; refine asG ?_; intro φ F; refine nx ?_; refine wp_ret ?_; refine rt_tmp F rfl rfl ?_; exfalso; clear F M; first | omega | (simp_all; done) | (simp_all; omega)
    · rw [hs6] at F; have hs6i := of_decide_eq_true hs6; revert φ; refine mvG ?_; refine eqG ?_; refine pkT ?_; refine asG ?_; refine nxG ?_; refine srG ?_; refine mvG ?_; refine mvG ?_; refine mvG ?_; refine puG (fun _ F => pu_len rfl (F.ev rfl) sl23 (M.rv (i := 1) rfl)) ?_; refine eqG ?_; refine pkT ?_; refine mvG ?_; intro φ F; cases hs11 : (decide ((((overO (onew 4 1 3) (Fm.mk kind 1 0 1 seq ([120] : List UInt8) B32.zero)).length : Nat) : Int) = 0))
      · rw [hs11] at F; have hs11i := of_decide_eq_false hs11; revert φ; refine skG ?_; refine skG ?_; refine skG ?_; refine skG ?_; refine skG ?_; refine pkF ?_; refine mvG ?_; refine skG ?_; refine skG ?_; refine skG ?_; refine pkF ?_; refine mvG ?_; refine skG ?_; refine skG ?_; refine skG ?_; refine pkF ?_; refine asG ?_; intro φ F; refine nx ?_; refine wp_ret ?_; refine rt_tmp F rfl rfl ?_; exfalso; clear F M; first | omega | (simp_all; done) | (simp_all; omega)
      · rw [hs11] at F; have hs11i := of_decide_eq_true hs11; revert φ; refine mvG ?_; refine puG (fun _ F => pu_len rfl (F.ev rfl) sl23 (M.rv (i := 0) rfl)) ?_; refine eqG ?_; refine mvG ?_; intro φ F; cases hs12 : (decide ((((tellO (onew 4 1 3) (Fm.mk kind 1 0 1 seq ([120] : List UInt8) B32.zero)).length : Nat) : Int) = 1))
        · rw [hs12] at F; have hs12i := of_decide_eq_false hs12; cases hs13 : (decide (kind = 1))
          · rw [hs13] at F; have hs13i := of_decide_eq_false hs13; revert φ; refine puG (fun _ F => pu_eqlB rfl (F.ev rfl) (F.ev rfl) Try.underlying4) ?_; intro φ F; rw [show (false == false) = true from rfl] at F; revert φ; refine pkT ?_; refine mvG ?_; refine mvG ?_; refine puG (fun _ F => pu_len rfl (F.ev rfl) sl23 (M.rv (i := 0) rfl)) ?_; refine leG ?_; refine pkT ?_; refine mvG ?_; intro φ F; cases hs14 : (decide ((((tellO (onew 4 1 3) (Fm.mk kind 1 0 1 seq ([120] : List UInt8) B32.zero)).length : Nat) : Int) ≤ 1))
            · rw [hs14] at F; have hs14i := of_decide_eq_false hs14; revert φ; refine skG ?_; refine skG ?_; refine skG ?_; refine pkF ?_; refine asG ?_; intro φ F; refine nx ?_; refine wp_ret ?_; refine rt_tmp F rfl rfl ?_; exfalso; clear F M; first | omega | (simp_all; done) | (simp_all; omega)
            · rw [hs14] at F; have hs14i := of_decide_eq_true hs14; revert φ; refine mvG ?_; intro φ F; refine sq_call F M (wt1 F rfl rfl rfl rfl rfl) rfl en16 (evc (F.ev rfl) (evc (evk) evn)) (ord_next op2 ov1 (takeO (onew 4 1 3) (Fm.mk kind 1 0 1 seq ([120] : List UInt8) B32.zero)) 1 _ (M.pv (i := 2) rfl)) rfl rfl ?_; clear F M; intro φ ω F M; revert φ; refine eqG ?_; refine pkT ?_; refine asG ?_; intro φ F; refine nx ?_; cases hs15 : (decide ((nextD (takeO (onew 4 1 3) (Fm.mk kind 1 0 1 seq ([120] : List UInt8) B32.zero)) 1) = 0))
              · rw [hs15] at F; have hs15i := of_decide_eq_false hs15; refine wp_ret ?_; refine rt_tmp F rfl rfl ?_; exfalso; clear F M; first | omega | (simp_all; done) | (simp_all; omega)
              · rw [hs15] at F; have hs15i := of_decide_eq_true hs15; refine wp_ret ?_; refine rt_tmp F rfl rfl ?_; exact ⟨rfl, M.bel⟩
          · rw [hs13] at F; have hs13i := of_decide_eq_true hs13; revert φ; refine puG (fun _ F => pu_eqlB rfl (F.ev rfl) (F.ev rfl) Try.underlying4) ?_; intro φ F; rw [show (false == true) = false from rfl] at F; revert φ; refine pkT ?_; refine mvG ?_; refine skG ?_; refine skG ?_; refine skG ?_; refine pkF ?_; refine mvG ?_; refine skG ?_; refine skG ?_; refine skG ?_; refine pkF ?_; refine asG ?_; intro φ F; refine nx ?_; refine wp_ret ?_; refine rt_tmp F rfl rfl ?_; exfalso; clear F M; first | omega | (simp_all; done) | (simp_all; omega)
        · rw [hs12] at F; have hs12i := of_decide_eq_true hs12; cases hs16 : (decide (kind = 1))
          · rw [hs16] at F; have hs16i := of_decide_eq_false hs16; revert φ; refine puG (fun _ F => pu_eqlB rfl (F.ev rfl) (F.ev rfl) Try.underlying4) ?_; intro φ F; rw [show (true == false) = false from rfl] at F; revert φ; refine pkT ?_; refine mvG ?_; refine skG ?_; refine skG ?_; refine skG ?_; refine pkF ?_; refine mvG ?_; refine skG ?_; refine skG ?_; refine skG ?_; refine pkF ?_; refine asG ?_; intro φ F; refine nx ?_; refine wp_ret ?_; refine rt_tmp F rfl rfl ?_; exfalso; clear F M; first | omega | (simp_all; done) | (simp_all; omega)
          · rw [hs16] at F; have hs16i := of_decide_eq_true hs16; revert φ; refine puG (fun _ F => pu_eqlB rfl (F.ev rfl) (F.ev rfl) Try.underlying4) ?_; intro φ F; rw [show (true == true) = true from rfl] at F; revert φ; refine pkT ?_; refine mvG ?_; refine mvG ?_; refine puG (fun _ F => pu_len rfl (F.ev rfl) sl23 (M.rv (i := 0) rfl)) ?_; refine leG ?_; refine pkT ?_; refine mvG ?_; intro φ F; cases hs17 : (decide ((((tellO (onew 4 1 3) (Fm.mk kind 1 0 1 seq ([120] : List UInt8) B32.zero)).length : Nat) : Int) ≤ 1))
            · rw [hs17] at F; have hs17i := of_decide_eq_false hs17; revert φ; refine skG ?_; refine skG ?_; refine skG ?_; refine pkF ?_; refine asG ?_; intro φ F; refine nx ?_; refine wp_ret ?_; refine rt_tmp F rfl rfl ?_; exfalso; clear F M; first | omega | (simp_all; done) | (simp_all; omega)
            · rw [hs17] at F; have hs17i := of_decide_eq_true hs17; revert φ; refine mvG ?_; intro φ F; refine sq_call F M (wt1 F rfl rfl rfl rfl rfl) rfl en16 (evc (F.ev rfl) (evc (evk) evn)) (ord_next op2 ov1 (takeO (onew 4 1 3) (Fm.mk kind 1 0 1 seq ([120] : List UInt8) B32.zero)) 1 _ (M.pv (i := 2) rfl)) rfl rfl ?_; clear F M; intro φ ω F M; revert φ; refine eqG ?_; refine pkT ?_; refine asG ?_; intro φ F; refine nx ?_; cases hs18 : (decide ((nextD (takeO (onew 4 1 3) (Fm.mk kind 1 0 1 seq ([120] : List UInt8) B32.zero)) 1) = 0))
              · rw [hs18] at F; have hs18i := of_decide_eq_false hs18; refine wp_ret ?_; refine rt_tmp F rfl rfl ?_; exfalso; clear F M; first | omega | (simp_all; done) | (simp_all; omega)
              · rw [hs18] at F; have hs18i := of_decide_eq_true hs18; refine wp_ret ?_; refine rt_tmp F rfl rfl ?_; exact ⟨rfl, M.bel⟩
end Go.Proofs.Ytcobpabmmbcjcaa
