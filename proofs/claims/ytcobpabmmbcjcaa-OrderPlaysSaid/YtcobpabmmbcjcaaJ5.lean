/- Put together: Ds, Dl, Dp, Dw, Dq. -/
import Derived.Test.YtcobpabmmbcjcaaDo
import Derived.Test.YtcobpabmmbcjcaaCl
import Derived.Test.YtcobpabmmbcjcaaJ4
import Derived.Test.YtcobpabmmbcjcaaJ3
namespace Go.Proofs.Ytcobpabmmbcjcaa
open Go.RowKit
set_option maxRecDepth 100000
set_option linter.unusedSimpArgs false
set_option linter.unusedVariables false
def cSn (x : Sn) : List Value := .int .i64 x.dst :: cFm x.fr
def encSn : Enc Sn := ⟨39, cSn, ⟨0, Fm.zero⟩, fun x => by show (cFm x.fr).length + 1 = 39; rw [cFm_len], fun x z hz => by
  simp only [cSn, List.mem_cons] at hz
  rcases hz with rfl | hz
  · rfl
  · exact encFm.ones _ z hz⟩
def cW (L : List Sn) : List Value := cE encSn L
def atSn (L : List Sn) (i : Nat) : Sn := atE encSn L i
theorem cW_at {L : List Sn} {i : Nat} (h : i < L.length) : ((cW L).drop (i * 39)).take 39 = cSn (atSn L i) := cE_at (E := encSn) h
theorem cW_app (L K : List Sn) : cW (L ++ K) = cW L ++ cW K := cE_app L K
theorem cW_ones (L : List Sn) : ∀ z ∈ cW L, z.oneCell' = true := cE_ones L
theorem atW_eq {L : List Sn} {i : Nat} (h : i < L.length) : atSn L i = L[i] := atE_eq (E := encSn) h
end Go.Proofs.Ytcobpabmmbcjcaa
namespace Go.Proofs.Ytcobpabmmbcjcaa
open Go.ChangeShapes Go.WideShapes Go.ChangeAt Go.RowKit Go.Joins Go.Deep
set_option maxRecDepth 100000
set_option linter.unusedSimpArgs false
set_option linter.unusedVariables false
section
variable {H : Type} {enc : TypeId × Value → H} {W : World}
theorem openTL {v : Value} {d : DataW H} {ps : List MemPlace} {base : Nat} (hval : Value.okWide Try.prog W .any base 45 v) (h : DataW.Trod enc Try.prog W 0 (fun _ => true) true 45 v d ps) :
    ∃ L : List Tx, RdV W 1 v L.length (cT L) ∧ True := by
  obtain ⟨L, hl, _⟩ := openE encT Try.underlying45 (by kernel_rfl) (by decide) (opens_str Try.underlying9) hval h
  exact ⟨L, hl, trivial⟩
end
theorem rdTL : Try.prog.readableRec 45 = true ∧ 45 < Try.prog.types.size := ⟨by kernel_rfl, of_decide_eq_true (by kernel_rfl)⟩
theorem opensSn : Opens Try.prog 50 cSn (fun x => x.fr.seq ≤ 9223372036854775807) := by
  intro H enc W base sp held fuel cs x hx
  have hu := Try.underlying50
  obtain ⟨xs, n, _, _, hl, _, _⟩ := DataW.trod_struct hu hx
  rw [show Try.prog.cellsOf 50 = 39 by kernel_rfl] at hl
  obtain ⟨a0, h0, _⟩ := field_at hu hx (i := 0) rfl 0 1 oi9 rfl (by kernel_rfl)
  obtain ⟨a1, h1, hq1⟩ := field_at hu hx (i := 1) rfl 1 38 opensFm rfl (by kernel_rfl)
  refine ⟨⟨a0, a1⟩, ?_, hq1⟩
  have hc : cs = cs.drop 0 := List.drop_zero.symm
  rw [hc, cut_step cs 0 1 h0, cut_step cs 1 38 h1, List.drop_eq_nil_of_le (by omega), List.append_nil]
  rfl
section
variable {H : Type} {enc : TypeId × Value → H} {W : World}
theorem openWL {v : Value} {d : DataW H} {ps : List MemPlace} {base : Nat} (hval : Value.okWide Try.prog W .any base 46 v) (h : DataW.Trod enc Try.prog W 0 (fun _ => true) true 46 v d ps) :
    ∃ L : List Sn, RdV W 39 v L.length (cW L) ∧ ∀ x ∈ L, x.fr.seq ≤ 9223372036854775807 := by
  obtain ⟨L, hl, hq⟩ := openE encSn Try.underlying46 (by kernel_rfl) (by decide) opensSn hval h
  exact ⟨L, hl, hq⟩
end
theorem rdWL : Try.prog.readableRec 46 = true ∧ 46 < Try.prog.types.size := ⟨by kernel_rfl, of_decide_eq_true (by kernel_rfl)⟩
end Go.Proofs.Ytcobpabmmbcjcaa
namespace Go.Proofs.Ytcobpabmmbcjcaa
open Go.RowKit
set_option maxRecDepth 100000
set_option linter.unusedSimpArgs false
set_option linter.unusedVariables false
def onewE (n f me : Int) : Int := if bnewE n f = 0 then (if 0 ≤ me ∧ me < n then 0 else 1) else 1
def sayE (O : Od) (t : Tx) : Int := if 400 < t.length then 1 else if O.nx O.me + 32 ≤ O.sd then 10 else 0
def sayO (O : Od) (t : Tx) : Od := if sayE O t = 0 then { O with sd := O.sd + 1 } else O
def sayM (O : Od) (t : Tx) : Fm := if sayE O t = 0 then ⟨1, O.me, 0, O.me, O.sd, t, B32.zero⟩ else Fm.zero
def nextD (O : Od) (o : Int) : Int := if 0 ≤ o ∧ o < O.n then O.nx o else 0
def twoO (O : Od) (o : Int) : Bool := decide (0 ≤ o ∧ o < O.n) && O.tw o
theorem seq_at {l : List Fm} {i : Nat} (h : ∀ x ∈ l, x.seq ≤ 9223372036854775807) : (atF l i).seq ≤ 9223372036854775807 := by
  rcases Nat.lt_or_ge i l.length with h1 | h1
  · rw [atF_eq h1]; exact h _ (List.getElem_mem h1)
  · rw [show atF l i = Fm.zero from by show l.getD i Fm.zero = _; rw [List.getD_eq_getElem?_getD, List.getElem?_eq_none h1]; rfl]; decide
theorem tell_seq {O : Od} {m : Fm} (h : m.seq ≤ 9223372036854775807) : ∀ x ∈ tellO O m, x.seq ≤ 9223372036854775807 := fun x hx => by
  unfold tellO at hx
  split at hx
  · obtain ⟨p, _, rfl⟩ := List.mem_map.1 hx; exact h
  · cases hx
structure OdB (O : Od) (c : Int) : Prop where
  ok : OdOK O
  n7 : O.n ≤ 7
  me : 0 ≤ O.me ∧ O.me < O.n
  nx : ∀ o, O.nx o ≤ 32 * c
  sd : 0 ≤ O.sd ∧ O.sd ≤ O.nx O.me + 32
  c0 : 0 ≤ c
section
variable {O : Od} {c : Int} {m : Fm} {t : Tx}
theorem OdB.take (h : OdB O c) : OdB (takeO O m) (c + 1) := by
  obtain ⟨e1, _, e3, e4⟩ := takeO_same (O := O) (m := m)
  have hc := h.c0
  have hnx : ∀ o, O.nx o ≤ (takeO O m).nx o ∧ (takeO O m).nx o ≤ O.nx o + 32 := fun o => by
    cases hm : okF O m with
    | false => rw [(takeO_no hm).1]; omega
    | true =>
      have hg : gone O m ≤ 32 := run_le
      rw [takeO_nx hm]; simp only; split <;> omega
  refine ⟨h.ok.take, by rw [e1]; exact h.n7, by rw [e1, e3]; exact h.me, fun o => ?_, ?_, by omega⟩
  · have := h.nx o; have := hnx o; omega
  · have := hnx O.me; have := h.sd; rw [e3, e4]; omega
theorem OdB.say (h : OdB O c) : OdB (sayO O t) c := by
  unfold sayO
  split
  · rename_i hs
    unfold sayE at hs
    split at hs
    · omega
    · split at hs
      · omega
      · have := h.sd
        exact ⟨⟨h.ok.n1, h.ok.f0, h.ok.nx0, h.ok.far, h.ok.low, h.ok.nf, h.ok.stop, h.ok.past, h.ok.sm⟩, h.n7, h.me, h.nx, by simp only; omega, h.c0⟩
  · exact h
theorem OdB.more (h : OdB O c) {d : Int} (hd : c ≤ d) : OdB O d := ⟨h.ok, h.n7, h.me, fun o => by have := h.nx o; omega, h.sd, by have := h.c0; omega⟩
theorem onew_B {n f me : Int} (h : onewE n f me = 0) (hn : bnewE n f = 0 → 1 ≤ n ∧ n ≤ 7 ∧ 0 ≤ f) : OdB (onew n f me) 0 := by
  unfold onewE at h
  split at h
  · rename_i hb
    obtain ⟨h1, h2, h3⟩ := hn hb
    split at h
    · rename_i hm
      exact ⟨onew_ok h1 h3, h2, hm, fun _ => Int.le_refl _, ⟨Int.le_refl _, by simp [onew]⟩, Int.le_refl _⟩
    · omega
  · omega
theorem onew_yes {n f me : Int} (hb : bnewE n f = 0) (h0 : 0 ≤ me) (h1 : me < n) : onewE n f me = 0 := by unfold onewE; rw [if_pos hb, if_pos ⟨h0, h1⟩]
theorem onew_B' {n f me : Int} (h : onewE n f me = 0) : OdB (onew n f me) 0 := onew_B h fun hb => ⟨(bnew_ok hb).1, (bnew_ok hb).2.1, (bnew_ok hb).2.2.1⟩
end
section
variable {P : Program} {ops rest : List Oper} {o : Oper} {a : Act} {n d : Nat} {L : List (Nat × Value)} {Q : Exit → Act → World → Prop} {R : List Nat} {w w0 : World} {B : List Ent}
def TurnsM (w : World) (x : Ent) (Z : Ent → Prop) (t : TypeId) (m : Nat) (cs : List Value) (k : Nat) (cs2 : List Value) (k2 : Nat) (e : Ending) (w' : World) : Prop :=
  ∃ v v2 x', e = .returned (.tuple #[v, v2]) ∧ Out x.fp w w' ∧ x'.at w' ∧ (∀ g ∈ x'.fp, g ∈ x.fp ∨ w.heap.size ≤ g) ∧ x'.base = [] ∧ Z x' ∧ w'.ownsRow 0 t m v k cs ∧ w'.ownsRow 0 t m v2 k2 cs2 ∧
    (∀ g ∈ v.ownBlock.toList, (g ∈ x.fp ∨ w.heap.size ≤ g) ∧ ¬ g ∈ x'.fp) ∧ (∀ g ∈ v2.ownBlock.toList, (g ∈ x.fp ∨ w.heap.size ≤ g) ∧ ¬ g ∈ x'.fp) ∧ ∀ g ∈ v.ownBlock.toList, ¬ g ∈ v2.ownBlock.toList
theorem Mm.turnM (M : Mm R w0 w B) {i : Nat} {x x' : Ent} {w' : World} {t : TypeId} {m k k2 : Nat} {v v2 : Value} {cs cs2 : List Value} (hi : B[i]? = some x) (h1 : Out x.fp w w') (h2 : x'.at w') (h3 : ∀ g ∈ x'.fp, g ∈ x.fp ∨ w.heap.size ≤ g) (h4 : x'.base = []) (h5 : w'.ownsRow 0 t m v k cs) (h5' : w'.ownsRow 0 t m v2 k2 cs2)
    (h6 : ∀ g ∈ v.ownBlock.toList, (g ∈ x.fp ∨ w.heap.size ≤ g) ∧ ¬ g ∈ x'.fp) (h6' : ∀ g ∈ v2.ownBlock.toList, (g ∈ x.fp ∨ w.heap.size ≤ g) ∧ ¬ g ∈ x'.fp) (h7 : ∀ g ∈ v.ownBlock.toList, ¬ g ∈ v2.ownBlock.toList) :
    Mm R w0 w' (.row t m v k cs :: .row t m v2 k2 cs2 :: B.set i x') := by
  have M1 := M.turnN hi h1 h2 h3 h4 h5 h6
  have M2 := M.turnN hi h1 h2 h3 h4 h5' h6'
  have hp1 := List.pairwise_cons.1 M1.nd
  refine M2.addNew (x := .row t m v k cs) h5 (fun g hg => M1.own _ (by simp) g hg) rfl (fun y hy g hg hgy => ?_)
  rcases List.mem_cons.1 hy with rfl | hy
  · exact h7 g hg hgy
  · exact hp1.1 y hy g hg hgy
theorem sq_callTM (F : Fr a n L) (M : Mm R w0 w B) (hw : Region.wanted o (yielded ops.toArray a.tmps) = true) {f : FuncId} {xs : List Operand} {ts : Array TypeId} {args : List Value} {i : Nat} {x : Ent} {Z : Ent → Prop} {t : TypeId} {m k k2 : Nat} {cs cs2 : List Value} (ho : o.op = .call { callee := .value (.func f), args := xs.toArray, argTypes := ts })
    (he : enters P f = true) (ha : xs.map a.eval = args) (hi : B[i]? = some x) (hc : Calls P f args.toArray w (TurnsM w x Z t m cs k cs2 k2)) (hd : o.dst = some d) (hdn : Nat.blt d n = true)
    (h : ∀ a' w' v v2 x', Z x' → Fr a' n ((d, .tuple #[v, v2]) :: L) → Mm R w0 w' (.row t m v k cs :: .row t m v2 k2 cs2 :: B.set i x') → wpList P ops.toArray Q rest a' w') : wpList P ops.toArray Q (o :: rest) a w :=
  sq_callR F hw ho he ha hc hd hdn fun e w' hR => by
    obtain ⟨v, v2, x', h1, h2, h3, h4, h5, h6, h7, h8, h9, h10, h11⟩ := hR
    exact ⟨_, h1, fun a' F' => h a' w' v v2 x' h6 F' (M.turnM hi h2 h3 h4 h5 h7 h8 h9 h10 h11)⟩
end
end Go.Proofs.Ytcobpabmmbcjcaa
namespace Go.Proofs.Ytcobpabmmbcjcaa
open Go.RowKit
set_option maxRecDepth 100000
set_option linter.unusedSimpArgs false
set_option linter.unusedVariables false
structure Sl where
  o : Int
  s : Int
  r : Nat
  fp : List Nat
  S : Cs
def Sl.upd (a : Sl) (fp : List Nat) (S : Cs) : Sl := ⟨a.o, a.s, a.r, fp, S⟩
def rowJ (W : List Sl) (k : Int) : List (Int × Nat) := (W.filter fun a => decide (a.o = k)).map fun a => (a.s, a.r)
section
variable {W : List Sl} {k s : Int} {a : Sl} {i j r : Nat} {fp : List Nat} {S : Cs}
theorem rowJ_len : (rowJ W k).length ≤ W.length := by unfold rowJ; rw [List.length_map]; exact List.length_filter_le _ _
theorem rowJ_app : rowJ (W ++ [a]) k = if a.o = k then rowJ W k ++ [(a.s, a.r)] else rowJ W k := by
  unfold rowJ
  rw [List.filter_append, List.map_append, List.filter_cons]
  by_cases h : a.o = k
  · rw [if_pos (decide_eq_true h), if_pos h]; rfl
  · rw [if_neg (by simp [h]), if_neg h]; simp
theorem rowJ_turn (h : W[i]? = some a) : rowJ (W.set i (a.upd fp S)) k = rowJ W k := by
  induction W generalizing i with
  | nil => simp at h
  | cons b r ih =>
    cases i with
    | zero =>
      have e : b = a := by simpa using h
      subst e
      unfold rowJ
      rw [List.set_cons_zero, List.filter_cons, List.filter_cons, show (b.upd fp S).o = b.o from rfl]
      by_cases hk : b.o = k
      · rw [if_pos (decide_eq_true hk), if_pos (decide_eq_true hk)]; rfl
      · rw [if_neg (by simp [hk]), if_neg (by simp [hk])]
    | succ i =>
      have h' : r[i]? = some a := by simpa using h
      have hi := ih h'
      unfold rowJ at hi ⊢
      rw [List.set_cons_succ, List.filter_cons, List.filter_cons]
      split
      · rw [List.map_cons, List.map_cons, hi]
      · exact hi
theorem seven (h0 : 0 ≤ k) (h1 : k < 7) : k = 0 ∨ k = 1 ∨ k = 2 ∨ k = 3 ∨ k = 4 ∨ k = 5 ∨ k = 6 := by omega
end
theorem onew_in {n f me : Int} (h : onewE n f me = 0) : bnewE n f = 0 ∧ 0 ≤ me ∧ me < n := by
  unfold onewE at h
  split at h
  · rename_i hb
    split at h
    · rename_i hm; exact ⟨hb, hm⟩
    · omega
  · omega
theorem sl_set {W : List Sl} {i : Nat} {a b : Sl} (h : W[i]? = some a) : (W.set i b)[i]? = some b := by
  obtain ⟨hi, _⟩ := List.getElem?_eq_some_iff.1 h
  rw [List.getElem?_set, if_pos rfl, if_pos hi]
def nxI (nx : Int → Int) (o i : Int) : Int → Int := fun x => if x = o then nx x + i else nx x
def twI (tw : Int → Bool) (o : Int) (b : Bool) : Int → Bool := fun x => tw x || (decide (x = o) && b)
section
variable {nx : Int → Int} {tw : Int → Bool} {o i : Int} {O : Od} {m : Fm}
theorem nxI_at : nxI nx o i o = nx o + i := if_pos rfl
theorem nxI_zero : nxI nx o 0 = nx := by
  funext x; unfold nxI; split
  · rw [Int.add_zero]
  · rfl
theorem nxI_step : (fun y => if y = o then nx o + i + 1 else nxI nx o i y) = nxI nx o (i + 1) := by
  funext y; unfold nxI
  by_cases h : y = o
  · subst h; simp only [if_true]; omega
  · simp only [if_neg h]
theorem nxI_open {k x s : Int} (h : nxI nx k (i + 1) x ≤ s) : nxI nx k i x ≤ s ∧ ¬ (x = k ∧ s = nx k + i) := by
  unfold nxI at h ⊢
  by_cases e : x = k
  · subst e; simp only [if_true] at h ⊢; omega
  · simp only [if_neg e] at h ⊢; exact ⟨h, fun z => e z.1⟩
theorem twI_yes : (fun y => if y = o then true else tw y) = twI tw o true := by
  funext y; unfold twI
  by_cases h : y = o
  · simp [h]
  · simp [h]
theorem twI_no : twI tw o false = tw := by funext y; unfold twI; simp
theorem take_end (h : okF O m = true) (hi : i = (gone O m : Int)) : (takeO O m).C = setCs O.C m.org m.seq (casF O m) ∧ (takeO O m).nx = nxI O.nx m.org i ∧ (takeO O m).tw = twI O.tw m.org (casF O m).two ∧ (takeO O m).n = O.n ∧ (takeO O m).f = O.f ∧ (takeO O m).me = O.me ∧ (takeO O m).sd = O.sd := by
  subst hi
  refine ⟨takeO_C h, by rw [takeO_nx h]; rfl, ?_, takeO_same.1, takeO_same.2.1, takeO_same.2.2.1, takeO_same.2.2.2⟩
  unfold takeO; rw [if_pos h]; rfl
theorem gone_fin (h : OdOK O) (hm : okF O m = true) (h0 : 0 ≤ i) (hi : i ≤ (gone O m : Int)) (hd : (setCs O.C m.org m.seq (casF O m) m.org (O.nx m.org + i)).dn = none) : i = (gone O m : Int) := by
  rcases Int.lt_or_eq_of_le hi with z | z
  · have := runD_in (g := (rcvO O m).C m.org) (k := 32) (s := O.nx m.org) (i := i.toNat) (by unfold gone at z; omega)
    rw [show ((i.toNat : Nat) : Int) = i by omega] at this
    have e : (rcvO O m).C m.org (O.nx m.org + i) = setCs O.C m.org m.seq (casF O m) m.org (O.nx m.org + i) := rfl
    rw [e, hd] at this; cases this
  · exact z
theorem gone_on (h : OdOK O) (hm : okF O m = true) (hi : i ≤ (gone O m : Int)) (hd : (setCs O.C m.org m.seq (casF O m) m.org (O.nx m.org + i)).dn.isSome = true) : i + 1 ≤ (gone O m : Int) := by
  rcases Int.lt_or_eq_of_le hi with z | z
  · omega
  · have := (gone_le h hm).2
    rw [takeO_C hm, ← z] at this
    rw [this] at hd; cases hd
def ovrI (O : Od) (m : Fm) (i : Int) : List Fm := (List.range i.toNat).map fun (k : Nat) => dnF (rcvO O m).C m.org (O.nx m.org + (k : Int))
theorem ovrI_zero : ovrI O m 0 = [] := rfl
theorem ovrI_step (h0 : 0 ≤ i) : ovrI O m (i + 1) = ovrI O m i ++ [dnF (setCs O.C m.org m.seq (casF O m)) m.org (O.nx m.org + i)] := by
  unfold ovrI
  rw [show (i + 1).toNat = i.toNat + 1 by omega, List.range_succ, List.map_append]
  simp only [List.map_cons, List.map_nil]
  rw [show ((i.toNat : Nat) : Int) = i by omega]; rfl
theorem ovrI_len (h0 : 0 ≤ i) : ((ovrI O m i).length : Int) = i := by unfold ovrI; rw [List.length_map, List.length_range]; omega
theorem ovrI_end (hm : okF O m = true) (hi : i = (gone O m : Int)) : ovrI O m i = overO O m := by
  subst hi; unfold ovrI overO; rw [if_pos hm, show ((gone O m : Nat) : Int).toNat = gone O m by omega]
def tellI (O : Od) (m : Fm) (L : List (Int × Tx)) : List Fm := L.map fun p => ⟨p.1, O.me, 0, m.org, m.seq, p.2, B32.zero⟩
theorem zero_u8 (k : Nat) : u8 (at32 B32.zero k) = 0 := by
  unfold u8 at32 B32.zero
  rw [List.getD_eq_getElem?_getD, List.getElem?_replicate]
  split <;> rfl
def tellG (O : Od) (m : Fm) (l : List Fm) : List Fm := l.map fun x => ⟨x.kind, O.me, 0, m.org, m.seq, x.text, B32.zero⟩
theorem tellG_zero {l : List Fm} : tellG O m (l.take (0 : Int).toNat) = [] := by simp [tellG]
theorem tellG_step {l : List Fm} (h0 : 0 ≤ i) (hi : i < (l.length : Int)) : tellG O m (l.take (i + 1).toNat) = tellG O m (l.take i.toNat) ++ [⟨(atF l i.toNat).kind, O.me, 0, m.org, m.seq, (atF l i.toNat).text, B32.zero⟩] := by
  rw [show (i + 1).toNat = i.toNat + 1 by omega, List.take_succ_eq_append_getElem (by omega)]
  unfold tellG
  rw [List.map_append, atF_eq (by omega)]; rfl
theorem tellG_end (hm : okF O m = true) : tellG O m (frmL (tellF (O.C m.org m.seq) m.kind m.frm m.text)) = tellO O m := by
  unfold tellG tellO frmL
  rw [if_pos hm, List.map_map]; rfl
end
section
variable {R : List Nat} {w w0 : World} {B : List Ent}
theorem Mm.endM {t : TypeId} {m k k2 : Nat} {v v2 : Value} {cs cs2 : List Value} {Φ Ψ : World → Prop} {fp : List Nat} {Z : Ent → Prop} (M : Mm R w0 w (B ++ [.row t m v k cs, .row t m v2 k2 cs2])) (hR : R = fp) (hb : ∀ x ∈ B, x.base = []) (hΨ : PkV B w → Ψ w) (hl : Loc (fpE B) Ψ) (hz : Z (.own (fpE B) Ψ)) :
    TurnsM w0 (.own fp Φ) Z t m cs k cs2 k2 (.returned (.tuple #[v, v2])) w := by
  have M1 : Mm R w0 w B := M.sub (List.sublist_append_left _ _)
  have hp := List.pairwise_append.1 M.nd
  have hr1 : (Ent.row t m v k cs) ∈ B ++ [.row t m v k cs, .row t m v2 k2 cs2] := by simp
  have hr2 : (Ent.row t m v2 k2 cs2) ∈ B ++ [.row t m v k cs, .row t m v2 k2 cs2] := by simp
  have ho : ∀ y, y ∈ B ++ [.row t m v k cs, .row t m v2 k2 cs2] → ∀ g ∈ y.fp, g ∈ fp ∨ w0.heap.size ≤ g := fun y hy g hg => (M.own y hy g hg).elim .inr (fun z => .inl (hR ▸ z))
  refine ⟨v, v2, .own (fpE B) Ψ, rfl, hR ▸ M.out, ⟨hΨ (M1.pkv hb), hl⟩, fun g hg => ?_, rfl, hz, M.has _ hr1, M.has _ hr2, fun g hg => ⟨ho _ hr1 g (by simpa [Ent.fp] using hg), fun hg' => ?_⟩, fun g hg => ⟨ho _ hr2 g (by simpa [Ent.fp] using hg), fun hg' => ?_⟩, fun g hg hg2 => ?_⟩
  · obtain ⟨x, hx, hgx⟩ := mem_fpE.1 (show g ∈ fpE B from hg)
    exact ho x (List.mem_append.2 (.inl hx)) g hgx
  · obtain ⟨x, hx, hgx⟩ := mem_fpE.1 (show g ∈ fpE B from hg')
    exact hp.2.2 x hx _ (by simp) g hgx (show g ∈ (Ent.row t m v k cs).fp by simpa [Ent.fp] using hg)
  · obtain ⟨x, hx, hgx⟩ := mem_fpE.1 (show g ∈ fpE B from hg')
    exact hp.2.2 x hx (Ent.row t m v2 k2 cs2) (by simp) g hgx (by simpa [Ent.fp] using hg)
  · have := List.pairwise_cons.1 hp.2.1
    exact this.1 (Ent.row t m v2 k2 cs2) (by simp) g (by simpa [Ent.fp] using hg) (by simpa [Ent.fp] using hg2)
end
end Go.Proofs.Ytcobpabmmbcjcaa
namespace Go.Proofs.Ytcobpabmmbcjcaa
open Go.RowKit
set_option maxRecDepth 100000
set_option linter.unusedSimpArgs false
set_option linter.unusedVariables false
theorem win_no {kind : Int} (h : 1 ≤ kind ∧ kind ≤ 3) : (takeS (cnewS 4 1) kind 1 [120]).dn = none ∧ (tellF (cnewS 4 1) kind 1 [120]).length = if kind = 1 then 1 else 0 := by
  rcases (show kind = 1 ∨ kind = 2 ∨ kind = 3 by omega) with e | e | e <;> subst e <;> decide +kernel
theorem win_facts (seq kind : Int) : (tellO (onew 4 1 3) ⟨kind, 1, 0, 1, seq, [120], B32.zero⟩).length = (if 0 ≤ seq ∧ seq < 32 ∧ kind = 1 then 1 else 0) ∧ (overO (onew 4 1 3) ⟨kind, 1, 0, 1, seq, [120], B32.zero⟩).length = 0 ∧ nextD (takeO (onew 4 1 3) ⟨kind, 1, 0, 1, seq, [120], B32.zero⟩) 1 = 0 := by
  cases hm : okF (onew 4 1 3) ⟨kind, 1, 0, 1, seq, [120], B32.zero⟩ with
  | false =>
    obtain ⟨e1, e2, e3⟩ := takeO_no hm
    rw [e1, e2, e3]
    refine ⟨?_, rfl, by decide +kernel⟩
    rw [if_neg]; rfl
    rintro ⟨h1, h2, rfl⟩
    have : okF (onew 4 1 3) ⟨1, 1, 0, 1, seq, [120], B32.zero⟩ = true := ok_iffF.2 ⟨fitsF_iff.2 (by simp [onew]), by simpa [onew] using h1, by simpa [onew] using h2⟩
    rw [hm] at this; cases this
  | true =>
    have hk := ok_iffF.1 hm
    have hf := (fitsF_iff.1 hk.1).2.2.1
    have hs : 0 ≤ seq ∧ seq < 32 := by have := hk.2; simp only [onew] at this; omega
    obtain ⟨w1, w2⟩ := win_no hf
    have hg : gone (onew 4 1 3) ⟨kind, 1, 0, 1, seq, [120], B32.zero⟩ = 0 := by
      unfold gone runN
      rw [if_neg]
      show ¬ (setCs (fun _ _ => cnewS 4 1) 1 seq (takeS (cnewS 4 1) kind 1 [120]) 1 0).dn.isSome = true
      unfold setCs
      split
      · rw [w1]; simp
      · simp [cnewS]
    refine ⟨?_, ?_, ?_⟩
    · unfold tellO
      rw [if_pos hm, List.length_map]
      show (tellF (cnewS 4 1) kind 1 [120]).length = _
      rw [w2]
      by_cases e : kind = 1
      · rw [if_pos e, if_pos ⟨hs.1, hs.2, e⟩]
      · rw [if_neg e, if_neg (fun z => e z.2.2)]
    · unfold overO
      rw [if_pos hm, hg]; rfl
    · unfold nextD
      rw [takeO_nx hm, hg]
      simp [onew]
structure SayC (i : Int) (O : Od) : Prop where
  sd : O.sd = i
  me : O.me = 2
  n : O.n = 4
  nx : ∀ o, O.nx o = 0
theorem SayC.start : SayC 0 (onew 4 1 2) := ⟨rfl, rfl, rfl, fun _ => rfl⟩
theorem SayC.e {i : Int} {O : Od} {t : Tx} (h : SayC i O) : sayE O t = if 400 < t.length then 1 else if 32 ≤ i then 10 else 0 := by
  unfold sayE; rw [h.nx, h.sd]
  split
  · rfl
  · split <;> split <;> omega
theorem SayC.step {i : Int} {O : Od} {t : Tx} (h : SayC i O) (he : sayE O t = 0) : SayC (i + 1) (sayO O t) ∧ sayM O t = ⟨1, 2, 0, 2, i, t, B32.zero⟩ := by
  unfold sayO sayM
  rw [if_pos he, if_pos he]
  exact ⟨⟨by show O.sd + 1 = i + 1; rw [h.sd], h.me, h.n, h.nx⟩, by rw [h.me, h.sd]⟩
theorem SayC.stay {O : Od} {t : Tx} (he : ¬ sayE O t = 0) : sayO O t = O ∧ sayM O t = Fm.zero := by
  unfold sayO sayM; rw [if_neg he, if_neg he]; exact ⟨rfl, rfl⟩
def sdI (tx i : Int) : Int := if 400 < tx then 0 else if i ≤ 32 then i else 32
theorem says_step {tx i : Int} {O : Od} {t : Tx} (ht : (t.length : Int) = tx) (h : SayC (sdI tx i) O) : sayE O t = (if 400 < tx then 1 else if 32 ≤ i then 10 else 0) ∧ SayC (sdI tx (i + 1)) (sayO O t) ∧ (sayE O t = 0 → sayM O t = ⟨1, 2, 0, 2, i, t, B32.zero⟩) ∧ (¬ sayE O t = 0 → sayM O t = Fm.zero) := by
  have e1 : sayE O t = (if 400 < tx then 1 else if 32 ≤ i then 10 else 0) := by
    rw [h.e]
    unfold sdI
    by_cases a : 400 < tx
    · simp only [if_pos a, if_pos (show 400 < t.length by omega)]
    · simp only [if_neg a, if_neg (show ¬ 400 < t.length by omega)]
      by_cases b : 32 ≤ i
      · rw [if_pos b, if_pos (by split <;> omega)]
      · rw [if_neg b, if_neg (by split <;> omega)]
  refine ⟨e1, ?_, fun he => ?_, fun he => (SayC.stay he).2⟩
  · by_cases he : sayE O t = 0
    · have := (h.step he).1
      rw [e1] at he
      have a : ¬ 400 < tx := fun z => by rw [if_pos z] at he; omega
      rw [if_neg a] at he
      have b : ¬ 32 ≤ i := fun z => by rw [if_pos z] at he; omega
      unfold sdI at this ⊢
      rw [if_neg a, if_pos (by omega)] at this
      rw [if_neg a, if_pos (by omega)]
      exact this
    · rw [(SayC.stay he).1]
      rw [e1] at he
      have : sdI tx (i + 1) = sdI tx i := by
        unfold sdI
        by_cases a : 400 < tx
        · rw [if_pos a, if_pos a]
        · rw [if_neg a] at he ⊢
          rw [if_neg a]
          have b : 32 ≤ i := by
            rcases Int.lt_or_le i 32 with z | z
            · rw [if_neg (by omega)] at he; exact absurd rfl he
            · exact z
          rw [if_neg (by omega)]
          split <;> omega
      rw [this]; exact h
  · have := (h.step he).2
    rw [e1] at he
    have a : ¬ 400 < tx := fun z => by rw [if_pos z] at he; omega
    rw [if_neg a] at he
    have b : ¬ 32 ≤ i := fun z => by rw [if_pos z] at he; omega
    unfold sdI at this
    rwa [if_neg a, if_pos (by omega)] at this
structure RisI (O : Od) (m : Fm) (k : Int) (T : List Int) : Prop where
  len : T.length = 7
  at_ : ∀ j : Nat, j < 7 → atI T j = nextD O j + (if (j : Int) = m.org then k else 0)
structure RisO (O : Od) (T : List Int) : Prop where
  len : T.length = 7
  at_ : ∀ j : Nat, j < 7 → atI T j = nextD O j
theorem RisO.start {n f me : Int} : RisO (onew n f me) [0, 0, 0, 0, 0, 0, 0] := ⟨rfl, fun j hj => by
  have : nextD (onew n f me) j = 0 := by unfold nextD; split <;> rfl
  rw [this]
  rcases (show j = 0 ∨ j = 1 ∨ j = 2 ∨ j = 3 ∨ j = 4 ∨ j = 5 ∨ j = 6 by omega) with e | e | e | e | e | e | e <;> subst e <;> rfl⟩
theorem RisO.go {O : Od} {T : List Int} (h : RisO O T) (m : Fm) : RisI O m 0 T := ⟨h.len, fun j hj => by rw [h.at_ j hj]; split <;> omega⟩
theorem over_len {O : Od} {m : Fm} : (overO O m).length = if okF O m then gone O m else 0 := by
  unfold overO; split
  · rw [List.length_map, List.length_range]
  · rfl
theorem over_le {O : Od} {m : Fm} : (overO O m).length ≤ 32 := by
  rw [over_len]; split
  · exact run_le
  · omega
theorem over_at {O : Od} {m : Fm} {k : Int} (h0 : 0 ≤ k) (h : k < ((overO O m).length : Int)) : (atF (overO O m) k.toNat).org = m.org ∧ (0 ≤ m.org ∧ m.org < O.n) ∧ (atF (overO O m) k.toNat).seq = O.nx m.org + k := by
  cases hm : okF O m with
  | false => rw [(takeO_no hm).2.2] at h; simp at h; omega
  | true =>
    have hf := (fitsF_iff.1 (ok_iffF.1 hm).1).2.1
    rw [over_len, if_pos hm] at h
    have e : atF (overO O m) k.toNat = dnF (rcvO O m).C m.org (O.nx m.org + ((k.toNat : Nat) : Int)) := by
      rw [atF_eq (by rw [over_len, if_pos hm]; omega)]
      unfold overO
      simp only [if_pos hm, List.getElem_map, List.getElem_range]
    rw [e]
    exact ⟨rfl, hf, by show O.nx m.org + ((k.toNat : Nat) : Int) = _; omega⟩
theorem RisI.here {O : Od} {m : Fm} {k : Int} {T : List Int} (h : RisI O m k T) (h7 : O.n ≤ 7) (hm : 0 ≤ m.org ∧ m.org < O.n) : atI T m.org.toNat = O.nx m.org + k := by
  rw [h.at_ _ (by omega), if_pos (by omega)]
  unfold nextD
  rw [if_pos (by omega), show ((m.org.toNat : Nat) : Int) = m.org by omega]
theorem RisI.step {O : Od} {m : Fm} {k : Int} {T : List Int} (h : RisI O m k T) (h7 : O.n ≤ 7) (hm : 0 ≤ m.org ∧ m.org < O.n) : RisI O m (k + 1) (T.set m.org.toNat (atI T m.org.toNat + 1)) := by
  refine ⟨by rw [List.length_set]; exact h.len, fun j hj => ?_⟩
  rw [atI_set (by rw [h.len]; omega)]
  have h1 := h.at_ j hj
  by_cases e : m.org.toNat = j
  · rw [if_pos e, if_pos (by omega), e, h1, if_pos (by omega)]; omega
  · rw [if_neg e, if_neg (by omega), h1, if_neg (by omega)]
theorem RisI.done {O : Od} {m : Fm} {k : Int} {T : List Int} (h : RisI O m k T) (hk : k = ((overO O m).length : Int)) : RisO (takeO O m) T := by
  refine ⟨h.len, fun j hj => ?_⟩
  rw [h.at_ j hj, hk, over_len]
  obtain ⟨e1, _, _, _⟩ := takeO_same (O := O) (m := m)
  unfold nextD
  rw [e1]
  cases hm : okF O m with
  | false => rw [(takeO_no hm).1]; simp
  | true =>
    have hf := (fitsF_iff.1 (ok_iffF.1 hm).1).2.1
    rw [takeO_nx hm]
    simp only [if_true]
    by_cases e : (j : Int) = m.org
    · rw [e, if_pos rfl, if_pos hf, if_pos hf, if_pos rfl]
    · simp only [if_neg e]; omega
end Go.Proofs.Ytcobpabmmbcjcaa
