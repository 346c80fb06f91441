/- Orders: many broadcasts, delivered in order; mathematics of layer 15. Any seat with layer 15 in it. -/
import Derived.Test.YtcobpabmmbcjcaaDn
import Derived.Test.YtcobpabmmbcjcaaCr
namespace Go.Proofs.Ytcobpabmmbcjcaa
open Go.RowKit
set_option maxRecDepth 100000
set_option linter.unusedSimpArgs false
set_option linter.unusedVariables false
structure Od where
  n : Int
  f : Int
  me : Int
  C : Int → Int → Cs
  nx : Int → Int
  sd : Int
  tw : Int → Bool
def setCs (C : Int → Int → Cs) (o s : Int) (S : Cs) : Int → Int → Cs := fun x y => if x = o ∧ y = s then S else C x y
def fits (n : Int) (m : Fm) : Bool := decide ((0 ≤ m.frm ∧ m.frm < n) ∧ (0 ≤ m.org ∧ m.org < n) ∧ (1 ≤ m.kind ∧ m.kind ≤ 3) ∧ (m.kind = 1 → m.frm = m.org) ∧ m.text.length ≤ 400)
def openF (O : Od) (m : Fm) : Bool := decide (O.nx m.org ≤ m.seq ∧ m.seq < O.nx m.org + 32)
def okF (O : Od) (m : Fm) : Bool := fits O.n m && openF O m
def casF (O : Od) (m : Fm) : Cs := takeS (O.C m.org m.seq) m.kind m.frm m.text
def rcvO (O : Od) (m : Fm) : Od := { O with C := setCs O.C m.org m.seq (casF O m), tw := fun x => O.tw x || (decide (x = m.org) && (casF O m).two) }
def tellO (O : Od) (m : Fm) : List Fm := if okF O m then (tellF (O.C m.org m.seq) m.kind m.frm m.text).map fun p => ⟨p.1, O.me, 0, m.org, m.seq, p.2, B32.zero⟩ else []
def runN (g : Int → Cs) : Nat → Int → Nat
  | 0, _ => 0
  | k + 1, s => if (g s).dn.isSome then runN g k (s + 1) + 1 else 0
def dnF (C : Int → Int → Cs) (o s : Int) : Fm := ⟨0, 0, 0, o, s, ((C o s).dn).getD [], B32.zero⟩
def gone (O : Od) (m : Fm) : Nat := runN ((rcvO O m).C m.org) 32 (O.nx m.org)
def takeO (O : Od) (m : Fm) : Od := if okF O m then { rcvO O m with nx := fun x => if x = m.org then O.nx x + (gone O m : Int) else O.nx x } else O
def overO (O : Od) (m : Fm) : List Fm := if okF O m then (List.range (gone O m)).map fun (i : Nat) => dnF (rcvO O m).C m.org (O.nx m.org + (i : Int)) else []
def onew (n f me : Int) : Od := ⟨n, f, me, fun _ _ => cnewS n f, fun _ => 0, 0, fun _ => false⟩
structure SmS (S : Cs) : Prop where
  i1 : ∀ t, S.i1 = some t → t.length ≤ 400
  rt : ∀ t, S.rt = some t → t.length ≤ 400
  dn : ∀ t, S.dn = some t → t.length ≤ 400
  ec : ∀ k t, S.ec k = some t → t.length ≤ 400
  rd : ∀ k t, S.rd k = some t → t.length ≤ 400
theorem cnew_sm (n f : Int) : SmS (cnewS n f) := ⟨fun _ h => (by cases h), fun _ h => (by cases h), fun _ h => (by cases h), fun _ _ h => (by cases h), fun _ _ h => (by cases h)⟩
theorem sm_take {S : Cs} {kind frm : Int} {tx : Tx} (h : SmS S) (hn : 0 ≤ S.n) (hf : 0 ≤ S.f) (ht : tx.length ≤ 400) : SmS (takeS S kind frm tx) ∧ ∀ p ∈ tellF S kind frm tx, (p.1 = 2 ∨ p.1 = 3) ∧ p.2.length ≤ 400 := by
  cases hb : badT S kind frm with
  | true => obtain ⟨e1, e2⟩ := take_bad (tx := tx) hb; rw [e1, e2]; exact ⟨h, fun p hp => by cases hp⟩
  | false =>
    have T := take_p (tx := tx) hn hf hb
    have hec : ∀ k t, (takeS S kind frm tx).ec k = some t → t.length ≤ 400 := fun k t hk => by
      rcases T.ec' k t hk with z | ⟨_, _, z⟩
      · exact h.ec k t z
      · rw [z]; exact ht
    have hrd : ∀ k t, (takeS S kind frm tx).rd k = some t → t.length ≤ 400 := fun k t hk => by
      rcases T.rd' k t hk with z | ⟨_, _, z⟩
      · exact h.rd k t z
      · rw [z]; exact ht
    have htx : ∀ t ∈ txsT (takeS S kind frm tx), t.length ≤ 400 := fun t hm => by
      unfold txsT at hm
      rcases List.mem_append.1 hm with hm | hm
      · obtain ⟨k, _, hk⟩ := List.mem_filterMap.1 hm; exact hec k t hk
      · obtain ⟨k, _, hk⟩ := List.mem_filterMap.1 hm; exact hrd k t hk
    have hi : ∀ t, (takeS S kind frm tx).i1 = some t → t.length ≤ 400 := fun t hk => by
      rcases T.i1' t hk with z | ⟨_, _, z, _⟩
      · exact h.i1 t z
      · rw [z]; exact ht
    have hr : ∀ t, (takeS S kind frm tx).rt = some t → t.length ≤ 400 := fun t hk => by
      rcases T.rt' t hk with z | ⟨_, z, _⟩
      · exact h.rt t z
      · exact htx t (okT_of (by rw [T.nf.1]; exact hn) (by rw [T.nf.2]; exact hf) z)
    refine ⟨⟨hi, hr, fun t hk => ?_, hec, hrd⟩, fun p hp => ?_⟩
    · rcases T.dn' t hk with z | z
      · exact h.dn t z
      · exact htx t (dlT_of (by rw [T.nf.2]; exact hf) z)
    · rcases T.says p.1 p.2 hp with z | z
      · exact ⟨.inl z.1, hi _ z.2⟩
      · exact ⟨.inr z.1, hr _ z.2⟩
structure OdOK (O : Od) : Prop where
  n1 : 1 ≤ O.n
  f0 : 0 ≤ O.f
  nx0 : ∀ o, 0 ≤ O.nx o
  far : ∀ o s, O.nx o + 32 ≤ s → O.C o s = cnewS O.n O.f
  low : ∀ o s, s < 0 → O.C o s = cnewS O.n O.f
  nf : ∀ o s, (O.C o s).n = O.n ∧ (O.C o s).f = O.f
  stop : ∀ o, (O.C o (O.nx o)).dn = none
  past : ∀ o s, 0 ≤ s → s < O.nx o → (O.C o s).dn.isSome = true
  sm : ∀ o s, SmS (O.C o s)
section
variable {O : Od} {m : Fm} {g : Int → Cs} {k : Nat} {s o x y : Int} {C : Int → Int → Cs} {S : Cs}
theorem setC_at : setCs C o s S o s = S := if_pos ⟨rfl, rfl⟩
theorem setC_ne (h : ¬ (x = o ∧ y = s)) : setCs C o s S x y = C x y := if_neg h
theorem run_le : runN g k s ≤ k := by
  induction k generalizing s with
  | zero => exact Nat.le_refl _
  | succ k ih => unfold runN; split
                 · have := ih (s := s + 1); omega
                 · omega
theorem runD_in {i : Nat} (h : i < runN g k s) : (g (s + (i : Int))).dn.isSome = true := by
  induction k generalizing s i with
  | zero => cases h
  | succ k ih =>
    unfold runN at h
    split at h
    · rename_i hd
      cases i with
      | zero => rw [show s + ((0 : Nat) : Int) = s by omega]; exact hd
      | succ i => have := ih (s := s + 1) (i := i) (by omega); rwa [show s + 1 + (i : Int) = s + ((i + 1 : Nat) : Int) by omega] at this
    · cases h
theorem run_end (h : runN g k s < k) : (g (s + (runN g k s : Int))).dn = none := by
  induction k generalizing s with
  | zero => cases h
  | succ k ih =>
    unfold runN at h ⊢
    split at h
    · rename_i hd
      rw [if_pos hd]
      have := ih (s := s + 1) (by omega)
      rwa [show s + 1 + (runN g k (s + 1) : Int) = s + ((runN g k (s + 1) + 1 : Nat) : Int) by omega] at this
    · rename_i hd
      rw [if_neg hd, show s + ((0 : Nat) : Int) = s by omega]
      cases h2 : (g s).dn with
      | none => rfl
      | some t => rw [h2] at hd; exact absurd rfl hd
theorem ok_iffF : okF O m = true ↔ fits O.n m = true ∧ O.nx m.org ≤ m.seq ∧ m.seq < O.nx m.org + 32 := by unfold okF openF; rw [Bool.and_eq_true, decide_eq_true_iff]
theorem fitsF_iff {n : Int} : fits n m = true ↔ ((0 ≤ m.frm ∧ m.frm < n) ∧ (0 ≤ m.org ∧ m.org < n) ∧ (1 ≤ m.kind ∧ m.kind ≤ 3) ∧ (m.kind = 1 → m.frm = m.org) ∧ m.text.length ≤ 400) := by unfold fits; rw [decide_eq_true_iff]
theorem takeO_no (h : okF O m = false) : takeO O m = O ∧ tellO O m = [] ∧ overO O m = [] := ⟨by unfold takeO; rw [h]; rfl, by unfold tellO; rw [h]; rfl, by unfold overO; rw [h]; rfl⟩
theorem takeO_C (h : okF O m = true) : (takeO O m).C = setCs O.C m.org m.seq (casF O m) := by unfold takeO; rw [if_pos h]; rfl
theorem takeO_nx (h : okF O m = true) : (takeO O m).nx = fun x => if x = m.org then O.nx x + (gone O m : Int) else O.nx x := by unfold takeO; rw [if_pos h]
theorem takeO_same : (takeO O m).n = O.n ∧ (takeO O m).f = O.f ∧ (takeO O m).me = O.me ∧ (takeO O m).sd = O.sd := by unfold takeO; split <;> exact ⟨rfl, rfl, rfl, rfl⟩
theorem take_nfS {kind frm : Int} {tx : Tx} : (takeS S kind frm tx).n = S.n ∧ (takeS S kind frm tx).f = S.f := by
  unfold takeS
  split
  · exact ⟨rfl, rfl⟩
  · exact ⟨rcv_same.1, rcv_same.2.1⟩
theorem onew_ok {n f me : Int} (h1 : 1 ≤ n) (h2 : 0 ≤ f) : OdOK (onew n f me) := ⟨h1, h2, fun _ => Int.le_refl _, fun _ _ _ => rfl, fun _ _ _ => rfl, fun _ _ => ⟨rfl, rfl⟩, fun _ => rfl, fun _ s h3 h4 => by simp only [onew] at h4; omega, fun _ _ => cnew_sm n f⟩
theorem gone_le (h : OdOK O) (hm : okF O m = true) : gone O m ≤ 32 ∧ ((takeO O m).C m.org (O.nx m.org + (gone O m : Int))).dn = none := by
  have hk := ok_iffF.1 hm
  have h1 : gone O m ≤ 32 := run_le
  refine ⟨h1, ?_⟩
  rw [takeO_C hm]
  rcases Nat.lt_or_ge (gone O m) 32 with h2 | h2
  · exact run_end (g := (rcvO O m).C m.org) h2
  · rw [setC_ne (by omega), h.far m.org _ (by omega)]; rfl
theorem OdOK.take (h : OdOK O) : OdOK (takeO O m) := by
  cases hm : okF O m with
  | false => rw [(takeO_no hm).1]; exact h
  | true =>
    have hk := ok_iffF.1 hm
    have h0 := h.nx0 m.org
    obtain ⟨e1, e2, _, _⟩ := takeO_same (O := O) (m := m)
    have hC := takeO_C hm
    have hN := takeO_nx hm
    refine ⟨by rw [e1]; exact h.n1, by rw [e2]; exact h.f0, fun o => ?_, fun o s hs => ?_, fun o s hs => ?_, fun o s => ?_, fun o => ?_, fun o s h1 h2 => ?_, fun o s => ?_⟩
    · rw [hN]; have := h.nx0 o; simp only; split <;> omega
    · rw [hN] at hs; rw [e1, e2, hC]
      have hs2 : O.nx o + 32 ≤ s := by simp only at hs; split at hs <;> omega
      rw [setC_ne (fun z => by rw [z.1, z.2] at hs2; omega)]; exact h.far o s hs2
    · rw [e1, e2, hC, setC_ne (fun z => by omega)]; exact h.low o s hs
    · rw [e1, e2, hC]
      by_cases z : o = m.org ∧ s = m.seq
      · rw [z.1, z.2, setC_at]; unfold casF; rw [take_nfS.1, take_nfS.2]; exact h.nf _ _
      · rw [setC_ne z]; exact h.nf o s
    · by_cases z : o = m.org
      · subst z; rw [hN]; simp only [if_pos rfl]; exact (gone_le h hm).2
      · rw [hN, hC]; simp only [if_neg z]; rw [setC_ne (fun y => z y.1)]; exact h.stop o
    · rw [hN] at h2
      by_cases z : o = m.org
      · subst z
        simp only [if_pos rfl] at h2
        by_cases z2 : s < O.nx m.org
        · rw [hC, setC_ne (by omega)]; exact h.past _ _ h1 z2
        · have h3 := runD_in (g := (rcvO O m).C m.org) (k := 32) (s := O.nx m.org) (i := (s - O.nx m.org).toNat) (by unfold gone at h2; omega)
          rw [show O.nx m.org + (((s - O.nx m.org).toNat : Nat) : Int) = s by omega] at h3
          rw [hC]; exact h3
      · simp only [if_neg z] at h2
        rw [hC, setC_ne (fun y => z y.1)]; exact h.past o s h1 h2
    · rw [hC]
      by_cases z : o = m.org ∧ s = m.seq
      · rw [z.1, z.2, setC_at]
        exact (sm_take (h.sm _ _) (by rw [(h.nf _ _).1]; have := h.n1; omega) (by rw [(h.nf _ _).2]; exact h.f0) (fitsF_iff.1 hk.1).2.2.2.2).1
      · rw [setC_ne z]; exact h.sm o s
theorem OdOK.tells (h : OdOK O) (hm : okF O m = true) : ∀ p ∈ tellF (O.C m.org m.seq) m.kind m.frm m.text, (p.1 = 2 ∨ p.1 = 3) ∧ p.2.length ≤ 400 :=
  (sm_take (h.sm _ _) (by rw [(h.nf _ _).1]; have := h.n1; omega) (by rw [(h.nf _ _).2]; exact h.f0) (fitsF_iff.1 (ok_iffF.1 hm).1).2.2.2.2).2
def dlv (O : Od) (o : Int) : List Fm := (List.range (O.nx o).toNat).map fun (i : Nat) => dnF O.C o (i : Int)
theorem dlv_take (h : OdOK O) : dlv (takeO O m) o = dlv O o ++ (overO O m).filter fun x => decide (x.org = o) := by
  cases hm : okF O m with
  | false => rw [(takeO_no hm).1, (takeO_no hm).2.2]; simp
  | true =>
    have hk := ok_iffF.1 hm
    have h0 := h.nx0 m.org
    have e0 : overO O m = (List.range (gone O m)).map fun (i : Nat) => dnF (rcvO O m).C m.org (O.nx m.org + (i : Int)) := by unfold overO; rw [if_pos hm]
    unfold dlv
    rw [takeO_nx hm, takeO_C hm, e0]
    by_cases z : o = m.org
    · subst z
      simp only [↓reduceIte]
      rw [List.filter_eq_self.2 (fun x hx => by obtain ⟨i, _, rfl⟩ := List.mem_map.1 hx; simp [dnF])]
      rw [show (O.nx m.org + (gone O m : Int)).toNat = (O.nx m.org).toNat + gone O m by omega, List.range_add, List.map_append, List.map_map]
      congr 1
      · refine List.map_congr_left fun i hi => ?_
        have := List.mem_range.1 hi
        unfold dnF; rw [setC_ne (by omega)]
      · refine List.map_congr_left fun i hi => ?_
        show dnF _ _ (((O.nx m.org).toNat + i : Nat) : Int) = _
        rw [show (((O.nx m.org).toNat + i : Nat) : Int) = O.nx m.org + (i : Int) by omega]; rfl
    · simp only [if_neg z]
      rw [List.filter_eq_nil_iff.2 (fun x hx => by obtain ⟨i, _, rfl⟩ := List.mem_map.1 hx; simp [dnF, Ne.symm z]), List.append_nil]
      refine List.map_congr_left fun i hi => ?_
      unfold dnF; rw [setC_ne (fun y => z y.1)]
end
structure Sn where
  dst : Int
  fr : Fm
def prj (n o s : Int) (q : List Sn) : List Sy := q.filterMap fun x => if fits n x.fr = true ∧ x.fr.org = o ∧ x.fr.seq = s then some ⟨x.fr.kind, x.fr.frm, x.dst, x.fr.text⟩ else none
def updO (W : Int → Od) (j : Int) (O : Od) : Int → Od := fun x => if x = j then O else W x
def tellQ (f n : Int) (l : List Fm) : List Sn := l.flatMap fun m => (rngF f n).map fun j => ⟨j, m⟩
section
variable {n f o s : Int} {q q' : List Sn} {i : Nat} {j k : Int} {O : Od} {W : Int → Od} {m : Fm} {x : Sn}
theorem prj_app : prj n o s (q ++ q') = prj n o s q ++ prj n o s q' := List.filterMap_append
theorem prj_one (h : fits n x.fr = true ∧ x.fr.org = o ∧ x.fr.seq = s) : prj n o s [x] = [⟨x.fr.kind, x.fr.frm, x.dst, x.fr.text⟩] := by unfold prj; rw [List.filterMap_cons, if_pos h]; rfl
theorem prj_none (h : ¬ (fits n x.fr = true ∧ x.fr.org = o ∧ x.fr.seq = s)) : prj n o s [x] = [] := by unfold prj; rw [List.filterMap_cons, if_neg h]; rfl
theorem mem_prj {y : Sy} : y ∈ prj n o s q ↔ ∃ x ∈ q, (fits n x.fr = true ∧ x.fr.org = o ∧ x.fr.seq = s) ∧ y = ⟨x.fr.kind, x.fr.frm, x.dst, x.fr.text⟩ := by
  unfold prj
  rw [List.mem_filterMap]
  constructor
  · rintro ⟨x, hx, h⟩
    split at h
    · rename_i hc; injection h with h; exact ⟨x, hx, hc, h.symm⟩
    · cases h
  · rintro ⟨x, hx, hc, rfl⟩
    exact ⟨x, hx, if_pos hc⟩
theorem updO_at : updO W j O j = O := if_pos rfl
theorem updO_ne (h : k ≠ j) : updO W j O k = W k := if_neg h
theorem mem_tellQ {l : List Fm} : x ∈ tellQ f n l ↔ x.fr ∈ l ∧ hon n f x.dst := by
  unfold tellQ
  rw [List.mem_flatMap]
  constructor
  · rintro ⟨m, hm, hx⟩
    obtain ⟨j, hj, rfl⟩ := List.mem_map.1 hx
    exact ⟨hm, mem_rngF.1 hj⟩
  · rintro ⟨h1, h2⟩
    exact ⟨x.fr, h1, List.mem_map.2 ⟨x.dst, mem_rngF.2 h2, rfl⟩⟩
theorem prj_tell (hm : okF O m = true) (hn : O.n = n) (hme : 0 ≤ O.me ∧ O.me < n) (ht : (casF O m).n = n → True) (hT : ∀ p ∈ tellF (O.C m.org m.seq) m.kind m.frm m.text, (p.1 = 2 ∨ p.1 = 3) ∧ p.2.length ≤ 400) :
    prj n o s (tellQ f n (tellO O m)) = if m.org = o ∧ m.seq = s then toHon O.me f n (tellF (O.C m.org m.seq) m.kind m.frm m.text) else [] := by
  have hk := ok_iffF.1 hm
  have hf := fitsF_iff.1 hk.1
  rw [hn] at hf
  unfold tellO
  rw [if_pos hm]
  generalize tellF (O.C m.org m.seq) m.kind m.frm m.text = L at hT
  have hfit : ∀ p ∈ L, fits n ⟨p.1, O.me, 0, m.org, m.seq, p.2, B32.zero⟩ = true := fun p hp => by
    rw [fitsF_iff]
    have := hT p hp
    refine ⟨hme, hf.2.1, by simp only; omega, fun e => ?_, this.2⟩
    simp only at e; omega
  induction L with
  | nil => split <;> rfl
  | cons p r ih =>
    have ih := ih (fun p hp => hT p (by simp [hp])) (fun p hp => hfit p (by simp [hp]))
    have h1 := hfit p (by simp)
    show prj n o s (tellQ f n (⟨p.1, O.me, 0, m.org, m.seq, p.2, B32.zero⟩ :: _)) = _
    unfold tellQ at ih ⊢
    rw [List.flatMap_cons, prj_app, ih]
    have h2 : ∀ l : List Int, prj n o s (l.map fun j => (⟨j, ⟨p.1, O.me, 0, m.org, m.seq, p.2, B32.zero⟩⟩ : Sn)) = if m.org = o ∧ m.seq = s then l.map fun j => ⟨p.1, O.me, j, p.2⟩ else [] := fun l => by
      induction l with
      | nil => split <;> rfl
      | cons a r ihl =>
        rw [List.map_cons, show ∀ (z : Sn) (w : List Sn), z :: w = [z] ++ w from fun _ _ => rfl, prj_app, ihl]
        by_cases z : m.org = o ∧ m.seq = s
        · rw [if_pos z, if_pos z, prj_one ⟨h1, z⟩]; rfl
        · rw [if_neg z, if_neg z, prj_none (fun y => z y.2)]; rfl
    rw [h2]
    split
    · rfl
    · rfl
structure RunD (n f : Int) (hi : Int → Int → Option (Int × Tx)) (q0 : List Sn) (W : Int → Od) (q : List Sn) (i : Nat) : Prop where
  n1 : 1 ≤ n
  f0 : 0 ≤ f
  ok : ∀ k, hon n f k → OdOK (W k) ∧ (W k).n = n ∧ (W k).f = f ∧ (W k).me = k
  le : i ≤ q.length
  ext : ∃ e, q = q0 ++ e ∧ ∀ x ∈ e, fits n x.fr = true ∧ x.fr.kind ≠ 1 ∧ 0 ≤ x.fr.seq ∧ ∃ y ∈ q0, x.fr.org = y.fr.org ∧ x.fr.seq = y.fr.seq
  sim : ∀ o s, 0 ≤ o → o < n → 0 ≤ s → Sid n f (hi o s) (prj n o s q0).length (s < 32) (fun k => (W k).C o s) (prj n o s q) (prj n o s (q.take i)).length
theorem takeAllN (hl : i < q.length) : q.take (i + 1) = q.take i ++ [q[i]] := List.take_succ_eq_append_getElem hl
theorem prj_get (hl : i < q.length) (h : fits n (q[i]).fr = true ∧ (q[i]).fr.org = o ∧ (q[i]).fr.seq = s) :
    ∃ hl' : (prj n o s (q.take i)).length < (prj n o s q).length, (prj n o s q)[(prj n o s (q.take i)).length] = ⟨(q[i]).fr.kind, (q[i]).fr.frm, (q[i]).dst, (q[i]).fr.text⟩ := by
  have e : prj n o s q = prj n o s (q.take i) ++ ([⟨(q[i]).fr.kind, (q[i]).fr.frm, (q[i]).dst, (q[i]).fr.text⟩] ++ prj n o s (q.drop (i + 1))) := by
    rw [← prj_one h, ← prj_app, ← prj_app, ← List.append_assoc, ← takeAllN hl, List.take_append_drop]
  have hl' : (prj n o s (q.take i)).length < (prj n o s q).length := by rw [e]; simp
  refine ⟨hl', ?_⟩
  have : (prj n o s q)[(prj n o s (q.take i)).length]? = some ⟨(q[i]).fr.kind, (q[i]).fr.frm, (q[i]).dst, (q[i]).fr.text⟩ := by rw [e]; simp
  rw [List.getElem?_eq_getElem hl'] at this
  injection this
theorem prj_len (hl : i < q.length) : (prj n o s (q.take (i + 1))).length = (prj n o s (q.take i)).length + (if fits n (q[i]).fr = true ∧ (q[i]).fr.org = o ∧ (q[i]).fr.seq = s then 1 else 0) := by
  rw [takeAllN hl, prj_app, List.length_append]
  split
  · rename_i h; rw [prj_one h]; rfl
  · rename_i h; rw [prj_none h]; rfl
theorem RunD.pass {hi : Int → Int → Option (Int × Tx)} {q0 : List Sn} (h : RunD n f hi q0 W q i) (hl : i < q.length) (hd : ¬ hon n f (q[i]).dst) : RunD n f hi q0 W q (i + 1) := by
  refine ⟨h.n1, h.f0, h.ok, hl, h.ext, fun o s h1 h2 h3 => ?_⟩
  have H := h.sim o s h1 h2 h3
  rw [prj_len hl]
  split
  · rename_i hc
    obtain ⟨hl', e⟩ := prj_get hl hc
    exact H.pass hl' (by rw [e]; exact hd)
  · exact H
theorem upd_same (hO : (W j).C o s = O.C o s) : (fun k => (updO W j O k).C o s) = fun k => (W k).C o s := by
  funext k
  by_cases e : k = j
  · subst e; rw [updO_at]; exact hO.symm
  · rw [updO_ne e]
theorem RunD.step {hi : Int → Int → Option (Int × Tx)} {q0 : List Sn} (h : RunD n f hi q0 W q i) (hl : i < q.length) (hj : hon n f j) (hd : (q[i]).dst = j) :
    RunD n f hi q0 (updO W j (takeO (W j) (q[i]).fr)) (q ++ tellQ f n (tellO (W j) (q[i]).fr)) (i + 1) := by
  obtain ⟨hO, hn, hf, hme⟩ := h.ok j hj
  generalize hm : (q[i]).fr = m at *
  have hT : okF (W j) m = true → _ := fun hb => hO.tells hb
  have hqi : q[i] = ⟨j, m⟩ := by rw [← hm, ← hd]
  obtain ⟨s1, s2, s3, _⟩ := takeO_same (O := W j) (m := m)
  have hjn : 0 ≤ j ∧ j < n := ⟨by have := h.f0; unfold hon at hj; omega, hj.2⟩
  have hok : ∀ k, hon n f k → OdOK (updO W j (takeO (W j) m) k) ∧ (updO W j (takeO (W j) m) k).n = n ∧ (updO W j (takeO (W j) m) k).f = f ∧ (updO W j (takeO (W j) m) k).me = k := fun k hk => by
    by_cases e : k = j
    · subst e; rw [updO_at, s1, s2, s3]; exact ⟨hO.take, hn, hf, hme⟩
    · rw [updO_ne e]; exact h.ok k hk
  have htk : ∀ o s, prj n o s ((q ++ tellQ f n (tellO (W j) m)).take (i + 1)) = prj n o s (q.take (i + 1)) := fun o s => by rw [List.take_append_of_le_length (by omega)]
  have hlen : i + 1 ≤ (q ++ tellQ f n (tellO (W j) m)).length := by rw [List.length_append]; omega
  cases hb : okF (W j) m with
  | false =>
    obtain ⟨e1, e2, _⟩ := takeO_no hb
    rw [e2, show tellQ f n [] = [] from rfl, List.append_nil] at *
    refine ⟨h.n1, h.f0, hok, by omega, h.ext, fun o s h1 h2 h3 => ?_⟩
    have H := h.sim o s h1 h2 h3
    rw [e1, upd_same rfl, prj_len hl, hm]
    split
    · rename_i hc
      obtain ⟨hl', e⟩ := prj_get hl (by rw [hm]; exact hc)
      refine H.drop hl' fun hv => ?_
      rw [e, hd]
      show ((W j).C o s).dn.isSome = true
      have hno : ¬ ((W j).nx o ≤ s ∧ s < (W j).nx o + 32) := fun z => by
        have := ok_iffF.2 ⟨by rw [hn]; exact hc.1, by rw [hc.2.1, hc.2.2]; exact z.1, by rw [hc.2.1, hc.2.2]; exact z.2⟩
        rw [hb] at this; cases this
      have := hO.nx0 o
      exact hO.past o s h3 (by omega)
    · exact H
  | true =>
    have hk := ok_iffF.1 hb
    have hfi := fitsF_iff.1 hk.1
    rw [hn] at hk hfi
    have hnx := hO.nx0 m.org
    obtain ⟨e, he, hE⟩ := h.ext
    refine ⟨h.n1, h.f0, hok, hlen, ⟨e ++ tellQ f n (tellO (W j) m), by rw [he, List.append_assoc], fun x hx => ?_⟩, fun o s h1 h2 h3 => ?_⟩
    · rcases List.mem_append.1 hx with hx | hx
      · exact hE x hx
      · obtain ⟨hx1, hx2⟩ := mem_tellQ.1 hx
        unfold tellO at hx1
        rw [if_pos hb] at hx1
        obtain ⟨p, hp, hpe⟩ := List.mem_map.1 hx1
        have hp2 := hT hb p hp
        rw [← hpe]
        refine ⟨fitsF_iff.2 ⟨by rw [hme]; exact hjn, hfi.2.1, by simp only; omega, fun z => by simp only at z; omega, hp2.2⟩, by simp only; omega, by simp only; omega, ?_⟩
        have hqm : q[i] ∈ q := List.getElem_mem hl
        rw [hqi, he] at hqm
        rcases List.mem_append.1 hqm with hy | hy
        · exact ⟨_, hy, rfl, rfl⟩
        · obtain ⟨_, _, _, y, hy1, hy2, hy3⟩ := hE _ hy
          exact ⟨y, hy1, hy2, hy3⟩
    · have H := h.sim o s h1 h2 h3
      rw [htk, prj_len hl, prj_app, prj_tell hb hn (by rw [hme]; exact hjn) (fun _ => trivial) (hT hb), hm, hme]
      by_cases z : m.org = o ∧ m.seq = s
      · rw [if_pos z, if_pos ⟨hk.1, z⟩]
        obtain ⟨hl', e9⟩ := prj_get (n := n) (o := o) (s := s) hl (by rw [hm]; exact ⟨hk.1, z⟩)
        have S := H.step hl' hj (by rw [e9]; exact hd)
        rw [e9, hm] at S
        have eW : (fun k => (updO W j (takeO (W j) m) k).C o s) = updW (fun k => (W k).C o s) j (takeS ((W j).C o s) m.kind m.frm m.text) := by
          funext k
          by_cases e : k = j
          · subst e; rw [updO_at, upd_at, takeO_C hb, ← z.1, ← z.2, setC_at]; rfl
          · rw [updO_ne e, upd_ne _ _ e]
        rw [eW, z.1, z.2]
        exact S
      · rw [if_neg z, if_neg (fun y => z y.2), List.append_nil, upd_same (by rw [takeO_C hb, setC_ne (fun y => z ⟨y.1.symm, y.2.symm⟩)])]
        exact H
theorem prj_le (hl : ¬ i < q.length) (hi : i ≤ q.length) : (prj n o s (q.take i)).length = (prj n o s q).length := by rw [List.take_of_length_le (by omega)]
theorem RunD.agree {hi : Int → Int → Option (Int × Tx)} {q0 : List Sn} (h : RunD n f hi q0 W q i) (he : ¬ i < q.length) (hj : hon n f j) (hk : hon n f k) (h0 : 0 ≤ o) (h1 : o < n) (hx : (W j).nx o < 32) (hy : (W k).nx o < 32) : (W j).nx o = (W k).nx o ∧ dlv (W j) o = dlv (W k) o := by
  obtain ⟨J, _, _, _⟩ := h.ok j hj
  obtain ⟨K, _, _, _⟩ := h.ok k hk
  have tot : ∀ a b, hon n f a → hon n f b → ∀ s, 0 ≤ s → s < 32 → ∀ t, ((W a).C o s).dn = some t → ((W b).C o s).dn = some t := fun a b ha hb s hs1 hs2 t ht =>
    (h.sim o s h0 h1 hs1).total hs2 (by rw [prj_le he h.le]; omega) ha ht hb
  have le : ∀ a b, hon n f a → hon n f b → OdOK (W a) → OdOK (W b) → (W a).nx o < 32 → (W b).nx o ≤ (W a).nx o := fun a b ha hb A B hax => by
    rcases Int.lt_or_le ((W a).nx o) ((W b).nx o) with z | z
    · obtain ⟨t, ht⟩ := Option.isSome_iff_exists.1 (B.past o _ (A.nx0 o) z)
      have := tot b a hb ha _ (A.nx0 o) hax t ht
      rw [A.stop o] at this; cases this
    · exact z
  have e : (W j).nx o = (W k).nx o := Int.le_antisymm (le k j hk hj K J hy) (le j k hj hk J K hx)
  refine ⟨e, ?_⟩
  unfold dlv
  rw [e]
  refine List.map_congr_left fun i hi => ?_
  have hi2 := List.mem_range.1 hi
  obtain ⟨t, ht⟩ := Option.isSome_iff_exists.1 (J.past o i (by omega) (by omega))
  unfold dnF
  rw [ht, tot j k hj hk i (by omega) (by omega) t ht]
def iniN (n o : Int) (q : List Sn) (p : Sn → Bool) : Nat := (q.filter fun x => (fits n x.fr && decide (x.fr.kind = 1 ∧ x.fr.org = o)) && p x).length
theorem ini_prj : ((prj n o s q).filter fun y => decide (y.kind = 1)).length = iniN n o q fun x => decide (x.fr.seq = s) := by
  unfold iniN
  induction q with
  | nil => rfl
  | cons x r ih =>
    rw [show ∀ (z : Sn) (w : List Sn), z :: w = [z] ++ w from fun _ _ => rfl, prj_app, List.filter_append, List.length_append, ih, List.filter_append, List.length_append]
    congr 1
    by_cases hc : fits n x.fr = true ∧ x.fr.org = o ∧ x.fr.seq = s
    · rw [prj_one hc, List.filter_cons, List.filter_cons, hc.1]
      by_cases hk : x.fr.kind = 1
      · rw [if_pos (by simpa using hk), if_pos (by simp [hk, hc.2.1, hc.2.2])]; rfl
      · rw [if_neg (by simpa using hk), if_neg (by simp [hk])]; rfl
    · rw [prj_none hc, List.filter_cons, if_neg ?_]; rfl
      simp only [Bool.and_eq_true, decide_eq_true_eq]
      exact fun z => hc ⟨z.1.1, z.1.2.2, z.2⟩
theorem ini_e {e : List Sn} (h : ∀ x ∈ e, x.fr.kind ≠ 1) (p : Sn → Bool) : iniN n o e p = 0 := by
  unfold iniN
  rw [List.filter_eq_nil_iff.2 fun x hx => ?_]; rfl
  have := h x hx
  simp [this]
theorem ini_app (p : Sn → Bool) : iniN n o (q ++ q') p = iniN n o q p + iniN n o q' p := by unfold iniN; rw [List.filter_append, List.length_append]
theorem filt_sum (P p q r : Sn → Bool) (h : ∀ x, r x = (p x || q x) ∧ (p x && q x) = false) (l : List Sn) : (l.filter fun x => P x && r x).length = (l.filter fun x => P x && p x).length + (l.filter fun x => P x && q x).length := by
  induction l with
  | nil => rfl
  | cons x l ih =>
    obtain ⟨h1, h2⟩ := h x
    simp only [List.filter_cons, h1]
    cases hP : P x <;> cases hp : p x <;> cases hq : q x <;> simp [hp, hq] at h2 ⊢ <;> omega
theorem ini_split (m : Nat) : iniN n o q (fun x => decide (0 ≤ x.fr.seq ∧ x.fr.seq < ((m + 1 : Nat) : Int))) = iniN n o q (fun x => decide (0 ≤ x.fr.seq ∧ x.fr.seq < (m : Int))) + iniN n o q (fun x => decide (x.fr.seq = (m : Int))) :=
  filt_sum (fun x => fits n x.fr && decide (x.fr.kind = 1 ∧ x.fr.org = o)) _ _ _ (fun x => by
    by_cases h1 : 0 ≤ x.fr.seq ∧ x.fr.seq < (m : Int)
    · have h2 : ¬ x.fr.seq = (m : Int) := by omega
      have h3 : 0 ≤ x.fr.seq ∧ x.fr.seq < ((m + 1 : Nat) : Int) := by omega
      simp only [decide_eq_true h1, decide_eq_true h3, decide_eq_false h2]; exact ⟨rfl, rfl⟩
    · by_cases h2 : x.fr.seq = (m : Int)
      · have h3 : 0 ≤ x.fr.seq ∧ x.fr.seq < ((m + 1 : Nat) : Int) := by omega
        simp only [decide_eq_false h1, decide_eq_true h3, decide_eq_true h2]; exact ⟨rfl, rfl⟩
      · have h3 : ¬ (0 ≤ x.fr.seq ∧ x.fr.seq < ((m + 1 : Nat) : Int)) := by omega
        simp only [decide_eq_false h1, decide_eq_false h3, decide_eq_false h2]; exact ⟨rfl, rfl⟩) q
theorem RunD.begun {hi : Int → Int → Option (Int × Tx)} {q0 : List Sn} (h : RunD n f hi q0 W q i) (hk : hon n f k) (h0 : 0 ≤ o) (h1 : o < n) {t : Tx} (hs : 0 ≤ s) (hd : ((W k).C o s).dn = some t) : (n + f) / 2 + 1 - f ≤ (iniN n o q0 fun x => decide (x.fr.seq = s) : Int) := by
  have h2 := (h.sim o s h0 h1 hs).inits hk hd
  obtain ⟨e, he, hE⟩ := h.ext
  rw [ini_prj, he, ini_app, ini_e (fun x hx => (hE x hx).2.1)] at h2
  simpa using h2
theorem RunD.ahead {hi : Int → Int → Option (Int × Tx)} {q0 : List Sn} (h : RunD n f hi q0 W q i) (hk : hon n f k) (h0 : 0 ≤ o) (h1 : o < n) : ((n + f) / 2 + 1 - f) * (W k).nx o ≤ (iniN n o q0 fun _ => true : Int) := by
  obtain ⟨K, _, _, _⟩ := h.ok k hk
  have hm : ∀ m : Nat, (m : Int) ≤ (W k).nx o → ((n + f) / 2 + 1 - f) * (m : Int) ≤ (iniN n o q0 fun x => decide (0 ≤ x.fr.seq ∧ x.fr.seq < (m : Int)) : Int) := fun m => by
    induction m with
    | zero => intro _; rw [show ((0 : Nat) : Int) = 0 from rfl, Int.mul_zero]; omega
    | succ m ih =>
      intro hle
      have ih := ih (by omega)
      obtain ⟨t, ht⟩ := Option.isSome_iff_exists.1 (K.past o m (by omega) (by omega))
      have h2 := h.begun hk h0 h1 (by omega) ht
      rw [ini_split m, show ((m + 1 : Nat) : Int) = (m : Int) + 1 by omega, Int.mul_add, Int.mul_one]
      omega
  have h2 := hm ((W k).nx o).toNat (by have := K.nx0 o; omega)
  rw [show ((((W k).nx o).toNat : Nat) : Int) = (W k).nx o by have := K.nx0 o; omega] at h2
  refine Int.le_trans h2 (Int.ofNat_le.2 ?_)
  unfold iniN
  have : ∀ l : List Sn, (l.filter fun x => (fits n x.fr && decide (x.fr.kind = 1 ∧ x.fr.org = o)) && decide (0 ≤ x.fr.seq ∧ x.fr.seq < (W k).nx o)).length ≤ (l.filter fun x => (fits n x.fr && decide (x.fr.kind = 1 ∧ x.fr.org = o)) && true).length := fun l => by
    induction l with
    | nil => exact Nat.le_refl _
    | cons x r ih =>
      rw [List.filter_cons, List.filter_cons, Bool.and_true]
      cases (fits n x.fr && decide (x.fr.kind = 1 ∧ x.fr.org = o)) with
      | true => rw [if_pos rfl]; split <;> simp only [List.length_cons] <;> omega
      | false => simp only [Bool.false_and, Bool.false_eq_true, if_false]; exact ih
  exact this q0
theorem filt_le (p r : Sn → Bool) (h : ∀ x, p x = true → r x = true) (l : List Sn) : (l.filter p).length ≤ (l.filter r).length := by
  induction l with
  | nil => exact Nat.le_refl _
  | cons x l ih =>
    have := h x
    rw [List.filter_cons, List.filter_cons]
    cases hp : p x with
    | true => rw [if_pos rfl, if_pos (this hp)]; simp only [List.length_cons]; omega
    | false => rw [if_neg (by simp)]; split
               · simp only [List.length_cons]; omega
               · exact ih
theorem prj_fit {e : List Sn} (h : ∀ x ∈ e, fits n x.fr = true) : (prj n o s e).length = (e.filter fun x => decide (x.fr.org = o ∧ x.fr.seq = s)).length := by
  induction e with
  | nil => rfl
  | cons x r ih =>
    rw [show ∀ (z : Sn) (w : List Sn), z :: w = [z] ++ w from fun _ _ => rfl, prj_app, List.length_append, List.filter_append, List.length_append, ih (fun y hy => h y (by simp [hy]))]
    congr 1
    have hx := h x (by simp)
    by_cases hc : x.fr.org = o ∧ x.fr.seq = s
    · rw [prj_one ⟨hx, hc⟩, List.filter_cons, if_pos (by simpa using hc)]; rfl
    · rw [prj_none (fun z => hc z.2), List.filter_cons, if_neg (by simpa using hc)]; rfl
theorem cover_le {e : List Sn} (q0 : List Sn) (c : Nat) (h : ∀ x ∈ e, ∃ y ∈ q0, x.fr.org = y.fr.org ∧ x.fr.seq = y.fr.seq) (hc : ∀ y ∈ q0, (e.filter fun x => decide (x.fr.org = y.fr.org ∧ x.fr.seq = y.fr.seq)).length ≤ c) : e.length ≤ q0.length * c := by
  induction q0 generalizing e with
  | nil =>
    cases e with
    | nil => exact Nat.zero_le _
    | cons x r => obtain ⟨y, hy, _⟩ := h x (by simp); cases hy
  | cons y r ih =>
    have h1 := hc y (by simp)
    have h2 := ih (e := e.filter fun x => !decide (x.fr.org = y.fr.org ∧ x.fr.seq = y.fr.seq)) (fun x hx => by
      obtain ⟨hx1, hx2⟩ := List.mem_filter.1 hx
      obtain ⟨z, hz, hz2⟩ := h x hx1
      rcases List.mem_cons.1 hz with rfl | hz
      · simp [hz2] at hx2
      · exact ⟨z, hz, hz2⟩) (fun z hz => Nat.le_trans (by
        rw [List.filter_filter]
        exact filt_le _ _ (fun x hx => by simp only [Bool.and_eq_true] at hx; exact hx.1) e) (hc z (by simp [hz])))
    have h3 : ∀ l : List Sn, l.length = (l.filter fun x => decide (x.fr.org = y.fr.org ∧ x.fr.seq = y.fr.seq)).length + (l.filter fun x => !decide (x.fr.org = y.fr.org ∧ x.fr.seq = y.fr.seq)).length := fun l => by
      induction l with
      | nil => rfl
      | cons a l ih =>
        rw [List.filter_cons, List.filter_cons]
        by_cases hz : a.fr.org = y.fr.org ∧ a.fr.seq = y.fr.seq
        · rw [decide_eq_true hz]; simp only [if_true, Bool.not_true, Bool.false_eq_true, if_false, List.length_cons]; omega
        · rw [decide_eq_false hz]; simp only [Bool.not_false, if_true, Bool.false_eq_true, if_false, List.length_cons]; omega
    rw [h3 e, List.length_cons, Nat.succ_mul]
    omega
theorem RunD.bound {hi : Int → Int → Option (Int × Tx)} {q0 : List Sn} (h : RunD n f hi q0 W q i) (c : Nat) (hc : 2 * ((n - f) * n) ≤ (c : Int)) : q.length ≤ q0.length + q0.length * c := by
  obtain ⟨e, he, hE⟩ := h.ext
  have h1 := cover_le (e := e) q0 c (fun x hx => (hE x hx).2.2.2) (fun y hy => by
    cases hl : e.filter fun x => decide (x.fr.org = y.fr.org ∧ x.fr.seq = y.fr.seq) with
    | nil => exact Nat.zero_le _
    | cons z l =>
      rw [← hl]
      have hz : z ∈ e.filter fun x => decide (x.fr.org = y.fr.org ∧ x.fr.seq = y.fr.seq) := by rw [hl]; simp
      obtain ⟨hz1, hz2⟩ := List.mem_filter.1 hz
      simp only [decide_eq_true_eq] at hz2
      obtain ⟨hz3, _, hz4, _⟩ := hE z hz1
      have hz5 := (fitsF_iff.1 hz3).2.1
      have h2 := (h.sim y.fr.org y.fr.seq (by omega) (by omega) (by omega)).bound
      rw [he, prj_app, List.length_append, prj_fit (fun x hx => (hE x hx).1)] at h2
      omega)
  rw [he, List.length_append]; omega
def saidF (n i : Int) (t : Tx) : Fm := ⟨1, n - 1, 0, n - 1, i, t, B32.zero⟩
def saidQ (f n : Int) (texts : List Tx) (k : Nat) : List Sn := (List.range k).flatMap fun (i : Nat) => (rngF f n).map fun j => ⟨j, saidF n (i : Int) (texts.getD i [])⟩
def hiO (n : Int) (texts : List Tx) (o s : Int) : Option (Int × Tx) := if o = n - 1 ∧ 0 ≤ s ∧ s < (texts.length : Int) then some (n - 1, texts.getD s.toNat []) else none
theorem mem_saidQ {texts : List Tx} {c : Nat} : x ∈ saidQ f n texts c ↔ ∃ i : Nat, i < c ∧ hon n f x.dst ∧ x.fr = saidF n (i : Int) (texts.getD i []) := by
  unfold saidQ
  rw [List.mem_flatMap]
  constructor
  · rintro ⟨i, hi, hx⟩
    obtain ⟨j, hj, rfl⟩ := List.mem_map.1 hx
    exact ⟨i, List.mem_range.1 hi, mem_rngF.1 hj, rfl⟩
  · rintro ⟨i, hi, hj, hx⟩
    exact ⟨i, List.mem_range.2 hi, List.mem_map.2 ⟨x.dst, mem_rngF.2 hj, by rw [← hx]⟩⟩
theorem saidQ_succ {texts : List Tx} {c : Nat} : saidQ f n texts (c + 1) = saidQ f n texts c ++ (rngF f n).map fun j => ⟨j, saidF n (c : Int) (texts.getD c [])⟩ := by
  unfold saidQ; rw [List.range_succ, List.flatMap_append]; simp
theorem saidQ_len {texts : List Tx} {c : Nat} : (saidQ f n texts c).length = c * (n - f).toNat := by
  induction c with
  | zero => simp [saidQ]
  | succ c ih => rw [saidQ_succ, List.length_append, ih, List.length_map, rngF_len, Nat.succ_mul]
theorem RunD.start {texts : List Tx} {lies : List Sn} (h1 : 1 ≤ n) (h0 : 0 ≤ f) (h3 : 3 * f < n) (hl : ∀ x ∈ lies, x.fr.frm < f) (ht : ∀ t ∈ texts, t.length ≤ 400)
    (hW : ∀ k, (W k).n = n ∧ (W k).f = f ∧ (W k).me = k ∧ (W k).C = (fun _ _ => cnewS n f) ∧ (W k).nx = fun _ => 0) : RunD n f (hiO n texts) (lies ++ saidQ f n texts texts.length) W (lies ++ saidQ f n texts texts.length) 0 := by
  have hq : ∀ x ∈ lies ++ saidQ f n texts texts.length, ∀ o s, fits n x.fr = true ∧ x.fr.org = o ∧ x.fr.seq = s → (f ≤ x.fr.frm ∨ (x.fr.kind = 1 ∧ o = n - 1)) → x.fr.kind = 1 ∧ hiO n texts o s = some (x.fr.frm, x.fr.text) := fun x hx o s hc hf => by
    have hfi := fitsF_iff.1 hc.1
    rcases List.mem_append.1 hx with hx | hx
    · have := hl x hx
      rcases hf with hf | hf
      · omega
      · have := hfi.2.2.2.1 hf.1; omega
    · obtain ⟨i, hi, _, e⟩ := mem_saidQ.1 hx
      rw [e] at hc ⊢
      obtain ⟨_, e1, e2⟩ := hc
      simp only [saidF] at e1 e2 ⊢
      refine ⟨trivial, ?_⟩
      unfold hiO
      rw [if_pos (by omega), show s.toNat = i by omega]
  refine ⟨h1, h0, fun k _ => ?_, Nat.zero_le _, ⟨[], by rw [List.append_nil], fun x hx => by cases hx⟩, fun o s o0 o1 s0 => ?_⟩
  · obtain ⟨e1, e2, e3, e4, e5⟩ := hW k
    refine ⟨⟨by omega, by omega, fun o => by rw [e5]; exact Int.le_refl _, fun o s _ => by rw [e4, e1, e2], fun o s _ => by rw [e4, e1, e2], fun o s => by rw [e4, e1, e2]; exact ⟨rfl, rfl⟩, fun o => by rw [e4]; rfl, fun o s a b => by rw [e5] at b; simp only at b; omega, fun o s => by rw [e4]; exact cnew_sm n f⟩, e1, e2, e3⟩
  · have eW : (fun k => (W k).C o s) = fun _ => cnewS n f := by funext k; rw [(hW k).2.2.2.1]
    rw [eW, List.take_zero]
    refine Sid.start h1 h0 h3 (fun y hy => ?_) (fun y hy hf => ?_) (fun o' t hh => ?_)
    · obtain ⟨x, _, hc, rfl⟩ := mem_prj.1 hy
      exact (fitsF_iff.1 hc.1).1
    · obtain ⟨x, hx, hc, rfl⟩ := mem_prj.1 hy
      exact hq x hx o s hc (.inl hf)
    · have hh2 := hh
      unfold hiO at hh
      split at hh
      · rename_i hos
        injection hh with hh
        injection hh with ho2 ht2
        refine ⟨fun y hy hk => ?_, fun m hm => ?_, by subst ho2; exact ⟨by omega, by omega⟩⟩
        · obtain ⟨x, hx, hc, rfl⟩ := mem_prj.1 hy
          have := (hq x hx o s hc (.inr ⟨hk, hos.1⟩)).2
          rw [hh2] at this
          injection this with this; injection this with _ this
          exact this.symm
        · refine mem_prj.2 ⟨⟨m, saidF n s t⟩, List.mem_append.2 (.inr (mem_saidQ.2 ⟨s.toNat, by omega, hm, by show saidF n s t = _; rw [ht2, show ((s.toNat : Nat) : Int) = s by omega]⟩)), ⟨fitsF_iff.2 ?_, hos.1.symm, rfl⟩, by subst ho2; rfl⟩
          have htl : t.length ≤ 400 := ht t (by rw [← ht2, List.getD_eq_getElem?_getD, List.getElem?_eq_getElem (by omega : s.toNat < texts.length)]; exact List.getElem_mem _)
          refine ⟨by simp only [saidF]; omega, by simp only [saidF]; omega, by simp only [saidF]; omega, fun _ => rfl, htl⟩
      · cases hh
theorem RunD.mine {texts : List Tx} {lies : List Sn} (h : RunD n f (hiO n texts) (lies ++ saidQ f n texts texts.length) W q i) (he : ¬ i < q.length) (h3 : 3 * f < n) (hl : ∀ x ∈ lies, x.fr.frm < f) (hc : texts.length < 32) (hk : hon n f k) :
    (W k).nx (n - 1) = (texts.length : Int) ∧ dlv (W k) (n - 1) = (List.range texts.length).map fun (i : Nat) => ⟨0, 0, 0, n - 1, (i : Int), texts.getD i [], B32.zero⟩ := by
  obtain ⟨K, _, _, _⟩ := h.ok k hk
  have hn := h.n1
  have hf := h.f0
  have hall : ∀ s : Nat, s < texts.length → ((W k).C (n - 1) s).dn = some (texts.getD s []) := fun s hs =>
    (h.sim (n - 1) s (by omega) (by omega) (by omega)).origin (by omega) (by rw [prj_le he h.le]; omega) (o := n - 1) (by unfold hiO; rw [if_pos ⟨rfl, by omega, by omega⟩]; rfl) hk
  have h0 := K.nx0 (n - 1)
  have e : (W k).nx (n - 1) = (texts.length : Int) := by
    rcases Int.lt_trichotomy ((W k).nx (n - 1)) (texts.length : Int) with z | z | z
    · have h1 := hall ((W k).nx (n - 1)).toNat (by omega)
      rw [show ((((W k).nx (n - 1)).toNat : Nat) : Int) = (W k).nx (n - 1) by omega, K.stop] at h1
      cases h1
    · exact z
    · obtain ⟨t, ht⟩ := Option.isSome_iff_exists.1 (K.past (n - 1) texts.length (by omega) z)
      have h1 := h.begun hk (by omega) (by omega) (by omega) ht
      have h2 : iniN n (n - 1) (lies ++ saidQ f n texts texts.length) (fun x => decide (x.fr.seq = (texts.length : Int))) = 0 := by
        unfold iniN
        rw [List.filter_eq_nil_iff.2 fun x hx => ?_]; rfl
        simp only [Bool.and_eq_true, decide_eq_true_eq]
        rintro ⟨⟨z1, z2⟩, z3⟩
        have hfi := fitsF_iff.1 z1
        rcases List.mem_append.1 hx with hx | hx
        · have := hl x hx; have := hfi.2.2.2.1 z2.1; omega
        · obtain ⟨i, hi, _, e⟩ := mem_saidQ.1 hx
          rw [e] at z3; simp only [saidF] at z3; omega
      rw [h2] at h1
      omega
  refine ⟨e, ?_⟩
  unfold dlv
  rw [e, show ((texts.length : Nat) : Int).toNat = texts.length by omega]
  refine List.map_congr_left fun i hi => ?_
  unfold dnF
  rw [hall i (List.mem_range.1 hi)]; rfl
theorem RunD.small {texts : List Tx} {lies : List Sn} (h : RunD n f (hiO n texts) (lies ++ saidQ f n texts texts.length) W q i) (he : ¬ i < q.length) (h3 : 3 * f < n) (hn4 : n ≤ 4) (hf1 : f ≤ 1) (hl : ∀ x ∈ lies, x.fr.frm < f) (hll : lies.length ≤ 60) (hc : texts.length ≤ 3) (hk : hon n f k) (o0 : 0 ≤ o) (o1 : o < n) : (W k).nx o < 32 := by
  have hn := h.n1
  have hf := h.f0
  by_cases z : o = n - 1
  · subst z; rw [(h.mine he h3 hl (by omega) hk).1]; omega
  · have h1 := h.ahead hk o0 o1
    have h2 : iniN n o (saidQ f n texts texts.length) (fun _ => true) = 0 := by
      unfold iniN
      rw [List.filter_eq_nil_iff.2 fun x hx => ?_]; rfl
      simp only [Bool.and_eq_true, decide_eq_true_eq]
      rintro ⟨⟨z1, z2⟩, z3⟩
      obtain ⟨i, hi, _, e⟩ := mem_saidQ.1 hx
      rw [e] at z2; simp only [saidF] at z2; omega
    rw [ini_app, h2, Nat.add_zero] at h1
    have h4 : iniN n o lies (fun _ => true) ≤ lies.length := List.length_filter_le _ _
    by_cases y : f = 0
    · have h5 : iniN n o lies (fun _ => true) = 0 := by
        unfold iniN
        rw [List.filter_eq_nil_iff.2 fun x hx => ?_]; rfl
        simp only [Bool.and_eq_true, decide_eq_true_eq]
        rintro ⟨⟨z1, z2⟩, z3⟩
        have := hl x hx
        have := (fitsF_iff.1 z1).1
        omega
      rw [h5, y] at h1
      have h6 : 1 * (W k).nx o ≤ ((n + 0) / 2 + 1 - 0) * (W k).nx o := Int.mul_le_mul_of_nonneg_right (by omega) ((h.ok k hk).1.nx0 o)
      omega
    · have e1 : f = 1 := by omega
      have e2 : n = 4 := by omega
      subst e1 e2
      omega
end
end Go.Proofs.Ytcobpabmmbcjcaa
