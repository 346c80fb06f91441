/- Put together: Bk, Bo. -/
import Derived.Test.YtcnmmnhlhenifaaGreatJ5
namespace Go.Proofs.YtcnmmnhlhenifaaGreat
open Go.RowKit
set_option maxRecDepth 100000
set_option linter.unusedSimpArgs false
set_option linter.unusedVariables false
structure RBkV (r : Nat) (n : Int) (ev bv : Value) (Q : List RB) (w : World) : Prop where
  top : Blk w r 50 #[.int .i64 n, ev, bv]
  row : RdP w bv (Q.map (·.1))
  bags : ObjsV fpRB RBV Q w
  a1 : ¬ r ∈ Q.flatMap fpRB
  a3 : 0 < (Q.map (·.1)).length → ¬ gof bv ∈ Q.flatMap fpRB
  len : Q.length = n.toNat
  n1 : 1 ≤ n
  n8 : n ≤ 8
def fpR11 (r : Nat) (n : Int) (ev bv : Value) (Q : List RB) : List Nat := r :: (fpN bv (Q.map (·.1)).length ++ Q.flatMap fpRB)
section
variable {r : Nat} {n : Int} {ev bv : Value} {Q : List RB} {w w' : World}
theorem RBkV.loc (r : Nat) (n : Int) (ev bv : Value) (Q : List RB) : Loc (fpR11 r n ev bv Q) (RBkV r n ev bv Q) := fun w w' hk h => by
  have h1 := blk_loc w w' (fun g hg => hk g (by simp only [List.mem_singleton] at hg; simp [fpR11, hg])) h.top
  have h3 := h.row.keep (w' := w') (fun g hg => hk g (by simp only [fpR11, List.mem_cons, List.mem_append]; exact .inr (.inl hg)))
  have h4 := ObjsV.loc RBV.loc Q w w' (fun g hg => hk g (by simp only [fpR11, List.mem_cons, List.mem_append]; exact .inr (.inr hg))) h.bags
  refine ⟨⟨h1.1, h3.1, h4.1, h.a1, h.a3, h.len, h.n1, h.n8⟩, fun g hg => ?_⟩
  simp only [fpR11, List.mem_cons, List.mem_append] at hg
  rcases hg with rfl | hg | hg
  · exact h1.2 _ (by simp)
  · exact h3.2 g hg
  · exact h4.2 g hg
theorem RBkV.turn (h : RBkV r n ev bv Q w) {Z : Value → List RB → Prop} {e : Ending} (hz : ∀ v Q', Z v Q' → Q'.map (·.1) = Q.map (·.1))
    (ht : TurnsE w (.own (Q.flatMap fpRB) (ObjsV fpRB RBV Q)) (fun v x' => ∃ Q', Z v Q' ∧ x' = .own (Q'.flatMap fpRB) (ObjsV fpRB RBV Q')) e w') :
    TurnsE w (.own (fpR11 r n ev bv Q) (RBkV r n ev bv Q)) (fun v x' => ∃ Q', Z v Q' ∧ x' = .own (fpR11 r n ev bv Q') (RBkV r n ev bv Q')) e w' := by
  obtain ⟨v, x', h1, h2, h3, h4, h5, Q', h6, rfl⟩ := ht
  have hp := hz v Q' h6
  have hl : Q'.length = Q.length := by have := congrArg List.length hp; simpa using this
  have hr := (blk_loc w w (fun _ _ => rfl) h.top).2 r (by simp)
  have hb := (h.row.keep (w' := w) (fun _ _ => rfl)).2
  have h4' : ∀ g ∈ Q'.flatMap fpRB, g ∈ Q.flatMap fpRB ∨ w.heap.size ≤ g := h4
  have keep : ∀ g, g < w.heap.size → ¬ g ∈ Q.flatMap fpRB → w'.heap[g]? = w.heap[g]? := fun g h7 h8 => h2.block g h7 h8
  have gb : ∀ g ∈ fpN bv (Q.map (·.1)).length, ¬ g ∈ Q.flatMap fpRB := fun g hg => by
    obtain ⟨h7, rfl⟩ := mem_fpN.1 hg; exact h.a3 h7
  refine ⟨v, .own (fpR11 r n ev bv Q') (RBkV r n ev bv Q'), h1, h2.mono (fun g hg => by simp only [Ent.fp, fpR11, List.mem_cons, List.mem_append]; exact .inr (.inr hg)), ⟨⟨?_, ?_, h3.1, ?_, ?_, by rw [hl]; exact h.len, h.n1, h.n8⟩, RBkV.loc _ _ _ _ _⟩, fun g hg => ?_, rfl, Q', h6, rfl⟩
  · exact (blk_loc w w' (fun g hg => by simp only [List.mem_singleton] at hg; subst hg; exact keep _ hr h.a1) h.top).1
  · rw [hp]; exact (h.row.keep (w' := w') fun g hg => keep g (hb g hg) (gb g hg)).1
  · intro h7
    rcases h4' r h7 with h8 | h8
    · exact h.a1 h8
    · omega
  · intro h9 h7
    rw [hp] at h9
    rcases h4' _ h7 with h8 | h8
    · exact h.a3 h9 h8
    · have := hb (gof bv) (mem_fpN.2 ⟨h9, rfl⟩); omega
  · simp only [Ent.fp, fpR11, List.mem_cons, List.mem_append] at hg ⊢
    rcases hg with hg | hg | hg
    · exact .inl (.inl hg)
    · rw [hp] at hg; exact .inl (.inr (.inl hg))
    · rcases h4' g hg with h8 | h8
      · exact .inl (.inr (.inr h8))
      · exact .inr h8
end
theorem RBkV.made {w0 w : World} {B : List Ent} {r : Nat} {n : Int} {ev bv : Value} {Q : List RB} {Bs : Bags} {i k l : Nat} {ty : TypeId} (M : Mm [] w0 w B) (hi : B[i]? = some (.blk r 50 #[.int .i64 n, ev, bv])) (hk : B[k]? = some (.row ty 1 bv (Q.map (·.1)).length (cP (Q.map (·.1))))) (hl : B[l]? = some (.own (Q.flatMap fpRB) (ObjsV fpRB RBV Q)))
    (h1 : i ≠ l) (h3 : k ≠ l) (hlen : Q.length = n.toNat) (hn1 : 1 ≤ n) (hn8 : n ≤ 8) (hb : bagsR Q = Bs) :
    MakesE w0 (fun v x => ∃ r bv Q, v = .tuple #[.pointer (some ⟨r, 0, none⟩), .int .i64 0] ∧ x = .own (fpR11 r n ev bv Q) (RBkV r n ev bv Q) ∧ bagsR Q = Bs) (.returned (.tuple #[.pointer (some ⟨r, 0, none⟩), .int .i64 0])) w := by
  have new : ∀ (q : Nat) (x : Ent) (n : Nat), B[n]? = some x → q ∈ x.fp → w0.heap.size ≤ q := fun q x n hn hq => (M.own x (List.mem_of_getElem? hn) q hq).elim id (fun z => by cases z)
  refine ⟨_, .own (fpR11 r n ev bv Q) (RBkV r n ev bv Q), rfl, M.bel, ⟨⟨M.at hi, M.rv hk, M.pv hl, M.apart hi hl h1 r (by simp [Ent.fp]), fun hn => M.apart hk hl h3 (gof bv) (by
    have := own_spot (M.ow hk) hn
    simp [Ent.fp, this.1]), hlen, hn1, hn8⟩, RBkV.loc _ _ _ _ _⟩, fun q hq => ?_, rfl, r, bv, Q, rfl, rfl, hb⟩
  simp only [Ent.fp, fpR11, List.mem_cons, List.mem_append] at hq
  rcases hq with rfl | hq | hq
  · exact new _ _ i hi (by simp [Ent.fp])
  · exact new _ _ k hk (by have := own_fpN (M.ow hk) hq; simp [Ent.fp, this])
  · exact new _ _ l hl hq
theorem RBkV.ok {r : Nat} {n : Int} {ev bv : Value} {Q : List RB} {w : World} (h : RBkV r n ev bv Q w) : OKs (bagsR Q) := fun i hi => by
  rw [bagsR_len] at hi
  rw [atK_bagsR]; exact (objs_ref h.bags hi).2.2
theorem RBkV.okO {r : Nat} {n : Int} {ev bv : Value} {Q : List RB} {w : World} (h : RBkV r n ev bv Q w) (i : Nat) : BagOK (atO Q i).2.2 := by
  rcases Nat.lt_or_ge i Q.length with hi | hi
  · exact (objs_ref h.bags hi).2.2
  · have : (atO Q i).2.2 = [] := by unfold atO; rw [List.getD_eq_getElem?_getD, List.getElem?_eq_none hi]; rfl
    rw [this]; exact bag_nil
end Go.Proofs.YtcnmmnhlhenifaaGreat
namespace Go.Proofs.YtcnmmnhlhenifaaGreat
open Go.RowKit
set_option maxRecDepth 100000
set_option linter.unusedSimpArgs false
set_option linter.unusedVariables false
def RBk (r : Nat) (fp : List Nat) (n : Int) (ev : Value) (B : Bags) (w : World) : Prop := ∃ bv Q, fp = fpR11 r n ev bv Q ∧ RBkV r n ev bv Q w ∧ bagsR Q = B
theorem RBk.loc (r : Nat) (fp : List Nat) (n : Int) (ev : Value) (B : Bags) : Loc fp (RBk r fp n ev B) := fun w w' hk ⟨bv, Q, e, h, hb⟩ => by
  subst e
  have z := RBkV.loc r n ev bv Q w w' hk h
  exact ⟨⟨bv, Q, rfl, z.1, hb⟩, z.2⟩
theorem Mm.farOwn {R : List Nat} {w0 w : World} {B : List Ent} (M : Mm R w0 w B) {i j m n : Nat} {v : Value} {xs : List Value} {fp : List Nat} {Φ : World → Prop} (hi : B[i]? = some (.arg m v n xs)) (hj : B[j]? = some (.own fp Φ)) : 0 < n → ¬ gof v ∈ fp := fun hn hm => by
  have h1 := M.far _ (List.mem_of_getElem? hi) (gof v) (by simp only [Ent.base]; rw [if_neg (by omega)]; simp)
  rcases M.own _ (List.mem_of_getElem? hj) (gof v) hm with h2 | h2
  · omega
  · exact h1.2 h2
theorem fits_f {n : Int} {E : List Ed} (h : (checkG n E).1 = 0) : ∀ i : Nat, i < E.length → 0 ≤ (atG E i).f ∧ (atG E i).f < n := fun i hi => by
  have := fit_t (check_ok h).2.2.2.1 (atG_mem (i := i) hi)
  omega
theorem smB_O {Q : List RB} {m : Nat} (h : SmB (bagsR Q) m) (hm : m ≤ 500000) (i : Nat) : (atO Q i).2.2.length ≤ 500000 := by
  have := h i
  rw [atK_bagsR] at this; omega
theorem holds_len {B : Bags} {m : Nat} {k : Int} (h : SmB B m) : (atT B k).length ≤ m := by
  unfold atT; split
  · exact h _
  · simp
theorem smB_lit {B : Bags} {m : Nat} (h : ∀ C ∈ B, C.length ≤ m) : SmB B m := fun i => by
  rcases Nat.lt_or_ge i B.length with hi | hi
  · rw [atK_eq hi]; exact h _ (List.getElem_mem hi)
  · rw [atK_out hi]; simp
section
variable {n : Int} {E : List Ed} {B : Bags} {x : En} {m : Nat}
theorem smB_ent (h : SmB B m) (x : En) : SmB (entB n E B x) (m + 1) := fun i => by
  unfold entB
  split
  · have := h i; omega
  · by_cases hb : x.po.n.toNat < B.length
    · rw [atK_set hb]
      split
      · have := addC_len (atK B x.po.n.toNat) x.po.t (signN x); have := h x.po.n.toNat; omega
      · have := h i; omega
    · rw [List.set_eq_of_length_le (by omega)]; have := h i; omega
theorem ok_ent (h : OKs B) (x : En) : OKs (entB n E B x) := fun i hi => by
  rw [ent_len] at hi
  unfold entB
  split
  · exact h i hi
  · by_cases hb : x.po.n.toNat < B.length
    · rw [atK_set hb]
      split
      · rename_i e; subst e; exact (h _ hb).add _ _
      · exact h i hi
    · rw [List.set_eq_of_length_le (by omega)]; exact h i hi
def PosB (B : Bags) : Prop := ∀ i, i < B.length → ∀ c ∈ atK B i, 0 < c.2
def exH (L : List (List (List St))) (B : Bags) (p : Po) (i j : Nat) : Prop := (∃ m, m < i ∧ ∃ c ∈ atK B m, couldC L ⟨(m : Int), c.1⟩ p = true) ∨ ∃ c ∈ (atK B i).take j, couldC L ⟨(i : Int), c.1⟩ p = true
end
section
variable {L : List (List (List St))} {B : Bags} {p : Po}
end
def totC (C : List Ct) : Int := (C.map (·.2)).sum
def totB (B : Bags) : Int := (B.map totC).sum
section
variable {n : Int} {E : List Ed} {B : Bags} {x : En}
def leftB (B : Bags) (i j : Nat) : Int := totC ((atK B i).drop j) + totB (B.drop (i + 1))
end
section
variable {t : St} {x y : Int}
end
end Go.Proofs.YtcnmmnhlhenifaaGreat
