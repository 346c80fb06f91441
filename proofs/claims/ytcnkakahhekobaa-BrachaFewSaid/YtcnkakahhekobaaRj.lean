/- A statement whose order is open, told by what holds once these operations are done: 'J D v w' (D: which are done, v: what they left). Any seat. -/
import Derived.Test.YtcnkakahhekobaaRh
namespace Go.Proofs.Ytcnkakahhekobaa
open Go.RowKit
set_option maxRecDepth 100000
set_option linter.unusedSimpArgs false
set_option linter.unusedVariables false

def setB (D : Nat → Bool) (i : Nat) : Nat → Bool := fun j => if j = i then true else D j
def setV (v : Nat → Value) (i : Nat) (x : Value) : Nat → Value := fun j => if j = i then x else v j
section
variable {P : Program} {Q : Exit → Act → World → Prop} (hs tl : List Oper) (J : (Nat → Bool) → (Nat → Value) → World → Prop) (a0 : Act)
theorem wpAny_J (hB : headsG (hs ++ tl).toArray hs tl.length = true) (hsz : ∀ o ∈ hs, ∀ d, o.dst = some d → d < a0.tmps.size)
    (hop : ∀ i o, hs[i]? = some o → ∀ (D : Nat → Bool) (a : Act) (v : Nat → Value) (w : World), J D v w → D i = false → (∀ j, Region.waitsFor .any (hs ++ tl).toArray i j = true → D j = true) → (∀ i j, D i = true → Region.waitsFor .any (hs ++ tl).toArray i j = true → D j = true) →
      (∀ j oj d, D j = true → hs[j]? = some oj → oj.dst = some d → a.tmps.getD d undef = v j) → (∀ s, (∀ oj ∈ hs, oj.dst ≠ some s) → a.tmps.getD s undef = a0.tmps.getD s undef) → (a.tmps.size = a0.tmps.size ∧ a.defers = a0.defers) →
      Region.wanted o (yielded (hs ++ tl).toArray a.tmps) = true ∧ o.wp P a w (fun a' w' => ∃ x, a' = a.put o.dst x ∧ J (setB D i) (setV v i x) w') Q)
    (hend : ∀ v w, J (fun j => decide (j < hs.length)) v w → wpList P (hs ++ tl).toArray Q tl (putsFrom (fun _ => true) v hs 0 a0) w) :
    ∀ (m : Nat) (L : Array Bool) (v : Nat → Value) (w : World), L.size = hs.length + tl.length → (∀ i j, L.getD i false = true → Region.waitsFor .any (hs ++ tl).toArray i j = true → L.getD j false = true) → (∀ t, hs.length ≤ t → L.getD t false = false) → ((List.range hs.length).filter fun i => !L.getD i false).length = m →
      J (fun j => L.getD j false) v w → wpAny P .any (hs ++ tl).toArray Q (m + tl.length) L (putsFrom (fun j => L.getD j false) v hs 0 a0) w := by
  simp only [headsG, Bool.and_eq_true] at hB
  obtain ⟨⟨⟨hd, hback⟩, htail⟩, hseq⟩ := hB
  intro m
  induction m with
  | zero =>
    intro L v w hsize hcl htl hm hJ
    have hall : ∀ i, i < hs.length → L.getD i false = true := fun i hi => by
      have := List.eq_nil_of_length_eq_zero hm
      have h2 := List.filter_eq_nil_iff.1 this i (List.mem_range.2 hi)
      simpa using h2
    have hL : L = (List.replicate hs.length true ++ List.replicate tl.length false).toArray := by
      apply Array.ext
      · simp [hsize]
      · intro i h1 h2
        by_cases hi : i < hs.length
        · have := hall i hi
          simp only [Array.getD_eq_getD_getElem?, Array.getElem?_eq_getElem h1, Option.getD_some] at this
          rw [this]
          simp [List.getElem_append_left, hi]
        · have := htl i (by omega)
          simp only [Array.getD_eq_getD_getElem?, Array.getElem?_eq_getElem h1, Option.getD_some] at this
          rw [this]
          rw [List.getElem_toArray, List.getElem_append_right (by simpa using hi), List.getElem_replicate]
    rw [Nat.zero_add]
    rw [puts_congr (L := fun j => L.getD j false) (L' := fun _ => true) (v := v) (v' := v) hs 0 a0 (fun j _ h2 => ⟨hall j (by omega), fun _ => rfl⟩)]
    refine wpAny_of_seq tl hs.length L _ w (fun j => by simp [List.getElem?_append_right]) (by rw [hL]; exact hseq) ?_
    refine hend v w ?_
    have e : (fun j => L.getD j false) = fun j => decide (j < hs.length) := by
      funext j
      by_cases hj : j < hs.length
      · rw [hall j hj]; simp [hj]
      · rw [htl j (by omega)]; simp [hj]
    rwa [e] at hJ
  | succ m ih =>
    intro L v w hsize hcl htl hm hJ
    have hex : ∃ u, u < hs.length ∧ L.getD u false = false ∧ ∀ j, j < u → L.getD j false = true := by
      have hne : ((List.range hs.length).filter fun i => !L.getD i false) ≠ [] := by intro h; rw [h] at hm; simp at hm
      have hx : ∃ u, u < hs.length ∧ L.getD u false = false := by
        obtain ⟨u, hu⟩ := List.exists_mem_of_ne_nil _ hne
        simp only [List.mem_filter, List.mem_range, Bool.not_eq_true'] at hu
        exact ⟨u, hu⟩
      obtain ⟨u, hu1, hu2⟩ := hx
      induction u using Nat.strongRecOn with
      | ind u ihu =>
        by_cases hc : ∃ j, j < u ∧ L.getD j false = false
        · obtain ⟨j, hj1, hj2⟩ := hc
          exact ihu j hj1 (by omega) hj2
        · exact ⟨u, hu1, hu2, fun j hj => by
            cases hb : L.getD j false with
            | true => rfl
            | false => exact absurd ⟨j, hj, hb⟩ hc⟩
    obtain ⟨u, hu1, hu2, hu3⟩ := hex
    have flip : ∀ i, i < L.size → L.getD i true = L.getD i false := fun i hi => by simp [Array.getElem?_eq_getElem hi]
    rw [show m + 1 + tl.length = (m + tl.length) + 1 by omega]
    refine ⟨fun hr => ?_, fun i hi => ?_⟩
    · exfalso
      have hmem : u ∈ Region.ready .any (hs ++ tl).toArray L := by
        unfold Region.ready
        simp only [List.mem_filter, List.mem_range, Bool.and_eq_true, Bool.not_eq_true']
        refine ⟨by simp; omega, by rw [flip u (by omega)]; exact hu2, ?_⟩
        have hb := List.all_eq_true.1 hback u (List.mem_range.2 hu1)
        cases ho : (hs ++ tl).toArray[u]? with
        | none => rw [ho] at hb; simp at hb
        | some o =>
          rw [ho] at hb
          simp only [Option.map_some, Option.getD_some, Array.all_eq_true_iff_forall_mem] at hb ⊢
          intro e he
          have := hb e he
          simp only [Bool.or_eq_true, Bool.not_eq_true', decide_eq_true_eq] at this ⊢
          rcases this with h | h
          · exact .inl h
          · exact .inr (hu3 _ h)
      rw [hr] at hmem
      cases hmem
    · obtain ⟨hi1, hi2, hdeps⟩ := ready_spec hi
      have hisz : i < L.size := by rw [hsize]; simpa using hi1
      have hin : i < hs.length := by
        rcases Nat.lt_or_ge i hs.length with h | h
        · exact h
        · exfalso
          have h1 := List.all_eq_true.1 htail (i - hs.length) (List.mem_range.2 (by rw [hsize] at hisz; omega))
          have h2 := List.all_eq_true.1 h1 u (List.mem_range.2 hu1)
          rw [show hs.length + (i - hs.length) = i by omega] at h2
          rw [anc_listed (L := fun j => L.getD j false) hcl 24 i u hdeps h2] at hu2
          cases hu2
      have hLi : L.getD i false = false := by rw [← flip i hisz]; exact hi2
      have hoi : hs[i]? = some hs[i] := List.getElem?_eq_getElem hin
      have hops : (hs ++ tl).toArray[i]? = some hs[i] := by simp [List.getElem?_append_left hin]
      unfold wpOp
      rw [hops]
      have hboth := hop i hs[i] hoi (fun j => L.getD j false) (putsFrom (fun j => L.getD j false) v hs 0 a0) v w hJ hLi hdeps hcl (fun j oj d hj hoj hdj => ?c2) (fun s hsn => puts_out s hs 0 a0 hsn) (puts_same hs 0 a0)
      simp only [hboth.1, if_true]
      refine .inl (Oper.wp_mono ?_ hboth.2)
      · rintro a' w' ⟨x, rfl, hJ'⟩
        have hLn : ∀ j, j ≠ i → (L.setIfInBounds i true).getD j false = L.getD j false := fun j hj => by
          simp [Array.getElem?_setIfInBounds_ne (Ne.symm hj)]
        have hLs : (L.setIfInBounds i true).getD i false = true := by simp [hisz]
        have hput := puts_set (L := fun j => L.getD j false) (L' := fun j => (L.setIfInBounds i true).getD j false) (v := v) (v' := fun j => if j = i then x else v j) (i := i) hLi hLs
          (fun j hj => ⟨hLn j hj, if_neg hj⟩) hs 0 a0 hs[i] hd (Nat.zero_le _) (by simp [hoi])
        simp only [if_true] at hput
        rw [← hput]
        have hLk : ∀ j, L.getD j false = true → (L.setIfInBounds i true).getD j false = true := fun j hj => by
          by_cases hji : j = i
          · subst hji; exact hLs
          · rw [hLn j hji]; exact hj
        refine ih (L.setIfInBounds i true) _ w' (by simp [hsize]) (fun i' j hi' hj' => by
          by_cases hii : i' = i
          · subst hii; exact hLk j (hdeps j hj')
          · rw [hLn i' hii] at hi'; exact hLk j (hcl i' j hi' hj')) (fun t ht => by rw [hLn t (by omega)]; exact htl t ht) ?_ ?_
        · have hfil : ((List.range hs.length).filter fun j => !(L.setIfInBounds i true).getD j false) = ((List.range hs.length).filter fun j => !L.getD j false).filter fun j => j != i := by
            rw [List.filter_filter]
            apply List.filter_congr
            intro j _
            by_cases hj : j = i
            · subst hj; simp [hisz]
            · rw [hLn j hj]; simp [hj]
          have hnd : ((List.range hs.length).filter fun j => !L.getD j false).Nodup := List.Nodup.sublist List.filter_sublist List.nodup_range
          have hmem : i ∈ (List.range hs.length).filter fun j => !L.getD j false := by
            rw [List.mem_filter]
            exact ⟨List.mem_range.2 hin, by rw [hLi]; rfl⟩
          rw [hfil, ← List.Nodup.erase_eq_filter hnd i, List.length_erase_of_mem hmem, hm]
          rfl
        · have e : (fun j => (L.setIfInBounds i true).getD j false) = setB (fun j => L.getD j false) i := by
            funext j
            unfold setB
            by_cases hji : j = i
            · subst hji; rw [hLs]; simp
            · rw [hLn j hji, if_neg hji]
          rw [e]
          exact hJ'
      case c2 =>
        exact puts_in (L := fun j => L.getD j false) hj d hs 0 a0 oj hd (Nat.zero_le _) (by simpa using hoj) hdj (hsz oj (List.mem_of_getElem? hoj) d hdj)

/-- THE TOOL. -/
theorem region_J {id : Nat} {w : World} (hm : P.follows .mixedOrders = true) (hB : headsG (hs ++ tl).toArray hs tl.length = true) (hsz : ∀ o ∈ hs, ∀ d, o.dst = some d → d < a0.tmps.size)
    (h0 : ∀ v, J (fun _ => false) v w.drew)
    (hop : ∀ i o, hs[i]? = some o → ∀ (D : Nat → Bool) (a : Act) (v : Nat → Value) (w : World), J D v w → D i = false → (∀ j, Region.waitsFor .any (hs ++ tl).toArray i j = true → D j = true) → (∀ i j, D i = true → Region.waitsFor .any (hs ++ tl).toArray i j = true → D j = true) →
      (∀ j oj d, D j = true → hs[j]? = some oj → oj.dst = some d → a.tmps.getD d undef = v j) → (∀ s, (∀ oj ∈ hs, oj.dst ≠ some s) → a.tmps.getD s undef = a0.tmps.getD s undef) → (a.tmps.size = a0.tmps.size ∧ a.defers = a0.defers) →
      Region.wanted o (yielded (hs ++ tl).toArray a.tmps) = true ∧ o.wp P a w (fun a' w' => ∃ x, a' = a.put o.dst x ∧ J (setB D i) (setV v i x) w') Q)
    (hend : ∀ v w, J (fun j => decide (j < hs.length)) v w → wpList P (hs ++ tl).toArray Q tl (putsFrom (fun _ => true) v hs 0 a0) w) :
    (Code.region id (hs ++ tl).toArray true).wp P Q a0 w := by
  refine wp_region_any hm ?_
  have hrep : ∀ j, (Array.replicate (hs ++ tl).toArray.size false).getD j false = false := fun j => by
    simp only [Array.getD_eq_getD_getElem?, Array.getElem?_replicate]
    split <;> rfl
  have hfl : ((List.range hs.length).filter fun i => !(Array.replicate (hs ++ tl).toArray.size false).getD i false).length = hs.length := by
    rw [List.filter_eq_self.2 (fun i _ => by rw [hrep]; rfl), List.length_range]
  have := wpAny_J (Q := Q) hs tl J a0 hB hsz hop hend hs.length (Array.replicate (hs ++ tl).toArray.size false) (fun _ => undef) w.drew (by simp) (fun i j hi _ => by rw [hrep] at hi; cases hi) (fun t _ => hrep t) hfl (by rw [show (fun j => (Array.replicate (hs ++ tl).toArray.size false).getD j false) = fun _ => false from funext hrep]; exact h0 _)
  have hp : putsFrom (fun j => (Array.replicate (hs ++ tl).toArray.size false).getD j false) (fun _ => undef) hs 0 a0 = a0 := by
    have : ∀ (hs' : List Oper) (k : Nat) (a : Act), putsFrom (fun _ => false) (fun _ => undef) hs' k a = a := by
      intro hs'
      induction hs' with
      | nil => intros; rfl
      | cons o r ih => intro k a; simp only [putsFrom, Bool.false_eq_true, if_false]; exact ih _ _
    rw [puts_congr (L' := fun _ => false) (v' := fun _ => undef) hs 0 a0 (fun j _ _ => ⟨hrep j, fun _ => rfl⟩)]
    exact this hs 0 a0
  rw [hp] at this
  simpa using this

end
section
variable {P : Program} {Q : Exit → Act → World → Prop} {a : Act} {n : Nat} {L : List (Nat × Value)} {l : List Oper} {w : World} {J : (Nat → Bool) → (Nat → Value) → World → Prop} {nh : Nat}
def HeadJ (P : Program) (Q : Exit → Act → World → Prop) (l : List Oper) (nh : Nat) (J : (Nat → Bool) → (Nat → Value) → World → Prop) (a : Act) (n : Nat) (i : Nat) (o : Oper) : Prop :=
  ∀ (D : Nat → Bool) (a' : Act) (v : Nat → Value) (w' : World), J D v w' → D i = false → (∀ j, Region.waitsFor .any l.toArray i j = true → D j = true) → (∀ i j, D i = true → Region.waitsFor .any l.toArray i j = true → D j = true) → Fr a' n [] →
    (∀ j oj d, D j = true → (l.take nh)[j]? = some oj → oj.dst = some d → a'.tmps.getD d undef = v j) → (∀ s, ((l.take nh).all fun oj => oj.dst != some s) = true → a'.tmps.getD s undef = a.tmps.getD s undef) →
    Region.wanted o (yielded l.toArray a'.tmps) = true ∧ o.wp P a' w' (fun a'' w'' => ∃ x, a'' = a'.put o.dst x ∧ J (setB D i) (setV v i x) w'') Q
def HeadsJ (P : Program) (Q : Exit → Act → World → Prop) (l : List Oper) (nh : Nat) (J : (Nat → Bool) → (Nat → Value) → World → Prop) (a : Act) (n : Nat) : Nat → List Oper → Prop
  | _, [] => True
  | i, o :: os => HeadJ P Q l nh J a n i o ∧ HeadsJ P Q l nh J a n (i + 1) os
theorem headsJ_get : ∀ (os : List Oper) (k : Nat), HeadsJ P Q l nh J a n k os → ∀ i o, os[i]? = some o → HeadJ P Q l nh J a n (k + i) o
  | [], _, _, i, o, h => by simp at h
  | o' :: os, k, h, 0, o, hi => by
    have : o' = o := by simpa using hi
    subst this
    exact h.1
  | o' :: os, k, h, i + 1, o, hi => by
    have := headsJ_get os (k + 1) h.2 i o (by simpa using hi)
    rwa [show k + 1 + i = k + (i + 1) by omega] at this
def hvL (v : Nat → Value) : List Oper → Nat → List (Nat × Value) → List (Nat × Value)
  | [], _, L => L
  | o :: os, k, L => hvL v os (k + 1) (match o.dst with | some d => (d, v k) :: L | none => L)
theorem puts_frV {v : Nat → Value} : ∀ (hs : List Oper) (k : Nat) (a : Act) (L : List (Nat × Value)), (hs.all fun o => match o.dst with | some d => Nat.blt d n | none => true) = true → Fr a n L → Fr (putsFrom (fun _ => true) v hs k a) n (hvL v hs k L)
  | [], _, _, _, _, F => F
  | o :: os, k, a, L, hd, F => by
    simp only [List.all_cons, Bool.and_eq_true] at hd
    simp only [putsFrom, if_true, hvL]
    refine puts_frV os (k + 1) _ _ hd.2 ?_
    cases ho : o.dst with
    | none => exact F
    | some d =>
      rw [ho] at hd
      exact F.put hd.1
theorem rg_J {id : Nat} (F : Fr a n L) (nh : Nat) (J : (Nat → Bool) → (Nat → Value) → World → Prop) (h0 : ∀ v, J (fun _ => false) v w.drew) (hm : P.follows .mixedOrders = true) (hB : headsG l.toArray (l.take nh) (l.drop nh).length = true)
    (hsz : ((l.take nh).all fun o => match o.dst with | some d => Nat.blt d n | none => true) = true) (hop : HeadsJ P Q l nh J a n 0 (l.take nh))
    (hend : ∀ v a' w', J (fun j => decide (j < (l.take nh).length)) v w' → Fr a' n (hvL v (l.take nh) 0 L) → wpList P l.toArray Q (l.drop nh) a' w') : (Code.region id l.toArray true).wp P Q a w := by
  have e : l.toArray = (l.take nh ++ l.drop nh).toArray := by rw [List.take_append_drop]
  have hop' := headsJ_get (l.take nh) 0 hop
  rw [e] at hB hend ⊢
  refine region_J (l.take nh) (l.drop nh) J a hm hB ?_ h0 ?_ (fun v w' hj => hend v _ w' hj (puts_frV _ 0 a L hsz F))
  · intro o ho d hd
    have := List.all_eq_true.1 hsz o ho
    rw [hd] at this
    have hlt : d < n := Nat.le_of_ble_eq_true this
    rw [F.size]; exact hlt
  · intro i o hi D a' v w' h1 h2 h3 h4 h5 h6 h7
    rw [← e] at h3 h4 ⊢
    have := hop' i o hi
    rw [Nat.zero_add] at this
    refine this D a' v w' h1 h2 h3 h4 ⟨by rw [h7.1, F.size], by rw [h7.2, F.defers], fun h => by cases h⟩ h5 (fun s hs => h6 s (fun oj hoj he => ?_))
    have := List.all_eq_true.1 hs oj hoj
    simp [he] at this
theorem keepP {D : Nat → Bool} {v : Nat → Value} {i j : Nat} {x c : Value} (hne : Nat.beq j i = false) (h : D j = true → v j = c) : setB D i j = true → setV v i x j = c := by
  have : j ≠ i := fun e => by subst e; simp at hne
  unfold setB setV
  rw [if_neg this, if_neg this]
  exact h
theorem newP {v : Nat → Value} {i : Nat} {x : Value} {D : Nat → Bool} : setB D i i = true → setV v i x i = x := fun _ => by simp [setV]
/-- The values of what is done. -/
def Vals (D : Nat → Bool) (v : Nat → Value) (l : List (Nat × Value)) : Prop := ∀ i u, look l i = some u → D i = true → v i = u
theorem Vals.start {v : Nat → Value} {l : List (Nat × Value)} : Vals (fun _ => false) v l := fun _ _ _ h => by cases h
theorem Vals.get {D : Nat → Bool} {v : Nat → Value} {l : List (Nat × Value)} (h : Vals D v l) {i : Nat} {u : Value} (hl : look l i = some u) (hd : D i = true) : v i = u := h i u hl hd
theorem Vals.put {D : Nat → Bool} {v : Nat → Value} {l : List (Nat × Value)} (h : Vals D v l) {i : Nat} {x : Value} (hl : look l i = some x) : Vals (setB D i) (setV v i x) l := fun j u hu hd => by
  unfold setB at hd
  unfold setV
  by_cases e : j = i
  · subst e; rw [if_pos rfl]; rw [hl] at hu; injection hu
  · rw [if_neg e] at hd ⊢; exact h j u hu hd
theorem Vals.new {D : Nat → Bool} {v : Nat → Value} {l : List (Nat × Value)} (h : Vals D v l) {i : Nat} {x : Value} (hl : look l i = none) : Vals (setB D i) (setV v i x) l := fun j u hu hd => by
  unfold setB at hd
  unfold setV
  by_cases e : j = i
  · subst e; rw [hl] at hu; cases hu
  · rw [if_neg e] at hd ⊢; exact h j u hu hd
theorem ow_run {o : Oper} {x : Value} {w w' : World} {K : Act → World → Prop} (hr : (execOp a.eval o).run P w = .ok (.value x) w') (h : K (a.put o.dst x) w') : o.wp P a w K Q := by
  unfold Oper.wp; rw [hr]; exact h
theorem notYet {D : Nat → Bool} {i j : Nat} {ops : Array Oper} (hcl : ∀ i j, D i = true → Region.waitsFor .any ops i j = true → D j = true) (hw : Region.waitsFor .any ops j i = true) (hi : D i = false) : D j = false := by
  cases h : D j
  · rfl
  · have := hcl j i h hw
    rw [hi] at this
    cases this
theorem Mm.dead {R : List Nat} {w0 w : World} {B : List Ent} (M : Mm R w0 w B) : Mm R w0 w (.arg 1 (.slice none 0 0) 0 [] :: B) :=
  M.add (Below.refl _ _) (x := .arg 1 (.slice none 0 0) 0 []) ⟨rfl, none, 0, rfl, Nat.le_refl _, Nat.zero_le _, fun h => absurd h (by omega)⟩ (fun g hg => by cases hg) (fun g hg => by cases hg)
/-- A new slice in the place of something dead. -/
theorem Mm.fresh {R : List Nat} {w0 w : World} {B : List Ent} (M : Mm R w0 w B) {i m k : Nat} {e : TypeId} {m' : Nat} {u : Value} {n' : Nat} {ys : List Value} (hi : B[i]? = some (.arg m' u n' ys)) {cs : Array Value} (hk : k ≤ 1000000) (hc : cs.size = k * m) :
    Mm R w0 (w.alloc (.cells cs e)) (B.set i (.row e m (.slice (some ⟨w.heap.size, 0, none⟩) k k) k cs.toList)) :=
  M.swap hi (x' := .row e m (.slice (some ⟨w.heap.size, 0, none⟩) k k) k cs.toList) (Below.out (bel1 _ _) _) (World.ownsRow_lit w cs k (Nat.zero_le _) (by unfold maxLen; omega) hc) (fun g hg => by simp only [Ent.fp, Value.ownBlock, Option.toList_some, List.mem_singleton] at hg; exact .inr (by omega)) (fun g hg => by cases hg)
/-- A new slice of a call's, in the place of something dead. -/
theorem Mm.freshRow {R : List Nat} {w0 w w' : World} {B : List Ent} (M : Mm R w0 w B) {i m k : Nat} {t : TypeId} {m' : Nat} {u x : Value} {n' : Nat} {ys xs : List Value} (hi : B[i]? = some (.arg m' u n' ys)) (hb : Below w.heap.size w w') (h : w'.ownsRow w.heap.size t m x k xs) :
    Mm R w0 w' (B.set i (.row t m x k xs)) := by
  exact M.swap hi (x' := .row t m x k xs) (Below.out hb _) (own_zero h) (fun g hg => .inr (World.ownsRow.lt h g (by simpa [Ent.fp] using hg)).1) (fun g hg => by cases hg)
/-- Something new of a call's, in the place of something dead. -/
theorem Mm.freshOwn {R : List Nat} {w0 w w' : World} {B : List Ent} (M : Mm R w0 w B) {i : Nat} {m' : Nat} {u : Value} {n' : Nat} {ys : List Value} {fp : List Nat} {Φ : World → Prop} (hi : B[i]? = some (.arg m' u n' ys)) (hb : Below w.heap.size w w') (h : Φ w') (hl : Loc fp Φ) (hf : ∀ g ∈ fp, w.heap.size ≤ g) :
    Mm R w0 w' (B.set i (.own fp Φ)) :=
  M.swap hi (x' := .own fp Φ) (Below.out hb _) ⟨h, hl⟩ (fun g hg => .inr (hf g hg)) (fun g hg => by cases hg)
theorem ow_callZ {o : Oper} {w : World} {K : Act → World → Prop} {f : FuncId} {xs : List Operand} {ts : Array TypeId} {args : List Value} {Z : Value → World → Prop} (ho : o.op = .call { callee := .value (.func f), args := xs.toArray, argTypes := ts })
    (he : enters P f = true) (ha : xs.map a.eval = args) (hc : Calls P f args.toArray w fun e w' => ∃ v, e = .returned v ∧ Z v w') (h : ∀ v w', Z v w' → K (a.put o.dst v) w') : o.wp P a w K Q := by
  unfold Oper.wp
  rw [run_enter he ho w, List.map_toArray, ha]
  refine hc.mono fun e w' ⟨v, h1, h2⟩ => ?_
  subst h1
  exact h _ _ h2
theorem ow_app {o : Oper} {R : List Nat} {w0 w : World} {B : List Ent} {K : Act → World → Prop} {x y : Operand} {v u : Value} {t e : TypeId} {m k i c : Nat} {xs news : List Value} (M : Mm R w0 w B) (ho : o.op = .call { callee := .builtin .append, args := #[x, y], argTypes := #[t, t] }) (ht : P.underlying t = some (.slice e)) {bytes : Nat} (hE : ElTy P e m bytes)
    (hx : a.eval x = v) (hi : B[i]? = some (.row e m v k xs)) (hy : a.eval y = u) (hu : RdV w m u c news) (h1 : ∀ z ∈ news, z.oneCell' = true) (hmax : k + c ≤ 1000000000) (hby : bytes ≤ 1000)
    (h : ∀ v' w', Mm R w0 w' (B.set i (.row e m v' (k + c) (xs ++ news))) → K (a.put o.dst v') w') : o.wp P a w K Q := by
  obtain ⟨v', w', hexec, hM⟩ := app_run M ho ht hE hx hi hy hu h1 hmax hby
  unfold Oper.wp
  rw [hexec]
  exact h _ _ hM
end
end Go.Proofs.Ytcnkakahhekobaa
