/- The reference's Sum: walked for stage 1, laid by names here. In a namespace of its own. -/
import Derived.Test.YtjelhljgeinodaaHa
import Derived.ChangeKeysEq
import Derived.StillTail
import Derived.Deep.AppendLies
import Derived.Lib.SlBytesConst
import Derived.IntWalk
import Derived.Deep.MidRow
import Derived.Maps.AppendAt
import Derived.Laws.OwnMore
import Derived.Deep.Onto
-- Tl
namespace Go.Proofs.Ytjelhljgeinodaa.Hs
open Go.RowKit
set_option maxRecDepth 100000
set_option linter.unusedSimpArgs false
set_option linter.unusedVariables false
section
variable {P : Program} {ops : Array Oper} {rest : List Oper} {o : Oper} {a : Act} {w : World}
def enters (P : Program) (f : FuncId) : Bool := (P.funcs[f]?).any fun fn => !(fn.name == "runtime.NumGoroutine") && fn.body.isSome
theorem run_enter {f : FuncId} {xs : Array Operand} {ts : Array TypeId} (he : enters P f = true) (ho : o.op = .call { callee := .value (.func f), args := xs, argTypes := ts }) (w : World) :
    (execOp a.eval o).run P w = .ok (.enter f (xs.map a.eval)) w := by
  unfold enters at he
  cases hf : P.funcs[f]? with
  | none => simp [hf] at he
  | some fn =>
    simp only [hf, Option.any_some, Bool.and_eq_true, Bool.not_eq_true', beq_eq_false_iff_ne, ne_eq] at he
    obtain ⟨h1, h2⟩ := he
    have h2' : fn.body ≠ none := by intro e; rw [e] at h2; simp at h2
    simp [execOp, ho, resolve, Act.eval, Deferred.ofValue, invoke, callFunc, program, hf, h1, h2', Sem.run, Sem.run_bind]
end
end Go.Proofs.Ytjelhljgeinodaa.Hs

-- Rl
namespace Go.Proofs.Ytjelhljgeinodaa.Hs
open Go.RowKit
def putsFrom (L : Nat → Bool) (v : Nat → Value) : List Oper → Nat → Act → Act
  | [], _, a => a
  | o :: r, k, a => putsFrom L v r (k + 1) (if L k then a.put o.dst (v k) else a)
def dstsApart : List Oper → Bool
  | [] => true
  | o :: r => (r.all fun o' => o.dst.isNone || o'.dst != o.dst) && dstsApart r
theorem puts_congr {L L' : Nat → Bool} {v v' : Nat → Value} : ∀ (hs : List Oper) (k : Nat) (a : Act), (∀ j, k ≤ j → j < k + hs.length → L j = L' j ∧ (L j = true → v j = v' j)) → putsFrom L v hs k a = putsFrom L' v' hs k a
  | [], _, _, _ => rfl
  | o :: r, k, a, h => by
    have h0 := h k (Nat.le_refl _) (by simp)
    have e : (if L k then a.put o.dst (v k) else a) = (if L' k then a.put o.dst (v' k) else a) := by
      rw [← h0.1]
      by_cases hk : L k = true
      · rw [if_pos hk, if_pos hk, h0.2 hk]
      · rw [if_neg hk, if_neg hk]
    simp only [putsFrom, e]
    exact puts_congr r (k + 1) _ (fun j h1 h2 => h j (by omega) (by simp; omega))
theorem puts_put {L : Nat → Bool} {v : Nat → Value} (d : Option Tmp) (x : Value) : ∀ (hs : List Oper) (k : Nat) (a : Act), (hs.all fun o' => d.isNone || o'.dst != d) = true →
    putsFrom L v hs k (a.put d x) = (putsFrom L v hs k a).put d x
  | [], _, _, _ => rfl
  | o :: r, k, a, h => by
    simp only [List.all_cons, Bool.and_eq_true] at h
    have e : (if L k then (a.put d x).put o.dst (v k) else a.put d x) = (if L k then a.put o.dst (v k) else a).put d x := by
      by_cases hk : L k = true
      · rw [if_pos hk, if_pos hk]
        exact Act.put_comm a x (v k) (fun d' hd' he => by
          subst hd'
          have := h.1
          simp [he] at this)
      · rw [if_neg hk, if_neg hk]
    simp only [putsFrom, e]
    exact puts_put d x r (k + 1) _ h.2
theorem puts_set {L L' : Nat → Bool} {v v' : Nat → Value} {i : Nat} (hL : L i = false) (hL' : L' i = true) (hne : ∀ j, j ≠ i → L' j = L j ∧ v' j = v j) : ∀ (hs : List Oper) (k : Nat) (a : Act) (o : Oper), dstsApart hs = true → k ≤ i → hs[i - k]? = some o →
    putsFrom L' v' hs k a = (putsFrom L v hs k a).put o.dst (v' i)
  | [], _, _, _, _, _, h => by simp at h
  | o' :: r, k, a, o, hd, hk, h => by
    simp only [dstsApart, Bool.and_eq_true] at hd
    by_cases hki : k = i
    · subst hki
      have ho : o' = o := by simpa using h
      subst ho
      simp only [putsFrom, hL, hL', if_true, Bool.false_eq_true, if_false]
      rw [puts_congr (L := L') (L' := L) (v := v') (v' := v) r (k + 1) _ (fun j h1 _ => ⟨(hne j (by omega)).1, fun _ => (hne j (by omega)).2⟩)]
      exact puts_put _ _ r (k + 1) a hd.1
    · have hk' : i - k = (i - (k + 1)) + 1 := by omega
      rw [hk', List.getElem?_cons_succ] at h
      simp only [putsFrom, (hne k hki).1, (hne k hki).2]
      exact puts_set hL hL' hne r (k + 1) _ o hd.2 (by omega) h
theorem put_getD_ne (a : Act) (d : Option Tmp) (x : Value) (s : Nat) (h : d ≠ some s) : (a.put d x).tmps.getD s undef = a.tmps.getD s undef := by
  cases d with
  | none => rfl
  | some e =>
    have : e ≠ s := fun he => h (by rw [he])
    simp [Act.put, Array.getElem?_setIfInBounds_ne this]
theorem put_getD_eq (a : Act) (s : Nat) (x : Value) (h : s < a.tmps.size) : (a.put (some s) x).tmps.getD s undef = x := by
  simp [Act.put, h]
theorem put_size (a : Act) (d : Option Tmp) (x : Value) : (a.put d x).tmps.size = a.tmps.size := by
  cases d <;> simp [Act.put]
theorem puts_out {L : Nat → Bool} {v : Nat → Value} (s : Nat) : ∀ (hs : List Oper) (k : Nat) (a : Act), (∀ o ∈ hs, o.dst ≠ some s) → (putsFrom L v hs k a).tmps.getD s undef = a.tmps.getD s undef
  | [], _, _, _ => rfl
  | o :: r, k, a, h => by
    simp only [putsFrom]
    rw [puts_out s r (k + 1) _ (fun o' ho' => h o' (by simp [ho']))]
    by_cases hk : L k = true
    · rw [if_pos hk, put_getD_ne _ _ _ _ (h o (by simp))]
    · rw [if_neg hk]
theorem puts_in {L : Nat → Bool} {v : Nat → Value} {j : Nat} (hL : L j = true) (d : Nat) : ∀ (hs : List Oper) (k : Nat) (a : Act) (o : Oper), dstsApart hs = true → k ≤ j → hs[j - k]? = some o → o.dst = some d → d < a.tmps.size →
    (putsFrom L v hs k a).tmps.getD d undef = v j
  | [], _, _, _, _, _, h, _, _ => by simp at h
  | o' :: r, k, a, o, hd, hk, h, hod, hsz => by
    simp only [dstsApart, Bool.and_eq_true] at hd
    by_cases hkj : k = j
    · subst hkj
      have ho : o' = o := by simpa using h
      subst ho
      simp only [putsFrom, hL, if_true]
      rw [puts_out d r (k + 1) _ (fun o'' ho'' he => by
        have := List.all_eq_true.1 hd.1 o'' ho''
        simp [hod, he] at this), hod, put_getD_eq _ _ _ hsz]
    · have hk' : j - k = (j - (k + 1)) + 1 := by omega
      rw [hk', List.getElem?_cons_succ] at h
      simp only [putsFrom]
      refine puts_in hL d r (k + 1) _ o hd.2 (by omega) h hod ?_
      split
      · rw [put_size]; exact hsz
      · exact hsz
def ancB (ops : Array Oper) : Nat → Nat → Nat → Bool
  | 0, _, _ => false
  | f + 1, t, i => Region.waitsFor .any ops t i || (List.range ops.size).any fun k => Region.waitsFor .any ops t k && ancB ops f k i
theorem anc_listed {ops : Array Oper} {L : Nat → Bool} (hcl : ∀ i j, L i = true → Region.waitsFor .any ops i j = true → L j = true) : ∀ (f t i : Nat), (∀ j, Region.waitsFor .any ops t j = true → L j = true) → ancB ops f t i = true → L i = true
  | 0, _, _, _, h => by simp [ancB] at h
  | f + 1, t, i, hd, h => by
    simp only [ancB, Bool.or_eq_true, List.any_eq_true, List.mem_range, Bool.and_eq_true] at h
    rcases h with h | ⟨k, _, hk, h⟩
    · exact hd i h
    · exact anc_listed hcl f k i (fun j hj => hcl k j (hd k hk) hj) h
def headsG (ops : Array Oper) (hs : List Oper) (tl : Nat) : Bool :=
  dstsApart hs && ((List.range hs.length).all fun i => ((ops[i]?).map fun o => o.after.all fun e => !Region.binds .any e || decide (e.on < i)).getD false) &&
  ((List.range tl).all fun t => (List.range hs.length).all fun i => ancB ops 24 (hs.length + t) i) &&
  Region.seqB .any ops tl hs.length (List.replicate hs.length true ++ List.replicate tl false).toArray
def headsB (ops : Array Oper) (hs : List Oper) (tl : Nat) : Bool := headsG ops hs tl && hs.all (·.guard.isNone)
theorem ready_spec {ops : Array Oper} {L : Array Bool} {i : Nat} (h : i ∈ Region.ready .any ops L) : i < ops.size ∧ L.getD i true = false ∧ ∀ j, Region.waitsFor .any ops i j = true → L.getD j false = true := by
  unfold Region.ready at h
  simp only [List.mem_filter, List.mem_range, Bool.and_eq_true, Bool.not_eq_true'] at h
  refine ⟨h.1, h.2.1, fun j hj => ?_⟩
  obtain ⟨oj, hoj, e, he, hb, hon⟩ := Region.waitsFor_spec hj
  have h2 := h.2.2
  rw [hoj] at h2
  simp only [Option.map_some, Option.getD_some, Array.all_eq_true_iff_forall_mem] at h2
  have := h2 e he
  rw [hon, hb] at this
  simpa using this
section
variable {P : Program} {Q : Exit → Act → World → Prop} (hs tl : List Oper) (V : Nat → Value → World → Prop) (R : World → World → Prop) (w0 : World) (a0 : Act)
theorem wpAny_rel (hB : headsG (hs ++ tl).toArray hs tl.length = true) (hsz : ∀ o ∈ hs, ∀ d, o.dst = some d → d < a0.tmps.size)
    (hV : ∀ i x w w', V i x w → R w w' → V i x w') (hR : ∀ a b c, R a b → R b c → R a c)
    (hop : ∀ i o, hs[i]? = some o → ∀ (a : Act) (v : Nat → Value) (w : World), R w0 w → (∀ j, Region.waitsFor .any (hs ++ tl).toArray i j = true → V j (v j) w) →
      (∀ j oj d, Region.waitsFor .any (hs ++ tl).toArray i j = true → hs[j]? = some oj → oj.dst = some d → a.tmps.getD d undef = v j) → (∀ s, (∀ oj ∈ hs, oj.dst ≠ some s) → a.tmps.getD s undef = a0.tmps.getD s undef) →
      Region.wanted o (yielded (hs ++ tl).toArray a.tmps) = true ∧ o.wp P a w (fun a' w' => ∃ x, a' = a.put o.dst x ∧ R w w' ∧ V i x w') Q)
    (hend : ∀ v w, R w0 w → (∀ i, i < hs.length → V i (v i) w) → wpList P (hs ++ tl).toArray Q tl (putsFrom (fun _ => true) v hs 0 a0) w) :
    ∀ (m : Nat) (L : Array Bool) (v : Nat → Value) (w : World), L.size = hs.length + tl.length → (∀ i j, L.getD i false = true → Region.waitsFor .any (hs ++ tl).toArray i j = true → L.getD j false = true) → (∀ t, hs.length ≤ t → L.getD t false = false) → ((List.range hs.length).filter fun i => !L.getD i false).length = m →
      R w0 w → (∀ i, i < hs.length → L.getD i false = true → V i (v i) w) → wpAny P .any (hs ++ tl).toArray Q (m + tl.length) L (putsFrom (fun j => L.getD j false) v hs 0 a0) w := by
  simp only [headsG, Bool.and_eq_true] at hB
  obtain ⟨⟨⟨hd, hback⟩, htail⟩, hseq⟩ := hB
  intro m
  induction m with
  | zero =>
    intro L v w hsize hcl htl hm hRw hVw
    have hall : ∀ i, i < hs.length → L.getD i false = true := fun i hi => by
      have := List.eq_nil_of_length_eq_zero hm
      have h2 := List.filter_eq_nil_iff.1 this i (List.mem_range.2 hi)
      simpa using h2
    have hL : L = (List.replicate hs.length true ++ List.replicate tl.length false).toArray := by
      apply Array.ext
      · simp [hsize]
      · intro i h1 h2
        by_cases hi : i < hs.length
        · have := hall i hi
          simp only [Array.getD_eq_getD_getElem?, Array.getElem?_eq_getElem h1, Option.getD_some] at this
          rw [this]
          simp [List.getElem_append_left, hi]
        · have := htl i (by omega)
          simp only [Array.getD_eq_getD_getElem?, Array.getElem?_eq_getElem h1, Option.getD_some] at this
          rw [this]
          rw [List.getElem_toArray, List.getElem_append_right (by simpa using hi), List.getElem_replicate]
    rw [Nat.zero_add]
    rw [puts_congr (L := fun j => L.getD j false) (L' := fun _ => true) (v := v) (v' := v) hs 0 a0 (fun j _ h2 => ⟨hall j (by omega), fun _ => rfl⟩)]
    refine wpAny_of_seq tl hs.length L _ w (fun j => by simp [List.getElem?_append_right]) (by rw [hL]; exact hseq) ?_
    exact hend v w hRw (fun i hi => hVw i hi (hall i hi))
  | succ m ih =>
    intro L v w hsize hcl htl hm hRw hVw
    have hex : ∃ u, u < hs.length ∧ L.getD u false = false ∧ ∀ j, j < u → L.getD j false = true := by
      have hne : ((List.range hs.length).filter fun i => !L.getD i false) ≠ [] := by intro h; rw [h] at hm; simp at hm
      have hx : ∃ u, u < hs.length ∧ L.getD u false = false := by
        obtain ⟨u, hu⟩ := List.exists_mem_of_ne_nil _ hne
        simp only [List.mem_filter, List.mem_range, Bool.not_eq_true'] at hu
        exact ⟨u, hu⟩
      obtain ⟨u, hu1, hu2⟩ := hx
      induction u using Nat.strongRecOn with
      | ind u ihu =>
        by_cases hc : ∃ j, j < u ∧ L.getD j false = false
        · obtain ⟨j, hj1, hj2⟩ := hc
          exact ihu j hj1 (by omega) hj2
        · exact ⟨u, hu1, hu2, fun j hj => by
            cases hb : L.getD j false with
            | true => rfl
            | false => exact absurd ⟨j, hj, hb⟩ hc⟩
    obtain ⟨u, hu1, hu2, hu3⟩ := hex
    have flip : ∀ i, i < L.size → L.getD i true = L.getD i false := fun i hi => by simp [Array.getElem?_eq_getElem hi]
    rw [show m + 1 + tl.length = (m + tl.length) + 1 by omega]
    refine ⟨fun hr => ?_, fun i hi => ?_⟩
    · exfalso
      have hmem : u ∈ Region.ready .any (hs ++ tl).toArray L := by
        unfold Region.ready
        simp only [List.mem_filter, List.mem_range, Bool.and_eq_true, Bool.not_eq_true']
        refine ⟨by simp; omega, by rw [flip u (by omega)]; exact hu2, ?_⟩
        have hb := List.all_eq_true.1 hback u (List.mem_range.2 hu1)
        cases ho : (hs ++ tl).toArray[u]? with
        | none => rw [ho] at hb; simp at hb
        | some o =>
          rw [ho] at hb
          simp only [Option.map_some, Option.getD_some, Array.all_eq_true_iff_forall_mem] at hb ⊢
          intro e he
          have := hb e he
          simp only [Bool.or_eq_true, Bool.not_eq_true', decide_eq_true_eq] at this ⊢
          rcases this with h | h
          · exact .inl h
          · exact .inr (hu3 _ h)
      rw [hr] at hmem
      cases hmem
    · obtain ⟨hi1, hi2, hdeps⟩ := ready_spec hi
      have hisz : i < L.size := by rw [hsize]; simpa using hi1
      have hin : i < hs.length := by
        rcases Nat.lt_or_ge i hs.length with h | h
        · exact h
        · exfalso
          have h1 := List.all_eq_true.1 htail (i - hs.length) (List.mem_range.2 (by rw [hsize] at hisz; omega))
          have h2 := List.all_eq_true.1 h1 u (List.mem_range.2 hu1)
          rw [show hs.length + (i - hs.length) = i by omega] at h2
          rw [anc_listed (L := fun j => L.getD j false) hcl 24 i u hdeps h2] at hu2
          cases hu2
      have hLi : L.getD i false = false := by rw [← flip i hisz]; exact hi2
      have hoi : hs[i]? = some hs[i] := List.getElem?_eq_getElem hin
      have hops : (hs ++ tl).toArray[i]? = some hs[i] := by simp [List.getElem?_append_left hin]
      unfold wpOp
      rw [hops]
      have hboth := hop i hs[i] hoi (putsFrom (fun j => L.getD j false) v hs 0 a0) v w hRw (fun j hj => ?c1) (fun j oj d hj hoj hdj => ?c2) (fun s hsn => puts_out s hs 0 a0 hsn)
      simp only [hboth.1, if_true]
      refine .inl (Oper.wp_mono ?_ hboth.2)
      · rintro a' w' ⟨x, rfl, hRw', hVx⟩
        have hLn : ∀ j, j ≠ i → (L.setIfInBounds i true).getD j false = L.getD j false := fun j hj => by
          simp [Array.getElem?_setIfInBounds_ne (Ne.symm hj)]
        have hLs : (L.setIfInBounds i true).getD i false = true := by simp [hisz]
        have hput := puts_set (L := fun j => L.getD j false) (L' := fun j => (L.setIfInBounds i true).getD j false) (v := v) (v' := fun j => if j = i then x else v j) (i := i) hLi hLs
          (fun j hj => ⟨hLn j hj, if_neg hj⟩) hs 0 a0 hs[i] hd (Nat.zero_le _) (by simp [hoi])
        simp only [if_true] at hput
        rw [← hput]
        have hLk : ∀ j, L.getD j false = true → (L.setIfInBounds i true).getD j false = true := fun j hj => by
          by_cases hji : j = i
          · subst hji; exact hLs
          · rw [hLn j hji]; exact hj
        refine ih (L.setIfInBounds i true) _ w' (by simp [hsize]) (fun i' j hi' hj' => by
          by_cases hii : i' = i
          · subst hii; exact hLk j (hdeps j hj')
          · rw [hLn i' hii] at hi'; exact hLk j (hcl i' j hi' hj')) (fun t ht => by rw [hLn t (by omega)]; exact htl t ht) ?_ (hR _ _ _ hRw hRw') (fun j hj hjL => ?_)
        · have hfil : ((List.range hs.length).filter fun j => !(L.setIfInBounds i true).getD j false) = ((List.range hs.length).filter fun j => !L.getD j false).filter fun j => j != i := by
            rw [List.filter_filter]
            apply List.filter_congr
            intro j _
            by_cases hj : j = i
            · subst hj; simp [hisz]
            · rw [hLn j hj]; simp [hj]
          have hnd : ((List.range hs.length).filter fun j => !L.getD j false).Nodup := List.Nodup.sublist List.filter_sublist List.nodup_range
          have hmem : i ∈ (List.range hs.length).filter fun j => !L.getD j false := by
            rw [List.mem_filter]
            exact ⟨List.mem_range.2 hin, by rw [hLi]; rfl⟩
          rw [hfil, ← List.Nodup.erase_eq_filter hnd i, List.length_erase_of_mem hmem, hm]
          rfl
        · by_cases hji : j = i
          · subst hji; rw [if_pos rfl]; exact hVx
          · rw [if_neg hji]
            rw [hLn j hji] at hjL
            exact hV _ _ _ _ (hVw j hj hjL) hRw'
      case c1 =>
        have hjL := hdeps j hj
        have hjn : j < hs.length := by
          rcases Nat.lt_or_ge j hs.length with h | h
          · exact h
          · rw [htl j h] at hjL; cases hjL
        exact hVw j hjn hjL
      case c2 =>
        have hjL := hdeps j hj
        exact puts_in (L := fun j => L.getD j false) hjL d hs 0 a0 oj hd (Nat.zero_le _) (by simpa using hoj) hdj (hsz oj (List.mem_of_getElem? hoj) d hdj)
theorem region_rel {id : Nat} {w : World} (hm : P.follows .mixedOrders = true) (hB : headsG (hs ++ tl).toArray hs tl.length = true) (hsz : ∀ o ∈ hs, ∀ d, o.dst = some d → d < a0.tmps.size)
    (hV : ∀ i x w w', V i x w → R w w' → V i x w') (hR : ∀ a b c, R a b → R b c → R a c) (h0 : R w0 w.drew)
    (hop : ∀ i o, hs[i]? = some o → ∀ (a : Act) (v : Nat → Value) (w : World), R w0 w → (∀ j, Region.waitsFor .any (hs ++ tl).toArray i j = true → V j (v j) w) →
      (∀ j oj d, Region.waitsFor .any (hs ++ tl).toArray i j = true → hs[j]? = some oj → oj.dst = some d → a.tmps.getD d undef = v j) → (∀ s, (∀ oj ∈ hs, oj.dst ≠ some s) → a.tmps.getD s undef = a0.tmps.getD s undef) →
      Region.wanted o (yielded (hs ++ tl).toArray a.tmps) = true ∧ o.wp P a w (fun a' w' => ∃ x, a' = a.put o.dst x ∧ R w w' ∧ V i x w') Q)
    (hend : ∀ v w, R w0 w → (∀ i, i < hs.length → V i (v i) w) → wpList P (hs ++ tl).toArray Q tl (putsFrom (fun _ => true) v hs 0 a0) w) :
    (Code.region id (hs ++ tl).toArray true).wp P Q a0 w := by
  refine wp_region_any hm ?_
  have hrep : ∀ j, (Array.replicate (hs ++ tl).toArray.size false).getD j false = false := fun j => by
    simp only [Array.getD_eq_getD_getElem?, Array.getElem?_replicate]
    split <;> rfl
  have hfl : ((List.range hs.length).filter fun i => !(Array.replicate (hs ++ tl).toArray.size false).getD i false).length = hs.length := by
    rw [List.filter_eq_self.2 (fun i _ => by rw [hrep]; rfl), List.length_range]
  have := wpAny_rel (Q := Q) hs tl V R w0 a0 hB hsz hV hR hop hend hs.length (Array.replicate (hs ++ tl).toArray.size false) (fun _ => undef) w.drew (by simp) (fun i j hi _ => by rw [hrep] at hi; cases hi) (fun t _ => hrep t) hfl h0 (fun i _ hL => by rw [hrep] at hL; cases hL)
  have hp : putsFrom (fun j => (Array.replicate (hs ++ tl).toArray.size false).getD j false) (fun _ => undef) hs 0 a0 = a0 := by
    have : ∀ (hs' : List Oper) (k : Nat) (a : Act), putsFrom (fun _ => false) (fun _ => undef) hs' k a = a := by
      intro hs'
      induction hs' with
      | nil => intros; rfl
      | cons o r ih => intro k a; simp only [putsFrom, Bool.false_eq_true, if_false]; exact ih _ _
    rw [puts_congr (L' := fun _ => false) (v' := fun _ => undef) hs 0 a0 (fun j _ _ => ⟨hrep j, fun _ => rfl⟩)]
    exact this hs 0 a0
  rw [hp] at this
  simpa using this
theorem region_relG {P : Program} {Q : Exit → Act → World → Prop} {id : Nat} {w : World} {a0 : Act} {l : List Oper} (n : Nat) (V : Nat → Value → World → Prop)
    (hm : P.follows .mixedOrders = true) (hB : headsG l.toArray (l.take n) (l.drop n).length = true) (hsz : ((l.take n).all fun o => match o.dst with | some d => decide (d < a0.tmps.size) | none => true) = true)
    (hV : ∀ i x w w', V i x w → Below w.heap.size w w' → V i x w')
    (hop : ∀ i o, (l.take n)[i]? = some o → ∀ (a : Act) (v : Nat → Value) (w' : World), Below w.heap.size w w' → (∀ j, Region.waitsFor .any l.toArray i j = true → V j (v j) w') →
      (∀ j oj d, Region.waitsFor .any l.toArray i j = true → (l.take n)[j]? = some oj → oj.dst = some d → a.tmps.getD d undef = v j) → (∀ s, ((l.take n).all fun oj => oj.dst != some s) = true → a.tmps.getD s undef = a0.tmps.getD s undef) →
      Region.wanted o (yielded l.toArray a.tmps) = true ∧ o.wp P a w' (fun a' w'' => ∃ x, a' = a.put o.dst x ∧ Below w'.heap.size w' w'' ∧ V i x w'') Q)
    (hend : ∀ v w', Below w.heap.size w w' → (∀ i, i < (l.take n).length → V i (v i) w') → wpList P l.toArray Q (l.drop n) (putsFrom (fun _ => true) v (l.take n) 0 a0) w') :
    (Code.region id l.toArray true).wp P Q a0 w := by
  have e : l.toArray = (l.take n ++ l.drop n).toArray := by rw [List.take_append_drop]
  rw [e] at hB hop hend ⊢
  refine region_rel (l.take n) (l.drop n) V (fun a b => Below a.heap.size a b) w a0 hm hB ?_ hV (fun a b c h1 h2 => h1.trans (h2.mono h1.size)) (Below.refl _ _).drew ?_ hend
  · intro o ho d hd
    have := List.all_eq_true.1 hsz o ho
    rw [hd] at this
    simpa using this
  · intro i o hi a v w' h1 h2 h3 h4
    exact hop i o hi a v w' h1 h2 h3 (fun s hs => h4 s (fun oj hoj he => by
      have := List.all_eq_true.1 hs oj hoj
      simp [he] at this))
section
variable {P : Program} {Q : Exit → Act → World → Prop} {o : Oper} {a : Act} {w : World} {V : Value → World → Prop}
theorem ow_call (f : FuncId) (xs : List Operand) (ts : Array TypeId) (ho : o.op = .call { callee := .value (.func f), args := xs.toArray, argTypes := ts }) (he : enters P f = true) (args : List Value) (ha : xs.map a.eval = args) (x : Value)
    (hc : Calls P f args.toArray w fun e w' => e = .returned x ∧ Below w.heap.size w w') (hx : ∀ w', Below w.heap.size w w' → V x w') :
    o.wp P a w (fun a' w' => ∃ x, a' = a.put o.dst x ∧ Below w.heap.size w w' ∧ V x w') Q := by
  unfold Oper.wp
  rw [run_enter he ho w, List.map_toArray, ha]
  exact hc.mono fun e w' ⟨h1, h2⟩ => by subst h1; exact ⟨x, rfl, h2, hx w' h2⟩
theorem ow_value (x : Value) (w' : World) (hrun : (execOp a.eval o).run P w = .ok (.value x) w') (hb : Below w.heap.size w w') (hx : V x w') :
    o.wp P a w (fun a' w' => ∃ x, a' = a.put o.dst x ∧ Below w.heap.size w w' ∧ V x w') Q := by
  unfold Oper.wp
  rw [hrun]
  exact ⟨x, rfl, hb, hx⟩
theorem ow_move (y : Operand) (ho : o.op = .move y) (hx : V (a.eval y) w) : o.wp P a w (fun a' w' => ∃ x, a' = a.put o.dst x ∧ Below w.heap.size w w' ∧ V x w') Q :=
  ow_value (a.eval y) w (by simp [execOp, ho]) (Below.refl _ _) hx
end
end
end Go.Proofs.Ytjelhljgeinodaa.Hs

-- Ap
namespace Go.Proofs.Ytjelhljgeinodaa.Hs
open Go.RowKit
def OwnB (w : World) (base : Nat) (v : Value) (l : List Nat) : Prop := w.ownsRow base 5 1 v l.length (B8 l).toList
theorem B8_list (l : List Nat) : (B8 l).toList = l.map (fun (x : Nat) => Value.int .u8 (x : Int)) := rfl
theorem OwnB.form {w : World} {base : Nat} {v : Value} {l : List Nat} (h : OwnB w base v l) : ∃ A c, v = .slice A l.length c ∧ l.length ≤ c ∧ Rd w w.heap.size A l := by
  rcases h.2 with ⟨rfl, hn⟩ | ⟨g, cap, cur, rfl, hb, hg, hc, _, _, _⟩
  · exact ⟨none, 0, by rw [hn], by omega, fun h0 => absurd h0 (by omega)⟩
  · refine ⟨some ⟨g, 0, none⟩, cap, rfl, hc, fun _ => ⟨_, rfl, (Array.getElem?_eq_some_iff.1 hg).1, fun j hj => ?_⟩⟩
    exact h.cells (g := g) rfl j _ (by rw [B8_list, List.getElem?_map, List.getElem?_eq_getElem hj, at0_eq hj]; rfl)
theorem OwnB.below {w w' : World} {base : Nat} {v : Value} {l : List Nat} (h : OwnB w base v l) (hb : Below w.heap.size w w') : OwnB w' base v l := by
  refine ⟨h.1, ?_⟩
  rcases h.2 with hn | ⟨g, cap, cur, rfl, hbg, hg, r⟩
  · exact .inl hn
  · exact .inr ⟨g, cap, cur, rfl, hbg, by rw [hb.block g (Array.getElem?_eq_some_iff.1 hg).1]; exact hg, r⟩
theorem OwnB.made (w : World) (base : Nat) (hb : base ≤ w.heap.size) : OwnB (w.alloc (.cells #[] 5)) base (.slice (some ⟨w.heap.size, 0, none⟩) 0 0) [] :=
  World.ownsRow_made w #[] 0 hb (Nat.zero_le _) rfl
theorem OwnB.nil (w : World) (base : Nat) : OwnB w base (.slice none 0 0) [] := World.ownsRow_nil w base 5 1
theorem info5p : (Try.prog.info? 5).map (fun i => (i.zero, i.size, i.bytes)) = some (some (.int .u8 0), 1, 1) := by kernel_rfl
theorem run_app_nil {w : World} {base : Nat} {ty : TypeId} {v : Value} {l : List Nat} (hown : OwnB w base v l) (c : Nat) :
    (Builtin.append_ #[46, 46] ty #[v, .slice none 0 c]).run Try.prog w = .ok v w := by
  have hp := info5p
  cases hi : Try.prog.info? 5 with
  | none => simp [hi] at hp
  | some i =>
    rcases hown.2 with ⟨rfl, _⟩ | ⟨g, cap, cur, rfl, _, _, hnc, _⟩
    · simp [Builtin.append_, run_underlying Try.underlying46, sizeOf, typeInfo, hi, Builtin.lenOf, Builtin.firstCells]
    · simp [Builtin.append_, run_underlying Try.underlying46, sizeOf, typeInfo, hi, Builtin.lenOf, Builtin.firstCells, hnc, storeCells]
theorem run_app8 {w : World} {base : Nat} {ty : TypeId} {v : Value} {l : List Nat} (hown : OwnB w base v l) {B : Nat} {A : Option Addr} {m : List Nat} (hr : Rd w B A m) (c : Nat) (hbig : l.length + m.length ≤ 100000000) (hbase : base ≤ w.heap.size) :
    ∃ v' w', (Builtin.append_ #[46, 46] ty #[v, .slice A m.length c]).run Try.prog w = .ok v' w' ∧ OwnB w' base v' (l ++ m) ∧ w.grownBy w' v.ownBlock ∧ (v'.ownBlock = v.ownBlock ∨ v'.ownBlock = some w.heap.size) := by
  have hp := info5p
  cases hi : Try.prog.info? 5 with
  | none => simp [hi] at hp
  | some i =>
    simp only [hi, Option.map_some, Option.some.injEq, Prod.mk.injEq] at hp
    rcases A with _ | ad
    · have hm : m = [] := by
        rcases Nat.eq_zero_or_pos m.length with h0 | h0
        · exact List.eq_nil_of_length_eq_zero h0
        · obtain ⟨ad, h, _⟩ := hr h0; cases h
      subst hm
      exact ⟨v, w, run_app_nil hown c, by simpa using hown, World.grownBy.refl w _, .inl rfl⟩
    · have hcells : ∀ j u, (B8 m).toList[j]? = some u → w.cell? (ad.add j) = some u := by
        intro j u hu
        rw [B8_list, List.getElem?_map] at hu
        have hj : j < m.length := by
          rcases Nat.lt_or_ge j m.length with h | h
          · exact h
          · rw [List.getElem?_eq_none h] at hu; cases hu
        obtain ⟨ad', h, _, hc⟩ := hr (by omega)
        injection h with h
        subst h
        rw [List.getElem?_eq_getElem hj] at hu
        injection hu with hu
        subst hu
        rw [hc j hj, at0_eq hj]
      obtain ⟨v', w', hrun, h2, h3, _, h5⟩ := run_append_own_at (P := Try.prog) w base 46 ty 5 i (.int .u8 0) 1 1 Try.underlying46 hi hp.1 hp.2.1 hp.2.2 rfl (by omega) v l.length (B8 l).toList hown ad m.length c (B8 m).toList (by rw [B8_list]; simp) hcells (B8_oneCell m) (by unfold maxLen; omega) (by omega) hbase
      refine ⟨v', w', hrun, ?_, h3, h5⟩
      have e : (B8 (l ++ m)).toList = (B8 l).toList ++ (B8 m).toList := by simp [B8_list]
      unfold OwnB
      rw [e, List.length_append]
      exact h2
theorem wpList_app8 {ops : Array Oper} {rest : List Oper} {o : Oper} {a : Act} {w : World} {Q : Exit → Act → World → Prop} (hgd : o.guard = none) (s x : Operand)
    (ho : o.op = .call { callee := .builtin .append, args := #[s, x], argTypes := #[46, 46] })
    (base : Nat) (v : Value) (l : List Nat) (hs : a.eval s = v) (hown : OwnB w base v l) (B : Nat) (A : Option Addr) (n : Nat) (m : List Nat) (c : Nat) (hx : a.eval x = .slice A n c) (hn : m.length = n) (hr : Rd w B A m)
    (hbig : l.length + m.length ≤ 100000000) (hbase : base ≤ w.heap.size)
    (h : ∀ v' w', OwnB w' base v' (l ++ m) → w.grownBy w' v.ownBlock → (v'.ownBlock = v.ownBlock ∨ v'.ownBlock = some w.heap.size) → wpList Try.prog ops Q rest (a.put o.dst v') w') : wpList Try.prog ops Q (o :: rest) a w :=
  wpList_plain hgd fun _ hK => by
    subst hn
    obtain ⟨v', w', hrun, h2, h3, h4⟩ := run_app8 (ty := o.type) hown hr c hbig hbase
    unfold Oper.wp execOp
    simp only [ho, resolve, invoke, builtin, Sem.run_bind, Sem.run_pure, Result.andThen_ok, List.map_toArray, List.map_cons, List.map_nil, hs, hx, hrun]
    exact hK _ _ (h v' w' h2 h3 h4)
end Go.Proofs.Ytjelhljgeinodaa.Hs

-- La
namespace Go.Proofs.Ytjelhljgeinodaa.Hs
open Go.RowKit
theorem rd_blk {w : World} {g : Nat} {t : TypeId} {l : List Nat} (h : Blk w g t (B8 l)) {B : Nat} (hB : g < B) : Rd w B (some ⟨g, 0, none⟩) l := fun _ => ⟨⟨g, 0, none⟩, rfl, hB, fun j hj => by
  have : (⟨g, 0, none⟩ : Addr).add j = ⟨g, j, none⟩ := by unfold Addr.add; split <;> simp_all
  rw [this, h.cell, B8_get hj]⟩
end Go.Proofs.Ytjelhljgeinodaa.Hs

-- Ld
namespace Go.Proofs.Ytjelhljgeinodaa.Hs
open Go.RowKit
theorem Rd.nil (w : World) (B : Nat) (A : Option Addr) : Rd w B A [] := fun h => absurd h (by simp)
end Go.Proofs.Ytjelhljgeinodaa.Hs

-- Le
namespace Go.Proofs.Ytjelhljgeinodaa.Hs
open Go.RowKit
def Apart (v u : Value) : Prop := ∀ g, v.ownBlock = some g → u.ownBlock ≠ some g
theorem OwnB.kept {w w' : World} {base : Nat} {v u : Value} {l : List Nat} (h : OwnB w base v l) (hg : w.grownBy w' u.ownBlock) (ha : Apart u v) : OwnB w' base v l := by
  refine World.ownsRow.kept h hg ?_
  cases hv : v.ownBlock with
  | none => exact .inl rfl
  | some g => exact .inr (fun e => ha g e.symm hv)
theorem Apart.symm {v u : Value} (h : Apart v u) : Apart u v := fun g h1 h2 => h g h2 h1
theorem Blk.grown {w w' : World} {g : Nat} {t : TypeId} {cs : Array Value} {row : Option Nat} (h : Blk w g t cs) (hb : w.grownBy w' row) (hg : some g ≠ row) : Blk w' g t cs := (hb.block g h.lt hg).trans h
end Go.Proofs.Ytjelhljgeinodaa.Hs

-- Ra
namespace Go.Proofs.Ytjelhljgeinodaa.Hs
open Go.RowKit
def U64 (l : List Nat) : Array Value := (l.map (fun (x : Nat) => Value.int .u64 (x:Int))).toArray
theorem U64_get {x : List Nat} {k : Nat} (hk : k < x.length) : (U64 x)[k]? = some (.int .u64 ((at0 x k : Nat) : Int)) := by
  unfold U64; rw [at0_eq hk]; simp [hk]
theorem U64_size (x : List Nat) : (U64 x).size = x.length := by simp [U64]
theorem U64_one (l : List Nat) : (U64 l).all (·.oneCell') = true := by simp [U64, Value.oneCell']
theorem U64_list (l : List Nat) : (U64 l).toList = l.map (fun (x : Nat) => Value.int .u64 (x : Int)) := rfl
theorem turn_cast (x n : Nat) (hx : x < 4294967296) (hn : n ≤ 31) (h1 : 1 ≤ n) :
    bits .or .u64 ((x : Int) / 2 ^ n) ((x : Int) * 2 ^ (32 - n) % 18446744073709551616) % 4294967296 = (rotr x n : Int) := by
  have hb : x * 2 ^ (32 - n) < 18446744073709551616 := by
    have h2 : (2 : Nat) ^ (32 - n) ≤ 2 ^ 31 := Nat.pow_le_pow_right (by omega) (by omega)
    calc x * 2 ^ (32 - n) ≤ 4294967296 * 2 ^ 31 := Nat.mul_le_mul (by omega) h2
      _ < 18446744073709551616 := by decide
  have e1 : ((x : Int) / 2 ^ n) = ((x / 2 ^ n : Nat) : Int) := by simp
  have e2 : ((x : Int) * 2 ^ (32 - n) % 18446744073709551616) = ((x * 2 ^ (32 - n) : Nat) : Int) := by
    rw [show ((x : Int) * 2 ^ (32 - n)) = ((x * 2 ^ (32 - n) : Nat) : Int) by simp]
    generalize x * 2 ^ (32 - n) = z at *
    omega
  have hd : x / 2 ^ n < 4294967296 := Nat.lt_of_le_of_lt (Nat.div_le_self _ _) hx
  rw [e1, e2, u64_or_nat _ _ (by omega) hb]
  unfold rotr
  rw [show ((x / 2 ^ n ||| x * 2 ^ (32 - n) : Nat) : Int) % 4294967296 = (((x / 2 ^ n ||| x * 2 ^ (32 - n)) % 2 ^ 32 : Nat) : Int) by simp, Nat.or_mod_two_pow]
  rw [Nat.mod_eq_of_lt (a := x / 2 ^ n) (b := 2 ^ 32) (by simpa using hd)]
set_option maxHeartbeats 400000 in
theorem turn_any (x : Nat) (b : Int) (w : World) (hx : x < 4294967296) (hb : 1 ≤ b) (hb' : b ≤ 31) :
    Calls Try.prog 43 #[.int .u64 x, .int .u64 b] w fun e w' => e = .returned (.int .u64 (rotr x b.toNat)) ∧ w' = w := by
  go_enter Try.func43, Try.ntmps43
  go_wp2
  go_ret
  refine ⟨?_, rfl⟩
  have := turn_cast x b.toNat hx (by omega) (by omega)
  rw [show 32 - b.toNat = (32 - b).toNat from by omega] at this
  have hw : ∀ z : Int, IntKind.u64.wrap z = z % 18446744073709551616 := fun z => by simp [IntKind.wrap, IntKind.bits, IntKind.signed]
  have ht : ∀ z : Int, 0 ≤ z → z.tmod 4294967296 = z % 4294967296 := fun z hz => Int.tmod_eq_emod_of_nonneg hz
  have hnn : 0 ≤ bits BinOp.or IntKind.u64 ((x : Int) / 2 ^ b.toNat) ((x : Int) * 2 ^ (32 - b).toNat % 18446744073709551616) := by
    have hb : (x * 2 ^ (32 - b).toNat) % 18446744073709551616 < 18446744073709551616 := Nat.mod_lt _ (by omega)
    have hd : x / 2 ^ b.toNat < 18446744073709551616 := Nat.lt_of_le_of_lt (Nat.div_le_self _ _) (by omega)
    rw [show ((x : Int) / 2 ^ b.toNat) = ((x / 2 ^ b.toNat : Nat) : Int) by simp, show ((x : Int) * 2 ^ (32 - b).toNat % 18446744073709551616) = ((x * 2 ^ (32 - b).toNat % 18446744073709551616 : Nat) : Int) by simp, u64_or_nat _ _ hd hb]
    exact Int.natCast_nonneg _
  simp only [Array.getD, hw]
  rw [← this, ← ht _ hnn]
  simp
set_option maxRecDepth 100000 in
set_option maxHeartbeats 1000000 in
theorem rtable_any (w : World) :
    Calls Try.prog 42 #[] w fun e w' => e = .returned (.slice (some ⟨w.heap.size, 0, none⟩) 64 64) ∧ w' = w.alloc (.cells (U64 KN) 56) := by
  go_enter Try.func42, Try.ntmps42
  go_upto_region 1 with fail
  go_wp2
  go_ret
  exact ⟨rfl, rfl⟩
def POwn (base : Nat) (l : List Nat) (w : World) (e : Ending) (w' : World) : Prop := ∃ v, e = .returned v ∧ OwnB w' base v l ∧ Below w.heap.size w w'
end Go.Proofs.Ytjelhljgeinodaa.Hs

-- Rb
namespace Go.Proofs.Ytjelhljgeinodaa.Hs
open Go.RowKit
def lenV : Value → Nat
  | .slice _ n _ => n
  | _ => 0
theorem own_below {w w0 w' : World} {B : Nat} {u : Value} {lu : List Nat} (hu : OwnB w B u lu) (hb : Below B w0 w) (hB : B ≤ w.heap.size) (hg : w.grownBy w' u.ownBlock) : Below B w0 w' :=
  hb.grown hg hB (fun k hk' => (hu.lt k hk').1)
set_option maxHeartbeats 1000000 in
theorem padded_any (l : List Nat) (A : Option Addr) (c : Nat) (w : World) (hr : Rd w w.heap.size A l) (hbig : l.length < 900000) :
    Calls Try.prog 31 #[.slice A l.length c] w (POwn w.heap.size (padded 0 l) w) := by
  have HR := Lib.hid hr
  clear hr
  have a0 : Below w.heap.size w (w.alloc (Obj.cells #[] 5)) := (Below.refl _ _).alloc (Nat.le_refl _) _
  have A0 := Lib.hid a0
  clear a0
  go_enter Try.func31, Try.ntmps31
  go_upto_region 2 with (refine wpList_app8 rfl (.tmp 6) (.tmp 7) rfl w.heap.size _ [] rfl (OwnB.made w w.heap.size (Nat.le_refl _)) (w.alloc (.cells #[] 5)).heap.size A _ l c rfl rfl ((HR.out.below A0.out).more A0.out.size) (by simp; omega) A0.out.size ?_; intro v1 w1 hown hg hat)
  have b1 : Below w.heap.size w w1 := own_below (OwnB.made w w.heap.size (Nat.le_refl _)) A0.out A0.out.size hg
  rw [List.nil_append] at hown
  have O1 := Lib.hid hown; have B1 := Lib.hid b1
  clear hown b1 hg hat A0
  have ba : Below w1.heap.size w1 (w1.alloc (Obj.cells #[Value.int .u8 128] 5)) := (Below.refl _ _).alloc (Nat.le_refl _) _
  have BA := Lib.hid ba
  clear ba
  have hbs1 := B1.out.size
  go_wp2_with (refine wpList_app8 rfl (.tmp 9) (.tmp 10) rfl w.heap.size v1 l rfl (O1.out.below BA.out) (w1.alloc (Obj.cells #[Value.int .u8 128] 5)).heap.size (some ⟨w1.heap.size, 0, none⟩) 1 [128] 1 rfl rfl (rd_blk (Blk.new _ _ _) (by simp)) (by simp; omega) (by simp; omega) ?_; intro v2 w2 hown hg hat)
  have b2 : Below w.heap.size w w2 := own_below (O1.out.below BA.out) (B1.out.trans (BA.out.mono B1.out.size)) (by simp; omega) hg
  have O2 := Lib.hid hown; have B2 := Lib.hid b2
  clear hown b2 hg hat B1 O1 BA hbs1
  go_loopw [3] (fun s wr => ∃ j : Nat, j ≤ (119 - l.length % 64) % 64 ∧ OwnB wr w.heap.size s (l ++ 128 :: List.replicate j 0) ∧ Below w.heap.size w wr) (fun s _ => l.length + 100 - lenV s)
  case atStart => exact ⟨0, by omega, O2.out, B2.out⟩
  case round =>
    clear O2 B2
    obtain ⟨j, hj, hown, hb⟩ := hrel
    obtain ⟨A3, c3, rfl, hc3, hr3⟩ := hown.form
    have hlen : (l ++ 128 :: List.replicate j 0).length = l.length + 1 + j := by simp; omega
    rw [hlen] at hown ⊢
    obtain ⟨N, hN⟩ : ∃ N, N = l.length + 1 + j := ⟨_, rfl⟩
    rw [← hN] at hown ⊢
    have hbs := hb.size
    have O2 := Lib.hid hown; have B2 := Lib.hid hb; have HN := Lib.hid hN; have HLN := Lib.hid hlen
    have hN1 : N ≤ 1000000 := by omega
    by_cases hlt : j < (119 - l.length % 64) % 64
    · have ht : (((N : Int) % 64) != 56) = true := by rw [bne_iff_ne]; omega
      clear hown hb hr3 hc3 hlen hN
      have ba : Below wr.heap.size wr (wr.alloc (Obj.cells #[Value.int .u8 0] 5)) := (Below.refl _ _).alloc (Nat.le_refl _) _
      have BA := Lib.hid ba
      clear ba
      go_wp2_with (refine wpList_app8 rfl (.tmp 16) (.tmp 17) rfl w.heap.size _ (l ++ 128 :: List.replicate j 0) rfl (O2.out.below BA.out) (wr.alloc (Obj.cells #[Value.int .u8 0] 5)).heap.size (some ⟨wr.heap.size, 0, none⟩) 1 [0] 1 rfl rfl (rd_blk (Blk.new _ _ _) (by simp)) (by rw [HLN.out]; simp; have := HN.out; omega) (by simp; omega) ?_; intro v3 w3 hown hg hat)
      have b3 : Below w.heap.size w w3 := own_below (O2.out.below BA.out) (B2.out.trans (BA.out.mono B2.out.size)) (by simp; omega) hg
      have e : (l ++ 128 :: List.replicate j 0) ++ [0] = l ++ 128 :: List.replicate (j + 1) 0 := by
        rw [List.append_assoc, List.cons_append, List.replicate_succ']
      rw [e] at hown
      obtain ⟨A4, c4, rfl, _, _⟩ := hown.form
      refine ⟨⟨j + 1, by omega, hown, b3⟩, ?_⟩
      have := HN.out
      simp [lenV]
      omega
    · have hj2 : j = (119 - l.length % 64) % 64 := by omega
      have ht : (((N : Int) % 64) != 56) = false := by
        have : (N : Int) % 64 = 56 := by omega
        rw [this]; rfl
      clear hown hb hr3 hc3 hlen hN
      have HJ := Lib.hid hj2
      clear hj2
      go_wp2
      obtain ⟨M, hM⟩ : ∃ M, M = l ++ 128 :: List.replicate j 0 := ⟨_, rfl⟩
      have o2 := O2.out
      rw [← hM] at o2
      have hMl : M.length ≤ 1000000 := by rw [hM, HLN.out]; have := HN.out; omega
      have HM := Lib.hid hM
      replace O2 := Lib.hid o2
      clear o2 hM
      go_loopw [3, 5] (fun s i wr => ∃ k : Nat, k ≤ 8 ∧ i = .int .i64 k ∧ OwnB wr w.heap.size s (M ++ (be8 (8 * (0 + l.length))).take k) ∧ Below w.heap.size w wr) (fun _ i _ => 8 - (intOf i).toNat)
      case atStart => exact ⟨0, by omega, rfl, by rw [List.take_zero, List.append_nil]; exact O2.out, B2.out⟩
      case round =>
        clear O2 B2
        obtain ⟨k, hk, rfl, hown, hb⟩ := hrel
        obtain ⟨A4, c4, rfl, hc4, hr4⟩ := hown.form
        have hbs2 := hb.size
        have O2 := Lib.hid hown; have B2 := Lib.hid hb
        have hl4 : (M ++ (be8 (8 * (0 + l.length))).take k).length ≤ 1000008 := by rw [List.length_append, List.length_take, be8_length]; omega
        by_cases hlt2 : k < 8
        · clear hown hb hr4 hc4
          have z1 : (0 : Int) ≤ 56 - 8 * (k : Int) := by omega
          have z2 : (56 - 8 * (k : Int)).toNat = 56 - 8 * k := by omega
          have z4 : 8 * (k : Int) ≤ 56 := by omega
          obtain ⟨x, hx⟩ : ∃ x, x = at0 (be8 (8 * (0 + l.length))) k := ⟨_, rfl⟩
          have hv : (l.length : Int) * 8 / 2 ^ (56 - 8 * k) % 256 = (x : Int) := by
            rw [hx, at0_be8 _ _ hlt2, Nat.zero_add]
            simp [Int.mul_comm]
          have hsn := take_snoc (be8 (8 * (0 + l.length))) k (by rw [be8_length]; exact hlt2)
          rw [← hx] at hsn
          have HSN := Lib.hid hsn
          clear hx hsn
          have ba : Below wr.heap.size wr (wr.alloc (Obj.cells #[Value.int .u8 (x : Int)] 5)) := (Below.refl _ _).alloc (Nat.le_refl _) _
          have BA := Lib.hid ba
          clear ba
          generalize hL : M ++ (be8 (8 * (0 + l.length))).take k = L at *
          have HL := Lib.hid hL
          clear hL
          go_wp2_with (refine wpList_app8 rfl (.tmp 27) (.tmp 34) rfl w.heap.size _ L rfl (O2.out.below BA.out) (wr.alloc (Obj.cells #[Value.int .u8 (x : Int)] 5)).heap.size (some ⟨wr.heap.size, 0, none⟩) 1 [x] 1 rfl rfl (rd_blk (Blk.new _ _ _) (by simp)) (by simp; omega) (by simp; omega) ?_; intro v3 w3 hown hg hat)
          have b3 : Below w.heap.size w w3 := own_below (O2.out.below BA.out) (B2.out.trans (BA.out.mono B2.out.size)) (by simp; omega) hg
          rw [← HL.out, List.append_assoc, ← HSN.out] at hown
          exact ⟨⟨k + 1, by omega, by go_num, hown, b3⟩, by simp [intOf]; omega⟩
        · obtain rfl : k = 8 := by omega
          have e : M ++ (be8 (8 * (0 + l.length))).take 8 = padded 0 l := by
            rw [List.take_of_length_le (by rw [be8_length]; omega), HM.out, HJ.out]
            unfold padded
            simp
          have o2 := O2.out
          rw [e] at o2
          have hle : (M ++ (be8 (8 * (0 + l.length))).take 8).length = (padded 0 l).length := by rw [e]
          rw [hle]
          replace O2 := Lib.hid o2
          clear hown hb hr4 hc4 e o2 hle hl4
          go_wp2
          go_ret
          exact ⟨_, rfl, O2.out, B2.out⟩
end Go.Proofs.Ytjelhljgeinodaa.Hs

-- Rc
namespace Go.Proofs.Ytjelhljgeinodaa.Hs
open Go.RowKit
def OwnQ (w : World) (base : Nat) (v : Value) (l : List Nat) : Prop := w.ownsRow base 56 1 v l.length (U64 l).toList
theorem OwnQ.form {w : World} {base : Nat} {v : Value} {l : List Nat} (h : OwnQ w base v l) (h0 : 0 < l.length) : ∃ g c, v = .slice (some ⟨g, 0, none⟩) l.length c ∧ l.length ≤ c ∧ base ≤ g ∧ g < w.heap.size ∧ ∀ j, j < l.length → w.cell? ⟨g, j, none⟩ = some (.int .u64 ((at0 l j : Nat) : Int)) := by
  rcases h.2 with ⟨rfl, hn⟩ | ⟨g, cap, cur, rfl, hb, hg, hc, _, _, _⟩
  · omega
  · refine ⟨g, cap, rfl, hc, hb, (Array.getElem?_eq_some_iff.1 hg).1, fun j hj => ?_⟩
    have := h.cells (g := g) rfl j (.int .u64 ((at0 l j : Nat) : Int)) (by rw [U64_list, List.getElem?_map, List.getElem?_eq_getElem hj, at0_eq hj]; rfl)
    have hadd : (⟨g, 0, none⟩ : Addr).add j = ⟨g, j, none⟩ := by unfold Addr.add; split <;> simp_all
    rwa [hadd] at this
theorem OwnQ.below {w w' : World} {base : Nat} {v : Value} {l : List Nat} (h : OwnQ w base v l) (hb : Below w.heap.size w w') : OwnQ w' base v l := by
  refine ⟨h.1, ?_⟩
  rcases h.2 with hn | ⟨g, cap, cur, rfl, hbg, hg, r⟩
  · exact .inl hn
  · exact .inr ⟨g, cap, cur, rfl, hbg, by rw [hb.block g (Array.getElem?_eq_some_iff.1 hg).1]; exact hg, r⟩
theorem OwnQ.nil (w : World) (base : Nat) : OwnQ w base (.slice none 0 0) [] := World.ownsRow_nil w base 56 1
theorem info38p : (Try.prog.info? 56).map (fun i => (i.zero, i.size, i.bytes)) = some (some (.int .u64 0), 1, 8) := by kernel_rfl
theorem U64_oneCell (l : List Nat) : ∀ v ∈ (U64 l).toList, v.oneCell' = true := by
  intro v hv
  simp only [U64, List.mem_map] at hv
  obtain ⟨x, _, rfl⟩ := hv
  rfl
theorem run_appQ {w : World} {base : Nat} {ty : TypeId} {v : Value} {l : List Nat} (hown : OwnQ w base v l) (g x : Nat) (hx : Blk w g 56 (U64 [x])) (hbig : l.length ≤ 1000000) (hbase : base ≤ w.heap.size) :
    ∃ v' w', (Builtin.append_ #[69, 69] ty #[v, .slice (some ⟨g, 0, none⟩) 1 1]).run Try.prog w = .ok v' w' ∧ OwnQ w' base v' (l ++ [x]) ∧ w.grownBy w' v.ownBlock := by
  have hp := info38p
  cases hi : Try.prog.info? 56 with
  | none => simp [hi] at hp
  | some i =>
    simp only [hi, Option.map_some, Option.some.injEq, Prod.mk.injEq] at hp
    obtain ⟨v', w', hrun, h2, h3, _, _⟩ := run_append_own_at (P := Try.prog) w base 69 ty 56 i (.int .u64 0) 1 8 Try.underlying69 hi hp.1 hp.2.1 hp.2.2 rfl (by omega) v l.length (U64 l).toList hown ⟨g, 0, none⟩ 1 1 (U64 [x]).toList rfl
      (fun j u hu => by
        rw [Array.getElem?_toList, ← hx.cell] at hu
        have hadd : (⟨g, 0, none⟩ : Addr).add j = ⟨g, j, none⟩ := by unfold Addr.add; split <;> simp_all
        rw [hadd]; exact hu) (U64_oneCell [x]) (by unfold maxLen; omega) (by omega) hbase
    refine ⟨v', w', hrun, ?_, h3⟩
    have e : (U64 (l ++ [x])).toList = (U64 l).toList ++ (U64 [x]).toList := by simp [U64_list]
    unfold OwnQ
    rw [e, List.length_append]
    exact h2
theorem wpList_appQ {ops : Array Oper} {rest : List Oper} {o : Oper} {a : Act} {w : World} {Q : Exit → Act → World → Prop} (hgd : o.guard = none) (s y : Operand)
    (ho : o.op = .call { callee := .builtin .append, args := #[s, y], argTypes := #[69, 69] })
    (base : Nat) (v : Value) (l : List Nat) (hs : a.eval s = v) (hown : OwnQ w base v l) (g x : Nat) (hy : a.eval y = .slice (some ⟨g, 0, none⟩) 1 1) (hx : Blk w g 56 (U64 [x]))
    (hbig : l.length ≤ 1000000) (hbase : base ≤ w.heap.size)
    (h : ∀ v' w', OwnQ w' base v' (l ++ [x]) → w.grownBy w' v.ownBlock → wpList Try.prog ops Q rest (a.put o.dst v') w') : wpList Try.prog ops Q (o :: rest) a w :=
  wpList_plain hgd fun _ hK => by
    obtain ⟨v', w', hrun, h2, h3⟩ := run_appQ (ty := o.type) hown g x hx hbig hbase
    unfold Oper.wp execOp
    simp only [ho, resolve, invoke, builtin, Sem.run_bind, Sem.run_pure, Result.andThen_ok, List.map_toArray, List.map_cons, List.map_nil, hs, hy, hrun]
    exact hK _ _ (h v' w' h2 h3)
theorem evalc (a : Act) (x : Value) : a.eval (.const x) = x := rfl
def VQ (vals : List Value) (z : Nat) (i : Nat) (x : Value) (w : World) : Prop :=
  match vals[i]? with
  | some y => x = y
  | none => ∃ g, x = .slice (some ⟨g, 0, none⟩) 1 1 ∧ Blk w g 56 (U64 [z])
theorem VQ_keep (vals : List Value) (z : Nat) (i : Nat) (x : Value) (w w' : World) (h : VQ vals z i x w) (hb : Below w.heap.size w w') : VQ vals z i x w' := by
  unfold VQ at *
  split <;> simp_all
  obtain ⟨g, h1, h2⟩ := h
  exact ⟨g, h1, h2.below hb h2.lt⟩
theorem ow_bsQ {Q : Exit → Act → World → Prop} {o : Oper} {a : Act} {w : World} {V : Value → World → Prop} (y : Operand) (ho : o.op = .buildSlice 69 1 #[(0, y)]) (z : Nat) (hy : a.eval y = .int .u64 (z : Int)) (hv : V (.slice (some ⟨w.heap.size, 0, none⟩) 1 1) (w.alloc (.cells (U64 [z]) 56))) :
    o.wp Try.prog a w (fun a' w' => ∃ x, a' = a.put o.dst x ∧ Below w.heap.size w w' ∧ V x w') Q :=
  ow_value _ _ (by
    unfold execOp
    simp only [ho, List.map_toArray, List.map_cons, List.map_nil, hy]
    go_simp
    rfl) ((Below.refl _ _).alloc (Nat.le_refl _) _) hv
def PQ (base : Nat) (l : List Nat) (w : World) (e : Ending) (w' : World) : Prop := ∃ v, e = .returned v ∧ OwnQ w' base v l ∧ Below w.heap.size w w'
theorem lsig1_lt {x : Nat} (hx : x < 4294967296) : lsig1 x < 4294967296 := xor32 (xor32 (rotr_lt x 17 hx) (rotr_lt x 19 hx)) (Nat.lt_of_le_of_lt (Nat.div_le_self _ _) hx)
theorem lsig0_lt {x : Nat} (hx : x < 4294967296) : lsig0 x < 4294967296 := xor32 (xor32 (rotr_lt x 7 hx) (rotr_lt x 18 hx)) (Nat.lt_of_le_of_lt (Nat.div_le_self _ _) hx)
theorem sig_cast64 {x i j d : Nat} (hx : x < 4294967296) :
    bits BinOp.xor IntKind.u64 (bits BinOp.xor IntKind.u64 (rotr x i : Int) (rotr x j : Int)) ((x : Int) / (d : Int)) = ((rotr x i ^^^ rotr x j ^^^ (x / d) : Nat) : Int) := by
  have h1 := rotr_lt x i hx; have h2 := rotr_lt x j hx; have h3 := xor32 h1 h2
  have h4 : x / d < 4294967296 := Nat.lt_of_le_of_lt (Nat.div_le_self _ _) hx
  rw [← Int.natCast_ediv, u64_xor_nat _ _ (by omega) (by omega), u64_xor_nat _ _ (by omega) (by omega)]
theorem wcast {p2 p7 p15 p16 : Nat} (h2 : p2 < 4294967296) (h7 : p7 < 4294967296) (h15 : p15 < 4294967296) (h16 : p16 < 4294967296) :
    IntKind.u64.wrap (IntKind.u64.wrap (IntKind.u64.wrap (bits BinOp.xor IntKind.u64 (bits BinOp.xor IntKind.u64 (rotr p2 17 : Int) (rotr p2 19 : Int)) ((p2 : Int) / 1024) + (p7 : Int)) +
      bits BinOp.xor IntKind.u64 (bits BinOp.xor IntKind.u64 (rotr p15 7 : Int) (rotr p15 18 : Int)) ((p15 : Int) / 8)) + (p16 : Int)) = ((lsig1 p2 + p7 + lsig0 p15 + p16 : Nat) : Int) := by
  have e1 := sig_cast64 (x := p2) (i := 17) (j := 19) (d := 1024) h2
  have e2 := sig_cast64 (x := p15) (i := 7) (j := 18) (d := 8) h15
  rw [show ((1024 : Nat) : Int) = 1024 from rfl] at e1
  rw [show ((8 : Nat) : Int) = 8 from rfl] at e2
  have hw : ∀ z : Int, IntKind.u64.wrap z = z % 18446744073709551616 := fun z => by simp [IntKind.wrap, IntKind.bits, IntKind.signed]
  have l1 := lsig1_lt h2
  have l2 := lsig0_lt h15
  rw [e1, e2, hw, hw, hw]
  unfold lsig1 lsig0 at *
  omega
set_option maxRecDepth 100000 in
set_option maxHeartbeats 2000000 in
theorem words_any (b : List Nat) (g off c : Nat) (w : World) (hb : b.length = 64) (hb' : W8 b) (hg : g < w.heap.size) (hcell : ∀ j, j < 64 → w.cell? ⟨g, off + j, none⟩ = some (.int .u8 ((at0 b j : Nat) : Int))) :
    Calls Try.prog 41 #[.slice (some ⟨g, off, none⟩) 64 c] w (PQ w.heap.size (wordsN b 64) w) := by
  have HB := Lib.hid hb; have HB' := Lib.hid hb'; have HC := Lib.hid hcell
  clear hb hb' hcell
  go_enter Try.func41, Try.ntmps41
  go_wp2
  go_loopw [3, 4] (fun s i wr => ∃ k : Nat, k ≤ 16 ∧ i = .int .i64 k ∧ OwnQ wr w.heap.size s (wordsN b k) ∧ Below w.heap.size w wr) (fun _ i _ => 16 - (intOf i).toNat)
  case atStart => exact ⟨0, by omega, rfl, OwnQ.nil _ _, Below.refl _ _⟩
  case round =>
    obtain ⟨k, hk, rfl, hown, hbel⟩ := hrel
    have O3 := Lib.hid hown; have BEL := Lib.hid hbel
    clear hown hbel
    by_cases hlt : k < 16
    · have hlt' : (k : Int) < 16 := by omega
      obtain ⟨i0, hi0⟩ : ∃ n, n = 4 * k := ⟨_, rfl⟩
      obtain ⟨i1, hi1⟩ : ∃ n, n = 4 * k + 1 := ⟨_, rfl⟩
      obtain ⟨i2, hi2⟩ : ∃ n, n = 4 * k + 2 := ⟨_, rfl⟩
      obtain ⟨i3, hi3⟩ : ∃ n, n = 4 * k + 3 := ⟨_, rfl⟩
      have f0 : IntKind.i64.wrap (4 * (k : Int)) = (i0 : Int) := by rw [IntWalk.i64_in _ (by omega)]; omega
      have f1 : IntKind.i64.wrap ((i0 : Int) + 1) = (i1 : Int) := by rw [IntWalk.i64_in _ (by omega)]; omega
      have f2 : IntKind.i64.wrap ((i0 : Int) + 2) = (i2 : Int) := by rw [IntWalk.i64_in _ (by omega)]; omega
      have f3 : IntKind.i64.wrap ((i0 : Int) + 3) = (i3 : Int) := by rw [IntWalk.i64_in _ (by omega)]; omega
      obtain ⟨x0, hx0⟩ : ∃ n, n = at0 b i0 := ⟨_, rfl⟩
      obtain ⟨x1, hx1⟩ : ∃ n, n = at0 b i1 := ⟨_, rfl⟩
      obtain ⟨x2, hx2⟩ : ∃ n, n = at0 b i2 := ⟨_, rfl⟩
      obtain ⟨x3, hx3⟩ : ∃ n, n = at0 b i3 := ⟨_, rfl⟩
      have r0 : i0 < 64 := by omega
      have r1 : i1 < 64 := by omega
      have r2 : i2 < 64 := by omega
      have r3 : i3 < 64 := by omega
      have r0' : (i0 : Int) < 64 := by omega
      have r1' : (i1 : Int) < 64 := by omega
      have r2' : (i2 : Int) < 64 := by omega
      have r3' : (i3 : Int) < 64 := by omega
      have q0 := HC.out i0 r0; have q1 := HC.out i1 r1; have q2 := HC.out i2 r2; have q3 := HC.out i3 r3
      rw [← hx0] at q0; rw [← hx1] at q1; rw [← hx2] at q2; rw [← hx3] at q3
      have m0 : x0 < 256 := by rw [hx0]; exact HB'.out.at _
      have m1 : x1 < 256 := by rw [hx1]; exact HB'.out.at _
      have m2 : x2 < 256 := by rw [hx2]; exact HB'.out.at _
      have m3 : x3 < 256 := by rw [hx3]; exact HB'.out.at _
      have hw64 : ∀ z : Int, IntKind.u64.wrap z = z % 18446744073709551616 := fun z => by simp [IntKind.wrap, IntKind.bits, IntKind.signed]
      obtain ⟨y0, hy0⟩ : ∃ n, n = x0 * 16777216 := ⟨_, rfl⟩
      obtain ⟨y1, hy1⟩ : ∃ n, n = x1 * 65536 := ⟨_, rfl⟩
      obtain ⟨y2, hy2⟩ : ∃ n, n = x2 * 256 := ⟨_, rfl⟩
      obtain ⟨z1, hz1⟩ : ∃ n, n = y0 + y1 := ⟨_, rfl⟩
      obtain ⟨z2, hz2⟩ : ∃ n, n = z1 + y2 := ⟨_, rfl⟩
      obtain ⟨z3, hz3⟩ : ∃ n, n = z2 + x3 := ⟨_, rfl⟩
      have hword : z3 = word b k := by unfold word; rw [← hi3, ← hi2, ← hi1, ← hi0, ← hx0, ← hx1, ← hx2, ← hx3]; omega
      have c0 : IntKind.u64.wrap (x0 : Int) = (x0 : Int) := by rw [hw64]; omega
      have c1 : IntKind.u64.wrap (x1 : Int) = (x1 : Int) := by rw [hw64]; omega
      have c2 : IntKind.u64.wrap (x2 : Int) = (x2 : Int) := by rw [hw64]; omega
      have c3 : IntKind.u64.wrap (x3 : Int) = (x3 : Int) := by rw [hw64]; omega
      have d0 : IntKind.u64.wrap ((x0 : Int) * 16777216) = (y0 : Int) := by rw [hw64]; omega
      have d1 : IntKind.u64.wrap ((x1 : Int) * 65536) = (y1 : Int) := by rw [hw64]; omega
      have d2 : IntKind.u64.wrap ((x2 : Int) * 256) = (y2 : Int) := by rw [hw64]; omega
      have g1 : IntKind.u64.wrap ((y0 : Int) + (y1 : Int)) = (z1 : Int) := by rw [hw64]; omega
      have g2 : IntKind.u64.wrap ((z1 : Int) + (y2 : Int)) = (z2 : Int) := by rw [hw64]; omega
      have g3 : IntKind.u64.wrap ((z2 : Int) + (x3 : Int)) = (z3 : Int) := by rw [hw64]; omega
      have HW := Lib.hid hword
      clear hi0 hi1 hi2 hi3 hx0 hx1 hx2 hx3 hy0 hy1 hy2 hz1 hz2 hz3 hword hw64
      go_upto_region 5 with fail
      refine region_relG 35 (VQ [u3, Value.slice (some ⟨g, off, none⟩) 64 c, Value.int .i64 (k : Int), Value.int .i64 (i0 : Int), Value.pointer (some ⟨g, off + i0, none⟩), Value.int .u8 (x0 : Int), Value.int .u64 (x0 : Int), Value.int .u64 (y0 : Int), Value.slice (some ⟨g, off, none⟩) 64 c, Value.int .i64 (k : Int), Value.int .i64 (i0 : Int), Value.int .i64 (i1 : Int), Value.pointer (some ⟨g, off + i1, none⟩), Value.int .u8 (x1 : Int), Value.int .u64 (x1 : Int), Value.int .u64 (y1 : Int), Value.int .u64 (z1 : Int), Value.slice (some ⟨g, off, none⟩) 64 c, Value.int .i64 (k : Int), Value.int .i64 (i0 : Int), Value.int .i64 (i2 : Int), Value.pointer (some ⟨g, off + i2, none⟩), Value.int .u8 (x2 : Int), Value.int .u64 (x2 : Int), Value.int .u64 (y2 : Int), Value.int .u64 (z2 : Int), Value.slice (some ⟨g, off, none⟩) 64 c, Value.int .i64 (k : Int), Value.int .i64 (i0 : Int), Value.int .i64 (i3 : Int), Value.pointer (some ⟨g, off + i3, none⟩), Value.int .u8 (x3 : Int), Value.int .u64 (x3 : Int), Value.int .u64 (z3 : Int)] z3) (by kernel_rfl) (by kernel_rfl) rfl (VQ_keep _ _) ?_ ?_
      · intro i o hi a v w' hb hv ht hout
        have hbw := BEL.out.trans (hb.mono BEL.out.size)
        rw [← hbw.cell (p := ⟨g, off + i0, none⟩) hg] at q0
        rw [← hbw.cell (p := ⟨g, off + i1, none⟩) hg] at q1
        rw [← hbw.cell (p := ⟨g, off + i2, none⟩) hg] at q2
        rw [← hbw.cell (p := ⟨g, off + i3, none⟩) hg] at q3
        clear hb hbw
        rcases i with _ | _ | _ | _ | _ | _ | _ | _ | _ | _ | _ | _ | _ | _ | _ | _ | _ | _ | _ | _ | _ | _ | _ | _ | _ | _ | _ | _ | _ | _ | _ | _ | _ | _ | _ | i
        · obtain rfl := Option.some.inj hi
          exact ⟨rfl, ow_move (.tmp 3) rfl (hout 3 (by kernel_rfl))⟩
        · obtain rfl := Option.some.inj hi
          exact ⟨rfl, ow_move (.tmp 0) rfl (hout 0 (by kernel_rfl))⟩
        · obtain rfl := Option.some.inj hi
          exact ⟨rfl, ow_move (.tmp 4) rfl (hout 4 (by kernel_rfl))⟩
        · obtain rfl := Option.some.inj hi
          have e2 : v 2 = Value.int .i64 (k : Int) := hv 2 (by kernel_rfl)
          have t2 := ht 2 _ 15 (by kernel_rfl) rfl rfl
          have s2 : a.eval (.tmp 15) = Value.int .i64 (k : Int) := t2.trans e2
          clear e2 t2 hv ht hout hi
          exact ⟨rfl, ow_value (Value.int .i64 (i0 : Int)) w' (by unfold execOp; simp only [s2, evalc]; clear s2; go_simp) (Below.refl _ _) rfl⟩
        · obtain rfl := Option.some.inj hi
          have e1 : v 1 = Value.slice (some ⟨g, off, none⟩) 64 c := hv 1 (by kernel_rfl)
          have t1 := ht 1 _ 14 (by kernel_rfl) rfl rfl
          have s1 : a.eval (.tmp 14) = Value.slice (some ⟨g, off, none⟩) 64 c := t1.trans e1
          have e3 : v 3 = Value.int .i64 (i0 : Int) := hv 3 (by kernel_rfl)
          have t3 := ht 3 _ 16 (by kernel_rfl) rfl rfl
          have s3 : a.eval (.tmp 16) = Value.int .i64 (i0 : Int) := t3.trans e3
          clear e1 e3 t1 t3 hv ht hout hi
          exact ⟨rfl, ow_value (Value.pointer (some ⟨g, off + i0, none⟩)) w' (by unfold execOp; simp only [s1, s3]; clear s1 s3; go_simp) (Below.refl _ _) rfl⟩
        · obtain rfl := Option.some.inj hi
          have e4 : v 4 = Value.pointer (some ⟨g, off + i0, none⟩) := hv 4 (by kernel_rfl)
          have t4 := ht 4 _ 17 (by kernel_rfl) rfl rfl
          have s4 : a.eval (.tmp 17) = Value.pointer (some ⟨g, off + i0, none⟩) := t4.trans e4
          clear e4 t4 hv ht hout hi
          exact ⟨rfl, ow_value (Value.int .u8 (x0 : Int)) w' (by unfold execOp; simp only [s4]; clear s4; go_simp) (Below.refl _ _) rfl⟩
        · obtain rfl := Option.some.inj hi
          have e5 : v 5 = Value.int .u8 (x0 : Int) := hv 5 (by kernel_rfl)
          have t5 := ht 5 _ 18 (by kernel_rfl) rfl rfl
          have s5 : a.eval (.tmp 18) = Value.int .u8 (x0 : Int) := t5.trans e5
          clear e5 t5 hv ht hout hi
          exact ⟨rfl, ow_value (Value.int .u64 (x0 : Int)) w' (by unfold execOp; simp only [s5]; clear s5; go_simp) (Below.refl _ _) rfl⟩
        · obtain rfl := Option.some.inj hi
          have e6 : v 6 = Value.int .u64 (x0 : Int) := hv 6 (by kernel_rfl)
          have t6 := ht 6 _ 19 (by kernel_rfl) rfl rfl
          have s6 : a.eval (.tmp 19) = Value.int .u64 (x0 : Int) := t6.trans e6
          clear e6 t6 hv ht hout hi
          exact ⟨rfl, ow_value (Value.int .u64 (y0 : Int)) w' (by unfold execOp; simp only [s6, evalc]; clear s6; go_simp) (Below.refl _ _) rfl⟩
        · obtain rfl := Option.some.inj hi
          exact ⟨rfl, ow_move (.tmp 0) rfl (hout 0 (by kernel_rfl))⟩
        · obtain rfl := Option.some.inj hi
          exact ⟨rfl, ow_move (.tmp 4) rfl (hout 4 (by kernel_rfl))⟩
        · obtain rfl := Option.some.inj hi
          have e9 : v 9 = Value.int .i64 (k : Int) := hv 9 (by kernel_rfl)
          have t9 := ht 9 _ 22 (by kernel_rfl) rfl rfl
          have s9 : a.eval (.tmp 22) = Value.int .i64 (k : Int) := t9.trans e9
          clear e9 t9 hv ht hout hi
          exact ⟨rfl, ow_value (Value.int .i64 (i0 : Int)) w' (by unfold execOp; simp only [s9, evalc]; clear s9; go_simp) (Below.refl _ _) rfl⟩
        · obtain rfl := Option.some.inj hi
          have e10 : v 10 = Value.int .i64 (i0 : Int) := hv 10 (by kernel_rfl)
          have t10 := ht 10 _ 23 (by kernel_rfl) rfl rfl
          have s10 : a.eval (.tmp 23) = Value.int .i64 (i0 : Int) := t10.trans e10
          clear e10 t10 hv ht hout hi
          exact ⟨rfl, ow_value (Value.int .i64 (i1 : Int)) w' (by unfold execOp; simp only [s10, evalc]; clear s10; go_simp) (Below.refl _ _) rfl⟩
        · obtain rfl := Option.some.inj hi
          have e8 : v 8 = Value.slice (some ⟨g, off, none⟩) 64 c := hv 8 (by kernel_rfl)
          have t8 := ht 8 _ 21 (by kernel_rfl) rfl rfl
          have s8 : a.eval (.tmp 21) = Value.slice (some ⟨g, off, none⟩) 64 c := t8.trans e8
          have e11 : v 11 = Value.int .i64 (i1 : Int) := hv 11 (by kernel_rfl)
          have t11 := ht 11 _ 24 (by kernel_rfl) rfl rfl
          have s11 : a.eval (.tmp 24) = Value.int .i64 (i1 : Int) := t11.trans e11
          clear e8 e11 t8 t11 hv ht hout hi
          exact ⟨rfl, ow_value (Value.pointer (some ⟨g, off + i1, none⟩)) w' (by unfold execOp; simp only [s8, s11]; clear s8 s11; go_simp) (Below.refl _ _) rfl⟩
        · obtain rfl := Option.some.inj hi
          have e12 : v 12 = Value.pointer (some ⟨g, off + i1, none⟩) := hv 12 (by kernel_rfl)
          have t12 := ht 12 _ 25 (by kernel_rfl) rfl rfl
          have s12 : a.eval (.tmp 25) = Value.pointer (some ⟨g, off + i1, none⟩) := t12.trans e12
          clear e12 t12 hv ht hout hi
          exact ⟨rfl, ow_value (Value.int .u8 (x1 : Int)) w' (by unfold execOp; simp only [s12]; clear s12; go_simp) (Below.refl _ _) rfl⟩
        · obtain rfl := Option.some.inj hi
          have e13 : v 13 = Value.int .u8 (x1 : Int) := hv 13 (by kernel_rfl)
          have t13 := ht 13 _ 26 (by kernel_rfl) rfl rfl
          have s13 : a.eval (.tmp 26) = Value.int .u8 (x1 : Int) := t13.trans e13
          clear e13 t13 hv ht hout hi
          exact ⟨rfl, ow_value (Value.int .u64 (x1 : Int)) w' (by unfold execOp; simp only [s13]; clear s13; go_simp) (Below.refl _ _) rfl⟩
        · obtain rfl := Option.some.inj hi
          have e14 : v 14 = Value.int .u64 (x1 : Int) := hv 14 (by kernel_rfl)
          have t14 := ht 14 _ 27 (by kernel_rfl) rfl rfl
          have s14 : a.eval (.tmp 27) = Value.int .u64 (x1 : Int) := t14.trans e14
          clear e14 t14 hv ht hout hi
          exact ⟨rfl, ow_value (Value.int .u64 (y1 : Int)) w' (by unfold execOp; simp only [s14, evalc]; clear s14; go_simp) (Below.refl _ _) rfl⟩
        · obtain rfl := Option.some.inj hi
          have e7 : v 7 = Value.int .u64 (y0 : Int) := hv 7 (by kernel_rfl)
          have t7 := ht 7 _ 20 (by kernel_rfl) rfl rfl
          have s7 : a.eval (.tmp 20) = Value.int .u64 (y0 : Int) := t7.trans e7
          have e15 : v 15 = Value.int .u64 (y1 : Int) := hv 15 (by kernel_rfl)
          have t15 := ht 15 _ 28 (by kernel_rfl) rfl rfl
          have s15 : a.eval (.tmp 28) = Value.int .u64 (y1 : Int) := t15.trans e15
          clear e7 e15 t7 t15 hv ht hout hi
          exact ⟨rfl, ow_value (Value.int .u64 (z1 : Int)) w' (by unfold execOp; simp only [s7, s15]; clear s7 s15; go_simp) (Below.refl _ _) rfl⟩
        · obtain rfl := Option.some.inj hi
          exact ⟨rfl, ow_move (.tmp 0) rfl (hout 0 (by kernel_rfl))⟩
        · obtain rfl := Option.some.inj hi
          exact ⟨rfl, ow_move (.tmp 4) rfl (hout 4 (by kernel_rfl))⟩
        · obtain rfl := Option.some.inj hi
          have e18 : v 18 = Value.int .i64 (k : Int) := hv 18 (by kernel_rfl)
          have t18 := ht 18 _ 31 (by kernel_rfl) rfl rfl
          have s18 : a.eval (.tmp 31) = Value.int .i64 (k : Int) := t18.trans e18
          clear e18 t18 hv ht hout hi
          exact ⟨rfl, ow_value (Value.int .i64 (i0 : Int)) w' (by unfold execOp; simp only [s18, evalc]; clear s18; go_simp) (Below.refl _ _) rfl⟩
        · obtain rfl := Option.some.inj hi
          have e19 : v 19 = Value.int .i64 (i0 : Int) := hv 19 (by kernel_rfl)
          have t19 := ht 19 _ 32 (by kernel_rfl) rfl rfl
          have s19 : a.eval (.tmp 32) = Value.int .i64 (i0 : Int) := t19.trans e19
          clear e19 t19 hv ht hout hi
          exact ⟨rfl, ow_value (Value.int .i64 (i2 : Int)) w' (by unfold execOp; simp only [s19, evalc]; clear s19; go_simp) (Below.refl _ _) rfl⟩
        · obtain rfl := Option.some.inj hi
          have e17 : v 17 = Value.slice (some ⟨g, off, none⟩) 64 c := hv 17 (by kernel_rfl)
          have t17 := ht 17 _ 30 (by kernel_rfl) rfl rfl
          have s17 : a.eval (.tmp 30) = Value.slice (some ⟨g, off, none⟩) 64 c := t17.trans e17
          have e20 : v 20 = Value.int .i64 (i2 : Int) := hv 20 (by kernel_rfl)
          have t20 := ht 20 _ 33 (by kernel_rfl) rfl rfl
          have s20 : a.eval (.tmp 33) = Value.int .i64 (i2 : Int) := t20.trans e20
          clear e17 e20 t17 t20 hv ht hout hi
          exact ⟨rfl, ow_value (Value.pointer (some ⟨g, off + i2, none⟩)) w' (by unfold execOp; simp only [s17, s20]; clear s17 s20; go_simp) (Below.refl _ _) rfl⟩
        · obtain rfl := Option.some.inj hi
          have e21 : v 21 = Value.pointer (some ⟨g, off + i2, none⟩) := hv 21 (by kernel_rfl)
          have t21 := ht 21 _ 34 (by kernel_rfl) rfl rfl
          have s21 : a.eval (.tmp 34) = Value.pointer (some ⟨g, off + i2, none⟩) := t21.trans e21
          clear e21 t21 hv ht hout hi
          exact ⟨rfl, ow_value (Value.int .u8 (x2 : Int)) w' (by unfold execOp; simp only [s21]; clear s21; go_simp) (Below.refl _ _) rfl⟩
        · obtain rfl := Option.some.inj hi
          have e22 : v 22 = Value.int .u8 (x2 : Int) := hv 22 (by kernel_rfl)
          have t22 := ht 22 _ 35 (by kernel_rfl) rfl rfl
          have s22 : a.eval (.tmp 35) = Value.int .u8 (x2 : Int) := t22.trans e22
          clear e22 t22 hv ht hout hi
          exact ⟨rfl, ow_value (Value.int .u64 (x2 : Int)) w' (by unfold execOp; simp only [s22]; clear s22; go_simp) (Below.refl _ _) rfl⟩
        · obtain rfl := Option.some.inj hi
          have e23 : v 23 = Value.int .u64 (x2 : Int) := hv 23 (by kernel_rfl)
          have t23 := ht 23 _ 36 (by kernel_rfl) rfl rfl
          have s23 : a.eval (.tmp 36) = Value.int .u64 (x2 : Int) := t23.trans e23
          clear e23 t23 hv ht hout hi
          exact ⟨rfl, ow_value (Value.int .u64 (y2 : Int)) w' (by unfold execOp; simp only [s23, evalc]; clear s23; go_simp) (Below.refl _ _) rfl⟩
        · obtain rfl := Option.some.inj hi
          have e16 : v 16 = Value.int .u64 (z1 : Int) := hv 16 (by kernel_rfl)
          have t16 := ht 16 _ 29 (by kernel_rfl) rfl rfl
          have s16 : a.eval (.tmp 29) = Value.int .u64 (z1 : Int) := t16.trans e16
          have e24 : v 24 = Value.int .u64 (y2 : Int) := hv 24 (by kernel_rfl)
          have t24 := ht 24 _ 37 (by kernel_rfl) rfl rfl
          have s24 : a.eval (.tmp 37) = Value.int .u64 (y2 : Int) := t24.trans e24
          clear e16 e24 t16 t24 hv ht hout hi
          exact ⟨rfl, ow_value (Value.int .u64 (z2 : Int)) w' (by unfold execOp; simp only [s16, s24]; clear s16 s24; go_simp) (Below.refl _ _) rfl⟩
        · obtain rfl := Option.some.inj hi
          exact ⟨rfl, ow_move (.tmp 0) rfl (hout 0 (by kernel_rfl))⟩
        · obtain rfl := Option.some.inj hi
          exact ⟨rfl, ow_move (.tmp 4) rfl (hout 4 (by kernel_rfl))⟩
        · obtain rfl := Option.some.inj hi
          have e27 : v 27 = Value.int .i64 (k : Int) := hv 27 (by kernel_rfl)
          have t27 := ht 27 _ 40 (by kernel_rfl) rfl rfl
          have s27 : a.eval (.tmp 40) = Value.int .i64 (k : Int) := t27.trans e27
          clear e27 t27 hv ht hout hi
          exact ⟨rfl, ow_value (Value.int .i64 (i0 : Int)) w' (by unfold execOp; simp only [s27, evalc]; clear s27; go_simp) (Below.refl _ _) rfl⟩
        · obtain rfl := Option.some.inj hi
          have e28 : v 28 = Value.int .i64 (i0 : Int) := hv 28 (by kernel_rfl)
          have t28 := ht 28 _ 41 (by kernel_rfl) rfl rfl
          have s28 : a.eval (.tmp 41) = Value.int .i64 (i0 : Int) := t28.trans e28
          clear e28 t28 hv ht hout hi
          exact ⟨rfl, ow_value (Value.int .i64 (i3 : Int)) w' (by unfold execOp; simp only [s28, evalc]; clear s28; go_simp) (Below.refl _ _) rfl⟩
        · obtain rfl := Option.some.inj hi
          have e26 : v 26 = Value.slice (some ⟨g, off, none⟩) 64 c := hv 26 (by kernel_rfl)
          have t26 := ht 26 _ 39 (by kernel_rfl) rfl rfl
          have s26 : a.eval (.tmp 39) = Value.slice (some ⟨g, off, none⟩) 64 c := t26.trans e26
          have e29 : v 29 = Value.int .i64 (i3 : Int) := hv 29 (by kernel_rfl)
          have t29 := ht 29 _ 42 (by kernel_rfl) rfl rfl
          have s29 : a.eval (.tmp 42) = Value.int .i64 (i3 : Int) := t29.trans e29
          clear e26 e29 t26 t29 hv ht hout hi
          exact ⟨rfl, ow_value (Value.pointer (some ⟨g, off + i3, none⟩)) w' (by unfold execOp; simp only [s26, s29]; clear s26 s29; go_simp) (Below.refl _ _) rfl⟩
        · obtain rfl := Option.some.inj hi
          have e30 : v 30 = Value.pointer (some ⟨g, off + i3, none⟩) := hv 30 (by kernel_rfl)
          have t30 := ht 30 _ 43 (by kernel_rfl) rfl rfl
          have s30 : a.eval (.tmp 43) = Value.pointer (some ⟨g, off + i3, none⟩) := t30.trans e30
          clear e30 t30 hv ht hout hi
          exact ⟨rfl, ow_value (Value.int .u8 (x3 : Int)) w' (by unfold execOp; simp only [s30]; clear s30; go_simp) (Below.refl _ _) rfl⟩
        · obtain rfl := Option.some.inj hi
          have e31 : v 31 = Value.int .u8 (x3 : Int) := hv 31 (by kernel_rfl)
          have t31 := ht 31 _ 44 (by kernel_rfl) rfl rfl
          have s31 : a.eval (.tmp 44) = Value.int .u8 (x3 : Int) := t31.trans e31
          clear e31 t31 hv ht hout hi
          exact ⟨rfl, ow_value (Value.int .u64 (x3 : Int)) w' (by unfold execOp; simp only [s31]; clear s31; go_simp) (Below.refl _ _) rfl⟩
        · obtain rfl := Option.some.inj hi
          have e25 : v 25 = Value.int .u64 (z2 : Int) := hv 25 (by kernel_rfl)
          have t25 := ht 25 _ 38 (by kernel_rfl) rfl rfl
          have s25 : a.eval (.tmp 38) = Value.int .u64 (z2 : Int) := t25.trans e25
          have e32 : v 32 = Value.int .u64 (x3 : Int) := hv 32 (by kernel_rfl)
          have t32 := ht 32 _ 45 (by kernel_rfl) rfl rfl
          have s32 : a.eval (.tmp 45) = Value.int .u64 (x3 : Int) := t32.trans e32
          clear e25 e32 t25 t32 hv ht hout hi
          exact ⟨rfl, ow_value (Value.int .u64 (z3 : Int)) w' (by unfold execOp; simp only [s25, s32]; clear s25 s32; go_simp) (Below.refl _ _) rfl⟩
        · obtain rfl := Option.some.inj hi
          have e33 : v 33 = Value.int .u64 (z3 : Int) := hv 33 (by kernel_rfl)
          have t33 := ht 33 _ 46 (by kernel_rfl) rfl rfl
          have s33 : a.eval (.tmp 46) = Value.int .u64 (z3 : Int) := t33.trans e33
          exact ⟨rfl, ow_bsQ (.tmp 46) rfl z3 s33 ⟨w'.heap.size, rfl, Blk.new _ _ _⟩⟩
        · simp at hi

      · intro v W2 hb hv
        have e0 : v 0 = u3 := hv 0 (by simp)
        obtain ⟨g', e34, hg'⟩ : ∃ g, v 34 = .slice (some ⟨g, 0, none⟩) 1 1 ∧ Blk W2 g 56 (U64 [z3]) := hv 34 (by simp)
        clear hv
        have o3 := O3.out.below hb
        have bel := BEL.out.trans (hb.mono BEL.out.size)
        have hbs := bel.size
        replace O3 := Lib.hid o3; replace BEL := Lib.hid bel; have G' := Lib.hid hg'
        clear o3 bel hb hg' f0 f1 f2 f3 q0 q1 q2 q3 c0 c1 c2 c3 d0 d1 d2 g1 g2 g3
        simp only [List.take_succ_cons, List.drop_succ_cons, List.take_zero, List.drop_zero, putsFrom, if_true, Nat.zero_add, Nat.reduceAdd, e0, e34]
        clear e0 e34
        simp only [Act.put, List.setIfInBounds_toArray, List.set_cons_succ, List.set_cons_zero]
        have hlw := wordsN_length b k
        go_wp2_with (refine wpList_appQ rfl (.tmp 13) (.tmp 47) rfl w.heap.size u3 (wordsN b k) rfl O3.out g' z3 rfl G'.out (by rw [wordsN_length]; omega) hbs ?_; intro v3 w3 hown hgr)
        have hw1 : wordsN b (k + 1) = wordsN b k ++ [z3] := by simp [wordsN, hlt, HW.out]
        rw [← hw1] at hown
        exact ⟨⟨k + 1, by omega, by go_num, hown, BEL.out.grown hgr hbs (fun j hj => (O3.out.lt j hj).1)⟩, by simp [intOf]; omega⟩
    · obtain rfl : k = 16 := by omega
      rw [show ((16 : Nat) : Int) = 16 from rfl]
      go_wp2
      go_loopw [3, 5] (fun s i wr => ∃ k : Nat, k ≤ 64 ∧ 16 ≤ k ∧ i = .int .i64 k ∧ OwnQ wr w.heap.size s (wordsN b k) ∧ Below w.heap.size w wr) (fun _ i _ => 64 - (intOf i).toNat)
      case atStart => exact ⟨16, by omega, by omega, rfl, O3.out, BEL.out⟩
      case round =>
        clear O3 BEL HC
        obtain ⟨k, hk, hk', rfl, hown, hbel⟩ := hrel
        obtain ⟨g3, c3, rfl, hc3, hbg3, hlg3, hcells⟩ := hown.form (by rw [wordsN_length]; omega)
        rw [wordsN_length] at hown hcells hc3 ⊢
        have O3 := Lib.hid hown; have BEL := Lib.hid hbel
        clear hown hbel
        by_cases hlt : k < 64
        · have c2 := hcells (k - 2) (by omega)
          have c7 := hcells (k - 7) (by omega)
          have c15 := hcells (k - 15) (by omega)
          have c16 := hcells (k - 16) (by omega)
          clear hcells
          have L2 := (wordsN_lt HB'.out k).at (k - 2)
          have L7 := (wordsN_lt HB'.out k).at (k - 7)
          have L15 := (wordsN_lt HB'.out k).at (k - 15)
          have L16 := (wordsN_lt HB'.out k).at (k - 16)
          generalize hp2 : at0 (wordsN b k) (k - 2) = p2 at *
          generalize hp7 : at0 (wordsN b k) (k - 7) = p7 at *
          generalize hp15 : at0 (wordsN b k) (k - 15) = p15 at *
          generalize hp16 : at0 (wordsN b k) (k - 16) = p16 at *
          have P2 := Lib.hid hp2; have P7 := Lib.hid hp7; have P15 := Lib.hid hp15; have P16 := Lib.hid hp16
          clear hp2 hp7 hp15 hp16
          obtain ⟨j2, hj2⟩ : ∃ j, j = k - 2 := ⟨_, rfl⟩
          obtain ⟨j7, hj7⟩ : ∃ j, j = k - 7 := ⟨_, rfl⟩
          obtain ⟨j15, hj15⟩ : ∃ j, j = k - 15 := ⟨_, rfl⟩
          obtain ⟨j16, hj16⟩ : ∃ j, j = k - 16 := ⟨_, rfl⟩
          rw [← hj2] at c2; rw [← hj7] at c7; rw [← hj15] at c15; rw [← hj16] at c16
          have i2 : (k : Int) - 2 = (j2 : Int) := by omega
          have i7 : IntKind.i64.wrap ((k : Int) - 7) = (j7 : Int) := by rw [IntWalk.i64_in _ (by omega)]; omega
          have i15 : (k : Int) - 15 = (j15 : Int) := by omega
          have i16 : IntKind.i64.wrap ((k : Int) - 16) = (j16 : Int) := by rw [IntWalk.i64_in _ (by omega)]; omega
          have r2 : j2 < k := by omega
          have r7 : j7 < k := by omega
          have r15 : j15 < k := by omega
          have r16 : j16 < k := by omega
          have r2' : (j2 : Int) < k := by omega
          have r7' : (j7 : Int) < k := by omega
          have r15' : (j15 : Int) < k := by omega
          have r16' : (j16 : Int) < k := by omega
          clear hj2 hj7 hj15 hj16
          go_upto_region 11 with fail
          go_quiet ((go_at_call 43; exact Calls.quiet_of_same (turn_any _ _ _ (by first | exact L2 | exact L15) (by omega) (by omega))))
          go_upto_region 12 with fail
          obtain ⟨T, hT⟩ : ∃ T, T = lsig1 p2 + p7 + lsig0 p15 + p16 := ⟨_, rfl⟩
          have hTv := wcast L2 L7 L15 L16
          rw [← hT] at hTv
          rw [hTv]
          have hT64 : T < 18446744073709551616 := by
            have h1 := lsig1_lt L2
            have h2 := lsig0_lt L15
            omega
          have hTm : (T : Int) % 4294967296 = ((T % 4294967296 : Nat) : Int) := by omega
          obtain ⟨z, hz⟩ : ∃ z, z = T % 4294967296 := ⟨_, rfl⟩
          rw [← hz] at hTm
          have hw1 : wordsN b (k + 1) = wordsN b k ++ [z] := by
            have he : extW (wordsN b k) k = z := by
              unfold extW
              rw [P2.out, P7.out, P15.out, P16.out, hz, hT]
            simp only [wordsN]
            rw [if_neg (by omega), he]
          have o3 : OwnQ (wr.drewN nq) w.heap.size (.slice (some ⟨g3, 0, none⟩) k c3) (wordsN b k) := O3.out
          have bel := below_drewN BEL.out nq
          have hbs := bel.size
          have hT0 : 0 ≤ (T : Int) := by omega
          clear hT hTv hz
          generalize wr.drewN nq = W2 at *
          have ba : Below W2.heap.size W2 (W2.alloc (Obj.cells #[Value.int .u64 (z : Int)] 56)) := (Below.refl _ _).alloc (Nat.le_refl _) _
          have OA := Lib.hid (o3.below ba); have BA := Lib.hid (bel.trans (ba.mono bel.size)); have HW1 := Lib.hid hw1
          clear o3 bel ba hw1 O3 BEL P2 P7 P15 P16 c2 c7 c15 c16 i2 i7 i15 i16
          go_wp2_with (refine wpList_appQ rfl (.tmp 92) (.tmp 95) rfl w.heap.size _ (wordsN b k) rfl OA.out W2.heap.size z rfl (Blk.new _ _ _) (by rw [wordsN_length]; omega) (by simp; omega) ?_; intro v3 w3 hown hgr)
          rw [← HW1.out] at hown
          exact ⟨⟨k + 1, by omega, by omega, by go_num, hown, BA.out.grown hgr (by simp; omega) (fun j hj => (OA.out.lt j hj).1)⟩, by simp [intOf]; omega⟩
        · obtain rfl : k = 64 := by omega
          clear hcells
          go_wp2
          go_ret
          exact ⟨_, rfl, O3.out, BEL.out⟩
end Go.Proofs.Ytjelhljgeinodaa.Hs

-- Rd
namespace Go.Proofs.Ytjelhljgeinodaa.Hs
open Go.RowKit
theorem info39 : (Try.prog.info? 58).map (·.size) = some 8 := by kernel_rfl
def lst (s : S8) : List Nat := [s.a, s.b, s.c, s.d, s.e, s.f, s.g, s.h]
theorem U64_setAt (l : List Nat) (i v : Nat) : (U64 l).setIfInBounds i (.int .u64 (v : Int)) = U64 (l.set i v) := by
  unfold U64
  apply Array.ext'
  simp only [Array.toList_setIfInBounds, ← List.map_set]
theorem Blk.set64 {w : World} {g : Nat} {t : TypeId} {L : List Nat} (h : Blk w g t (U64 L)) (i x : Nat) :
    Blk (w.setCell ⟨g, i, none⟩ (.int .u64 (x : Int))) g t (U64 (L.set i x)) := by
  rw [← U64_setAt]
  exact h.set_ _ _
theorem lst_length (s : S8) : (lst s).length = 8 := rfl
theorem lst_s8 {st : List Nat} (h : st.length = 8) : lst (s8 st) = st := by
  match st, h with
  | [a, b, c, d, e, f, g, h'], _ => rfl
theorem U64_lst (s : S8) : U64 (lst s) = #[.int .u64 (s.a : Int), .int .u64 (s.b : Int), .int .u64 (s.c : Int), .int .u64 (s.d : Int), .int .u64 (s.e : Int), .int .u64 (s.f : Int), .int .u64 (s.g : Int), .int .u64 (s.h : Int)] := rfl
theorem roundN_b (s : S8) (k w : Nat) : (roundN s k w).b = s.a := rfl
theorem roundN_c (s : S8) (k w : Nat) : (roundN s k w).c = s.b := rfl
theorem roundN_d (s : S8) (k w : Nat) : (roundN s k w).d = s.c := rfl
theorem roundN_f (s : S8) (k w : Nat) : (roundN s k w).f = s.e := rfl
theorem roundN_g (s : S8) (k w : Nat) : (roundN s k w).g = s.f := rfl
theorem roundN_h (s : S8) (k w : Nat) : (roundN s k w).h = s.g := rfl
theorem at_addS (st : List Nat) (R : S8) (i : Nat) (hi : i < 8) : at0 (addS st R) i = (at0 st i + at0 (lst R) i) % 4294967296 := by
  match i, hi with
  | 0, _ => rfl
  | 1, _ => rfl
  | 2, _ => rfl
  | 3, _ => rfl
  | 4, _ => rfl
  | 5, _ => rfl
  | 6, _ => rfl
  | 7, _ => rfl
theorem lst_lt {R : S8} (h : R.Ok) : W32 (lst R) := by
  intro a ha
  simp only [lst, List.mem_cons, List.not_mem_nil, or_false] at ha
  rcases ha with rfl | rfl | rfl | rfl | rfl | rfl | rfl | rfl
  · exact h.a
  · exact h.b
  · exact h.c
  · exact h.d
  · exact h.e
  · exact h.f
  · exact h.g
  · exact h.h
theorem absorbN_eq (st b : List Nat) : absorbN st b = addS st (roundsN (wordsN b 64) (s8 st) 64) := rfl
theorem absorbN_length (st b : List Nat) : (absorbN st b).length = 8 := rfl
theorem usig1_lt {x : Nat} (hx : x < 4294967296) : usig1 x < 4294967296 := xor32 (xor32 (rotr_lt x _ hx) (rotr_lt x _ hx)) (rotr_lt x _ hx)
theorem usig0_lt {x : Nat} (hx : x < 4294967296) : usig0 x < 4294967296 := xor32 (xor32 (rotr_lt x _ hx) (rotr_lt x _ hx)) (rotr_lt x _ hx)
theorem ch_lt {s : S8} (h : s.Ok) : ch s.e s.f s.g < 4294967296 := xor32 (and32 h.e) (and32 (by omega))
theorem maj_lt {s : S8} (h : s.Ok) : maj s.a s.b s.c < 4294967296 := xor32 (xor32 (and32 h.a) (and32 h.a)) (and32 h.b)
theorem wrap64u (z : Int) : IntKind.u64.wrap z = z % 18446744073709551616 := by simp [IntKind.wrap, IntKind.bits, IntKind.signed]
theorem usig_cast64 {x i j k : Nat} (hx : x < 4294967296) :
    bits BinOp.xor IntKind.u64 (bits BinOp.xor IntKind.u64 (rotr x i : Int) (rotr x j : Int)) (rotr x k : Int) = ((rotr x i ^^^ rotr x j ^^^ rotr x k : Nat) : Int) := by
  have h1 := rotr_lt x i hx; have h2 := rotr_lt x j hx; have h3 := rotr_lt x k hx; have h4 := xor32 h1 h2
  rw [u64_xor_nat _ _ (by omega) (by omega), u64_xor_nat _ _ (by omega) (by omega)]
theorem X_cast {s : S8} (h : s.Ok) {kt wt : Nat} (hk : kt < 4294967296) (hw : wt < 4294967296) :
    IntKind.u64.wrap (IntKind.u64.wrap (IntKind.u64.wrap (IntKind.u64.wrap ((s.h : Int) + bits BinOp.xor IntKind.u64 (bits BinOp.xor IntKind.u64 (rotr s.e 6 : Int) (rotr s.e 11 : Int)) (rotr s.e 25 : Int)) +
      bits BinOp.xor IntKind.u64 (bits BinOp.and IntKind.u64 (s.e : Int) (s.f : Int)) (bits BinOp.and IntKind.u64 (4294967295 - (s.e : Int)) (s.g : Int))) + (kt : Int)) + (wt : Int)) = ((s.h + usig1 s.e + ch s.e s.f s.g + kt + wt : Nat) : Int) := by
  have he := h.e; have hf := h.f; have hg := h.g; have hh := h.h
  have hc := ch_lt h
  have hu := usig1_lt he
  have e1 : (4294967295 - (s.e : Int)) = ((4294967295 - s.e : Nat) : Int) := by omega
  have a1 : s.e &&& s.f < 4294967296 := and32 he
  have a2 : (4294967295 - s.e) &&& s.g < 4294967296 := and32 (by omega)
  have e2 : bits BinOp.xor IntKind.u64 (bits BinOp.and IntKind.u64 (s.e : Int) (s.f : Int)) (bits BinOp.and IntKind.u64 (4294967295 - (s.e : Int)) (s.g : Int)) = ((ch s.e s.f s.g : Nat) : Int) := by
    rw [e1, u64_and_nat _ _ (by omega) (by omega), u64_and_nat _ _ (by omega) (by omega), u64_xor_nat _ _ (by omega) (by omega)]
    rfl
  rw [e2, usig_cast64 he, wrap64u, wrap64u, wrap64u, wrap64u]
  unfold usig1 at *
  omega
theorem Y_cast {s : S8} (h : s.Ok) :
    IntKind.u64.wrap (bits BinOp.xor IntKind.u64 (bits BinOp.xor IntKind.u64 (rotr s.a 2 : Int) (rotr s.a 13 : Int)) (rotr s.a 22 : Int) +
      bits BinOp.xor IntKind.u64 (bits BinOp.xor IntKind.u64 (bits BinOp.and IntKind.u64 (s.a : Int) (s.b : Int)) (bits BinOp.and IntKind.u64 (s.a : Int) (s.c : Int))) (bits BinOp.and IntKind.u64 (s.b : Int) (s.c : Int))) = ((usig0 s.a + maj s.a s.b s.c : Nat) : Int) := by
  have ha := h.a; have hb := h.b; have hc := h.c
  have hm := maj_lt h
  have hu := usig0_lt ha
  have a1 : s.a &&& s.b < 4294967296 := and32 ha
  have a2 : s.a &&& s.c < 4294967296 := and32 ha
  have a3 : s.b &&& s.c < 4294967296 := and32 hb
  have a4 := xor32 a1 a2
  have e2 : bits BinOp.xor IntKind.u64 (bits BinOp.xor IntKind.u64 (bits BinOp.and IntKind.u64 (s.a : Int) (s.b : Int)) (bits BinOp.and IntKind.u64 (s.a : Int) (s.c : Int))) (bits BinOp.and IntKind.u64 (s.b : Int) (s.c : Int)) = ((maj s.a s.b s.c : Nat) : Int) := by
    rw [u64_and_nat _ _ (by omega) (by omega), u64_and_nat _ _ (by omega) (by omega), u64_and_nat _ _ (by omega) (by omega), u64_xor_nat _ _ (by omega) (by omega), u64_xor_nat _ _ (by omega) (by omega)]
    rfl
  rw [e2, usig_cast64 ha, wrap64u]
  unfold usig0 at *
  omega
set_option maxRecDepth 100000 in
set_option maxHeartbeats 2000000 in
theorem block_any (st b : List Nat) (g off c : Nat) (w : World) (hs : st.length = 8) (hs' : W32 st) (hb : b.length = 64) (hb' : W8 b) (hg : g < w.heap.size) (hcell : ∀ j, j < 64 → w.cell? ⟨g, off + j, none⟩ = some (.int .u8 ((at0 b j : Nat) : Int))) :
    Calls Try.prog 32 #[.agg (U64 st), .slice (some ⟨g, off, none⟩) 64 c] w fun e w' => e = .returned (.agg (U64 (absorbN st b))) ∧ Below w.heap.size w w' := by
  have HS := Lib.hid hs; have HS' := Lib.hid hs'; have HB := Lib.hid hb; have HB' := Lib.hid hb'; have HC := Lib.hid hcell
  clear hs hs' hb hb' hcell
  go_enter Try.func32, Try.ntmps32
  go_wp2_with fail
  have b0 : Below w.heap.size w ((w.alloc (Obj.cells (U64 st) 58)).alloc (Obj.cells (U64 (pad 8 [])) 58)) := ((Below.refl _ _).alloc (Nat.le_refl _) _).alloc (by simp) _
  have c0 : Blk ((w.alloc (Obj.cells (U64 st) 58)).alloc (Obj.cells (U64 (pad 8 [])) 58)) w.heap.size 58 (U64 st) := (Blk.new _ _ _).alloc _
  have c1 : Blk ((w.alloc (Obj.cells (U64 st) 58)).alloc (Obj.cells (U64 (pad 8 [])) 58)) (w.heap.size + 1) 58 (U64 (pad 8 [])) := by
    have := Blk.new (w.alloc (Obj.cells (U64 st) 58)) 58 (U64 (pad 8 []))
    rwa [show (w.alloc (Obj.cells (U64 st) 58)).heap.size = w.heap.size + 1 from by simp] at this
  refine (words_any b g off c ((w.alloc (Obj.cells (U64 st) 58)).alloc (Obj.cells (U64 (pad 8 [])) 58)) HB.out HB'.out (by simp; omega) (fun j hj => (b0.cell (p := ⟨g, off + j, none⟩) hg).trans (HC.out j hj))).mono ?_
  rintro e w1 ⟨v5, rfl, hown, hb1⟩
  obtain ⟨g5, c5, rfl, hc5, hbg5, hlg5, hcells⟩ := hown.form (by rw [wordsN_length]; omega)
  rw [wordsN_length] at hcells ⊢
  have b1 := b0.trans (hb1.mono b0.size)
  replace c0 := c0.below hb1 c0.lt
  replace c1 := c1.below hb1 c1.lt
  have C0 := Lib.hid c0; have C1 := Lib.hid c1; have B1 := Lib.hid b1; have W5 := Lib.hid hcells
  clear c0 c1 b0 b1 hb1 hown hcells hc5 hbg5
  go_wp2_with fail
  refine (rtable_any _).mono ?_
  rintro e w2 ⟨rfl, rfl⟩
  have ba : Below w1.heap.size w1 (w1.alloc (Obj.cells (U64 KN) 56)) := (Below.refl _ _).alloc (Nat.le_refl _) _
  have c0 := C0.out.below ba C0.out.lt
  have c1 := C1.out.below ba C1.out.lt
  have c6 := Blk.new w1 56 (U64 KN)
  have b1 := B1.out.trans (ba.mono B1.out.size)
  have w5 : ∀ j, j < 64 → (w1.alloc (Obj.cells (U64 KN) 56)).cell? ⟨g5, j, none⟩ = some (.int .u64 ((at0 (wordsN b 64) j : Nat) : Int)) := fun j hj => (ba.cell (p := ⟨g5, j, none⟩) hlg5).trans (W5.out j hj)
  have hlg5' : g5 < (w1.alloc (Obj.cells (U64 KN) 56)).heap.size := Nat.lt_of_lt_of_le hlg5 ba.size
  generalize w1.alloc (Obj.cells (U64 KN) 56) = W2 at *
  generalize w1.heap.size = g6 at *
  replace C0 := Lib.hid c0; replace C1 := Lib.hid c1; replace B1 := Lib.hid b1; replace W5 := Lib.hid w5; have C6 := Lib.hid c6
  clear c0 c1 b1 w5 c6 ba hlg5
  go_upto_region 4 with (first
    | (refine wpList_load_blk rfl 58 (.tmp 2) rfl w.heap.size rfl 58 (U64 st) _ 8 C0.out Try.underlying58 rfl info39 (by rw [U64_size, HS.out]) ?_)
    | (refine wpList_store_new rfl 58 (.tmp 7) (.tmp 18) rfl (U64 st) rfl rfl 58 _ (by rw [U64_size, HS.out]; exact info39) (by rw [U64_size, HS.out]; rfl) (U64_one _) ?_))
  have ba : Below W2.heap.size W2 (W2.alloc (Obj.cells (U64 st) 58)) := (Below.refl _ _).alloc (Nat.le_refl _) _
  have c0 := C0.out.below ba C0.out.lt
  have c1 := C1.out.below ba C1.out.lt
  have c6 := C6.out.below ba C6.out.lt
  have c7 := Blk.new W2 58 (U64 st)
  have b1 := B1.out.trans (ba.mono B1.out.size)
  have w5 : ∀ j, j < 64 → (W2.alloc (Obj.cells (U64 st) 58)).cell? ⟨g5, j, none⟩ = some (.int .u64 ((at0 (wordsN b 64) j : Nat) : Int)) := fun j hj => (ba.cell (p := ⟨g5, j, none⟩) hlg5').trans (W5.out j hj)
  have n5 : g5 < W2.heap.size := hlg5'
  have n6 : g6 < W2.heap.size := C6.out.lt
  have n1 : w.heap.size + 1 < W2.heap.size := C1.out.lt
  generalize W2.alloc (Obj.cells (U64 st) 58) = W at *
  generalize W2.heap.size = g7 at *
  replace C0 := Lib.hid c0; replace C1 := Lib.hid c1; replace B1 := Lib.hid b1; replace W5 := Lib.hid w5; replace C6 := Lib.hid c6; have C7 := Lib.hid c7
  clear c0 c1 b1 w5 c6 c7 ba hlg5'
  clear W2 w1
  go_wp2
  go_loopw [8] (fun i wr => ∃ k : Nat, k ≤ 64 ∧ i = .int .i64 k ∧ Below g7 W wr ∧ Blk wr g7 58 (U64 (lst (roundsN (wordsN b 64) (s8 st) k)))) (fun i _ => 64 - (intOf i).toNat)
  case atStart => exact ⟨0, by omega, rfl, Below.refl _ _, by show Blk W g7 58 (U64 (lst (s8 st))); rw [lst_s8 HS.out]; exact C7.out⟩
  case round =>
    obtain ⟨k, hk, rfl, hbel, h7⟩ := hrel
    have hok := roundsN_ok (W := wordsN b 64) (s8_ok HS'.out) k
    by_cases hlt : k < 64
    · have hkk : roundsN (wordsN b 64) (s8 st) (k + 1) = roundN (roundsN (wordsN b 64) (s8 st) k) (at0 KN k) (at0 (wordsN b 64) k) := rfl
      generalize roundsN (wordsN b 64) (s8 st) k = s at *
      have q0 := h7.cell 0; have q1 := h7.cell 1; have q2 := h7.cell 2; have q3 := h7.cell 3
      have q4 := h7.cell 4; have q5 := h7.cell 5; have q6 := h7.cell 6; have q7 := h7.cell 7
      rw [U64_get (by rw [lst_length]; omega)] at q0 q1 q2 q3 q4 q5 q6 q7
      replace q0 : wr.cell? ⟨g7, 0, none⟩ = some (.int .u64 (s.a : Int)) := q0
      replace q1 : wr.cell? ⟨g7, 1, none⟩ = some (.int .u64 (s.b : Int)) := q1
      replace q2 : wr.cell? ⟨g7, 2, none⟩ = some (.int .u64 (s.c : Int)) := q2
      replace q3 : wr.cell? ⟨g7, 3, none⟩ = some (.int .u64 (s.d : Int)) := q3
      replace q4 : wr.cell? ⟨g7, 4, none⟩ = some (.int .u64 (s.e : Int)) := q4
      replace q5 : wr.cell? ⟨g7, 5, none⟩ = some (.int .u64 (s.f : Int)) := q5
      replace q6 : wr.cell? ⟨g7, 6, none⟩ = some (.int .u64 (s.g : Int)) := q6
      replace q7 : wr.cell? ⟨g7, 7, none⟩ = some (.int .u64 (s.h : Int)) := q7
      have qk := (hbel.cell (p := ⟨g6, k, none⟩) n6).trans (C6.out.cell k)
      rw [U64_get (by rw [KN_length]; exact hlt)] at qk
      have qw := (hbel.cell (p := ⟨g5, k, none⟩) n5).trans (W5.out k hlt)
      have Lk := KN_lt.at k
      have Lw := (wordsN_lt HB'.out 64).at k
      generalize at0 KN k = kt at *
      generalize at0 (wordsN b 64) k = wt at *
      have ha := hok.a; have he := hok.e
      have he' : (s.e : Int) ≤ 4294967295 := by omega
      have hlt' : (k : Int) < 64 := by omega
      have HOK := Lib.hid hok; have HKK := Lib.hid hkk; have BEL := Lib.hid hbel; have H7 := Lib.hid h7
      clear hok hkk hbel h7
      go_upto_region 10 with fail
      go_quiet ((go_at_call 43; exact Calls.quiet_of_same (turn_any _ _ _ he (by omega) (by omega))))
      go_upto_region 11 with fail
      rw [X_cast HOK.out Lk Lw]
      obtain ⟨X, hX⟩ : ∃ X, X = s.h + usig1 s.e + ch s.e s.f s.g + kt + wt := ⟨_, rfl⟩
      rw [← hX]
      have hXl : X < 5 * 4294967296 := by have h1 := usig1_lt he; have h2 := ch_lt HOK.out; have h3 := HOK.out.h; omega
      have HX := Lib.hid hX
      clear hX
      replace q0 : (wr.drewN nq).cell? _ = _ := q0
      replace q1 : (wr.drewN nq).cell? _ = _ := q1
      replace q2 : (wr.drewN nq).cell? _ = _ := q2
      replace q3 : (wr.drewN nq).cell? _ = _ := q3
      replace q4 : (wr.drewN nq).cell? _ = _ := q4
      replace q5 : (wr.drewN nq).cell? _ = _ := q5
      replace q6 : (wr.drewN nq).cell? _ = _ := q6
      clear q7 qk qw
      replace BEL := Lib.hid (below_drewN BEL.out nq)
      replace H7 := Lib.hid (H7.out.drewN nq)
      generalize wr.drewN nq = wr2 at *
      clear nq
      go_quiet ((go_at_call 43; exact Calls.quiet_of_same (turn_any _ _ _ ha (by omega) (by omega))))
      go_upto_region 12 with fail
      rw [Y_cast HOK.out]
      obtain ⟨Y, hY⟩ : ∃ Y, Y = usig0 s.a + maj s.a s.b s.c := ⟨_, rfl⟩
      rw [← hY]
      have hYl : Y < 2 * 4294967296 := by have h1 := usig0_lt ha; have h2 := maj_lt HOK.out; omega
      have HY := Lib.hid hY
      clear hY
      replace q0 : (wr2.drewN nq).cell? _ = _ := q0
      replace q1 : (wr2.drewN nq).cell? _ = _ := q1
      replace q2 : (wr2.drewN nq).cell? _ = _ := q2
      replace q3 : (wr2.drewN nq).cell? _ = _ := q3
      replace q4 : (wr2.drewN nq).cell? _ = _ := q4
      replace q5 : (wr2.drewN nq).cell? _ = _ := q5
      replace q6 : (wr2.drewN nq).cell? _ = _ := q6
      replace BEL := Lib.hid (below_drewN BEL.out nq)
      replace H7 := Lib.hid (H7.out.drewN nq)
      generalize wr2.drewN nq = wr3 at *
      clear nq
      have hd := HOK.out.d
      have hd' : (s.d : Int) < 4294967296 := by omega
      have hX' : (X : Int) < 21474836480 := by omega
      have hY' : (Y : Int) < 8589934592 := by omega
      go_wp2_with (refine wpList_store_blk rfl 58 (.tmp 7) (.tmp 105) rfl g7 _ rfl rfl 58 _ 8 H7.out info39 ?s1 ?s2 ?s3 ?_)
      case s1 => go_light; simp
      case s2 => go_light; simp [U64, lst]
      case s3 => go_light; simp [Value.oneCell']
      refine ⟨⟨k + 1, by omega, by go_num, below_setRow BEL.out (Nat.le_refl _) _, ?_⟩, by simp [intOf]; omega⟩
      rw [HKK.out]
      have e1 : ((X : Int) + (Y : Int)) % 4294967296 = ((roundN s kt wt).a : Int) := by
        show _ = (((T1 s kt wt + T2 s) % 4294967296 : Nat) : Int)
        unfold T1 T2
        rw [← HX.out, ← HY.out]
        omega
      have e2 : ((s.d : Int) + (X : Int)) % 4294967296 = ((roundN s kt wt).e : Int) := by
        show _ = (((s.d + T1 s kt wt) % 4294967296 : Nat) : Int)
        unfold T1
        rw [← HX.out]
        omega
      rw [e1, e2, U64_lst (roundN s kt wt), roundN_b, roundN_c, roundN_d, roundN_f, roundN_g, roundN_h]
      exact H7.out.row _
    · obtain rfl : k = 64 := by omega
      have habs := absorbN_eq st b
      generalize roundsN (wordsN b 64) (s8 st) 64 = R at *
      have c0 := C0.out.below hbel (by omega)
      have c1 := C1.out.below hbel n1
      have b1 := B1.out.trans (hbel.mono (by omega))
      have HABS := Lib.hid habs; have HOK := Lib.hid hok
      replace C0 := Lib.hid c0; replace C1 := Lib.hid c1; replace B1 := Lib.hid b1; replace C7 := Lib.hid h7
      clear c0 c1 b1 h7 hbel habs hok C6 W5
      rw [show ((64 : Nat) : Int) = 64 from rfl]
      go_wp2
      go_loopw [14] (fun i wr => ∃ k : Nat, k ≤ 8 ∧ i = .int .i64 k ∧ Below w.heap.size w wr ∧ Blk wr w.heap.size 58 (U64 ((absorbN st b).take k ++ st.drop k)) ∧ Blk wr (w.heap.size + 1) 58 (U64 (pad 8 [])) ∧ Blk wr g7 58 (U64 (lst R))) (fun i _ => 8 - (intOf i).toNat)
      case atStart => exact ⟨0, by omega, rfl, B1.out, C0.out, C1.out, C7.out⟩
      case round =>
        clear C0 C1 C7 B1
        obtain ⟨i, hi, rfl, hbel, h0, h1, h7⟩ := hrel
        have hal := absorbN_length st b
        by_cases hlt2 : i < 8
        · have lk : ((absorbN st b).take i).length = i := by rw [List.length_take, hal]; omega
          have cq := h0.cell i
          rw [U64_get (by rw [List.length_append, lk, List.length_drop, HS.out]; omega), at0_append_right (by omega), lk, at0_drop, Nat.sub_self, Nat.add_zero] at cq
          have fq := h0.frozen i
          have cs := h7.cell i
          rw [U64_get (by rw [lst_length]; exact hlt2)] at cs
          have hx1 : at0 st i < 4294967296 := HS'.out.at i
          have hx2 : at0 (lst R) i < 4294967296 := (lst_lt HOK.out).at i
          have hat : at0 (absorbN st b) i = (at0 st i + at0 (lst R) i) % 4294967296 := by rw [HABS.out]; exact at_addS st R i hlt2
          generalize at0 st i = p at *
          generalize at0 (lst R) i = q at *
          obtain ⟨z, hz⟩ : ∃ z, z = (p + q) % 4294967296 := ⟨_, rfl⟩
          have hw : IntKind.u64.wrap ((p : Int) + (q : Int)) = ((p + q : Nat) : Int) := by rw [wrap64u]; omega
          have hm : ((p + q : Nat) : Int).tmod 4294967296 = (z : Int) := by rw [Int.tmod_eq_emod_of_nonneg (by omega), hz]; omega
          have hsm := set_mid (absorbN st b) st i (by omega) (by rw [HS.out]; exact hlt2)
          rw [hat, ← hz] at hsm
          have HSM := Lib.hid hsm; have H0 := Lib.hid h0; have H1 := Lib.hid h1; have H7 := Lib.hid h7; have BEL := Lib.hid hbel
          obtain ⟨pq, hpq⟩ : ∃ pq, pq = p + q := ⟨_, rfl⟩
          rw [← hpq] at hw hm
          clear hsm h0 h1 h7 hbel hat hz lk hal hpq
          have hi' : (i : Int) < 8 := by omega
          go_upto_region 16 with fail
          go_still_tail 10, (by kernel_rfl)
          rw [fold_drew]
          go_wp2
          have p0 := H0.out.set64 i z
          rw [HSM.out] at p0
          refine ⟨⟨i + 1, by omega, by go_num, ?_, ?_, ?_, ?_⟩, by simp [intOf]; omega⟩
          · exact below_drewN (BEL.out.setCell (by simp) _) 1
          · exact p0.drew
          · exact (H1.out.far (by simp) _).drew
          · exact (H7.out.far (by simp; omega) _).drew
        · obtain rfl : i = 8 := by omega
          have e8 : (absorbN st b).take 8 ++ st.drop 8 = absorbN st b := by
            rw [List.take_of_length_le (by rw [absorbN_length]; omega), List.drop_of_length_le (by rw [HS.out]; omega), List.append_nil]
          rw [e8] at h0
          have H0 := Lib.hid h0; have H1 := Lib.hid h1; have BEL := Lib.hid hbel
          clear h0 h1 h7 hbel e8
          generalize hA : absorbN st b = A at *
          have HAL := Lib.hid hal
          clear hal
          rw [show ((8 : Nat) : Int) = 8 from rfl]
          go_wp2_with (first
            | (refine wpList_load_blk rfl 58 (.tmp 2) rfl w.heap.size rfl 58 (U64 A) _ 8 H0.out Try.underlying58 rfl info39 (by rw [U64_size, HAL.out]) ?_)
            | (refine wpList_store_blk rfl 58 (.tmp 4) (.tmp 120) rfl (w.heap.size + 1) (U64 A) rfl rfl 58 _ 8 H1.out info39 (by rw [U64_size, HAL.out]) (by rw [U64_size]; rfl) (U64_one _) ?_))
          exact bodyPost_ret (results_cell_row (P := Try.prog) (fn := Try.f32) rfl _ _ (w.heap.size + 1) 58 (U64 A) (0, 0) _ rfl (H1.out.row _) Try.underlying58 rfl (by rw [U64_size, HAL.out]; exact info39)) rfl ⟨by rw [hA], below_setRow BEL.out (by omega) _⟩
end Go.Proofs.Ytjelhljgeinodaa.Hs

-- Tk
namespace Go.Proofs.Ytjelhljgeinodaa.Hs
open Go.RowKit
theorem bth {w W w1 : World} (h0 : Below w.heap.size w W) (h1 : Below W.heap.size W w1) : Below w.heap.size w w1 := h0.trans (h1.mono h0.size)
theorem bel1 (w : World) (x : Obj) : Below w.heap.size w (w.alloc x) := (Below.refl _ _).alloc (Nat.le_refl _) _
theorem bel2 (w : World) (x y : Obj) : Below w.heap.size w ((w.alloc x).alloc y) := (bel1 w x).alloc (by simp) _
end Go.Proofs.Ytjelhljgeinodaa.Hs

-- Fx
namespace Go.Proofs.Ytjelhljgeinodaa.Hs
open Go.RowKit
def look : List (Nat × Value) → Nat → Option Value
  | [], _ => none
  | (j, u) :: r, k => cond (Nat.beq j k) (some u) (look r k)
structure Fr (a : Act) (n : Nat) (L : List (Nat × Value)) : Prop where
  size : a.tmps.size = n
  defers : a.defers = []
  get : ∀ {k : Nat} {v : Value}, look L k = some v → a.tmps.getD k undef = v
section
variable {a : Act} {n : Nat} {L : List (Nat × Value)}
theorem Fr.ev (F : Fr a n L) {k : Nat} {v : Value} (h : look L k = some v) : a.eval (.tmp k) = v := F.get h
theorem Fr.nil (F : Fr a n L) : Fr a n [] := ⟨F.size, F.defers, fun h => by cases h⟩
theorem Fr.cons (F : Fr a n L) {k : Nat} {v : Value} (h : a.tmps.getD k undef = v) : Fr a n ((k, v) :: L) := ⟨F.size, F.defers, fun {j u} hj => by
  simp only [look] at hj
  cases hb : Nat.beq k j
  · rw [hb] at hj; exact F.get hj
  · rw [hb] at hj
    have := Nat.eq_of_beq_eq_true hb
    subst this
    injection hj with hj
    rw [h, hj]⟩
theorem Fr.put (F : Fr a n L) {d : Nat} {v : Value} (hd : Nat.blt d n = true) : Fr (a.put (some d) v) n ((d, v) :: L) := by
  have hlt : d < n := Nat.le_of_ble_eq_true hd
  refine ⟨by simp [Act.put, F.size], by simp [Act.put, F.defers], fun {j u} hj => ?_⟩
  simp only [look] at hj
  cases hb : Nat.beq d j
  · rw [hb] at hj
    have hne : d ≠ j := fun e => by subst e; simp at hb
    have := F.get hj
    simp only [Act.put, Array.getD_eq_getD_getElem?, Array.getElem?_setIfInBounds, hne, if_false] at this ⊢
    exact this
  · rw [hb] at hj
    have := Nat.eq_of_beq_eq_true hb
    subst this
    injection hj with hj
    subst hj
    simp [Act.put, F.size, hlt]
def argL : Nat → List Value → List (Nat × Value)
  | _, [] => []
  | i, v :: r => (i, v) :: argL (i + 1) r
theorem look_argL : ∀ (vs : List Value) (i k : Nat) (v : Value), look (argL i vs) k = some v → i ≤ k ∧ vs[k - i]? = some v
  | [], _, _, _, h => by cases h
  | u :: r, i, k, v, h => by
    simp only [argL, look] at h
    cases hb : Nat.beq i k
    · rw [hb] at h
      obtain ⟨h1, h2⟩ := look_argL r (i + 1) k v h
      refine ⟨by omega, ?_⟩
      rw [show k - i = (k - (i + 1)) + 1 from by omega]
      simpa using h2
    · rw [hb] at h
      have := Nat.eq_of_beq_eq_true hb
      subst this
      simpa using h
theorem enterF {P : Program} {f : FuncId} {fn : Func} {c : Code} {w : World} {R : Ending → World → Prop} (hf : P.funcs[f]? = some fn) (hb : fn.body = some c) (n : Nat) (hn : fn.ntmps = n) (vs : List Value) (hlen : Nat.ble vs.length n = true) (L : List (Nat × Value)) (hL : argL 0 vs = L)
    (h : ∀ a, Fr a n L → c.wp P (bodyPost P fn R) a w) : Calls P f vs.toArray w R := by
  subst hL
  have hlen' : vs.length ≤ n := Nat.le_of_ble_eq_true hlen
  refine calls_of_wp hf hb (h _ ⟨by simp [hn]; omega, rfl, fun {k v} hk => ?_⟩)
  obtain ⟨_, h2⟩ := look_argL vs 0 k v hk
  have hk' : k < vs.length := by
    rcases Nat.lt_or_ge k vs.length with h | h
    · exact h
    · rw [Nat.sub_zero, List.getElem?_eq_none h] at h2; cases h2
  rw [Nat.sub_zero, List.getElem?_eq_getElem hk'] at h2
  injection h2 with h2
  simp only [Array.getD_eq_getD_getElem?]
  rw [Array.getElem?_append_left (by simpa using hk')]
  simp [hk', h2]
end
def gof : Value → Nat
  | .slice (some a) _ _ => a.block
  | _ => 0
def oof : Value → Nat
  | .slice (some a) _ _ => a.off
  | _ => 0
def slen : Value → Option Nat
  | .slice _ n _ => some n
  | _ => none
def RdV (w : World) (m : Nat) (v : Value) (n : Nat) (xs : List Value) : Prop :=
  xs.length = n * m ∧ ∃ A c, v = .slice A n c ∧ n ≤ c ∧ c ≤ maxLen ∧ (0 < n → ∃ g off, A = some ⟨g, off, none⟩ ∧ g < w.heap.size ∧ ∀ j u, xs[j]? = some u → w.cell? ⟨g, off + j, none⟩ = some u)
inductive Ent where
  | blk (g : Nat) (t : TypeId) (cs : Array Value)
  | row (t : TypeId) (m : Nat) (v : Value) (n : Nat) (xs : List Value)
  | arg (m : Nat) (v : Value) (n : Nat) (xs : List Value)
def Ent.spot : Ent → Option Nat
  | .blk g _ _ => some g
  | .row _ _ v _ _ => v.ownBlock
  | .arg _ _ _ _ => none
def Ent.at (b : Nat) (w : World) : Ent → Prop
  | .blk g t cs => b ≤ g ∧ Blk w g t cs
  | .row t m v n xs => w.ownsRow b t m v n xs
  | .arg m v n xs => RdV w m v n xs ∧ (0 < n → gof v < b)
structure Mm (w0 w : World) (B : List Ent) : Prop where
  bel : Below w0.heap.size w0 w
  has : ∀ x ∈ B, x.at w0.heap.size w
  nd : B.Pairwise (fun x y => x.spot = none ∨ x.spot ≠ y.spot)
section
variable {w0 w w' : World} {B : List Ent} {b m n : Nat} {v : Value} {xs : List Value}
theorem RdV.len (h : RdV w m v n xs) : slen v = some n := by
  obtain ⟨_, A, c, rfl, _⟩ := h
  rfl
theorem RdV.form (h : RdV w m v n xs) (hn : 0 < n) : ∃ c, v = .slice (some ⟨gof v, oof v, none⟩) n c ∧ n ≤ c ∧ c ≤ maxLen ∧ gof v < w.heap.size ∧ ∀ j u, xs[j]? = some u → w.cell? ⟨gof v, oof v + j, none⟩ = some u := by
  obtain ⟨_, A, c, rfl, h1, h2, h3⟩ := h
  obtain ⟨g, off, rfl, h4, h5⟩ := h3 hn
  exact ⟨c, rfl, h1, h2, h4, h5⟩
theorem RdV.grown {row : Option Nat} (h : RdV w m v n xs) (hg : w.grownBy w' row) (hr : 0 < n → some (gof v) ≠ row) : RdV w' m v n xs := by
  obtain ⟨h0, A, c, rfl, h1, h2, h3⟩ := h
  refine ⟨h0, A, c, rfl, h1, h2, fun hn => ?_⟩
  obtain ⟨g, off, rfl, h4, h5⟩ := h3 hn
  exact ⟨g, off, rfl, Nat.lt_of_lt_of_le h4 hg.size, fun j u hj => hg.cell (h5 j u hj) (hr hn)⟩
theorem Below.asGrown (hb : Below w.heap.size w w') (row : Option Nat) : w.grownBy w' row := ⟨hb.os, hb.tape, hb.output, hb.size, fun k hk _ => hb.block k hk⟩
theorem RdV.below (h : RdV w m v n xs) (hb : Below w.heap.size w w') : RdV w' m v n xs := h.grown (Below.asGrown hb none) (fun _ => by simp)
theorem own_rdv {t : TypeId} (h : w.ownsRow b t m v n xs) : RdV w m v n xs := by
  refine ⟨h.1, ?_⟩
  rcases h.2 with ⟨rfl, rfl⟩ | ⟨g, cap, cur, rfl, _, hg, hc, hm, hs, ht⟩
  · exact ⟨none, 0, rfl, Nat.le_refl _, Nat.zero_le _, fun h => absurd h (by omega)⟩
  · refine ⟨some ⟨g, 0, none⟩, cap, rfl, hc, hm, fun _ => ⟨g, 0, rfl, (Array.getElem?_eq_some_iff.1 hg).1, fun j u hj => ?_⟩⟩
    have := h.cells (g := g) rfl j u hj
    have e : (⟨g, 0, none⟩ : Addr).add j = ⟨g, 0 + j, none⟩ := by unfold Addr.add; split <;> simp_all
    rwa [e] at this
theorem Ent.lt {x : Ent} (h : x.at b w) {g : Nat} (hg : x.spot = some g) : b ≤ g ∧ g < w.heap.size := by
  cases x with
  | blk g' t cs =>
    injection hg with hg
    subst hg
    exact ⟨h.1, h.2.lt⟩
  | row t m v n xs => exact World.ownsRow.lt (show w.ownsRow b t m v n xs from h) g hg
  | arg m v n xs => cases hg
theorem Ent.kept {x : Ent} {row : Option Nat} (h : x.at b w) (hg : w.grownBy w' row) (hne : x.spot = none ∨ x.spot ≠ row) (hr : ∀ k, row = some k → b ≤ k) : x.at b w' := by
  cases x with
  | blk g t cs => exact ⟨h.1, (hg.block g h.2.lt (by rcases hne with h | h; cases h; exact h)).trans h.2⟩
  | row t m v n xs => exact World.ownsRow.kept (show w.ownsRow b t m v n xs from h) hg hne
  | arg m v n xs => exact ⟨h.1.grown hg (fun hn e => by have h2 := h.2 hn; have := hr _ e.symm; omega), h.2⟩
theorem Mm.start (w : World) : Mm w w [] := ⟨Below.refl _ _, by simp, by simp⟩
theorem Mm.get (M : Mm w0 w B) {i : Nat} {x : Ent} (h : B[i]? = some x) : x.at w0.heap.size w := M.has _ (List.mem_of_getElem? h)
theorem Mm.at (M : Mm w0 w B) {i g : Nat} {t : TypeId} {cs : Array Value} (h : B[i]? = some (.blk g t cs)) : Blk w g t cs := (M.get h).2
theorem Mm.rv (M : Mm w0 w B) {i : Nat} {t : TypeId} (h : B[i]? = some (.row t m v n xs)) : RdV w m v n xs := own_rdv (M.get h)
theorem Mm.below (M : Mm w0 w B) (hb : Below w.heap.size w w') : Mm w0 w' B :=
  ⟨bth M.bel hb, fun x hx => Ent.kept (M.has x hx) (Below.asGrown hb none) (by cases x.spot <;> simp) (fun k h => by cases h), M.nd⟩
theorem Mm.add (M : Mm w0 w B) (hb : Below w.heap.size w w') {x : Ent} (hx : x.at w0.heap.size w') (hs : ∀ g, x.spot = some g → w.heap.size ≤ g) : Mm w0 w' (x :: B) := by
  have M' := M.below hb
  refine ⟨M'.bel, fun y hy => ?_, List.pairwise_cons.2 ⟨fun y hy => ?_, M.nd⟩⟩
  · rcases List.mem_cons.1 hy with rfl | h
    · exact hx
    · exact M'.has y h
  · cases hxs : x.spot with
    | none => exact .inl rfl
    | some g =>
      refine .inr fun e => ?_
      have h1 := hs g hxs
      have h2 := (Ent.lt (M.has y hy) e.symm).2
      omega
theorem Mm.alloc (M : Mm w0 w B) (t : TypeId) (cs : Array Value) : Mm w0 (w.alloc (.cells cs t)) (.blk w.heap.size t cs :: B) :=
  M.add (bel1 _ _) (x := .blk w.heap.size t cs) ⟨M.bel.size, Blk.new _ _ _⟩ (fun g h => by injection h with h; omega)
theorem Mm.swap (M : Mm w0 w B) {i : Nat} {x x' : Ent} (h : B[i]? = some x) (hg : w.grownBy w' x.spot) (hx : x'.at w0.heap.size w') (hs : x'.spot = x.spot ∨ x'.spot = none ∨ ∃ g, x'.spot = some g ∧ w.heap.size ≤ g) : Mm w0 w' (B.set i x') := by
  have hi : i < B.length := by
    rcases Nat.lt_or_ge i B.length with h1 | h1
    · exact h1
    · rw [List.getElem?_eq_none h1] at h; cases h
  have hxi : B[i] = x := by rw [List.getElem?_eq_getElem hi] at h; injection h
  have hpw := List.pairwise_iff_getElem.1 M.nd
  have hrow : ∀ k, x.spot = some k → w0.heap.size ≤ k := fun k hk => (Ent.lt (M.get h) hk).1
  have hfar : ∀ j (hj : j < B.length), j ≠ i → B[j].spot = none ∨ B[j].spot ≠ x.spot := by
    intro j hj hne
    rcases Nat.lt_or_gt_of_ne hne with hlt | hlt
    · have := hpw j i hj hi hlt
      rwa [hxi] at this
    · have := hpw i j hi hj hlt
      rw [hxi] at this
      rcases this with h1 | h1
      · cases hb : B[j].spot with
        | none => exact .inl rfl
        | some g => exact .inr (by rw [h1]; simp)
      · exact .inr (fun e => h1 e.symm)
  refine ⟨M.bel.grown hg M.bel.size hrow, fun y hy => ?_, ?_⟩
  · obtain ⟨j, hj, rfl⟩ := List.mem_iff_getElem.1 hy
    rw [List.getElem_set]
    split
    · exact hx
    · rename_i hne
      simp only [List.length_set] at hj
      exact Ent.kept (M.has _ (List.getElem_mem hj)) hg (hfar j hj (fun e => hne e.symm)) hrow
  · rw [List.pairwise_iff_getElem]
    intro j k hj hk hlt
    simp only [List.length_set] at hj hk
    rw [List.getElem_set, List.getElem_set]
    have fresh : ∀ l (hl : l < B.length), l ≠ i → ∀ g, x'.spot = some g → w.heap.size ≤ g → B[l].spot ≠ some g := fun l hl _ g _ hge e => by
      have := (Ent.lt (M.has _ (List.getElem_mem hl)) e).2
      omega
    split
    · rename_i e1
      subst e1
      rw [if_neg (by omega)]
      rcases hs with h1 | h1 | ⟨g, h1, h2⟩
      · rcases hfar k hk (by omega) with h3 | h3
        · rw [h1]
          cases hq : x.spot with
          | none => exact .inl rfl
          | some g => exact .inr (by rw [h3]; simp)
        · rw [h1]; exact .inr (fun e => h3 e.symm)
      · exact .inl h1
      · exact .inr (fun e => fresh k hk (by omega) g h1 h2 (by rw [← e, h1]))
    · split
      · rename_i e2
        subst e2
        rcases hs with h1 | h1 | ⟨g, h1, h2⟩
        · rw [h1]; exact hfar j hj (by omega)
        · cases hq : B[j].spot with
          | none => exact .inl rfl
          | some g => exact .inr (by rw [h1]; simp)
        · exact .inr (fun e => fresh j hj (by omega) g h1 h2 (by rw [e, h1]))
      · exact hpw j k hj hk hlt
theorem Mm.setRow (M : Mm w0 w B) {i g : Nat} {t : TypeId} {cs : Array Value} (h : B[i]? = some (.blk g t cs)) (cs' : Array Value) : Mm w0 (w.setRow g cs') (B.set i (.blk g t cs')) :=
  M.swap h (x' := .blk g t cs') ⟨rfl, rfl, rfl, by simp, fun k _ hk => by
    have hne : g ≠ k := fun e => hk (by rw [e]; rfl)
    simp [World.setRow, Array.getElem?_modify, hne]⟩ ⟨(M.get h).1, (M.at h).row _⟩ (.inl rfl)
theorem Mm.drew (M : Mm w0 w B) : Mm w0 w.drew B := M.below (Below.refl _ _).drew
theorem Mm.sub (M : Mm w0 w B) {B' : List Ent} (h : B'.Sublist B) : Mm w0 w B' := ⟨M.bel, fun x hx => M.has x (h.subset hx), M.nd.sublist h⟩
end
section
variable {P : Program} {ops : List Oper} {o oj : Oper} {a : Act} {n : Nat} {L : List (Nat × Value)}
theorem wt0 {ops : Array Oper} (h : o.guard = none) : Region.wanted o (yielded ops a.tmps) = true := by simp [Region.wanted, h]
end
def Pure (P : Program) (o : Oper) (a : Act) (v : Value) : Prop := ∀ w, (execOp a.eval o).run P w = .ok (.value v) w
section
variable {P : Program} {o : Oper} {a : Act} {x y c : Operand} {v u : Value}
theorem pu_move (ho : o.op = .move x) (hx : a.eval x = v) : Pure P o a v := fun w => by simp [execOp, ho, hx]
theorem pu_assign (ho : o.op = .assign x) (hx : a.eval x = v) : Pure P o a v := fun w => by simp [execOp, ho, hx]
section
variable {t t' : TypeId} {k : IntKind} {i j : Int}
theorem pu_lss (ho : o.op = .binOp .lss t x y t') (hx : a.eval x = .int k i) (hy : a.eval y = .int k j) : Pure P o a (.bool (decide (i < j))) := fun w => by simp only [execOp, ho, hx, hy]; simp [go_sem]
theorem pu_add (ho : o.op = .binOp .add t x y t') (hx : a.eval x = .int .i64 i) (hy : a.eval y = .int .i64 j) (h1 : -9223372036854775808 ≤ i + j) (h2 : i + j ≤ 9223372036854775807) : Pure P o a (.int .i64 (i + j)) := fun w => by
  simp only [execOp, ho, hx, hy]; simp [go_sem, IntWalk.i64_in _ ⟨h1, h2⟩]
theorem pu_sub (ho : o.op = .binOp .sub t x y t') (hx : a.eval x = .int .i64 i) (hy : a.eval y = .int .i64 j) (h1 : -9223372036854775808 ≤ i - j) (h2 : i - j ≤ 9223372036854775807) : Pure P o a (.int .i64 (i - j)) := fun w => by
  simp only [execOp, ho, hx, hy]; simp [go_sem, IntWalk.i64_in _ ⟨h1, h2⟩]
end
def fieldOff (P : Program) (s : TypeId) (f : Nat) : Option Nat :=
  match P.underlying s with
  | some (.struct fs) => match fs[f]? with
    | some fd => match P.info? fd.type with
      | some i => if i.size = 0 then none else some fd.offset
      | none => none
    | none => none
  | _ => none
end
def Rdy (P : Program) (o : Oper) (a : Act) (C : World → Prop) (v : Value) : Prop := ∀ w, C w → (execOp a.eval o).run P w = .ok (.value v) w
def AggTy (P : Program) (ty : TypeId) (m : Nat) : Prop := ∃ d, P.underlying ty = some d ∧ d.isRow = true ∧ (P.info? ty).map (·.size) = some m
def OneTy (P : Program) (ty : TypeId) : Prop := ∃ d, P.underlying ty = some d ∧ (match d with | .struct _ | .array _ _ => true | _ => false) = false
section
variable {P : Program} {o : Oper} {a : Act} {x y : Operand} {v : Value} {C : World → Prop} {ty t : TypeId} {g k m : Nat} {cs : Array Value}
theorem Pure.rdy (h : Pure P o a v) : Rdy P o a C v := fun w _ => h w
theorem Mm.rd {w0 w : World} {B : List Ent} (M : Mm w0 w B) {i : Nat} (h : B[i]? = some (.blk g t cs)) : ∀ w', w' = w → Blk w' g t cs := fun _ e => e ▸ M.at h
theorem ld_agg (ho : o.op = .load ty x) (hx : a.eval x = .pointer (some ⟨g, 0, none⟩)) (hT : AggTy P ty m) (hb : ∀ w, C w → Blk w g t cs) (hm : cs.size = m) : Rdy P o a C (.agg cs) := fun w hC => by
  obtain ⟨d, hu, hd, hi⟩ := hT
  have hc : w.rangeAt g 0 cs.toList := fun j v hv => by
    rw [Nat.zero_add, (hb w hC).cell]
    simpa using hv
  simp only [execOp, ho, hx]
  simp only [Sem.run_bind, run_loadAt_mid w g 0 ty cs.toList d hc hu hd (by rw [hi]; simp [hm])]
  simp
theorem ld_at (ho : o.op = .load ty x) {p : Addr} (hx : a.eval x = .pointer (some p)) (hT : OneTy P ty) (hc : ∀ w, C w → w.cell? p = some v) : Rdy P o a C v := fun w hC => by
  obtain ⟨d, hu, hd⟩ := hT
  have hagg : (isAgg ty).run P w = .ok false w := by
    unfold isAgg
    rw [Sem.run_bind, run_underlying hu w]
    cases d <;> simp_all
  simp only [execOp, ho, hx]
  simp [Instr.loadAt, Instr.sureAddr, loadVar, hagg, hc w hC]
theorem ld_cell (ho : o.op = .load ty x) (hx : a.eval x = .pointer (some ⟨g, k, none⟩)) (hT : OneTy P ty) (hb : ∀ w, C w → Blk w g t cs) (hc : cs[k]? = some v) : Rdy P o a C v :=
  ld_at ho hx hT fun w hC => by rw [(hb w hC).cell, hc]
end
section
variable {P : Program} {ops rest : List Oper} {o : Oper} {a : Act} {n d : Nat} {L : List (Nat × Value)} {Q : Exit → Act → World → Prop} {w w0 : World} {B : List Ent} {v : Value} {x y : Operand}
theorem sq_rd (F : Fr a n L) (hw : Region.wanted o (yielded ops.toArray a.tmps) = true) (hp : Rdy P o a (fun w' => w' = w) v) (hd : o.dst = some d) (hdn : Nat.blt d n = true)
    (h : ∀ a', Fr a' n ((d, v) :: L) → wpList P ops.toArray Q rest a' w) : wpList P ops.toArray Q (o :: rest) a w :=
  wpList_step fun K hK => by
    rw [if_pos hw]
    unfold Oper.wp
    rw [hp w rfl]
    exact hK _ _ (by rw [hd]; exact h _ (F.put hdn))
theorem sq_pure (F : Fr a n L) (hw : Region.wanted o (yielded ops.toArray a.tmps) = true) (hp : Pure P o a v) (hd : o.dst = some d) (hdn : Nat.blt d n = true)
    (h : ∀ a', Fr a' n ((d, v) :: L) → wpList P ops.toArray Q rest a' w) : wpList P ops.toArray Q (o :: rest) a w := sq_rd F hw hp.rdy hd hdn h
theorem sq_callR (F : Fr a n L) (hw : Region.wanted o (yielded ops.toArray a.tmps) = true) {f : FuncId} {xs : List Operand} {ts : Array TypeId} {args : List Value} {R : Ending → World → Prop} (ho : o.op = .call { callee := .value (.func f), args := xs.toArray, argTypes := ts })
    (he : enters P f = true) (ha : xs.map a.eval = args) (hc : Calls P f args.toArray w R) (hd : o.dst = some d) (hdn : Nat.blt d n = true)
    (h : ∀ e w', R e w' → ∃ v, e = .returned v ∧ ∀ a', Fr a' n ((d, v) :: L) → wpList P ops.toArray Q rest a' w') : wpList P ops.toArray Q (o :: rest) a w :=
  wpList_step fun K hK => by
    rw [if_pos hw]
    unfold Oper.wp
    rw [run_enter he ho w, List.map_toArray, ha]
    refine hc.mono fun e w' hR => ?_
    obtain ⟨v, rfl, h2⟩ := h e w' hR
    exact hK _ _ (by rw [hd]; exact h2 _ (F.put hdn))
theorem sq_alloc (F : Fr a n L) (M : Mm w0 w B) (hw : Region.wanted o (yielded ops.toArray a.tmps) = true) {t : TypeId} (ho : o.op = .alloc t) {cs : Array Value} (hz : (P.info? t).map (fun i => i.zero.map (·.cells)) = some (some cs)) (hd : o.dst = some d) (hdn : Nat.blt d n = true)
    (h : ∀ a' w' g, Fr a' n ((d, .pointer (some ⟨g, 0, none⟩)) :: L) → Mm w0 w' (.blk g t cs :: B) → wpList P ops.toArray Q rest a' w') : wpList P ops.toArray Q (o :: rest) a w :=
  wpList_step fun K hK => by
    rw [if_pos hw]
    have hr : (execOp a.eval o).run P w = .ok (.value (.pointer (some ⟨w.heap.size, 0, none⟩))) (w.alloc (.cells cs t)) := by
      cases hq : P.info? t with
      | none => simp [hq] at hz
      | some i =>
        simp only [hq, Option.map_some, Option.some.injEq] at hz
        obtain ⟨z, hz1, hz2⟩ := Option.map_eq_some_iff.1 hz
        simp [execOp, ho, Instr.alloc, zeroValue, typeInfo, hq, hz1, newVar, newRow, go_sem]
        rw [← hz2]
        rfl
    unfold Oper.wp
    rw [hr]
    exact hK _ _ (by rw [hd]; exact h _ _ _ (F.put hdn) (M.alloc t cs))
theorem sq_stA (F : Fr a n L) (M : Mm w0 w B) (hw : Region.wanted o (yielded ops.toArray a.tmps) = true) {t ty : TypeId} {g i : Nat} {cs cs' : Array Value} (ho : o.op = .store ty x y) (hx : a.eval x = .pointer (some ⟨g, 0, none⟩)) (hy : a.eval y = .agg cs')
    (hi : B[i]? = some (.blk g t cs)) {m : Nat} (hT : AggTy P ty m) (hm : cs.size = m) (hm' : cs'.size = m) (h1 : cs'.toList.all (·.oneCell') = true) (hd : o.dst = none)
    (h : ∀ w', Mm w0 w' (B.set i (.blk g t cs')) → wpList P ops.toArray Q rest a w') : wpList P ops.toArray Q (o :: rest) a w :=
  wpList_step fun K hK => by
    rw [if_pos hw]
    obtain ⟨_, _, _, hi'⟩ := hT
    have _ := F.size
    exact wp_store_row ty x y ho g cs' hx hy t cs (M.at hi) (by rw [hi', hm']) (by rw [hm, hm']) (by simpa using h1) (hK _ _ (by rw [hd]; exact h _ (M.setRow hi cs')))
end
section
variable {P : Program} {ops rest : List Oper} {o : Oper} {a : Act} {n d : Nat} {L : List (Nat × Value)} {Q : Act → Prop} {C : World → Prop} {v : Value}
end
section
variable {P : Program} {a : Act} {n : Nat} {L : List (Nat × Value)} {Q : Exit → Act → World → Prop} {w w0 : World} {B : List Ent}
variable {fn : Func} {R : Ending → World → Prop} {k j g m i : Nat} {ty t : TypeId} {v u : Value} {cs : Array Value}
theorem run_cell (M : Mm w0 w B) (hi : B[i]? = some (.blk g t cs)) (hT : AggTy P ty m) (hm : cs.size = m) : (loadVar ty ⟨g, 0, none⟩).run P w = .ok (.agg cs) w := by
  obtain ⟨d, hu, hd, hz⟩ := hT
  exact run_loadVar_row w g t ty cs (0, 0) d (M.at hi) hu (by cases d <;> simp_all [TypeDesc.isRow]) (by rw [hz, hm])
theorem rt_cell (F : Fr a n L) (M : Mm w0 w B) (hr : fn.results = #[.cell k ty]) (hv : look L k = some (.pointer (some ⟨g, 0, none⟩))) (hi : B[i]? = some (.blk g t cs)) (hT : AggTy P ty m) (hm : cs.size = m) (hR : R (.returned (.agg cs)) w) : bodyPost P fn R .ret a w :=
  bodyPost_ret (by
    have h1 := F.get hv
    have h2 : a.tmps[k]?.getD undef = .pointer (some ⟨g, 0, none⟩) := by simpa using h1
    simp [results, hr, h2, asAddr, run_cell M hi hT hm]) F.defers hR
end
def SlTy (P : Program) (t e : TypeId) (m : Nat) : Prop := P.underlying t = some (.slice e) ∧ (P.info? e).map (·.size) = some m
def ElTy (P : Program) (e : TypeId) (m bytes : Nat) : Prop := 0 < m ∧ ∃ z : Value, z.cells.size = m ∧ (P.info? e).map (fun i => (i.zero, i.size, i.bytes)) = some (some z, m, bytes)
section
variable {P : Program} {o : Oper} {a : Act} {x y : Operand} {v u : Value} {C : World → Prop} {w w0 : World} {t e ty : TypeId} {m n k s i : Nat} {xs vs : List Value} {B : List Ent}
theorem pu_len (ho : o.op = .call { callee := .builtin .len, args := #[x], argTypes := #[t] }) (hx : a.eval x = v) (hT : SlTy P t e m) (hv : RdV w m v n xs) : Pure P o a (.int .i64 (n : Int)) := fun w' => by
  obtain ⟨_, A, c, rfl, _⟩ := hv
  simp only [execOp, ho, resolve, invoke, builtin, List.map_toArray, List.map, hx]
  simp [Builtin.len_, run_underlying hT.1, goInt]
theorem addr_add (g off j : Nat) : (⟨g, off, none⟩ : Addr).add j = ⟨g, off + j, none⟩ := by unfold Addr.add; split <;> simp_all
end
section
variable {P : Program} {ops rest : List Oper} {o : Oper} {a : Act} {n d : Nat} {L : List (Nat × Value)} {Q : Exit → Act → World → Prop} {w w0 : World} {B : List Ent} {v u : Value} {x y : Operand} {t e : TypeId} {m k i c : Nat} {xs news : List Value}
end
def subS (m l h : Nat) : Value → Value
  | .slice a _ c => .slice (if c = l then a else a.map (·.add (l * m))) (h - l) (c - l)
  | v => v
section
variable {P : Program} {o : Oper} {a : Act} {x lo hi : Operand} {v : Value} {w : World} {t e : TypeId} {m n l h : Nat} {xs : List Value} {k k' : IntKind} {i j : Int}
theorem sub_rdv (hr : RdV w m v n xs) (hl : l ≤ h) (hh : h ≤ n) : RdV w m (subS m l h v) (h - l) ((xs.drop (l * m)).take ((h - l) * m)) := by
  obtain ⟨h0, A, c, rfl, h1, h2, h3⟩ := hr
  have hlen : ((xs.drop (l * m)).take ((h - l) * m)).length = (h - l) * m := by
    rw [List.length_take, List.length_drop, h0]
    have : (h - l) * m ≤ n * m - l * m := by rw [← Nat.sub_mul]; exact Nat.mul_le_mul_right _ (by omega)
    omega
  refine ⟨hlen, _, _, rfl, by omega, by omega, fun hn => ?_⟩
  obtain ⟨g, off, rfl, h4, h5⟩ := h3 (by omega)
  refine ⟨g, off + l * m, ?_, h4, fun q u hq => ?_⟩
  · rw [if_neg (by omega)]
    simp only [Option.map_some, addr_add]
  · have hq' : q < (h - l) * m := by
      rcases Nat.lt_or_ge q ((h - l) * m) with h6 | h6
      · exact h6
      · rw [List.getElem?_eq_none (by omega)] at hq; cases hq
    have h7 : xs[l * m + q]? = some u := by simpa [hq'] using hq
    rw [Nat.add_assoc]
    exact h5 _ u h7
theorem pu_slice2 (ho : o.op = .slice t x (some lo) (some hi) none) (hx : a.eval x = v) (hlo : a.eval lo = .int k i) (hhi : a.eval hi = .int k' j) (hT : SlTy P t e m) (hv : RdV w m v n xs) (h1 : 0 ≤ i) (h2 : i ≤ j) (h3 : j ≤ n) : Pure P o a (subS m i.toNat j.toNat v) := fun w' => by
  obtain ⟨_, A, c, rfl, hc, _, _⟩ := hv
  obtain ⟨hu, hi'⟩ := hT
  cases hq : P.info? e with
  | none => simp [hq] at hi'
  | some inf =>
    have hs : inf.size = m := by simpa [hq] using hi'
    simp only [execOp, ho, hx, Option.map_some, Option.map_none, hlo, hhi]
    have e1 : (Instr.sliceBounds true n c (some (.int k i)) (some (.int k' j)) none).run P w' = .ok (i.toNat, j.toNat, c) w' := by
      simp only [Instr.sliceBounds, Sem.run_bind, Sem.run_pure, Result.andThen_ok, run_sliceBound _ _ _ _ _ (show 0 ≤ j by omega) (show j ≤ (c : Int) by omega)]
      rw [run_sliceBound _ _ _ _ _ h1 (by omega)]
      rfl
    simp [Instr.sliceAt, Instr.slice, run_underlying hu, e1, sizeOf, typeInfo, hq, hs, subS]
end
section
variable {P : Program} {o : Oper} {a : Act} {x y : Operand} {t t' : TypeId} {i j : Int} {g k m N : Nat} {e : TypeId}
theorem pu_mul (ho : o.op = .binOp .mul t x y t') (hx : a.eval x = .int .i64 i) (hy : a.eval y = .int .i64 j) (h1 : -9223372036854775808 ≤ i * j) (h2 : i * j ≤ 9223372036854775807) : Pure P o a (.int .i64 (i * j)) := fun w => by
  simp only [execOp, ho, hx, hy]; simp [go_sem, IntWalk.i64_in _ ⟨h1, h2⟩]
theorem pu_quo (ho : o.op = .binOp .quo t x y t') (hx : a.eval x = .int .i64 i) (hy : a.eval y = .int .i64 j) (h1 : 0 ≤ i) (_h3 : i ≤ 9223372036854775807) (h2 : 0 < j) : Pure P o a (.int .i64 (i / j)) := fun w => by
  have h4 : 0 ≤ i / j := Int.ediv_nonneg h1 (by omega)
  have h5 : i / j ≤ i := Int.ediv_le_self j h1
  simp only [execOp, ho, hx, hy]
  simp [go_sem, show j ≠ 0 by omega, Int.tdiv_eq_ediv_of_nonneg h1, IntWalk.i64_in (i / j) ⟨by omega, by omega⟩]
theorem pu_rem (ho : o.op = .binOp .rem t x y t') (hx : a.eval x = .int .i64 i) (hy : a.eval y = .int .i64 j) (h1 : 0 ≤ i) (_h3 : i ≤ 9223372036854775807) (h2 : 0 < j) : Pure P o a (.int .i64 (i % j)) := fun w => by
  simp only [execOp, ho, hx, hy]
  simp [go_sem, show j ≠ 0 by omega, Int.tmod_eq_emod_of_nonneg h1]
def ArTy (P : Program) (t e : TypeId) (N m : Nat) : Prop := P.underlying t = some (.array N e) ∧ (P.info? e).map (·.size) = some m
theorem pu_ixA {kd : IntKind} (ho : o.op = .indexAddr t x y) (hx : a.eval x = .pointer (some ⟨g, k, none⟩)) (hy : a.eval y = .int kd i) (hT : ArTy P t e N m) (h0 : 0 ≤ i) (h1 : i < N) : Pure P o a (.pointer (some ⟨g, k + i.toNat * m, none⟩)) := fun w' => by
  obtain ⟨hu, hi⟩ := hT
  cases hq : P.info? e with
  | none => simp [hq] at hi
  | some inf =>
    have hs : inf.size = m := by simpa [hq] using hi
    simp only [execOp, ho, hx, hy]
    simp [Instr.indexAt, Instr.sureAddr, asIntOf, run_underlying hu, sizeOf, typeInfo, hq, hs, h0, h1, addr_add]
end
section
variable {P : Program} {ops rest : List Oper} {o : Oper} {a : Act} {n : Nat} {L : List (Nat × Value)} {Q : Exit → Act → World → Prop} {w w0 : World} {B : List Ent} {v : Value} {x y : Operand} {t ty : TypeId} {g k i : Nat} {cs : Array Value}
theorem Mm.setCell (M : Mm w0 w B) (h : B[i]? = some (.blk g t cs)) (v : Value) : Mm w0 (w.setCell ⟨g, k, none⟩ v) (B.set i (.blk g t (cs.setIfInBounds k v))) :=
  M.swap h (x' := .blk g t (cs.setIfInBounds k v)) ⟨rfl, rfl, rfl, by simp, fun j _ hj => heap_setCell_other w ⟨g, k, none⟩ j v (fun e => hj (by rw [e]; rfl))⟩ ⟨(M.get h).1, (M.at h).set_ _ _⟩ (.inl rfl)
theorem sq_stC (F : Fr a n L) (M : Mm w0 w B) (hw : Region.wanted o (yielded ops.toArray a.tmps) = true) (ho : o.op = .store ty x y) (hx : a.eval x = .pointer (some ⟨g, k, none⟩)) (hy : a.eval y = v)
    (hi : B[i]? = some (.blk g t cs)) (hk : k < cs.size) (hT : (P.info? ty).map (·.size) = some 1) (h1 : v.oneCell' = true) (hv : v.cells = #[v]) (hd : o.dst = none)
    (h : ∀ w', Mm w0 w' (B.set i (.blk g t (cs.setIfInBounds k v))) → wpList P ops.toArray Q rest a w') : wpList P ops.toArray Q (o :: rest) a w :=
  wpList_step fun K hK => by
    rw [if_pos hw]
    have _ := F.size
    have hb := M.at hi
    have hr : (execOp a.eval o).run P w = .ok .skip (w.setCell ⟨g, k, none⟩ v) := by
      cases hq : P.info? ty with
      | none => simp [hq] at hT
      | some inf =>
        have hs : inf.size = 1 := by simpa [hq] using hT
        have hc : w.cell? ⟨g, k, none⟩ = some cs[k] := by rw [hb.cell, Array.getElem?_eq_getElem hk]
        simp only [execOp, ho, hx, hy]
        simp [Instr.storeAt, Instr.sureAddr, storeVar, sizeOf, typeInfo, hq, hs, hv, storeCells, addr_add, run_store P _ _ _ _ h1, hc, hb.frozen]
    unfold Oper.wp
    rw [hr]
    exact hK _ _ (by rw [hd]; exact h _ (M.setCell hi v))
end
section
variable {P : Program} {o : Oper} {a : Act} {x : Operand} {w w0 : World} {t e : TypeId} {g m n N : Nat} {cs : Array Value} {B : List Ent}
end
theorem least (p : Nat → Prop) (h : ∃ k, p k) : ∃ k, p k ∧ ∀ k', p k' → k ≤ k' := by
  obtain ⟨k, hk⟩ := h
  induction k using Nat.strongRecOn with
  | ind k ih =>
    by_cases hc : ∃ j, j < k ∧ p j
    · obtain ⟨j, h1, h2⟩ := hc
      exact ih j h1 h2
    · exact ⟨k, hk, fun k' hk' => Nat.le_of_not_lt fun hlt => hc ⟨k', hlt, hk'⟩⟩
theorem lp {P : Program} {c : Code} {Q : Exit → Act → World → Prop} {σ : Type} (I : σ → Act → World → Prop) (μ : σ → Nat) (s0 : σ) {a : Act} {w : World} (h0 : I s0 a w)
    (round : ∀ s a w, I s a w → c.wp P (Exit.then (fun a' w' => ∃ s', μ s' < μ s ∧ I s' a' w') Q) a w) : (Code.loop c).wp P Q a w := by
  classical
  have hl := fun a w => least (fun k => ∃ s, μ s = k ∧ I s a w)
  have : ∃ ν : Act → World → Nat, ∀ a w, (∃ k s, μ s = k ∧ I s a w) → (∃ s, μ s = ν a w ∧ I s a w) ∧ ∀ s, I s a w → ν a w ≤ μ s := by
    refine ⟨fun a w => if h : ∃ k s, μ s = k ∧ I s a w then (hl a w h).choose else 0, fun a w h => ?_⟩
    simp only [dif_pos h]
    have hs := (hl a w h).choose_spec
    exact ⟨hs.1, fun s h1 => hs.2 _ ⟨s, rfl, h1⟩⟩
  obtain ⟨ν, hν⟩ := this
  refine wp_loop (fun a w => ∃ s, I s a w) ν ⟨s0, h0⟩ ?_
  rintro a w ⟨s, hs⟩
  obtain ⟨⟨s1, h1, h2⟩, _⟩ := hν a w ⟨_, s, rfl, hs⟩
  refine Code.wp_mono (fun ex a' w' hq => ?_) (round s1 a w h2)
  cases ex <;> try exact hq
  obtain ⟨s', hlt, hI⟩ := hq
  refine ⟨⟨s', hI⟩, ?_⟩
  have := (hν a' w' ⟨_, s', rfl, hI⟩).2 s' hI
  show ν a' w' < ν a w
  omega
theorem nx {P : Program} {ops : Array Oper} {y : Code} {Q : Exit → Act → World → Prop} {a : Act} {w : World} (h : y.wp P Q a w) : wpList P ops (Exit.then (y.wp P Q) Q) [] a w := h
theorem nxq {P : Program} {y : Code} {Q : Exit → Act → World → Prop} {a : Act} {w : World} (h : y.wp P Q a w) : Exit.then (y.wp P Q) Q .normal a w := h
theorem nxb {id : Nat} {Q : Exit → Act → World → Prop} {a : Act} {w : World} (h : Q .normal a w) : Exit.inBlock id Q .normal a w := h
theorem nxe {id : Nat} {K : Act → World → Prop} {Q : Exit → Act → World → Prop} {a : Act} {w : World} (h : Q (.exit id) a w) : Exit.then K Q (.exit id) a w := h
theorem nxm {id : Nat} {Q : Exit → Act → World → Prop} {a : Act} {w : World} (h : Q .normal a w) : Exit.inBlock id Q (.exit id) a w := by simpa [Exit.inBlock] using h
theorem evk {a : Act} {v : Value} : a.eval (.const v) = v := rfl
theorem evn {a : Act} : ([] : List Operand).map a.eval = [] := rfl
theorem evc {a : Act} {x : Operand} {v : Value} {xs : List Operand} {vs : List Value} (h : a.eval x = v) (ht : xs.map a.eval = vs) : (x :: xs).map a.eval = v :: vs := by rw [List.map_cons, h, ht]
end Go.Proofs.Ytjelhljgeinodaa.Hs

-- Rm
namespace Go.Proofs.Ytjelhljgeinodaa.Hs.Rm
open Go.RowKit
def putsFrom (L : Nat → Bool) (v : Nat → Value) : List Oper → Nat → Act → Act
  | [], _, a => a
  | o :: r, k, a => putsFrom L v r (k + 1) (if L k then a.put o.dst (v k) else a)
def dstsApart : List Oper → Bool
  | [] => true
  | o :: r => (r.all fun o' => o.dst.isNone || o'.dst != o.dst) && dstsApart r
theorem puts_congr {L L' : Nat → Bool} {v v' : Nat → Value} : ∀ (hs : List Oper) (k : Nat) (a : Act), (∀ j, k ≤ j → j < k + hs.length → L j = L' j ∧ (L j = true → v j = v' j)) → putsFrom L v hs k a = putsFrom L' v' hs k a
  | [], _, _, _ => rfl
  | o :: r, k, a, h => by
    have h0 := h k (Nat.le_refl _) (by simp)
    have e : (if L k then a.put o.dst (v k) else a) = (if L' k then a.put o.dst (v' k) else a) := by
      rw [← h0.1]
      by_cases hk : L k = true
      · rw [if_pos hk, if_pos hk, h0.2 hk]
      · rw [if_neg hk, if_neg hk]
    simp only [putsFrom, e]
    exact puts_congr r (k + 1) _ (fun j h1 h2 => h j (by omega) (by simp; omega))
theorem puts_put {L : Nat → Bool} {v : Nat → Value} (d : Option Tmp) (x : Value) : ∀ (hs : List Oper) (k : Nat) (a : Act), (hs.all fun o' => d.isNone || o'.dst != d) = true →
    putsFrom L v hs k (a.put d x) = (putsFrom L v hs k a).put d x
  | [], _, _, _ => rfl
  | o :: r, k, a, h => by
    simp only [List.all_cons, Bool.and_eq_true] at h
    have e : (if L k then (a.put d x).put o.dst (v k) else a.put d x) = (if L k then a.put o.dst (v k) else a).put d x := by
      by_cases hk : L k = true
      · rw [if_pos hk, if_pos hk]
        exact Act.put_comm a x (v k) (fun d' hd' he => by
          subst hd'
          have := h.1
          simp [he] at this)
      · rw [if_neg hk, if_neg hk]
    simp only [putsFrom, e]
    exact puts_put d x r (k + 1) _ h.2
theorem puts_set {L L' : Nat → Bool} {v v' : Nat → Value} {i : Nat} (hL : L i = false) (hL' : L' i = true) (hne : ∀ j, j ≠ i → L' j = L j ∧ v' j = v j) : ∀ (hs : List Oper) (k : Nat) (a : Act) (o : Oper), dstsApart hs = true → k ≤ i → hs[i - k]? = some o →
    putsFrom L' v' hs k a = (putsFrom L v hs k a).put o.dst (v' i)
  | [], _, _, _, _, _, h => by simp at h
  | o' :: r, k, a, o, hd, hk, h => by
    simp only [dstsApart, Bool.and_eq_true] at hd
    by_cases hki : k = i
    · subst hki
      have ho : o' = o := by simpa using h
      subst ho
      simp only [putsFrom, hL, hL', if_true, Bool.false_eq_true, if_false]
      rw [puts_congr (L := L') (L' := L) (v := v') (v' := v) r (k + 1) _ (fun j h1 _ => ⟨(hne j (by omega)).1, fun _ => (hne j (by omega)).2⟩)]
      exact puts_put _ _ r (k + 1) a hd.1
    · have hk' : i - k = (i - (k + 1)) + 1 := by omega
      rw [hk', List.getElem?_cons_succ] at h
      simp only [putsFrom, (hne k hki).1, (hne k hki).2]
      exact puts_set hL hL' hne r (k + 1) _ o hd.2 (by omega) h
theorem put_getD_ne (a : Act) (d : Option Tmp) (x : Value) (s : Nat) (h : d ≠ some s) : (a.put d x).tmps.getD s undef = a.tmps.getD s undef := by
  cases d with
  | none => rfl
  | some e =>
    have : e ≠ s := fun he => h (by rw [he])
    simp [Act.put, Array.getElem?_setIfInBounds_ne this]
theorem put_getD_eq (a : Act) (s : Nat) (x : Value) (h : s < a.tmps.size) : (a.put (some s) x).tmps.getD s undef = x := by
  simp [Act.put, h]
theorem put_size (a : Act) (d : Option Tmp) (x : Value) : (a.put d x).tmps.size = a.tmps.size := by
  cases d <;> simp [Act.put]
theorem puts_out {L : Nat → Bool} {v : Nat → Value} (s : Nat) : ∀ (hs : List Oper) (k : Nat) (a : Act), (∀ o ∈ hs, o.dst ≠ some s) → (putsFrom L v hs k a).tmps.getD s undef = a.tmps.getD s undef
  | [], _, _, _ => rfl
  | o :: r, k, a, h => by
    simp only [putsFrom]
    rw [puts_out s r (k + 1) _ (fun o' ho' => h o' (by simp [ho']))]
    by_cases hk : L k = true
    · rw [if_pos hk, put_getD_ne _ _ _ _ (h o (by simp))]
    · rw [if_neg hk]
theorem puts_same {L : Nat → Bool} {v : Nat → Value} : ∀ (hs : List Oper) (k : Nat) (a : Act), (putsFrom L v hs k a).tmps.size = a.tmps.size ∧ (putsFrom L v hs k a).defers = a.defers
  | [], _, _ => ⟨rfl, rfl⟩
  | o :: r, k, a => by
    simp only [putsFrom]
    have h := puts_same (L := L) (v := v) r (k + 1) (if L k then a.put o.dst (v k) else a)
    rw [h.1, h.2]
    split
    · refine ⟨put_size _ _ _, ?_⟩
      cases o.dst <;> rfl
    · exact ⟨rfl, rfl⟩
theorem puts_in {L : Nat → Bool} {v : Nat → Value} {j : Nat} (hL : L j = true) (d : Nat) : ∀ (hs : List Oper) (k : Nat) (a : Act) (o : Oper), dstsApart hs = true → k ≤ j → hs[j - k]? = some o → o.dst = some d → d < a.tmps.size →
    (putsFrom L v hs k a).tmps.getD d undef = v j
  | [], _, _, _, _, _, h, _, _ => by simp at h
  | o' :: r, k, a, o, hd, hk, h, hod, hsz => by
    simp only [dstsApart, Bool.and_eq_true] at hd
    by_cases hkj : k = j
    · subst hkj
      have ho : o' = o := by simpa using h
      subst ho
      simp only [putsFrom, hL, if_true]
      rw [puts_out d r (k + 1) _ (fun o'' ho'' he => by
        have := List.all_eq_true.1 hd.1 o'' ho''
        simp [hod, he] at this), hod, put_getD_eq _ _ _ hsz]
    · have hk' : j - k = (j - (k + 1)) + 1 := by omega
      rw [hk', List.getElem?_cons_succ] at h
      simp only [putsFrom]
      refine puts_in hL d r (k + 1) _ o hd.2 (by omega) h hod ?_
      split
      · rw [put_size]; exact hsz
      · exact hsz
def ancB (ops : Array Oper) : Nat → Nat → Nat → Bool
  | 0, _, _ => false
  | f + 1, t, i => Region.waitsFor .any ops t i || (List.range ops.size).any fun k => Region.waitsFor .any ops t k && ancB ops f k i
theorem anc_listed {ops : Array Oper} {L : Nat → Bool} (hcl : ∀ i j, L i = true → Region.waitsFor .any ops i j = true → L j = true) : ∀ (f t i : Nat), (∀ j, Region.waitsFor .any ops t j = true → L j = true) → ancB ops f t i = true → L i = true
  | 0, _, _, _, h => by simp [ancB] at h
  | f + 1, t, i, hd, h => by
    simp only [ancB, Bool.or_eq_true, List.any_eq_true, List.mem_range, Bool.and_eq_true] at h
    rcases h with h | ⟨k, _, hk, h⟩
    · exact hd i h
    · exact anc_listed hcl f k i (fun j hj => hcl k j (hd k hk) hj) h
def headsG (ops : Array Oper) (hs : List Oper) (tl : Nat) : Bool :=
  dstsApart hs && ((List.range hs.length).all fun i => ((ops[i]?).map fun o => o.after.all fun e => !Region.binds .any e || decide (e.on < i)).getD false) &&
  ((List.range tl).all fun t => (List.range hs.length).all fun i => ancB ops 24 (hs.length + t) i) &&
  Region.seqB .any ops tl hs.length (List.replicate hs.length true ++ List.replicate tl false).toArray
def headsB (ops : Array Oper) (hs : List Oper) (tl : Nat) : Bool := headsG ops hs tl && hs.all (·.guard.isNone)
theorem ready_spec {ops : Array Oper} {L : Array Bool} {i : Nat} (h : i ∈ Region.ready .any ops L) : i < ops.size ∧ L.getD i true = false ∧ ∀ j, Region.waitsFor .any ops i j = true → L.getD j false = true := by
  unfold Region.ready at h
  simp only [List.mem_filter, List.mem_range, Bool.and_eq_true, Bool.not_eq_true'] at h
  refine ⟨h.1, h.2.1, fun j hj => ?_⟩
  obtain ⟨oj, hoj, e, he, hb, hon⟩ := Region.waitsFor_spec hj
  have h2 := h.2.2
  rw [hoj] at h2
  simp only [Option.map_some, Option.getD_some, Array.all_eq_true_iff_forall_mem] at h2
  have := h2 e he
  rw [hon, hb] at this
  simpa using this
section
variable {P : Program} {Q : Exit → Act → World → Prop} (hs tl : List Oper) (V : Nat → Value → World → Prop) (R : World → World → Prop) (w0 : World) (a0 : Act)
theorem wpAny_rel (hB : headsG (hs ++ tl).toArray hs tl.length = true) (hsz : ∀ o ∈ hs, ∀ d, o.dst = some d → d < a0.tmps.size)
    (hV : ∀ i x w w', V i x w → R w w' → V i x w') (hR : ∀ a b c, R a b → R b c → R a c)
    (hop : ∀ i o, hs[i]? = some o → ∀ (a : Act) (v : Nat → Value) (w : World), R w0 w → (∀ j, Region.waitsFor .any (hs ++ tl).toArray i j = true → V j (v j) w) →
      (∀ j oj d, Region.waitsFor .any (hs ++ tl).toArray i j = true → hs[j]? = some oj → oj.dst = some d → a.tmps.getD d undef = v j) → (∀ s, (∀ oj ∈ hs, oj.dst ≠ some s) → a.tmps.getD s undef = a0.tmps.getD s undef) → (a.tmps.size = a0.tmps.size ∧ a.defers = a0.defers) →
      Region.wanted o (yielded (hs ++ tl).toArray a.tmps) = true ∧ o.wp P a w (fun a' w' => ∃ x, a' = a.put o.dst x ∧ R w w' ∧ V i x w') Q)
    (hend : ∀ v w, R w0 w → (∀ i, i < hs.length → V i (v i) w) → wpList P (hs ++ tl).toArray Q tl (putsFrom (fun _ => true) v hs 0 a0) w) :
    ∀ (m : Nat) (L : Array Bool) (v : Nat → Value) (w : World), L.size = hs.length + tl.length → (∀ i j, L.getD i false = true → Region.waitsFor .any (hs ++ tl).toArray i j = true → L.getD j false = true) → (∀ t, hs.length ≤ t → L.getD t false = false) → ((List.range hs.length).filter fun i => !L.getD i false).length = m →
      R w0 w → (∀ i, i < hs.length → L.getD i false = true → V i (v i) w) → wpAny P .any (hs ++ tl).toArray Q (m + tl.length) L (putsFrom (fun j => L.getD j false) v hs 0 a0) w := by
  simp only [headsG, Bool.and_eq_true] at hB
  obtain ⟨⟨⟨hd, hback⟩, htail⟩, hseq⟩ := hB
  intro m
  induction m with
  | zero =>
    intro L v w hsize hcl htl hm hRw hVw
    have hall : ∀ i, i < hs.length → L.getD i false = true := fun i hi => by
      have := List.eq_nil_of_length_eq_zero hm
      have h2 := List.filter_eq_nil_iff.1 this i (List.mem_range.2 hi)
      simpa using h2
    have hL : L = (List.replicate hs.length true ++ List.replicate tl.length false).toArray := by
      apply Array.ext
      · simp [hsize]
      · intro i h1 h2
        by_cases hi : i < hs.length
        · have := hall i hi
          simp only [Array.getD_eq_getD_getElem?, Array.getElem?_eq_getElem h1, Option.getD_some] at this
          rw [this]
          simp [List.getElem_append_left, hi]
        · have := htl i (by omega)
          simp only [Array.getD_eq_getD_getElem?, Array.getElem?_eq_getElem h1, Option.getD_some] at this
          rw [this]
          rw [List.getElem_toArray, List.getElem_append_right (by simpa using hi), List.getElem_replicate]
    rw [Nat.zero_add]
    rw [puts_congr (L := fun j => L.getD j false) (L' := fun _ => true) (v := v) (v' := v) hs 0 a0 (fun j _ h2 => ⟨hall j (by omega), fun _ => rfl⟩)]
    refine wpAny_of_seq tl hs.length L _ w (fun j => by simp [List.getElem?_append_right]) (by rw [hL]; exact hseq) ?_
    exact hend v w hRw (fun i hi => hVw i hi (hall i hi))
  | succ m ih =>
    intro L v w hsize hcl htl hm hRw hVw
    have hex : ∃ u, u < hs.length ∧ L.getD u false = false ∧ ∀ j, j < u → L.getD j false = true := by
      have hne : ((List.range hs.length).filter fun i => !L.getD i false) ≠ [] := by intro h; rw [h] at hm; simp at hm
      have hx : ∃ u, u < hs.length ∧ L.getD u false = false := by
        obtain ⟨u, hu⟩ := List.exists_mem_of_ne_nil _ hne
        simp only [List.mem_filter, List.mem_range, Bool.not_eq_true'] at hu
        exact ⟨u, hu⟩
      obtain ⟨u, hu1, hu2⟩ := hx
      induction u using Nat.strongRecOn with
      | ind u ihu =>
        by_cases hc : ∃ j, j < u ∧ L.getD j false = false
        · obtain ⟨j, hj1, hj2⟩ := hc
          exact ihu j hj1 (by omega) hj2
        · exact ⟨u, hu1, hu2, fun j hj => by
            cases hb : L.getD j false with
            | true => rfl
            | false => exact absurd ⟨j, hj, hb⟩ hc⟩
    obtain ⟨u, hu1, hu2, hu3⟩ := hex
    have flip : ∀ i, i < L.size → L.getD i true = L.getD i false := fun i hi => by simp [Array.getElem?_eq_getElem hi]
    rw [show m + 1 + tl.length = (m + tl.length) + 1 by omega]
    refine ⟨fun hr => ?_, fun i hi => ?_⟩
    · exfalso
      have hmem : u ∈ Region.ready .any (hs ++ tl).toArray L := by
        unfold Region.ready
        simp only [List.mem_filter, List.mem_range, Bool.and_eq_true, Bool.not_eq_true']
        refine ⟨by simp; omega, by rw [flip u (by omega)]; exact hu2, ?_⟩
        have hb := List.all_eq_true.1 hback u (List.mem_range.2 hu1)
        cases ho : (hs ++ tl).toArray[u]? with
        | none => rw [ho] at hb; simp at hb
        | some o =>
          rw [ho] at hb
          simp only [Option.map_some, Option.getD_some, Array.all_eq_true_iff_forall_mem] at hb ⊢
          intro e he
          have := hb e he
          simp only [Bool.or_eq_true, Bool.not_eq_true', decide_eq_true_eq] at this ⊢
          rcases this with h | h
          · exact .inl h
          · exact .inr (hu3 _ h)
      rw [hr] at hmem
      cases hmem
    · obtain ⟨hi1, hi2, hdeps⟩ := ready_spec hi
      have hisz : i < L.size := by rw [hsize]; simpa using hi1
      have hin : i < hs.length := by
        rcases Nat.lt_or_ge i hs.length with h | h
        · exact h
        · exfalso
          have h1 := List.all_eq_true.1 htail (i - hs.length) (List.mem_range.2 (by rw [hsize] at hisz; omega))
          have h2 := List.all_eq_true.1 h1 u (List.mem_range.2 hu1)
          rw [show hs.length + (i - hs.length) = i by omega] at h2
          rw [anc_listed (L := fun j => L.getD j false) hcl 24 i u hdeps h2] at hu2
          cases hu2
      have hLi : L.getD i false = false := by rw [← flip i hisz]; exact hi2
      have hoi : hs[i]? = some hs[i] := List.getElem?_eq_getElem hin
      have hops : (hs ++ tl).toArray[i]? = some hs[i] := by simp [List.getElem?_append_left hin]
      unfold wpOp
      rw [hops]
      have hboth := hop i hs[i] hoi (putsFrom (fun j => L.getD j false) v hs 0 a0) v w hRw (fun j hj => ?c1) (fun j oj d hj hoj hdj => ?c2) (fun s hsn => puts_out s hs 0 a0 hsn) (puts_same hs 0 a0)
      simp only [hboth.1, if_true]
      refine .inl (Oper.wp_mono ?_ hboth.2)
      · rintro a' w' ⟨x, rfl, hRw', hVx⟩
        have hLn : ∀ j, j ≠ i → (L.setIfInBounds i true).getD j false = L.getD j false := fun j hj => by
          simp [Array.getElem?_setIfInBounds_ne (Ne.symm hj)]
        have hLs : (L.setIfInBounds i true).getD i false = true := by simp [hisz]
        have hput := puts_set (L := fun j => L.getD j false) (L' := fun j => (L.setIfInBounds i true).getD j false) (v := v) (v' := fun j => if j = i then x else v j) (i := i) hLi hLs
          (fun j hj => ⟨hLn j hj, if_neg hj⟩) hs 0 a0 hs[i] hd (Nat.zero_le _) (by simp [hoi])
        simp only [if_true] at hput
        rw [← hput]
        have hLk : ∀ j, L.getD j false = true → (L.setIfInBounds i true).getD j false = true := fun j hj => by
          by_cases hji : j = i
          · subst hji; exact hLs
          · rw [hLn j hji]; exact hj
        refine ih (L.setIfInBounds i true) _ w' (by simp [hsize]) (fun i' j hi' hj' => by
          by_cases hii : i' = i
          · subst hii; exact hLk j (hdeps j hj')
          · rw [hLn i' hii] at hi'; exact hLk j (hcl i' j hi' hj')) (fun t ht => by rw [hLn t (by omega)]; exact htl t ht) ?_ (hR _ _ _ hRw hRw') (fun j hj hjL => ?_)
        · have hfil : ((List.range hs.length).filter fun j => !(L.setIfInBounds i true).getD j false) = ((List.range hs.length).filter fun j => !L.getD j false).filter fun j => j != i := by
            rw [List.filter_filter]
            apply List.filter_congr
            intro j _
            by_cases hj : j = i
            · subst hj; simp [hisz]
            · rw [hLn j hj]; simp [hj]
          have hnd : ((List.range hs.length).filter fun j => !L.getD j false).Nodup := List.Nodup.sublist List.filter_sublist List.nodup_range
          have hmem : i ∈ (List.range hs.length).filter fun j => !L.getD j false := by
            rw [List.mem_filter]
            exact ⟨List.mem_range.2 hin, by rw [hLi]; rfl⟩
          rw [hfil, ← List.Nodup.erase_eq_filter hnd i, List.length_erase_of_mem hmem, hm]
          rfl
        · by_cases hji : j = i
          · subst hji; rw [if_pos rfl]; exact hVx
          · rw [if_neg hji]
            rw [hLn j hji] at hjL
            exact hV _ _ _ _ (hVw j hj hjL) hRw'
      case c1 =>
        have hjL := hdeps j hj
        have hjn : j < hs.length := by
          rcases Nat.lt_or_ge j hs.length with h | h
          · exact h
          · rw [htl j h] at hjL; cases hjL
        exact hVw j hjn hjL
      case c2 =>
        have hjL := hdeps j hj
        exact puts_in (L := fun j => L.getD j false) hjL d hs 0 a0 oj hd (Nat.zero_le _) (by simpa using hoj) hdj (hsz oj (List.mem_of_getElem? hoj) d hdj)
theorem region_rel {id : Nat} {w : World} (hm : P.follows .mixedOrders = true) (hB : headsG (hs ++ tl).toArray hs tl.length = true) (hsz : ∀ o ∈ hs, ∀ d, o.dst = some d → d < a0.tmps.size)
    (hV : ∀ i x w w', V i x w → R w w' → V i x w') (hR : ∀ a b c, R a b → R b c → R a c) (h0 : R w0 w.drew)
    (hop : ∀ i o, hs[i]? = some o → ∀ (a : Act) (v : Nat → Value) (w : World), R w0 w → (∀ j, Region.waitsFor .any (hs ++ tl).toArray i j = true → V j (v j) w) →
      (∀ j oj d, Region.waitsFor .any (hs ++ tl).toArray i j = true → hs[j]? = some oj → oj.dst = some d → a.tmps.getD d undef = v j) → (∀ s, (∀ oj ∈ hs, oj.dst ≠ some s) → a.tmps.getD s undef = a0.tmps.getD s undef) → (a.tmps.size = a0.tmps.size ∧ a.defers = a0.defers) →
      Region.wanted o (yielded (hs ++ tl).toArray a.tmps) = true ∧ o.wp P a w (fun a' w' => ∃ x, a' = a.put o.dst x ∧ R w w' ∧ V i x w') Q)
    (hend : ∀ v w, R w0 w → (∀ i, i < hs.length → V i (v i) w) → wpList P (hs ++ tl).toArray Q tl (putsFrom (fun _ => true) v hs 0 a0) w) :
    (Code.region id (hs ++ tl).toArray true).wp P Q a0 w := by
  refine wp_region_any hm ?_
  have hrep : ∀ j, (Array.replicate (hs ++ tl).toArray.size false).getD j false = false := fun j => by
    simp only [Array.getD_eq_getD_getElem?, Array.getElem?_replicate]
    split <;> rfl
  have hfl : ((List.range hs.length).filter fun i => !(Array.replicate (hs ++ tl).toArray.size false).getD i false).length = hs.length := by
    rw [List.filter_eq_self.2 (fun i _ => by rw [hrep]; rfl), List.length_range]
  have := wpAny_rel (Q := Q) hs tl V R w0 a0 hB hsz hV hR hop hend hs.length (Array.replicate (hs ++ tl).toArray.size false) (fun _ => undef) w.drew (by simp) (fun i j hi _ => by rw [hrep] at hi; cases hi) (fun t _ => hrep t) hfl h0 (fun i _ hL => by rw [hrep] at hL; cases hL)
  have hp : putsFrom (fun j => (Array.replicate (hs ++ tl).toArray.size false).getD j false) (fun _ => undef) hs 0 a0 = a0 := by
    have : ∀ (hs' : List Oper) (k : Nat) (a : Act), putsFrom (fun _ => false) (fun _ => undef) hs' k a = a := by
      intro hs'
      induction hs' with
      | nil => intros; rfl
      | cons o r ih => intro k a; simp only [putsFrom, Bool.false_eq_true, if_false]; exact ih _ _
    rw [puts_congr (L' := fun _ => false) (v' := fun _ => undef) hs 0 a0 (fun j _ _ => ⟨hrep j, fun _ => rfl⟩)]
    exact this hs 0 a0
  rw [hp] at this
  simpa using this
theorem region_relG {P : Program} {Q : Exit → Act → World → Prop} {id : Nat} {w : World} {a0 : Act} {l : List Oper} (n : Nat) (V : Nat → Value → World → Prop)
    (hm : P.follows .mixedOrders = true) (hB : headsG l.toArray (l.take n) (l.drop n).length = true) (hsz : ((l.take n).all fun o => match o.dst with | some d => decide (d < a0.tmps.size) | none => true) = true)
    (hV : ∀ i x w w', V i x w → Below w.heap.size w w' → V i x w')
    (hop : ∀ i o, (l.take n)[i]? = some o → ∀ (a : Act) (v : Nat → Value) (w' : World), Below w.heap.size w w' → (∀ j, Region.waitsFor .any l.toArray i j = true → V j (v j) w') →
      (∀ j oj d, Region.waitsFor .any l.toArray i j = true → (l.take n)[j]? = some oj → oj.dst = some d → a.tmps.getD d undef = v j) → (∀ s, ((l.take n).all fun oj => oj.dst != some s) = true → a.tmps.getD s undef = a0.tmps.getD s undef) → (a.tmps.size = a0.tmps.size ∧ a.defers = a0.defers) →
      Region.wanted o (yielded l.toArray a.tmps) = true ∧ o.wp P a w' (fun a' w'' => ∃ x, a' = a.put o.dst x ∧ Below w'.heap.size w' w'' ∧ V i x w'') Q)
    (hend : ∀ v w', Below w.heap.size w w' → (∀ i, i < (l.take n).length → V i (v i) w') → wpList P l.toArray Q (l.drop n) (putsFrom (fun _ => true) v (l.take n) 0 a0) w') :
    (Code.region id l.toArray true).wp P Q a0 w := by
  have e : l.toArray = (l.take n ++ l.drop n).toArray := by rw [List.take_append_drop]
  rw [e] at hB hop hend ⊢
  refine region_rel (l.take n) (l.drop n) V (fun a b => Below a.heap.size a b) w a0 hm hB ?_ hV (fun a b c h1 h2 => h1.trans (h2.mono h1.size)) (Below.refl _ _).drew ?_ hend
  · intro o ho d hd
    have := List.all_eq_true.1 hsz o ho
    rw [hd] at this
    simpa using this
  · intro i o hi a v w' h1 h2 h3 h4 h5
    exact hop i o hi a v w' h1 h2 h3 (fun s hs => h4 s (fun oj hoj he => by
      have := List.all_eq_true.1 hs oj hoj
      simp [he] at this)) h5
section
variable {P : Program} {Q : Exit → Act → World → Prop} {o : Oper} {a : Act} {w : World} {V : Value → World → Prop}
theorem ow_call (f : FuncId) (xs : List Operand) (ts : Array TypeId) (ho : o.op = .call { callee := .value (.func f), args := xs.toArray, argTypes := ts }) (he : enters P f = true) (args : List Value) (ha : xs.map a.eval = args) (x : Value)
    (hc : Calls P f args.toArray w fun e w' => e = .returned x ∧ Below w.heap.size w w') (hx : ∀ w', Below w.heap.size w w' → V x w') :
    o.wp P a w (fun a' w' => ∃ x, a' = a.put o.dst x ∧ Below w.heap.size w w' ∧ V x w') Q := by
  unfold Oper.wp
  rw [run_enter he ho w, List.map_toArray, ha]
  exact hc.mono fun e w' ⟨h1, h2⟩ => by subst h1; exact ⟨x, rfl, h2, hx w' h2⟩
theorem ow_value (x : Value) (w' : World) (hrun : (execOp a.eval o).run P w = .ok (.value x) w') (hb : Below w.heap.size w w') (hx : V x w') :
    o.wp P a w (fun a' w' => ∃ x, a' = a.put o.dst x ∧ Below w.heap.size w w' ∧ V x w') Q := by
  unfold Oper.wp
  rw [hrun]
  exact ⟨x, rfl, hb, hx⟩
theorem ow_move (y : Operand) (ho : o.op = .move y) (hx : V (a.eval y) w) : o.wp P a w (fun a' w' => ∃ x, a' = a.put o.dst x ∧ Below w.heap.size w w' ∧ V x w') Q :=
  ow_value (a.eval y) w (by simp [execOp, ho]) (Below.refl _ _) hx
end
end
end Go.Proofs.Ytjelhljgeinodaa.Hs.Rm

-- Rh
namespace Go.Proofs.Ytjelhljgeinodaa.Hs.Rm
open Go.RowKit
inductive HV where
  | val (v : Value)
  | new (t : TypeId) (cs : Array Value)
def HV.value (g : Nat) : HV → Value
  | .val v => v
  | .new _ _ => .pointer (some ⟨g, 0, none⟩)
def HV.old : HV → Bool
  | .val _ => true
  | .new _ _ => false
def headL (g : Nat) : List Oper → List HV → List (Nat × Value) → List (Nat × Value)
  | o :: os, h :: hs, L => headL g os hs (match o.dst with | some d => (d, h.value g) :: L | none => L)
  | _, _, L => L
def HV.told (B : Nat) (x : Value) (w : World) : HV → Prop
  | .val v => x = v
  | .new t cs => ∃ g, x = .pointer (some ⟨g, 0, none⟩) ∧ Blk w g t cs ∧ B ≤ g
def told (B : Nat) (vals : List HV) (i : Nat) (x : Value) (w : World) : Prop := ∀ h, vals[i]? = some h → h.told B x w
section
variable {P : Program} {Q : Exit → Act → World → Prop} {w0 w : World} {a : Act} {n : Nat} {L : List (Nat × Value)} {B : List Ent} {l : List Oper}
def HeadOK (P : Program) (Q : Exit → Act → World → Prop) (l : List Oper) (nh : Nat) (vals : List HV) (a : Act) (n : Nat) (w : World) (i : Nat) (o : Oper) : Prop :=
  ∀ (a' : Act) (w' : World), Below w.heap.size w w' → Fr a' n [] →
    (∀ j oj d v, Region.waitsFor .any l.toArray i j = true → (l.take nh)[j]? = some oj → oj.dst = some d → vals[j]? = some (.val v) → a'.tmps.getD d undef = v) →
    (∀ s, ((l.take nh).all fun oj => oj.dst != some s) = true → a'.tmps.getD s undef = a.tmps.getD s undef) →
    Region.wanted o (yielded l.toArray a'.tmps) = true ∧ o.wp P a' w' (fun a'' w'' => ∃ x, a'' = a'.put o.dst x ∧ Below w'.heap.size w' w'' ∧ told w.heap.size vals i x w'') Q
def HeadsOK (P : Program) (Q : Exit → Act → World → Prop) (l : List Oper) (nh : Nat) (vals : List HV) (a : Act) (n : Nat) (w : World) : Nat → List Oper → Prop
  | _, [] => True
  | i, o :: os => HeadOK P Q l nh vals a n w i o ∧ HeadsOK P Q l nh vals a n w (i + 1) os
theorem heads_get {nh : Nat} {vals : List HV} : ∀ (os : List Oper) (k : Nat), HeadsOK P Q l nh vals a n w k os → ∀ i o, os[i]? = some o → HeadOK P Q l nh vals a n w (k + i) o
  | [], _, _, i, o, h => by simp at h
  | o' :: os, k, h, 0, o, hi => by
    have : o' = o := by simpa using hi
    subst this
    exact h.1
  | o' :: os, k, h, i + 1, o, hi => by
    have := heads_get os (k + 1) h.2 i o (by simpa using hi)
    rwa [show k + 1 + i = k + (i + 1) by omega] at this
theorem puts_fr {g : Nat} : ∀ (hs : List Oper) (vals : List HV) (k : Nat) (v : Nat → Value) (a : Act) (L : List (Nat × Value)), hs.length = vals.length →
    (hs.all fun o => match o.dst with | some d => Nat.blt d n | none => true) = true → (∀ i h, vals[i]? = some h → v (k + i) = h.value g) → Fr a n L → Fr (putsFrom (fun _ => true) v hs k a) n (headL g hs vals L)
  | [], [], _, _, _, _, _, _, _, F => F
  | o :: os, h :: hs, k, v, a, L, hl, hd, hv, F => by
    simp only [List.all_cons, Bool.and_eq_true] at hd
    have h0 : v k = h.value g := hv 0 h rfl
    simp only [putsFrom, if_true, headL, h0]
    refine puts_fr os hs (k + 1) v _ _ (by simpa using hl) hd.2 (fun i h' hi => by have := hv (i + 1) h' (by simpa using hi); rwa [show k + (i + 1) = k + 1 + i by omega] at this) ?_
    cases ho : o.dst with
    | none => exact F
    | some d =>
      rw [ho] at hd
      exact F.put hd.1
theorem told_keep (b : Nat) (vals : List HV) : ∀ i x w w', told b vals i x w → Below w.heap.size w w' → told b vals i x w' := by
  intro i x w w' h hb hv hi
  have := h hv hi
  cases hv with
  | val v => exact this
  | new t cs =>
    obtain ⟨g, h1, h2, h3⟩ := this
    exact ⟨g, h1, h2.below hb h2.lt, h3⟩
theorem _root_.Go.Proofs.Ytjelhljgeinodaa.Hs.Mm.with (M : Mm w0 w B) {w' : World} (hb : Below w.heap.size w w') {g : Nat} {t : TypeId} {cs : Array Value} (h : Blk w' g t cs) (hg : w.heap.size ≤ g) : Mm w0 w' (.blk g t cs :: B) :=
  M.add hb (x := .blk g t cs) ⟨Nat.le_trans M.bel.size hg, h⟩ (fun k hk => by injection hk with hk; omega)
theorem rg_heads0 {id : Nat} (F : Fr a n L) (M : Mm w0 w B) (nh : Nat) (vals : List HV) (honly : (vals.all fun h => h.old) = true)
    (hm : P.follows .mixedOrders = true) (hB : headsG l.toArray (l.take nh) (l.drop nh).length = true) (hsz : ((l.take nh).all fun o => match o.dst with | some d => Nat.blt d n | none => true) = true) (hlen : (l.take nh).length = vals.length)
    (hop : HeadsOK P Q l nh vals a n w 0 (l.take nh))
    (hend : ∀ a' w', Fr a' n (headL 0 (l.take nh) vals L) → Mm w0 w' B → wpList P l.toArray Q (l.drop nh) a' w') : (Code.region id l.toArray true).wp P Q a w := by
  refine region_relG nh (told w.heap.size vals) hm hB ?_ (told_keep _ _) ?_ ?_
  · rw [List.all_eq_true] at hsz ⊢
    intro o ho
    have := hsz o ho
    cases hd : o.dst with
    | none => rfl
    | some d =>
      rw [hd] at this
      have hlt : d < n := Nat.le_of_ble_eq_true this
      simpa [F.size] using hlt
  · intro i o hi a' v w' hb hV hdep hold hsame
    have := heads_get (l.take nh) 0 hop i o hi
    rw [Nat.zero_add] at this
    refine this a' w' hb ⟨?_, ?_, fun h => by cases h⟩ (fun j oj d v' hj ho hd hv => ?_) hold
    · rw [hsame.1, F.size]
    · rw [hsame.2, F.defers]
    · rw [hdep j oj d hj ho hd]
      exact hV j hj (.val v') hv
  · intro v w' hb hV
    refine hend _ _ (puts_fr _ _ 0 v a L hlen hsz (fun i h hi => ?_) F) (M.below hb)
    rw [Nat.zero_add]
    have hi' : i < vals.length := by
      rcases Nat.lt_or_ge i vals.length with h | h
      · exact h
      · rw [List.getElem?_eq_none h] at hi; cases hi
    have ho := List.all_eq_true.1 honly h (List.mem_of_getElem? hi)
    cases h with
    | val u => exact hV i (by omega) _ hi
    | new _ _ => cases ho
variable {o : Oper} {nh i : Nat} {vals : List HV} {a' : Act} {w' : World} {v : Value} {L' : List (Nat × Value)}
theorem ob_rd (hw : Region.wanted o (yielded l.toArray a'.tmps) = true) (hp : Rdy P o a' (fun x => x = w') v) (hv : vals[i]? = some (.val v)) :
    Region.wanted o (yielded l.toArray a'.tmps) = true ∧ o.wp P a' w' (fun a'' w'' => ∃ x, a'' = a'.put o.dst x ∧ Below w'.heap.size w' w'' ∧ told w.heap.size vals i x w'') Q :=
  ⟨hw, ow_value v w' (hp w' rfl) (Below.refl _ _) (fun h hh => by rw [hv] at hh; injection hh with hh; subst hh; rfl)⟩
theorem ob_call (hw : Region.wanted o (yielded l.toArray a'.tmps) = true) {f : FuncId} {xs : List Operand} {ts : Array TypeId} {args : List Value} (ho : o.op = .call { callee := .value (.func f), args := xs.toArray, argTypes := ts })
    (he : enters P f = true) (ha : xs.map a'.eval = args) (hc : Calls P f args.toArray w' fun e w'' => e = .returned v ∧ Below w'.heap.size w' w'') (hv : vals[i]? = some (.val v)) :
    Region.wanted o (yielded l.toArray a'.tmps) = true ∧ o.wp P a' w' (fun a'' w'' => ∃ x, a'' = a'.put o.dst x ∧ Below w'.heap.size w' w'' ∧ told w.heap.size vals i x w'') Q :=
  ⟨hw, ow_call f xs ts ho he args ha v hc (fun _ _ h hh => by rw [hv] at hh; injection hh with hh; subst hh; rfl)⟩
theorem _root_.Go.Proofs.Ytjelhljgeinodaa.Hs.Fr.dep (_F : Fr a' n []) (hdep : ∀ j oj d v, Region.waitsFor .any l.toArray i j = true → (l.take nh)[j]? = some oj → oj.dst = some d → vals[j]? = some (.val v) → a'.tmps.getD d undef = v) (j : Nat) {oj : Oper} {d : Nat} (h1 : Region.waitsFor .any l.toArray i j = true)
    (h2 : (l.take nh)[j]? = some oj) (h3 : oj.dst = some d) (h4 : vals[j]? = some (.val v)) : a'.tmps.getD d undef = v := hdep j oj d v h1 h2 h3 h4
theorem _root_.Go.Proofs.Ytjelhljgeinodaa.Hs.Fr.was (F : Fr a n L) (hold : ∀ s, ((l.take nh).all fun oj => oj.dst != some s) = true → a'.tmps.getD s undef = a.tmps.getD s undef) {s : Nat} (h1 : ((l.take nh).all fun oj => oj.dst != some s) = true) (h2 : look L s = some v) : a'.tmps.getD s undef = v := by
  rw [hold s h1, F.get h2]
end
end Go.Proofs.Ytjelhljgeinodaa.Hs.Rm

-- Re
namespace Go.Proofs.Ytjelhljgeinodaa.Hs
open Go.RowKit Rm
theorem mixedOK : Try.prog.follows .mixedOrders = true := by kernel_rfl
theorem agg39 : AggTy Try.prog 58 8:= ⟨_, Try.underlying58, rfl, by kernel_rfl⟩
theorem agg24 : AggTy Try.prog 27 32:= ⟨_, Try.underlying27, rfl, by kernel_rfl⟩
theorem one38 : OneTy Try.prog 56:= ⟨_, Try.underlying56, rfl⟩
theorem z39 : (Try.prog.info? 58).map (fun i => i.zero.map (·.cells)) = some (some (U64 (List.replicate 8 0))) := by kernel_rfl
theorem z24 : (Try.prog.info? 27).map (fun i => i.zero.map (·.cells)) = some (some (B8 (List.replicate 32 0))) := by kernel_rfl
theorem sl22 : SlTy Try.prog 46 5 1:= ⟨Try.underlying46, by kernel_rfl⟩
theorem en19 : enters Try.prog 31 = true := by kernel_rfl
theorem en20 : enters Try.prog 32 = true := by kernel_rfl
def stAt (l : List Nat) (i : Int) : List Nat := absorbK initN (padded 0 l) (i.toNat / 64)
def chk (l : List Nat) (i : Int) : List Nat := ((padded 0 l).drop (64 * (i.toNat / 64))).take 64
theorem stAt_len (l : List Nat) (i : Int) : (stAt l i).length = 8 := absorbK_length rfl _
theorem stAt_lt (l : List Nat) (i : Int) : W32 (stAt l i) := absorbK_lt (by unfold W32; decide) _
theorem U64_ones (l : List Nat) : (U64 l).toList.all (·.oneCell') = true := by simp [U64, Value.oneCell']
theorem padded_mod (l : List Nat) : (padded 0 l).length % 64 = 0 := by
  simp only [padded, List.length_append, List.length_cons, List.length_replicate, be8_length]; omega
theorem padded_le (l : List Nat) : (padded 0 l).length ≤ l.length + 72 := by
  simp only [padded, List.length_append, List.length_cons, List.length_replicate, be8_length]; omega
theorem step_le {l : List Nat} {i : Int} (h1 : i % 64 = 0) (h2 : i < ((padded 0 l).length : Int)) : i + 64 ≤ ((padded 0 l).length : Int) := by
  have := padded_mod l; omega
theorem chk_len {l : List Nat} {i : Int} (h0 : 0 ≤ i) (h1 : i % 64 = 0) (h2 : i < ((padded 0 l).length : Int)) : (chk l i).length = 64 := by
  have := step_le h1 h2
  simp only [chk, List.length_take, List.length_drop]; omega
theorem stAt_succ {l : List Nat} {i : Int} (h0 : 0 ≤ i) : stAt l (i + 64) = absorbN (stAt l i) (chk l i) := by
  unfold stAt chk
  rw [show (i + 64).toNat / 64 = i.toNat / 64 + 1 by omega, absorbK]
theorem chk_lt {l : List Nat} (h : W8 l) (i : Int) : W8 (chk l i) := by
  have hp : W8 (padded 0 l) := h.append (W8.cons (by omega) ((W8.zeros _).append (be8_lt _)))
  intro x hx
  exact hp x (List.mem_of_mem_drop (List.mem_of_mem_take hx))
theorem chk_rd {l : List Nat} {i : Int} {w : World} {v : Value} (h0 : 0 ≤ i) (h1 : i % 64 = 0) (h2 : i < ((padded 0 l).length : Int)) (hr : RdV w 1 v (padded 0 l).length (B8 (padded 0 l)).toList) : RdV w 1 (subS 1 i.toNat (i + 64).toNat v) 64 (B8 (chk l i)).toList := by
  have := step_le h1 h2
  have h := sub_rdv (l := i.toNat) (h := (i + 64).toNat) hr (by omega) (by omega)
  rw [show (i + 64).toNat - i.toNat = 64 by omega] at h
  have e : ((B8 (padded 0 l)).toList.drop (i.toNat * 1)).take (64 * 1) = (B8 (chk l i)).toList := by
    unfold chk B8
    rw [show 64 * (i.toNat / 64) = i.toNat by omega]
    simp [List.map_take, List.map_drop]
  rwa [e] at h
theorem rblock_rd (st b : List Nat) (v : Value) (w : World) (hs : st.length = 8) (hs' : W32 st) (hb : b.length = 64) (hb' : W8 b) (hr : RdV w 1 v 64 (B8 b).toList) :
    Calls Try.prog 32 #[.agg (U64 st), v] w fun e w' => e = .returned (.agg (U64 (absorbN st b))) ∧ Below w.heap.size w w' := by
  obtain ⟨c, hv, _, _, hg, hc⟩ := hr.form (by omega)
  rw [hv]
  exact block_any st b (gof v) (oof v) c w hs hs' hb hb' hg (fun j hj => hc j _ (by
    rw [B8_list, List.getElem?_map, List.getElem?_eq_getElem (by omega), at0_eq (by omega)]; rfl))
theorem ar39 : ArTy Try.prog 58 56 8 1 := ⟨Try.underlying58, by kernel_rfl⟩
theorem ar24 : ArTy Try.prog 27 5 32 1 := ⟨Try.underlying27, by kernel_rfl⟩
theorem U64_at {x : List Nat} {k : Nat} (h : k < x.length) : (U64 x)[k]? = some (.int .u64 ((at0 x k : Nat) : Int)) := by
  unfold U64; rw [at0_eq h]; simp [h]
theorem B8_ones (l : List Nat) : (B8 l).toList.all (·.oneCell') = true := by simp [B8, Value.oneCell']
theorem out_step {st : List Nat} {j : Int} (h0 : 0 ≤ j) (h1 : j < 32) : B8 (pad 32 ((bytesN st).take (j + 1).toNat)) = (B8 (pad 32 ((bytesN st).take j.toNat))).setIfInBounds (0 + j.toNat * 1) (.int .u8 ((at0 st (0 + (j / 4).toNat * 1) / 2 ^ (24 - (j % 4) * 8).toNat % 256 : Nat) : Int)) := by
  have hl : ((bytesN st).take j.toNat).length = j.toNat := by rw [List.length_take, bytesN_length]; omega
  have := B8_set 32 ((bytesN st).take j.toNat) (byteOf st j.toNat) (by omega)
  rw [hl] at this
  have e1 : 0 + j.toNat * 1 = j.toNat := by omega
  have e2 : at0 st (0 + (j / 4).toNat * 1) / 2 ^ (24 - (j % 4) * 8).toNat % 256 = byteOf st j.toNat := by
    unfold byteOf
    rw [show 0 + (j / 4).toNat * 1 = j.toNat / 4 by omega, show (24 - (j % 4) * 8).toNat = 24 - j.toNat % 4 * 8 by omega]
  rw [e1, e2, this]
  congr 2
  rw [show (j + 1).toNat = j.toNat + 1 by omega, List.take_add_one, List.getElem?_eq_getElem (by rw [bytesN_length]; omega)]
  have := at0_bytesN st j.toNat (by omega)
  rw [at0_eq (by rw [bytesN_length]; omega)] at this
  rw [this]
  rfl
theorem fin_eq {l : List Nat} {i j : Int} (h0 : ¬ i < ((padded 0 l).length : Int)) (h1 : i ≤ ((padded 0 l).length : Int)) (h2 : j = 32) : pad 32 ((bytesN (stAt l i)).take j.toNat) = sumN l := by
  subst h2
  have hi : i.toNat = (padded 0 l).length := by omega
  rw [List.take_of_length_le (by rw [bytesN_length]; decide)]
  unfold pad
  rw [bytesN_length, Nat.sub_self, List.replicate_zero, List.append_nil]
  unfold stAt sumN finishN
  rw [hi]
section
variable {o : Oper} {a : Act} {x y : Operand}
theorem pu_shr64 {n : Nat} {s : Int} (ho : o.op = .binOp .shr 56 x y 3) (hx : a.eval x = .int .u64 (n : Int)) (hy : a.eval y = .int .i64 s) (_hn : n < 18446744073709551616) (_h0 : 0 ≤ s) (_h1 : s < 64) : Pure Try.prog o a (.int .u64 ((n / 2 ^ s.toNat : Nat) : Int)) := fun w => by
  simp only [execOp, ho, hx, hy]
  simp [go_sem]
theorem pu_cv8 {n : Nat} (ho : o.op = .convert 56 5 x) (hx : a.eval x = .int .u64 (n : Int)) : Pure Try.prog o a (.int .u8 ((n % 256 : Nat) : Int)) := fun w => by
  simp only [execOp, ho, hx]
  simp [go_sem]
  first | rfl | (simp [IntKind.wrap, IntKind.signed, IntKind.bits]; done) | (unfold IntKind.wrap; simp)
theorem bu39 (ho : o.op = .build 58 #[(0, .const (.int .u64 1779033703)), (1, .const (.int .u64 3144134277)), (2, .const (.int .u64 1013904242)), (3, .const (.int .u64 2773480762)), (4, .const (.int .u64 1359893119)), (5, .const (.int .u64 2600822924)), (6, .const (.int .u64 528734635)), (7, .const (.int .u64 1541459225))]) : Pure Try.prog o a (.agg (U64 initN)) := fun w => by
  simp only [execOp, ho, List.map_toArray, List.map, Act.eval]
  simp [go_sem, U64, initN]
end
set_option maxHeartbeats 1000000 in
theorem rsum_any (l : List Nat) (A : Option Addr) (c : Nat) (w : World) (hl' : W8 l) (hr : Rd w w.heap.size A l) (hbig : l.length < 900000) :
    Calls Try.prog 21 #[.slice A l.length c] w fun e w' => e = .returned (.agg (B8 (sumN l))) ∧ Below w.heap.size w w' := by
  have hple := padded_le l
  refine enterF Try.func21 rfl 41 Try.ntmps21 [.slice A l.length c] rfl [(0, .slice A l.length c)] rfl ?_
  intro φ F
  have M := Mm.start w
  refine wp_seq ?_
  refine wp_region_lit ?_
  refine sq_alloc F M (wt0 rfl) rfl z24 rfl rfl ?_; clear F M; intro φ ω g1 F M
  refine nx ?_
  refine wp_seq ?_
  refine wp_region_lit ?_
  refine sq_pure F (wt0 rfl) (bu39 rfl) rfl rfl ?_; clear F; intro φ F
  refine sq_alloc F M (wt0 rfl) rfl z39 rfl rfl ?_; clear F M; intro φ ω g2 F M
  refine sq_stA F M (wt0 rfl) rfl (F.ev rfl) (F.ev rfl) (i := 0) rfl agg39 rfl rfl rfl rfl ?_; clear M; intro ω M
  refine nx ?_
  refine wp_seq ?_
  refine wp_region_lit ?_
  refine sq_pure F (wt0 rfl) (pu_move rfl (F.ev rfl)) rfl rfl ?_; clear F; intro φ F
  refine sq_callR F (wt0 rfl) rfl en19 (evc (F.ev rfl) evn) (padded_any l A c _ ((hr.below M.bel).more M.bel.size) hbig) rfl rfl ?_
  rintro e ω1 ⟨v1, rfl, hown, hb⟩; refine ⟨v1, rfl, ?_⟩; clear F; intro φ F
  have hown' := World.ownsRow.mono (show ω1.ownsRow ω.heap.size 5 1 v1 (padded 0 l).length (B8 (padded 0 l)).toList from hown) M.bel.size
  replace M := M.add hb (x := .row 5 1 v1 (padded 0 l).length (B8 (padded 0 l)).toList) hown' (fun k hk => (World.ownsRow.lt hown k hk).1)
  clear hown hown' hb
  refine sq_pure F (wt0 rfl) (pu_assign rfl (F.ev rfl)) rfl rfl ?_; clear F; intro φ F
  refine nx ?_
  refine wp_seq ?_
  refine wp_seq ?_
  refine wp_region_lit ?_
  refine sq_pure F (wt0 rfl) (pu_assign rfl (evk)) rfl rfl ?_; clear F; intro φ F
  refine nx ?_
  refine wp_block ?_
  refine lp (σ := Int) (fun i a w' => Fr a 41 [(2, .pointer (some ⟨g1, 0, none⟩)), (3, .pointer (some ⟨g2, 0, none⟩)), (4, v1), (5, .int .i64 i)] ∧ Mm w w' [.row 5 1 v1 ((padded 0 l).length) ((B8 (padded 0 l)).toList), .blk g2 58 (U64 (stAt l i)), .blk g1 27 (B8 (List.replicate 32 0))] ∧ 0 ≤ i ∧ i ≤ ((padded 0 l).length : Int) ∧ i % 64 = 0) (fun i => (((padded 0 l).length : Int) - i).toNat) (0) ⟨((((F.nil.cons (F.get (k := 5) rfl)).cons (F.get (k := 4) rfl)).cons (F.get (k := 3) rfl)).cons (F.get (k := 2) rfl)), M, Int.le_refl _, by omega, rfl⟩ ?_
  clear F M
  rintro i φ ω ⟨F, M, hp1_0, hp1_1, hp1_2⟩
  refine wp_seq ?_
  refine wp_seq ?_
  refine wp_region_lit ?_
  refine sq_pure F (wt0 rfl) (pu_move rfl (F.ev rfl)) rfl rfl ?_; clear F; intro φ F
  refine sq_pure F (wt0 rfl) (pu_move rfl (F.ev rfl)) rfl rfl ?_; clear F; intro φ F
  refine sq_pure F (wt0 rfl) (pu_len rfl (F.ev rfl) sl22 (M.rv (i := 0) rfl)) rfl rfl ?_; clear F; intro φ F
  refine sq_pure F (wt0 rfl) (pu_lss rfl (F.ev rfl) (F.ev rfl)) rfl rfl ?_; clear F; intro φ F
  refine nx ?_
  cases hs2 : (decide (i < (((padded 0 l).length) : Int)))
  · rw [hs2] at F
    have hs2i := of_decide_eq_false hs2
    refine wp_cond_false (F.ev rfl) ?_
    refine wp_exit ?_
    refine nxe ?_
    refine nxe ?_
    refine nxm ?_
    refine nxq ?_
    refine wp_seq ?_
    refine wp_region_lit ?_
    refine sq_alloc F M (wt0 rfl) rfl z24 rfl rfl ?_; clear F M; intro φ ω g3 F M
    refine nx ?_
    refine wp_seq ?_
    refine wp_seq ?_
    refine wp_region_lit ?_
    refine sq_pure F (wt0 rfl) (pu_assign rfl (evk)) rfl rfl ?_; clear F; intro φ F
    refine nx ?_
    refine wp_block ?_
    refine lp (σ := Int) (fun j a w' => Fr a 41 [(2, .pointer (some ⟨g1, 0, none⟩)), (3, .pointer (some ⟨g2, 0, none⟩)), (6, .pointer (some ⟨g3, 0, none⟩)), (7, .int .i64 j)] ∧ Mm w w' [.blk g3 27 (B8 (pad 32 ((bytesN (stAt l i)).take j.toNat))), .row 5 1 v1 ((padded 0 l).length) ((B8 (padded 0 l)).toList), .blk g2 58 (U64 (stAt l i)), .blk g1 27 (B8 (List.replicate 32 0))] ∧ 0 ≤ j ∧ j ≤ 32) (fun j => (32 - j).toNat) (0) ⟨((((F.nil.cons (F.get (k := 7) rfl)).cons (F.get (k := 6) rfl)).cons (F.get (k := 3) rfl)).cons (F.get (k := 2) rfl)), (by exact M), Int.le_refl _, by omega⟩ ?_
    clear F M
    rintro j φ ω ⟨F, M, hp3_0, hp3_1⟩
    refine wp_seq ?_
    refine wp_seq ?_
    refine wp_region_lit ?_
    refine sq_pure F (wt0 rfl) (pu_move rfl (F.ev rfl)) rfl rfl ?_; clear F; intro φ F
    refine sq_pure F (wt0 rfl) (pu_lss rfl (F.ev rfl) (evk)) rfl rfl ?_; clear F; intro φ F
    refine nx ?_
    cases hs4 : (decide (j < 32))
    · rw [hs4] at F
      have hs4i := of_decide_eq_false hs4
      refine wp_cond_false (F.ev rfl) ?_
      refine wp_exit ?_
      refine nxe ?_
      refine nxe ?_
      refine nxm ?_
      refine nxq ?_
      refine wp_seq ?_
      refine wp_region_lit ?_
      refine sq_rd F (wt0 rfl) (ld_agg rfl (F.ev rfl) agg24 (M.rd (i := 0) rfl) (by rw [B8_size, pad_length (by simp; omega)])) rfl rfl ?_; clear F; intro φ F
      refine sq_stA F M (wt0 rfl) rfl (F.ev rfl) (F.ev rfl) (i := 3) rfl agg24 rfl (by rw [B8_size, pad_length (by simp; omega)]) (B8_ones _) rfl ?_; clear M; intro ω M
      refine nx ?_
      refine wp_ret ?_
      refine rt_cell F M rfl rfl (i := 3) rfl agg24 (by rw [B8_size, pad_length (by simp; omega)]) ?_
      refine ⟨?_, M.bel⟩
      rw [fin_eq (l := l) (i := i) (j := j) (by omega) (by omega) (by omega)]
    · rw [hs4] at F
      have hs4i := of_decide_eq_true hs4
      refine wp_cond_true (F.ev rfl) ?_
      refine wp_skip ?_
      refine nxq ?_
      refine wp_seq ?_
      refine wp_block ?_
      refine wp_region_lit ?_
      refine sq_pure F (wt0 rfl) (pu_move rfl (F.ev rfl)) rfl rfl ?_; clear F; intro φ F
      refine sq_pure F (wt0 rfl) (pu_move rfl (F.ev rfl)) rfl rfl ?_; clear F; intro φ F
      refine sq_pure F (wt0 rfl) (pu_quo rfl (F.ev rfl) (evk) (by omega) (by omega) (by omega)) rfl rfl ?_; clear F; intro φ F
      refine sq_pure F (wt0 rfl) (pu_ixA rfl (F.ev rfl) (F.ev rfl) ar39 (by omega) (by omega)) rfl rfl ?_; clear F; intro φ F
      refine sq_rd F (wt0 rfl) (ld_cell rfl (F.ev rfl) one38 (M.rd (i := 2) rfl) (U64_at (by rw [stAt_len]; omega))) rfl rfl ?_; clear F; intro φ F
      refine sq_pure F (wt0 rfl) (pu_move rfl (F.ev rfl)) rfl rfl ?_; clear F; intro φ F
      refine sq_pure F (wt0 rfl) (pu_rem rfl (F.ev rfl) (evk) (by omega) (by omega) (by omega)) rfl rfl ?_; clear F; intro φ F
      refine sq_pure F (wt0 rfl) (pu_mul rfl (F.ev rfl) (evk) (by omega) (by omega)) rfl rfl ?_; clear F; intro φ F
      refine sq_pure F (wt0 rfl) (pu_sub rfl (evk) (F.ev rfl) (by omega) (by omega)) rfl rfl ?_; clear F; intro φ F
      refine sq_pure F (wt0 rfl) (pu_shr64 rfl (F.ev rfl) (F.ev rfl) (by have := (stAt_lt l i).at (0 + (j / 4).toNat * 1); omega) (by omega) (by omega)) rfl rfl ?_; clear F; intro φ F
      refine sq_pure F (wt0 rfl) (pu_cv8 rfl (F.ev rfl)) rfl rfl ?_; clear F; intro φ F
      refine sq_pure F (wt0 rfl) (pu_ixA rfl (F.ev rfl) (F.ev rfl) ar24 (by omega) (by omega)) rfl rfl ?_; clear F; intro φ F
      refine sq_stC F M (wt0 rfl) rfl (F.ev rfl) (F.ev rfl) (i := 0) rfl (by rw [B8_size, pad_length (by simp; omega)]; omega) (by kernel_rfl) rfl rfl rfl ?_; clear M; intro ω M
      refine wpList_nil ?_
      refine nxb ?_
      refine nxq ?_
      refine wp_region_lit ?_
      refine sq_pure F (wt0 rfl) (pu_move rfl (F.ev rfl)) rfl rfl ?_; clear F; intro φ F
      refine sq_pure F (wt0 rfl) (pu_add rfl (F.ev rfl) (evk) (by omega) (by omega)) rfl rfl ?_; clear F; intro φ F
      refine sq_pure F (wt0 rfl) (pu_assign rfl (F.ev rfl)) rfl rfl ?_; clear F; intro φ F
      refine wpList_nil ?_
      exact ⟨j + 1, by omega, ((((F.nil.cons (F.get (k := 7) rfl)).cons (F.get (k := 6) rfl)).cons (F.get (k := 3) rfl)).cons (F.get (k := 2) rfl)), (by rw [out_step hp3_0 (by omega)]; exact M), by omega, by omega⟩
  · rw [hs2] at F
    have hs2i := of_decide_eq_true hs2; have hstep := step_le hp1_2 hs2i
    refine wp_cond_true (F.ev rfl) ?_
    refine wp_skip ?_
    refine nxq ?_
    refine wp_seq ?_
    refine wp_block ?_
    refine rg_heads0 F M 7 [.val (.agg (U64 (stAt l i))), .val (v1), .val (.int .i64 i), .val (.int .i64 i), .val (.int .i64 (i + 64)), .val (subS 1 i.toNat (i + 64).toNat v1), .val (.agg (U64 (absorbN (stAt l i) (chk l i))))] rfl mixedOK (by kernel_rfl) rfl rfl ⟨?_, ?_, ?_, ?_, ?_, ?_, ?_, trivial⟩ ?_
    · intro φ1 ω1 hb F1 hdep hold; have F := (F1.cons (F.was hold (s := 3) rfl rfl)); have M := M.below hb; exact ob_rd (wt0 rfl) (ld_agg rfl (F.ev rfl) agg39 (M.rd (i := 1) rfl) (by rw [U64_size, stAt_len])) rfl
    · intro φ1 ω1 hb F1 hdep hold; have F := (F1.cons (F.was hold (s := 4) rfl rfl)); have M := M.below hb; exact ob_rd (wt0 rfl) (Pure.rdy (pu_move rfl (F.ev rfl))) rfl
    · intro φ1 ω1 hb F1 hdep hold; have F := (F1.cons (F.was hold (s := 5) rfl rfl)); have M := M.below hb; exact ob_rd (wt0 rfl) (Pure.rdy (pu_move rfl (F.ev rfl))) rfl
    · intro φ1 ω1 hb F1 hdep hold; have F := (F1.cons (F.was hold (s := 5) rfl rfl)); have M := M.below hb; exact ob_rd (wt0 rfl) (Pure.rdy (pu_move rfl (F.ev rfl))) rfl
    · intro φ1 ω1 hb F1 hdep hold; have F := (F1.cons (F1.dep hdep 3 (by kernel_rfl) rfl rfl rfl)); have M := M.below hb; exact ob_rd (wt0 rfl) (Pure.rdy (pu_add rfl (F.ev rfl) (evk) (by omega) (by omega))) rfl
    · intro φ1 ω1 hb F1 hdep hold; have F := (((F1.cons (F1.dep hdep 1 (by kernel_rfl) rfl rfl rfl)).cons (F1.dep hdep 2 (by kernel_rfl) rfl rfl rfl)).cons (F1.dep hdep 4 (by kernel_rfl) rfl rfl rfl)); have M := M.below hb; exact ob_rd (wt0 rfl) (Pure.rdy (pu_slice2 rfl (F.ev rfl) (F.ev rfl) (F.ev rfl) sl22 (M.rv (i := 0) rfl) (by omega) (by omega) (by omega))) rfl
    · intro φ1 ω1 hb F1 hdep hold; have F := ((F1.cons (F1.dep hdep 0 (by kernel_rfl) rfl rfl rfl)).cons (F1.dep hdep 5 (by kernel_rfl) rfl rfl rfl)); have M := M.below hb; exact ob_call (wt0 rfl) rfl en20 (evc (F.ev rfl) (evc (F.ev rfl) evn)) (rblock_rd (stAt l i) (chk l i) _ _ (stAt_len l i) (stAt_lt l i) (chk_len hp1_0 hp1_2 hs2i) (chk_lt hl' i) (chk_rd hp1_0 hp1_2 hs2i (M.rv (i := 0) rfl))) rfl
    clear F M; intro φ ω F M
    simp only [headL, List.take_succ_cons, List.take_zero, HV.value] at F
    refine sq_stA F M (wt0 rfl) rfl (F.ev rfl) (F.ev rfl) (i := 1) rfl agg39 (by rw [U64_size, stAt_len]) (by rw [U64_size]; rfl) (U64_ones _) rfl ?_; clear M; intro ω M
    refine wpList_nil ?_
    refine nxb ?_
    refine nxq ?_
    refine wp_region_lit ?_
    refine sq_pure F (wt0 rfl) (pu_move rfl (F.ev rfl)) rfl rfl ?_; clear F; intro φ F
    refine sq_pure F (wt0 rfl) (pu_add rfl (F.ev rfl) (evk) (by omega) (by omega)) rfl rfl ?_; clear F; intro φ F
    refine sq_pure F (wt0 rfl) (pu_assign rfl (F.ev rfl)) rfl rfl ?_; clear F; intro φ F
    refine wpList_nil ?_
    exact ⟨i + 64, by have := step_le hp1_2 hs2i; omega, ((((F.nil.cons (F.get (k := 5) rfl)).cons (F.get (k := 4) rfl)).cons (F.get (k := 3) rfl)).cons (F.get (k := 2) rfl)), (by rw [stAt_succ hp1_0]; exact M), by omega, step_le hp1_2 hs2i, by omega⟩
end Go.Proofs.Ytjelhljgeinodaa.Hs
