/- Bytes and strings: what they are, and the operations on them. Any seat. -/
import Derived.Test.YtcnkakahhekobaaMq
import Derived.Test.YtcnkakahhekobaaEn
import Derived.Lib.AppendStr
import Derived.Lib.ConvBytes
import Derived.Laws.IdiomStrings
namespace Go.Proofs.Ytcnkakahhekobaa
open Go.RowKit
set_option maxRecDepth 100000
set_option linter.unusedSimpArgs false
set_option linter.unusedVariables false

theorem Fr.re {a : Act} {n d : Nat} {v v' : Value} {L : List (Nat × Value)} (F : Fr a n ((d, v) :: L)) (h : v = v') : Fr a n ((d, v') :: L) := h ▸ F
/-! ### Bytes -/
def u8 (b : UInt8) : Int := (b.toNat : Int)
def byteU (n : Int) : UInt8 := UInt8.ofNat (n % 256).toNat
theorem u8_lt (b : UInt8) : 0 ≤ u8 b ∧ u8 b < 256 := ⟨Int.natCast_nonneg _, by have := b.toNat_lt; unfold u8; omega⟩
theorem u8_byte (n : Int) : u8 (byteU n) = n % 256 := by
  unfold u8 byteU
  rw [UInt8.toNat_ofNat']
  omega
theorem u8_inj {a b : UInt8} (h : u8 a = u8 b) : a = b := by
  unfold u8 at h
  exact UInt8.toNat_inj.1 (by omega)
theorem byte_u8 (b : UInt8) : byteU (u8 b) = b := u8_inj (by have := u8_lt b; rw [u8_byte]; omega)
theorem wrap8 (n : Int) : IntKind.u8.wrap n = u8 (byteU n) := by
  rw [u8_byte]
  simp [IntKind.wrap, IntKind.signed, IntKind.bits]
def encU : Enc UInt8 := ⟨1, fun b => [.int .u8 (u8 b)], 0, fun _ => rfl, fun a v h => by
  simp only [List.mem_cons, List.not_mem_nil, or_false] at h; subst h; rfl⟩
def cU (L : List UInt8) : List Value := cE encU L
def atU (L : List UInt8) (i : Nat) : UInt8 := atE encU L i
theorem cU_at {L : List UInt8} {i : Nat} (h : i < L.length) : (cU L)[i * 1]? = some (.int .u8 (u8 (atU L i))) := by
  have h1 := cE_at (E := encU) h
  have h2 : ((cU L).drop (i * 1)).take 1 = [.int .u8 (u8 (atU L i))] := h1
  have h3 : (((cU L).drop (i * 1)).take 1)[0]? = some (.int .u8 (u8 (atU L i))) := by rw [h2]; rfl
  rw [List.getElem?_take] at h3
  simpa using h3
theorem cU_app (L K : List UInt8) : cU (L ++ K) = cU L ++ cU K := cE_app L K
theorem cU_ones (L : List UInt8) : ∀ z ∈ cU L, z.oneCell' = true := cE_ones L
theorem cU_len (L : List UInt8) : (cU L).length = L.length := by unfold cU; rw [cE_len]; show L.length * 1 = _; omega
theorem cU_map : ∀ L : List UInt8, cU L = L.map fun b => .int .u8 (u8 b)
  | [] => rfl
  | b :: r => by
    show Value.int .u8 (u8 b) :: cU r = _
    rw [cU_map r]; rfl
theorem atU_eq {L : List UInt8} {i : Nat} (h : i < L.length) : atU L i = L[i] := atE_eq h
abbrev RdU (w : World) (v : Value) (L : List UInt8) : Prop := RdV w 1 v L.length (cU L)
/-! ### Strings -/
def strV (L : List UInt8) : Value := .string ⟨L.toArray⟩
theorem str_list (L : List UInt8) : (ByteArray.mk L.toArray).toList = L := by rw [ByteArray.toList_eq]
theorem str_size (L : List UInt8) : (ByteArray.mk L.toArray).size = L.length := by show L.toArray.size = _; simp
theorem str_cells (L : List UInt8) : Lib.strCells ⟨L.toArray⟩ = cU L := by
  rw [cU_map]; rfl
section
variable {P : Program} {o : Oper} {a : Act} {x y : Operand} {v : Value} {src dst t t' e : TypeId} {n : Int} {b : UInt8} {A B : List UInt8} {C : World → Prop}
theorem pu_cvt8 (ho : o.op = .convert src dst x) (hx : a.eval x = .int .i64 n) (hs : (P.underlying src).isSome = true) (hd : P.underlying dst = some (.int .u8)) : Pure P o a (.int .u8 (u8 (byteU n))) := fun w => by
  have hk : P.intKind dst = .u8 := by simp [Program.intKind, hd]
  have := run_convert_int (P := P) w src dst .i64 n hs (by rw [hk]; exact hd)
  rw [hk, wrap8] at this
  simp only [execOp, ho, hx, Sem.run_bind, this, Result.andThen_ok, Sem.run_pure]
theorem pu_cvt64 (ho : o.op = .convert src dst x) (hx : a.eval x = .int .u8 n) (hs : (P.underlying src).isSome = true) (hd : P.underlying dst = some (.int .i64)) (h0 : 0 ≤ n) (h1 : n < 256) : Pure P o a (.int .i64 n) := fun w => by
  have hk : P.intKind dst = .i64 := by simp [Program.intKind, hd]
  have := run_convert_int (P := P) w src dst .u8 n hs (by rw [hk]; exact hd)
  rw [hk] at this
  have hw : IntKind.i64.wrap n = n := by simp [IntKind.wrap, IntKind.signed, IntKind.bits]; omega
  rw [hw] at this
  simp only [execOp, ho, hx, Sem.run_bind, this, Result.andThen_ok, Sem.run_pure]
theorem pu_ixN {kd : IntKind} {m n' : Nat} {w : World} {xs : List Value} (q : Nat) (ho : o.op = .indexAddr t x y) (hx : a.eval x = v) (hy : a.eval y = .int kd n) (hT : SlTy P t e m) (hv : RdV w m v n' xs) (hi : n = (q : Int)) (hl : q < n') : Pure P o a (.pointer (some ⟨gof v, oof v + q * m, none⟩)) := by
  have h := pu_ix ho hx hy hT hv (by omega) (by omega)
  rwa [show n.toNat = q by omega] at h
theorem pu_shr {k : Nat} {q : Int} (ho : o.op = .binOp .shr t x y t') (hx : a.eval x = .int .i64 n) (hy : a.eval y = .int .u64 (k : Int)) (hk : k ≤ 63) (hq : q = n / 2 ^ k) : Pure P o a (.int .i64 q) := fun w => by
  subst hq
  simp only [execOp, ho, hx, hy]
  have h0 : ¬ ((k : Int) < 0) := by omega
  have h1 : min ((k : Int)).toNat IntKind.i64.bits = k := by simp [IntKind.bits]; omega
  simp [go_sem, binOp, Op.shift, h0, h1, Int.fdiv_eq_ediv_of_nonneg]
theorem pu_lenS (ho : o.op = .call { callee := .builtin .len, args := #[x], argTypes := #[t] }) (hx : a.eval x = strV A) (ht : P.underlying t = some .string) : Pure P o a (.int .i64 ((A.length : Nat) : Int)) := fun w => by
  simp only [execOp, ho, resolve, invoke, builtin, Sem.run_bind, Sem.run_pure, Result.andThen_ok, List.map_toArray, List.map_cons, List.map_nil, hx]
  have hz := str_size A
  simp only [strV, Builtin.len_, Sem.run_bind]
  simp [run_underlying ht, hz, goInt]
theorem pu_eqlS (ho : o.op = .binOp .eql t x y t') (hx : a.eval x = strV A) (hy : a.eval y = strV B) : Pure P o a (.bool (decide (A = B))) := fun w => by
  simp only [execOp, ho, hx, hy, strV]
  have : ((ByteArray.mk A.toArray).toList == (ByteArray.mk B.toArray).toList) = decide (A = B) := by
    rw [str_list, str_list, Bool.eq_iff_iff, beq_iff_eq, decide_eq_true_iff]
  simp [go_sem, this]
  rw [Bool.eq_iff_iff, beq_iff_eq, decide_eq_true_iff]
theorem pu_neqS (ho : o.op = .binOp .neq t x y t') (hx : a.eval x = strV A) (hy : a.eval y = strV B) : Pure P o a (.bool (!decide (A = B))) := fun w => by
  simp only [execOp, ho, hx, hy, strV]
  have : ((ByteArray.mk A.toArray).toList == (ByteArray.mk B.toArray).toList) = decide (A = B) := by
    rw [str_list, str_list, Bool.eq_iff_iff, beq_iff_eq, decide_eq_true_iff]
  simp [go_sem, this]
  rw [Bool.eq_iff_iff, beq_iff_eq, decide_eq_true_iff]
theorem pu_addS (ho : o.op = .binOp .add t x y t') (hx : a.eval x = strV A) (hy : a.eval y = strV B) (hA : A.length ≤ 4000000000) (hB : B.length ≤ 4000000000) : Pure P o a (strV (A ++ B)) := fun w => by
  simp only [execOp, ho, hx, hy, strV]
  have h := run_string_add_sum (P := P) (w := w) (ByteArray.mk A.toArray) (ByteArray.mk B.toArray) (by rw [str_size, str_size]; omega)
  have e : (ByteArray.mk A.toArray) ++ (ByteArray.mk B.toArray) = ByteArray.mk (A ++ B).toArray := by
    apply ByteArray.ext
    rw [ByteArray.data_append]; simp
  rw [e] at h
  simp [go_sem]
  rw [if_neg (by omega), e]
theorem ld_str {m : Nat} (ho : o.op = .convert src dst x) (hx : a.eval x = v) (hs : P.underlying src = some (.slice e)) (he : P.underlying e = some (.int .u8)) (hd : P.underlying dst = some .string) (hr : ∀ w, C w → RdV w 1 v m (cU A)) (hl : A.length = m) : Rdy P o a C (strV A) := fun w hC => by
  subst hl
  obtain ⟨_, ad, c, rfl, h1, h2, h3⟩ := hr w hC
  simp only [execOp, ho, hx]
  rcases Nat.eq_zero_or_pos A.length with h0 | h0
  · have hA : A = [] := List.eq_nil_of_length_eq_zero h0
    subst hA
    have hc : (convert src dst (.slice ad 0 c)).run P w = .ok (.string ⟨#[]⟩) w := by
      rw [run_convert_bytes_string w src dst e ad 0 c hs he hd]
      cases ad with
      | none => simp [Conv.bytesToString]; rfl
      | some q =>
        have := run_bytesToString (P := P) w q 0 c [] (run_loadCells_list (P := P) w q [] (fun j v hj => by simp at hj))
        rw [this]; rfl
    simp only [List.length_nil, Sem.run_bind, hc, Result.andThen_ok, Sem.run_pure, strV]
  · obtain ⟨g, off, rfl, h4, h5⟩ := h3 h0
    have hc := run_convert_bytes_back (P := P) w src dst e ⟨g, off, none⟩ c A hs he hd (fun j hj => by
      rw [addr_add]
      refine h5 j _ ?_
      have := cU_at hj
      rw [Nat.mul_one] at this
      rw [this, atU_eq hj]; rfl)
    simp only [Sem.run_bind, hc, Result.andThen_ok, Sem.run_pure, strV]
end
section
variable {P : Program} {ops rest : List Oper} {o : Oper} {a : Act} {n d : Nat} {L : List (Nat × Value)} {Q : Exit → Act → World → Prop} {R : List Nat} {w w0 : World} {B : List Ent} {v u : Value} {x y : Operand} {t e ty src dst : TypeId} {i g k m : Nat} {A : List UInt8} {xs : List Value}
/-- []byte(s): new bytes, to be read. -/
theorem sq_bytes (F : Fr a n L) (M : Mm R w0 w B) (hw : Region.wanted o (yielded ops.toArray a.tmps) = true) (ho : o.op = .convert src dst x) (hx : a.eval x = strV A) (hs : P.underlying src = some .string) (hdt : P.underlying dst = some (.slice e)) (he : P.underlying e = some (.int .u8)) (hlen : A.length ≤ 1000000000)
    (hd : o.dst = some d) (hdn : Nat.blt d n = true) (h : ∀ a' w' v', Fr a' n ((d, v') :: L) → Mm R w0 w' (.got 1 v' A.length (cU A) :: B) → wpList P ops.toArray Q rest a' w') : wpList P ops.toArray Q (o :: rest) a w := by
  have hr := Lib.run_convert_string_bytes (P := P) w src dst e ⟨A.toArray⟩ hs hdt he
  rw [str_size] at hr
  have hbel : Below w.heap.size w (Lib.bytesWorld w e ⟨A.toArray⟩) := ⟨rfl, rfl, rfl, by rw [Lib.bytesWorld_size]; omega, fun j hj => Lib.bytesWorld_at_old _ _ _ _ hj⟩
  have hge : A.length ≤ grownCap w A.length 0 e := grownCap_ge w A.length 0 e
  have hcm : grownCap w A.length 0 e ≤ maxLen := grownCap_le_maxLen w A.length 0 e (by unfold maxLen; omega)
  have hrd : RdV (Lib.bytesWorld w e ⟨A.toArray⟩) 1 (.slice (some ⟨w.heap.size, 0, none⟩) A.length (grownCap w A.length 0 e)) A.length (cU A) :=
    ⟨by rw [cU_len, Nat.mul_one], _, _, rfl, hge, hcm, fun _ => ⟨w.heap.size, 0, rfl, by rw [Lib.bytesWorld_size]; omega, fun j u hj => by
      have hj' : j < A.length := by rw [← cU_len]; exact (List.getElem?_eq_some_iff.1 hj).1
      rw [Nat.zero_add, Lib.bytesWorld_cell _ _ _ _ (by rw [str_size]; exact hj')]
      have := cU_at hj'
      rw [Nat.mul_one, hj] at this
      rw [this, atU_eq hj']
      simp [List.getD_eq_getElem?_getD, List.getElem?_eq_getElem hj', u8]⟩⟩
  exact sq_run F hw (v := .slice (some ⟨w.heap.size, 0, none⟩) A.length (grownCap w A.length 0 e)) (by simp only [execOp, ho, hx, strV, Sem.run_bind, hr, Result.andThen_ok, Sem.run_pure]) (M.addGot hbel hrd (fun _ => Nat.le_refl _)) hd hdn (fun a' w' F' M' => h a' w' _ F' M')
/-- append(b, s...), s a string. -/
theorem appStr_run (M : Mm R w0 w B) (ho : o.op = .call { callee := .builtin .append, args := #[x, y], argTypes := #[t, ty] }) (ht : P.underlying t = some (.slice e)) (hty : P.underlying ty = some .string) (hE : (P.info? e).map (fun i => (i.zero, i.size, i.bytes)) = some (some (.int .u8 0), 1, 1))
    (hx : a.eval x = v) (hi : B[i]? = some (.row e 1 v k xs)) (hy : a.eval y = strV A) (hmax : k + A.length ≤ 140737488355328) :
    ∃ v' w', (execOp a.eval o).run P w = .ok (.value v') w' ∧ Mm R w0 w' (B.set i (.row e 1 v' (k + A.length) (xs ++ cU A))) := by
  have hown : w.ownsRow 0 e 1 v k xs := M.get hi
  cases hq : P.info? e with
  | none => simp [hq] at hE
  | some inf =>
    simp only [hq, Option.map_some, Option.some.injEq, Prod.mk.injEq] at hE
    obtain ⟨hz, hs1, hb1⟩ := hE
    have hsz := str_size A
    have hrun : ∃ v' w', (Builtin.append_ #[t, ty] o.type #[v, .string ⟨A.toArray⟩]).run P w = .ok v' w' ∧ w'.ownsRow 0 e 1 v' (k + A.length) (xs ++ cU A) ∧ w.grownBy w' v.ownBlock ∧ (∀ g, v'.ownBlock = some g → v.ownBlock = some g ∨ w.heap.size ≤ g) := by
      rcases hown.2 with ⟨rfl, rfl⟩ | ⟨g, cap, cur, rfl, hbg, hg, hnc, hcm, hcs, htake⟩
      · obtain ⟨v', w', h1, h2, h3, _⟩ := Lib.run_append_own_string (P := P) w w.heap.size t ty o.type e inf ht hty hq hz hs1 hb1 (.slice none 0 0) 0 xs (by
          have hx0 : xs = [] := List.eq_nil_of_length_eq_zero (by have := hown.1; omega)
          subst hx0; exact World.ownsRow_nil _ _ _ _) ⟨A.toArray⟩ (by rw [hsz]; unfold maxLen; omega) (by rw [hsz]; omega) (Nat.le_refl _)
        rw [hsz, str_cells] at h2
        exact ⟨v', w', h1, own_zero h2, h3, fun g hg => .inr (World.ownsRow.lt h2 g hg).1⟩
      · obtain ⟨v', w', h1, h2, h3, _⟩ := Lib.run_append_own_string (P := P) w 0 t ty o.type e inf ht hty hq hz hs1 hb1 (.slice (some ⟨g, 0, none⟩) k cap) k xs hown ⟨A.toArray⟩ (by rw [hsz]; unfold maxLen; omega) (by rw [hsz]; omega) (Nat.zero_le _)
        rw [hsz, str_cells] at h2
        refine ⟨v', w', h1, h2, h3, fun g' hg' => ?_⟩
        have hxl : xs.length = k := by have := hown.1; omega
        by_cases hroom : k + A.length ≤ cap
        · have hr := Lib.run_append_room_string (P := P) w t ty o.type e inf ht hty hq hs1 g k cap cur hg ⟨A.toArray⟩ (by rw [hsz]; exact hroom) (by rw [hsz]; omega)
          rw [h1] at hr
          injection hr with hr _
          subst hr
          exact .inl hg'
        · have holds : ∀ j u, xs[j]? = some u → w.cell? ((⟨g, 0, none⟩ : Addr).add j) = some u := hown.cells (g := g) rfl
          have hr := Lib.run_append_grow_string (P := P) w t ty o.type e inf (.int .u8 0) ht hty hq hz ⟨g, 0, none⟩ k cap xs (by rw [hs1]; omega) holds ⟨A.toArray⟩ (by rw [hsz]; omega) (by rw [hsz]; omega) (by rw [hb1, hsz]; exact growslice_fits (by omega) (by omega))
          rw [h1] at hr
          injection hr with hr _
          subst hr
          simp only [Value.ownBlock] at hg'
          injection hg' with hg'
          exact .inr (by omega)
    obtain ⟨v', w', hr, h2, h3, h5⟩ := hrun
    have hexec : (execOp a.eval o).run P w = .ok (.value v') w' := by
      simp only [execOp, ho, resolve, invoke, builtin, Sem.run_bind, Sem.run_pure, Result.andThen_ok, List.map_toArray, List.map_cons, List.map_nil, hx, hy, strV, hr]
    refine ⟨v', w', hexec, M.swap hi (x' := .row e 1 v' (k + A.length) (xs ++ cU A)) (Out.of_grown h3) h2 (fun g hg => ?_) (fun g hg => by cases hg)⟩
    simp only [Ent.fp] at hg ⊢
    rcases h5 g (by simpa using hg) with h6 | h6
    · exact .inl (by simp [h6])
    · exact .inr h6
theorem sq_appStr (F : Fr a n L) (M : Mm R w0 w B) (hw : Region.wanted o (yielded ops.toArray a.tmps) = true) (ho : o.op = .call { callee := .builtin .append, args := #[x, y], argTypes := #[t, ty] }) (ht : P.underlying t = some (.slice e)) (hty : P.underlying ty = some .string) (hE : (P.info? e).map (fun i => (i.zero, i.size, i.bytes)) = some (some (.int .u8 0), 1, 1))
    (hx : a.eval x = v) (hi : B[i]? = some (.row e 1 v k xs)) (hy : a.eval y = strV A) (hmax : k + A.length ≤ 140737488355328) (hd : o.dst = some d) (hdn : Nat.blt d n = true)
    (h : ∀ a' w' v', Fr a' n ((d, v') :: L) → Mm R w0 w' (B.set i (.row e 1 v' (k + A.length) (xs ++ cU A))) → wpList P ops.toArray Q rest a' w') : wpList P ops.toArray Q (o :: rest) a w := by
  obtain ⟨v', w', hexec, hM⟩ := appStr_run M ho ht hty hE hx hi hy hmax
  exact sq_run F hw hexec hM hd hdn (fun a' w' F' M' => h a' w' v' F' M')
end
end Go.Proofs.Ytcnkakahhekobaa
